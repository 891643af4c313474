import PyProof.Rows.All
import Wide.All
import OpenK.AllK
import Wide.FinOn
import PyProof.ReprRoads
import HandS.ForMost
import HandS.ForExc
import HandS.IsInst
import HandS.Walk
import HandS.Flow
import HandS.RaiseMore

import HandS.ClsMeth
import HandS.Property
import HandS.SlotsOwn
import HandS.FStr
import HandS.TupAny
import HandS.Codes
import KE.KCallOwn
import KE.GoesMore
import KE.GoesEnum
import KE.DatumOrd
import HandS.SortInts
import HandS.Defaults

import HandS.ExcInit
import HandS.ExcValue
import HandS.ExcField
import HandS.ExcIs
import HandS.TryMany

import HandS.Style
import HandS.DeepEq
import HandS.Star
import HandS.ClsMeth
import HandS.Codes
import HandS.MakeKw
import HandS.MakeKwOnly
import PyProof.ReprRoads
import PySem.Challenge.RW_parcelindex_k03_versions_read_and_writte
set_option Elab.async false
set_option maxRecDepth 100000
set_option maxHeartbeats 4000000

/-! ## Calls with the stack's repr marks known to be none: a def's promise, its body's rule, calls, the end -/
namespace Pk
open PySem PySem.Spec PyProof.Rows L2

/-- a def keeps its promise wherever no repr runs around it -/
structure FnG (P : Program) (w : World) (K : PySem.W.Frag) (mg : Str → Option Value) (base : Heap) (k : Nat) (f : Addr) (fd : FuncData) (ps : List Str) (sp : Sp) : Prop where
  lenG : ∀ vs H Q E, sp vs H Q E → vs.length = ps.length
  runG : ∀ (A : Around) (outer : List Env) (s : Shared) (H : Hp) (args : Args) (us : List Value) (vs : List V) (Q : VK),
    A.guards = some [] → Room k A → Env0 P w K mg base A outer s H →
    BindsTo s fd args (ps.zip us) → Vals vs us → sp vs H Q E0 →
    codeAny (model P w) A (.call (.ref f) args) (CR CX0 outer P w H s Q E0) s

section
variable {P : Program} {w : World} {K : PySem.W.Frag} {mg : Str → Option Value} {base : Heap}
theorem FnG.of {k : Nat} {f : Addr} {fd : FuncData} {ps : List Str} {sp : Sp} (F : FnOk P w K mg base CX0 k f fd ps sp) : FnG P w K mg base k f fd ps sp :=
  ⟨F.len, fun A outer s H args us vs Q _ h1 h2 h3 h4 h5 => F.run A outer s H args us vs Q E0 h1 h2 h3 h4 h5⟩

/-- the rule for a def's body, with the marks known -/
theorem fnG_of {x qual : Str} {st : Stmt} {f : Addr} {fd : FuncData} {N ps : List Str} {k : Nat} {sp : Sp} (F : Fun K x qual st f fd)
    (S : FnScope N ps (defScope st)) (len : ∀ vs H Q E, sp vs H Q E → vs.length = ps.length)
    (hbody : ∀ (cdv : Value) (A : Around) (outer : List Env) (s : Shared) (H : Hp) (vs : List V) (Q : VK),
      A.guards = some [] → Room k (A.deeper (envOfC qual (defScope st) s.heap.objs.size f cdv)) → sp vs H Q E0 →
      ∃ t, PSs (cxOf CX0 P w K mg base N qual (defScope st) f cdv A outer s H E0).nox (defBody st) t ∧
        t { nx := fun _ H' => Q .non H', rt := Q } (start N vs) H) :
    FnG P w K mg base (k + 1) f fd ps sp := by
  obtain ⟨oc, od, kV, doc, pm, an, cdv, ct, osl, rfl, lk, hcd⟩ := F.ex
  refine ⟨len, ?_⟩
  intro A outer s H args us vs Q hg hr e0 hb r hsp
  have hlen := len _ _ _ _ hsp
  have inK : K.In s.heap := e0.mod.kin.keeps (fun b o e => (e0.bs b o e).1)
  have nolim : s.heap.NoLimit := e0.mod.nolimit.keeps (fun b o e => (e0.bs b o e).1)
  have hk : ∀ y ∈ ps.zip us, (defScope st).names.lookup y.1 = some .local ∨ ((defScope st).names.lookup y.1 = some .cell ∧
      ((cellsFrom (s.heap.objs.size + 1) (defScope st).names []).lookup y.1).isSome = true) := by
    rintro ⟨n, v⟩ hy
    rcases S.par n (List.of_mem_zip hy).1 with q | q
    · exact Or.inl q
    · exact Or.inr ⟨q, PySem.W.cellsFrom_some _ _ _ (Or.inl q)⟩
  refine codeAny_call_function hr.depth (inK _ _ lk) rfl S.co S.gen rfl (PySem.W.codeRec_of inK hcd) (hb _ _ _ _ ?_)
  refine wpAny_newFunctionEnv_cells S.kind hk ?_
  intro env he s1 x
  subst he
  refine ⟨nolim.keeps x.toInCall.keep, codeAny_func ?_⟩
  obtain ⟨t, ht0, hq⟩ := hbody cdv A outer s H vs Q hg (hr.deeper _) hsp
  have ht := ht0.nox
  have J0 : Inv (cxOf CX0 P w K mg base N qual (defScope st) f cdv A outer s H E0) [] (start N vs) H s1 := inv_start S hr.hd e0 hlen r x
  have fin : ∀ {σ' : L2.St} {H' : Hp} {s' : Shared} {v : V} {u : Value},
      Inv (cxOf CX0 P w K mg base N qual (defScope st) f cdv A outer s H E0) [] σ' H' s' → RelV v u → Q v H' → CE outer P w H s Q u s' :=
    fun {σ' H' s' v u} J rv q => ⟨v, H', J.os, J.bare, J.base, J.hok, rv, q⟩
  refine wpAny_mono (ht.run [] s1 (start N vs) H _ J0 hq) ?_ (fun e s' hs => hs)
  rintro (_ | _ | _ | u) s' hs
  · obtain ⟨σ', H', J, q⟩ := hs
    exact fin (v := V.non) (u := Value.none) J rfl q
  · obtain ⟨_, _, _, q⟩ := hs
    exact q.elim
  · obtain ⟨_, _, _, q⟩ := hs
    exact q.elim
  · obtain ⟨v, σ', H', J, rv, q⟩ := hs
    exact fin J rv q
end

section
variable {X : Cx} {k : Nat} {f : Addr} {fd : FuncData} {ps ks : List Str} {sp : Sp} {x : Str} {p pos : Pos} {e : Expr} {es : List Expr} {t tk : TA} {kws : List Keyword}
theorem run_g {pins : List (Addr × Obj)} {σ : L2.St} {H : Hp} {s : Shared} {Q : VK} {args : Args} {us : List Value} {vs : List V}
    (F : FnG X.prog X.w X.K X.mg X.base k f fd ps sp) (hg : X.A.guards = some []) (hr : Room k X.A)
    (hb : BindsTo s fd args (ps.zip us)) (I : Inv X pins σ H s) (r : Vals vs us) (h : sp vs H Q E0) :
    codeAny (model X.prog X.w) X.A (.call (.ref f) args) (fun r s' => match r with | .ok (.ret v) => EP X pins σ Q v s' | .ok _ => False | .error e => X.xe e s') s := by
  refine codeAny_mono (F.runG X.A X.stack s H args us vs Q hg hr I.env0 hb r h) ?_
  rintro (e | fl) s' hq
  · exact (show False from hq).elim
  · cases fl with
    | ret u => exact I.after hq
    | next => exact (show False from hq).elim
    | brk => exact (show False from hq).elim
    | cont => exact (show False from hq).elim
/-- f(..), the parameters all given by position -/
theorem pe_callG (F : FnG X.prog X.w X.K X.mg X.base k f fd ps sp) (hgu : X.A.guards = some []) (hr : Room k X.A) (hg : Gl X x) (hm : X.mg x = some (.ref f))
    (hk : PySem.W.keepIn X.K (.ref f) = true) (hb : Binds X.K fd ps []) (ha : PA X (e :: es) t) (hdb : (x == ("__debug__" : Str)) = false := by decide)
    (he : starEach (e :: es) X.env = (false, eval e X.env) :: starEach es X.env := by rfl)
    (hpl : (backTo pos (starEach es X.env)).any (·.1) = false := by rfl) :
    PE X (.Call (.Name x p) (e :: es) [] pos) (tCall sp [] E0 t) := by
  constructor
  intro pins s σ H Q I h
  refine wpAny_Call_Name_kw (ld_glob I hg hm ?_ hdb)
  refine PySem.W.callWith_K (h₀ := X.base) I.ok.mod.kin hk (thn (ha.run pos pins s σ H _ I h) ?_) he hpl
  intro us s1 ⟨vs, H1, I1, r, q⟩
  have q' : sp vs H1 Q E0 := by
    have q0 : sp (vs ++ []) H1 Q E0 := q
    rw [List.append_nil] at q0
    exact q0
  have hl : (us ++ []).length = ps.length := by rw [List.append_nil, ← r.length]; exact F.lenG _ _ _ _ q'
  refine ⟨I1.kIn, wpAny_call (run_g F hgu hr ?_ I1 r q')⟩
  have hb1 := hb s1 us I1.kIn hl
  rw [List.append_nil] at hb1
  exact hb1
theorem pe_callG0 (F : FnG X.prog X.w X.K X.mg X.base k f fd ps sp) (hgu : X.A.guards = some []) (hr : Room k X.A) (hg : Gl X x) (hm : X.mg x = some (.ref f))
    (hk : PySem.W.keepIn X.K (.ref f) = true) (hb : Binds X.K fd ps []) (hdb : (x == ("__debug__" : Str)) = false := by decide) :
    PE X (.Call (.Name x p) [] [] pos) (tCall sp [] E0 tNil) := by
  constructor
  intro pins s σ H Q I h
  refine wpAny_Call_Name_kw (ld_glob I hg hm ?_ hdb)
  refine PySem.W.callWith_K0 I.kIn hk ?_
  have q' : sp [] H Q E0 := h
  have hl : (([] : List Value) ++ []).length = ps.length := by rw [List.append_nil]; exact F.lenG _ _ _ _ q'
  exact wpAny_call (run_g F hgu hr (hb s [] I.kIn hl) I .nil q')
/-- how keywords alone bind: the values are put in the parameters' order by pm -/
structure KB (K : PySem.W.Frag) (fd : FuncData) (ps ks : List Str) : Prop where
  toK : ∀ (s : Shared) (ws : List Value), K.In s.heap → ws.length = ps.length → BindsTo s fd ⟨[], ks.zip ws⟩ (ps.zip ws)
/-- f(k = v, ..), the keywords in the parameters' order -/
theorem pe_kwG (F : FnG X.prog X.w X.K X.mg X.base k f fd ps sp) (hgu : X.A.guards = some []) (hr : Room k X.A) (hg : Gl X x) (hm : X.mg x = some (.ref f))
    (hk : PySem.W.keepIn X.K (.ref f) = true) (hb : KB X.K fd ps ks) (hkw : PK X kws tk) (hall : (backToKw pos (keywordEach kws X.env)).all (·.1.isSome) = true := by rfl)
    (hks : (backToKw pos (keywordEach kws X.env)).filterMap (·.1) = ks := by rfl) (hdb : (x == ("__debug__" : Str)) = false := by decide)
    (hpl : ((backTo pos (starEach [] X.env)).any (·.1) || (backToKw pos (keywordEach kws X.env)).any (·.1.isNone)) = false := by rfl) :
    PE X (.Call (.Name x p) [] kws pos) (tCall sp [] E0 tk) := by
  constructor
  intro pins s σ H Q I h
  refine wpAny_Call_Name_kw (ld_glob I hg hm ?_ hdb)
  refine PySem.W.callWith_KW0 (h₀ := X.base) I.ok.mod.kin hk hall (thn (hkw.run pos pins s σ H _ I h) ?_) hpl
  intro ws s1 ⟨zs, H1, I1, r, q⟩
  have q' : sp zs H1 Q E0 := by
    have q0 : sp (zs ++ []) H1 Q E0 := q
    rw [List.append_nil] at q0
    exact q0
  rw [hks]
  exact ⟨I1.kIn, wpAny_call (run_g F hgu hr (hb.toK s1 ws I1.kIn (by rw [← r.length]; exact F.lenG _ _ _ _ q')) I1 r q')⟩
end

/-! ### repr of data -/
section
variable {X : Cx}
def rRepr (K : PySem.W.Frag) : List V → Hp → VK → Prop := fun xs H Q => ∃ x d, xs = [x] ∧ Dp K H x d ∧ d.showable = true ∧ d.hasDict = false ∧ d.depth ≤ 60 ∧ d.shown.length ≤ sizeLine ∧ Q (.str d.shown) H
theorem call_repr (hgu : X.A.guards = some []) (hu : X.A.units + 64 < cLine) : CallR X (.builtin "repr") (rRepr X.K) := by
  intro pins s σ H xs us Q I r h
  obtain ⟨x, d, rfl, hd, hs, hnd, hdp, hz, q⟩ := h
  obtain ⟨u, rfl, rx⟩ := vals1 r
  have hsm : ∀ as : List Addr, d.hasDict = true → sysModules ∉ as := fun as e => by
    rw [hnd] at e
    cases e
  obtain ⟨as, rd⟩ := Dp.reads I d x u hd rx
  cases hd with
  | non =>
    obtain rfl : u = Value.none := rx
    exact PySem.P.repr_of_none ⟨.str _, H, I.tok _, ⟨_, rfl⟩, q⟩
  | bl b =>
    obtain rfl : u = Value.bool b := rx
    exact PySem.P.repr_of_bool ⟨.str _, H, I.tok _, ⟨_, rfl⟩, by simpa only [PyData.shown] using q⟩
  | int i =>
    obtain ⟨t, rfl⟩ := rx
    exact PySem.P.repr_of_int (by simpa [PyData.showable] using hs) ⟨.str _, H, I.tok _, ⟨_, rfl⟩, by simpa only [PyData.shown] using q⟩
  | str y =>
    obtain ⟨t, rfl⟩ := rx
    exact PySem.P.repr_of_str ⟨.str _, H, I.tok _, ⟨_, rfl⟩, by simpa only [PyData.shown] using q⟩ (by simpa only [PyData.shown] using hz)
  | lst =>
    rename_i a _ _ _ _
    obtain rfl : u = Value.ref a := rx
    exact repr_of_reads' (h₀ := s.heap) rd hs (hsm as) hgu (by omega) (fun _ _ e => e) (fun h' v tk hk => ⟨.str _, H, I.kept hk, ⟨v, rfl⟩, q⟩) hz
  | tup =>
    rename_i a _ _ _ _
    obtain rfl : u = Value.ref a := rx
    exact repr_of_reads' (h₀ := s.heap) rd hs (hsm as) hgu (by omega) (fun _ _ e => e) (fun h' v tk hk => ⟨.str _, H, I.kept hk, ⟨v, rfl⟩, q⟩) hz
end

/-! ### the script + a list -/
/-- a list that stands with no dict and no slots of its own -/
def Bare (K : PySem.W.Frag) (H : Hp) (a : Addr) (xs : List V) : Prop :=
  (∃ (us : List Value) (n : Nat), H a = some (.frz { cls := .type "list", data := .seq us.toArray n } (.lst xs))) ∨
  (∃ (us : List Value) (n : Nat), K.lookup a = some { cls := .type "list", data := .seq us.toArray n } ∧ Vals xs us)
theorem Bare.seq {K : PySem.W.Frag} {H : Hp} {a : Addr} {xs : List V} (hz : xs.length ≤ sizeLine) (h : Bare K H a xs) : SqL K H a xs := by
  rcases h with ⟨us, n, e⟩ | ⟨us, n, e, r⟩
  · exact .inl (.inr ⟨_, e⟩)
  · refine .inr ⟨_, us.toArray, n, e, rfl, rfl, rfl, ?_, by simpa using r⟩
    rw [List.size_toArray, ← r.length]
    exact hz
theorem Bare.keep {K : PySem.W.Frag} {H H' : Hp} {a : Addr} {xs : List V} (h : Bare K H a xs) (e : Same H H') : Bare K H' a xs := by
  rcases h with ⟨us, n, q⟩ | h
  · exact .inl ⟨us, n, e _ _ q⟩
  · exact .inr h
section
variable {X : Cx}
def rCatS (K : PySem.W.Frag) : R2 := fun x y H Q => ∃ l b xs zs, x = .ref l ∧ y = .ref b ∧ Bare K H l xs ∧ H b = some (.lst zs) ∧ xs.length + zs.length ≤ sizeLine ∧
  ∀ p, H p = none → Q (.ref p) (upd H p (.lst (xs ++ zs)))
theorem op_catS : OpR X (binaryOp .Add) (rCatS X.K) := by
  intro pins s σ H x y v u Q I rx ry h
  obtain ⟨l, b, xs, zs, rfl, rfl, hl, hb, hz, q⟩ := h
  obtain rfl : v = Value.ref l := rx
  obtain rfl : u = Value.ref b := ry
  obtain ⟨z2, its2, n2, r2, hl2, e2⟩ := I.lstM hb
  have hfin : ∀ (its : List Value) (n : Nat), Vals xs its → s.heap.get? l = some { cls := .type "list", data := .seq its.toArray n } →
      wpAny (model X.prog X.w) X.A (binaryOp .Add (.ref l) (.ref b)) (EP X pins σ Q) X.xe s := by
    intro its n r e
    have hln := r.length
    refine PySem.P.add_list e e2 ?_ (by rw [List.size_toArray, List.size_toArray]; omega)
    rw [show its.toArray ++ its2.toArray = (its ++ its2).toArray by simp]
    exact ⟨.ref _, _, I.lnew (t' := s.toks) (r.append r2) (by rw [List.length_append]; exact hz), rfl, q _ I.fresh⟩
  rcases hl with ⟨us, n, e⟩ | ⟨us, n, e, r⟩
  · obtain ⟨e1, _, its, m, r, e3⟩ := I.hok l _ e
    rw [e1] at e3
    cases e3
    exact hfin _ _ r e1
  · exact hfin us n r (I.kIn l _ e)
end

/-! ### the end -/
/-- the law's own head, with the marks known and the script told to be bare -/
theorem enterG {P : Program} {w : World} {K : PySem.W.Frag} {mg mb : Str → Option Value} {k : Nat} {fa a : Addr} {fd : FuncData} {x : Str} {sp : Sp} {s₁ : Shared} {vs : List Value} {ns : List Int}
    (KX : K.In s₁.heap) (hns : s₁.heap.Ns mainGlobals mg) (hb : s₁.heap.Ns builtinsNs mb) (hbb : ∀ x : Str, x ≠ "__name__" → mb x = bootBuiltins x)
    (hlim : s₁.heap.NoLimit) (hg : s₁.gens = #[]) (ha : s₁.heap.get? a = some { cls := .type "list", data := .seq vs.toArray })
    (hi : IntsAre vs ns) (hl : ns.length ≤ sizeLine) (hr : Room k callerA)
    (F : ∀ base : Heap, K.In base → base.Ns mainGlobals mg → FnG P w K mg base k fa fd [x] sp)
    (hbind : ∀ (s : Shared) (u : Value), BindsTo s fd ⟨[u], []⟩ [(x, u)])
    (hsp : ∀ H : Hp, Bare K H a (ns.map V.int) → sp [.ref a] H (fun v _ => v = .bl true) E0) :
    codeAny (model P w) callerA (.call (.ref fa) ⟨[.ref a], []⟩)
      (fun r s' => r = .ok (.ret (.bool true)) ∧ OldK s₁.heap s'.heap ∧ s'.os = s₁.os ∧ AllBare s'.gens) s₁ := by
  have rv := vals_ints hi
  have nV := hi.length
  have core : ∀ H : Hp, Only H → Bare K H a (ns.map V.int) → HOk P w H s₁.heap → (∀ b, H b ≠ none → b = a) → (H a ≠ none → K.lookup a = none) →
      codeAny (model P w) callerA (.call (.ref fa) ⟨[.ref a], []⟩)
        (fun r s' => r = .ok (.ret (.bool true)) ∧ OldK s₁.heap s'.heap ∧ s'.os = s₁.os ∧ AllBare s'.gens) s₁ := by
    intro H hO hS hok hA hK
    have only_a : ∀ {b : Addr} {u : HO}, H b = some u → b = a := fun {b u} q => hA b (by rw [q]; simp)
    have un : ∀ {b : Addr} {o : Obj} {es : Array DictEntry} {ep : Nat}, s₁.heap.get? b = some o → o.data = .dict es ep → H b = none := by
      intro b o es ep e d
      cases q : H b with
      | none => rfl
      | some u =>
        have e' := only_a q
        rw [e', ha] at e
        cases e
        exact nomatch (show Data.seq vs.toArray _ = Data.dict es ep from d)
    have nsB : ∀ {b : Addr} {m : Str → Option Value}, s₁.heap.Ns b m → (hidT s₁.heap H).Ns b m :=
      fun {b m} ⟨o, es, ep, e, d, r⟩ => ⟨o, es, ep, hidT_get e (un e d), d, r⟩
    have inB : K.In (hidT s₁.heap H) := by
      intro b o e
      refine hidT_get (KX b o e) ?_
      cases q : H b with
      | none => rfl
      | some u =>
        have e' := only_a q
        rw [e', hK (by rw [← e', q]; simp)] at e
        cases e
    have md : Mod K mg (hidT s₁.heap H) := ⟨inB, nsB hns, ⟨mb, nsB hb, hbb⟩, let ⟨mc, h1, h2⟩ := hlim; ⟨mc, nsB h1, h2⟩⟩
    have e0 : Env0 P w K mg (hidT s₁.heap H) callerA [] s₁ H :=
      ⟨rfl, md, fun b o e => of_hidT e, Nat.le_of_eq (hidT_size _ _), trivial, fun b z => absurd (show b ∈ ([] : List Addr) from z) (by simp), hok, .of_eq hg⟩
    refine codeAny_mono ((F _ inB (nsB hns)).runG callerA [] s₁ H ⟨[.ref a], []⟩ [.ref a] [.ref a] _ rfl hr e0 (hbind s₁ (.ref a)) (.cons rfl .nil) (hsp H hS)) ?_
    rintro (e | fl) s' h
    · exact (show False from h).elim
    · cases fl with
      | next => exact (show False from h).elim
      | brk => exact (show False from h).elim
      | cont => exact (show False from h).elim
      | ret u =>
        obtain ⟨v, H', os, bare, uu, hok', r', q⟩ := h
        obtain rfl : v = .bl true := q
        obtain rfl : u = Value.bool true := r'
        refine ⟨rfl, OldK.of_keep ?_, os, bare⟩
        intro b o e
        cases q : H b with
        | none => exact uu.keep b o e q (fun z => absurd (show b ∈ ([] : List Addr) from z) (by simp)) (by simp)
        | some u =>
          rcases hO b with z | ⟨ob, xs, z⟩
          · rw [q] at z
            cases z
          · obtain ⟨e1, _⟩ := hok b _ z
            obtain ⟨e2, _⟩ := hok' b _ (uu.frzs b ob _ z)
            rw [e] at e1
            cases e1
            exact e2
  cases hk : K.lookup a with
  | some o =>
    have e := KX a o hk
    rw [ha] at e
    cases e
    exact core (fun _ => none) (fun _ => .inl rfl) (.inr ⟨vs, 0, hk, rv⟩) (fun b u z => nomatch (show (none : Option HO) = some u from z)) (fun b z => absurd rfl z) (fun z => absurd rfl z)
  | none =>
    have hat : ∀ b u, (if b = a then some (HO.frz { cls := .type "list", data := .seq vs.toArray } (.lst (ns.map V.int))) else none) = some u →
        b = a ∧ u = HO.frz { cls := .type "list", data := .seq vs.toArray } (.lst (ns.map V.int)) := by
      intro b u z
      by_cases hb : b = a
      · rw [if_pos hb] at z
        exact ⟨hb, (Option.some.inj z).symm⟩
      · rw [if_neg hb] at z
        cases z
    refine core (fun b => if b = a then some (.frz { cls := .type "list", data := .seq vs.toArray } (.lst (ns.map V.int))) else none) ?_ (.inl ⟨vs, 0, if_pos rfl⟩) ?_ ?_ (fun _ => hk)
    · intro b
      by_cases hb : b = a
      · exact .inr ⟨_, _, if_pos hb⟩
      · exact .inl (if_neg hb)
    · intro b u z
      obtain ⟨rfl, rfl⟩ := hat b u z
      exact ⟨ha, by rw [List.length_map]; exact hl, vs, _, rv, ha⟩
    · intro b z
      cases q : (if b = a then some (HO.frz { cls := .type "list", data := .seq vs.toArray } (.lst (ns.map V.int))) else none) with
      | none => exact absurd q z
      | some u => exact (hat b u q).1

/-- what the last theorem takes -/
theorem walkG {l : PySem.W.OpenLaw} {k : Nat} {q : Program} {loose : List Str} {XP : (Str → Option Value) → Heap → Prop} {YP : World → Heap → Prop} {d : DefRec} {K : Params → PySem.W.Frag} {sp : PySem.W.Frag → Sp} {x : Str}
    (hn : l.most = some 63) (hdf : d.params.defaults = []) (hr : Room k callerA) (hY : ∀ (w : World) (h : Heap), YP w h → (K w.params).In h)
    (F : ∀ (w : World) (mg : Str → Option Value) (fa : Addr) (h : Heap), (K w.params).In h → h.Ns mainGlobals mg → mg d.name = some (.ref fa) →
      ∃ fd : FuncData, (∀ (s : Shared) (u : Value), BindsTo s fd ⟨[u], []⟩ [(x, u)]) ∧
        ∀ base : Heap, (K w.params).In base → base.Ns mainGlobals mg → FnG l.prog w (K w.params) mg base k fa fd [x] (sp (K w.params)))
    (hsp : ∀ (K : PySem.W.Frag) (H : Hp) (a : Addr) (ns : List Int), ns.length ≤ 63 → Bare K H a (ns.map V.int) → sp K [.ref a] H (fun v _ => v = .bl true) E0) :
    PySem.W.WalkO q loose XP YP l.row.toRowW d [] (fun f vs => PySem.call f vs) := by
  refine Att.attach_call hn hdf ?_
  intro w s₀ s₁ mg mb fa o pm cd doc a vs ns G Y ho hd hcd hmg hobj hints hlen hg
  have KX := hY w _ Y
  obtain ⟨fd, hb, hF⟩ := F w mg fa _ KX G.T.g hmg
  exact enterG KX G.T.g G.T.b G.T.builtins G.T.nolimit hg hobj hints (Nat.le_trans hlen (by decide)) hr hF hb (fun H hS => hsp (K w.params) H a ns hlen hS)
end Pk

/-! ## Comprehensions whose element has a value that the heap does not change -/
namespace Pk
open PySem PySem.Spec PyProof.Rows L2
theorem posI {j : Int} (h : decide (0 < j) = true) : 0 < j := of_decide_eq_true h
theorem one_more {α : Type} {xs : List α} {i : Nat} {a : α} (h : xs[i]? = some a) : xs.take (i + 1) = xs.take i ++ [a] := by
  rw [List.take_add_one, h]
  rfl
theorem same_upd {H1 H : Hp} {D : Addr} {o : HO} (s : Same H1 H) (hD : H1 D = none) : Same H1 (upd H D o) := fun b u e => by
  rw [upd_ne (ne_of_none e hD)]
  exact s b u e
theorem same_new {H : Hp} {p : Addr} {o : HO} (h : H p = none) : Same H (upd H p o) := same_upd (Same.refl H) h
theorem lc_map {α : Type} {J : It} {n : Nat} {G : Hp → Prop} {Y : Nat → Hp → V → Hp → Prop} (w : Walk J n G Y) (xs : List α) (emb : α → V) (hn : n = xs.length)
    (hY : ∀ i H x H', Y i H x H' → H' = H ∧ ∃ a, xs[i]? = some a ∧ x = emb a)
    {g : TG} {tt : TT} {te : TE} {vs : List Nat} {σ : L2.St} {H1 : Hp} {D : Addr} {Qd : Hp → Prop} (p : α → Bool) (f : α → V) (hD : H1 D = none) (hz : n < sizeLine) (hG : ∀ H, Same H1 H → G H)
    (hs : ∀ a, a ∈ xs → ∀ (H : Hp) (R : VK) (S : Hp → Prop), Same H1 H → (p a = true → ∀ H', Same H H' → R (f a) H') → (p a = false → ∀ H', Same H H' → S H') →
      g (emb a) (wipe σ vs) H fun σ2 H2 => wipe σ2 vs = wipe σ vs ∧ tt σ2 H2 fun b H3 => if b = true then te σ2 H3 R else S H3)
    (hd : ∀ H, Same H1 H → H D = some (.lst ((xs.filter p).map f)) → Qd H) :
    ∃ W : Nat → Nat → Hp → Prop, (∃ m, W 0 m (upd H1 D (.lst []))) ∧ ∀ i m H, W i m H →
      (J.stop i H ∧ Qd H) ∨ (J.go i H ∧ ∃ Nx : Hp → Prop, (∀ H', Nx H' → ∃ m', m' < m ∧ W (i + 1) m' H') ∧
        ∀ x H', J.yld i H x H' → g x (wipe σ vs) H' fun σ2 H2 => wipe σ2 vs = wipe σ vs ∧ tt σ2 H2 fun b H3 =>
          if b = true then te σ2 H3 fun y H4 => ∃ acc, H4 D = some (.lst acc) ∧ acc.length < sizeLine ∧ Nx (upd H4 D (.lst (acc ++ [y]))) else Nx H3) := by
  refine lc_it w (fun i H => Same H1 H ∧ H D = some (.lst (((xs.take i).filter p).map f))) ⟨same_new hD, by rw [upd_same]; rfl⟩ (fun i H _ h => hG H h.1) ?_ ?_
  · rintro i x H H' hi ⟨s, hl⟩ y
    obtain ⟨rfl, a, ha, rfl⟩ := hY _ _ _ _ y
    have hlen : (((xs.take i).filter p).map f).length < sizeLine := by
      refine Nat.lt_of_le_of_lt ?_ hz
      rw [List.length_map]
      refine Nat.le_trans (List.length_filter_le _ _) ?_
      rw [List.length_take]
      omega
    refine hs a (List.mem_of_getElem? ha) H' _ _ s (fun hp H4 s4 => ?_) (fun hp H4 s4 => ?_)
    · refine ⟨_, s4 _ _ hl, hlen, same_upd (s.trans s4) hD, ?_⟩
      rw [upd_same, one_more ha, List.filter_append, List.map_append]
      simp [hp]
    · refine ⟨s.trans s4, ?_⟩
      rw [s4 _ _ hl, one_more ha, List.filter_append, List.map_append]
      simp [hp]
  · rintro H ⟨s, hl⟩
    refine hd H s ?_
    rw [hl, hn, List.take_length]
/-- over a text -/
theorem lc_txt {z : Str} {g : TG} {tt : TT} {te : TE} {vs : List Nat} {σ : L2.St} {H1 : Hp} {D : Addr} {Qd : Hp → Prop} (p : Nat → Bool) (f : Nat → V) (hD : H1 D = none) (hz : z.length < sizeLine)
    (hs : ∀ c, c ∈ z.cps.toList → ∀ (H : Hp) (R : VK) (S : Hp → Prop), Same H1 H → (p c = true → ∀ H', Same H H' → R (f c) H') → (p c = false → ∀ H', Same H H' → S H') →
      g (.str ⟨#[c]⟩) (wipe σ vs) H fun σ2 H2 => wipe σ2 vs = wipe σ vs ∧ tt σ2 H2 fun b H3 => if b = true then te σ2 H3 R else S H3)
    (hd : ∀ H, Same H1 H → H D = some (.lst ((z.cps.toList.filter p).map f)) → Qd H) :
    ∃ W : Nat → Nat → Hp → Prop, (∃ m, W 0 m (upd H1 D (.lst []))) ∧ ∀ i m H, W i m H →
      ((Its z).stop i H ∧ Qd H) ∨ ((Its z).go i H ∧ ∃ Nx : Hp → Prop, (∀ H', Nx H' → ∃ m', m' < m ∧ W (i + 1) m' H') ∧
        ∀ x H', (Its z).yld i H x H' → g x (wipe σ vs) H' fun σ2 H2 => wipe σ2 vs = wipe σ vs ∧ tt σ2 H2 fun b H3 =>
          if b = true then te σ2 H3 fun y H4 => ∃ acc, H4 D = some (.lst acc) ∧ acc.length < sizeLine ∧ Nx (upd H4 D (.lst (acc ++ [y]))) else Nx H3) :=
  lc_map (walk_str (z := z)) z.cps.toList (fun c => .str ⟨#[c]⟩) (by simp) (fun i H x H' ⟨e, c, h1, h2⟩ => ⟨e, c, by simpa using h1, h2⟩) p f hD hz (fun _ _ => trivial) hs hd
/-- over a list -/
theorem lc_lst {α : Type} {K : PySem.W.Frag} {a : Addr} (xs : List α) (emb : α → V) {g : TG} {tt : TT} {te : TE} {vs : List Nat} {σ : L2.St} {H1 : Hp} {D : Addr} {Qd : Hp → Prop} (p : α → Bool) (f : α → V) (hD : H1 D = none) (hz : xs.length < sizeLine)
    (ha : SqL K H1 a (xs.map emb))
    (hs : ∀ c, c ∈ xs → ∀ (H : Hp) (R : VK) (S : Hp → Prop), Same H1 H → (p c = true → ∀ H', Same H H' → R (f c) H') → (p c = false → ∀ H', Same H H' → S H') →
      g (emb c) (wipe σ vs) H fun σ2 H2 => wipe σ2 vs = wipe σ vs ∧ tt σ2 H2 fun b H3 => if b = true then te σ2 H3 R else S H3)
    (hd : ∀ H, Same H1 H → H D = some (.lst ((xs.filter p).map f)) → Qd H) :
    ∃ W : Nat → Nat → Hp → Prop, (∃ m, W 0 m (upd H1 D (.lst []))) ∧ ∀ i m H, W i m H →
      ((Itl K a).stop i H ∧ Qd H) ∨ ((Itl K a).go i H ∧ ∃ Nx : Hp → Prop, (∀ H', Nx H' → ∃ m', m' < m ∧ W (i + 1) m' H') ∧
        ∀ x H', (Itl K a).yld i H x H' → g x (wipe σ vs) H' fun σ2 H2 => wipe σ2 vs = wipe σ vs ∧ tt σ2 H2 fun b H3 =>
          if b = true then te σ2 H3 fun y H4 => ∃ acc, H4 D = some (.lst acc) ∧ acc.length < sizeLine ∧ Nx (upd H4 D (.lst (acc ++ [y]))) else Nx H3) :=
  lc_map (walk_list (K := K) (a := a) (xs := xs.map emb)) xs emb (by simp)
    (fun i H x H' ⟨e, h⟩ => ⟨e, by
      rw [List.getElem?_map] at h
      cases q : xs[i]? with
      | none =>
        rw [q] at h
        cases h
      | some c =>
        rw [q] at h
        exact ⟨c, rfl, (Option.some.inj h).symm⟩⟩) p f hD (by simpa using hz) (fun H s => s.seq ha) hs hd
end Pk

/-! ## Operators, str and construction of instances with a dict; enumerate over a tuple -/
namespace Pk
open PySem PySem.Spec PyProof.Rows L2
open SlX (cmpback)
section
variable {X : Cx} {k n : Nat} {f C g : Addr} {fd : FuncData} {ps : List Str} {sp : Sp} {E : XK} {CX : CXT}
/-- x op y, both instances of the class at C, whose def for op is at g -/
def rOwnD (C : Addr) (sp : Sp) (E : XK) : R2 := fun x y H Q => ∃ a dx fs b dy gs, x = .ref a ∧ y = .ref b ∧ H a = some (.ins C dx fs) ∧ H b = some (.ins C dy gs) ∧ sp [x, y] H Q E
theorem op_ownD {op : CmpOp} (hop : ∀ a b, compareOp op a b = richCompare op a b) (hs : PySem.W.findIn X.K (.ref C) (cmpInfo op).2.1 = some (some (.ref g)))
    (hf : PySem.W.isFn X.K (.ref g) = true) (hn : PySem.W.notFirst X.K C (.ref C) = true) (F : FnR X.prog X.w X.K X.mg X.base CX n g sp) (hr : Room n X.A) (hx : Passes CX X E) : OpR X (compareOp op) (rOwnD C sp E) := by
  intro pins s σ H x y v u Q I rx ry h
  obtain ⟨a, dx, fs, b, dy, gs, rfl, rfl, ha, hb, q⟩ := h
  obtain rfl : v = Value.ref a := rx
  obtain rfl : u = Value.ref b := ry
  obtain ⟨mA, O, _⟩ := ins_get I.hok ha
  obtain ⟨od, J, _⟩ := O.look
  obtain ⟨mB, O', _⟩ := ins_get I.hok hb
  obtain ⟨od', J', _⟩ := O'.look
  obtain ⟨m, hF⟩ := I.fr
  rw [hop]
  refine PySem.W.cmp_K (op := op) (tb := .ref C) hr.units0 hF I.ok.mod.kin J J'.type hn hs hf (wpAny_mono (wpAny_call (run_fnR (us := [.ref a, .ref b]) (vs := [.ref a, .ref b]) F hr hx I (.cons rfl (.cons rfl .nil)) q)) ?_ (fun _ _ x => x))
  rintro w s' ⟨z', H', I', rz, qz⟩
  exact cmpback rz ⟨z', H', I', rz, qz⟩
/-- str(x) of an instance -/
def rStrD (C : Addr) (sp : Sp) (E : XK) : List V → Hp → VK → Prop := fun xs H Q => ∃ a dx fs, xs = [.ref a] ∧ H a = some (.ins C dx fs) ∧ sp [.ref a] H (fun z H' => ∃ t, z = .str t ∧ Q z H') E
theorem call_strD (hs : PySem.W.findIn X.K (.ref C) "__str__" = some (some (.ref g))) (hf : PySem.W.isFn X.K (.ref g) = true) (F : FnR X.prog X.w X.K X.mg X.base CX n g sp) (hr : Room (n + 2) X.A) (hx : Passes CX X E) :
    CallR X (.type "str") (rStrD C sp E) := by
  intro pins s σ H xs us Q I r h
  obtain ⟨a, dx, fs, rfl, ha, q⟩ := h
  obtain ⟨u, rfl, ru⟩ := vals1 r
  obtain rfl : u = Value.ref a := ru
  obtain ⟨mA, O, _⟩ := ins_get I.hok ha
  obtain ⟨od, J, _⟩ := O.look
  have hr1 : Room (n + 1) X.A.in1 := Room.in1 hr
  have hr2 : Room n X.A.in1.in1 := hr1.in1
  refine PySem.W.kso_call hr2.units0 I.kIn J hs hf (wpAny_mono (wpAny_call (SlX.run_at (us := [.ref a]) (ws := [.ref a]) F hr2 I.env0.in1.in1 hx I (.cons rfl .nil) q)) ?_ (fun _ _ x => x))
  rintro w s' ⟨z', H', I', rz, t, rfl, qz⟩
  obtain ⟨tk, rfl⟩ := (show ∃ t', w = Value.str t t' from rz)
  exact ⟨.str t, H', I', ⟨tk, rfl⟩, qz⟩
/-- c(..), c a local name that holds the class at C -/
theorem pe_makeL {i : Nat} {x : Str} {p pos : Pos} {e : Expr} {es : List Expr} {t : TA} (M : Mk X.K C f) (F : FnOk X.prog X.w X.K X.mg X.base CX k f fd ps sp) (hr : Room (k + 1) X.A) (hN : X.N[i]? = some x) (hv : Vis X.env.scope x)
    (hb : Binds X.K fd ps []) (hx : Passes CX X E) (ha : PA X (e :: es) t) (hd : (x == ("__debug__" : Str)) = false := by decide) (hcd : (x == ("__classdict__" : Str)) = false := by decide)
    (he : starEach (e :: es) X.env = (false, eval e X.env) :: starEach es X.env := by rfl) (hpl : (backTo pos (starEach es X.env)).any (·.1) = false := by rfl) :
    PE X (.Call (.Name x p) (e :: es) [] pos) (fun σ H Q => σ[i]? = some (some (.ref C)) ∧ tMake C sp [] E t σ H Q) := by
  constructor
  intro pins s σ H Q I h
  obtain ⟨h1, h2⟩ := h
  refine wpAny_Call_Name_kw (thn ((pe_var hN hv hd hcd).run pins s σ H (fun v H' => v = .ref C ∧ H' = H) I ⟨.ref C, h1, rfl, rfl⟩) ?_)
  rintro u s1 ⟨v, H1, I1, rv, rfl, rfl⟩
  obtain rfl : u = Value.ref C := rv
  refine PySem.W.callWith_K (h₀ := X.base) I1.ok.mod.kin M.kp (thn (ha.run pos pins s1 σ H1 _ I1 h2) ?_) he hpl
  intro us s2 ⟨vs, H2, I2, r, q⟩
  exact ⟨I2.kIn, run_make M F hr hb .nil hx I2 r q⟩
end

/-! ### enumerate over a tuple -/
/-- the tuple at a, each item in a new pair -/
def ItT (K : PySem.W.Frag) (a : Addr) : It :=
  ⟨fun i H => ∃ (xs : List V) (x : V), SqT K H a xs ∧ xs[i]? = some x,
   fun i H v H' => ∃ T x, v = .ref T ∧ H T = none ∧ H' = upd H T (.tup [.int (i : Nat), x]) ∧ ∀ xs, SqT K H a xs → xs[i]? = some x,
   fun i H => ∃ xs : List V, SqT K H a xs ∧ xs.length = i⟩
theorem turn_enT {P : Program} {w : World} {K : PySem.W.Frag} {elts : List Expr} {kk : Nat} {tpos : Pos} (a e it : Addr) :
    Turn P w K (.Tuple elts kk tpos) (ItT K a) [e, it] e (fun i h => (∃ old, IsEnum h e it ((i : Nat) : Int) old) ∧ h.IsTupleIter it a i ∧ e ≠ it ∧ a ≠ it ∧ e ≠ a) where
  mem := by simp
  obj := by
    rintro i h ⟨⟨old, he⟩, ⟨o, ho, hc, hd⟩, _⟩ b hb
    rcases (show b = e ∨ b = it by simpa using hb) with rfl | rfl
    · exact ⟨_, he, fun v q => nomatch q⟩
    · exact ⟨o, ho, fun v q => by rw [hd] at q; cases q⟩
  keep := by
    rintro i h h' ⟨⟨old, he⟩, hi, hne⟩ k
    exact ⟨⟨old, k e (by simp) _ he⟩, hi.at fun o q => k it (by simp) o q, hne⟩
  item := by
    intro X hP hw hK hc i pins s σ H E I hf st hg
    subst hP hw hK
    obtain ⟨⟨old, he⟩, hit, hne, hai, hea⟩ := st
    obtain ⟨xs, x, hq, hx⟩ := hg
    obtain ⟨its, rv, ht, hz⟩ := I.tuple hq
    obtain ⟨u, hu, ru⟩ := rv.get hx
    have hlt : i < its.toArray.size := by
      have h1 := (List.getElem?_eq_some_iff.mp hu).1
      simpa using h1
    have hel : e < s.heap.objs.size := Heap.lt_size he
    have hil : it < s.heap.objs.size := by
      obtain ⟨_, q, _⟩ := hit
      exact Heap.lt_size q
    have D := Draws.tuple (prog := X.prog) (w := X.w) (A := X.A.in1) (I.ok.hd hc) it a hai its.toArray
    refine wpAny_pyNext_enum_itemD D he ⟨hit, ht⟩ hlt hne (by simp [hne, hea]) ?_
    intro y h' tk hy ho hst hT hsz hk
    obtain rfl : u = y := by
      have h1 : its[i]? = some y := by simpa using hy
      rw [hu] at h1
      exact Option.some.inj h1
    refine ⟨_, rfl, wpAny_letOwnedTupleGo_enum (s := { s with heap := h', toks := tk + 1 }) ho ?_⟩
    intro h'' he' sb
    have hT2 := (sb.2 _ (Nat.ne_of_gt hel)).trans hT
    have new : ObjOk X.prog X.w (upd H s.heap.objs.size (.tup [.int (i : Nat), x])) h'' s.heap.objs.size (.tup [.int (i : Nat), x]) :=
      ⟨by show 2 ≤ sizeLine; decide, [.int i tk, u], .cons ⟨_, rfl⟩ (.cons ru .nil), ⟨_, hT2, rfl, _, rfl⟩⟩
    have hk2 : ∀ b ob, b ∉ [e, it] → s.heap.get? b = some ob → h''.get? b = some ob := by
      intro b ob hb q
      have n1 : b ≠ e := fun z => hb (by simp [z])
      have n2 : b ≠ it := fun z => hb (by simp [z])
      exact (sb.2 b n1).trans (hk b ob n1 n2 q)
    have I1 : Inv X pins σ (upd H s.heap.objs.size (.tup [.int (i : Nat), x])) { s with heap := h'', toks := tk + 1 } :=
      I.turnedNew (ch := [e, it]) hk2 hf (Nat.le_refl _) new
    refine ⟨.ref s.heap.objs.size, _, I1, rfl, ⟨_, x, rfl, I.fresh, rfl, ?_⟩, ⟨⟨u, ?_⟩, hst.1.at (fun o q => (sb.2 it (Ne.symm hne)).trans q), hne, hai, hea⟩, ?_⟩
    · intro ys hys
      rw [I.tuple_inj hys hq]
      exact hx
    · rw [show ((i + 1 : Nat) : Int) = (i : Int) + 1 by omega]
      exact he'
    · intro b hb
      have hb' : b < s.heap.objs.size := by
        rcases (show b = e ∨ b = it by simpa using hb) with rfl | rfl
        · exact hel
        · exact hil
      rw [upd_ne (Nat.ne_of_lt hb')]
      exact (hf b hb).1
  done := by
    intro X hP hw hK hc i pins s σ H E I hf st hg
    subst hP hw hK
    obtain ⟨⟨old, he⟩, hit, hne, hai, hea⟩ := st
    obtain ⟨xs, hq, hx⟩ := hg
    obtain ⟨its, rv, ht, hz⟩ := I.tuple hq
    obtain ⟨f0, f1, f2, f3, f4, f5⟩ := hf it (by simp)
    have hln := rv.length
    have D := Draws.tuple (prog := X.prog) (w := X.w) (A := X.A.in1) (I.ok.hd hc) it a hai its.toArray
    have ei : i = its.toArray.size := by
      rw [List.size_toArray, ← hln]
      exact hx.symm
    rw [ei] at hit
    refine wpAny_pyNext_enum_endD D he ⟨hit, ht⟩ ?_
    intro h' eb
    exact ⟨rfl, I.turned (t' := s.toks) (fun b o hb q => eb b o hb q) f0 f1 f3 f4 f5⟩
  self := by
    rintro A i s Q E ⟨⟨_, he⟩, _⟩ h
    exact wpAny_pyIter_enum he h
/-- the making of enumerate(v), v told by what its iterator is -/
theorem new_enum {v : Value} {o : Obj} {W : Heap → Prop} (B : Begins v o W) :
    Meets (Builtin.«enumerate.__new__» ⟨[.type "enumerate", v], []⟩) (fun _ R s => W s.heap ∧ R (.ok (.ret (.ref (s.heap.push o).objs.size)))
      { s with heap := (s.heap.push o).push { cls := .type "enumerate", data := .fields #[.none, .bool false, .ref s.heap.objs.size, rawInt 0, .none, .none] } }) := by
  refine .of_wp ?_
  rintro prog w A R ⟨hp, g, d, tk, os⟩ ⟨h1, h⟩
  have hsub := sub_enumerate
  have q1 : ∀ {A' : Around} {E : Value → Shared → Prop} {Q : Value → Shared → Prop}, Q (.ref hp.objs.size) ⟨hp.push o, g, d, tk, os⟩ → wpAny (model prog w) A' (pyIter v) Q E ⟨hp, g, d, tk, os⟩ := by
    intro A' E Q q
    exact B.iter prog w _ _ ⟨hp, g, d, tk, os⟩ _ h1 q
  wp_walk using q1
  refine wpAny_stack_any (fun st => wpAny_pure ?_)
  split
  · rename_i c _ _ _ _ _
    cases (c == Value.type "enumerate") <;> (wp_walk using q1; exact ⟨_, rfl, h⟩)
  · wp_walk using q1
    exact ⟨_, rfl, h⟩
theorem call_enum {prog : Program} {w : World} {A : Around} {E : Value → Shared → Prop} {s : Shared} {v : Value} {o : Obj} {W : Heap → Prop} {Q : Value → Shared → Prop} (B : Begins v o W) (h1 : W s.heap)
    (h : ∀ h', IsEnum h' (s.heap.objs.size + 1) s.heap.objs.size 0 .none → h'.get? s.heap.objs.size = some o → (∀ b o, s.heap.get? b = some o → h'.get? b = some o) →
      Q (.ref (s.heap.objs.size + 1)) { s with heap := h' }) : wpAny (model prog w) A (call (.type "enumerate") [v]) Q E s := by
  refine callType_new F.called_enumerate (by decide) (F.typeCall_enumerate_1 _) (F.newCall_enumerate_1 _) (fun obj => F.args_object_init_2 obj _) F.entry_enumerate_new (new_enum B) ⟨h1, ?_⟩
  have hz : (s.heap.push o).objs.size = s.heap.objs.size + 1 := Heap.size_push ..
  show _ ∧ _
  rw [hz]
  have he : IsEnum ((s.heap.push o).push { cls := .type "enumerate", data := .fields #[.none, .bool false, .ref s.heap.objs.size, rawInt 0, .none, .none] }) (s.heap.objs.size + 1) s.heap.objs.size 0 .none := by
    have e1 := Heap.get?_push_size (s.heap.push o) (o := { cls := .type "enumerate", data := .fields #[.none, .bool false, .ref s.heap.objs.size, rawInt 0, .none, .none] }) rfl
    rw [hz] at e1
    exact e1
  exact ⟨⟨_, he, rfl⟩, h _ he (Heap.get?_push_of_some _ (Heap.get?_push_size _ B.free)) (fun b o x => Heap.get?_push_of_some _ (Heap.get?_push_of_some _ x))⟩
def iEnT (K : PySem.W.Frag) (ta : TA) : TI := fun σ H R => ta σ H fun vs H1 => ∃ a xs, vs = [.ref a] ∧ SqT K H1 a xs ∧ R (ItT K a) H1
/-- for i, x in enumerate(a tuple) -/
theorem pi_enT {X : Cx} {e : Expr} {ta : TA} {p pos tpos : Pos} {elts : List Expr} {kk : Nat} (hg : Gl X "enumerate") (hm : X.mg "enumerate" = none) (ha : PA X [e] ta)
    (hs : starEach [e] X.env = [(false, eval e X.env)] := by rfl) : PI X (.Tuple elts kk tpos) (.Call (.Name "enumerate" p) [e] [] pos) (iEnT X.K ta) := by
  constructor
  intro pins s σ H R I h
  refine Call_ (ld_blt I hg hm boot_enumerate (PyProof.Rows.callWith_type1 (thn (ha.run pos pins s σ H _ I h) ?_) hs rfl))
  rintro us s1 ⟨vs, H1, I1, r1, a, xs, rfl, hq, q⟩
  obtain ⟨u, rfl, rx⟩ := vals1 r1
  obtain rfl : u = Value.ref a := rx
  obtain ⟨its, rv, ht, hz⟩ := I1.tuple hq
  refine call_enum (begins_tuple a its.toArray) ht ?_
  intro h' he hit hk
  refine wpAny_pyIter_enum he ?_
  have I2 : Inv X pins σ H1 { s1 with heap := h' } := I1.kept (t' := s1.toks) hk
  have la : a < s1.heap.objs.size := ht.lt
  refine ⟨s1.heap.objs.size + 1, [s1.heap.objs.size + 1, s1.heap.objs.size], _, _, H1, rfl, I2, turn_enT a (s1.heap.objs.size + 1) s1.heap.objs.size,
    ⟨⟨.none, he⟩, ⟨_, hit, rfl, rfl⟩, Nat.succ_ne_self _, Nat.ne_of_lt la, Nat.ne_of_gt (Nat.lt_succ_of_lt la)⟩, ?_, q⟩
  intro b hb
  have hle : s1.heap.objs.size ≤ b := by
    rcases (show b = s1.heap.objs.size + 1 ∨ b = s1.heap.objs.size by simpa using hb) with rfl | rfl
    · exact Nat.le_succ _
    · exact Nat.le_refl _
  exact I1.fpOk hle (I1.hok.fresh hle)
theorem walk_enT {K : PySem.W.Frag} {a : Addr} {xs : List V} : Walk (ItT K a) xs.length (fun H => SqT K H a xs) (YPair (fun i => some (.int (i : Nat))) (fun i => xs[i]?)) := by
  refine ⟨fun i _ hi q => ⟨xs, xs[i], q, by simp [hi]⟩, fun _ q => ⟨xs, q, rfl⟩, ?_⟩
  rintro i H v H' _ q ⟨T, x, h1, h2, h3, h4⟩
  exact ⟨T, .int (i : Nat), x, h1, h2, h3, rfl, h4 xs q⟩
end Pk

/-! ## Versions: the mathematics of their texts -/
namespace Pk
open PySem L2 TL SX
def isDig (c : Nat) : Bool := decide (48 ≤ c ∧ c ≤ 57)
/-- number_of_text -/
def nT (l : List Nat) : Option Nat :=
  if (decide (1 ≤ l.length) && (decide (l.length ≤ 3) && l.all isDig)) = true then (if l.head? = some 48 ∧ l ≠ [48] then none else some (NumText.digitsVal l)) else none
def wd : Nat → List Nat
  | 0 => [97]
  | 1 => [98]
  | _ => [114, 99]
/-- stage_of_text, from the i-th word on -/
def sTn (l : List Nat) : Nat → Nat → List Nat × Option Nat
  | 0, _ => (l, some 3000)
  | k + 1, i => match par (wd i) [] l with
    | some (p, q) => (p, (nT q).map (fun n => i * 1000 + n))
    | none => sTn l k (i + 1)
def sT (l : List Nat) : List Nat × Option Nat := sTn l 3 0
def allSome : List (Option Nat) → Option (List Nat)
  | [] => some []
  | none :: _ => none
  | some n :: r => (allSome r).map (n :: ·)
/-- parts_of_text -/
def pT (l : List Nat) : Option (List Nat × Nat) :=
  match (sT l).2, allSome ((spl [46] 0 [] (sT l).1).map nT) with
  | some st, some ns => if ns.length > 4 then none else some (ns, st)
  | _, _ => none
def rk (ns : List Nat) (st : Nat) : Nat := ((ns ++ [0, 0, 0]).take 4).foldl (fun r n => r * 1000 + n) 0 * 3001 + st
def stg (st : Nat) : List Nat := if st = 3000 then [] else wd (st / 1000) ++ numL (st % 1000)
def wrt (figs : List Nat) (st : Nat) : List Nat := joinL [46] (figs.map numL) ++ stg st
theorem nT_num : ∀ n : Nat, n < 1000 → nT (numL n) = some n := by
  intro n hn
  have hd := numL_digits n
  have h1 : (numL n).length ≤ 3 := numL_len (by decide) hn
  have h2 : 1 ≤ (numL n).length := by
    have := numL_ne n
    cases e : numL n with
    | nil => exact absurd e this
    | cons c r => simp
  have h3 : (numL n).all isDig = true := by
    rw [List.all_eq_true]
    intro c hc
    have := hd c hc
    simp only [isDig, decide_eq_true_eq]
    omega
  have h4 : ¬ ((numL n).head? = some 48 ∧ numL n ≠ [48]) := by
    have key : ∀ n : Nat, n < 1000 → decide ((numL n).head? = some 48 ∧ numL n ≠ [48]) = false := by decide +kernel
    exact of_decide_eq_false (key n hn)
  unfold nT
  rw [decide_eq_true h1, decide_eq_true h2, h3]
  simp only [Bool.and_self, if_true]
  rw [if_neg h4, numL_val]
theorem join_chars : ∀ {figs : List Nat} {c : Nat}, c ∈ joinL [46] (figs.map numL) → c = 46 ∨ (48 ≤ c ∧ c ≤ 57)
  | [], c, h => by cases h
  | [n], c, h => by
    have := numL_digits n c h
    omega
  | n :: m :: r, c, h => by
    have h' : c ∈ numL n ++ ([46] ++ joinL [46] ((m :: r).map numL)) := h
    rcases List.mem_append.mp h' with h | h
    · have := numL_digits n c h
      omega
    · rcases List.mem_append.mp h with h | h
      · exact .inl (by simpa using h)
      · exact join_chars h
theorem allSome_map : ∀ figs : List Nat, allSome (figs.map some) = some figs
  | [] => rfl
  | n :: r => by
    show (allSome (r.map some)).map (n :: ·) = some (n :: r)
    rw [allSome_map r]
    rfl
theorem sT_wrt {figs : List Nat} {st : Nat} (hs : st ≤ 3000) : sT (wrt figs st) = (joinL [46] (figs.map numL), some st) := by
  have noc : ∀ c : Nat, 57 < c → c ∉ joinL [46] (figs.map numL) := fun c hc h => by
    have := join_chars h
    omega
  have nod : ∀ c n : Nat, 57 < c → c ∉ numL n := fun c n hc => numL_free (.inr hc)
  unfold wrt
  generalize joinL [46] (figs.map numL) = A at noc
  by_cases h3 : st = 3000
  · subst h3
    have e1 : par [97] [] A = none := par_none1 (noc 97 (by decide))
    have e2 : par [98] [] A = none := par_none1 (noc 98 (by decide))
    have e3 : par [114, 99] [] A = none := par_none1 (noc 114 (by decide))
    simp only [stg, if_true, List.append_nil, sT, sTn, wd, e1, e2, e3]
  · have hs0 : stg st = wd (st / 1000) ++ numL (st % 1000) := if_neg h3
    have hn : nT (numL (st % 1000)) = some (st % 1000) := nT_num _ (Nat.mod_lt _ (by decide))
    have hlt : st / 1000 < 3 := by omega
    rw [hs0]
    have hc : st / 1000 = 0 ∨ st / 1000 = 1 ∨ st / 1000 = 2 := by omega
    rcases hc with h | h | h
    · rw [h]
      have e1 : par [97] [] (A ++ ([97] ++ numL (st % 1000))) = some (A, numL (st % 1000)) := by
        have := par_part1 (s := 97) (S := []) (p := A) (rest := numL (st % 1000)) (acc := []) (noc 97 (by decide))
        simpa using this
      simp only [sT, sTn, wd, e1, hn, Option.map_some]
      congr 2
      omega
    · rw [h]
      have m1 : 97 ∉ A ++ ([98] ++ numL (st % 1000)) := by
        simp only [List.mem_append, List.mem_singleton]
        rintro (q | q | q)
        · exact noc 97 (by decide) q
        · exact absurd q (by decide)
        · exact nod 97 _ (by decide) q
      have e1 : par [97] [] (A ++ ([98] ++ numL (st % 1000))) = none := par_none1 m1
      have e2 : par [98] [] (A ++ ([98] ++ numL (st % 1000))) = some (A, numL (st % 1000)) := by
        have := par_part1 (s := 98) (S := []) (p := A) (rest := numL (st % 1000)) (acc := []) (noc 98 (by decide))
        simpa using this
      simp only [sT, sTn, wd, e1, e2, hn, Option.map_some]
      congr 2
      omega
    · rw [h]
      have m1 : 97 ∉ A ++ ([114, 99] ++ numL (st % 1000)) := by
        simp only [List.mem_append, List.mem_cons, List.not_mem_nil, or_false]
        rintro (q | (q | q) | q)
        · exact noc 97 (by decide) q
        · exact absurd q (by decide)
        · exact absurd q (by decide)
        · exact nod 97 _ (by decide) q
      have m2 : 98 ∉ A ++ ([114, 99] ++ numL (st % 1000)) := by
        simp only [List.mem_append, List.mem_cons, List.not_mem_nil, or_false]
        rintro (q | (q | q) | q)
        · exact noc 98 (by decide) q
        · exact absurd q (by decide)
        · exact absurd q (by decide)
        · exact nod 98 _ (by decide) q
      have e1 : par [97] [] (A ++ ([114, 99] ++ numL (st % 1000))) = none := par_none1 m1
      have e2 : par [98] [] (A ++ ([114, 99] ++ numL (st % 1000))) = none := par_none1 m2
      have e3 : par [114, 99] [] (A ++ ([114, 99] ++ numL (st % 1000))) = some (A, numL (st % 1000)) := by
        have := par_part1 (s := 114) (S := [99]) (p := A) (rest := numL (st % 1000)) (acc := []) (noc 114 (by decide))
        simpa using this
      simp only [sT, sTn, wd, e1, e2, e3, hn, Option.map_some]
      congr 2
      omega
theorem pT_wrt {figs : List Nat} {st : Nat} (hf : figs ≠ []) (h4 : figs.length ≤ 4) (hb : ∀ n ∈ figs, n < 1000) (hs : st ≤ 3000) : pT (wrt figs st) = some (figs, st) := by
  have e : (spl [46] 0 [] (joinL [46] (figs.map numL))).map nT = figs.map some := by
    rw [TL.spl_join (s := 46) (S := []) (by simpa using hf) (fun p hp => by
      obtain ⟨n, _, rfl⟩ := List.mem_map.mp hp
      exact numL_free (.inl (by decide))), List.map_map]
    exact List.map_congr_left fun n hn => nT_num n (hb n hn)
  unfold pT
  rw [sT_wrt hs, e, allSome_map]
  simp only
  rw [if_neg (by omega)]
/-- how many numbers are written -/
def many (ns : List Nat) : Nat → Nat
  | 0 => 0
  | 1 => 1
  | m + 2 => if ns[m + 1]? = some 0 then many ns (m + 1) else m + 2
theorem many_le (ns : List Nat) : ∀ m, many ns m ≤ m
  | 0 => Nat.le_refl _
  | 1 => Nat.le_refl _
  | m + 2 => by
    unfold many
    split
    · exact Nat.le_succ_of_le (many_le ns (m + 1))
    · exact Nat.le_refl _
theorem many_pos (ns : List Nat) : ∀ m, 0 < m → 0 < many ns m
  | 1, _ => Nat.one_pos
  | m + 2, _ => by
    unfold many
    split
    · exact many_pos ns (m + 1) (by omega)
    · omega
def trim (ns : List Nat) : List Nat := ns.take (many ns ns.length)
/-- text_at -/
def n4 (r : Nat) : List Nat := [r / 3001 / 1000000000, r / 3001 / 1000000 % 1000, r / 3001 / 1000 % 1000, r / 3001 % 1000]
def tA (r : Nat) : List Nat := wrt (trim (n4 r)) (r % 3001)
theorem n4_lt {r : Nat} (h : r ≤ 3000999999999999) : ∀ n ∈ n4 r, n < 1000 := by
  intro n hn
  simp only [n4, List.mem_cons, List.not_mem_nil, or_false] at hn
  rcases hn with rfl | rfl | rfl | rfl <;> omega
theorem trim_len (ns : List Nat) : (trim ns).length = many ns ns.length := by
  unfold trim
  rw [List.length_take]
  have := many_le ns ns.length
  omega
theorem pT_tA {r : Nat} (h : r ≤ 3000999999999999) : pT (tA r) = some (trim (n4 r), r % 3001) := by
  have hl : (n4 r).length = 4 := rfl
  refine pT_wrt ?_ ?_ (fun n hn => n4_lt h n (List.mem_of_mem_take hn)) (by omega)
  · intro e
    have h1 := trim_len (n4 r)
    rw [e, hl] at h1
    have := many_pos (n4 r) 4 (by decide)
    simp at h1
    omega
  · have h1 := trim_len (n4 r)
    have := many_le (n4 r) (n4 r).length
    omega
/-- what is left out is zero -/
theorem many_zero (ns : List Nat) : ∀ m i, many ns m ≤ i → i < m → ns[i]? = some 0 ∨ m = 0
  | 0, _, _, h => absurd h (Nat.not_lt_zero _)
  | 1, i, h1, h2 => by
    have : many ns 1 = 1 := rfl
    omega
  | m + 2, i, h1, h2 => by
    unfold many at h1
    split at h1
    · rename_i h0
      by_cases hi : i = m + 1
      · subst hi
        exact .inl h0
      · exact .inl ((many_zero ns (m + 1) i h1 (by omega)).resolve_right (by omega))
    · omega
theorem rk_n4 {r : Nat} (h : r ≤ 3000999999999999) : rk (n4 r) (r % 3001) = r := by
  simp only [rk, n4, List.cons_append, List.nil_append, List.take_succ_cons, List.take_zero, List.foldl_cons, List.foldl_nil]
  omega
theorem take4 {ns : List Nat} (h : ns.length = 4) : ((trim ns) ++ [0, 0, 0]).take 4 = (ns ++ [0, 0, 0]).take 4 := by
  have hz := many_zero ns 4
  have hp := many_pos ns 4 (by decide)
  have hl := many_le ns 4
  unfold trim
  rw [h]
  generalize many ns 4 = m at hz hp hl
  match ns, h with
  | [a, b, c, d], _ =>
    have hm : m = 1 ∨ m = 2 ∨ m = 3 ∨ m = 4 := by omega
    rcases hm with rfl | rfl | rfl | rfl
    · have h1 := (hz 1 (by decide) (by decide)).resolve_right (by decide)
      have h2 := (hz 2 (by decide) (by decide)).resolve_right (by decide)
      have h3 := (hz 3 (by decide) (by decide)).resolve_right (by decide)
      simp at h1 h2 h3
      subst h1 h2 h3
      rfl
    · have h2 := (hz 2 (by decide) (by decide)).resolve_right (by decide)
      have h3 := (hz 3 (by decide) (by decide)).resolve_right (by decide)
      simp at h2 h3
      subst h2 h3
      rfl
    · have h3 := (hz 3 (by decide) (by decide)).resolve_right (by decide)
      simp at h3
      subst h3
      rfl
    · rfl
theorem rk_trim {r : Nat} (h : r ≤ 3000999999999999) : rk (trim (n4 r)) (r % 3001) = r := by
  have e : rk (trim (n4 r)) (r % 3001) = rk (n4 r) (r % 3001) := by
    unfold rk
    rw [take4 rfl]
  rw [e, rk_n4 h]
end Pk

/-! ## An instance compared with any other object -/
namespace Pk
open PySem PySem.Spec PyProof.Rows L2
open SlX (cmpback)
section
variable {X : Cx} {k n : Nat} {f C g : Addr} {fd : FuncData} {ps : List Str} {sp : Sp} {E : XK} {CX : CXT}
/-- x op y, x an instance of the class at C, whose def for op is at g; y of a type that is not below C -/
def rOwnA (K : PySem.W.Frag) (C : Addr) (sp : Sp) (E : XK) : R2 := fun x y H Q => ∃ a dx fs t, x = .ref a ∧ H a = some (.ins C dx fs) ∧ TyX K H y t ∧ PySem.W.notFirst K C t = true ∧ sp [x, y] H Q E
theorem op_ownA {op : CmpOp} (hop : ∀ a b, compareOp op a b = richCompare op a b) (hs : PySem.W.findIn X.K (.ref C) (cmpInfo op).2.1 = some (some (.ref g)))
    (hf : PySem.W.isFn X.K (.ref g) = true) (F : FnR X.prog X.w X.K X.mg X.base CX n g sp) (hr : Room n X.A) (hx : Passes CX X E) : OpR X (compareOp op) (rOwnA X.K C sp E) := by
  intro pins s σ H x y v u Q I rx ry h
  obtain ⟨a, dx, fs, t, rfl, ha, ty, hn, q⟩ := h
  obtain rfl : v = Value.ref a := rx
  obtain ⟨mA, O, _⟩ := ins_get I.hok ha
  obtain ⟨od, J, _⟩ := O.look
  obtain ⟨m, hF⟩ := I.fr
  obtain ⟨P, Z, p, _⟩ := kit_of I ry ty
  rw [hop]
  refine PySem.W.cmp_K (op := op) (tb := t) hr.units0 hF I.ok.mod.kin J (Z.ty _ _ I.kIn p) hn hs hf (wpAny_mono (wpAny_call (run_fnR (us := [.ref a, u]) (vs := [.ref a, y]) F hr hx I (.cons rfl (.cons ry .nil)) q)) ?_ (fun _ _ x => x))
  rintro w s' ⟨z', H', I', rz, qz⟩
  exact cmpback rz ⟨z', H', I', rz, qz⟩
end
/-- no built-in type is an own class -/
theorem kit_not {K : PySem.W.Frag} {C : Addr} (cl : Cls K C) (rd : ClX.CRead K C (.type "type")) {T : String} (hT : (PySem.fastFind? T).isSome = true := by decide +kernel) :
    PySem.W.kitOne K (.type T) (.ref C) = some false ∧ PySem.W.notFirst K C (.type T) = true := by
  have hs : PySem.W.subIn K (.type T) (.ref C) = some false := by
    obtain ⟨d, hd⟩ := Option.isSome_iff_exists.mp hT
    show ((PySem.fastFind? T).map _).map _ = _
    rw [hd]
    show some (List.contains (d.mro.map Value.type) (.ref C)) = some false
    congr 1
    generalize d.mro = ts
    induction ts with
    | nil => rfl
    | cons t r ih =>
      rw [List.map_cons, List.contains_cons, ih]
      rfl
  have h1 : (PySem.W.clsIn K C).isSome = true := by
    have h := cl.hd
    unfold PySem.W.hasDictIn at h
    cases e : PySem.W.clsIn K C with
    | none =>
      rw [e] at h
      cases h
    | some c => rfl
  have h2 : PySem.W.typeIn K (.ref C) = some (.type "type") := by
    have h := rd.rd
    simp only [PySem.W.readsIn, Bool.and_eq_true, beq_iff_eq] at h
    exact h.1.1.1.2
  constructor
  · unfold PySem.W.kitOne
    rw [if_neg (by intro h; cases h)]
    show (if ((PySem.W.clsIn K C).isSome && PySem.W.typeIn K (.ref C) == some (.type "type")) = true then _ else _) = _
    rw [h1, h2, if_pos (by decide), hs]
  · unfold PySem.W.notFirst
    rw [hs]
    rfl
/-! ## Tuples of whole numbers: order -/
theorem dp_ints {K : PySem.W.Frag} {H : Hp} : ∀ {ns : List Int}, DpAll K H (ns.map V.int) (ns.map .int)
  | [] => .nil
  | n :: r => .cons (.int n) (dp_ints (ns := r))
theorem ints_lay : ∀ ns : List Int, PyData.canLayAll0 (ns.map .int) = true
  | [] => rfl
  | n :: r => by
    show (PyData.canLay0 (.int n) && PyData.canLayAll0 (r.map .int)) = true
    rw [ints_lay r]
    simp [PyData.canLay0]
theorem ints_depth : ∀ ns : List Int, PyData.depthAll (ns.map .int) = 0
  | [] => rfl
  | n :: r => by
    show max (PyData.depth (.int n)) (PyData.depthAll (r.map .int)) = 0
    rw [ints_depth r]
    rfl
theorem ints_shaped (ns : List Int) : SeqAt.shaped (.tuple (ns.map .int)) = true := by
  unfold SeqAt.shaped
  have e : PyData.canLay0 (.tuple (ns.map .int)) = true := by
    simp only [PyData.canLay0]
    exact ints_lay ns
  rw [e]
  simp only [PyData.depth, ints_depth]
  rfl
theorem ints_eqv (ns ms : List Int) : PyData.eqv (.tuple (ns.map .int)) (.tuple (ms.map .int)) = decide (ns = ms) := by
  have h := PySem.W.Datum.eqv (α := PySem.W.Tup Int) ⟨ns⟩ ⟨ms⟩
  refine h.trans (decide_eq_decide.mpr ⟨fun e => congrArg PySem.W.Tup.items e, fun e => by rw [e]⟩)
def rTupI (K : PySem.W.Frag) (f : List Int → List Int → Bool) : R2 := fun x y H Q => ∃ (a b : Addr) (ns ms : List Int), x = .ref a ∧ y = .ref b ∧ SqT K H a (ns.map V.int) ∧ SqT K H b (ms.map V.int) ∧ Q (.bl (f ns ms)) H
section
variable {X : Cx}
theorem holds_ints {pins : List (Addr × Obj)} {σ : L2.St} {H : Hp} {s : Shared} {a : Addr} {ns : List Int} {v : Value} (I : Inv X pins σ H s) (h : SqT X.K H a (ns.map V.int)) (r : RelV (.ref a) v) : PySem.W.Holds s.heap v (⟨ns⟩ : PySem.W.Tup Int) :=
  Dp.reads I _ _ v (.tup h dp_ints) r
theorem op_ltTI (hu : X.A.units + 64 < cLine) : OpR X (compareOp .Lt) (rTupI X.K fun ns ms => PySem.W.listLt ns ms) := by
  intro pins s σ H x y v u Q I rx ry h
  obtain ⟨a, b, ns, ms, rfl, rfl, ha, hb, q⟩ := h
  exact PySem.W.lt_datum (holds_ints I ha rx) (holds_ints I hb ry) (Nat.lt_of_le_of_lt (Nat.add_le_add_left (show (1 : Nat) ≤ 64 by decide) _) hu) ⟨.bl _, H, I, rfl, q⟩
theorem op_gtTI (hu : X.A.units + 64 < cLine) : OpR X (compareOp .Gt) (rTupI X.K fun ns ms => PySem.W.listLt ms ns) := by
  intro pins s σ H x y v u Q I rx ry h
  obtain ⟨a, b, ns, ms, rfl, rfl, ha, hb, q⟩ := h
  exact PySem.W.gt_datum (holds_ints I ha rx) (holds_ints I hb ry) (Nat.lt_of_le_of_lt (Nat.add_le_add_left (show (1 : Nat) ≤ 64 by decide) _) hu) ⟨.bl _, H, I, rfl, q⟩
theorem op_leTI (hu : X.A.units + 64 < cLine) : OpR X (compareOp .LtE) (rTupI X.K fun ns ms => !PySem.W.listLt ms ns) := by
  intro pins s σ H x y v u Q I rx ry h
  obtain ⟨a, b, ns, ms, rfl, rfl, ha, hb, q⟩ := h
  exact PySem.W.le_datum (holds_ints I ha rx) (holds_ints I hb ry) (Nat.lt_of_le_of_lt (Nat.add_le_add_left (show (1 : Nat) ≤ 64 by decide) _) hu) ⟨.bl _, H, I, rfl, q⟩
theorem op_geTI (hu : X.A.units + 64 < cLine) : OpR X (compareOp .GtE) (rTupI X.K fun ns ms => !PySem.W.listLt ns ms) := by
  intro pins s σ H x y v u Q I rx ry h
  obtain ⟨a, b, ns, ms, rfl, rfl, ha, hb, q⟩ := h
  exact PySem.W.ge_datum (holds_ints I ha rx) (holds_ints I hb ry) (Nat.lt_of_le_of_lt (Nat.add_le_add_left (show (1 : Nat) ≤ 64 by decide) _) hu) ⟨.bl _, H, I, rfl, q⟩
end
end Pk

/-! ## Rules inside comprehensions, the table of classes named -/
namespace Pk
open PySem PySem.Spec PyProof.Rows L2
section
variable {X : Cx} {tg o e l : Expr} {to te tl : TE} {KK : PySem.W.Frag}
theorem pi_listK (hK : X.K = KK) (hl : PE X l tl) : PI X tg l (iList KK tl) := by
  subst hK
  exact pi_list hl
theorem pi_tupK (hK : X.K = KK) (hl : PE X l tl) : PI X tg l (iTup KK tl) := by
  subst hK
  exact pi_tup hl
theorem ix_listK (hK : X.K = KK) : IxR X (rIxL KK) := by
  subst hK
  exact ix_list
theorem ix_tupK (hK : X.K = KK) : IxR X (rIxT KK) := by
  subst hK
  exact ix_tup
theorem pe_joinK {apos pos : Pos} (hK : X.K = KK) (ho : PE X o to) (he : PE X e te) (hs : starEach [e] X.env = [(false, eval e X.env)] := by rfl) (hbase : attributeBase o "join" X.env (eval o X.env) = eval o X.env := by rfl) (hline : (apos.endLine == pos.line) = true := by rfl) :
    PE X (.Call (.Attribute o "join" apos) [e] [] pos) (tM1 (fun x xs H Q => ∃ a p, ∃ ys : List Str, x = .str a ∧ xs = [.ref p] ∧ (SqL KK H p (ys.map V.str) ∨ SqT KK H p (ys.map V.str)) ∧
      (ys.map (·.length)).sum + ys.length * a.length ≤ 16777216 ∧ Q (.str (Txt.join a ys)) H) to te) := by
  subst hK
  exact pe_join ho he hs hbase hline
end
end Pk

/-! ## Exceptions that are kept as values: made, caught under a name, their fields read -/
namespace Pk
open PySem PySem.Spec PyProof.Rows L2
/-- at a: an exception of the class cls that is in nobody's flight, its dict at d -/
def ExK (cls : Value) (d : Option Addr) (a : Addr) : HO := .ext fun h => ∃ (oe : Obj) (vs : Array Value), h.get? a = some oe ∧ Zc cls d oe ∧ oe.data = .fields vs
theorem exK_ok {P : Program} {w : World} {H : Hp} {h : Heap} {a : Addr} {cls : Value} {d : Option Addr} {oe : Obj} {vs : Array Value} (e : h.get? a = some oe) (z : Zc cls d oe) (q : oe.data = .fields vs) : ObjOk P w H h a (ExK cls d a) :=
  ⟨⟨oe, vs, e, z, q⟩, ⟨oe, e⟩, fun _ _ ⟨o1, v1, e1, z1, q1⟩ k => ⟨o1, v1, k _ e1, z1, q1⟩⟩
theorem exK_at {P : Program} {w : World} {H : Hp} {h : Heap} {a : Addr} {cls : Value} {d : Option Addr} (k : HOk P w H h) (e : H a = some (ExK cls d a)) : ∃ (oe : Obj) (vs : Array Value), h.get? a = some oe ∧ Zc cls d oe ∧ oe.data = .fields vs :=
  (show ObjOk P w H h a (.ext fun h => ∃ (oe : Obj) (vs : Array Value), h.get? a = some oe ∧ Zc cls d oe ∧ oe.data = .fields vs) from k a _ e).1
theorem exK_ne {cls : Value} {d : Option Addr} {a : Addr} : (∀ xs, ExK cls d a ≠ .tup xs) ∧ (∀ o u, ExK cls d a ≠ .frz o u) ∧ (∀ ps, ExK cls d a ≠ .tbl ps) ∧ ∀ x, ExK cls d a ≠ .own x := by
  refine ⟨fun _ z => ?_, fun _ _ z => ?_, fun _ z => ?_, fun _ z => ?_⟩ <;> (unfold ExK at z; cases z)
section
variable {X : Cx} {pins : List (Addr × Obj)} {σ : L2.St} {H : Hp} {s : Shared}
/-- a thing of the heap that is younger than the def's call, told from now on -/
theorem track {a : Addr} {o : HO} (I : Inv X pins σ H s) (young : X.s_0.heap.get? a = none) (untold : H a = none) (nl : X.env.locals ≠ a) (nc : ∀ x c, X.env.cells.lookup x = some c → c ≠ a)
    (np : ∀ p ∈ X.pn ++ pins, p.1 ≠ a) (new : ObjOk X.prog X.w (upd H a o) s.heap a o) : Inv X pins σ (upd H a o) s := by
  have off : ∀ {b : Addr} {u : HO}, H b = some u → b ≠ a := fun {b u} e z => by
    rw [z, untold] at e
    cases e
  have old : ∀ {b : Addr} {u : Obj}, X.s_0.heap.get? b = some u → b ≠ a := fun {b u} e z => by
    rw [z, young] at e
    cases e
  have at_ : ∀ {b : Addr} {u : HO}, H b = some u → upd H a o b = some u := fun {b u} e => by
    rw [upd_ne (off e)]
    exact e
  refine { ok := I.ok, os := I.os, bare := I.bare, loc := I.loc, cell := I.cell, len := I.len, base := { keep := I.base.keep, slot := I.base.slot, there := I.base.there, free := ?_, tups := ?_, frzs := ?_, tbls := ?_ }, free := ?_, freeC := ?_, pin := ?_, hok := ?_ }
  · intro b u e n hx
    rw [upd_ne (old e)]
    exact I.base.free b u e n hx
  · exact fun b xs e => at_ (I.base.tups b xs e)
  · exact fun b u v e => at_ (I.base.frzs b u v e)
  · intro b ps e
    obtain ⟨m, q⟩ := I.base.tbls b ps e
    exact ⟨m, at_ q⟩
  · rw [upd_ne nl]
    exact I.free
  · intro x c e
    rw [upd_ne (nc x c e)]
    exact I.freeC x c e
  · intro p hp
    obtain ⟨q1, q2, q3, q4, q5⟩ := I.pin p hp
    exact ⟨q1, by rw [upd_ne (np p hp)]; exact q2, q3, q4, q5⟩
  · intro b u e
    by_cases hb : b = a
    · subst hb
      rw [upd_same] at e
      cases e
      exact new
    · rw [upd_ne hb] at e
      exact (I.hok b u e).stay (fun _ _ _ q => q) (fun _ q => at_ q) (fun _ _ q => at_ q)
theorem moved {s' : Shared} (I : Inv X pins σ H s) (hh : s'.heap = s.heap) (os : s'.os = s.os) (ag : AllBare s'.gens) : Inv X pins σ H s' := by
  obtain ⟨h1, g1, d1, t1, o1⟩ := s
  obtain ⟨h2, g2, d2, t2, o2⟩ := s'
  dsimp only at hh os ag
  subst hh os
  exact { ok := I.ok, os := I.os, bare := ag, base := I.base, loc := I.loc, cell := I.cell, free := I.free, freeC := I.freeC, pin := I.pin, hok := I.hok, len := I.len }
/-- what was not there before the call -/
theorem young_of (I : Inv X pins σ H s) (hex : X.ex = []) {a : Addr} (n : s.heap.get? a = none) : X.s_0.heap.get? a = none := by
  cases e : X.s_0.heap.get? a with
  | none => rfl
  | some o =>
    obtain ⟨o', q⟩ := I.base.there a o e (by rw [hex]; exact fun z => nomatch z)
    rw [n] at q
    cases q
theorem notcell (I : Inv X pins σ H s) {a : Addr} {oe : Obj} {vs : Array Value} (e : s.heap.get? a = some oe) (q : oe.data = .fields vs) : ∀ x c, X.env.cells.lookup x = some c → c ≠ a := fun x c hc z => by
  obtain ⟨v, o, ho, hd⟩ := I.cell x c hc
  rw [z, e] at ho
  cases ho
  rw [q] at hd
  cases hd
theorem notlocals (I : Inv X pins σ H s) {a : Addr} (n : s.heap.get? a = none) : X.env.locals ≠ a := fun z => by
  obtain ⟨m, ⟨o, es, ep, ho, _⟩, _⟩ := I.loc
  rw [z, n] at ho
  cases ho
end
/-! ### C(..) as a value -/
def tMkV (t : L2.St → Hp → XK → Prop) : TE := fun σ H Q => t σ H fun cls d H' => ∀ a, H' a = none → Q (.ref a) (upd H' a (ExK cls d a))
theorem pe_mkV {X : Cx} {e : Expr} {t : L2.St → Hp → XK → Prop} (hex : X.ex = []) (he : PMk X e t) : PE X e (tMkV t) := by
  refine ⟨fun pins s σ H Q I h => wpAny_mono (he pins s σ H _ I h) ?_ fun _ _ x => x⟩
  rintro u s' ⟨a, oe, vs, sI, H', cls, d, rfl, J, k, gone, there, hz, hd, _, na, os, ag, _, q⟩
  have J1 : Inv X pins σ H' s' := moved (s := { sI with heap := s'.heap, toks := sI.toks }) (J.kept k) rfl os ag
  refine ⟨.ref a, _, track J1 (young_of J hex gone) na (notlocals J gone) (notcell J1 there hd) (fun p hp z => ?_) (exK_ok there hz hd), rfl, q a na⟩
  have := (J.pin p hp).1
  rw [z, gone] at this
  cases this
/-! ### e.f -/
def tXfV (K : PySem.W.Frag) (f : Str) (te : TE) : TE := fun σ H Q => te σ H fun x H1 => ∃ (a dd C : Addr) (fs : List (Str × V)) (v : V), x = .ref a ∧ XfC K C ∧ PySem.W.findIn K (.ref C) f = some none ∧
  H1 a = some (ExK (.ref C) (some dd) a) ∧ H1 dd = some (.xd fs) ∧ fs.lookup f = some v ∧ Q v H1
theorem pe_xfV {X : Cx} {e : Expr} {te : TE} {pos : Pos} {n : Str} (he : PE X e te) (hb : attributeBase e n X.env (eval e X.env) = eval e X.env := by rfl) : PE X (.Attribute e n pos) (tXfV X.K n te) := by
  refine ⟨fun pins s σ H Q I h => attr_of hb (thn (he.run pins s σ H _ I h) ?_)⟩
  rintro u s1 ⟨x, H1, I1, rx, a, dd, C, fs, v, rfl, T, no, hx, hd, hl, q⟩
  obtain rfl : u = Value.ref a := rx
  obtain ⟨oe, vs, there, hz, hf⟩ := exK_at I1.hok hx
  obtain ⟨mA, hns, hr⟩ : ObjOk X.prog X.w H1 s1.heap dd (.xd fs) := I1.hok dd _ hd
  obtain ⟨od, ho, hlk⟩ := lookIn_ns hns
  obtain ⟨u, hu, ru⟩ := RelO.some_of (v := v) (o := mA n) (by rw [← hl]; exact hr n)
  have J : PySem.W.InstAt s1.heap a oe C (some od) := ⟨there, hz.1, by unfold PySem.W.notCls; rw [hf] <;> rfl, by rw [hz.2]; exact ho⟩
  exact HandSPX.exc_get I1.kIn J T.ga T.gg T.exC (PySem.W.findObj_own T.hdC no rfl (by rw [hlk, hu])) (handed_of ru) ⟨v, H1, I1.tok _, ru, q⟩
/-! ### try: body / except x as n: suite, the exception kept -/
/-- what follows the suite: the name is gone, the exception is told -/
def behindV (i : Nat) (a : Addr) (cls : Value) (d : Option Addr) (D : Ends) : Ends where
  nx := fun σ H => H a = none → D.nx (σ.set i none) (upd H a (ExK cls d a))
  rt := D.rt
  bk := fun σ H => D.bk (σ.set i none) H
  ct := fun σ H => D.ct (σ.set i none) H
def wAsV (K : PySem.W.Frag) (c : Value) (i : Nat) (ts : Addr → Value → Option Addr → TS) (Wout : WX) (D : Ends) : WX := fun cls d σ H =>
  ∃ b, PySem.W.exmOne K cls c = some b ∧ (b = true → ∀ a, H a = none → ts a cls d (behindV i a cls d D) (σ.set i (some (.ref a))) H) ∧ (b = false → Wout cls d σ H)
section
variable {X : Cx} {x n : Str} {c : Value} {i : Nat} {body suite : List Stmt} {b₀ : Stmt} {np pos pos' : Pos} {tb : WX → TS} {ts : Addr → Value → Option Addr → TS} {Wout : WX}
theorem unsuiteK {a : Addr} {q : Addr × Obj} {pins : List (Addr × Obj)} {σ : L2.St} {H : Hp} {s : Shared} (I : Inv (X.suite a (q :: (X.pn ++ pins))) [] σ H s) (ok : X.Ok) : Inv X (q :: pins) σ H s :=
  { ok := ok, os := I.os, bare := I.bare, base := I.base, loc := I.loc, cell := I.cell, free := I.free, freeC := I.freeC, hok := I.hok, len := I.len
    pin := fun p hp => I.pin p (by
      rcases List.mem_append.mp hp with h | h
      · exact List.mem_append_left _ (List.mem_cons_of_mem _ (List.mem_append_left _ h))
      · rcases List.mem_cons.mp h with h | h
        · rw [h]
          exact List.mem_append_left _ List.mem_cons_self
        · exact List.mem_append_left _ (List.mem_cons_of_mem _ (List.mem_append_right _ h))) }
theorem unpin {q : Addr × Obj} {pins : List (Addr × Obj)} {σ : L2.St} {H : Hp} {s : Shared} (I : Inv X (q :: pins) σ H s) : Inv X pins σ H s :=
  { ok := I.ok, os := I.os, bare := I.bare, base := I.base, loc := I.loc, cell := I.cell, free := I.free, freeC := I.freeC, hok := I.hok, len := I.len
    pin := fun p hp => I.pin p (by
      rcases List.mem_append.mp hp with h | h
      · exact List.mem_append_left _ h
      · exact List.mem_append_right _ (List.mem_cons_of_mem _ h)) }
theorem ps_try_asV (hex : X.ex = []) (hs : X.stack = X.env :: X.outer) (hf : X.env.frame = some X.env.locals) (hN : X.N.Nodup) (hi : X.N[i]? = some n) (hln : X.env.kindOf n = some .local) (hc : Names X x c) (tk : Takes X Wout)
    (hb : ∀ (W : WX) (pn : List (Addr × Obj)) (xe : Value → Shared → Prop), Takes (X.tr pn xe) W → PassesOwn (model X.prog X.w) X.A X.env xe → PSs (X.tr pn xe) body (tb W))
    (hsu : ∀ (a : Addr) (oe : Obj) (cls : Value) (d : Option Addr) (pn : List (Addr × Obj)), Zc cls d oe → (∃ vs, oe.data = .fields vs) → PSs (X.suite a ((a, oe) :: pn)) (b₀ :: suite) (ts a cls d)) :
    PS X (.Try body [.ExceptHandler (some (.Name x np)) (some n) (b₀ :: suite) pos'] [] [] pos) (fun D σ H => tb (wAsV X.K c i ts Wout D) D σ H) := by
  constructor
  intro pins s σ H D I h
  have okX := I.ok
  have frames : X.A.frames = some (X.env :: X.outer) := okX.frames.trans (by rw [hs])
  refine wpAny_Try_except ?_
  let XC : Value → Shared → Prop := fun e s₁ => wpAny (model X.prog X.w) X.A (noteFrame e X.env) (fun _ s₂ => wpAny (model X.prog X.w) X.A (setFlight e none) (fun _ s₃ =>
    wpAny (model X.prog X.w) X.A (handleBy e X.env [.ExceptHandler (some (.Name x np)) (some n) (b₀ :: suite) pos']) (SP X pins D) X.xe s₃) X.xe s₂) X.xe s₁
  have caught : Takes (X.tr (X.pn ++ pins) XC) (wAsV X.K c i ts Wout D) := by
    rintro u s' ⟨a, B, sI, pins', σ', H', cls, d, rfl, J', nb, up, sky, na, os, ag, b, hb1, hyes, hno⟩
    have J : Inv X pins σ' H' sI := J'.ofTry okX
    have sky' : Sky B (X.env :: X.outer) a (Zc cls d) X.env.locals s'.heap := by
      rw [← hs]
      exact sky
    show wpAny (model X.prog X.w) X.A (noteFrame (.ref a) X.env) _ _ _
    refine Sky.land Zc.steady frames hf sky' fun hA flA upA => ?_
    have JA : Inv X pins σ' H' { s' with heap := hA } := J.landed nb flA.1 (up.trans upA) os ag
    obtain ⟨oA, vA, eA, zA, dA⟩ := flA.there
    have nofr : a ∉ frs (X.env :: X.outer) := fun hm => by
      obtain ⟨_, o', e', hnf⟩ := flA.2.2.1.mem hm
      rw [eA] at e'
      cases e'
      exact hnf _ dA
    have goneI : sI.heap.get? a = none := by
      cases e : sI.heap.get? a with
      | none => rfl
      | some o =>
        have := nb a o e (by rw [show (X.tr (X.pn ++ pins) XC).stack = X.env :: X.outer from hs]; exact nofr)
        rw [flA.2.1] at this
        cases this
    have nLoc : a ≠ X.env.locals := fun z => nofr (List.mem_filterMap.mpr ⟨X.env, List.mem_cons_self, by rw [hf, z]⟩)
    have nFs : a ∉ X.fs := fun hm => by
      obtain ⟨e, he, q⟩ := List.mem_filterMap.mp hm
      exact nofr (List.mem_filterMap.mpr ⟨e, List.mem_cons_of_mem _ he, q⟩)
    have SA := JA.suite eA dA na nLoc nFs
    refine wpAny_handleBy_cons (codeAny_handlers_test ?_) (by intro q; cases q)
    have lookT : PySem.W.Looks (model X.prog X.w) hA (typeOf (.ref a)) cls := fun A Q E s k q => wpAny_typeOf_ref (k _ _ eA) (by rw [zA.1]; exact q)
    have lookM := PySem.W.exm_one (M := model X.prog X.w) JA.kIn lookT hb1
    have nameC : ∀ {Q : Value → Shared → Prop} {E : Value → Shared → Prop}, Q c { s' with heap := hA } → wpAny (model X.prog X.w) (X.A.mark (some (.ref a))) (eval (.Name x np) X.env) Q E { s' with heap := hA } := by
      intro Q E q
      obtain ⟨glo, dbg, m1 | ⟨m1, m2, m3⟩⟩ := hc
      · exact ld_glob (X := X.suite a ((a, oA) :: (X.pn ++ pins))) SA glo m1 q dbg
      · exact ld_blt (X := X.suite a ((a, oA) :: (X.pn ++ pins))) SA glo m1 m2 q m3 dbg
    refine nameC (lookM.here ?_)
    cases b with
    | true =>
      refine codeAny_handlers_suite_as (HandSPX.lands_againZ flA fun hB flB upB => ?_)
      have JB : Inv X pins σ' H' { s' with heap := hB } := J.landed nb flB.1 ((up.trans upA).trans upB) os ag
      obtain ⟨oB, vB, eB, zB, dB⟩ := flB.there
      refine store_ok (X := X.suite a ((a, oB) :: (X.pn ++ pins))) (v := .ref a) (JB.suite eB dB na nLoc nFs) hN hi (.inl hln) rfl (fun sS SS => ?_) (.inr hln)
      have inside := (hsu a oB cls d (X.pn ++ pins) zB ⟨_, dB⟩).run [] sS _ H' _ SS (hyes rfl a na)
      refine wpAny_mono inside (fun f sE hsp => ?_) (fun _ _ z => False.elim z)
      have close : ∀ {σE : L2.St} {HE : Hp} {Q : Shared → Prop}, Inv (X.suite a ((a, oB) :: (X.pn ++ pins))) [] σE HE sE → (∀ sZ, Inv X ((a, oB) :: pins) (σE.set i none) HE sZ → Q sZ) →
          wpAny (model X.prog X.w) X.A (do bindName X.env n .none; unbindBehindTheSuite X.env n pos') (fun _ sZ => Q sZ) X.xe sE := fun {σE HE Q} SE hq => gone_ok (unsuiteK SE okX) hN hi hln hq
      cases f with
      | next =>
        obtain ⟨σE, HE, SE, qE⟩ := hsp
        refine close SE fun sZ JZ => ?_
        obtain ⟨g1, g2, g3, _, _⟩ := JZ.pin (a, oB) (List.mem_append_right _ List.mem_cons_self)
        refine ⟨_, _, track (unpin JZ) (young_of J hex goneI) g2 (Ne.symm g3) (notcell (unpin JZ) g1 dB) (fun p hp z => ?_) (exK_ok g1 zB dB), qE g2⟩
        have := (J.pin p hp).1
        rw [z, goneI] at this
        cases this
      | brk =>
        obtain ⟨σE, HE, SE, qE⟩ := hsp
        exact close SE fun sZ JZ => ⟨_, _, unpin JZ, qE⟩
      | cont =>
        obtain ⟨σE, HE, SE, qE⟩ := hsp
        exact close SE fun sZ JZ => ⟨_, _, unpin JZ, qE⟩
      | ret u =>
        obtain ⟨vE, σE, HE, SE, rE, qE⟩ := hsp
        exact close SE fun sZ JZ => ⟨_, _, _, unpin JZ, rE, qE⟩
    | false =>
      show wpAny _ X.A (handleBy (.ref a) X.env []) _ _ _
      refine wpAny_handleBy_nil ?_
      obtain ⟨k1, k2, k3, oe, vs, T, oT, tt, eT, zT, dT, h1, hr⟩ := id flA
      unfold PySem.passOn
      refine wpAny_bind (wpAny_field eT dT h1 ?_)
      rw [if_neg (show ¬ ((Value.ref T == Value.none) = true) from by simp)]
      have away : wpAny (model X.prog X.w) X.A (setFlight (.ref a) X.env.frame) (fun _ s4 => wpAny (model X.prog X.w) X.A (throw (.ref a) : Sem Flow) (SP X pins D) X.xe s4) X.xe { s' with heap := hA } := by
        rw [hf]
        refine HandSPX.setFlight_upZ flA fun hB hhB upB => wpAny_throw (tk _ _ ?_)
        exact ⟨a, B, sI, pins, σ', H', cls, d, rfl, J, nb, (up.trans upA).trans upB, .inr (.inr (by rw [hs]; exact hhB)), na, os, ag, hno rfl⟩
      first
        | exact wpAny_bind (wpAny_pure (wpAny_bind away))
        | exact wpAny_bind away
  have through := (hb (wAsV X.K c i ts Wout D) (X.pn ++ pins) XC caught PassesOwn.looking).run [] s σ H D (I.toTry _) h
  refine wpAny_mono through (fun f s1 hsp => ?_) (fun _ _ he => he)
  cases f with
  | next =>
    obtain ⟨σ', H', JJ, q⟩ := hsp
    exact wpAny_execs_nil ⟨σ', H', JJ.ofTry okX, q⟩
  | brk =>
    obtain ⟨σ', H', JJ, q⟩ := hsp
    exact ⟨σ', H', JJ.ofTry okX, q⟩
  | cont =>
    obtain ⟨σ', H', JJ, q⟩ := hsp
    exact ⟨σ', H', JJ.ofTry okX, q⟩
  | ret u =>
    obtain ⟨v, σ', H', JJ, r, q⟩ := hsp
    exact ⟨v, σ', H', JJ.ofTry okX, r, q⟩
end
end Pk

/-! ## A clause of several classes: except (A, B, C) as e, the exception kept as a value -/
namespace Pk
open PySem PySem.Spec PyProof.Rows L2
/-- the test of a clause answers m for the class of what is caught; it may lay a tuple -/
def HT (X : Cx) (t : Expr) (m : Value → Option Bool) : Prop :=
  ∀ {a : Addr} {oe : Obj} {pn : List (Addr × Obj)} {σ : L2.St} {H : Hp} {s : Shared} {cls : Value} {b : Bool} {Q : Bool → Shared → Prop} {E : Value → Shared → Prop}, Inv (X.suite a ((a, oe) :: pn)) [] σ H s → s.heap.get? a = some oe → oe.cls = cls → m cls = some b →
    (∀ h', (∀ q o, s.heap.get? q = some o → h'.get? q = some o) → Q b { s with heap := h' }) →
    wpAny (model X.prog X.w) (X.A.mark (some (.ref a))) (eval t X.env) (fun c s₁ => wpAny (model X.prog X.w) (X.A.mark (some (.ref a))) (excMatches (.ref a) c) Q E s₁) E s
section
variable {X : Cx}
theorem ht_looks {a : Addr} {oe : Obj} {h : Heap} {cls : Value} (ha : h.get? a = some oe) (hc : oe.cls = cls) : PySem.W.Looks (model X.prog X.w) h (typeOf (.ref a)) cls := fun A Q E s k q => wpAny_typeOf_ref (k _ _ ha) (by rw [hc]; exact q)
theorem ht_name {x : Str} {c : Value} {np : Pos} {a : Addr} {oe : Obj} {pn : List (Addr × Obj)} {σ : L2.St} {H : Hp} {s : Shared} {Q : Value → Shared → Prop} {E : Value → Shared → Prop} (hc : Names X x c) (SA : Inv (X.suite a ((a, oe) :: pn)) [] σ H s) (q : Q c s) :
    wpAny (model X.prog X.w) (X.A.mark (some (.ref a))) (eval (.Name x np) X.env) Q E s := by
  obtain ⟨glo, dbg, m1 | ⟨m1, m2, m3⟩⟩ := hc
  · exact ld_glob (X := X.suite a ((a, oe) :: pn)) SA glo m1 q dbg
  · exact ld_blt (X := X.suite a ((a, oe) :: pn)) SA glo m1 m2 q m3 dbg
theorem ht_one {x : Str} {c : Value} {np : Pos} (hc : Names X x c) : HT X (.Name x np) (fun cls => PySem.W.exmOne X.K cls c) := by
  intro a oe pn σ H s cls b Q E SA ha hcl hb q
  exact ht_name hc SA ((PySem.W.exm_one (M := model X.prog X.w) SA.kIn (ht_looks ha hcl) hb).here (q _ fun _ _ z => z))
theorem ht_tup3 {x1 x2 x3 : Str} {c1 c2 c3 : Value} {p1 p2 p3 tpos : Pos} {kk : Nat} (n1 : Names X x1 c1) (n2 : Names X x2 c2) (n3 : Names X x3 c3) :
    HT X (.Tuple [.Name x1 p1, .Name x2 p2, .Name x3 p3] kk tpos) (fun cls => PySem.W.exmAny X.K cls [c1, c2, c3]) := by
  intro a oe pn σ H s cls b Q E SA ha hcl hb q
  refine wpAny_Tuple ?_
  refine wpAny_items_cons (ht_name n1 SA ?_)
  refine wpAny_items_cons (ht_name n2 SA ?_)
  refine wpAny_items_cons (ht_name n3 SA ?_)
  refine wpAny_items_nil ⟨by show (3 : Nat) ≤ sizeLine; rw [sizeLine_eq]; omega, ?_⟩
  have kp : ∀ q o, s.heap.get? q = some o → (s.heap.push { cls := .type "tuple", data := .seq [c1, c2, c3].toArray }).get? q = some o := fun _ _ z => Heap.get?_push_of_some _ z
  exact (PySem.W.exm_tup3 (SA.kIn.keeps kp) ((ht_looks ha hcl).keeps kp) (Heap.get?_push_size s.heap rfl) hb).here (q _ kp)
end
theorem flyingZ_keeps {B : Heap} {l : List Env} {a : Addr} {Z : Obj → Prop} {h h' : Heap} (f : HandSPX.FlyingZ B l a Z h) (k : ∀ b o, h.get? b = some o → h'.get? b = some o) : HandSPX.FlyingZ B l a Z h' := by
  obtain ⟨f1, f2, f3, oe, vs, T, oT, ts, he, hz, hd, h1, hnT, hTe, hT, hdT, h3⟩ := f
  exact ⟨fun b o q => k b o (f1 b o q), f2, f3.of_keeps fun b o q _ => ⟨o, k b o q, rfl⟩, oe, vs, T, oT, ts, k _ _ he, hz, hd, h1, hnT, hTe, k _ _ hT, hdT, h3⟩
def wAsT (m : Value → Option Bool) (i : Nat) (ts : Addr → Value → Option Addr → TS) (Wout : WX) (D : Ends) : WX := fun cls d σ H =>
  ∃ b, m cls = some b ∧ (b = true → ∀ a, H a = none → ts a cls d (behindV i a cls d D) (σ.set i (some (.ref a))) H) ∧ (b = false → Wout cls d σ H)
section
variable {X : Cx} {t : Expr} {n : Str} {m : Value → Option Bool} {i : Nat} {body suite : List Stmt} {b₀ : Stmt} {pos pos' : Pos} {tb : WX → TS} {ts : Addr → Value → Option Addr → TS} {Wout : WX}
theorem ps_try_asT (hex : X.ex = []) (hs : X.stack = X.env :: X.outer) (hf : X.env.frame = some X.env.locals) (hN : X.N.Nodup) (hi : X.N[i]? = some n) (hln : X.env.kindOf n = some .local) (ht : HT X t m) (tk : Takes X Wout)
    (hb : ∀ (W : WX) (pn : List (Addr × Obj)) (xe : Value → Shared → Prop), Takes (X.tr pn xe) W → PassesOwn (model X.prog X.w) X.A X.env xe → PSs (X.tr pn xe) body (tb W))
    (hsu : ∀ (a : Addr) (oe : Obj) (cls : Value) (d : Option Addr) (pn : List (Addr × Obj)), Zc cls d oe → (∃ vs, oe.data = .fields vs) → PSs (X.suite a ((a, oe) :: pn)) (b₀ :: suite) (ts a cls d)) :
    PS X (.Try body [.ExceptHandler (some t) (some n) (b₀ :: suite) pos'] [] [] pos) (fun D σ H => tb (wAsT m i ts Wout D) D σ H) := by
  constructor
  intro pins s σ H D I h
  have okX := I.ok
  have frames : X.A.frames = some (X.env :: X.outer) := okX.frames.trans (by rw [hs])
  refine wpAny_Try_except ?_
  let XC : Value → Shared → Prop := fun e s₁ => wpAny (model X.prog X.w) X.A (noteFrame e X.env) (fun _ s₂ => wpAny (model X.prog X.w) X.A (setFlight e none) (fun _ s₃ =>
    wpAny (model X.prog X.w) X.A (handleBy e X.env [.ExceptHandler (some t) (some n) (b₀ :: suite) pos']) (SP X pins D) X.xe s₃) X.xe s₂) X.xe s₁
  have caught : Takes (X.tr (X.pn ++ pins) XC) (wAsT m i ts Wout D) := by
    rintro u s' ⟨a, B, sI, pins', σ', H', cls, d, rfl, J', nb, up, sky, na, os, ag, b, hb1, hyes, hno⟩
    have J : Inv X pins σ' H' sI := J'.ofTry okX
    have sky' : Sky B (X.env :: X.outer) a (Zc cls d) X.env.locals s'.heap := by
      rw [← hs]
      exact sky
    show wpAny (model X.prog X.w) X.A (noteFrame (.ref a) X.env) _ _ _
    refine Sky.land Zc.steady frames hf sky' fun hA flA upA => ?_
    have JA : Inv X pins σ' H' { s' with heap := hA } := J.landed nb flA.1 (up.trans upA) os ag
    obtain ⟨oA, vA, eA, zA, dA⟩ := flA.there
    have nofr : a ∉ frs (X.env :: X.outer) := fun hm => by
      obtain ⟨_, o', e', hnf⟩ := flA.2.2.1.mem hm
      rw [eA] at e'
      cases e'
      exact hnf _ dA
    have goneI : sI.heap.get? a = none := by
      cases e : sI.heap.get? a with
      | none => rfl
      | some o =>
        have := nb a o e (by rw [show (X.tr (X.pn ++ pins) XC).stack = X.env :: X.outer from hs]; exact nofr)
        rw [flA.2.1] at this
        cases this
    have nLoc : a ≠ X.env.locals := fun z => nofr (List.mem_filterMap.mpr ⟨X.env, List.mem_cons_self, by rw [hf, z]⟩)
    have nFs : a ∉ X.fs := fun hm => by
      obtain ⟨e, he, q⟩ := List.mem_filterMap.mp hm
      exact nofr (List.mem_filterMap.mpr ⟨e, List.mem_cons_of_mem _ he, q⟩)
    have SA := JA.suite eA dA na nLoc nFs
    refine wpAny_handleBy_cons (codeAny_handlers_test ?_) (by intro q; cases q)
    refine ht (oe := oA) (pn := X.pn ++ pins) SA eA zA.1 hb1 fun hP kP => ?_
    have flP := flyingZ_keeps flA kP
    have upP : s'.heap.UpToSlots hP := upA.trans (Heap.UpToSlots.of_keeps kP)
    cases b with
    | true =>
      refine codeAny_handlers_suite_as (HandSPX.lands_againZ (s := { s' with heap := hP }) flP fun hB flB upB => ?_)
      have JB : Inv X pins σ' H' { s' with heap := hB } := J.landed nb flB.1 ((up.trans upP).trans upB) os ag
      obtain ⟨oB, vB, eB, zB, dB⟩ := flB.there
      refine store_ok (X := X.suite a ((a, oB) :: (X.pn ++ pins))) (v := .ref a) (JB.suite eB dB na nLoc nFs) hN hi (.inl hln) rfl (fun sS SS => ?_) (.inr hln)
      have inside := (hsu a oB cls d (X.pn ++ pins) zB ⟨_, dB⟩).run [] sS _ H' _ SS (hyes rfl a na)
      refine wpAny_mono inside (fun f sE hsp => ?_) (fun _ _ z => False.elim z)
      have close : ∀ {σE : L2.St} {HE : Hp} {Q : Shared → Prop}, Inv (X.suite a ((a, oB) :: (X.pn ++ pins))) [] σE HE sE → (∀ sZ, Inv X ((a, oB) :: pins) (σE.set i none) HE sZ → Q sZ) →
          wpAny (model X.prog X.w) X.A (do bindName X.env n .none; unbindBehindTheSuite X.env n pos') (fun _ sZ => Q sZ) X.xe sE := fun {σE HE Q} SE hq => gone_ok (unsuiteK SE okX) hN hi hln hq
      cases f with
      | next =>
        obtain ⟨σE, HE, SE, qE⟩ := hsp
        refine close SE fun sZ JZ => ?_
        obtain ⟨g1, g2, g3, _, _⟩ := JZ.pin (a, oB) (List.mem_append_right _ List.mem_cons_self)
        refine ⟨_, _, track (unpin JZ) (young_of J hex goneI) g2 (Ne.symm g3) (notcell (unpin JZ) g1 dB) (fun p hp z => ?_) (exK_ok g1 zB dB), qE g2⟩
        have := (J.pin p hp).1
        rw [z, goneI] at this
        cases this
      | brk =>
        obtain ⟨σE, HE, SE, qE⟩ := hsp
        exact close SE fun sZ JZ => ⟨_, _, unpin JZ, qE⟩
      | cont =>
        obtain ⟨σE, HE, SE, qE⟩ := hsp
        exact close SE fun sZ JZ => ⟨_, _, unpin JZ, qE⟩
      | ret u =>
        obtain ⟨vE, σE, HE, SE, rE, qE⟩ := hsp
        exact close SE fun sZ JZ => ⟨_, _, _, unpin JZ, rE, qE⟩
    | false =>
      show wpAny _ X.A (handleBy (.ref a) X.env []) _ _ _
      refine wpAny_handleBy_nil ?_
      obtain ⟨k1, k2, k3, oe, vs, T, oT, tt, eT, zT, dT, h1, hr⟩ := id flP
      unfold PySem.passOn
      refine wpAny_bind (wpAny_field eT dT h1 ?_)
      rw [if_neg (show ¬ ((Value.ref T == Value.none) = true) from by simp)]
      have away : wpAny (model X.prog X.w) X.A (setFlight (.ref a) X.env.frame) (fun _ s4 => wpAny (model X.prog X.w) X.A (throw (.ref a) : Sem Flow) (SP X pins D) X.xe s4) X.xe { s' with heap := hP } := by
        rw [hf]
        refine HandSPX.setFlight_upZ (s := { s' with heap := hP }) flP fun hB hhB upB => wpAny_throw (tk _ _ ?_)
        exact ⟨a, B, sI, pins, σ', H', cls, d, rfl, J, nb, (up.trans upP).trans upB, .inr (.inr (by rw [hs]; exact hhB)), na, os, ag, hno rfl⟩
      first
        | exact wpAny_bind (wpAny_pure (wpAny_bind away))
        | exact wpAny_bind away
  have through := (hb (wAsT m i ts Wout D) (X.pn ++ pins) XC caught PassesOwn.looking).run [] s σ H D (I.toTry _) h
  refine wpAny_mono through (fun f s1 hsp => ?_) (fun _ _ he => he)
  cases f with
  | next =>
    obtain ⟨σ', H', JJ, q⟩ := hsp
    exact wpAny_execs_nil ⟨σ', H', JJ.ofTry okX, q⟩
  | brk =>
    obtain ⟨σ', H', JJ, q⟩ := hsp
    exact ⟨σ', H', JJ.ofTry okX, q⟩
  | cont =>
    obtain ⟨σ', H', JJ, q⟩ := hsp
    exact ⟨σ', H', JJ.ofTry okX, q⟩
  | ret u =>
    obtain ⟨v, σ', H', JJ, r, q⟩ := hsp
    exact ⟨v, σ', H', JJ.ofTry okX, r, q⟩
end
end Pk

/-! ## Calls whose exceptions are told with the slots as they stand: classmethods and classes, by position and by name -/
namespace Pk
open PySem PySem.Spec PyProof.Rows L2
section
variable {X : Cx} {CX : CXT} {k : Nat} {σ : L2.St} {H : Hp} {s : Shared} {pins : List (Addr × Obj)} {E : L2.St → XK} {sp : Sp}
theorem run_fnRS {f : Addr} {Q : VK} {us : List Value} {vs : List V} (F : FnR X.prog X.w X.K X.mg X.base CX k f sp) (hr : Room k X.A) (hx : PassesAt CX X σ (E σ)) (I : Inv X pins σ H s) (r : Vals vs us) (h : sp vs H Q (E σ)) :
    codeAny (model X.prog X.w) X.A (.call (.ref f) ⟨us, []⟩) (fun r s' => match r with | .ok (.ret v) => EP X pins σ Q v s' | .ok _ => False | .error e => X.xe e s') s := by
  refine codeAny_mono (F X.A X.stack s H us vs Q (E σ) hr I.env0 r h) fun r s' hq => ?_
  cases r with
  | error e => exact hx pins H s e s' I hq
  | ok fl =>
    cases fl with
    | ret u => exact I.after hq
    | next => exact False.elim hq
    | brk => exact False.elim hq
    | cont => exact False.elim hq
/-- C.m(..), m a classmethod, by position -/
def tCMethS (C : Addr) (sp : Sp) (E : L2.St → XK) (ta : TE) (t : TA) : TE := fun σ H Q => ta σ H fun x H1 => x = .ref C ∧ t σ H1 fun vs H2 => sp (.ref C :: vs) H2 Q (E σ)
theorem pe_cmethS {C p g : Addr} {mc : Value} {o e : Expr} {es : List Expr} {m : Str} {pos apos : Pos} {ta : TE} {t : TA} {pl : Sem Bool} (he : PE X o ta) (r : ClX.CRead X.K C mc) (c : ClX.CMet X.K C mc m p g) (F : FnR X.prog X.w X.K X.mg X.base CX k g sp) (hr : Room k X.A)
    (hx : ∀ σ, PassesAt CX X σ (E σ)) (ha : PA X (e :: es) t)
    (hst : starEach (e :: es) X.env = (false, eval e X.env) :: starEach es X.env := by rfl) (hpl : (backTo pos (starEach es X.env)).any (·.1) = false := by rfl)
    (ht : eval (.Call (.Attribute o m apos) (e :: es) [] pos) X.env = (do
      let ov ← eval o X.env
      standAt apos.atName
      let (f, first) ← holding [ov] (getMethod ov m pl)
      callWith pos f first (backTo pos (starEach (e :: es) X.env)) (backToKw pos (keywordEach [] X.env))) := by rfl) :
    PE X (.Call (.Attribute o m apos) (e :: es) [] pos) (tCMethS C sp E ta t) := by
  refine ⟨fun pins s σ H Q I h => ?_⟩
  refine PySem.W.methodCall_KW (pl := pl) (thn (he.run pins s σ H _ I h) fun u s1 ⟨x, H1, I1, rx, ex, q⟩ => ?_) ht
  subst ex
  obtain rfl : u = Value.ref C := rx
  refine ClX.getmethcm_ok I1 r c fun s2 I2 => ?_
  refine ClX.callwith_cm I2 (ClX.base_none I1 (Nat.le_refl _)) c.fi (thn (ha.run pos _ s2 σ H1 _ I2 q) fun us s3 ⟨vs, H2, I3, rv, q2⟩ => ⟨⟨ClX.pin_at I3, I3.kIn⟩, ?_⟩) hst hpl
  have z := wpAny_call (PySem.W.method_call (ClX.pin_at I3) (run_fnRS (us := .ref C :: us) (vs := .ref C :: vs) F hr (hx σ) I3 (.cons rfl rv) q2))
  exact thn z fun _ _ y => ClX.unpinE y
/-- how the parameters behind the first one bind, all by name -/
structure KM (K : PySem.W.Frag) (fd : FuncData) (ps ks : List Str) (g : List Value → List Value) (gV : List V → List V) : Prop where
  to : ∀ (s : Shared) (c : Value) (ws : List Value), K.In s.heap → ws.length = ks.length → BindsTo s fd ⟨[c], ks.zip ws⟩ (ps.zip (c :: g ws))
  rel : ∀ {zs : List V} {ws : List Value}, zs.length = ks.length → Vals zs ws → Vals (gV zs) (g ws)
/-- C.m(k = v, ..), m a classmethod -/
def tCMethK (C : Addr) (n : Nat) (sp : Sp) (gV : List V → List V) (E : L2.St → XK) (ta : TE) (tk : TA) : TE := fun σ H Q => ta σ H fun x H1 => x = .ref C ∧ tk σ H1 fun zs H2 => zs.length = n ∧ sp (.ref C :: gV zs) H2 Q (E σ)
theorem pe_cmethK {C p f : Addr} {fd : FuncData} {ps ks : List Str} {g : List Value → List Value} {gV : List V → List V} {mc : Value} {o : Expr} {kws : List Keyword} {m : Str} {pos apos : Pos} {ta : TE} {tk : TA} {pl : Sem Bool}
    (he : PE X o ta) (r : ClX.CRead X.K C mc) (c : ClX.CMet X.K C mc m p f) (F : FnOk X.prog X.w X.K X.mg X.base CX k f fd ps sp) (hb : KM X.K fd ps ks g gV) (hr : Room k X.A)
    (hx : ∀ σ, PassesAt CX X σ (E σ)) (hkw : PK X kws tk)
    (hall : (backToKw pos (keywordEach kws X.env)).all (·.1.isSome) = true := by rfl) (hks : (backToKw pos (keywordEach kws X.env)).filterMap (·.1) = ks := by rfl)
    (hpl : ((backTo pos (starEach [] X.env)).any (·.1) || (backToKw pos (keywordEach kws X.env)).any (·.1.isNone)) = false := by rfl)
    (ht : eval (.Call (.Attribute o m apos) [] kws pos) X.env = (do
      let ov ← eval o X.env
      standAt apos.atName
      let (f, first) ← holding [ov] (getMethod ov m pl)
      callWith pos f first (backTo pos (starEach [] X.env)) (backToKw pos (keywordEach kws X.env))) := by rfl) :
    PE X (.Call (.Attribute o m apos) [] kws pos) (tCMethK C ks.length sp gV E ta tk) := by
  refine ⟨fun pins s σ H Q I h => ?_⟩
  refine PySem.W.methodCall_KW (pl := pl) (thn (he.run pins s σ H _ I h) fun u s1 ⟨x, H1, I1, rx, ex, q⟩ => ?_) ht
  subst ex
  obtain rfl : u = Value.ref C := rx
  refine ClX.getmethcm_ok I1 r c fun s2 I2 => ?_
  refine PySem.W.callWith_of hpl (PySem.W.keeps_M (self := Value.ref C) c.fi) (evalArgs_kw2_nil hall ?_)
  refine thn (hkw.run pos _ s2 σ H1 _ I2 q) fun ws s3 ⟨zs, H2, I3, rz, l2, q2⟩ => ⟨⟨ClX.pin_at I3, I3.kIn⟩, ?_⟩
  rw [hks]
  have r2 : Vals (V.ref C :: gV zs) (Value.ref C :: g ws) := .cons rfl (hb.rel l2 rz)
  have z : wpAny (model X.prog X.w) X.A (call (.ref s1.heap.objs.size) ([] ++ []) (ks.zip ws)) (EP X ((s1.heap.objs.size, PySem.W.methodObj (.ref f) (.ref C)) :: pins) σ Q) X.xe s3 := by
    refine wpAny_call (PySem.W.method_call (ClX.pin_at I3) (codeAny_mono (F.run X.A X.stack s3 H2 ⟨[Value.ref C], ks.zip ws⟩ (Value.ref C :: g ws) (V.ref C :: gV zs) Q (E σ) hr I3.env0 (hb.to s3 _ ws I3.kIn (rz.length.symm.trans l2)) r2 q2) fun r s' hq => ?_))
    cases r with
    | error e => exact hx σ _ H2 s3 e s' I3 hq
    | ok fl =>
      cases fl with
      | ret u => exact I3.after hq
      | next => exact False.elim hq
      | brk => exact False.elim hq
      | cont => exact False.elim hq
  exact thn z fun _ _ y => ClX.unpinE y
/-- C(k = v, ..) -/
def tMakeKS (C : Addr) (n : Nat) (sp : Sp) (gV : List V → List V) (E : L2.St → XK) (tk : TA) : TE := fun σ H Q => tk σ H fun zs H2 => zs.length = n ∧ ∀ x dx, H2 x = none → H2 dx = none → dx ≠ x →
  sp (.ref x :: gV zs) (upd (upd H2 dx (.own x)) x (.ins C dx [])) (fun v H3 => v = .non ∧ Q (.ref x) H3) (E σ)
theorem pe_makeKS {C f : Addr} {fd : FuncData} {ps ks : List Str} {g : List Value → List Value} {gV : List V → List V} {x : Str} {p pos : Pos} {kws : List Keyword} {tk : TA}
    (M : Mk X.K C f) (F : FnOk X.prog X.w X.K X.mg X.base CX k f fd ps sp) (hr : Room (k + 1) X.A) (hg : Gl X x) (hm : X.mg x = some (.ref C)) (hb : KM X.K fd ps ks g gV) (hx : ∀ σ, PassesAt CX X σ (E σ)) (hkw : PK X kws tk)
    (hall : (backToKw pos (keywordEach kws X.env)).all (·.1.isSome) = true := by rfl) (hks : (backToKw pos (keywordEach kws X.env)).filterMap (·.1) = ks := by rfl) (hdb : (x == ("__debug__" : Str)) = false := by decide)
    (hpl : ((backTo pos (starEach [] X.env)).any (·.1) || (backToKw pos (keywordEach kws X.env)).any (·.1.isNone)) = false := by rfl) :
    PE X (.Call (.Name x p) [] kws pos) (tMakeKS C ks.length sp gV E tk) := by
  refine ⟨fun pins s σ H Q I h => ?_⟩
  refine wpAny_Call_Name_kw (ld_glob I hg hm ?_ hdb)
  refine PySem.W.callWith_KW0 (h₀ := X.base) I.ok.mod.kin M.kp hall ?_ hpl
  refine thn (hkw.run pos pins s σ H _ I h) fun ws s2 ⟨zs, H2, I2, rz, l2, q2⟩ => ⟨I2.kIn, ?_⟩
  rw [hks]
  have hq := q2 (s2.heap.objs.size + 1) s2.heap.objs.size (I2.hok.fresh (Nat.le_succ _)) (I2.hok.fresh (Nat.le_refl _)) (Nat.ne_of_lt (Nat.lt_succ_self _))
  have I3 := Inv.made (C := C) I2
  have r2 : Vals (V.ref (s2.heap.objs.size + 1) :: gV zs) (Value.ref (s2.heap.objs.size + 1) :: g ws) := .cons rfl (hb.rel l2 rz)
  refine wpAny_call (make_map (f := f) I2.kIn M.makes M.init (beq_iff_eq.mp M.fn) (codeAny_mono (F.run _ X.stack _ _ ⟨[Value.ref (s2.heap.objs.size + 1)], ks.zip ws⟩ (Value.ref (s2.heap.objs.size + 1) :: g ws) _ _ (E σ) (hr.make C [] (ks.zip ws))
    (I3.env0.make C [] (ks.zip ws)) (hb.to _ _ ws I3.kIn (rz.length.symm.trans l2)) r2 hq) fun r s' hq' => ?_))
  cases r with
  | error e => exact hx σ pins _ _ e s' I3 hq'
  | ok fl =>
    cases fl with
    | ret u =>
      obtain ⟨v, H', I4, rv, ev, q3⟩ := I3.after hq'
      subst ev
      exact ⟨rv, ⟨V.ref (s2.heap.objs.size + 1), H', I4, rfl, q3⟩⟩
    | next => exact False.elim hq'
    | brk => exact False.elim hq'
    | cont => exact False.elim hq'
end
end Pk

/-! ## Own exceptions: their facts in one answer; isinstance of a kept one; lists of the same things -/
namespace PySem.W
open PySem PySem.Spec PySem.Calls PyProof.Rows
section
variable {prog : Program} {w : World} {A : Around} {E : Value → Shared → Prop} {s : Shared} {K : Frag} {x D : Addr} {ox od : Obj}
theorem pk_classE {Q : Option Value → Shared → Prop} (hga : findIn K (.ref D) "__getattribute__" = some (some (.builtin "BaseException.__getattribute__"))) (hgt : findIn K (.ref D) "__getattr__" = some none) (hsub : subIn K (.ref D) (.type "BaseException") = some true)
    (hdct : hasDictIn K D = true) (ha : findIn K (.ref D) "__class__" = some (some (.builtin "object.__class__")))
    (hn : specialIn K (.builtin "object.__class__") "__get__" = some (some (.builtin "getset_descriptor.__get__"))) (htk : takesIn K (.builtin "object.__class__") = some true) (hm : mroIn K D (.type "object") = some true)
    (X : K.In s.heap) (I : InstAt s.heap x ox D (some od)) (h : Q (some (.ref D)) { s with toks := s.toks + 1 }) : wpAny (model prog w) A (getAttr? (.ref x) "__class__") Q E s := by
  have hf : findObj K D (some od) "__class__" = some (.bind (.builtin "getset_descriptor.__get__") (.builtin "object.__class__")) := findObj_data (by obtain ⟨cd, hc, _⟩ := any_some hdct; rw [hc]; rfl) ha hn htk
  obtain ⟨hp, g, d, t, os⟩ := s
  have L0 := I.type (M := model prog w)
  have L1 := looks_findIn (M := model prog w) X hga
  have L2 := looks_findIn (M := model prog w) X hgt
  have L3 := looks_find (M := model prog w) X I hf
  have sub : Looks (model prog w) hp (isInstance (.ref x) (.type "BaseException")) true := L0.andThen (looks_subIn X hsub)
  have hx0 : (false && onTheHeap (Value.builtin "BaseException.__getattribute__")) = false := rfl
  have hx2 : (Value.builtin "BaseException.__getattribute__" == Value.builtin "object.__getattribute__") = false := by decide +kernel
  have hx1 : (onTheHeap (Value.ref D) && Value.builtin "BaseException.__getattribute__" == Value.builtin "object.__getattribute__") = false := by rw [hx2]; rfl
  unfold getAttr? getAttrBy? getAttrBy
  refine wpAny_bind (wpAny_mkText (wpAny_bind (wpAny_attempt (wpAny_holding (wpAny_bind (L0.at (wpAny_bind (L1.at ?_))))))))
  show wpAny _ _ (if (onTheHeap (Value.ref D) && Value.builtin "BaseException.__getattribute__" == Value.builtin "object.__getattribute__") = true then _ else _) _ _ _
  rw [hx1, if_neg Bool.false_ne_true]
  unfold getAttrByItsOwn hookBefore
  refine wpAny_bind ?_
  rw [if_pos (show onTheHeap (Value.ref D) = true from rfl)]
  refine L2.at ?_
  refine wpAny_bind (wpAny_attempt (wpAny_holding ?_))
  unfold callGetattribute
  rw [hx0, if_neg Bool.false_ne_true]
  unfold boundAndCalled
  rw [PySem.F.excAttr_ValueError.ga.bind (.ref x)]
  refine wpAny_bind (wpAny_pure ?_)
  show wpAny _ _ (call (.builtin "BaseException.__getattribute__") [.ref x, .str "__class__" t]) _ _ _
  refine wpAny_call (codeAny_call_builtin PySem.F.excAttr_ValueError.ga.plain PySem.F.entry_bexc_ga ?_)
  refine @check_slot (model prog w) _ _ ⟨hp, g, d, t + 1, os⟩ "BaseException.__getattribute__" "BaseException" "__getattribute__" (.ref x) [.str "__class__" t] [] _ (by decide +kernel) (by decide +kernel) sub (PySem.F.args_bexc_ga (.ref x) (.str "__class__" t)) ?_
  unfold Builtin.«object.__getattribute__»
  refine wpAny_bind (wpAny_of_eq (a := ((Value.ref x : Value), [Value.str "__class__" t])) (by first | rfl | (simp only [slotArgs]; rfl)) ?_)
  refine wpAny_bind (wpAny_pure (wpAny_bind (L0.at (wpAny_bind (L3.at ?_)))))
  show wpAny _ _ (holding [Value.builtin "object.__class__"] (call (.builtin "getset_descriptor.__get__") [.builtin "object.__class__", .ref x, .ref D]) >>= ret) _ _ _
  refine wpAny_bind (wpAny_holding (wpAny_call (class_get (s := ⟨hp, g, d, t + 1, os⟩) (ox := ox) (od := some od) X I hm ?_)))
  refine wpAny_pure ?_
  show wpAny _ _ (handedOut (.ref D)) _ _ _
  rw [handedOut_of (v := .ref D) rfl]
  first
    | exact wpAny_pure (wpAny_pure h)
    | exact wpAny_pure h
    | exact wpAny_pure (wpAny_bind (wpAny_pure (wpAny_pure h)))
theorem pk_kitxE (hga : findIn K (.ref D) "__getattribute__" = some (some (.builtin "BaseException.__getattribute__"))) (hgt : findIn K (.ref D) "__getattr__" = some none) (hsub : subIn K (.ref D) (.type "BaseException") = some true) (hdct : hasDictIn K D = true) (ha : findIn K (.ref D) "__class__" = some (some (.builtin "object.__class__")))
    (hn : specialIn K (.builtin "object.__class__") "__get__" = some (some (.builtin "getset_descriptor.__get__"))) (htk : takesIn K (.builtin "object.__class__") = some true) (hm : mroIn K D (.type "object") = some true) :
    KitX K (.ref x) (.ref D) (fun h => InstAt h x ox D (some od)) where
  ty := fun _ _ _ I => I.type
  it := fun _ _ X _ => by
    obtain ⟨cdD, hcD, _⟩ := any_some hdct
    unfold clsIn at hcD
    split at hcD
    · rename_i c' d' cd' sl' ho
      intro A' Q' E' s' k q
      unfold isType loadHead
      exact wpAny_bind (wpAny_loadPart (k _ _ (X _ _ ho)) (wpAny_pure q))
    · cases hcD
  ne := fun h tp dd its n sl X htp => by
    obtain ⟨cdD, hcD, _⟩ := any_some hdct
    refine Bool.eq_false_iff.mpr fun q => ?_
    have e : D = tp := Value.ref.inj (beq_iff_eq.mp q)
    subst e
    unfold clsIn at hcD
    split at hcD
    · rename_i c' d' cd' sl' ho
      have z := (X _ _ ho).symm.trans htp
      cases z
    · cases hcD
  ca := fun X I k => pk_classE hga hgt hsub hdct ha hn htk hm X I k
end
end PySem.W
namespace Pk
open PySem PySem.Spec PyProof.Rows L2
/-- the class object, as OexC asks it -/
def oexB (K : PySem.W.Frag) (C : Addr) : Bool := match K.lookup C with
  | some ⟨.type "type", _, .cls cd, sl⟩ => (match cd.mro, sl.toList with
    | .ref C' :: bm, [_, _, _, _, some (.builtin n), _] => C' == C && n == "ValueError.__new__" && cd.hasDict && !cd.hasDel && PySem.HandSPX.refsVE bm
    | _, _ => false)
  | _ => false
theorem oexB_ok {K : PySem.W.Frag} {C : Addr} (q : oexB K C = true) :
    ∃ nm qn N bs bm sn sub ab col dd k0 k1 k2 k3 k5, K.lookup C = some (excClassObj nm qn C N bs bm true sn sub ab col dd k0 k1 k2 k3 k5 "ValueError.__new__") ∧ PySem.HandSPX.refsVE bm = true := by
  unfold oexB at q
  split at q
  · rename_i dd cd sl ho
    split at q
    · rename_i C' bm k0 k1 k2 k3 n k5 hm hs
      simp only [Bool.and_eq_true, beq_iff_eq, Bool.not_eq_true'] at q
      obtain ⟨⟨⟨⟨rfl, rfl⟩, hd⟩, hdel⟩, hr⟩ := q
      obtain ⟨nm, bs, mro, ns, qn, hd', sn, sub, ab, col, del⟩ := cd
      dsimp only at hm hdel hd
      subst hm hdel hd
      have hsl : sl = #[k0, k1, k2, k3, some (.builtin "ValueError.__new__"), k5] := by
        obtain ⟨l⟩ := sl
        simp only at hs
        rw [hs]
      subst hsl
      exact ⟨nm, qn, ns, bs, bm, sn, sub, ab, col, dd, k0, k1, k2, k3, k5, ho, hr⟩
    · cases q
  · cases q
/-- a raised own exception class -/
structure ExA (K : PySem.W.Frag) (C : Addr) : Prop where
  o : OexC K C
  x : XfC K C
  e : ExcC K C
def exaB (K : PySem.W.Frag) (C : Addr) : Bool := oexB K C && (decide (PySem.W.findIn K (.ref C) "__setattr__" = some (some (.builtin "object.__setattr__"))) && (decide (PySem.W.typeIn K (.ref C) = some (.type "type")) && (PySem.W.keepIn K (.ref C) && (xfB K C &&
  (decide (PySem.W.findIn K (.ref C) "__class__" = some (some (.builtin "object.__class__"))) && (decide (PySem.W.specialIn K (.builtin "object.__class__") "__get__" = some (some (.builtin "getset_descriptor.__get__"))) &&
  (decide (PySem.W.takesIn K (.builtin "object.__class__") = some true) && decide (PySem.W.mroIn K C (.type "object") = some true))))))))
theorem exaB_ok {K : PySem.W.Frag} {C : Addr} (h : exaB K C = true) : ExA K C := by
  obtain ⟨h1, h⟩ := Bool.and_eq_true_iff.mp h
  obtain ⟨h2, h⟩ := Bool.and_eq_true_iff.mp h
  obtain ⟨h3, h⟩ := Bool.and_eq_true_iff.mp h
  obtain ⟨h4, h⟩ := Bool.and_eq_true_iff.mp h
  obtain ⟨h5, h⟩ := Bool.and_eq_true_iff.mp h
  obtain ⟨h6, h⟩ := Bool.and_eq_true_iff.mp h
  obtain ⟨h7, h⟩ := Bool.and_eq_true_iff.mp h
  obtain ⟨h8, h9⟩ := Bool.and_eq_true_iff.mp h
  have x := xfB_ok h5
  exact ⟨⟨oexB_ok h1, of_decide_eq_true h2, x.exC, of_decide_eq_true h3, h4⟩, x, ⟨x.ga, x.gg, x.exC, x.hdC, of_decide_eq_true h6, of_decide_eq_true h7, of_decide_eq_true h8, of_decide_eq_true h9⟩⟩
/-- a class that a clause or isinstance names -/
structure NmC (K : PySem.W.Frag) (C : Addr) : Prop where
  be : PySem.W.subIn K (.ref C) (.type "BaseException") = some true
  hd : PySem.W.hasDictIn K C = true
  ty : PySem.W.typeIn K (.ref C) = some (.type "type")
  se : PySem.W.subIn K (.ref C) (.ref C) = some true
def nmB (K : PySem.W.Frag) (C : Addr) : Bool := decide (PySem.W.subIn K (.ref C) (.type "BaseException") = some true) && (PySem.W.hasDictIn K C && (decide (PySem.W.typeIn K (.ref C) = some (.type "type")) && decide (PySem.W.subIn K (.ref C) (.ref C) = some true)))
theorem nmB_ok {K : PySem.W.Frag} {C : Addr} (h : nmB K C = true) : NmC K C := by
  obtain ⟨h1, h⟩ := Bool.and_eq_true_iff.mp h
  obtain ⟨h2, h⟩ := Bool.and_eq_true_iff.mp h
  obtain ⟨h3, h4⟩ := Bool.and_eq_true_iff.mp h
  exact ⟨of_decide_eq_true h1, h2, of_decide_eq_true h3, of_decide_eq_true h4⟩
theorem exm_sub {K : PySem.W.Frag} {C : Addr} {t : Value} {b : Bool} (N : NmC K C) (h : PySem.W.subIn K t (.ref C) = some b) : PySem.W.exmOne K t (.ref C) = some b := PySem.W.exm_ref N.be N.hd N.ty h
theorem exm_any3 {K : PySem.W.Frag} {t c1 c2 c3 : Value} {b1 b2 b3 : Bool} (h1 : PySem.W.exmOne K t c1 = some b1) (h2 : PySem.W.exmOne K t c2 = some b2) (h3 : PySem.W.exmOne K t c3 = some b3) : PySem.W.exmAny K t [c1, c2, c3] = some (b1 || (b2 || (b3 || false))) := by
  unfold PySem.W.exmAny PySem.W.exmAny PySem.W.exmAny PySem.W.exmAny
  rw [h1, h2, h3]
theorem kit_sub {K : PySem.W.Frag} {C D : Addr} {b : Bool} (N : NmC K C) (h : PySem.W.subIn K (.ref D) (.ref C) = some b) : PySem.W.kitOne K (.ref D) (.ref C) = some b := by
  unfold PySem.W.kitOne
  by_cases e : D = C
  · subst e
    rw [if_pos (by simp)]
    rw [N.se] at h
    exact h
  · rw [if_neg (by simp [e])]
    obtain ⟨cd, hc, _⟩ := PySem.W.any_some N.hd
    have e2 : ((PySem.W.clsIn K C).isSome && PySem.W.typeIn K (.ref C) == some (.type "type")) = true := by rw [hc, N.ty] <;> rfl
    show (if ((PySem.W.clsIn K C).isSome && PySem.W.typeIn K (.ref C) == some (.type "type")) = true then PySem.W.subIn K (.ref D) (.ref C) else none) = some b
    rw [if_pos e2]
    exact h
/-- isinstance(e, C), e a kept exception -/
def rIsEV (K : PySem.W.Frag) : List V → Hp → VK → Prop := fun xs H Q => ∃ (a D dd : Addr) (fs : List (Str × V)) (c : V) (cv : Value) (b : Bool), xs = [.ref a, c] ∧ ExcC K D ∧ H a = some (ExK (.ref D) (some dd) a) ∧ H dd = some (.xd fs) ∧ (∀ u, RelV c u → u = cv) ∧ PySem.W.kitOne K (.ref D) cv = some b ∧ Q (.bl b) H
theorem call_isEV {X : Cx} : CallR X (.builtin "isinstance") (rIsEV X.K) := by
  intro pins s σ H xs us Q I r h
  obtain ⟨a, D, dd, fs, c, cv, b, rfl, C, hx, hd, hcv, e, q⟩ := h
  obtain ⟨u1, u2, rfl, r1, r2⟩ := vals2 r
  obtain rfl : u1 = Value.ref a := r1
  have ec := hcv _ r2
  subst ec
  obtain ⟨oe, vs, there, hz, hf⟩ := exK_at I.hok hx
  obtain ⟨mA, hns, _⟩ : ObjOk X.prog X.w H s.heap dd (.xd fs) := I.hok dd _ hd
  obtain ⟨od, ho, _⟩ := lookIn_ns hns
  have J : PySem.W.InstAt s.heap a oe D (some od) := ⟨there, hz.1, by unfold PySem.W.notCls; rw [hf] <;> rfl, by rw [hz.2]; exact ho⟩
  exact PySem.W.kia_one (PySem.W.pk_kitxE C.hg C.hk C.hs C.hd C.ha C.hn C.ht C.hm) I.kIn J e (fun z => nomatch z) fun tk => ⟨.bl b, H, I.kept (t' := tk) fun _ _ z => z, rfl, q⟩
/-- lists of the same things: each pair one plain value, or one object -/
def SameV (x y : V) : Prop := x = y ∧ (flatB x = true ∨ ∃ a, x = .ref a)
def rNeSm (K : PySem.W.Frag) : R2 := fun x y H Q => ∃ a b xs, x = .ref a ∧ y = .ref b ∧ SqL K H a xs ∧ SqL K H b xs ∧ (∀ v ∈ xs, flatB v = true ∨ ∃ p, v = .ref p) ∧ Q (.bl false) H
theorem sm_run {A : Around} {s : Shared} : ∀ {xs : List V} {us ws : List Value}, (∀ v ∈ xs, flatB v = true ∨ ∃ p, v = .ref p) → Vals xs us → Vals xs ws → ∀ j (h1 : j < us.length) (h2 : j < ws.length), SeqAt.EqAt A s us[j] ws[j] true
  | [], _, _, _, r1, _, j, h1, _ => by
    cases r1
    exact absurd h1 (Nat.not_lt_zero j)
  | x :: xs, _, _, hx, .cons a1 b1, .cons a2 b2, j, h1, h2 => by
    cases j with
    | zero =>
      rcases hx x List.mem_cons_self with f | ⟨p, rfl⟩
      · exact eqAt_same a1 a2 f
      · cases (show _ = Value.ref p from a1)
        cases (show _ = Value.ref p from a2)
        exact SeqAt.EqAt.same _
    | succ j => exact sm_run (fun v hv => hx v (List.mem_cons_of_mem _ hv)) b1 b2 j (Nat.lt_of_succ_lt_succ h1) (Nat.lt_of_succ_lt_succ h2)
theorem op_neSm {X : Cx} (hu : X.A.units + 64 < cLine) : OpR X (compareOp .NotEq) (rNeSm X.K) := by
  intro pins s σ H x y v u Q I rx ry h
  obtain ⟨a, b, xs, rfl, rfl, ha, hb, hp, q⟩ := h
  cases (show v = Value.ref a from rx)
  cases (show u = Value.ref b from ry)
  obtain ⟨us, r1, p1, _⟩ := I.list ha
  obtain ⟨ws, r2, p2, _⟩ := I.list hb
  have hsz : us.toArray.size = ws.toArray.size := by
    rw [List.size_toArray, List.size_toArray, ← r1.length, ← r2.length]
  refine SeqAt.RcNeAt.lists (e := fun _ => true) p1.isList p2.isList hsz (by omega) (fun j h1 h2 => ?_) X.prog X.w _ _ ?_
  · have k := sm_run (A := X.A.in1) (s := s) hp r1 r2 j (by simpa using h1) (by simpa using h2)
    simpa using k
  · rw [show ((List.range us.toArray.size).all fun _ => true) = true from List.all_eq_true.mpr fun _ _ => rfl]
    exact ⟨.bl false, H, I, rfl, q⟩
end Pk

/-! ## More rules: a classmethod without arguments, texts times numbers, repr of a list with an empty dict, find -/
namespace Pk
open PySem PySem.Spec PyProof.Rows L2 TL SX
section
variable {X : Cx} {CX : CXT} {k : Nat} {E : L2.St → XK} {sp : Sp}
/-- C.m(), m a classmethod -/
theorem pe_cmeth0S {C p g : Addr} {mc : Value} {o : Expr} {m : Str} {pos apos : Pos} {ta : TE} {pl : Sem Bool} (he : PE X o ta) (r : ClX.CRead X.K C mc) (c : ClX.CMet X.K C mc m p g) (F : FnR X.prog X.w X.K X.mg X.base CX k g sp) (hr : Room k X.A)
    (hx : ∀ σ, PassesAt CX X σ (E σ))
    (ht : eval (.Call (.Attribute o m apos) [] [] pos) X.env = (do
      let ov ← eval o X.env
      standAt apos.atName
      let (f, first) ← holding [ov] (getMethod ov m pl)
      callWith pos f first (backTo pos (starEach [] X.env)) (backToKw pos (keywordEach [] X.env))) := by rfl) :
    PE X (.Call (.Attribute o m apos) [] [] pos) (tCMethS C sp E ta tNil) := by
  refine ⟨fun pins s σ H Q I h => ?_⟩
  refine PySem.W.methodCall_KW (pl := pl) (thn (he.run pins s σ H _ I h) fun u s1 ⟨x, H1, I1, rx, ex, q⟩ => ?_) ht
  subst ex
  obtain rfl : u = Value.ref C := rx
  refine ClX.getmethcm_ok I1 r c fun s2 I2 => ?_
  refine PySem.W.callWith_M0 (K := X.K) (self := Value.ref C) (g := g) ⟨ClX.pin_at I2, I2.kIn⟩ c.fi ?_
  have z := wpAny_call (PySem.W.method_call (ClX.pin_at I2) (run_fnRS (us := [Value.ref C]) (vs := [V.ref C]) F hr (hx σ) I2 (.cons rfl .nil) q))
  exact thn z fun _ _ y => ClX.unpinE y
end
/-! ### a text times a number -/
theorem fold_reps (a : Array Nat) : ∀ (n : Nat) (b : Array Nat), ((List.replicate n a).foldl (· ++ ·) b).toList = b.toList ++ (List.replicate n a.toList).flatten
  | 0, b => by simp
  | n + 1, b => by
    rw [List.replicate_succ, List.foldl_cons, fold_reps a n, List.replicate_succ, List.flatten_cons, Array.toList_append, List.append_assoc]
theorem len_reps (l : List Nat) : ∀ n, (List.replicate n l).flatten.length = l.length * n
  | 0 => by simp
  | n + 1 => by
    rw [List.replicate_succ, List.flatten_cons, List.length_append, len_reps l n, Nat.mul_succ]
    omega
def rMulS : R2 := fun x y H Q => ∃ (l : List Nat) (n : Nat), x = .str (S l) ∧ y = .int (n : Int) ∧ l ≠ [] ∧ 2 ≤ n ∧ l.length * n ≤ 100000 ∧ Q (.str (S (List.replicate n l).flatten)) H
theorem op_mulS {X : Cx} : OpR X (binaryOp .Mult) rMulS := by
  intro pins s σ H x y v u Q I rx ry h
  obtain ⟨l, n, rfl, rfl, hne, h2, hz, q⟩ := h
  obtain ⟨t, rfl⟩ := rx
  obtain ⟨t', rfl⟩ := ry
  have hl : (S l).length = l.length := S_len l
  have hn : n ≤ 100000 := Nat.le_trans (Nat.le_mul_of_pos_left n (List.length_pos_iff.mpr hne)) hz
  have h0 : ((n : Int) == 1 || (S l).length == 0) = false := by
    have h1 : l.length ≠ 0 := fun e => hne (List.length_eq_zero_iff.mp e)
    rw [hl]
    rw [Bool.or_eq_false_iff]
    exact ⟨beq_eq_false_iff_ne.mpr (by omega), beq_eq_false_iff_ne.mpr h1⟩
  have et : (⟨(List.replicate ((n : Int)).toNat (S l).cps).foldl (· ++ ·) #[]⟩ : Str) = S (List.replicate n l).flatten := by
    refine ext_tl ?_
    show ((List.replicate ((n : Int)).toNat (S l).cps).foldl (· ++ ·) #[]).toList = (S (List.replicate n l).flatten).cps.toList
    rw [fold_reps, Int.toNat_natCast]
    show [] ++ (List.replicate n (S l).cps.toList).flatten = _
    rw [List.nil_append]
  have hz2 : l.length * n ≤ sizeLine := by
    rw [sizeLine_eq]
    omega
  refine PySem.P.mul_str (x := S l) (n := (n : Int)) ?_ ?_ ?_ ?_
  · rw [Bool.or_eq_false_iff]
    exact ⟨decide_eq_false (by omega), decide_eq_false (by omega)⟩
  · intro _ _
    rw [hl]
    have h1 : l.length ≤ 100000 := Nat.le_trans (Nat.le_mul_of_pos_right _ (by omega)) hz
    have : (2 ^ 63 - 1 : Int) / (n : Int) ≥ 100000 := by
      refine (Int.le_ediv_iff_mul_le (by omega)).mpr ?_
      omega
    omega
  · intro _ _
    rw [hl, Int.toNat_natCast]
    show decide (l.length * n > sizeLine) = false
    exact decide_eq_false (by omega)
  · rw [if_neg (by omega), if_neg (by rw [h0]; exact Bool.false_ne_true), et]
    have hlen : (S (List.replicate n l).flatten).length ≤ sizeLine := by
      rw [S_len, len_reps]
      exact hz2
    exact ⟨hlen, ⟨.str _, H, I.tok _, ⟨_, rfl⟩, q⟩⟩
/-! ### repr of a list of a text and an empty dict -/
def rReprD : List V → Hp → VK → Prop := fun xs H Q => ∃ (a dd : Addr), xs = [.ref a] ∧ a ≠ sysModules ∧ H a = some (.lst [.str "version", .ref dd]) ∧ H dd = some (.dK []) ∧ Q (.str (PyData.shown (.list [.str "version", .dict []]))) H
theorem call_reprD {X : Cx} (hgu : X.A.guards = some []) (hu : X.A.units + 64 < cLine) : CallR X (.builtin "repr") rReprD := by
  intro pins s σ H xs us Q I r h
  obtain ⟨a, dd, rfl, na, ha, hd, q⟩ := h
  obtain ⟨u, rfl, rx⟩ := vals1 r
  obtain rfl : u = Value.ref a := rx
  obtain ⟨us, rv, ⟨o, n, ho, hc, _, hdt⟩, _⟩ := I.list (.inl (.inl ha))
  obtain ⟨hz, hS, vs, r, m⟩ : ([] : List (Key × V)).length ≤ sizeLine ∧ (dd == sysModules) = false ∧ ∃ vs, KV [] vs ∧ s.heap.DictOf (mixKind X.prog X.w) dd vs := I.hok dd _ hd
  cases r
  obtain ⟨o2, es, ep, ho2, hx, hd2, _, hp, _⟩ := m
  have he : es.toList = [] := by
    cases h : es.toList with
    | nil => rfl
    | cons e r =>
      rw [h] at hp
      cases hp
  cases rv with
  | cons r1 rr =>
    cases rr with
    | cons r2 rr =>
      cases rr
      obtain ⟨tk, rfl⟩ := r1
      have r2' : _ = Value.ref dd := r2
      subst r2'
      have rd : Reads s.heap (.ref dd) (.dict []) _ := Reads.dict ho2 hx.1 hd2 (by rw [he]; exact ReadsAll.nil) (by rw [he]; exact ReadsAll.nil)
      have rl := Reads.list ho hc hdt (ReadsAll.cons (Reads.str _ tk) (ReadsAll.cons rd ReadsAll.nil))
      refine repr_of_reads' (h₀ := s.heap) rl (by decide +kernel) (fun _ => ?_) hgu (by show X.A.units + (2 + 1) < cLine; omega) (fun _ _ e => e) (fun h' v tk hk => ⟨.str _, H, I.kept hk, ⟨v, rfl⟩, q⟩) (by decide +kernel)
      have nd : dd ≠ sysModules := by
        rintro rfl
        simp at hS
      simp [Ne.symm na, Ne.symm nd]
/-- either rule -/
theorem callR_or {X : Cx} {f : Value} {r1 r2 : List V → Hp → VK → Prop} (h1 : CallR X f r1) (h2 : CallR X f r2) : CallR X f (fun xs H Q => r1 xs H Q ∨ r2 xs H Q) := by
  intro pins s σ H xs us Q I r h
  rcases h with h | h
  · exact h1 pins s σ H xs us Q I r h
  · exact h2 pins s σ H xs us Q I r h
/-- a list whose place is none of the first ones -/
def tLstN (t : TA) : TE := fun σ H Q => t σ H fun xs H1 => xs.length ≤ sizeLine ∧ ∀ p, H1 p = none → p ≠ sysModules → Q (.ref p) (upd H1 p (.lst xs))
theorem pe_lstN {X : Cx} {es : List Expr} {pos : Pos} {t : TA} (h : PA X es t) : PE X (.List es pos) (tLstN t) := by
  refine ⟨fun pins s σ H Q I hq => ?_⟩
  refine wpAny_List_spliced (thn (h.run pos pins s σ H _ I hq) fun us s1 ⟨xs, H1, I1, r, z, q⟩ => ⟨by rw [← r.length]; exact z, ?_⟩)
  have hf : H1 s1.heap.objs.size = none := I1.hok.fresh (Nat.le_refl _)
  have hb : s1.heap.objs.size ≠ sysModules := by
    have lt : mainGlobals < s1.heap.objs.size := by
      obtain ⟨o, es, ep, e, _⟩ := I1.ok.mod.glob
      exact Heap.lt_size (I1.bk _ _ e)
    intro e
    rw [e] at lt
    exact absurd lt (by decide)
  refine ⟨.ref s1.heap.objs.size, upd H1 s1.heap.objs.size (.lst xs), I1.laid (t' := s1.toks) (fun b u e => Heap.get?_push_of_some _ e) (Nat.le_refl _) ?_, rfl, q _ hf hb⟩
  exact ⟨z, us, 0, r, Heap.get?_push_size _ rfl⟩
/-! ### find -/
theorem find_par (x y : Str) (hy : tl y ≠ []) : (∃ p q, par (tl y) [] (tl x) = some (p, q) ∧ Txt.find x y = (p.length : Int) ∧ tl x = p ++ (tl y ++ q)) ∨ (par (tl y) [] (tl x) = none ∧ Txt.find x y = -1) := by
  have hl := len_tl y
  have hx := len_tl x
  unfold Txt.find
  rcases StrLaws.occ_head x y 1 (Nat.le_refl 1) with ⟨e, hn⟩ | ⟨i, r, e, hi, hn⟩
  · have run := par_run (tl y) (tl x) (tl x).length 0 [] (by omega) (fun k _ _ => no_at hy (hn k))
    rw [List.drop_zero, Nat.zero_add, List.drop_length] at run
    rw [e, run]
    exact .inr ⟨rfl, rfl⟩
  · have hb : i + y.length ≤ x.length := hi.1
    have run := par_run (tl y) (tl x) i 0 [] (by omega) (fun k _ k2 => no_at hy (hn k (by omega)))
    rw [List.drop_zero, Nat.zero_add, List.nil_append, par_at hy ((at_iff hy i).mp hi)] at run
    rw [e, run]
    refine .inl ⟨_, _, rfl, ?_, ?_⟩
    · show (i : Int) = _
      rw [List.length_take]
      omega
    · have hp := (at_iff hy i).mp hi
      have e3 : ((tl x).drop i).take (tl y).length = tl y := by
        unfold pre at hp
        simpa using hp
      conv => lhs; rw [← List.take_append_drop i (tl x), ← List.take_append_drop (tl y).length ((tl x).drop i), e3, List.drop_drop]
/-! ### a list compared with the empty one -/
def rEqNil (K : PySem.W.Frag) : R2 := fun x y H Q => ∃ a b xs, x = .ref a ∧ y = .ref b ∧ SqL K H a xs ∧ SqL K H b [] ∧ Q (.bl xs.isEmpty) H
def rNeNil (K : PySem.W.Frag) : R2 := fun x y H Q => ∃ a b xs, x = .ref a ∧ y = .ref b ∧ SqL K H a xs ∧ SqL K H b [] ∧ Q (.bl (!xs.isEmpty)) H
theorem op_neNil {X : Cx} (hu : X.A.units + 64 < cLine) : OpR X (compareOp .NotEq) (rNeNil X.K) := by
  intro pins s σ H x y v u Q I rx ry h
  obtain ⟨a, b, xs, rfl, rfl, ha, hb, q⟩ := h
  cases (show v = Value.ref a from rx)
  cases (show u = Value.ref b from ry)
  obtain ⟨us, r1, p1, _⟩ := I.list ha
  obtain ⟨ws, r2, p2, _⟩ := I.list hb
  cases r2
  cases xs with
  | nil =>
    cases r1
    refine SeqAt.RcNeAt.lists (e := fun _ => true) p1.isList p2.isList rfl (by omega) (fun j h1 _ => absurd h1 (by simp)) X.prog X.w _ _ ?_
    exact ⟨.bl false, H, I, rfl, q⟩
  | cons x xs =>
    cases r1 with
    | cons ra rb => exact SeqAt.RcNeAt.lists_lengths p1.isList p2.isList (by simp [bne]) (by omega) X.prog X.w _ _ ⟨.bl true, H, I, rfl, q⟩
theorem op_eqNil {X : Cx} (hu : X.A.units + 64 < cLine) : OpR X (compareOp .Eq) (rEqNil X.K) := by
  intro pins s σ H x y v u Q I rx ry h
  obtain ⟨a, b, xs, rfl, rfl, ha, hb, q⟩ := h
  cases (show v = Value.ref a from rx)
  cases (show u = Value.ref b from ry)
  obtain ⟨us, r1, p1, _⟩ := I.list ha
  obtain ⟨ws, r2, p2, _⟩ := I.list hb
  cases r2
  cases xs with
  | nil =>
    cases r1
    refine SeqAt.RcAt.lists (e := fun _ => true) p1.isList p2.isList rfl (by omega) (fun j h1 _ => absurd h1 (by simp)) X.prog X.w _ _ ?_
    exact ⟨.bl true, H, I, rfl, q⟩
  | cons x xs =>
    cases r1 with
    | cons ra rb => exact SeqAt.RcAt.lists_lengths p1.isList p2.isList (by simp [bne]) (by omega) X.prog X.w _ _ ⟨.bl false, H, I, rfl, q⟩
end Pk

/-! ## Rules inside a try, the table of classes named -/
namespace Pk
open PySem PySem.Spec PyProof.Rows L2
section
variable {X : Cx} {KK : PySem.W.Frag}
theorem call_len_seqK (hK : X.K = KK) : CallR X (.builtin "len") (fun xs H Q => ∃ p ys, xs = [.ref p] ∧ (SqL KK H p ys ∨ SqT KK H p ys) ∧ Q (.int ys.length) H) := by
  subst hK
  exact call_len_seq
theorem op_eqNilK (hK : X.K = KK) (hu : X.A.units + 64 < cLine) : OpR X (compareOp .Eq) (rEqNil KK) := by
  subst hK
  exact op_eqNil hu
end
end Pk

namespace Pk
open PySem L2
open ClX (CRead CMet CVal)
def top (i : Nat) : Stmt := PySem.Challenge.pw_parcelindex_k03_versions_read_and_writte.main.body.getD i (.Pass ⟨0, 0, 0, 0⟩)
abbrev s_is_whole : Stmt := top 2
abbrev N_is_whole : List Str := ["thing"]
abbrev P_is_whole : List Str := ["thing"]
theorem S_is_whole : FnScope N_is_whole P_is_whole (defScope s_is_whole) := ⟨rfl, rfl, rfl, by decide +kernel, rfl, by decide +kernel, by decide +kernel⟩
abbrev s_is_count : Stmt := top 3
abbrev N_is_count : List Str := ["thing"]
abbrev P_is_count : List Str := ["thing"]
theorem S_is_count : FnScope N_is_count P_is_count (defScope s_is_count) := ⟨rfl, rfl, rfl, by decide +kernel, rfl, by decide +kernel, by decide +kernel⟩
abbrev s_is_whole_to : Stmt := top 4
abbrev N_is_whole_to : List Str := ["thing", "last"]
abbrev P_is_whole_to : List Str := ["thing", "last"]
theorem S_is_whole_to : FnScope N_is_whole_to P_is_whole_to (defScope s_is_whole_to) := ⟨rfl, rfl, rfl, by decide +kernel, rfl, by decide +kernel, by decide +kernel⟩
abbrev s_consists_of : Stmt := top 5
abbrev N_consists_of : List Str := ["text", "signs", "sign"]
abbrev P_consists_of : List Str := ["text", "signs"]
theorem S_consists_of : FnScope N_consists_of P_consists_of (defScope s_consists_of) := ⟨rfl, rfl, rfl, by decide +kernel, rfl, by decide +kernel, by decide +kernel⟩
abbrev s_is_string_of : Stmt := top 6
abbrev N_is_string_of : List Str := ["thing", "signs", "most"]
abbrev P_is_string_of : List Str := ["thing", "signs", "most"]
theorem S_is_string_of : FnScope N_is_string_of P_is_string_of (defScope s_is_string_of) := ⟨rfl, rfl, rfl, by decide +kernel, rfl, by decide +kernel, by decide +kernel⟩
abbrev s_number_in : Stmt := top 7
abbrev N_number_in : List Str := ["text", "last", "number"]
abbrev P_number_in : List Str := ["text", "last"]
theorem S_number_in : FnScope N_number_in P_number_in (defScope s_number_in) := ⟨rfl, rfl, rfl, by decide +kernel, rfl, by decide +kernel, by decide +kernel⟩
abbrev s_stage_of_text : Stmt := top 19
abbrev N_stage_of_text : List Str := ["text", "at", "word", "front", "found", "back", "number"]
abbrev P_stage_of_text : List Str := ["text"]
theorem S_stage_of_text : FnScope N_stage_of_text P_stage_of_text (defScope s_stage_of_text) := ⟨rfl, rfl, rfl, by decide +kernel, rfl, by decide +kernel, by decide +kernel⟩
abbrev s_parts_of_text : Stmt := top 20
abbrev N_parts_of_text : List Str := ["thing", "front", "stage", "numbers", "part"]
abbrev P_parts_of_text : List Str := ["thing"]
theorem S_parts_of_text : FnScope N_parts_of_text P_parts_of_text (defScope s_parts_of_text) := ⟨rfl, rfl, rfl, by decide +kernel, rfl, by decide +kernel, by decide +kernel⟩
abbrev s_rank_of : Stmt := top 21
abbrev N_rank_of : List Str := ["numbers", "stage", "rank", "number"]
abbrev P_rank_of : List Str := ["numbers", "stage"]
theorem S_rank_of : FnScope N_rank_of P_rank_of (defScope s_rank_of) := ⟨rfl, rfl, rfl, by decide +kernel, rfl, by decide +kernel, by decide +kernel⟩
abbrev s_numbers_at : Stmt := top 22
abbrev N_numbers_at : List Str := ["rank", "row"]
abbrev P_numbers_at : List Str := ["rank"]
theorem S_numbers_at : FnScope N_numbers_at P_numbers_at (defScope s_numbers_at) := ⟨rfl, rfl, rfl, by decide +kernel, rfl, by decide +kernel, by decide +kernel⟩
abbrev s_text_of_numbers : Stmt := top 23
abbrev N_text_of_numbers : List Str := ["numbers", "many", "number"]
abbrev P_text_of_numbers : List Str := ["numbers"]
theorem S_text_of_numbers : FnScope N_text_of_numbers P_text_of_numbers (defScope s_text_of_numbers) := ⟨rfl, rfl, rfl, by decide +kernel, rfl, by decide +kernel, by decide +kernel⟩
abbrev s_text_of_stage : Stmt := top 24
abbrev N_text_of_stage : List Str := ["stage"]
abbrev P_text_of_stage : List Str := ["stage"]
theorem S_text_of_stage : FnScope N_text_of_stage P_text_of_stage (defScope s_text_of_stage) := ⟨rfl, rfl, rfl, by decide +kernel, rfl, by decide +kernel, by decide +kernel⟩
abbrev s_text_at : Stmt := top 25
abbrev N_text_at : List Str := ["rank"]
abbrev P_text_at : List Str := ["rank"]
theorem S_text_at : FnScope N_text_at P_text_at (defScope s_text_at) := ⟨rfl, rfl, rfl, by decide +kernel, rfl, by decide +kernel, by decide +kernel⟩
abbrev s_Version_init : Stmt := inClass (top 26) 1
abbrev N_Version_init : List Str := ["self", "text", "parts", "numbers", "stage"]
abbrev P_Version_init : List Str := ["self", "text"]
theorem S_Version_init : FnScope N_Version_init P_Version_init (defScope s_Version_init) := ⟨rfl, rfl, rfl, by decide +kernel, rfl, by decide +kernel, by decide +kernel⟩
abbrev s_Version_of : Stmt := inClass (top 26) 2
abbrev N_Version_of : List Str := ["cls", "numbers", "good", "number"]
abbrev P_Version_of : List Str := ["cls", "numbers"]
theorem S_Version_of : FnScope N_Version_of P_Version_of (defScope s_Version_of) := ⟨rfl, rfl, rfl, by decide +kernel, rfl, by decide +kernel, by decide +kernel⟩
abbrev s_Version_at : Stmt := inClass (top 26) 3
abbrev N_Version_at : List Str := ["cls", "rank"]
abbrev P_Version_at : List Str := ["cls", "rank"]
theorem S_Version_at : FnScope N_Version_at P_Version_at (defScope s_Version_at) := ⟨rfl, rfl, rfl, by decide +kernel, rfl, by decide +kernel, by decide +kernel⟩
abbrev s_Version_numbers : Stmt := inClass (top 26) 4
abbrev N_Version_numbers : List Str := ["self"]
abbrev P_Version_numbers : List Str := ["self"]
theorem S_Version_numbers : FnScope N_Version_numbers P_Version_numbers (defScope s_Version_numbers) := ⟨rfl, rfl, rfl, by decide +kernel, rfl, by decide +kernel, by decide +kernel⟩
abbrev s_Version_is_early : Stmt := inClass (top 26) 5
abbrev N_Version_is_early : List Str := ["self"]
abbrev P_Version_is_early : List Str := ["self"]
theorem S_Version_is_early : FnScope N_Version_is_early P_Version_is_early (defScope s_Version_is_early) := ⟨rfl, rfl, rfl, by decide +kernel, rfl, by decide +kernel, by decide +kernel⟩
abbrev s_Version_rank : Stmt := inClass (top 26) 6
abbrev N_Version_rank : List Str := ["self"]
abbrev P_Version_rank : List Str := ["self"]
theorem S_Version_rank : FnScope N_Version_rank P_Version_rank (defScope s_Version_rank) := ⟨rfl, rfl, rfl, by decide +kernel, rfl, by decide +kernel, by decide +kernel⟩
abbrev s_Version_str : Stmt := inClass (top 26) 12
abbrev N_Version_str : List Str := ["self"]
abbrev P_Version_str : List Str := ["self"]
theorem S_Version_str : FnScope N_Version_str P_Version_str (defScope s_Version_str) := ⟨rfl, rfl, rfl, by decide +kernel, rfl, by decide +kernel, by decide +kernel⟩
abbrev s_begin : Stmt := top 28
abbrev N_begin : List Str := ["_law_script"]
abbrev P_begin : List Str := ["_law_script"]
theorem S_begin : FnScope N_begin P_begin (defScope s_begin) := ⟨rfl, rfl, rfl, by decide +kernel, rfl, by decide +kernel, by decide +kernel⟩
abbrev s_mixed : Stmt := top 29
abbrev N_mixed : List Str := ["_law_cell", "_law_k", "_law_mixed_here"]
abbrev P_mixed : List Str := ["_law_cell", "_law_k"]
theorem S_mixed : FnScope N_mixed P_mixed (defScope s_mixed) := ⟨rfl, rfl, rfl, by decide +kernel, rfl, by decide +kernel, by decide +kernel⟩
abbrev s_next : Stmt := top 30
abbrev N_next : List Str := ["_law_draw", "_law_bound", "_law_found", "_law_every", "_law_cell"]
abbrev P_next : List Str := ["_law_draw", "_law_bound"]
theorem S_next : FnScope N_next P_next (defScope s_next) := ⟨rfl, rfl, rfl, by decide +kernel, rfl, by decide +kernel, by decide +kernel⟩
abbrev s_number : Stmt := top 31
abbrev N_number : List Str := ["_law_draw"]
abbrev P_number : List Str := ["_law_draw"]
theorem S_number : FnScope N_number P_number (defScope s_number) := ⟨rfl, rfl, rfl, by decide +kernel, rfl, by decide +kernel, by decide +kernel⟩
abbrev s_parts : Stmt := top 32
abbrev N_parts : List Str := ["_law_draw", "_law_figures", "_law_stage", "_law_k"]
abbrev P_parts : List Str := ["_law_draw"]
theorem S_parts : FnScope N_parts P_parts (defScope s_parts) := ⟨rfl, rfl, rfl, by decide +kernel, rfl, by decide +kernel, by decide +kernel⟩
abbrev s_written : Stmt := top 33
abbrev N_written : List Str := ["_law_parts_here", "_law_figures", "_law_stage", "_law_behind", "_law_one"]
abbrev P_written : List Str := ["_law_parts_here"]
theorem S_written : FnScope N_written P_written (defScope s_written) := ⟨rfl, rfl, rfl, by decide +kernel, rfl, by decide +kernel, by decide +kernel⟩
abbrev s_row : Stmt := top 34
abbrev N_row : List Str := ["_law_parts_here", "_law_figures", "_law_stage", "_law_behind"]
abbrev P_row : List Str := ["_law_parts_here"]
theorem S_row : FnScope N_row P_row (defScope s_row) := ⟨rfl, rfl, rfl, by decide +kernel, rfl, by decide +kernel, by decide +kernel⟩
abbrev s_rank : Stmt := top 35
abbrev N_rank : List Str := ["_law_parts_here", "_law_row_here", "_law_front"]
abbrev P_rank : List Str := ["_law_parts_here"]
theorem S_rank : FnScope N_rank P_rank (defScope s_rank) := ⟨rfl, rfl, rfl, by decide +kernel, rfl, by decide +kernel, by decide +kernel⟩
abbrev s_short : Stmt := top 37
abbrev N_short : List Str := ["_law_parts_here", "_law_figures", "_law_stage", "_law_behind", "_law_row_here"]
abbrev P_short : List Str := ["_law_parts_here"]
theorem S_short : FnScope N_short P_short (defScope s_short) := ⟨rfl, rfl, rfl, by decide +kernel, rfl, by decide +kernel, by decide +kernel⟩
abbrev s_bent : Stmt := top 38
abbrev N_bent : List Str := ["_law_draw", "_law_words", "_law_at", "_law_sign", "_law_some"]
abbrev P_bent : List Str := ["_law_draw", "_law_words"]
theorem S_bent : FnScope N_bent P_bent (defScope s_bent) := ⟨rfl, rfl, rfl, by decide +kernel, rfl, by decide +kernel, by decide +kernel⟩
abbrev s_figure : Stmt := top 39
abbrev N_figure : List Str := ["_law_words", "_law_sign"]
abbrev P_figure : List Str := ["_law_words"]
theorem S_figure : FnScope N_figure P_figure (defScope s_figure) := ⟨rfl, rfl, rfl, by decide +kernel, rfl, by decide +kernel, by decide +kernel⟩
abbrev s_read : Stmt := top 40
abbrev N_read : List Str := ["_law_words", "_law_front", "_law_stage", "_law_behind", "_law_word_here", "_law_at", "_law_figures", "_law_part"]
abbrev P_read : List Str := ["_law_words"]
theorem S_read : FnScope N_read P_read (defScope s_read) := ⟨rfl, rfl, rfl, by decide +kernel, rfl, by decide +kernel, by decide +kernel⟩
abbrev s_word : Stmt := top 41
abbrev N_word : List Str := ["_law_way", "_law_what", "_law_caught", "_law_found", "e"]
abbrev P_word : List Str := ["_law_way", "_law_what"]
theorem S_word : FnScope N_word P_word (defScope s_word) := ⟨rfl, rfl, rfl, by decide +kernel, rfl, by decide +kernel, by decide +kernel⟩
abbrev s_is_of : Stmt := top 42
abbrev N_is_of : List Str := ["_law_version", "_law_parts_here"]
abbrev P_is_of : List Str := ["_law_version", "_law_parts_here"]
theorem S_is_of : FnScope N_is_of P_is_of (defScope s_is_of) := ⟨rfl, rfl, rfl, by decide +kernel, rfl, by decide +kernel, by decide +kernel⟩
abbrev s_read_right : Stmt := top 43
abbrev N_read_right : List Str := ["_law_what", "_law_found", "_law_due"]
abbrev P_read_right : List Str := ["_law_what"]
theorem S_read_right : FnScope N_read_right P_read_right (defScope s_read_right) := ⟨rfl, rfl, rfl, by decide +kernel, rfl, by decide +kernel, by decide +kernel⟩
abbrev s_of_word : Stmt := top 44
abbrev N_of_word : List Str := ["_law_figures", "_law_caught", "_law_found", "e"]
abbrev P_of_word : List Str := ["_law_figures"]
theorem S_of_word : FnScope N_of_word P_of_word (defScope s_of_word) := ⟨rfl, rfl, rfl, by decide +kernel, rfl, by decide +kernel, by decide +kernel⟩
abbrev s_of_right : Stmt := top 45
abbrev N_of_right : List Str := ["_law_draw", "_law_figures", "_law_found", "_law_odd", "_law_at", "_law_bad"]
abbrev P_of_right : List Str := ["_law_draw", "_law_figures"]
theorem S_of_right : FnScope N_of_right P_of_right (defScope s_of_right) := ⟨rfl, rfl, rfl, by decide +kernel, rfl, by decide +kernel, by decide +kernel⟩
abbrev s_law : Stmt := top 46
abbrev N_law : List Str := ["_law_script", "_law_draw", "_law_turn", "_law_parts_here", "_law_words", "_law_spot", "_law_odd", "_law_what", "_law_bad"]
abbrev P_law : List Str := ["_law_script"]
theorem S_law : FnScope N_law P_law (defScope s_law) := ⟨rfl, rfl, rfl, by decide +kernel, rfl, by decide +kernel, by decide +kernel⟩
abbrev s_BadVersion_init : Stmt := inClass (top 10) 0
abbrev N_BadVersion_init : List Str := ["self", "given"]
abbrev P_BadVersion_init : List Str := ["self", "given"]
theorem S_BadVersion_init : FnScope N_BadVersion_init P_BadVersion_init (defScope s_BadVersion_init) := ⟨rfl, rfl, rfl, by decide +kernel, rfl, by decide +kernel, by decide +kernel⟩
abbrev s_BadCount_init : Stmt := inClass (top 11) 0
abbrev N_BadCount_init : List Str := ["self", "given"]
abbrev P_BadCount_init : List Str := ["self", "given"]
theorem S_BadCount_init : FnScope N_BadCount_init P_BadCount_init (defScope s_BadCount_init) := ⟨rfl, rfl, rfl, by decide +kernel, rfl, by decide +kernel, by decide +kernel⟩
structure Ad where
  a_is_whole : Addr
  d_is_whole : FuncData
  a_is_count : Addr
  d_is_count : FuncData
  a_is_whole_to : Addr
  d_is_whole_to : FuncData
  a_consists_of : Addr
  d_consists_of : FuncData
  a_is_string_of : Addr
  d_is_string_of : FuncData
  a_number_in : Addr
  d_number_in : FuncData
  a_stage_of_text : Addr
  d_stage_of_text : FuncData
  a_parts_of_text : Addr
  d_parts_of_text : FuncData
  a_rank_of : Addr
  d_rank_of : FuncData
  a_numbers_at : Addr
  d_numbers_at : FuncData
  a_text_of_numbers : Addr
  d_text_of_numbers : FuncData
  a_text_of_stage : Addr
  d_text_of_stage : FuncData
  a_text_at : Addr
  d_text_at : FuncData
  a_Version_init : Addr
  d_Version_init : FuncData
  a_Version_of : Addr
  d_Version_of : FuncData
  a_Version_at : Addr
  d_Version_at : FuncData
  a_Version_numbers : Addr
  d_Version_numbers : FuncData
  a_Version_is_early : Addr
  d_Version_is_early : FuncData
  a_Version_rank : Addr
  d_Version_rank : FuncData
  a_Version_str : Addr
  d_Version_str : FuncData
  a_begin : Addr
  d_begin : FuncData
  a_mixed : Addr
  d_mixed : FuncData
  a_next : Addr
  d_next : FuncData
  a_number : Addr
  d_number : FuncData
  a_parts : Addr
  d_parts : FuncData
  a_written : Addr
  d_written : FuncData
  a_row : Addr
  d_row : FuncData
  a_rank : Addr
  d_rank : FuncData
  a_short : Addr
  d_short : FuncData
  a_bent : Addr
  d_bent : FuncData
  a_figure : Addr
  d_figure : FuncData
  a_read : Addr
  d_read : FuncData
  a_word : Addr
  d_word : FuncData
  a_is_of : Addr
  d_is_of : FuncData
  a_read_right : Addr
  d_read_right : FuncData
  a_of_word : Addr
  d_of_word : FuncData
  a_of_right : Addr
  d_of_right : FuncData
  a_law : Addr
  d_law : FuncData
  a_BadVersion_init : Addr
  d_BadVersion_init : FuncData
  a_BadCount_init : Addr
  d_BadCount_init : FuncData
  a_Version : Addr
  p_Version_of : Addr
  p_Version_at : Addr
  p_Version_numbers : Addr
  p_Version_is_early : Addr
  p_Version_rank : Addr
  t_Version_LAST : Tok
  a_BadVersion : Addr
  a_BadCount : Addr
  a_ParcelError : Addr
  a_ChoiceError : Addr
  a_AbsentError : Addr
  k_STAGES : Addr
  t_DIGITS : Tok
  t_FINAL : Tok
  t_WIDTH : Tok
  t_GREATEST : Tok
structure Tex (K : PySem.W.Frag) (mg : Str → Option Value) (D : Ad) : Prop where
  is_whole_F : Fun K "is_whole" "is_whole" s_is_whole D.a_is_whole D.d_is_whole
  is_whole_g : mg "is_whole" = some (.ref D.a_is_whole)
  is_whole_b : Binds K D.d_is_whole P_is_whole []
  is_count_F : Fun K "is_count" "is_count" s_is_count D.a_is_count D.d_is_count
  is_count_g : mg "is_count" = some (.ref D.a_is_count)
  is_count_b : Binds K D.d_is_count P_is_count []
  is_whole_to_F : Fun K "is_whole_to" "is_whole_to" s_is_whole_to D.a_is_whole_to D.d_is_whole_to
  is_whole_to_g : mg "is_whole_to" = some (.ref D.a_is_whole_to)
  is_whole_to_b : Binds K D.d_is_whole_to P_is_whole_to []
  consists_of_F : Fun K "consists_of" "consists_of" s_consists_of D.a_consists_of D.d_consists_of
  consists_of_g : mg "consists_of" = some (.ref D.a_consists_of)
  consists_of_b : Binds K D.d_consists_of P_consists_of []
  is_string_of_F : Fun K "is_string_of" "is_string_of" s_is_string_of D.a_is_string_of D.d_is_string_of
  is_string_of_g : mg "is_string_of" = some (.ref D.a_is_string_of)
  is_string_of_b : Binds K D.d_is_string_of P_is_string_of []
  number_in_F : Fun K "number_in" "number_in" s_number_in D.a_number_in D.d_number_in
  number_in_g : mg "number_in" = some (.ref D.a_number_in)
  number_in_b : Binds K D.d_number_in P_number_in []
  stage_of_text_F : Fun K "stage_of_text" "stage_of_text" s_stage_of_text D.a_stage_of_text D.d_stage_of_text
  stage_of_text_g : mg "stage_of_text" = some (.ref D.a_stage_of_text)
  stage_of_text_b : Binds K D.d_stage_of_text P_stage_of_text []
  parts_of_text_F : Fun K "parts_of_text" "parts_of_text" s_parts_of_text D.a_parts_of_text D.d_parts_of_text
  parts_of_text_g : mg "parts_of_text" = some (.ref D.a_parts_of_text)
  parts_of_text_b : Binds K D.d_parts_of_text P_parts_of_text []
  rank_of_F : Fun K "rank_of" "rank_of" s_rank_of D.a_rank_of D.d_rank_of
  rank_of_g : mg "rank_of" = some (.ref D.a_rank_of)
  rank_of_b : Binds K D.d_rank_of P_rank_of []
  numbers_at_F : Fun K "numbers_at" "numbers_at" s_numbers_at D.a_numbers_at D.d_numbers_at
  numbers_at_g : mg "numbers_at" = some (.ref D.a_numbers_at)
  numbers_at_b : Binds K D.d_numbers_at P_numbers_at []
  text_of_numbers_F : Fun K "text_of_numbers" "text_of_numbers" s_text_of_numbers D.a_text_of_numbers D.d_text_of_numbers
  text_of_numbers_g : mg "text_of_numbers" = some (.ref D.a_text_of_numbers)
  text_of_numbers_b : Binds K D.d_text_of_numbers P_text_of_numbers []
  text_of_stage_F : Fun K "text_of_stage" "text_of_stage" s_text_of_stage D.a_text_of_stage D.d_text_of_stage
  text_of_stage_g : mg "text_of_stage" = some (.ref D.a_text_of_stage)
  text_of_stage_b : Binds K D.d_text_of_stage P_text_of_stage []
  text_at_F : Fun K "text_at" "text_at" s_text_at D.a_text_at D.d_text_at
  text_at_g : mg "text_at" = some (.ref D.a_text_at)
  text_at_b : Binds K D.d_text_at P_text_at []
  Version_init_F : Fun K "__init__" "Version.__init__" s_Version_init D.a_Version_init D.d_Version_init
  Version_init_b : Binds K D.d_Version_init P_Version_init []
  Version_of_F : Fun K "of" "Version.of" s_Version_of D.a_Version_of D.d_Version_of
  Version_at_F : Fun K "at" "Version.at" s_Version_at D.a_Version_at D.d_Version_at
  Version_at_b : Binds K D.d_Version_at P_Version_at []
  Version_numbers_F : Fun K "numbers" "Version.numbers" s_Version_numbers D.a_Version_numbers D.d_Version_numbers
  Version_numbers_b : Binds K D.d_Version_numbers P_Version_numbers []
  Version_is_early_F : Fun K "is_early" "Version.is_early" s_Version_is_early D.a_Version_is_early D.d_Version_is_early
  Version_is_early_b : Binds K D.d_Version_is_early P_Version_is_early []
  Version_rank_F : Fun K "rank" "Version.rank" s_Version_rank D.a_Version_rank D.d_Version_rank
  Version_rank_b : Binds K D.d_Version_rank P_Version_rank []
  Version_str_F : Fun K "__str__" "Version.__str__" s_Version_str D.a_Version_str D.d_Version_str
  Version_str_b : Binds K D.d_Version_str P_Version_str []
  begin_F : Fun K "_law_begin" "_law_begin" s_begin D.a_begin D.d_begin
  begin_g : mg "_law_begin" = some (.ref D.a_begin)
  begin_b : Binds K D.d_begin P_begin []
  mixed_F : Fun K "_law_mixed" "_law_mixed" s_mixed D.a_mixed D.d_mixed
  mixed_g : mg "_law_mixed" = some (.ref D.a_mixed)
  mixed_b : Binds K D.d_mixed P_mixed []
  next_F : Fun K "_law_next" "_law_next" s_next D.a_next D.d_next
  next_g : mg "_law_next" = some (.ref D.a_next)
  next_b : Binds K D.d_next P_next []
  number_F : Fun K "_law_number" "_law_number" s_number D.a_number D.d_number
  number_g : mg "_law_number" = some (.ref D.a_number)
  number_b : Binds K D.d_number P_number []
  parts_F : Fun K "_law_parts" "_law_parts" s_parts D.a_parts D.d_parts
  parts_g : mg "_law_parts" = some (.ref D.a_parts)
  parts_b : Binds K D.d_parts P_parts []
  written_F : Fun K "_law_written" "_law_written" s_written D.a_written D.d_written
  written_g : mg "_law_written" = some (.ref D.a_written)
  written_b : Binds K D.d_written P_written []
  row_F : Fun K "_law_row" "_law_row" s_row D.a_row D.d_row
  row_g : mg "_law_row" = some (.ref D.a_row)
  row_b : Binds K D.d_row P_row []
  rank_F : Fun K "_law_rank" "_law_rank" s_rank D.a_rank D.d_rank
  rank_g : mg "_law_rank" = some (.ref D.a_rank)
  rank_b : Binds K D.d_rank P_rank []
  short_F : Fun K "_law_short" "_law_short" s_short D.a_short D.d_short
  short_g : mg "_law_short" = some (.ref D.a_short)
  short_b : Binds K D.d_short P_short []
  bent_F : Fun K "_law_bent" "_law_bent" s_bent D.a_bent D.d_bent
  bent_g : mg "_law_bent" = some (.ref D.a_bent)
  bent_b : Binds K D.d_bent P_bent []
  figure_F : Fun K "_law_figure" "_law_figure" s_figure D.a_figure D.d_figure
  figure_g : mg "_law_figure" = some (.ref D.a_figure)
  figure_b : Binds K D.d_figure P_figure []
  read_F : Fun K "_law_read" "_law_read" s_read D.a_read D.d_read
  read_g : mg "_law_read" = some (.ref D.a_read)
  read_b : Binds K D.d_read P_read []
  word_F : Fun K "_law_word" "_law_word" s_word D.a_word D.d_word
  word_g : mg "_law_word" = some (.ref D.a_word)
  word_b : Binds K D.d_word P_word []
  is_of_F : Fun K "_law_is_of" "_law_is_of" s_is_of D.a_is_of D.d_is_of
  is_of_g : mg "_law_is_of" = some (.ref D.a_is_of)
  is_of_b : Binds K D.d_is_of P_is_of []
  read_right_F : Fun K "_law_read_right" "_law_read_right" s_read_right D.a_read_right D.d_read_right
  read_right_g : mg "_law_read_right" = some (.ref D.a_read_right)
  read_right_b : Binds K D.d_read_right P_read_right []
  of_word_F : Fun K "_law_of_word" "_law_of_word" s_of_word D.a_of_word D.d_of_word
  of_word_g : mg "_law_of_word" = some (.ref D.a_of_word)
  of_word_b : Binds K D.d_of_word P_of_word []
  of_right_F : Fun K "_law_of_right" "_law_of_right" s_of_right D.a_of_right D.d_of_right
  of_right_g : mg "_law_of_right" = some (.ref D.a_of_right)
  of_right_b : Binds K D.d_of_right P_of_right []
  law_F : Fun K "law" "law" s_law D.a_law D.d_law
  law_g : mg "law" = some (.ref D.a_law)
  law_b : Binds K D.d_law P_law []
  BadVersion_init_F : Fun K "__init__" "BadVersion.__init__" s_BadVersion_init D.a_BadVersion_init D.d_BadVersion_init
  BadVersion_init_b : Binds K D.d_BadVersion_init P_BadVersion_init []
  BadCount_init_F : Fun K "__init__" "BadCount.__init__" s_BadCount_init D.a_BadCount_init D.d_BadCount_init
  BadCount_init_b : Binds K D.d_BadCount_init P_BadCount_init []
  Version_g : mg "Version" = some (.ref D.a_Version)
  Version_cl : Cls K D.a_Version
  Version_mk : Mk K D.a_Version D.a_Version_init
  Version_rd : CRead K D.a_Version (.type "type")
  Version_si : SlX.SIsi K D.a_Version
  Version_nf : PySem.W.notFirst K D.a_Version (.ref D.a_Version) = true
  Version_n_rank : NoAttr K D.a_Version "_rank"
  Version_init_at : PySem.W.findIn K (.ref D.a_Version) "__init__" = some (some (.ref D.a_Version_init))
  Version_init_fn : PySem.W.isFn K (.ref D.a_Version_init) = true
  Version_of_c : CMet K D.a_Version (.type "type") "of" D.p_Version_of D.a_Version_of
  Version_at_c : CMet K D.a_Version (.type "type") "at" D.p_Version_at D.a_Version_at
  Version_numbers_p : PropOf K D.a_Version "numbers" D.p_Version_numbers D.a_Version_numbers
  Version_is_early_p : PropOf K D.a_Version "is_early" D.p_Version_is_early D.a_Version_is_early
  Version_rank_p : PropOf K D.a_Version "rank" D.p_Version_rank D.a_Version_rank
  Version_str_at : PySem.W.findIn K (.ref D.a_Version) "__str__" = some (some (.ref D.a_Version_str))
  Version_str_fn : PySem.W.isFn K (.ref D.a_Version_str) = true
  Version_LAST : CVal K D.a_Version (.type "type") "LAST" (.int 3000999999999999) (.int 3000999999999999 D.t_Version_LAST)
  BadVersion_g : mg "BadVersion" = some (.ref D.a_BadVersion)
  BadVersion_xa : ExA K D.a_BadVersion
  BadVersion_xi : PySem.W.findIn K (.ref D.a_BadVersion) "__init__" = some (some (.ref D.a_BadVersion_init))
  BadVersion_xt : PySem.W.typeIn K (.ref D.a_BadVersion_init) = some (.type "function")
  BadVersion_xf : PySem.W.findIn K (.ref D.a_BadVersion) "given" = some none
  BadVersion_nm : NmC K D.a_BadVersion
  BadCount_g : mg "BadCount" = some (.ref D.a_BadCount)
  BadCount_xa : ExA K D.a_BadCount
  BadCount_xi : PySem.W.findIn K (.ref D.a_BadCount) "__init__" = some (some (.ref D.a_BadCount_init))
  BadCount_xt : PySem.W.typeIn K (.ref D.a_BadCount_init) = some (.type "function")
  BadCount_xf : PySem.W.findIn K (.ref D.a_BadCount) "given" = some none
  BadCount_nm : NmC K D.a_BadCount
  ParcelError_g : mg "ParcelError" = some (.ref D.a_ParcelError)
  ParcelError_nm : NmC K D.a_ParcelError
  ChoiceError_g : mg "ChoiceError" = some (.ref D.a_ChoiceError)
  ChoiceError_nm : NmC K D.a_ChoiceError
  AbsentError_g : mg "AbsentError" = some (.ref D.a_AbsentError)
  AbsentError_nm : NmC K D.a_AbsentError
  BadVersion_ParcelError_s : PySem.W.subIn K (.ref D.a_BadVersion) (.ref D.a_ParcelError) = some true
  BadVersion_ChoiceError_s : PySem.W.subIn K (.ref D.a_BadVersion) (.ref D.a_ChoiceError) = some false
  BadVersion_AbsentError_s : PySem.W.subIn K (.ref D.a_BadVersion) (.ref D.a_AbsentError) = some false
  BadVersion_BadVersion_s : PySem.W.subIn K (.ref D.a_BadVersion) (.ref D.a_BadVersion) = some true
  BadVersion_BadCount_s : PySem.W.subIn K (.ref D.a_BadVersion) (.ref D.a_BadCount) = some false
  BadCount_ParcelError_s : PySem.W.subIn K (.ref D.a_BadCount) (.ref D.a_ParcelError) = some true
  BadCount_ChoiceError_s : PySem.W.subIn K (.ref D.a_BadCount) (.ref D.a_ChoiceError) = some false
  BadCount_AbsentError_s : PySem.W.subIn K (.ref D.a_BadCount) (.ref D.a_AbsentError) = some false
  BadCount_BadVersion_s : PySem.W.subIn K (.ref D.a_BadCount) (.ref D.a_BadVersion) = some false
  BadCount_BadCount_s : PySem.W.subIn K (.ref D.a_BadCount) (.ref D.a_BadCount) = some true
  Version_init_km : KM K D.d_Version_init P_Version_init ["text"] (fun us => match us with | [x0] => [x0] | _ => []) (fun us => match us with | [x0] => [x0] | _ => [])
  Version_at_km : KM K D.d_Version_at P_Version_at ["rank"] (fun us => match us with | [x0] => [x0] | _ => []) (fun us => match us with | [x0] => [x0] | _ => [])
  c_STAGES : mg "STAGES" = some (.ref D.k_STAGES)
  v_STAGES : SqT K (fun _ => none) D.k_STAGES [.str "a", .str "b", .str "rc"]
  c_DIGITS : mg "DIGITS" = some (.str "0123456789" D.t_DIGITS)
  c_FINAL : mg "FINAL" = some (.int 3000 D.t_FINAL)
  c_WIDTH : mg "WIDTH" = some (.int 3001 D.t_WIDTH)
  c_GREATEST : mg "GREATEST" = some (.int 999 D.t_GREATEST)
  b_all : mg "all" = none
  b_bool : mg "bool" = none
  b_enumerate : mg "enumerate" = none
  b_int : mg "int" = none
  b_isinstance : mg "isinstance" = none
  b_len : mg "len" = none
  b_list : mg "list" = none
  b_min : mg "min" = none
  b_range : mg "range" = none
  b_repr : mg "repr" = none
  b_str : mg "str" = none
  b_tuple : mg "tuple" = none
/-! ## The draws -/
section
variable {P : Program} {w : World} {K : PySem.W.Frag} {mg : Str → Option Value} {base : Heap} {D : Ad}
def drK (c : Addr) (a l u : Int) : List (Key × V) := [(.inr "cells", .ref c), (.inr "at", .int a), (.inr "left", .int l), (.inr "used", .int u)]
theorem ne_ca : ¬ (("cells" : Str) = "at") := by decide +kernel
theorem ne_cl : ¬ (("cells" : Str) = "left") := by decide +kernel
theorem ne_cu : ¬ (("cells" : Str) = "used") := by decide +kernel
theorem ne_al : ¬ (("at" : Str) = "left") := by decide +kernel
theorem ne_au : ¬ (("at" : Str) = "used") := by decide +kernel
theorem ne_lu : ¬ (("left" : Str) = "used") := by decide +kernel
theorem ne_la : ¬ (("left" : Str) = "at") := by decide +kernel
theorem ne_ua : ¬ (("used" : Str) = "at") := by decide +kernel
theorem ne_ul : ¬ (("used" : Str) = "left") := by decide +kernel
theorem dr_cells (c : Addr) (a l u : Int) : valV (drK c a l u) (.inr "cells" : Key) = some (.ref c) := by simp [valV, drK]
theorem dr_at (c : Addr) (a l u : Int) : valV (drK c a l u) (.inr "at" : Key) = some (.int a) := by simp [valV, drK, ne_ca]
theorem dr_left (c : Addr) (a l u : Int) : valV (drK c a l u) (.inr "left" : Key) = some (.int l) := by simp [valV, drK, ne_cl, ne_al]
theorem dr_used (c : Addr) (a l u : Int) : valV (drK c a l u) (.inr "used" : Key) = some (.int u) := by simp [valV, drK, ne_cu, ne_au, ne_lu]
theorem dr_pat (c : Addr) (a l u x : Int) : putK (drK c a l u) (.inr "at" : Key) (.int x) = drK c x l u := by simp [putK, drK, ne_ca, ne_la, ne_ua]
theorem dr_pleft (c : Addr) (a l u x : Int) : putK (drK c a l u) (.inr "left" : Key) (.int x) = drK c a x u := by simp [putK, drK, ne_cl, ne_al, ne_ul]
theorem dr_pused (c : Addr) (a l u x : Int) : putK (drK c a l u) (.inr "used" : Key) (.int x) = drK c a l x := by simp [putK, drK, ne_cu, ne_au, ne_lu]

/-- a draw stands at d, its cells at c, at most n steps were made -/
def Dr (H : Hp) (d c : Addr) (n : Nat) : Prop := ∃ (cs : List Int) (a l u : Int), H d = some (.dK (drK c a l u)) ∧ H c = some (.lst (cs.map V.int)) ∧
  cs ≠ [] ∧ cs.length ≤ 64 ∧ 0 ≤ a ∧ a ≤ n ∧ 0 ≤ l ∧ 0 ≤ u ∧ u ≤ n
/-- all stands but what is at d -/
def But (d : Addr) (H H' : Hp) : Prop := ∀ b o, H b = some o → b ≠ d → H' b = some o
theorem But.refl {d : Addr} {H : Hp} : But d H H := fun _ _ e _ => e
theorem But.trans {d : Addr} {H H1 H2 : Hp} (x : But d H H1) (y : But d H1 H2) : But d H H2 := fun b o e n => y b o (x b o e n) n
theorem But.upd {d : Addr} {H : Hp} {o : HO} : But d H (upd H d o) := fun b u e n => by rw [upd_ne n]; exact e
theorem But.new {d p : Addr} {H H1 : Hp} {o : HO} (x : But d H H1) (h : H1 p = none) : But d H (L2.upd H1 p o) := fun b u e n => by
  have e1 := x b u e n
  rw [upd_ne (ne_of_none e1 h)]
  exact e1
theorem But.free {d p : Addr} {H H' : Hp} (x : But d H H') (hd : d ≠ p) (h : H' p = none) : H p = none := by
  cases q : H p with
  | none => rfl
  | some o =>
    rw [x p o q (Ne.symm hd)] at h
    cases h
theorem But.of_same {d : Addr} {H H' : Hp} (x : Same H H') : But d H H' := fun b o e _ => x b o e
theorem Dr.dict {H : Hp} {d c : Addr} {n : Nat} (h : Dr H d c n) : ∃ o, H d = some (.dK o) := let ⟨_, _, _, _, e, _⟩ := h; ⟨_, e⟩
theorem Dr.cells {H : Hp} {d c : Addr} {n : Nat} (h : Dr H d c n) : ∃ xs, H c = some (.lst xs) := let ⟨_, _, _, _, _, e, _⟩ := h; ⟨_, e⟩
theorem Dr.mono {H : Hp} {d c : Addr} {n m : Nat} (h : Dr H d c n) (q : n ≤ m) : Dr H d c m := by
  obtain ⟨cs, a, l, u, h1, h2, h3, h4, h5, h6, h7, h8, h9⟩ := h
  exact ⟨cs, a, l, u, h1, h2, h3, h4, h5, by omega, h7, h8, by omega⟩
theorem Dr.keep {H H' : Hp} {d c : Addr} {n : Nat} (h : Dr H d c n) (e : Same H H') : Dr H' d c n := by
  obtain ⟨cs, a, l, u, h1, h2, r⟩ := h
  exact ⟨cs, a, l, u, e _ _ h1, e _ _ h2, r⟩
theorem Dr.new {H : Hp} {d c p : Addr} {n : Nat} {o : HO} (h : Dr H d c n) (q : H p = none) : Dr (upd H p o) d c n :=
  h.keep fun b u e => by rw [upd_ne (ne_of_none e q)]; exact e
/-- what is at p changes -/
theorem Dr.off {H : Hp} {d c p : Addr} {n : Nat} {o : HO} (h : Dr H d c n) (hd : d ≠ p) (hc : c ≠ p) : Dr (upd H p o) d c n := by
  obtain ⟨cs, a, l, u, h1, h2, r⟩ := h
  exact ⟨cs, a, l, u, by rw [upd_ne hd]; exact h1, by rw [upd_ne hc]; exact h2, r⟩
theorem Dr.ne_new {H : Hp} {d c p : Addr} {n : Nat} (h : Dr H d c n) (q : H p = none) : d ≠ p := let ⟨_, e⟩ := h.dict; ne_of_none e q
theorem Dr.nc_new {H : Hp} {d c p : Addr} {n : Nat} (h : Dr H d c n) (q : H p = none) : c ≠ p := let ⟨_, e⟩ := h.cells; ne_of_none e q

def spMixed : Sp := fun vs H Q _ => ∃ c k : Int, vs = [.int c, .int k] ∧ 0 ≤ k ∧ k < 2 ^ 60 ∧ ∀ v, Q (.int v) H
theorem ok_mixed (T : Tex K mg D) : FnOk P w K mg base CX0 1 D.a_mixed D.d_mixed P_mixed spMixed := by
  refine T.mixed_F.ok S_mixed (fun vs H Q E h => ?_) (fun cdv A outer s H vs Q E hr h => ?_)
  · obtain ⟨c, k, rfl, _⟩ := h
    rfl
  · obtain ⟨c, k, rfl, h0, h1, q⟩ := h
    refine ⟨_, (pss_cons (ps_set (i := 2) S_mixed.nd rfl (Or.inl rfl) (pe_op op_mod (pe_op op_add (pe_op op_add (pe_op op_add (pe_op op_mod (pv 0) pe_int) (pe_op op_mul (pe_op op_mul pe_int (pv 1)) (pv 1))) (pe_op op_mul pe_int (pv 1))) pe_int) pe_int))
      (pss_cons (ps_set (i := 2) S_mixed.nd rfl (Or.inl rfl) (pe_op op_mod (pe_op op_mul (pe_op op_mod (pe_op op_mul (pv 2) (pv 2)) pe_int) (pv 2)) pe_int))
      (pss_one (ps_ret (pe_op op_fdiv (pe_op op_mod (pe_op op_mul (pv 2) (pe_op op_add pe_int (pe_op op_mul pe_int (pe_op op_mod (pv 1) pe_int)))) pe_int) pe_int))))), ?_⟩
    refine ⟨_, rfl, _, _, rfl, rfl, (posI rfl), ?_⟩
    refine ⟨_, rfl, _, _, rfl, rfl, .inl ⟨by decide, by decide⟩, ?_⟩
    refine ⟨_, rfl, _, _, rfl, rfl, .inr ⟨by omega, by omega⟩, _, _, rfl, rfl, ?_⟩
    refine ⟨_, rfl, _, _, rfl, rfl, .inl ⟨by decide, by decide⟩, _, _, rfl, rfl, _, _, rfl, rfl, _, _, rfl, rfl, (posI rfl), ?_⟩
    generalize hm : (c % 1000000007 + 7919 * k * k + 31 * k + 7) % 2147483647 = m
    have m0 : 0 ≤ m := by rw [← hm]; exact Int.emod_nonneg _ (by decide)
    have m1 : m < 2147483647 := by rw [← hm]; exact Int.emod_lt_of_pos _ (by decide)
    refine ⟨_, rfl, _, rfl, _, _, rfl, rfl, .inl ⟨by omega, by omega⟩, _, _, rfl, rfl, (posI rfl), ?_⟩
    refine ⟨_, rfl, _, _, rfl, rfl, .inr ⟨by omega, by omega⟩, _, _, rfl, rfl, (posI rfl), ?_⟩
    generalize hn : m * m % 2147483647 * m % 2147483629 = n
    have n0 : 0 ≤ n := by rw [← hn]; exact Int.emod_nonneg _ (by decide)
    have n1 : n < 2147483629 := by rw [← hn]; exact Int.emod_lt_of_pos _ (by decide)
    refine ⟨_, rfl, _, rfl, _, _, rfl, rfl, (posI rfl), _, _, rfl, rfl, .inl ⟨by decide, by decide⟩, _, _, rfl, rfl, _, _, rfl, rfl, .inl ⟨by omega, by omega⟩, ?_⟩
    refine ⟨_, _, rfl, rfl, (posI rfl), _, _, rfl, rfl, ⟨by decide, by decide⟩, ?_⟩
    exact q _

def spNext : Sp := fun vs H Q _ => ∃ (d c : Addr) (b : Int) (n : Nat), vs = [.ref d, .int b] ∧ Dr H d c n ∧ n ≤ 10 ^ 12 ∧ 0 < b ∧ b < 2 ^ 30 ∧
  ∀ (v : Int) (H' : Hp), 0 ≤ v → v < b → Dr H' d c (n + 1) → But d H H' → Q (.int v) H'
theorem ok_next (T : Tex K mg D) : FnOk P w K mg base CX0 2 D.a_next D.d_next P_next spNext := by
  have G_mixed : FnOk P w K mg base CX0 1 D.a_mixed D.d_mixed P_mixed spMixed := ok_mixed T
  refine T.next_F.ok S_next (fun vs H Q E h => ?_) (fun cdv A outer s H vs Q E hr h => ?_)
  · obtain ⟨d, c, b, n, rfl, _⟩ := h
    rfl
  · obtain ⟨d, c, b, n, rfl, ⟨cs, a, l, u, hd, hc, c0, c64, a0, an, l0, u0, un⟩, hn, b0, b1, q⟩ := h
    have hu := hu_of hr
    have ndc : d ≠ c := ne_of hd hc (by intro z; cases z)
    have sz : ∀ c' a' l' u', (drK c' a' l' u').length < sizeLine := fun _ _ _ _ => by show 4 < sizeLine; decide
    have cs0 : 0 < cs.length := List.length_pos_iff.mpr c0
    refine ⟨_, (pss_cons (ps_if (pt_cmpR op_gt (pe_dget hu (pv 0) pe_str (fun _ _ => rfl)) pe_int (nomark _)) (pss_cons (ps_set (i := 2) S_next.nd rfl (Or.inl rfl) (pe_op op_mod (pe_dget hu (pv 0) pe_str (fun _ _ => rfl)) (pv 1)))
      (pss_cons (ps_dput hu (pv 0) pe_str (pe_op op_fdiv (pe_dget hu (pv 0) pe_str (fun _ _ => rfl)) (pv 1)) rfl)
      (pss_one (ps_ret (pv 2))))) pss_nil)
      (pss_cons (ps_set (i := 3) S_next.nd rfl (Or.inl rfl) (pe_dget hu (pv 0) pe_str (fun _ _ => rfl)))
      (pss_cons (ps_set (i := 4) S_next.nd rfl (Or.inl rfl) (pe_ix ix_list (pv 3) (pe_op op_mod (pe_dget hu (pv 0) pe_str (fun _ _ => rfl)) (pe_callB call_len_seq (by rfl) T.b_len (by decide +kernel) (pa_cons (pv 3) pa_nil))) (fun _ _ => rfl)))
      (pss_cons (ps_dput hu (pv 0) pe_str (pe_op op_add (pe_dget hu (pv 0) pe_str (fun _ _ => rfl)) pe_int) rfl)
      (pss_cons (ps_if (PW.pt (pw_and (pt_cmpR op_ge (pv 4) (pe_op op_pow pe_int pe_int) (nomark _)) (pw_and1 (pt_cmpR op_le (pe_dget hu (pv 0) pe_str (fun _ _ => rfl)) (pe_callB call_len_seq (by rfl) T.b_len (by decide +kernel) (pa_cons (pv 3) pa_nil)) (nomark _))))) (pss_cons (ps_dput hu (pv 0) pe_str (pe_op op_fdiv (pv 4) (pv 1)) rfl)
      (pss_one (ps_ret (pe_op op_mod (pv 4) (pv 1))))) pss_nil)
      (pss_cons (ps_dput hu (pv 0) pe_str (pe_op op_add (pe_dget hu (pv 0) pe_str (fun _ _ => rfl)) pe_int) rfl)
      (pss_one (ps_ret (pe_op op_mod (pe_call G_mixed (hr.mono (by decide)) (by rfl) T.mixed_g T.mixed_F.kp T.mixed_b .nil pass0 (pa_cons (pe_call G_mixed (hr.mono (by decide)) (by rfl) T.mixed_g T.mixed_F.kp T.mixed_b .nil pass0 (pa_cons (pv 4) (pa_cons (pe_dget hu (pv 0) pe_str (fun _ _ => rfl)) pa_nil))) (pa_cons (pe_dget hu (pv 0) pe_str (fun _ _ => rfl)) pa_nil))) (pv 1)))))))))), ?_⟩
    refine ⟨_, rfl, d, _, rfl, (by have g := DGet.k (k := .inr "left") hd; rw [dr_left] at g; exact g), _, _, rfl, rfl, _, rfl, ?_⟩
    refine ite2 (fun hl => ?_) (fun hl => ?_)
    · refine ⟨_, rfl, d, _, rfl, (by have g := DGet.k (k := .inr "left") hd; rw [dr_left] at g; exact g), _, rfl, _, _, rfl, rfl, b0, ?_⟩
      refine ⟨_, rfl, d, _, rfl, (by have g := DGet.k (k := .inr "left") hd; rw [dr_left] at g; exact g), _, rfl, _, _, rfl, rfl, ⟨b0, b1⟩, _, rfl, d, _, rfl, DPut.k (k := .inr "left") hd (sz _ _ _ _), ?_⟩
      refine ⟨_, rfl, ?_⟩
      refine q _ _ (Int.emod_nonneg _ (by omega)) (Int.emod_lt_of_pos _ b0) ⟨cs, a, l / b, u, ?_, ?_, c0, c64, a0, by omega, Int.ediv_nonneg l0 (by omega), u0, by omega⟩ But.upd
      · rw [upd_same, dr_pleft]
      · rw [upd_ne ndc.symm]; exact hc
    · refine ⟨_, rfl, d, _, rfl, (by have g := DGet.k (k := .inr "cells") hd; rw [dr_cells] at g; exact g), ?_⟩
      refine ⟨_, rfl, _, rfl, d, _, rfl, (by have g := DGet.k (k := .inr "at") hd; rw [dr_at] at g; exact g), _, rfl, c, _, rfl, .inl (SqL.of hc), _, _, rfl, rfl, (by rw [List.length_map]; show (0 : Int) < (cs.length : Int); omega), ?_⟩
      have hix : 0 ≤ a % ((cs.map V.int).length : Int) ∧ a % ((cs.map V.int).length : Int) < ((cs.map V.int).length : Int) := by
        have e : ((cs.map V.int).length : Int) = (cs.length : Int) := by rw [List.length_map]
        rw [e]
        exact ⟨Int.emod_nonneg _ (by omega), Int.emod_lt_of_pos _ (by omega)⟩
      obtain ⟨x, hx⟩ : ∃ x, (cs.map V.int)[(a % ((cs.map V.int).length : Int)).toNat]? = some (V.int x) := by
        have hlt : (a % ((cs.map V.int).length : Int)).toNat < cs.length := by
          have e : ((cs.map V.int).length : Int) = (cs.length : Int) := by rw [List.length_map]
          omega
        exact ⟨cs[(a % ((cs.map V.int).length : Int)).toNat], by rw [List.getElem?_map, List.getElem?_eq_getElem hlt]; rfl⟩
      refine ⟨c, _, _, _, rfl, rfl, SqL.of hc, (by
        have e : a % ((cs.map V.int).length : Int) = ((a % ((cs.map V.int).length : Int)).toNat : Int) := (Int.toNat_of_nonneg hix.1).symm
        rw [e]
        exact atI_nat hx), ?_⟩
      -- at += 1
      refine ⟨_, rfl, d, _, rfl, (by have g := DGet.k (k := .inr "at") hd; rw [dr_at] at g; exact g), _, _, rfl, rfl, _, rfl, d, _, rfl, DPut.k (k := .inr "at") hd (sz _ _ _ _), ?_⟩
      rw [dr_pat]
      have hd1 : (upd H d (.dK (drK c (a + 1) l u))) d = some (.dK (drK c (a + 1) l u)) := upd_same
      have hc1 : (upd H d (.dK (drK c (a + 1) l u))) c = some (.lst (cs.map V.int)) := by rw [upd_ne ndc.symm]; exact hc
      have bu1 : But d H (upd H d (.dK (drK c (a + 1) l u))) := But.upd
      revert hd1 hc1 bu1
      generalize upd H d (.dK (drK c (a + 1) l u)) = H1
      intro hd1 hc1 bu1
      refine ⟨_, rfl, _, _, rfl, rfl, ⟨by decide, by decide, by decide⟩, _, _, rfl, rfl, _, rfl, ?_⟩
      refine ite2 (fun h18 => ?_) (fun h18 => ?_)
      · refine ⟨_, rfl, d, _, rfl, (by have g := DGet.k (k := .inr "at") hd1; rw [dr_at] at g; exact g), _, rfl, c, _, rfl, .inl (SqL.of hc1), _, _, rfl, rfl, _, rfl, ?_⟩
        refine ite2 (fun hat => ?_) (fun hat => ?_)
        · have x0 : 0 ≤ x := by
            have h2 := of_decide_eq_true h18
            have h3 : (0 : Int) ≤ 10 ^ (18 : Int).toNat := by decide
            omega
          refine ⟨_, rfl, _, rfl, _, _, rfl, rfl, ⟨b0, b1⟩, _, rfl, d, _, rfl, DPut.k (k := .inr "left") hd1 (sz _ _ _ _), ?_⟩
          refine ⟨_, rfl, _, rfl, _, _, rfl, rfl, b0, ?_⟩
          refine q _ _ (Int.emod_nonneg _ (by omega)) (Int.emod_lt_of_pos _ b0) ⟨cs, a + 1, x / b, u, ?_, ?_, c0, c64, by omega, by omega, Int.ediv_nonneg x0 (by omega), u0, by omega⟩ (bu1.trans But.upd)
          · rw [upd_same, dr_pleft]
          · rw [upd_ne ndc.symm]; exact hc1
        ·
          refine ⟨_, rfl, d, _, rfl, (by have g := DGet.k (k := .inr "used") hd1; rw [dr_used] at g; exact g), _, _, rfl, rfl, _, rfl, d, _, rfl, DPut.k (k := .inr "used") hd1 (sz _ _ _ _), ?_⟩
          rw [dr_pused]
          have hd2 : (upd H1 d (.dK (drK c (a + 1) l (u + 1)))) d = some (.dK (drK c (a + 1) l (u + 1))) := upd_same
          have hc2 : (upd H1 d (.dK (drK c (a + 1) l (u + 1)))) c = some (.lst (cs.map V.int)) := by rw [upd_ne ndc.symm]; exact hc1
          refine ⟨_, rfl, _, rfl, d, _, rfl, (by have g := DGet.k (k := .inr "at") hd2; rw [dr_at] at g; exact g), x, a + 1, rfl, by omega, by omega, fun v1 => ?_⟩
          refine ⟨_, rfl, d, _, rfl, (by have g := DGet.k (k := .inr "used") hd2; rw [dr_used] at g; exact g), v1, u + 1, rfl, by omega, by omega, fun v2 => ?_⟩
          refine ⟨_, rfl, _, _, rfl, rfl, b0, ?_⟩
          exact q _ _ (Int.emod_nonneg _ (by omega)) (Int.emod_lt_of_pos _ b0) ⟨cs, a + 1, l, u + 1, hd2, hc2, c0, c64, by omega, by omega, l0, by omega, by omega⟩ (bu1.trans But.upd)
      ·
        refine ⟨_, rfl, d, _, rfl, (by have g := DGet.k (k := .inr "used") hd1; rw [dr_used] at g; exact g), _, _, rfl, rfl, _, rfl, d, _, rfl, DPut.k (k := .inr "used") hd1 (sz _ _ _ _), ?_⟩
        rw [dr_pused]
        have hd2 : (upd H1 d (.dK (drK c (a + 1) l (u + 1)))) d = some (.dK (drK c (a + 1) l (u + 1))) := upd_same
        have hc2 : (upd H1 d (.dK (drK c (a + 1) l (u + 1)))) c = some (.lst (cs.map V.int)) := by rw [upd_ne ndc.symm]; exact hc1
        refine ⟨_, rfl, _, rfl, d, _, rfl, (by have g := DGet.k (k := .inr "at") hd2; rw [dr_at] at g; exact g), x, a + 1, rfl, by omega, by omega, fun v1 => ?_⟩
        refine ⟨_, rfl, d, _, rfl, (by have g := DGet.k (k := .inr "used") hd2; rw [dr_used] at g; exact g), v1, u + 1, rfl, by omega, by omega, fun v2 => ?_⟩
        refine ⟨_, rfl, _, _, rfl, rfl, b0, ?_⟩
        exact q _ _ (Int.emod_nonneg _ (by omega)) (Int.emod_lt_of_pos _ b0) ⟨cs, a + 1, l, u + 1, hd2, hc2, c0, c64, by omega, by omega, l0, by omega, by omega⟩ (bu1.trans But.upd)
end

/-! ## The draws begin -/
section
variable {P : Program} {w : World} {K : PySem.W.Frag} {mg : Str → Option Value} {base : Heap} {D : Ad}
theorem len_app (a b : Str) : (a ++ b).length = a.length + b.length := PySem.strLen_append a b

theorem at_in {α : Type} {xs : List α} {v : Int} (h0 : 0 ≤ v) (h1 : v < (xs.length : Int)) : ∃ x, atI xs v = some x ∧ x ∈ xs := by
  obtain ⟨j, rfl⟩ := Int.eq_ofNat_of_zero_le h0
  have hj : j < xs.length := by omega
  exact ⟨xs[j], atI_nat (List.getElem?_eq_getElem hj), List.getElem_mem hj⟩

/-! ### begin -/
theorem merge_dr (c : Addr) (a l u : Int) : mergeK [] (drK c a l u) = drK c a l u := by simp [mergeK, putK, drK, ne_ca, ne_cl, ne_cu, ne_al, ne_au, ne_lu]
def spBegin (K : PySem.W.Frag) : Sp := fun vs H Q _ => ∃ (a : Addr) (ns : List Int), vs = [.ref a] ∧ Bare K H a (ns.map V.int) ∧ ns.length ≤ 63 ∧ ∀ d c H', H d = none → Same H H' → Dr H' d c 0 → Q (.ref d) H'
theorem ok_begin (T : Tex K mg D) : FnOk P w K mg base CX0 1 D.a_begin D.d_begin P_begin (spBegin K) := by
  refine T.begin_F.ok S_begin (fun vs H Q E h => ?_) (fun cdv A outer s H vs Q E hr h => ?_)
  · obtain ⟨a, ns, rfl, _⟩ := h
    rfl
  · obtain ⟨a, ns, rfl, hb, hl, q⟩ := h
    refine ⟨_, (pss_one (ps_ret (pe_disp (pps_cons pe_str (pe_op op_catS (pv 0) (pe_lst (pa_cons pe_int pa_nil))) (pps_cons pe_str pe_int (pps_cons pe_str pe_int (pps_cons pe_str pe_int pps_nil)))) (by rfl) (by rfl) (fun z => by cases z) (by decide)))), ?_⟩
    intro p hp
    have s1 : Same H (upd H p (.dK [])) := same_new hp
    refine ⟨_, rfl, (by show 1 ≤ sizeLine; decide), fun l hl1 => ⟨a, l, _, _, rfl, rfl, (hb.keep s1).keep (same_new hl1), upd_same, Nat.le_trans (show _ ≤ 1000 by simp; omega) (by decide), fun c hc => ?_⟩⟩
    have s2 := s1.trans (same_new (o := .lst [.int 0]) hl1)
    have s3 := s2.trans (same_new (o := .lst (ns.map V.int ++ [.int 0])) hc)
    have npl : p ≠ l := ne_of_none upd_same hl1
    have npc : p ≠ c := by
      have e : (upd (upd H p (.dK [])) l (.lst [.int 0])) p = some (.dK []) := by rw [upd_ne npl, upd_same]
      exact ne_of_none e hc
    refine ⟨by rw [upd_ne npc, upd_ne npl, upd_same], drK c 0 0 0, rfl, (by show 4 ≤ 15; decide), ?_⟩
    rw [merge_dr]
    refine q p c _ hp (same_upd s3 hp) ⟨ns ++ [0], 0, 0, 0, upd_same, ?_, by simp, by simp; omega, by decide, by decide, by decide, by decide, by decide⟩
    rw [upd_ne npc.symm, upd_same]
    simp

end

/-! ## Versions: the program's defs -/
section
variable {P : Program} {w : World} {K : PySem.W.Frag} {mg : Str → Option Value} {base : Heap} {D : Ad}
open TL SX
theorem szl {n : Nat} (h : n ≤ 1000) : n ≤ sizeLine := Nat.le_trans h (by decide)
theorem szt {n : Nat} (h : n ≤ 1000) : n < sizeLine := Nat.lt_of_le_of_lt h (by decide)
theorem szL {n : Nat} (h : n ≤ 100000) : n ≤ sizeLine := Nat.le_trans h (by decide)
theorem szT {n : Nat} (h : n ≤ 100000) : n < sizeLine := Nat.lt_of_le_of_lt h (by decide)
theorem kit_self {C : Addr} : PySem.W.kitOne K (.ref C) (.ref C) = some true := by
  unfold PySem.W.kitOne
  simp
def inS (sg : Str) (c : Nat) : Bool := decide (c ∈ sg.cps.toList)
theorem filt1 {α : Type} {xs : List α} : xs.filter (fun _ => true) = xs := List.filter_eq_self.mpr (by simp)
def spConsistsOf : Sp := fun vs H Q _ => ∃ t sg : Str, vs = [.str t, .str sg] ∧ t.length ≤ 200 ∧ ∀ H', Same H H' → Q (.bl (t.cps.toList.all (inS sg))) H'
theorem ok_consists_of (T : Tex K mg D) : FnOk P w K mg base CX0 1 D.a_consists_of D.d_consists_of P_consists_of spConsistsOf := by
  refine T.consists_of_F.ok S_consists_of (fun vs H Q E h => ?_) (fun cdv A outer s H vs Q E hr h => ?_)
  · obtain ⟨t, sg, rfl, _⟩ := h
    rfl
  · obtain ⟨t, sg, rfl, hl, q⟩ := h
    refine ⟨_, (pss_one (ps_ret (pe_callB (cr_all rfl) (by rfl) T.b_all (by decide +kernel) (pa_cons (pe_lc (own := [(("sign" : Str), 2)]) (g := gName 2) (tt := tYes) rfl S_consists_of.nd (pi_str (pv 0)) (blkOk_by (N := N_consists_of) (sc := defScope s_consists_of) (by decide +kernel)) (fun _ _ _ _ _ => pg_name (i := 2) S_consists_of.nd rfl (Or.inl rfl)) (fun _ _ _ _ _ => pts_nil) (fun _ _ _ _ _ => (pe_cmpR op_in_sign (pv 2) (pv 1) rfl))) pa_nil)))), ?_⟩
    refine ⟨_, rfl, t, rfl, fun D hD => lc_txt (fun _ => true) (fun c => .bl (inS sg c)) hD (szt (by omega)) (fun c hc H2 R S s2 h1 h2 => ?_) (fun H2 s2 h2 => ?_)⟩
    · exact ⟨rfl, ⟨_, rfl, _, rfl, c, sg, rfl, rfl, h1 rfl _ (Same.refl _)⟩⟩
    · refine ⟨D, t.cps.toList.map (inS sg), rfl, SqL.of (by rw [h2, filt1, List.map_map]; rfl), ?_⟩
      rw [List.all_map]
      exact q _ s2
def goodT (t sg : Str) (m : Int) : Bool := decide (1 ≤ (t.length : Int)) && (decide ((t.length : Int) ≤ m) && t.cps.toList.all (inS sg))
def spStrT : Sp := fun vs H Q _ => ∃ (t sg : Str) (m : Int), vs = [.str t, .str sg, .int m] ∧ t.length ≤ 100000 ∧ m ≤ 100 ∧ ∀ H', Same H H' → Q (.bl (goodT t sg m)) H'
theorem ok_is_string_of (T : Tex K mg D) : FnOk P w K mg base CX0 2 D.a_is_string_of D.d_is_string_of P_is_string_of spStrT := by
  have G_consists_of : FnOk P w K mg base CX0 1 D.a_consists_of D.d_consists_of P_consists_of spConsistsOf := ok_consists_of T
  refine T.is_string_of_F.ok S_is_string_of (fun vs H Q E h => ?_) (fun cdv A outer s H vs Q E hr h => ?_)
  · obtain ⟨x, sg, m, rfl, _⟩ := h
    rfl
  · obtain ⟨t, sg, m, rfl, hl, hm, q⟩ := h
    refine ⟨_, (pss_one (ps_ret (pe_and (pe_callB call_isi (by rfl) T.b_isinstance (by decide +kernel) (pa_cons (pv 0) (pa_cons (pe_bltn (v := .ty "str") (u := .type "str") (by rfl) T.b_str (by decide +kernel) rfl) pa_nil))) (pe_and (pe_chain op_le op_le pe_int (pe_callB call_len_str (by rfl) T.b_len (by decide +kernel) (pa_cons (pv 0) pa_nil)) (pv 2)) (pe_one (pe_call G_consists_of (hr.mono (by decide)) (by rfl) T.consists_of_g T.consists_of_F.kp T.consists_of_b .nil pass0 (pa_cons (pv 0) (pa_cons (pv 1) pa_nil)))))))), ?_⟩
    refine ⟨_, rfl, .str t, .ty "str", .type "str", .type "str", true, rfl, .ty _, .base (.str t), kit_ty (by decide +kernel), true, rfl, iteT ?_⟩
    refine ⟨_, rfl, t, rfl, szL (by omega), _, _, rfl, rfl, _, rfl, ?_⟩
    unfold goodT at q
    refine ite2 (fun h1 => ?_) (fun h1 => ?_)
    · refine ⟨_, rfl, _, _, rfl, rfl, _, rfl, ite2 (fun h2 => ?_) (fun h2 => ?_)⟩
      · have h2' := of_decide_eq_true h2
        refine ⟨_, rfl, _, rfl, t, sg, rfl, by omega, fun H' s' => ?_⟩
        have q2 := q H' s'
        rw [h1, h2] at q2
        exact q2
      · have q2 := q H (Same.refl H)
        rw [h1, Bool.eq_false_iff.mpr h2] at q2
        exact q2
    · refine ⟨_, rfl, iteF ?_⟩
      have q2 := q H (Same.refl H)
      rw [Bool.eq_false_iff.mpr h1] at q2
      exact q2
def oV : Option Nat → V
  | none => .non
  | some n => .int (n : Int)
theorem inS_dig (c : Nat) : inS (("0123456789" : String) : Str) c = isDig c := by
  unfold inS isDig
  have e : ((("0123456789" : String) : Str)).cps.toList = [48, 49, 50, 51, 52, 53, 54, 55, 56, 57] := by decide +kernel
  rw [e, Bool.eq_iff_iff, decide_eq_true_eq, decide_eq_true_eq]
  simp only [List.mem_cons, List.not_mem_nil, or_false]
  omega
theorem good_nT (l : List Nat) (k : Nat) : goodT (S l) (("0123456789" : String) : Str) (k : Int) = (decide (1 ≤ l.length) && (decide (l.length ≤ k) && l.all isDig)) := by
  unfold goodT
  have e1 : decide (1 ≤ ((S l).length : Int)) = decide (1 ≤ l.length) := by rw [S_len]; exact decide_eq_decide.mpr (by omega)
  have e2 : decide (((S l).length : Int) ≤ (k : Int)) = decide (l.length ≤ k) := by rw [S_len]; exact decide_eq_decide.mpr (by omega)
  have e3 : (S l).cps.toList.all (inS (("0123456789" : String) : Str)) = l.all isDig := by
    show l.all _ = _
    congr 1
    funext c
    exact inS_dig c
  rw [e1, e2, e3]
theorem str_num (n : Nat) : Str.ofString (toString ((n : Nat) : Int)) = S (numL n) := ext_tl (tl_num n)
theorem log_num {n : Nat} (h : n < 100000) : ((n : Nat) : Int).natAbs.log2 < 1920 := by
  rw [Int.natAbs_natCast]
  by_cases h0 : n = 0
  · rw [h0]
    decide
  · exact Nat.lt_trans ((Nat.log2_lt h0).mpr (Nat.lt_of_lt_of_le h (by decide : 100000 ≤ 2 ^ 17))) (by decide)
theorem dv_lt : ∀ (l : List Nat), NumText.AllDigits l → NumText.digitsVal l < 10 ^ l.length := by
  intro l
  induction h : l.length generalizing l with
  | zero =>
    intro _
    have : l = [] := List.length_eq_zero_iff.mp h
    subst this
    decide
  | succ n ih =>
    intro hd
    obtain ⟨r, c, rfl⟩ : ∃ r c, l = r ++ [c] := ⟨l.dropLast, l.getLast (by intro e; rw [e] at h; cases h), (List.dropLast_concat_getLast _).symm⟩
    have hr : r.length = n := by simpa using h
    have h1 := ih r hr (fun x hx => hd x (List.mem_append_left _ hx))
    have h2 := hd c (by simp)
    rw [NumText.digitsVal_snoc, Nat.pow_succ]
    omega
/-- number_in, with the last number -/
def nTL (L : Nat) (l : List Nat) : Option Nat :=
  if (decide (1 ≤ l.length) && (decide (l.length ≤ (numL L).length) && l.all isDig)) = true then (if l.head? = some 48 ∧ l ≠ [48] then none else if NumText.digitsVal l ≤ L then some (NumText.digitsVal l) else none) else none
theorem allD {l : List Nat} (h : l.all isDig = true) : NumText.AllDigits l := by
  intro c hc
  have := List.all_eq_true.mp h c hc
  simp only [isDig, decide_eq_true_eq] at this
  omega
theorem nTL_999 (l : List Nat) : nTL 999 l = nT l := by
  unfold nTL nT
  have e : (numL 999).length = 3 := by decide +kernel
  rw [e]
  by_cases h : (decide (1 ≤ l.length) && (decide (l.length ≤ 3) && l.all isDig)) = true
  · rw [if_pos h, if_pos h]
    simp only [Bool.and_eq_true, decide_eq_true_eq] at h
    have hv := dv_lt l (allD h.2.2)
    have : NumText.digitsVal l ≤ 999 := by
      have h3 : (10 : Nat) ^ l.length ≤ 10 ^ 3 := Nat.pow_le_pow_right (by decide) h.2.1
      have : (10 : Nat) ^ 3 = 1000 := rfl
      omega
    rw [if_pos this]
  · rw [if_neg h, if_neg h]
def spNumL : Sp := fun vs H Q _ => ∃ (l : List Nat) (L : Nat), vs = [.str (S l), .int (L : Int)] ∧ l.length ≤ 100000 ∧ L < 100000 ∧ ∀ H', Same H H' → Q (oV (nTL L l)) H'
theorem zero_txt : (("0" : String) : Str) = S [48] := by decide +kernel
theorem ok_number_in (T : Tex K mg D) : FnOk P w K mg base CX0 3 D.a_number_in D.d_number_in P_number_in spNumL := by
  have G_is_string_of : FnOk P w K mg base CX0 2 D.a_is_string_of D.d_is_string_of P_is_string_of spStrT := ok_is_string_of T
  refine T.number_in_F.ok S_number_in (fun vs H Q E h => ?_) (fun cdv A outer s H vs Q E hr h => ?_)
  · obtain ⟨l, L, rfl, _⟩ := h
    rfl
  · obtain ⟨l, L, rfl, hl, hL, q⟩ := h
    have hLl : (numL L).length ≤ 5 := numL_len (by decide) hL
    refine ⟨_, (pss_cons (ps_if (pt_not (pt_val (pe_call G_is_string_of (hr.mono (by decide)) (by rfl) T.is_string_of_g T.is_string_of_F.kp T.is_string_of_b .nil pass0 (pa_cons (pv 0) (pa_cons (pe_glob (v := .str "0123456789") rfl T.c_DIGITS ⟨_, rfl⟩) (pa_cons (pe_callB call_len_str (by rfl) T.b_len (by decide +kernel) (pa_cons (pe_callTy call_str_int (by rfl) T.b_str (by decide +kernel) (pa_cons (pv 1) pa_nil)) pa_nil)) pa_nil)))))) (pss_one (ps_ret pe_non)) pss_nil)
      (pss_cons (ps_if (PW.pt (pw_and (pt_cmpR op_eq (pe_ix ix_str (pv 0) pe_int (fun _ _ => rfl)) pe_str (nomark _)) (pw_and1 (pt_cmpR op_ne (pv 0) pe_str (nomark _))))) (pss_one (ps_ret pe_non)) pss_nil)
      (pss_cons (ps_set (i := 2) S_number_in.nd rfl (Or.inl rfl) (pe_callTy call_int_str (by rfl) T.b_int (by decide +kernel) (pa_cons (pv 0) pa_nil)))
      (pss_one (ps_ret (pe_ifExp (pt_cmpR op_le (pv 2) (pv 1) (nomark _)) (pv 2) pe_non)))))), ?_⟩
    refine ⟨_, rfl, _, rfl, _, rfl, log_num hL, ?_⟩
    rw [str_num]
    refine ⟨_, rfl, by rw [S_len]; exact szl (by omega), S l, (("0123456789" : String) : Str), ((numL L).length : Int), by rw [S_len]; rfl, by rw [S_len]; exact hl, by omega, fun H1 s1 => ⟨_, rfl, ?_⟩⟩
    rw [good_nT]
    unfold nTL at q
    cases hg : (decide (1 ≤ l.length) && (decide (l.length ≤ (numL L).length) && l.all isDig)) with
    | false =>
      rw [hg] at q
      exact iteT (q H1 s1)
    | true =>
      rw [hg, if_pos rfl] at q
      refine iteF ?_
      simp only [Bool.and_eq_true, decide_eq_true_eq] at hg
      obtain ⟨hg1, hg3, hgd⟩ := hg
      have hdig : NumText.AllDigits l := allD hgd
      have hne : l ≠ [] := fun e => by
        rw [e] at hg1
        simp at hg1
      have hin : PySem.intText? (S l) = some ((NumText.digitsVal l : Nat) : Int) := intText_digits (x := S l) hdig hne (by rw [S_len]; omega)
      obtain ⟨c, r, rfl⟩ : ∃ c r, l = c :: r := by
        cases l with
        | nil => exact absurd rfl hne
        | cons c r => exact ⟨c, r, rfl⟩
      have h64 : (S (c :: r)).length ≤ 640 := by rw [S_len]; omega
      refine ⟨_, rfl, S (c :: r), 0, c, rfl, rfl, by rw [S_len]; exact szL (by omega), atI_nat (j := 0) rfl, rfl, _, rfl, ?_⟩
      rw [zero_txt]
      by_cases h0 : c = 48
      · subst h0
        rw [decide_eq_true rfl]
        refine iteT ⟨_, rfl, rfl, _, rfl, ?_⟩
        by_cases h1 : r = []
        · subst h1
          rw [decide_eq_true rfl]
          rw [if_neg (by simp)] at q
          refine iteF ⟨_, rfl, S [48], _, rfl, hin, h64, _, rfl, _, rfl, _, _, rfl, rfl, ?_⟩
          refine ⟨_, rfl, ite2 (fun h2 => ?_) (fun h2 => ?_)⟩
          · have h2' := of_decide_eq_true h2
            rw [if_pos (by omega)] at q
            exact ⟨_, rfl, q H1 s1⟩
          · have h2' := of_decide_eq_false (Bool.eq_false_iff.mpr h2)
            rw [if_neg (by omega)] at q
            exact q H1 s1
        · have hd : decide (V.str (S (48 :: r)) = V.str (S [48])) = false := decide_eq_false (by
            intro e
            injection e with e
            have e2 := S_inj e
            injection e2 with _ e3
            exact h1 e3)
          rw [hd]
          rw [if_pos (by simp [h1])] at q
          exact iteT (q H1 s1)
      · have hd : decide (V.str (S [c]) = V.str (S [48])) = false := decide_eq_false (by
          intro e
          injection e with e
          have e2 := S_inj e
          injection e2 with e3
          exact h0 e3)
        rw [hd]
        rw [if_neg (by simp [h0])] at q
        refine iteF (iteF ⟨_, rfl, S (c :: r), _, rfl, hin, h64, _, rfl, _, rfl, _, _, rfl, rfl, ?_⟩)
        refine ⟨_, rfl, ite2 (fun h2 => ?_) (fun h2 => ?_)⟩
        · have h2' := of_decide_eq_true h2
          rw [if_pos (by omega)] at q
          exact ⟨_, rfl, q H1 s1⟩
        · have h2' := of_decide_eq_false (Bool.eq_false_iff.mpr h2)
          rw [if_neg (by omega)] at q
          exact q H1 s1

/-! ### stage_of_text -/
def stN : List V := [.str "a", .str "b", .str "rc"]
theorem wd_txt : (("a" : String) : Str) = S (wd 0) ∧ (("b" : String) : Str) = S (wd 1) ∧ (("rc" : String) : Str) = S (wd 2) := by decide +kernel
theorem stN_at {i : Nat} {x : V} (h : stN[i]? = some x) : i < 3 ∧ x = .str (S (wd i)) := by
  match i, h with
  | 0, h => exact ⟨by decide, by rw [← wd_txt.1]; exact (Option.some.inj h).symm⟩
  | 1, h => exact ⟨by decide, by rw [← wd_txt.2.1]; exact (Option.some.inj h).symm⟩
  | 2, h => exact ⟨by decide, by rw [← wd_txt.2.2]; exact (Option.some.inj h).symm⟩
  | n + 3, h => simp [stN] at h
theorem wd_ne (i : Nat) : wd i ≠ [] := by
  match i with
  | 0 => simp [wd]
  | 1 => simp [wd]
  | n + 2 => simp [wd]
theorem par_len {b : List Nat} : ∀ {a acc p q : List Nat}, par b acc a = some (p, q) → q.length ≤ a.length ∧ p.length ≤ acc.length + a.length
  | [], acc, p, q, h => by simp [par] at h
  | c :: r, acc, p, q, h => by
    unfold par at h
    split at h
    · injection h with h
      injection h with h1 h2
      rw [← h2, ← h1, List.length_drop]
      omega
    · have := par_len h
      rw [List.length_append] at this
      simp only [List.length_cons, List.length_nil] at this ⊢
      omega
theorem sTn_step {l : List Nat} {k i : Nat} (h : par (wd i) [] l = none) : sTn l (k + 1) i = sTn l k (i + 1) := by
  show (match par (wd i) [] l with
    | some (p, q) => (p, (nT q).map (fun n => i * 1000 + n))
    | none => sTn l k (i + 1)) = _
  rw [h]
theorem sTn_hit {l p q : List Nat} {k i : Nat} (h : par (wd i) [] l = some (p, q)) : sTn l (k + 1) i = (p, (nT q).map (fun n => i * 1000 + n)) := by
  show (match par (wd i) [] l with
    | some (p, q) => (p, (nT q).map (fun n => i * 1000 + n))
    | none => sTn l k (i + 1)) = _
  rw [h]
def spStage : Sp := fun vs H Q _ => ∃ l : List Nat, vs = [.str (S l)] ∧ l.length ≤ 90000 ∧ ∀ p H', Same H H' → H p = none → H' p = some (.tup [.str (S (sT l).1), oV (sT l).2]) → (sT l).1.length ≤ l.length → Q (.ref p) H'
theorem ok_stage_of_text (T : Tex K mg D) : FnOk P w K mg base CX0 4 D.a_stage_of_text D.d_stage_of_text P_stage_of_text spStage := by
  have G_number_in : FnOk P w K mg base CX0 3 D.a_number_in D.d_number_in P_number_in spNumL := ok_number_in T
  refine T.stage_of_text_F.ok S_stage_of_text (fun vs H Q E h => ?_) (fun cdv A outer s H vs Q E hr h => ?_)
  · obtain ⟨l, rfl, _⟩ := h
    rfl
  · obtain ⟨l, rfl, hl, q⟩ := h
    have stK : ∀ H, SqT K H D.k_STAGES stN := fun H => T.v_STAGES.elim (fun h => by
      rcases h with h | ⟨o, h⟩
      · exact nomatch (show (none : Option HO) = some _ from h)
      · exact nomatch (show (none : Option HO) = some _ from h)) .inr
    refine ⟨_, (pss_cons (ps_for PassesOwn.never rfl (pi_enT (by rfl) T.b_enumerate (pa_cons (pe_glob (v := .ref D.k_STAGES) rfl T.c_STAGES rfl) pa_nil)) (pg_tup (by rfl) (pgs_cons (pg_name (i := 1) S_stage_of_text.nd rfl (Or.inl rfl)) (pgs_cons (pg_name (i := 2) S_stage_of_text.nd rfl (Or.inl rfl)) pgs_nil))) (pss_cons (ps_asg (pe_partition (pv 0) (pv 2)) (pg_tup (by rfl) (pgs_cons (pg_name (i := 3) S_stage_of_text.nd rfl (Or.inl rfl)) (pgs_cons (pg_name (i := 4) S_stage_of_text.nd rfl (Or.inl rfl)) (pgs_cons (pg_name (i := 5) S_stage_of_text.nd rfl (Or.inl rfl)) pgs_nil)))))
      (pss_one (ps_if (pt_truth (pv 4) (by intro _; rfl)) (pss_cons (ps_set (i := 6) S_stage_of_text.nd rfl (Or.inl rfl) (pe_call G_number_in (hr.mono (by decide)) (by rfl) T.number_in_g T.number_in_F.kp T.number_in_b .nil pass0 (pa_cons (pv 5) (pa_cons (pe_glob (v := .int 999) rfl T.c_GREATEST ⟨_, rfl⟩) pa_nil))))
      (pss_cons (ps_if (pt_cmpR op_isN (pv 6) pe_non (nomark _)) (pss_one (ps_ret (pe_tup (pa_cons (pv 3) (pa_cons pe_non pa_nil))))) pss_nil)
      (pss_one (ps_ret (pe_tup (pa_cons (pv 3) (pa_cons (pe_op op_add (pe_op op_mul (pv 1) pe_int) (pv 6)) pa_nil))))))) pss_nil))))
      (pss_one (ps_ret (pe_tup (pa_cons (pv 0) (pa_cons (pe_glob (v := .int 3000) rfl T.c_FINAL ⟨_, rfl⟩) pa_nil)))))), ?_⟩
    refine ⟨D.k_STAGES, stN, rfl, stK _, ?_⟩
    refine for_it (walk_enT (xs := stN)) (fun i σ H' => (∃ a b c d e f, σ = [some (.str (S l)), a, b, c, d, e, f]) ∧ Same H H' ∧ sT l = sTn l (3 - i) i) ⟨⟨_, _, _, _, _, _, rfl⟩, Same.refl _, rfl⟩ (fun i σ H' _ _ => stK _) ?_ ?_
    · rintro i x σ H1 H2 hi ⟨⟨o1, o2, o3, o4, o5, o6, rfl⟩, s1, est⟩ ⟨t1, x1, y1, rfl, ht1, rfl, ex, ey⟩
      obtain ⟨hi3, rfl⟩ := stN_at ey
      obtain rfl : V.int (i : Nat) = x1 := Option.some.inj ex
      have s2 := s1.trans (same_new (o := .tup [.int (i : Nat), .str (S (wd i))]) ht1)
      refine ⟨t1, _, rfl, .inl (.inl upd_same), rfl, _, _, rfl, _, _, rfl, rfl, ?_⟩
      have wl : ((S (wd i)).length == 0) = false := by
        rw [S_len]
        cases e : wd i with
        | nil => exact absurd e (wd_ne i)
        | cons c r => rfl
      have wl2 : (((S (wd i)).length : Int) != 0) = true := by
        rw [S_len]
        cases e : wd i with
        | nil => exact absurd e (wd_ne i)
        | cons c r =>
          rw [List.length_cons, bne_iff_ne]
          omega
      have wl3 : (S (wd i)).length ≤ sizeLine := by
        rw [S_len]
        exact szl (by
          match i with
          | 0 => decide
          | 1 => decide
          | n + 2 => simp [wd])
      cases hp : par (wd i) [] l with
      | none =>
        have ep : Txt.partition (S l) (S (wd i)) = (S l, S [], S []) := SX.partition_none (wd_ne i) hp
        refine ⟨_, rfl, ⟨_, rfl⟩, _, rfl, S l, S (wd i), rfl, rfl, wl, by rw [S_len]; exact szL (by omega), fun t2 ht2 => ?_⟩
        rw [ep]
        refine ⟨t2, _, rfl, .inl (.inl upd_same), rfl, _, _, rfl, _, _, rfl, _, _, rfl, rfl, ?_⟩
        refine ⟨_, rfl, false, ⟨Nat.zero_le _, rfl⟩, iteF ?_⟩
        refine ⟨⟨_, _, _, _, _, _, rfl⟩, s2.trans (same_new ht2), ?_⟩
        rw [est, show 3 - i = (3 - (i + 1)) + 1 by omega]
        exact sTn_step hp
      | some pq =>
        obtain ⟨p, q'⟩ := pq
        have ep : Txt.partition (S l) (S (wd i)) = (S p, S (wd i), S q') := SX.partition_some (wd_ne i) hp
        have hpl := par_len hp
        have eS : sT l = (p, (nT q').map (fun n => i * 1000 + n)) := by
          rw [est, show 3 - i = (3 - (i + 1)) + 1 by omega]
          exact sTn_hit hp
        rw [eS] at q
        refine ⟨_, rfl, ⟨_, rfl⟩, _, rfl, S l, S (wd i), rfl, rfl, wl, by rw [S_len]; exact szL (by omega), fun t2 ht2 => ?_⟩
        rw [ep]
        refine ⟨t2, _, rfl, .inl (.inl upd_same), rfl, _, _, rfl, _, _, rfl, _, _, rfl, rfl, ?_⟩
        refine ⟨_, rfl, true, ⟨wl3, wl2.symm⟩, iteT ?_⟩
        have s3 := s2.trans (same_new (o := .tup [.str (S p), .str (S (wd i)), .str (S q')]) ht2)
        refine ⟨_, rfl, q', 999, rfl, by omega, by decide, fun H4 s4 => ⟨_, rfl, rfl, _, rfl, ?_⟩⟩
        rw [nTL_999]
        cases hn : nT q' with
        | none =>
          rw [hn] at q
          refine iteT ⟨_, rfl, by show 2 ≤ sizeLine; decide, fun r hr => ?_⟩
          exact q r _ ((s3.trans s4).trans (same_new hr)) ((s3.trans s4).free hr) upd_same (by simpa using hpl.2)
        | some n =>
          rw [hn] at q
          refine iteF ⟨_, rfl, _, rfl, _, _, rfl, rfl, .inr ⟨by decide, by decide⟩, _, rfl, _, _, rfl, rfl, by show 2 ≤ sizeLine; decide, fun r hr => ?_⟩
          have e1 : oV ((some n).map (fun n => i * 1000 + n)) = V.int ((i : Int) * 1000 + (n : Int)) := by
            show V.int ((i * 1000 + n : Nat) : Int) = _
            congr 1
          rw [e1] at q
          exact q r _ ((s3.trans s4).trans (same_new hr)) ((s3.trans s4).free hr) upd_same (by simpa using hpl.2)
    · rintro σ H1 ⟨⟨o1, o2, o3, o4, o5, o6, rfl⟩, s1, est⟩
      have e0 : sT l = (l, some 3000) := est
      rw [e0] at q
      refine ⟨_, rfl, by show 2 ≤ sizeLine; decide, fun p hp => ?_⟩
      exact q p _ (s1.trans (same_new hp)) (s1.free hp) upd_same (Nat.le_refl _)

/-! ### parts_of_text -/
theorem dot_txt : (("." : String) : Str) = S [46] := by decide +kernel
theorem spl_len {b : List Nat} : ∀ {k : Nat} {acc l : List Nat}, (spl b k acc l).length ≤ l.length + 1 ∧ ∀ x ∈ spl b k acc l, x.length ≤ acc.length + l.length
  | k, acc, [] => by
    rw [spl_nil]
    simp
  | 0, acc, c :: r => by
    by_cases h : pre b (c :: r) = true
    · rw [spl_hit h]
      have ih := spl_len (b := b) (k := b.length - 1) (acc := []) (l := r)
      refine ⟨by simp only [List.length_cons]; omega, ?_⟩
      intro x hx
      rcases List.mem_cons.mp hx with rfl | hx
      · simp
      · have := ih.2 x hx
        simp only [List.length_nil, List.length_cons] at this ⊢
        omega
    · rw [spl_miss (Bool.eq_false_iff.mpr h)]
      have ih := spl_len (b := b) (k := 0) (acc := acc ++ [c]) (l := r)
      refine ⟨by simp only [List.length_cons]; omega, ?_⟩
      intro x hx
      have := ih.2 x hx
      simp only [List.length_append, List.length_cons, List.length_nil] at this ⊢
      omega
  | k + 1, acc, c :: r => by
    have ih := spl_len (b := b) (k := k) (acc := acc) (l := r)
    refine ⟨by show (spl b k acc r).length ≤ _; simp only [List.length_cons]; omega, ?_⟩
    intro x hx
    have := ih.2 x hx
    simp only [List.length_cons]
    omega
def vN (ns : List Nat) : List V := ns.map fun (n : Nat) => V.int (n : Int)
theorem allSome_some : ∀ {os : List (Option Nat)} {ns : List Nat}, allSome os = some ns → os = ns.map some
  | [], ns, h => by
    have : ns = [] := (Option.some.inj h).symm
    subst this
    rfl
  | none :: r, ns, h => by cases h
  | some n :: r, ns, h => by
    have h' : (allSome r).map (n :: ·) = some ns := h
    cases e : allSome r with
    | none =>
      rw [e] at h'
      cases h'
    | some m =>
      rw [e] at h'
      have h2 := Option.some.inj h'
      subst h2
      rw [allSome_some e]
      rfl
theorem allSome_none : ∀ {os : List (Option Nat)}, allSome os = none ↔ none ∈ os
  | [] => by simp [allSome]
  | none :: r => by simp [allSome]
  | some n :: r => by
    have ih := allSome_none (os := r)
    show (allSome r).map (n :: ·) = none ↔ _
    rw [Option.map_eq_none_iff, ih]
    simp
theorem inV_non (os : List (Option Nat)) : inV .non (os.map oV) = (allSome os).isNone := by
  rw [Bool.eq_iff_iff, Option.isNone_iff_eq_none, allSome_none]
  unfold inV
  rw [List.any_map, List.any_eq_true]
  constructor
  · rintro ⟨o, ho, he⟩
    cases o with
    | none => exact ho
    | some n => exact absurd he (by simp [oV, eqV])
  · intro h
    exact ⟨none, h, rfl⟩
theorem flat_oV (os : List (Option Nat)) : (os.map oV).all flatV = true := by
  rw [List.all_map, List.all_eq_true]
  intro o _
  cases o <;> rfl
/-- a version's parts as a value: None, or a new pair of a tuple of numbers and the stage -/
def spParts : Sp := fun vs H Q _ => ∃ l : List Nat, vs = [.str (S l)] ∧ l.length ≤ 80000 ∧
  (pT l = none → ∀ H', Same H H' → Q .non H') ∧
  (∀ ns st, pT l = some (ns, st) → ∀ p q H', Same H H' → H p = none → H' p = some (.tup [.ref q, .int (st : Int)]) → H' q = some (.tup (vN ns)) → Q (.ref p) H')
theorem ok_parts_of_text (T : Tex K mg D) : FnOk P w K mg base CX0 5 D.a_parts_of_text D.d_parts_of_text P_parts_of_text spParts := by
  have G_number_in : FnOk P w K mg base CX0 3 D.a_number_in D.d_number_in P_number_in spNumL := ok_number_in T
  have G_stage_of_text : FnOk P w K mg base CX0 4 D.a_stage_of_text D.d_stage_of_text P_stage_of_text spStage := ok_stage_of_text T
  refine T.parts_of_text_F.ok S_parts_of_text (fun vs H Q E h => ?_) (fun cdv A outer s H vs Q E hr h => ?_)
  · obtain ⟨l, rfl, _⟩ := h
    rfl
  · obtain ⟨l, rfl, hl, q0, q1⟩ := h
    refine ⟨_, (pss_cons (ps_if (pt_not (pt_val (pe_callB call_isi (by rfl) T.b_isinstance (by decide +kernel) (pa_cons (pv 0) (pa_cons (pe_bltn (v := .ty "str") (u := .type "str") (by rfl) T.b_str (by decide +kernel) rfl) pa_nil))))) (pss_one (ps_ret pe_non)) pss_nil)
      (pss_cons (ps_asg (pe_call G_stage_of_text (hr.mono (by decide)) (by rfl) T.stage_of_text_g T.stage_of_text_F.kp T.stage_of_text_b .nil pass0 (pa_cons (pv 0) pa_nil)) (pg_tup (by rfl) (pgs_cons (pg_name (i := 1) S_parts_of_text.nd rfl (Or.inl rfl)) (pgs_cons (pg_name (i := 2) S_parts_of_text.nd rfl (Or.inl rfl)) pgs_nil))))
      (pss_cons (ps_setLc (i := 3) (own := [(("part" : Str), 4)]) (g := gName 4) (tt := tYes) rfl S_parts_of_text.nd rfl rfl (sw_true rfl rfl rfl (by decide +kernel)) (pi_list (pe_split (pv 1) pe_str)) (blkOk_by (N := N_parts_of_text) (sc := defScope s_parts_of_text) (by decide +kernel)) (fun _ _ _ _ _ => pg_name (i := 4) S_parts_of_text.nd rfl (Or.inl rfl)) (fun _ _ _ _ _ => pts_nil) (fun _ _ _ _ _ => (pe_call G_number_in (hr.mono (by decide)) (by rfl) T.number_in_g T.number_in_F.kp T.number_in_b .nil pass0 (pa_cons (pv 4) (pa_cons (pe_glob (v := .int 999) rfl T.c_GREATEST ⟨_, rfl⟩) pa_nil)))))
      (pss_cons (ps_if (PW.pt (pw_or (pt_cmpR op_isN (pv 2) pe_non (nomark _)) (pw_or (pt_cmpR op_in_seq pe_non (pv 3) rfl) (pw_or1 (pt_cmpR op_gt (pe_callB call_len_seq (by rfl) T.b_len (by decide +kernel) (pa_cons (pv 3) pa_nil)) pe_int (nomark _)))))) (pss_one (ps_ret pe_non)) pss_nil)
      (pss_one (ps_ret (pe_tup (pa_cons (pe_callTy call_tuple_of (by rfl) T.b_tuple (by decide +kernel) (pa_cons (pv 3) pa_nil)) (pa_cons (pv 2) pa_nil))))))))), ?_⟩
    refine ⟨_, rfl, .str (S l), .ty "str", .type "str", .type "str", true, rfl, .ty _, .base (.str _), kit_ty (by decide +kernel), _, rfl, iteF ?_⟩
    refine ⟨_, rfl, l, rfl, by omega, fun t1 H1 s1 ht1 ht1' hfl => ?_⟩
    refine ⟨t1, _, rfl, .inl (.inl ht1'), rfl, _, _, rfl, _, _, rfl, rfl, ?_⟩
    generalize hfr : (sT l).1 = fr at hfl
    have esp : Txt.split (S fr) (S [46]) = (spl [46] 0 [] fr).map S := split_S (by simp) (by decide)
    have hsl := spl_len (b := [46]) (k := 0) (acc := []) (l := fr)
    refine ⟨_, rfl, ⟨_, rfl⟩, _, _, rfl, rfl, by rw [dot_txt]; rfl, by rw [S_len]; exact szL (by omega), fun t2 ht2 => ?_⟩
    rw [dot_txt, esp]
    have s2 := s1.trans (same_new (o := .lst (((spl [46] 0 [] fr).map S).map V.str)) ht2)
    have e2 : (upd H1 t2 (.lst (((spl [46] 0 [] fr).map S).map V.str))) t2 = some (.lst ((spl [46] 0 [] fr).map fun x => V.str (S x))) := by
      rw [upd_same, List.map_map]
      rfl
    revert s2 e2
    generalize upd H1 t2 (.lst (((spl [46] 0 [] fr).map S).map V.str)) = H2
    intro s2 e2
    refine ⟨t2, rfl, ⟨_, SqL.of e2⟩, fun D' hD' => lc_lst (spl [46] 0 [] fr) (fun x => V.str (S x)) (fun _ => true) (fun x => oV (nT x)) hD' (szT (by omega)) (SqL.of e2) (fun x hx H3 R S3 s3 h1 h2 => ?_) (fun H3 s3 h3 => ?_)⟩
    · have hxl := hsl.2 x hx
      exact ⟨rfl, ⟨_, rfl, x, 999, rfl, by simp at hxl; omega, by decide, fun H' s' => by rw [nTL_999]; exact h1 rfl H' s'⟩⟩
    · rw [filt1] at h3
      have h3' : H3 D' = some (.lst (((spl [46] 0 [] fr).map nT).map oV)) := by
        rw [h3, List.map_map]
        rfl
      have s4 := s2.trans s3
      have hlen : (((spl [46] 0 [] fr).map nT).map oV).length ≤ 90000 := by
        rw [List.length_map, List.length_map]
        omega
      have ep : pT l = (match (sT l).2, allSome ((spl [46] 0 [] fr).map nT) with
          | some st, some ns => if ns.length > 4 then none else some (ns, st)
          | _, _ => none) := by
        rw [← hfr]
        rfl
      rw [ep] at q0 q1
      generalize (spl [46] 0 [] fr).map nT = os at h3' hlen q0 q1
      generalize (sT l).2 = so at q0 q1
      refine ⟨_, rfl, rfl, _, rfl, ?_⟩
      cases so with
      | none => exact iteT (q0 rfl H3 s4)
      | some st =>
        refine iteF ⟨_, rfl, D', _, rfl, .inl (SqL.of h3'), rfl, flat_oV os, _, rfl, ?_⟩
        show if (inV .non (os.map oV)) = true then _ else _
        rw [inV_non]
        cases ea : allSome os with
        | none =>
          rw [ea] at q0
          exact iteT (q0 rfl H3 s4)
        | some ns =>
          rw [ea] at q0 q1
          have eo := allSome_some ea
          have eo2 : os.map oV = vN ns := by
            rw [eo, List.map_map]
            rfl
          rw [eo2] at h3' hlen
          refine iteF ⟨_, rfl, D', _, rfl, .inl (SqL.of h3'), _, _, rfl, rfl, _, rfl, ?_⟩
          have hln : (vN ns).length = ns.length := List.length_map _
          by_cases h4 : ns.length > 4
          · rw [decide_eq_true (by rw [hln]; omega)]
            refine iteT (q0 ?_ H3 s4)
            simp only [if_pos h4]
          · rw [decide_eq_false (by rw [hln]; omega)]
            refine iteF ⟨_, rfl, D', _, rfl, .inl ⟨SqL.of h3', fun q hq => ⟨_, rfl, by show 2 ≤ sizeLine; decide, fun p hp => ?_⟩⟩⟩
            have s5 := s4.trans (same_new (o := .tup (vN ns)) hq)
            refine q1 ns st (by simp only [if_neg h4]) p q _ (s5.trans (same_new hp)) (s5.free hp) upd_same ?_
            rw [upd_ne (ne_of_none upd_same hp), upd_same]

/-! ### ranks -/
def spRank (K : PySem.W.Frag) : Sp := fun vs H Q _ => ∃ (a : Addr) (ns : List Nat) (st : Nat), vs = [.ref a, .int (st : Int)] ∧ SqT K H a (vN ns) ∧ ns ≠ [] ∧ ns.length ≤ 10 ∧ ∀ H', Same H H' → Q (.int (rk ns st : Nat)) H'
theorem ok_rank_of (T : Tex K mg D) : FnOk P w K mg base CX0 1 D.a_rank_of D.d_rank_of P_rank_of (spRank K) := by
  refine T.rank_of_F.ok S_rank_of (fun vs H Q E h => ?_) (fun cdv A outer s H vs Q E hr h => ?_)
  · obtain ⟨a, ns, st, rfl, _⟩ := h
    rfl
  · obtain ⟨a, ns, st, rfl, ha, hne, h4, q⟩ := h
    refine ⟨_, (pss_cons (ps_set (i := 2) S_rank_of.nd rfl (Or.inl rfl) pe_int)
      (pss_cons (ps_for PassesOwn.never rfl (pi_tup (pe_slice sl_tupA (pe_op op_catA (pe_callTy call_tupleT (by rfl) T.b_tuple (by decide +kernel) (pa_cons (pv 0) pa_nil)) (pe_tup (pa_cons pe_int (pa_cons pe_int (pa_cons pe_int pa_nil))))) po_none (po_some pe_int))) (pg_name (i := 3) S_rank_of.nd rfl (Or.inl rfl)) (pss_one (ps_set (i := 2) S_rank_of.nd rfl (Or.inl rfl) (pe_op op_add (pe_op op_mul (pv 2) pe_int) (pv 3)))))
      (pss_one (ps_ret (pe_op op_add (pe_op op_mul (pv 2) (pe_glob (v := .int 3001) rfl T.c_WIDTH ⟨_, rfl⟩)) (pv 1)))))), ?_⟩
    have hln : (vN ns).length = ns.length := List.length_map _
    have hi0 : vN ns ≠ [] := by
      intro e
      exact hne (List.map_eq_nil_iff.mp e)
    refine ⟨_, rfl, a, _, rfl, ha, by show 3 ≤ sizeLine; decide, fun z hz => ?_⟩
    have hz0 : (vN [0, 0, 0]) = [V.int 0, .int 0, .int 0] := rfl
    have s1 : Same H (upd H z (.tup [.int 0, .int 0, .int 0])) := same_new hz
    have keepT : ∀ {H1 H2 : Hp} {b : Addr} {xs : List V}, Same H1 H2 → SqT K H1 b xs → SqT K H2 b xs := by
      intro H1 H2 b xs e h
      rcases h with (h | ⟨o, h⟩) | h
      · exact .inl (.inl (e _ _ h))
      · exact .inl (.inr ⟨o, e _ _ h⟩)
      · exact .inr h
    refine ⟨a, z, _, _, rfl, rfl, keepT s1 ha, .inl (.inl upd_same), by rw [hln]; exact szl (by simp; omega), fun e => absurd e hi0, fun _ e => (nomatch e), fun _ _ p hp => ?_⟩
    have s2 := s1.trans (same_new (o := .tup (vN ns ++ [.int 0, .int 0, .int 0])) hp)
    have ecut : cutV (vN ns ++ [.int 0, .int 0, .int 0]) none (some 4) = vN ((ns ++ [0, 0, 0]).take 4) := by
      unfold cutV
      have e1 : HT.sIx (vN ns ++ [V.int 0, .int 0, .int 0]).length 0 none = 0 := rfl
      have e2 : HT.sIx (vN ns ++ [V.int 0, .int 0, .int 0]).length (vN ns ++ [V.int 0, .int 0, .int 0]).length (some 4) = 4 := by
        have := HT.sIx_nat (vN ns ++ [V.int 0, .int 0, .int 0]).length (vN ns ++ [V.int 0, .int 0, .int 0]).length 4
        rw [List.length_append, hln] at this ⊢
        have hp : 1 ≤ ns.length := List.length_pos_iff.mpr hne
        have h3 : ([V.int 0, .int 0, .int 0] : List V).length = 3 := rfl
        rw [h3] at this ⊢
        rw [show ((4 : Nat) : Int) = 4 from rfl] at this
        rw [this]
        omega
      rw [e1, e2, List.drop_zero]
      show (vN ns ++ vN [0, 0, 0]).take 4 = _
      unfold vN
      rw [← List.map_append, List.map_take]
    refine ⟨_, rfl, p, _, rfl, .inl (.inl upd_same), fun hw => ?_, fun hw p2 hp2 => ?_⟩
    · have hb : SqT K (upd (upd H z (.tup [.int 0, .int 0, .int 0])) p (.tup (vN ns ++ [.int 0, .int 0, .int 0]))) p (vN ((ns ++ [0, 0, 0]).take 4)) := by
        have e : vN ((ns ++ [0, 0, 0]).take 4) = vN ns ++ [.int 0, .int 0, .int 0] := by
          rw [← ecut]
          unfold cutV
          rw [hw.1, hw.2, List.drop_zero, Nat.sub_zero, List.take_length]
        rw [e]
        exact .inl (.inl upd_same)
      revert hb s2
      generalize upd (upd H z (.tup [.int 0, .int 0, .int 0])) p (.tup (vN ns ++ [.int 0, .int 0, .int 0])) = H3
      intro s2 hb
      refine ⟨_, rfl, ⟨_, hb⟩, for_tup (K := K) (xs := vN ((ns ++ [0, 0, 0]).take 4)) (fun i σ H' => Same H3 H' ∧ ∃ x, σ = [some (.ref a), some (.int (st : Int)), some (.int (((((ns ++ [0, 0, 0]).take 4).take i).foldl (fun r n => r * 1000 + n) 0 : Nat) : Int)), x]) ⟨Same.refl _, _, rfl⟩ (fun i σ H' _ h => keepT h.1 hb) ?_ ?_⟩
      · rintro i y σ H4 hi ⟨s4, x, rfl⟩
        have hi' : ∃ n, ((ns ++ [0, 0, 0]).take 4)[i]? = some n ∧ y = V.int ((n : Nat) : Int) := by
          unfold vN at hi
          rw [List.getElem?_map] at hi
          cases e : ((ns ++ [0, 0, 0]).take 4)[i]? with
          | none =>
            rw [e] at hi
            cases hi
          | some n =>
            rw [e] at hi
            exact ⟨n, rfl, (Option.some.inj hi).symm⟩
        obtain ⟨n, hn, rfl⟩ := hi'
        refine ⟨_, rfl, _, _, rfl, rfl, .inr ⟨by decide, by decide⟩, _, rfl, _, _, rfl, rfl, s4, some (.int ((n : Nat) : Int)), ?_⟩
        rw [one_more hn, List.foldl_append]
        rfl
      · rintro σ H4 ⟨s4, x, rfl⟩
        refine ⟨_, rfl, _, _, rfl, rfl, .inr ⟨by decide, by decide⟩, _, rfl, _, _, rfl, rfl, ?_⟩
        have hl4 : (vN ((ns ++ [0, 0, 0]).take 4)).length = ((ns ++ [0, 0, 0]).take 4).length := List.length_map _
        rw [hl4, List.take_length]
        exact q _ (s2.trans s4)
    · have hb : SqT K (upd (upd (upd H z (.tup [.int 0, .int 0, .int 0])) p (.tup (vN ns ++ [.int 0, .int 0, .int 0]))) p2 (.tup (cutV (vN ns ++ [.int 0, .int 0, .int 0]) none (some 4)))) p2 (vN ((ns ++ [0, 0, 0]).take 4)) := by
        rw [← ecut]
        exact .inl (.inl upd_same)
      have s3 := s2.trans (same_new (o := .tup (cutV (vN ns ++ [.int 0, .int 0, .int 0]) none (some 4))) hp2)
      clear s2
      revert hb s3
      generalize upd (upd (upd H z (.tup [.int 0, .int 0, .int 0])) p (.tup (vN ns ++ [.int 0, .int 0, .int 0]))) p2 (.tup (cutV (vN ns ++ [.int 0, .int 0, .int 0]) none (some 4))) = H3
      intro hb s2
      refine ⟨_, rfl, ⟨_, hb⟩, for_tup (K := K) (xs := vN ((ns ++ [0, 0, 0]).take 4)) (fun i σ H' => Same H3 H' ∧ ∃ x, σ = [some (.ref a), some (.int (st : Int)), some (.int (((((ns ++ [0, 0, 0]).take 4).take i).foldl (fun r n => r * 1000 + n) 0 : Nat) : Int)), x]) ⟨Same.refl _, _, rfl⟩ (fun i σ H' _ h => keepT h.1 hb) ?_ ?_⟩
      · rintro i y σ H4 hi ⟨s4, x, rfl⟩
        have hi' : ∃ n, ((ns ++ [0, 0, 0]).take 4)[i]? = some n ∧ y = V.int ((n : Nat) : Int) := by
          unfold vN at hi
          rw [List.getElem?_map] at hi
          cases e : ((ns ++ [0, 0, 0]).take 4)[i]? with
          | none =>
            rw [e] at hi
            cases hi
          | some n =>
            rw [e] at hi
            exact ⟨n, rfl, (Option.some.inj hi).symm⟩
        obtain ⟨n, hn, rfl⟩ := hi'
        refine ⟨_, rfl, _, _, rfl, rfl, .inr ⟨by decide, by decide⟩, _, rfl, _, _, rfl, rfl, s4, some (.int ((n : Nat) : Int)), ?_⟩
        rw [one_more hn, List.foldl_append]
        rfl
      · rintro σ H4 ⟨s4, x, rfl⟩
        refine ⟨_, rfl, _, _, rfl, rfl, .inr ⟨by decide, by decide⟩, _, rfl, _, _, rfl, rfl, ?_⟩
        have hl4 : (vN ((ns ++ [0, 0, 0]).take 4)).length = ((ns ++ [0, 0, 0]).take 4).length := List.length_map _
        rw [hl4, List.take_length]
        exact q _ (s2.trans s4)
end

/-! ## Versions: written, made, compared -/
section
variable {P : Program} {w : World} {K : PySem.W.Frag} {mg : Str → Option Value} {base : Heap} {D : Ad}
open TL SX
def LAST : Nat := 3000999999999999
theorem sqT_keep {H1 H2 : Hp} {b : Addr} {xs : List V} (e : Same H1 H2) (h : SqT K H1 b xs) : SqT K H2 b xs := by
  rcases h with (h | ⟨o, h⟩) | h
  · exact .inl (.inl (e _ _ h))
  · exact .inl (.inr ⟨o, e _ _ h⟩)
  · exact .inr h
theorem sqT_of {H : Hp} {b : Addr} {xs : List V} (h : H b = some (.tup xs)) : SqT K H b xs := .inl (.inl h)
theorem stK (T : Tex K mg D) (H : Hp) : SqT K H D.k_STAGES stN := T.v_STAGES.elim (fun h => by
  rcases h with h | ⟨o, h⟩
  · exact nomatch (show (none : Option HO) = some _ from h)
  · exact nomatch (show (none : Option HO) = some _ from h)) .inr
def spN4 : Sp := fun vs H Q _ => ∃ r : Nat, vs = [.int (r : Int)] ∧ ∀ p H', Same H H' → H p = none → H' p = some (.tup (vN (n4 r))) → Q (.ref p) H'
theorem ok_numbers_at (T : Tex K mg D) : FnOk P w K mg base CX0 1 D.a_numbers_at D.d_numbers_at P_numbers_at spN4 := by
  refine T.numbers_at_F.ok S_numbers_at (fun vs H Q E h => ?_) (fun cdv A outer s H vs Q E hr h => ?_)
  · obtain ⟨r, rfl, _⟩ := h
    rfl
  · obtain ⟨r, rfl, q⟩ := h
    refine ⟨_, (pss_cons (ps_set (i := 1) S_numbers_at.nd rfl (Or.inl rfl) (pe_op op_fdiv (pv 0) (pe_glob (v := .int 3001) rfl T.c_WIDTH ⟨_, rfl⟩)))
      (pss_one (ps_ret (pe_tup (pa_cons (pe_op op_fdiv (pv 1) (pe_op op_pow pe_int pe_int)) (pa_cons (pe_op op_mod (pe_op op_fdiv (pv 1) (pe_op op_pow pe_int pe_int)) pe_int) (pa_cons (pe_op op_mod (pe_op op_fdiv (pv 1) pe_int) pe_int) (pa_cons (pe_op op_mod (pv 1) pe_int) pa_nil)))))))), ?_⟩
    refine ⟨_, rfl, _, _, rfl, rfl, ⟨by decide, by decide⟩, ?_⟩
    refine ⟨_, rfl, _, _, rfl, rfl, ⟨by decide, by decide, by decide⟩, _, _, rfl, rfl, ⟨by decide, by decide⟩, ?_⟩
    refine ⟨_, rfl, _, _, rfl, rfl, ⟨by decide, by decide, by decide⟩, _, _, rfl, rfl, ⟨by decide, by decide⟩, _, _, rfl, rfl, (posI rfl), ?_⟩
    refine ⟨_, rfl, _, _, rfl, rfl, ⟨by decide, by decide⟩, _, _, rfl, rfl, (posI rfl), _, rfl, _, _, rfl, rfl, (posI rfl), by show 4 ≤ sizeLine; decide, fun p hp => ?_⟩
    refine q p _ (same_new hp) hp ?_
    rw [upd_same]
    congr 2
def spTxN (K : PySem.W.Frag) : Sp := fun vs H Q _ => ∃ (a : Addr) (ns : List Nat), vs = [.ref a] ∧ SqT K H a (vN ns) ∧ ns ≠ [] ∧ ns.length ≤ 4 ∧ (∀ n ∈ ns, n < 1000) ∧ ∀ H', Same H H' → Q (.str (S (joinL [46] ((trim ns).map numL)))) H'
/-- a comprehension over a tuple -/
theorem lc_tpl {α : Type} {K : PySem.W.Frag} {a : Addr} (xs : List α) (emb : α → V) {g : TG} {tt : TT} {te : TE} {vs : List Nat} {σ : L2.St} {H1 : Hp} {D : Addr} {Qd : Hp → Prop} (p : α → Bool) (f : α → V) (hD : H1 D = none) (hz : xs.length < sizeLine)
    (ha : SqT K H1 a (xs.map emb))
    (hs : ∀ c, c ∈ xs → ∀ (H : Hp) (R : VK) (S : Hp → Prop), Same H1 H → (p c = true → ∀ H', Same H H' → R (f c) H') → (p c = false → ∀ H', Same H H' → S H') →
      g (emb c) (wipe σ vs) H fun σ2 H2 => wipe σ2 vs = wipe σ vs ∧ tt σ2 H2 fun b H3 => if b = true then te σ2 H3 R else S H3)
    (hd : ∀ H, Same H1 H → H D = some (.lst ((xs.filter p).map f)) → Qd H) :
    ∃ W : Nat → Nat → Hp → Prop, (∃ m, W 0 m (upd H1 D (.lst []))) ∧ ∀ i m H, W i m H →
      ((Itt K a).stop i H ∧ Qd H) ∨ ((Itt K a).go i H ∧ ∃ Nx : Hp → Prop, (∀ H', Nx H' → ∃ m', m' < m ∧ W (i + 1) m' H') ∧
        ∀ x H', (Itt K a).yld i H x H' → g x (wipe σ vs) H' fun σ2 H2 => wipe σ2 vs = wipe σ vs ∧ tt σ2 H2 fun b H3 =>
          if b = true then te σ2 H3 fun y H4 => ∃ acc, H4 D = some (.lst acc) ∧ acc.length < sizeLine ∧ Nx (upd H4 D (.lst (acc ++ [y]))) else Nx H3) :=
  lc_map (walk_tup (K := K) (a := a) (xs := xs.map emb)) xs emb (by simp)
    (fun i H x H' ⟨e, h⟩ => ⟨e, by
      rw [List.getElem?_map] at h
      cases q : xs[i]? with
      | none =>
        rw [q] at h
        cases h
      | some c =>
        rw [q] at h
        exact ⟨c, rfl, (Option.some.inj h).symm⟩⟩) p f hD (by simpa using hz) (fun H s => sqT_keep s ha) hs hd
theorem numL_len3 {n : Nat} (h : n < 1000) : (numL n).length ≤ 3 := numL_len (by decide) h
theorem sum_le : ∀ (xs : List Nat), (∀ n ∈ xs, n < 1000) → ((xs.map fun n => S (numL n)).map (·.length)).sum ≤ 3 * xs.length
  | [], _ => by simp
  | n :: r, h => by
    have ih := sum_le r fun m hm => h m (List.mem_cons_of_mem _ hm)
    have h1 := numL_len3 (h n (by simp))
    simp only [List.map_cons, List.sum_cons, List.length_cons, S_len]
    omega
theorem ok_text_of_numbers (T : Tex K mg D) : FnOk P w K mg base CX0 1 D.a_text_of_numbers D.d_text_of_numbers P_text_of_numbers (spTxN K) := by
  refine T.text_of_numbers_F.ok S_text_of_numbers (fun vs H Q E h => ?_) (fun cdv A outer s H vs Q E hr h => ?_)
  · obtain ⟨a, ns, rfl, _⟩ := h
    rfl
  · obtain ⟨a, ns, rfl, ha, hne, h4, hb, q⟩ := h
    have hln : (vN ns).length = ns.length := List.length_map _
    have hp1 : 1 ≤ ns.length := List.length_pos_iff.mpr hne
    refine ⟨_, (pss_cons (ps_set (i := 1) S_text_of_numbers.nd rfl (Or.inl rfl) (pe_callB call_len_seq (by rfl) T.b_len (by decide +kernel) (pa_cons (pv 0) pa_nil)))
      (pss_cons (ps_while PassesOwn.never (PW.pt (pw_and (pt_cmpR op_gt (pv 1) pe_int (nomark _)) (pw_and1 (pt_cmpR op_eq (pe_ix ix_tup (pv 0) (pe_op op_sub (pv 1) pe_int) (fun _ _ => rfl)) pe_int (nomark _))))) (pss_one (ps_aug (i := 1) S_text_of_numbers.nd rfl (Or.inl rfl) pe_int ip_sub)))
      (pss_one (ps_ret (pe_join pe_str (pe_lc (own := [(("number" : Str), 2)]) (g := gName 2) (tt := tYes) rfl S_text_of_numbers.nd (pi_tup (pe_slice sl_tupA (pv 0) po_none (po_some (pv 1)))) (blkOk_by (N := N_text_of_numbers) (sc := defScope s_text_of_numbers) (by decide +kernel)) (fun _ _ _ _ _ => pg_name (i := 2) S_text_of_numbers.nd rfl (Or.inl rfl)) (fun _ _ _ _ _ => pts_nil) (fun _ _ _ _ _ => (pe_callTy call_str_int (by rfl) T.b_str (by decide +kernel) (pa_cons (pv 2) pa_nil))))))))), ?_⟩
    refine ⟨_, rfl, a, _, rfl, .inr ha, ?_⟩
    rw [hln]
    refine ⟨fun m σ H' => H' = H ∧ σ = [some (.ref a), some (.int (m : Int)), none] ∧ 1 ≤ m ∧ m ≤ ns.length ∧ many ns m = many ns ns.length, ⟨ns.length, rfl, rfl, hp1, Nat.le_refl _, rfl⟩, ?_⟩
    rintro m σ H' ⟨rfl, rfl, m1, m2, m3⟩
    have fin : many ns m = m → trim ns = ns.take m := by
      intro e1
      unfold trim
      rw [← m3, e1]
    refine ⟨_, rfl, _, _, rfl, rfl, _, rfl, ?_⟩
    by_cases h1 : m = 1
    · rw [decide_eq_false (by omega)]
      refine iteF (iteF ?_)
      have et := fin (by rw [h1]; rfl)
      have hcl : (vN ns).length = ns.length := List.length_map _
      have esl : HT.sIx (vN ns).length (vN ns).length (some (m : Int)) = m := by
        rw [HT.sIx_nat, hcl]
        omega
      have ecv : cutV (vN ns) none (some (m : Int)) = vN (trim ns) := by
        unfold cutV
        rw [esl, show HT.sIx (vN ns).length 0 none = 0 from rfl, List.drop_zero, et]
        unfold vN
        rw [List.map_take, Nat.sub_zero]
      have htl : (trim ns).length ≤ 4 := by
        rw [et, List.length_take]
        omega
      have htb : ∀ n ∈ trim ns, n < 1000 := fun n hn => hb n (by
        rw [et] at hn
        exact List.mem_of_mem_take hn)
      refine ⟨⟨_, rfl⟩, _, rfl, _, rfl, _, rfl, a, _, rfl, ha, fun hw => ?_, fun hw p2 hp2 => ?_⟩
      · have hb2 : SqT K H' a (vN (trim ns)) := by
          rw [← ecv]
          unfold cutV
          rw [hw.1, hw.2, List.drop_zero, Nat.sub_zero, List.take_length]
          exact ha
        have s2 := Same.refl H'
        refine ⟨_, rfl, ⟨_, hb2⟩, fun DD hDD => lc_tpl (trim ns) (fun (n : Nat) => V.int (n : Int)) (fun _ => true) (fun n => .str (S (numL n))) hDD (szt (by omega)) hb2 (fun n hn H4 R S4 s4 g1 g2 => ?_) (fun H4 s4 h4' => ?_)⟩
        · refine ⟨rfl, _, rfl, _, rfl, log_num (by have := htb n hn; omega), ?_⟩
          rw [str_num]
          exact g1 rfl _ (Same.refl _)
        · rw [filt1] at h4'
          refine ⟨_, DD, (trim ns).map (fun n => S (numL n)), rfl, rfl, .inl (SqL.of (by rw [h4', List.map_map]; rfl)), ?_, ?_⟩
          · have h1 := sum_le (trim ns) htb
            rw [List.length_map]
            have h2 : (("." : String) : Str).length = 1 := rfl
            rw [h2]
            omega
          · have ej : Txt.join (("." : String) : Str) ((trim ns).map fun n => S (numL n)) = S (joinL [46] ((trim ns).map numL)) := by
              rw [dot_txt, ← join_S, List.map_map]
              rfl
            rw [ej]
            exact q _ (s2.trans s4)
      · have hb2 : SqT K (upd H' p2 (.tup (cutV (vN ns) none (some (m : Int))))) p2 (vN (trim ns)) := by
          rw [← ecv]
          exact sqT_of upd_same
        have s2 : Same H' (upd H' p2 (.tup (cutV (vN ns) none (some (m : Int))))) := same_new hp2
        revert hb2 s2
        generalize upd H' p2 (.tup (cutV (vN ns) none (some (m : Int)))) = H3
        intro hb2 s2
        refine ⟨_, rfl, ⟨_, hb2⟩, fun DD hDD => lc_tpl (trim ns) (fun (n : Nat) => V.int (n : Int)) (fun _ => true) (fun n => .str (S (numL n))) hDD (szt (by omega)) hb2 (fun n hn H4 R S4 s4 g1 g2 => ?_) (fun H4 s4 h4' => ?_)⟩
        · refine ⟨rfl, _, rfl, _, rfl, log_num (by have := htb n hn; omega), ?_⟩
          rw [str_num]
          exact g1 rfl _ (Same.refl _)
        · rw [filt1] at h4'
          refine ⟨_, DD, (trim ns).map (fun n => S (numL n)), rfl, rfl, .inl (SqL.of (by rw [h4', List.map_map]; rfl)), ?_, ?_⟩
          · have h1 := sum_le (trim ns) htb
            rw [List.length_map]
            have h2 : (("." : String) : Str).length = 1 := rfl
            rw [h2]
            omega
          · have ej : Txt.join (("." : String) : Str) ((trim ns).map fun n => S (numL n)) = S (joinL [46] ((trim ns).map numL)) := by
              rw [dot_txt, ← join_S, List.map_map]
              rfl
            rw [ej]
            exact q _ (s2.trans s4)
    · rw [decide_eq_true (by omega)]
      refine iteT ?_
      have hix : (m : Int) - 1 = ((m - 1 : Nat) : Int) := by omega
      have hlt : m - 1 < ns.length := by omega
      obtain ⟨z, hz⟩ : ∃ z, ns[m - 1]? = some z := ⟨_, List.getElem?_eq_getElem hlt⟩
      have hat : atI (vN ns) ((m : Int) - 1) = some (.int ((z : Nat) : Int)) := by
        rw [hix]
        refine atI_nat ?_
        unfold vN
        rw [List.getElem?_map, hz]
        rfl
      refine ⟨_, rfl, _, rfl, _, _, rfl, rfl, a, _, _, .int ((z : Nat) : Int), rfl, rfl, ha, hat, rfl, _, rfl, ?_⟩
      obtain ⟨j, hj⟩ : ∃ j, m = j + 2 := ⟨m - 2, by omega⟩
      have hz' : ns[j + 1]? = some z := by rw [show j + 1 = m - 1 by omega]; exact hz
      by_cases h0 : z = 0
      · rw [h0, decide_eq_true (show V.int ((0 : Nat) : Int) = V.int 0 from rfl)]
        rw [h0] at hz'
        refine iteT ⟨fun σ' H'' => H'' = H' ∧ σ' = [some (.ref a), some (.int ((j + 1 : Nat) : Int)), none], fun σ' H'' hh => ⟨j + 1, by omega, hh.1, hh.2, by omega, by omega, ?_⟩, ?_⟩
        · have e : many ns (j + 2) = many ns (j + 1) := by
            show (if ns[j + 1]? = some 0 then many ns (j + 1) else j + 2) = _
            rw [if_pos hz']
          rw [← e, ← hj]
          exact m3
        · refine ⟨_, rfl, _, _, rfl, rfl, rfl, ?_⟩
          have e : (m : Int) - 1 = ((j + 1 : Nat) : Int) := by omega
          show [some (V.ref a), some (V.int ((m : Int) - 1)), none] = _
          rw [e]
      · rw [decide_eq_false (by
          intro e
          injection e with e
          omega)]
        refine iteF ?_
        have et : trim ns = ns.take m := fin (by
          rw [hj]
          show (if ns[j + 1]? = some 0 then many ns (j + 1) else j + 2) = _
          rw [if_neg (by rw [hz']; intro e; exact h0 (Option.some.inj e))])
        have hcl : (vN ns).length = ns.length := List.length_map _
        have esl : HT.sIx (vN ns).length (vN ns).length (some (m : Int)) = m := by
          rw [HT.sIx_nat, hcl]
          omega
        have ecv : cutV (vN ns) none (some (m : Int)) = vN (trim ns) := by
          unfold cutV
          rw [esl, show HT.sIx (vN ns).length 0 none = 0 from rfl, List.drop_zero, et]
          unfold vN
          rw [List.map_take, Nat.sub_zero]
        have htl : (trim ns).length ≤ 4 := by
          rw [et, List.length_take]
          omega
        have htb : ∀ n ∈ trim ns, n < 1000 := fun n hn => hb n (by
          rw [et] at hn
          exact List.mem_of_mem_take hn)
        refine ⟨⟨_, rfl⟩, _, rfl, _, rfl, _, rfl, a, _, rfl, ha, fun hw => ?_, fun hw p2 hp2 => ?_⟩
        · have hb2 : SqT K H' a (vN (trim ns)) := by
            rw [← ecv]
            unfold cutV
            rw [hw.1, hw.2, List.drop_zero, Nat.sub_zero, List.take_length]
            exact ha
          have s2 := Same.refl H'
          refine ⟨_, rfl, ⟨_, hb2⟩, fun DD hDD => lc_tpl (trim ns) (fun (n : Nat) => V.int (n : Int)) (fun _ => true) (fun n => .str (S (numL n))) hDD (szt (by omega)) hb2 (fun n hn H4 R S4 s4 g1 g2 => ?_) (fun H4 s4 h4' => ?_)⟩
          · refine ⟨rfl, _, rfl, _, rfl, log_num (by have := htb n hn; omega), ?_⟩
            rw [str_num]
            exact g1 rfl _ (Same.refl _)
          · rw [filt1] at h4'
            refine ⟨_, DD, (trim ns).map (fun n => S (numL n)), rfl, rfl, .inl (SqL.of (by rw [h4', List.map_map]; rfl)), ?_, ?_⟩
            · have h1 := sum_le (trim ns) htb
              rw [List.length_map]
              have h2 : (("." : String) : Str).length = 1 := rfl
              rw [h2]
              omega
            · have ej : Txt.join (("." : String) : Str) ((trim ns).map fun n => S (numL n)) = S (joinL [46] ((trim ns).map numL)) := by
                rw [dot_txt, ← join_S, List.map_map]
                rfl
              rw [ej]
              exact q _ (s2.trans s4)
        · have hb2 : SqT K (upd H' p2 (.tup (cutV (vN ns) none (some (m : Int))))) p2 (vN (trim ns)) := by
            rw [← ecv]
            exact sqT_of upd_same
          have s2 : Same H' (upd H' p2 (.tup (cutV (vN ns) none (some (m : Int))))) := same_new hp2
          revert hb2 s2
          generalize upd H' p2 (.tup (cutV (vN ns) none (some (m : Int)))) = H3
          intro hb2 s2
          refine ⟨_, rfl, ⟨_, hb2⟩, fun DD hDD => lc_tpl (trim ns) (fun (n : Nat) => V.int (n : Int)) (fun _ => true) (fun n => .str (S (numL n))) hDD (szt (by omega)) hb2 (fun n hn H4 R S4 s4 g1 g2 => ?_) (fun H4 s4 h4' => ?_)⟩
          · refine ⟨rfl, _, rfl, _, rfl, log_num (by have := htb n hn; omega), ?_⟩
            rw [str_num]
            exact g1 rfl _ (Same.refl _)
          · rw [filt1] at h4'
            refine ⟨_, DD, (trim ns).map (fun n => S (numL n)), rfl, rfl, .inl (SqL.of (by rw [h4', List.map_map]; rfl)), ?_, ?_⟩
            · have h1 := sum_le (trim ns) htb
              rw [List.length_map]
              have h2 : (("." : String) : Str).length = 1 := rfl
              rw [h2]
              omega
            · have ej : Txt.join (("." : String) : Str) ((trim ns).map fun n => S (numL n)) = S (joinL [46] ((trim ns).map numL)) := by
                rw [dot_txt, ← join_S, List.map_map]
                rfl
              rw [ej]
              exact q _ (s2.trans s4)
end

/-! ## Questions about objects of every kind -/
section
variable {P : Program} {w : World} {K : PySem.W.Frag} {mg : Str → Option Value} {base : Heap} {D : Ad}
open TL SX
/-- a plain object that is no whole number -/
def Plain (K : PySem.W.Frag) (H : Hp) (x : V) : Prop := ∃ S ∈ (["NoneType", "bool", "str", "tuple", "list", "dict"] : List String), TyX K H x (.type S)
def spWholeA (K : PySem.W.Frag) : Sp := fun vs H Q _ => ∃ (x : V) (b : Bool), vs = [x] ∧ ((∃ i, x = .int i ∧ b = true) ∨ (Plain K H x ∧ b = false)) ∧ Q (.bl b) H
theorem ok_is_whole (T : Tex K mg D) : FnOk P w K mg base CX0 1 D.a_is_whole D.d_is_whole P_is_whole (spWholeA K) := by
  refine T.is_whole_F.ok S_is_whole (fun vs H Q E h => ?_) (fun cdv A outer s H vs Q E hr h => ?_)
  · obtain ⟨x, b, rfl, _⟩ := h
    rfl
  · obtain ⟨x, b, rfl, h, q⟩ := h
    refine ⟨_, (pss_one (ps_ret (pe_and (pe_callB call_isi (by rfl) T.b_isinstance (by decide +kernel) (pa_cons (pv 0) (pa_cons (pe_bltn (v := .ty "int") (u := .type "int") (by rfl) T.b_int (by decide +kernel) rfl) pa_nil))) (pe_one (pe_not (pe_callB call_isi (by rfl) T.b_isinstance (by decide +kernel) (pa_cons (pv 0) (pa_cons (pe_bltn (v := .ty "bool") (u := .type "bool") (by rfl) T.b_bool (by decide +kernel) rfl) pa_nil)))))))), ?_⟩
    rcases h with ⟨i, rfl, rfl⟩ | ⟨⟨St, hS, ty⟩, rfl⟩
    · refine ⟨_, rfl, .int i, .ty "int", .type "int", .type "int", true, rfl, .ty _, .base (.int i), kit_ty (by decide +kernel), true, rfl, iteT ?_⟩
      exact ⟨_, rfl, .int i, .ty "bool", .type "int", .type "bool", false, rfl, .ty _, .base (.int i), kit_ty (by decide +kernel), false, rfl, q⟩
    · simp only [List.mem_cons, List.not_mem_nil, or_false] at hS
      rcases hS with rfl | rfl | rfl | rfl | rfl | rfl
      · exact ⟨_, rfl, x, .ty "int", _, .type "int", false, rfl, .ty _, ty, kit_ty (by decide +kernel), false, rfl, iteF q⟩
      · refine ⟨_, rfl, x, .ty "int", _, .type "int", true, rfl, .ty _, ty, kit_ty (by decide +kernel), true, rfl, iteT ?_⟩
        exact ⟨_, rfl, x, .ty "bool", _, .type "bool", true, rfl, .ty _, ty, kit_ty (by decide +kernel), true, rfl, q⟩
      · exact ⟨_, rfl, x, .ty "int", _, .type "int", false, rfl, .ty _, ty, kit_ty (by decide +kernel), false, rfl, iteF q⟩
      · exact ⟨_, rfl, x, .ty "int", _, .type "int", false, rfl, .ty _, ty, kit_ty (by decide +kernel), false, rfl, iteF q⟩
      · exact ⟨_, rfl, x, .ty "int", _, .type "int", false, rfl, .ty _, ty, kit_ty (by decide +kernel), false, rfl, iteF q⟩
      · exact ⟨_, rfl, x, .ty "int", _, .type "int", false, rfl, .ty _, ty, kit_ty (by decide +kernel), false, rfl, iteF q⟩
def spCntA (K : PySem.W.Frag) : Sp := fun vs H Q _ => ∃ (x : V) (b : Bool), vs = [x] ∧ ((∃ i, x = .int i ∧ b = decide (0 ≤ i)) ∨ (Plain K H x ∧ b = false)) ∧ Q (.bl b) H
theorem ok_is_count (T : Tex K mg D) : FnOk P w K mg base CX0 2 D.a_is_count D.d_is_count P_is_count (spCntA K) := by
  have G_is_whole : FnOk P w K mg base CX0 1 D.a_is_whole D.d_is_whole P_is_whole (spWholeA K) := ok_is_whole T
  refine T.is_count_F.ok S_is_count (fun vs H Q E h => ?_) (fun cdv A outer s H vs Q E hr h => ?_)
  · obtain ⟨x, b, rfl, _⟩ := h
    rfl
  · obtain ⟨x, b, rfl, h, q⟩ := h
    refine ⟨_, (pss_one (ps_ret (pe_and (pe_call G_is_whole (hr.mono (by decide)) (by rfl) T.is_whole_g T.is_whole_F.kp T.is_whole_b .nil pass0 (pa_cons (pv 0) pa_nil)) (pe_one (pe_cmpR op_ge (pv 0) pe_int (nomark _)))))), ?_⟩
    rcases h with ⟨i, rfl, rfl⟩ | ⟨pl, rfl⟩
    · exact ⟨_, rfl, _, true, rfl, .inl ⟨i, rfl, rfl⟩, true, rfl, iteT ⟨_, rfl, _, _, rfl, rfl, q⟩⟩
    · exact ⟨_, rfl, _, false, rfl, .inr ⟨pl, rfl⟩, false, rfl, iteF q⟩
def spWToA (K : PySem.W.Frag) : Sp := fun vs H Q _ => ∃ (x : V) (l : Int) (b : Bool), vs = [x, .int l] ∧ ((∃ i, x = .int i ∧ b = (decide (0 ≤ i) && decide (i ≤ l))) ∨ (Plain K H x ∧ b = false)) ∧ Q (.bl b) H
theorem ok_is_whole_toA (T : Tex K mg D) : FnOk P w K mg base CX0 3 D.a_is_whole_to D.d_is_whole_to P_is_whole_to (spWToA K) := by
  have G_is_count : FnOk P w K mg base CX0 2 D.a_is_count D.d_is_count P_is_count (spCntA K) := ok_is_count T
  refine T.is_whole_to_F.ok S_is_whole_to (fun vs H Q E h => ?_) (fun cdv A outer s H vs Q E hr h => ?_)
  · obtain ⟨x, l, b, rfl, _⟩ := h
    rfl
  · obtain ⟨x, l, b, rfl, h, q⟩ := h
    refine ⟨_, (pss_one (ps_ret (pe_and (pe_call G_is_count (hr.mono (by decide)) (by rfl) T.is_count_g T.is_count_F.kp T.is_count_b .nil pass0 (pa_cons (pv 0) pa_nil)) (pe_one (pe_cmpR op_le (pv 0) (pv 1) (nomark _)))))), ?_⟩
    rcases h with ⟨i, rfl, rfl⟩ | ⟨pl, rfl⟩
    · refine ⟨_, rfl, _, _, rfl, .inl ⟨i, rfl, rfl⟩, _, rfl, ?_⟩
      by_cases h0 : 0 ≤ i
      · rw [decide_eq_true h0] at q ⊢
        exact iteT ⟨_, rfl, _, rfl, _, _, rfl, rfl, by simpa using q⟩
      · rw [decide_eq_false h0] at q ⊢
        exact iteF (by simpa using q)
    · exact ⟨_, rfl, _, false, rfl, .inr ⟨pl, rfl⟩, false, rfl, iteF q⟩
def spWTo : Sp := fun vs H Q _ => ∃ i l : Int, vs = [.int i, .int l] ∧ 0 ≤ i ∧ i ≤ l ∧ Q (.bl true) H
theorem ok_is_whole_to (T : Tex K mg D) : FnOk P w K mg base CX0 3 D.a_is_whole_to D.d_is_whole_to P_is_whole_to spWTo :=
  (ok_is_whole_toA T).imp fun vs H Q E h => by
    obtain ⟨i, l, rfl, h0, h1, q⟩ := h
    exact ⟨_, l, true, rfl, .inl ⟨i, rfl, by rw [decide_eq_true h0, decide_eq_true h1]; rfl⟩, q⟩
end

/-! ## Versions: the class -/
section
variable {P : Program} {w : World} {K : PySem.W.Frag} {mg : Str → Option Value} {base : Heap} {D : Ad}
open TL SX
theorem wd_len (i : Nat) : (wd i).length ≤ 2 := by
  match i with
  | 0 => simp [wd]
  | 1 => simp [wd]
  | n + 2 => simp [wd]
theorem stN_wd {i : Nat} (h : i < 3) : stN[i]? = some (.str (S (wd i))) := by
  match i, h with
  | 0, _ => rw [← wd_txt.1]; rfl
  | 1, _ => rw [← wd_txt.2.1]; rfl
  | 2, _ => rw [← wd_txt.2.2]; rfl
def spTxSt : Sp := fun vs H Q _ => ∃ st : Nat, vs = [.int (st : Int)] ∧ st ≤ 3000 ∧ Q (.str (S (stg st))) H
theorem ok_text_of_stage (T : Tex K mg D) : FnOk P w K mg base CX0 1 D.a_text_of_stage D.d_text_of_stage P_text_of_stage spTxSt := by
  refine T.text_of_stage_F.ok S_text_of_stage (fun vs H Q E h => ?_) (fun cdv A outer s H vs Q E hr h => ?_)
  · obtain ⟨st, rfl, _⟩ := h
    rfl
  · obtain ⟨st, rfl, hs, q⟩ := h
    refine ⟨_, (pss_cons (ps_if (pt_cmpR op_eq (pv 0) (pe_glob (v := .int 3000) rfl T.c_FINAL ⟨_, rfl⟩) (nomark _)) (pss_one (ps_ret pe_str)) pss_nil)
      (pss_one (ps_ret (pe_joined (.cons (pe_fmt (pe_ix ix_tup (pe_glob (v := .ref D.k_STAGES) rfl T.c_STAGES rfl) (pe_op op_fdiv (pv 0) pe_int) (fun _ _ => rfl))) (.cons (pe_fmt (pe_op op_mod (pv 0) pe_int)) .nil)))))), ?_⟩
    refine ⟨_, rfl, rfl, _, rfl, ?_⟩
    by_cases h3 : st = 3000
    · subst h3
      rw [decide_eq_true (show V.int ((3000 : Nat) : Int) = V.int 3000 from rfl)]
      exact iteT q
    · rw [decide_eq_false (by
        intro e
        injection e with e
        omega)]
      have hlt : st / 1000 < 3 := by omega
      have hat : atI stN ((st : Int) / 1000) = some (.str (S (wd (st / 1000)))) := by
        rw [show (st : Int) / 1000 = ((st / 1000 : Nat) : Int) by omega]
        exact atI_nat (stN_wd hlt)
      have e0 : stg st = wd (st / 1000) ++ numL (st % 1000) := if_neg h3
      have hl := wd_len (st / 1000)
      have hn := numL_len3 (show st % 1000 < 1000 by omega)
      refine iteF ⟨_, rfl, _, _, rfl, rfl, ⟨by decide, by decide⟩, D.k_STAGES, stN, _, _, rfl, rfl, stK T _, hat, .inl ⟨_, rfl, ?_, ?_⟩⟩
      · rw [S_len]
        exact szl (by omega)
      · have e1 : Str.empty ++ S (wd (st / 1000)) = S (wd (st / 1000)) := S_cat [] _
        refine ⟨_, rfl, ?_, ?_⟩
        · rw [e1, S_len]
          exact szl (by omega)
        · refine ⟨_, rfl, _, _, rfl, rfl, (posI rfl), .inr ⟨_, rfl, ?_, ?_⟩⟩
          · rw [show (st : Int) % 1000 = ((st % 1000 : Nat) : Int) by omega]
            exact log_num (by omega)
          · rw [show (st : Int) % 1000 = ((st % 1000 : Nat) : Int) by omega]
            rw [e1, str_num]
            refine ⟨_, rfl, ?_, ?_⟩
            · rw [S_cat, S_len, List.length_append]
              exact szl (by omega)
            · rw [S_cat, ← e0]
              exact q
theorem n4_trim_len (r : Nat) : (trim (n4 r)).length ≤ 4 := by
  rw [trim_len]
  exact many_le (n4 r) 4
theorem join_len : ∀ {figs : List Nat}, (∀ n ∈ figs, n < 1000) → (joinL [46] (figs.map numL)).length ≤ 4 * figs.length
  | [], _ => by simp [joinL]
  | [n], h => by
    have := numL_len3 (h n (by simp))
    show (numL n).length ≤ _
    simp only [List.length_cons, List.length_nil]
    omega
  | n :: m :: r, h => by
    have h1 := numL_len3 (h n (by simp))
    have ih := join_len (figs := m :: r) fun x hx => h x (List.mem_cons_of_mem _ hx)
    show (numL n ++ ([46] ++ joinL [46] ((m :: r).map numL))).length ≤ _
    rw [List.length_append, List.length_append]
    simp only [List.length_cons, List.length_nil] at ih ⊢
    omega
theorem stg_len (st : Nat) : (stg st).length ≤ 5 := by
  unfold stg
  split
  · simp
  · rw [List.length_append]
    have h1 := wd_len (st / 1000)
    have h2 := numL_len3 (show st % 1000 < 1000 by omega)
    omega
theorem wrt_len {figs : List Nat} {st : Nat} (hb : ∀ n ∈ figs, n < 1000) : (wrt figs st).length ≤ 4 * figs.length + 5 := by
  unfold wrt
  rw [List.length_append]
  have h1 := join_len hb
  have h2 := stg_len st
  omega
theorem tA_len {r : Nat} (h : r ≤ 3000999999999999) : (tA r).length ≤ 100 := by
  have h1 := wrt_len (figs := trim (n4 r)) (st := r % 3001) (fun n hn => n4_lt h n (List.mem_of_mem_take hn))
  have h2 := n4_trim_len r
  unfold tA
  omega
def spTA : Sp := fun vs H Q _ => ∃ r : Nat, vs = [.int (r : Int)] ∧ r ≤ LAST ∧ ∀ H', Same H H' → Q (.str (S (tA r))) H'
theorem ok_text_at (T : Tex K mg D) : FnOk P w K mg base CX0 2 D.a_text_at D.d_text_at P_text_at spTA := by
  have G_numbers_at : FnOk P w K mg base CX0 1 D.a_numbers_at D.d_numbers_at P_numbers_at spN4 := ok_numbers_at T
  have G_text_of_numbers : FnOk P w K mg base CX0 1 D.a_text_of_numbers D.d_text_of_numbers P_text_of_numbers (spTxN K) := ok_text_of_numbers T
  have G_text_of_stage : FnOk P w K mg base CX0 1 D.a_text_of_stage D.d_text_of_stage P_text_of_stage spTxSt := ok_text_of_stage T
  refine T.text_at_F.ok S_text_at (fun vs H Q E h => ?_) (fun cdv A outer s H vs Q E hr h => ?_)
  · obtain ⟨r, rfl, _⟩ := h
    rfl
  · obtain ⟨r, rfl, hl, q⟩ := h
    refine ⟨_, (pss_one (ps_ret (pe_op op_add_str (pe_call G_text_of_numbers (hr.mono (by decide)) (by rfl) T.text_of_numbers_g T.text_of_numbers_F.kp T.text_of_numbers_b .nil pass0 (pa_cons (pe_call G_numbers_at (hr.mono (by decide)) (by rfl) T.numbers_at_g T.numbers_at_F.kp T.numbers_at_b .nil pass0 (pa_cons (pv 0) pa_nil)) pa_nil)) (pe_call G_text_of_stage (hr.mono (by decide)) (by rfl) T.text_of_stage_g T.text_of_stage_F.kp T.text_of_stage_b .nil pass0 (pa_cons (pe_op op_mod (pv 0) (pe_glob (v := .int 3001) rfl T.c_WIDTH ⟨_, rfl⟩)) pa_nil))))), ?_⟩
    refine ⟨_, rfl, r, rfl, fun p H1 s1 hp hp' => ⟨p, n4 r, rfl, sqT_of hp', by simp [n4], by simp [n4], n4_lt hl, fun H2 s2 => ?_⟩⟩
    refine ⟨_, rfl, _, _, rfl, rfl, (posI rfl), r % 3001, ?_, by omega, ?_⟩
    · show [V.int ((r : Int) % 3001)] = _
      rw [show (r : Int) % 3001 = ((r % 3001 : Nat) : Int) by omega]
    · have h1 := join_len (figs := trim (n4 r)) fun n hn => n4_lt hl n (List.mem_of_mem_take hn)
      have h2 := n4_trim_len r
      have h3 := stg_len (r % 3001)
      refine ⟨_, _, rfl, rfl, ?_, ?_⟩
      · rw [S_len, S_len]
        exact szl (by omega)
      · rw [S_cat]
        exact q H2 (s1.trans s2)
/-! ### the object -/
def Ver (C : Addr) (H : Hp) (a : Addr) (r : Nat) : Prop := ∃ dx, H a = some (.ins C dx [("_rank", .int (r : Int))])
theorem Ver.keep {C a : Addr} {H H' : Hp} {r : Nat} (h : Ver C H a r) (e : Same H H') : Ver C H' a r := let ⟨dx, h⟩ := h; ⟨dx, e _ _ h⟩
theorem lk_rank (v : V) : List.lookup ("_rank" : Str) [(("_rank" : Str), v)] = some v := by simp [List.lookup]
def spInit (C : Addr) : Sp := fun vs H Q _ => ∃ (x dx : Addr) (l ns : List Nat) (st : Nat), vs = [.ref x, .str (S l)] ∧ H x = some (.ins C dx []) ∧ l.length ≤ 80000 ∧ pT l = some (ns, st) ∧ ns ≠ [] ∧ ns.length ≤ 4 ∧
  ∀ H1, Same H H1 → Q .non (upd H1 x (.ins C dx [("_rank", .int (rk ns st : Nat))]))
theorem ok_Version_init (T : Tex K mg D) : FnOk P w K mg base CX0 6 D.a_Version_init D.d_Version_init P_Version_init (spInit D.a_Version) := by
  have G_parts_of_text : FnOk P w K mg base CX0 5 D.a_parts_of_text D.d_parts_of_text P_parts_of_text spParts := ok_parts_of_text T
  have G_rank_of : FnOk P w K mg base CX0 1 D.a_rank_of D.d_rank_of P_rank_of (spRank K) := ok_rank_of T
  refine T.Version_init_F.ok S_Version_init (fun vs H Q E h => ?_) (fun cdv A outer s H vs Q E hr h => ?_)
  · obtain ⟨x, dx, l, ns, st, rfl, _⟩ := h
    rfl
  · obtain ⟨x, dx, l, ns, st, rfl, hx, hl, hp, hne, h4, q⟩ := h
    refine ⟨_, (pss_cons (ps_set (i := 2) S_Version_init.nd rfl (Or.inl rfl) (pe_call G_parts_of_text (hr.mono (by decide)) (by rfl) T.parts_of_text_g T.parts_of_text_F.kp T.parts_of_text_b .nil pass0 (pa_cons (pv 1) pa_nil)))
      (pss_cons (ps_if (pt_cmpR op_isN (pv 2) pe_non (nomark _)) (pss_one ps_never) pss_nil)
      (pss_cons (ps_asg (pv 2) (pg_tup (by rfl) (pgs_cons (pg_name (i := 3) S_Version_init.nd rfl (Or.inl rfl)) (pgs_cons (pg_name (i := 4) S_Version_init.nd rfl (Or.inl rfl)) pgs_nil))))
      (pss_one (ps_fld (pv 0) (pe_call G_rank_of (hr.mono (by decide)) (by rfl) T.rank_of_g T.rank_of_F.kp T.rank_of_b .nil pass0 (pa_cons (pv 3) (pa_cons (pv 4) pa_nil))) rfl))))), ?_⟩
    refine ⟨_, rfl, l, rfl, hl, fun e => (by rw [hp] at e; cases e), fun ns' st' e p t H1 s1 hpf hp' ht' => ?_⟩
    rw [hp] at e
    cases e
    refine ⟨_, rfl, rfl, _, rfl, iteF ?_⟩
    refine ⟨_, rfl, p, _, rfl, .inl (.inl hp'), rfl, _, _, rfl, _, _, rfl, rfl, ?_⟩
    refine ⟨_, rfl, _, rfl, t, ns, st, rfl, sqT_of ht', hne, Nat.le_trans h4 (by decide), fun H2 s2 => ?_⟩
    exact ⟨_, rfl, x, _, dx, [], rfl, s2 _ _ (s1 _ _ hx), T.Version_cl, T.Version_n_rank, by decide, q H2 (s1.trans s2)⟩
/-- what the making of a version leaves -/
theorem make_same {H H1 : Hp} {C x dx : Addr} {fs : List (Str × V)} (hx : H x = none) (hd : H dx = none) (s : Same (upd (upd H dx (.own x)) x (.ins C dx [])) H1) : Same H (upd H1 x (.ins C dx fs)) := by
  intro b o e
  have n1 : b ≠ x := ne_of_none e hx
  have n2 : b ≠ dx := ne_of_none e hd
  rw [upd_ne n1]
  refine s b o ?_
  rw [upd_ne n1, upd_ne n2]
  exact e
def spAt (C : Addr) : Sp := fun vs H Q _ => ∃ r : Nat, vs = [.ref C, .int (r : Int)] ∧ r ≤ LAST ∧ ∀ a H', Same H H' → H a = none → Ver C H' a r → Q (.ref a) H'
theorem ok_Version_at (T : Tex K mg D) : FnOk P w K mg base CX0 8 D.a_Version_at D.d_Version_at P_Version_at (spAt D.a_Version) := by
  have G_is_whole_to : FnOk P w K mg base CX0 3 D.a_is_whole_to D.d_is_whole_to P_is_whole_to spWTo := ok_is_whole_to T
  have G_text_at : FnOk P w K mg base CX0 2 D.a_text_at D.d_text_at P_text_at spTA := ok_text_at T
  have G_Version_init : FnOk P w K mg base CX0 6 D.a_Version_init D.d_Version_init P_Version_init (spInit D.a_Version) := ok_Version_init T
  refine T.Version_at_F.ok S_Version_at (fun vs H Q E h => ?_) (fun cdv A outer s H vs Q E hr h => ?_)
  · obtain ⟨r, rfl, _⟩ := h
    rfl
  · obtain ⟨r, rfl, hl, q⟩ := h
    refine ⟨_, (pss_cons (ps_if (pt_not (pt_val (pe_call G_is_whole_to (hr.mono (by decide)) (by rfl) T.is_whole_to_g T.is_whole_to_F.kp T.is_whole_to_b .nil pass0 (pa_cons (pv 1) (pa_cons (ClX.pe_cval (pv 0)) pa_nil))))) (pss_one ps_never) pss_nil)
      (pss_one (ps_ret (pe_makeL (i := 0) T.Version_mk G_Version_init (hr.mono (by decide)) rfl (Or.inl rfl) T.Version_init_b pass0 (pa_cons (pe_call G_text_at (hr.mono (by decide)) (by rfl) T.text_at_g T.text_at_F.kp T.text_at_b .nil pass0 (pa_cons (pv 1) pa_nil)) pa_nil))))), ?_⟩
    have hl' : (r : Int) ≤ 3000999999999999 := by
      have : r ≤ 3000999999999999 := hl
      omega
    refine ⟨_, rfl, _, rfl, D.a_Version, _, _, _, rfl, T.Version_rd, T.Version_LAST, _, _, rfl, by omega, hl', _, rfl, iteF ?_⟩
    refine ⟨rfl, _, rfl, r, rfl, hl, fun H1 s1 => fun x dx hx hd _ => ?_⟩
    refine ⟨x, dx, tA r, _, _, rfl, upd_same, by have := tA_len hl; omega, pT_tA hl, ?_, n4_trim_len r, fun H2 s2 => ⟨rfl, ?_⟩⟩
    · intro e
      have h1 := trim_len (n4 r)
      rw [e] at h1
      have h2 := many_pos (n4 r) 4 (by decide)
      have h3 : (n4 r).length = 4 := rfl
      rw [h3] at h1
      simp only [List.length_nil] at h1
      omega
    · rw [rk_trim hl]
      exact q x _ (s1.trans (make_same hx hd s2)) (s1.free hx) ⟨dx, upd_same⟩
def spRk (C : Addr) : Sp := fun vs H Q _ => ∃ (a : Addr) (r : Nat), vs = [.ref a] ∧ Ver C H a r ∧ Q (.int (r : Int)) H
theorem ok_Version_rank (T : Tex K mg D) : FnOk P w K mg base CX0 1 D.a_Version_rank D.d_Version_rank P_Version_rank (spRk D.a_Version) := by
  refine T.Version_rank_F.ok S_Version_rank (fun vs H Q E h => ?_) (fun cdv A outer s H vs Q E hr h => ?_)
  · obtain ⟨a, r, rfl, _⟩ := h
    rfl
  · obtain ⟨a, r, rfl, ⟨dx, ha⟩, q⟩ := h
    exact ⟨_, (pss_one (ps_ret (pe_fld (pv 0) rfl))), _, rfl, a, _, dx, _, _, rfl, ha, T.Version_cl, T.Version_n_rank, lk_rank _, q⟩
end

/-! ## Versions compared and written -/
section
variable {P : Program} {w : World} {K : PySem.W.Frag} {mg : Str → Option Value} {base : Heap} {D : Ad}
open TL SX
def spStr (C : Addr) : Sp := fun vs H Q _ => ∃ (a : Addr) (r : Nat), vs = [.ref a] ∧ Ver C H a r ∧ r ≤ LAST ∧ ∀ H', Same H H' → Q (.str (S (tA r))) H'
theorem ok_Version_str (T : Tex K mg D) : FnOk P w K mg base CX0 3 D.a_Version_str D.d_Version_str P_Version_str (spStr D.a_Version) := by
  have G_text_at : FnOk P w K mg base CX0 2 D.a_text_at D.d_text_at P_text_at spTA := ok_text_at T
  refine T.Version_str_F.ok S_Version_str (fun vs H Q E h => ?_) (fun cdv A outer s H vs Q E hr h => ?_)
  · obtain ⟨a, r, rfl, _⟩ := h
    rfl
  · obtain ⟨a, r, rfl, ⟨dx, ha⟩, hl, q⟩ := h
    exact ⟨_, (pss_one (ps_ret (pe_callTy SkE.call_str_str (by rfl) T.b_str (by decide +kernel) (pa_cons (pe_call G_text_at (hr.mono (by decide)) (by rfl) T.text_at_g T.text_at_F.kp T.text_at_b .nil pass0 (pa_cons (pe_fld (pv 0) rfl) pa_nil)) pa_nil)))), _, rfl, a, _, dx, _, _, rfl, ha, T.Version_cl, T.Version_n_rank, lk_rank _, r, rfl, hl, fun H1 s1 => ⟨_, rfl, q H1 s1⟩⟩
end

/-! ## The law's drawn parts -/
section
variable {P : Program} {w : World} {K : PySem.W.Frag} {mg : Str → Option Value} {base : Heap} {D : Ad}
open TL SX
def sw : Nat → List Nat
  | 0 => [97]
  | 1 => [98]
  | 2 => [114, 99]
  | _ => []
theorem sw_txt : (("a" : String) : Str) = S (sw 0) ∧ (("b" : String) : Str) = S (sw 1) ∧ (("rc" : String) : Str) = S (sw 2) ∧ (("" : String) : Str) = S (sw 3) := by decide +kernel
theorem sw_nil {j : Nat} (h : j ≤ 3) : sw j = [] ↔ j = 3 := by
  match j, h with
  | 0, _ => simp [sw]
  | 1, _ => simp [sw]
  | 2, _ => simp [sw]
  | 3, _ => simp [sw]
theorem sw_len (j : Nat) : (sw j).length ≤ 2 := by
  match j with
  | 0 => simp [sw]
  | 1 => simp [sw]
  | 2 => simp [sw]
  | n + 3 => simp [sw]
theorem sw_wd {j : Nat} (h : j < 3) : sw j = wd j := by
  match j, h with
  | 0, _ => rfl
  | 1, _ => rfl
  | 2, _ => rfl
theorem sw_ne {j : Nat} (h : j ≤ 3) : decide (V.str (S (sw j)) = V.str (("" : String) : Str)) = decide (j = 3) := by
  refine decide_eq_decide.mpr ?_
  rw [sw_txt.2.2.2]
  constructor
  · intro e
    injection e with e
    exact (sw_nil h).mp (S_inj e)
  · rintro rfl
    rfl
/-- drawn parts: the figures' list at q, the stage's place -/
def Pt (H : Hp) (p : Addr) (fs : List Nat) (st : Nat) : Prop := ∃ q, H p = some (.tup [.ref q, .str (S (sw (st / 1000))), .int ((st % 1000 : Nat) : Int)]) ∧ H q = some (.lst (vN fs)) ∧ fs ≠ [] ∧ fs.length ≤ 4 ∧ (∀ n ∈ fs, n < 1000) ∧ st ≤ 3000
theorem Pt.keep {H H' : Hp} {p : Addr} {fs : List Nat} {st : Nat} (h : Pt H p fs st) (e : Same H H') : Pt H' p fs st := let ⟨q, h1, h2, r⟩ := h; ⟨q, e _ _ h1, e _ _ h2, r⟩
theorem Pt.but {H H' : Hp} {p d c : Addr} {n : Nat} {fs : List Nat} {st : Nat} (h : Pt H p fs st) (hd : Dr H d c n) (e : But d H H') : Pt H' p fs st := by
  obtain ⟨q, h1, h2, r⟩ := h
  obtain ⟨o, ho⟩ := hd.dict
  exact ⟨q, e _ _ h1 (ne_of h1 ho (by intro z; cases z)), e _ _ h2 (ne_of h2 ho (by intro z; cases z)), r⟩
theorem vN_len (ns : List Nat) : (vN ns).length = ns.length := List.length_map _
def spNumb : Sp := fun vs H Q _ => ∃ (d c : Addr) (n : Nat), vs = [.ref d] ∧ Dr H d c n ∧ n ≤ 10 ^ 11 ∧ ∀ (m : Nat) H', m < 1000 → Dr H' d c (n + 2) → But d H H' → Q (.int (m : Int)) H'
theorem ok_number (T : Tex K mg D) : FnOk P w K mg base CX0 3 D.a_number D.d_number P_number spNumb := by
  have G_next : FnOk P w K mg base CX0 2 D.a_next D.d_next P_next spNext := ok_next T
  refine T.number_F.ok S_number (fun vs H Q E h => ?_) (fun cdv A outer s H vs Q E hr h => ?_)
  · obtain ⟨d, c, n, rfl, _⟩ := h
    rfl
  · obtain ⟨d, c, n, rfl, hd, hn, q⟩ := h
    refine ⟨_, (pss_one (ps_ret (pe_ix ix_list (pe_lst (pa_cons pe_int (pa_cons pe_int (pa_cons pe_int (pa_cons pe_int (pa_cons pe_int (pa_cons pe_int (pa_cons pe_int (pa_cons pe_int (pa_cons pe_int (pa_cons (pe_call G_next (hr.mono (by decide)) (by rfl) T.next_g T.next_F.kp T.next_b .nil pass0 (pa_cons (pv 0) (pa_cons pe_int pa_nil))) pa_nil))))))))))) (pe_call G_next (hr.mono (by decide)) (by rfl) T.next_g T.next_F.kp T.next_b .nil pass0 (pa_cons (pv 0) (pa_cons pe_int pa_nil))) (fun _ _ => rfl)))), ?_⟩
    refine ⟨_, rfl, d, c, 1000, n, rfl, hd, by omega, by decide, by decide, fun v1 H1 v10 v11 d1 b1 => ⟨by show 10 ≤ sizeLine; decide, fun p hp => ?_⟩⟩
    have ndp := d1.ne_new hp
    refine ⟨_, rfl, d, c, 10, n + 1, rfl, d1.new hp, by omega, by decide, by decide, fun v2 H2 v20 v21 d2 b2 => ?_⟩
    obtain ⟨m1, rfl⟩ := Int.eq_ofNat_of_zero_le v10
    have hp2 := b2 p _ upd_same ndp.symm
    have e : [V.int 0, .int 0, .int 1, .int 2, .int 9, .int 10, .int 99, .int 100, .int 999, .int ((m1 : Nat) : Int)] = vN [0, 0, 1, 2, 9, 10, 99, 100, 999, m1] := rfl
    rw [e] at hp2
    obtain ⟨x, hx, mx⟩ := at_in (xs := vN [0, 0, 1, 2, 9, 10, 99, 100, 999, m1]) v20 v21
    obtain ⟨m, hm, rfl⟩ := List.mem_map.mp mx
    refine ⟨p, _, _, _, rfl, rfl, SqL.of hp2, hx, ?_⟩
    refine q m H2 ?_ d2 ((b1.new hp).trans b2)
    simp only [List.mem_cons, List.not_mem_nil, or_false] at hm
    omega
def spPt : Sp := fun vs H Q _ => ∃ (d c : Addr) (n : Nat), vs = [.ref d] ∧ Dr H d c n ∧ n ≤ 10 ^ 10 ∧ ∀ p fs st H', Pt H' p fs st → Dr H' d c (n + 20) → But d H H' → Q (.ref p) H'
theorem sw_six {x : V} (h : x ∈ [V.str "", .str "", .str "", .str "a", .str "b", .str "rc"]) : ∃ j, j ≤ 3 ∧ x = .str (S (sw j)) := by
  simp only [List.mem_cons, List.not_mem_nil, or_false] at h
  rcases h with rfl | rfl | rfl | rfl | rfl | rfl
  · exact ⟨3, by decide, by rw [← sw_txt.2.2.2]⟩
  · exact ⟨3, by decide, by rw [← sw_txt.2.2.2]⟩
  · exact ⟨3, by decide, by rw [← sw_txt.2.2.2]⟩
  · exact ⟨0, by decide, by rw [← sw_txt.1]⟩
  · exact ⟨1, by decide, by rw [← sw_txt.2.1]⟩
  · exact ⟨2, by decide, by rw [← sw_txt.2.2.1]⟩
/-- a stage and what stands behind it -/
theorem pt_of {H : Hp} {p q : Addr} {fs : List Nat} {j m : Nat} (h1 : H p = some (.tup [.ref q, .str (S (sw j)), .int (m : Int)])) (h2 : H q = some (.lst (vN fs))) (h0 : fs ≠ []) (h4 : fs.length ≤ 4) (hb : ∀ n ∈ fs, n < 1000)
    (hj : j ≤ 3) (hm : m < 1000) (h3 : j = 3 → m = 0) : Pt H p fs (j * 1000 + m) := by
  have e1 : (j * 1000 + m) / 1000 = j := by omega
  have e2 : (j * 1000 + m) % 1000 = m := by omega
  refine ⟨q, ?_, h2, h0, h4, hb, by omega⟩
  rw [e1, e2]
  exact h1
theorem ok_parts (T : Tex K mg D) : FnOk P w K mg base CX0 4 D.a_parts D.d_parts P_parts spPt := by
  have G_next : FnOk P w K mg base CX0 2 D.a_next D.d_next P_next spNext := ok_next T
  have G_number : FnOk P w K mg base CX0 3 D.a_number D.d_number P_number spNumb := ok_number T
  refine T.parts_F.ok S_parts (fun vs H Q E h => ?_) (fun cdv A outer s H vs Q E hr h => ?_)
  · obtain ⟨d, c, n, rfl, _⟩ := h
    rfl
  · obtain ⟨d, c, n, rfl, hd, hn, q⟩ := h
    refine ⟨_, (pss_cons (ps_setLc (i := 1) (own := [(("_law_k" : Str), 3)]) (g := gName 3) (tt := tYes) rfl S_parts.nd rfl rfl (sw_true rfl rfl rfl (by decide +kernel)) (pi_range1 rfl T.b_range (pa_cons (pe_op op_add pe_int (pe_call G_next (hr.mono (by decide)) (by rfl) T.next_g T.next_F.kp T.next_b .nil pass0 (pa_cons (pv 0) (pa_cons pe_int pa_nil)))) pa_nil)) (blkOk_by (N := N_parts) (sc := defScope s_parts) (by decide +kernel)) (fun _ _ _ _ _ => pg_name (i := 3) S_parts.nd rfl (Or.inl rfl)) (fun _ _ _ _ _ => pts_nil) (fun _ _ _ _ _ => (pe_call G_number (hr.mono (by decide)) (by rfl) T.number_g T.number_F.kp T.number_b .nil pass0 (pa_cons (pv 0) pa_nil))))
      (pss_cons (ps_set (i := 2) S_parts.nd rfl (Or.inl rfl) (pe_ix ix_list (pe_lst (pa_cons pe_str (pa_cons pe_str (pa_cons pe_str (pa_cons pe_str (pa_cons pe_str (pa_cons pe_str pa_nil))))))) (pe_call G_next (hr.mono (by decide)) (by rfl) T.next_g T.next_F.kp T.next_b .nil pass0 (pa_cons (pv 0) (pa_cons pe_int pa_nil))) (fun _ _ => rfl)))
      (pss_one (ps_ret (pe_tup (pa_cons (pv 1) (pa_cons (pv 2) (pa_cons (pe_ifExp (pt_cmpR op_ne (pv 2) pe_str (nomark _)) (pe_call G_number (hr.mono (by decide)) (by rfl) T.number_g T.number_F.kp T.number_b .nil pass0 (pa_cons (pv 0) pa_nil)) pe_int) pa_nil)))))))), ?_⟩
    refine ⟨_, rfl, d, c, 4, n, rfl, hd, by omega, by decide, by decide, fun v1 H1 v10 v11 d1 b1 => ?_⟩
    refine ⟨_, _, rfl, rfl, _, rfl, by omega, by omega, fun DD hDD => ?_⟩
    have ndD : d ≠ DD := d1.ne_new hDD
    have ncD : c ≠ DD := d1.nc_new hDD
    have hcnt : (1 + v1).toNat ≤ 4 ∧ 1 ≤ (1 + v1).toNat := by omega
    revert hcnt
    generalize (1 + v1).toNat = cnt
    intro hcnt
    refine lc_range (lo := 0) (n := cnt) (fun i H' => Dr H' d c (n + 1 + 2 * i) ∧ But d H H' ∧ H DD = none ∧ ∃ ys : List Nat, ys.length = i ∧ (∀ y ∈ ys, y < 1000) ∧ H' DD = some (.lst (vN ys)))
      ⟨d1.new hDD, b1.new hDD, b1.free ndD hDD, [], rfl, by simp, upd_same⟩ ?_ ?_
    · rintro i H4 hi ⟨d6, b6, hDH, ys, yl, yp, hD4⟩
      refine ⟨rfl, _, rfl, d, c, _, rfl, d6, by omega, fun m H5 hm d7 b7 => ?_⟩
      have hD5 := b7 DD _ hD4 ndD.symm
      refine ⟨_, hD5, szt (by rw [vN_len]; omega), (d7.off ndD ncD).mono (by omega), ?_, hDH, ys ++ [m], by simp [yl], ?_, ?_⟩
      · intro b o e nb
        rw [upd_ne (ne_of_none e hDH)]
        exact b7 b o (b6 b o e nb) nb
      · intro y hy
        rcases List.mem_append.mp hy with h | h
        · exact yp y h
        · rw [List.mem_singleton.mp h]
          exact hm
      · rw [upd_same]
        simp [vN]
    · rintro H4 ⟨d6, b6, hDH, ys, yl, yp, hD4⟩
      refine ⟨by show 6 ≤ sizeLine; decide, fun k hk => ?_⟩
      have ndk := d6.ne_new hk
      refine ⟨_, rfl, d, c, 6, _, rfl, d6.new hk, by omega, by decide, by decide, fun v2 H5 v20 v21 d7 b7 => ?_⟩
      have hk5 := b7 k _ upd_same ndk.symm
      obtain ⟨x, hx, mx⟩ := at_in (xs := [V.str "", .str "", .str "", .str "a", .str "b", .str "rc"]) v20 v21
      obtain ⟨j, hj, rfl⟩ := sw_six mx
      refine ⟨k, _, _, _, rfl, rfl, SqL.of hk5, hx, ?_⟩
      have b8 := (b6.new hk).trans b7
      have hD5 : H5 DD = some (.lst (vN ys)) := b7 DD _ (by rw [upd_ne (ne_of_none hD4 hk)]; exact hD4) ndD.symm
      have hy0 : ys ≠ [] := by
        intro e
        rw [e] at yl
        simp only [List.length_nil] at yl
        omega
      refine ⟨_, rfl, _, rfl, _, rfl, rfl, _, rfl, ?_⟩
      rw [sw_ne hj]
      by_cases h3 : j = 3
      · rw [decide_eq_true h3]
        refine iteF ⟨by show 3 ≤ sizeLine; decide, fun p hp => ?_⟩
        have nDp : DD ≠ p := ne_of_none hD5 hp
        refine q p ys (j * 1000 + 0) _ (pt_of upd_same (by rw [upd_ne nDp]; exact hD5) hy0 (by omega) yp hj (by decide) (fun _ => rfl)) ((d7.new hp).mono (by omega)) (b8.new hp)
      · rw [decide_eq_false h3]
        refine iteT ⟨_, rfl, d, c, _, rfl, d7, by omega, fun m H6 hm d8 b9 => ⟨by show 3 ≤ sizeLine; decide, fun p hp => ?_⟩⟩
        have hD6 := b9 DD _ hD5 ndD.symm
        have nDp : DD ≠ p := ne_of_none hD6 hp
        exact q p ys (j * 1000 + m) _ (pt_of upd_same (by rw [upd_ne nDp]; exact hD6) hy0 (by omega) yp hj hm (fun e => absurd e h3)) ((d8.new hp).mono (by omega)) ((b8.trans b9).new hp)
end

/-! ## The law's texts, rows and ranks -/
section
variable {P : Program} {w : World} {K : PySem.W.Frag} {mg : Str → Option Value} {base : Heap} {D : Ad}
open TL SX
def spWrit : Sp := fun vs H Q _ => ∃ (p : Addr) (fs : List Nat) (st : Nat), vs = [.ref p] ∧ Pt H p fs st ∧ ∀ H', Same H H' → Q (.str (S (wrt fs st))) H'
theorem stg_sw {st : Nat} (h : st ≤ 3000) (h3 : st / 1000 ≠ 3) : stg st = sw (st / 1000) ++ numL (st % 1000) := by
  unfold stg
  rw [if_neg (by omega), sw_wd (by omega)]
theorem stg_3 {st : Nat} (h : st ≤ 3000) (h3 : st / 1000 = 3) : stg st = [] := by
  unfold stg
  rw [if_pos (by omega)]
theorem ok_written (T : Tex K mg D) : FnOk P w K mg base CX0 1 D.a_written D.d_written P_written spWrit := by
  refine T.written_F.ok S_written (fun vs H Q E h => ?_) (fun cdv A outer s H vs Q E hr h => ?_)
  · obtain ⟨p, fs, st, rfl, _⟩ := h
    rfl
  · obtain ⟨p, fs, st, rfl, ⟨a, hp, ha, h0, h4, hb, hs⟩, q⟩ := h
    refine ⟨_, (pss_cons (ps_asg (pv 0) (pg_tup (by rfl) (pgs_cons (pg_name (i := 1) S_written.nd rfl (Or.inl rfl)) (pgs_cons (pg_name (i := 2) S_written.nd rfl (Or.inl rfl)) (pgs_cons (pg_name (i := 3) S_written.nd rfl (Or.inl rfl)) pgs_nil)))))
      (pss_one (ps_ret (pe_op op_add_str (pe_join pe_str (pe_lc (own := [(("_law_one" : Str), 4)]) (g := gName 4) (tt := tYes) rfl S_written.nd (pi_list (pv 1)) (blkOk_by (N := N_written) (sc := defScope s_written) (by decide +kernel)) (fun _ _ _ _ _ => pg_name (i := 4) S_written.nd rfl (Or.inl rfl)) (fun _ _ _ _ _ => pts_nil) (fun _ _ _ _ _ => (pe_callTy call_str_int (by rfl) T.b_str (by decide +kernel) (pa_cons (pv 4) pa_nil))))) (pe_ifExp (pt_cmpR op_ne (pv 2) pe_str (nomark _)) (pe_op op_add_str (pv 2) (pe_callTy call_str_int (by rfl) T.b_str (by decide +kernel) (pa_cons (pv 3) pa_nil))) pe_str))))), ?_⟩
    refine ⟨_, rfl, p, _, rfl, .inl (.inl hp), rfl, _, _, rfl, _, _, rfl, _, _, rfl, rfl, ?_⟩
    refine ⟨⟨_, rfl⟩, _, rfl, a, rfl, ⟨_, SqL.of ha⟩, fun DD hDD => lc_lst fs (fun (n : Nat) => V.int (n : Int)) (fun _ => true) (fun n => .str (S (numL n))) hDD (szt (by omega)) (SqL.of ha) (fun n hn H4 R S4 s4 g1 g2 => ?_) (fun H4 s4 h4' => ?_)⟩
    · refine ⟨rfl, _, rfl, _, rfl, log_num (by have := hb n hn; omega), ?_⟩
      rw [str_num]
      exact g1 rfl _ (Same.refl _)
    · rw [filt1] at h4'
      refine ⟨_, DD, fs.map (fun n => S (numL n)), rfl, rfl, .inl (SqL.of (by rw [h4', List.map_map]; rfl)), ?_, ?_⟩
      · have h1 := sum_le fs hb
        rw [List.length_map]
        have h2 : (("." : String) : Str).length = 1 := rfl
        rw [h2]
        omega
      · have ej : Txt.join (("." : String) : Str) (fs.map fun n => S (numL n)) = S (joinL [46] (fs.map numL)) := by
          rw [dot_txt, ← join_S, List.map_map]
          rfl
        rw [ej]
        have hjl := join_len hb
        have hnl := numL_len3 (show st % 1000 < 1000 by omega)
        have hsl := sw_len (st / 1000)
        refine ⟨_, rfl, rfl, _, rfl, ?_⟩
        rw [sw_ne (by omega)]
        by_cases h3 : st / 1000 = 3
        · rw [decide_eq_true h3]
          refine iteF ⟨_, _, rfl, rfl, ?_, ?_⟩
          · rw [sw_txt.2.2.2, S_len, S_len]
            have : (sw 3).length = 0 := rfl
            exact szl (by omega)
          · rw [sw_txt.2.2.2, S_cat]
            have e : wrt fs st = joinL [46] (fs.map numL) ++ sw 3 := by
              unfold wrt
              rw [stg_3 hs h3]
              rfl
            rw [← e]
            exact q _ s4
        · rw [decide_eq_false h3]
          refine iteT ⟨_, rfl, _, rfl, _, rfl, log_num (by omega), _, _, rfl, rfl, ?_, _, _, rfl, rfl, ?_, ?_⟩
          · rw [str_num, S_len, S_len]
            exact szl (by omega)
          · rw [str_num, S_cat, S_len, S_len, List.length_append]
            exact szl (by omega)
          · rw [str_num, S_cat, S_cat, ← stg_sw hs h3]
            exact q _ s4
/-! ### rows -/
def rowL (fs : List Nat) (st : Nat) : List Nat := fs ++ List.replicate (4 - fs.length) 0 ++ [st / 1000, st % 1000]
theorem pad4 {fs : List Nat} (h0 : fs ≠ []) (h4 : fs.length ≤ 4) : ∃ a b c d, fs ++ List.replicate (4 - fs.length) 0 = [a, b, c, d] ∧ (fs ++ [0, 0, 0]).take 4 = [a, b, c, d] := by
  match fs, h0, h4 with
  | [a], _, _ => exact ⟨a, 0, 0, 0, rfl, rfl⟩
  | [a, b], _, _ => exact ⟨a, b, 0, 0, rfl, rfl⟩
  | [a, b, c], _, _ => exact ⟨a, b, c, 0, rfl, rfl⟩
  | [a, b, c, d], _, _ => exact ⟨a, b, c, d, rfl, rfl⟩
  | a :: b :: c :: d :: e :: r, _, h => exact absurd h (by simp only [List.length_cons]; omega)
theorem vN_app (a b : List Nat) : vN a ++ vN b = vN (a ++ b) := by
  unfold vN
  rw [List.map_append]
theorem rep_vN (k : Nat) : (List.replicate k [V.int 0]).flatten = vN (List.replicate k 0) := by
  induction k with
  | zero => rfl
  | succ k ih =>
    rw [List.replicate_succ, List.flatten_cons, ih, List.replicate_succ]
    rfl
def stL : List V := [.str "a", .str "b", .str "rc", .str ""]
theorem stL_at {j : Nat} (h : j ≤ 3) : stL[j]? = some (.str (S (sw j))) := by
  match j, h with
  | 0, _ => rw [← sw_txt.1]; rfl
  | 1, _ => rw [← sw_txt.2.1]; rfl
  | 2, _ => rw [← sw_txt.2.2.1]; rfl
  | 3, _ => rw [← sw_txt.2.2.2]; rfl
theorem sw_inj {i j : Nat} (hi : i ≤ 3) (hj : j ≤ 3) (h : sw i = sw j) : i = j := by
  have key : ∀ i < 4, ∀ j < 4, sw i = sw j → i = j := by decide
  exact key i (by omega) j (by omega) h
theorem eqV_sw {i j : Nat} (hi : i ≤ 3) (hj : j ≤ 3) : eqV (.str (S (sw i))) (.str (S (sw j))) = decide (i = j) := by
  show (S (sw i) == S (sw j)) = _
  rw [S_beq_eq]
  exact decide_eq_decide.mpr ⟨fun e => sw_inj hi hj e, fun e => by rw [e]⟩
end

/-! ### rows and ranks of the law -/
section
variable {P : Program} {w : World} {K : PySem.W.Frag} {mg : Str → Option Value} {base : Heap} {D : Ad}
open TL SX
def spRow : Sp := fun vs H Q _ => ∃ (p : Addr) (fs : List Nat) (st : Nat), vs = [.ref p] ∧ Pt H p fs st ∧ ∀ t H', Same H H' → H' t = some (.tup (vN (rowL fs st))) → Q (.ref t) H'
theorem ok_row (T : Tex K mg D) : FnOk P w K mg base CX0 1 D.a_row D.d_row P_row spRow := by
  refine T.row_F.ok S_row (fun vs H Q E h => ?_) (fun cdv A outer s H vs Q E hr h => ?_)
  · obtain ⟨p, fs, st, rfl, _⟩ := h
    rfl
  · obtain ⟨p, fs, st, rfl, ⟨a, hp, ha, h0, h4, hb, hs⟩, q⟩ := h
    refine ⟨_, (pss_cons (ps_asg (pv 0) (pg_tup (by rfl) (pgs_cons (pg_name (i := 1) S_row.nd rfl (Or.inl rfl)) (pgs_cons (pg_name (i := 2) S_row.nd rfl (Or.inl rfl)) (pgs_cons (pg_name (i := 3) S_row.nd rfl (Or.inl rfl)) pgs_nil)))))
      (pss_one (ps_ret (pe_callTy call_tuple_of (by rfl) T.b_tuple (by decide +kernel) (pa_cons (pe_op op_cat (pe_op op_cat (pv 1) (pe_op op_rep (pe_lst (pa_cons pe_int pa_nil)) (pe_op op_sub pe_int (pe_callB call_len_seq (by rfl) T.b_len (by decide +kernel) (pa_cons (pv 1) pa_nil))))) (pe_lst (pa_cons (pe_bm PySem.F.plainAttrs_list PySem.F.slot_list_index PySem.F.type_list_index mt_index (pe_lst (pa_cons pe_str (pa_cons pe_str (pa_cons pe_str (pa_cons pe_str pa_nil))))) (pa_cons (pv 2) pa_nil)) (pa_cons (pv 3) pa_nil)))) pa_nil))))), ?_⟩
    refine ⟨_, rfl, p, _, rfl, .inl (.inl hp), rfl, _, _, rfl, _, _, rfl, _, _, rfl, rfl, ?_⟩
    refine ⟨_, rfl, by show 1 ≤ sizeLine; decide, fun z hz => ?_⟩
    have s1 : Same H (upd H z (.lst [.int 0])) := same_new hz
    have hz1 : (upd H z (.lst [.int 0])) z = some (.lst [.int 0]) := upd_same
    revert s1 hz1
    generalize upd H z (.lst [.int 0]) = H1
    intro s1 hz1
    have hk : ((4 : Int) - ((vN fs).length : Int)).toNat = 4 - fs.length := by
      rw [vN_len]
      omega
    refine ⟨_, rfl, a, _, rfl, .inl (SqL.of (s1 _ _ ha)), _, _, rfl, rfl, z, _, _, rfl, rfl, hz1, by rw [vN_len]; omega, by rw [vN_len]; omega, by rw [hk]; exact szl (by simp only [List.length_cons, List.length_nil]; omega), fun z2 hz2 => ?_⟩
    rw [hk, rep_vN]
    have s2 : Same H (upd H1 z2 (.lst (vN (List.replicate (4 - fs.length) 0)))) := s1.trans (same_new hz2)
    have hz3 : (upd H1 z2 (.lst (vN (List.replicate (4 - fs.length) 0)))) z2 = some (.lst (vN (List.replicate (4 - fs.length) 0))) := upd_same
    revert s2 hz3
    generalize upd H1 z2 (.lst (vN (List.replicate (4 - fs.length) 0))) = H2
    intro s2 hz3
    refine ⟨a, z2, _, _, rfl, rfl, s2 _ _ ha, hz3, by rw [vN_len, vN_len, List.length_replicate]; exact szl (by omega), fun z4 hz4 => ?_⟩
    rw [vN_app]
    have s3 : Same H (upd H2 z4 (.lst (vN (fs ++ List.replicate (4 - fs.length) 0)))) := s2.trans (same_new hz4)
    have hz5 : (upd H2 z4 (.lst (vN (fs ++ List.replicate (4 - fs.length) 0)))) z4 = some (.lst (vN (fs ++ List.replicate (4 - fs.length) 0))) := upd_same
    revert s3 hz5
    generalize upd H2 z4 (.lst (vN (fs ++ List.replicate (4 - fs.length) 0))) = H3
    intro s3 hz5
    refine ⟨by show 4 ≤ sizeLine; decide, fun k hk => ⟨.inl ⟨rfl, _, SqL.of upd_same⟩, _, rfl, k, stL, _, st / 1000, _, rfl, rfl, SqL.of upd_same, rfl, by decide, stL_at (by omega), ?_, ?_, ?_⟩⟩
    · rw [eqV_sw (by omega) (by omega)]
      exact decide_eq_true rfl
    · intro m z' hm hz'
      have hm3 : m ≤ 3 := by omega
      rw [stL_at hm3] at hz'
      obtain rfl := Option.some.inj hz'
      rw [eqV_sw hm3 (by omega)]
      exact decide_eq_false (by omega)
    · have s4 := s3.trans (same_new (o := .lst stL) hk)
      have hz6 := (same_new (o := .lst stL) hk) _ _ hz5
      refine ⟨_, rfl, by show 2 ≤ sizeLine; decide, fun k2 hk2 => ?_⟩
      have s5 := s4.trans (same_new (o := .lst [.int ((st / 1000 : Nat) : Int), .int ((st % 1000 : Nat) : Int)]) hk2)
      have hz7 := (same_new (o := .lst [.int ((st / 1000 : Nat) : Int), .int ((st % 1000 : Nat) : Int)]) hk2) _ _ hz6
      refine ⟨z4, k2, _, _, rfl, rfl, hz7, upd_same, ?_, fun k3 hk3 => ?_⟩
      · rw [vN_len, List.length_append, List.length_replicate]
        exact szl (by simp only [List.length_cons, List.length_nil]; omega)
      · have s6 := s5.trans (same_new (o := .lst (vN (fs ++ List.replicate (4 - fs.length) 0) ++ [.int ((st / 1000 : Nat) : Int), .int ((st % 1000 : Nat) : Int)])) hk3)
        refine ⟨k3, _, rfl, .inl ⟨SqL.of upd_same, fun t ht => ?_⟩⟩
        refine q t _ (s6.trans (same_new ht)) ?_
        rw [upd_same]
        show some (HO.tup (vN (fs ++ List.replicate (4 - fs.length) 0) ++ vN [st / 1000, st % 1000])) = _
        rw [vN_app]
        rfl
/-! ### ranks -/
def spRkL : Sp := fun vs H Q _ => ∃ (p : Addr) (fs : List Nat) (st : Nat), vs = [.ref p] ∧ Pt H p fs st ∧ ∀ H', Same H H' → Q (.int (rk fs st : Nat)) H'
theorem row_at {fs : List Nat} {st j x : Nat} (h : (rowL fs st)[j]? = some x) : atI (vN (rowL fs st)) ((j : Nat) : Int) = some (.int (x : Int)) := by
  refine atI_nat ?_
  unfold vN
  rw [List.getElem?_map, h]
  rfl
theorem ok_rank (T : Tex K mg D) : FnOk P w K mg base CX0 2 D.a_rank D.d_rank P_rank spRkL := by
  have G_row : FnOk P w K mg base CX0 1 D.a_row D.d_row P_row spRow := ok_row T
  refine T.rank_F.ok S_rank (fun vs H Q E h => ?_) (fun cdv A outer s H vs Q E hr h => ?_)
  · obtain ⟨p, fs, st, rfl, _⟩ := h
    rfl
  · obtain ⟨p, fs, st, rfl, hp, q⟩ := h
    refine ⟨_, (pss_cons (ps_set (i := 1) S_rank.nd rfl (Or.inl rfl) (pe_call G_row (hr.mono (by decide)) (by rfl) T.row_g T.row_F.kp T.row_b .nil pass0 (pa_cons (pv 0) pa_nil)))
      (pss_cons (ps_set (i := 2) S_rank.nd rfl (Or.inl rfl) (pe_op op_add (pe_op op_add (pe_op op_add (pe_op op_mul (pe_ix ix_tup (pv 1) pe_int (fun _ _ => rfl)) pe_int) (pe_op op_mul (pe_ix ix_tup (pv 1) pe_int (fun _ _ => rfl)) pe_int)) (pe_op op_mul (pe_ix ix_tup (pv 1) pe_int (fun _ _ => rfl)) pe_int)) (pe_ix ix_tup (pv 1) pe_int (fun _ _ => rfl))))
      (pss_one (ps_ret (pe_op op_add (pe_op op_add (pe_op op_mul (pv 2) pe_int) (pe_op op_mul (pe_ix ix_tup (pv 1) pe_int (fun _ _ => rfl)) pe_int)) (pe_ix ix_tup (pv 1) pe_int (fun _ _ => rfl))))))), ?_⟩
    refine ⟨_, rfl, p, fs, st, rfl, hp, fun t H1 s1 ht => ?_⟩
    obtain ⟨_, _, _, h0, h4, _, hs⟩ := hp
    obtain ⟨a, b, c, d, e1, e2⟩ := pad4 h0 h4
    have er : rowL fs st = [a, b, c, d, st / 1000, st % 1000] := by
      unfold rowL
      rw [e1]
      rfl
    have g0 := row_at (fs := fs) (st := st) (j := 0) (x := a) (by rw [er]; rfl)
    have g1 := row_at (fs := fs) (st := st) (j := 1) (x := b) (by rw [er]; rfl)
    have g2 := row_at (fs := fs) (st := st) (j := 2) (x := c) (by rw [er]; rfl)
    have g3 := row_at (fs := fs) (st := st) (j := 3) (x := d) (by rw [er]; rfl)
    have g4 := row_at (fs := fs) (st := st) (j := 4) (x := st / 1000) (by rw [er]; rfl)
    have g5 := row_at (fs := fs) (st := st) (j := 5) (x := st % 1000) (by rw [er]; rfl)
    have hq := sqT_of (K := K) ht
    refine ⟨_, rfl, t, _, _, _, rfl, rfl, hq, g0, _, _, rfl, rfl, .inr ⟨by decide, by decide⟩, ?_⟩
    refine ⟨_, rfl, t, _, _, _, rfl, rfl, hq, g1, _, _, rfl, rfl, .inr ⟨by decide, by decide⟩, _, _, rfl, rfl, ?_⟩
    refine ⟨_, rfl, t, _, _, _, rfl, rfl, hq, g2, _, _, rfl, rfl, .inr ⟨by decide, by decide⟩, _, _, rfl, rfl, ?_⟩
    refine ⟨_, rfl, t, _, _, _, rfl, rfl, hq, g3, _, _, rfl, rfl, ?_⟩
    refine ⟨_, rfl, _, _, rfl, rfl, .inr ⟨by decide, by decide⟩, ?_⟩
    refine ⟨_, rfl, t, _, _, _, rfl, rfl, hq, g4, _, _, rfl, rfl, .inr ⟨by decide, by decide⟩, _, _, rfl, rfl, ?_⟩
    refine ⟨_, rfl, t, _, _, _, rfl, rfl, hq, g5, _, _, rfl, rfl, ?_⟩
    have q' := q H1 s1
    have ek : rk fs st = (((a * 1000 + b) * 1000 + c) * 1000 + d) * 3001 + st := by
      unfold rk
      rw [e2]
      simp only [List.foldl_cons, List.foldl_nil]
      omega
    rw [ek] at q'
    have ev : (((((a * 1000 + b) * 1000 + c) * 1000 + d) * 3001 + st : Nat) : Int) = ((a : Int) * 1000000000 + (b : Int) * 1000000 + (c : Int) * 1000 + (d : Int)) * 3001 + ((st / 1000 : Nat) : Int) * 1000 + ((st % 1000 : Nat) : Int) := by omega
    rw [ev] at q'
    exact q'
end

/-! ## The law's short texts and near parts -/
section
variable {P : Program} {w : World} {K : PySem.W.Frag} {mg : Str → Option Value} {base : Heap} {D : Ad}
open TL SX
theorem trim_ne {ns : List Nat} (h : ns ≠ []) : trim ns ≠ [] := by
  intro e
  have h1 := trim_len ns
  have h2 := many_pos ns ns.length (List.length_pos_iff.mpr h)
  rw [e] at h1
  simp only [List.length_nil] at h1
  omega
theorem trim_le (ns : List Nat) : (trim ns).length ≤ ns.length := by
  rw [trim_len]
  exact many_le ns ns.length
theorem cut_last {xs : List V} {m : Nat} (h : xs.length = m + 1) : cutV xs none (some (-1)) = xs.take m := by
  unfold cutV
  have e : HT.sIx xs.length xs.length (some (-1)) = m := by
    show (if (-1 : Int) < 0 then ((-1 : Int) + (xs.length : Int)).toNat else min (-1 : Int).toNat xs.length) = m
    rw [if_pos (by decide)]
    omega
  rw [e, show HT.sIx xs.length 0 none = 0 from rfl, List.drop_zero, Nat.sub_zero]
theorem at_last {xs : List V} {m : Nat} {z : V} (h : xs.length = m + 1) (hz : xs[m]? = some z) : atI xs (-1) = some z := by
  unfold atI
  have e : ixN xs.length (-1) = some m := by
    unfold ixN
    rw [if_neg (by decide), if_pos (by omega)]
    congr 1
    omega
  rw [e]
  exact hz
theorem take_vN (fs : List Nat) (m : Nat) : (vN fs).take m = vN (fs.take m) := by
  unfold vN
  rw [List.map_take]
theorem drop_vN (fs : List Nat) (m : Nat) : (vN fs).drop m = vN (fs.drop m) := by
  unfold vN
  rw [List.map_drop]
def spShort : Sp := fun vs H Q _ => ∃ (p : Addr) (fs : List Nat) (st : Nat), vs = [.ref p] ∧ Pt H p fs st ∧ ∀ H', Same H H' → Q (.str (S (wrt (trim fs) st))) H'
theorem ok_short (T : Tex K mg D) : FnOk P w K mg base CX0 2 D.a_short D.d_short P_short spShort := by
  have G_written : FnOk P w K mg base CX0 1 D.a_written D.d_written P_written spWrit := ok_written T
  refine T.short_F.ok S_short (fun vs H Q E h => ?_) (fun cdv A outer s H vs Q E hr h => ?_)
  · obtain ⟨p, fs, st, rfl, _⟩ := h
    rfl
  · obtain ⟨p, fs, st, rfl, ⟨a, hp, ha, h0, h4, hb, hs⟩, q⟩ := h
    refine ⟨_, (pss_cons (ps_asg (pv 0) (pg_tup (by rfl) (pgs_cons (pg_name (i := 1) S_short.nd rfl (Or.inl rfl)) (pgs_cons (pg_name (i := 2) S_short.nd rfl (Or.inl rfl)) (pgs_cons (pg_name (i := 3) S_short.nd rfl (Or.inl rfl)) pgs_nil)))))
      (pss_cons (ps_set (i := 4) S_short.nd rfl (Or.inl rfl) (pe_callTy call_list_of (by rfl) T.b_list (by decide +kernel) (pa_cons (pv 1) pa_nil)))
      (pss_cons (ps_while PassesOwn.never (PW.pt (pw_and (pt_cmpR op_gt (pe_callB call_len_seq (by rfl) T.b_len (by decide +kernel) (pa_cons (pv 4) pa_nil)) pe_int (nomark _)) (pw_and1 (pt_cmpR op_eq (pe_ix ix_list (pv 4) (pe_un un_neg pe_int) (fun _ _ => rfl)) pe_int (nomark _))))) (pss_one (ps_set (i := 4) S_short.nd rfl (Or.inl rfl) (pe_slice sl_list (pv 4) po_none (po_some (pe_un un_neg pe_int))))))
      (pss_one (ps_ret (pe_call G_written (hr.mono (by decide)) (by rfl) T.written_g T.written_F.kp T.written_b .nil pass0 (pa_cons (pe_tup (pa_cons (pv 4) (pa_cons (pv 2) (pa_cons (pv 3) pa_nil)))) pa_nil))))))), ?_⟩
    refine ⟨_, rfl, p, _, rfl, .inl (.inl hp), rfl, _, _, rfl, _, _, rfl, _, _, rfl, rfl, ?_⟩
    refine ⟨_, rfl, a, _, rfl, .inl (SqL.of ha), fun l hl => ?_⟩
    have hp1 : 1 ≤ fs.length := List.length_pos_iff.mpr h0
    refine ⟨fun m σ H' => ∃ b, σ = [some (.ref p), some (.ref a), some (.str (S (sw (st / 1000)))), some (.int ((st % 1000 : Nat) : Int)), some (.ref b)] ∧ Same H H' ∧ H' b = some (.lst (vN (fs.take m))) ∧ 1 ≤ m ∧ m ≤ fs.length ∧ many fs m = many fs fs.length,
      ⟨fs.length, l, rfl, same_new hl, by rw [List.take_length]; exact upd_same, hp1, Nat.le_refl _, rfl⟩, ?_⟩
    rintro m σ H1 ⟨b, rfl, s1, hb', m1, m2, m3⟩
    have hln : (vN (fs.take m)).length = m := by
      rw [vN_len, List.length_take]
      omega
    have fin : many fs m = m → trim fs = fs.take m := by
      intro e1
      unfold trim
      rw [← m3, e1]
    refine ⟨_, rfl, b, _, rfl, .inl (SqL.of hb'), _, _, rfl, rfl, _, rfl, ?_⟩
    rw [hln]
    by_cases h1 : m = 1
    · rw [decide_eq_false (by omega)]
      refine iteF (iteF ?_)
      have et := fin (by rw [h1]; rfl)
      refine ⟨_, rfl, _, rfl, _, rfl, by show 3 ≤ sizeLine; decide, fun t ht => ⟨t, trim fs, st, rfl, ⟨b, upd_same, (same_new ht) _ _ (by rw [hb', et]), trim_ne h0, Nat.le_trans (trim_le fs) h4, fun n hn => hb n (by rw [et] at hn; exact List.mem_of_mem_take hn), hs⟩, fun H2 s2 => q H2 ((s1.trans (same_new ht)).trans s2)⟩⟩
    · rw [decide_eq_true (by omega)]
      refine iteT ?_
      have hlt : m - 1 < fs.length := by omega
      obtain ⟨z, hz⟩ : ∃ z, fs[m - 1]? = some z := ⟨_, List.getElem?_eq_getElem hlt⟩
      have hat : atI (vN (fs.take m)) (-1) = some (.int ((z : Nat) : Int)) := by
        refine at_last (m := m - 1) (by omega) ?_
        unfold vN
        rw [List.getElem?_map, List.getElem?_take, if_pos (by omega), hz]
        rfl
      refine ⟨_, rfl, _, rfl, b, _, _, .int ((z : Nat) : Int), rfl, rfl, SqL.of hb', hat, rfl, _, rfl, ?_⟩
      obtain ⟨j, hj⟩ : ∃ j, m = j + 2 := ⟨m - 2, by omega⟩
      have hz' : fs[j + 1]? = some z := by rw [show j + 1 = m - 1 by omega]; exact hz
      by_cases h0z : z = 0
      · rw [h0z, decide_eq_true (show V.int ((0 : Nat) : Int) = V.int 0 from rfl)]
        rw [h0z] at hz'
        refine iteT ⟨fun σ' H'' => ∃ b, σ' = [some (.ref p), some (.ref a), some (.str (S (sw (st / 1000)))), some (.int ((st % 1000 : Nat) : Int)), some (.ref b)] ∧ Same H H'' ∧ H'' b = some (.lst (vN (fs.take (j + 1)))),
          fun σ' H'' ⟨b2, e1, e2, e3⟩ => ⟨j + 1, by omega, b2, e1, e2, e3, by omega, by omega, ?_⟩, ?_⟩
        · have e : many fs (j + 2) = many fs (j + 1) := by
            show (if fs[j + 1]? = some 0 then many fs (j + 1) else j + 2) = _
            rw [if_pos hz']
          rw [← e, ← hj]
          exact m3
        · refine ⟨_, rfl, _, rfl, _, rfl, b, _, rfl, SqL.of hb', fun k hk => ⟨k, rfl, s1.trans (same_new hk), ?_⟩⟩
          rw [upd_same]
          show some (HO.lst (cutV (vN (fs.take m)) none (some (-1)))) = _
          rw [cut_last (m := j + 1) (by omega), take_vN, List.take_take]
          congr 4
          omega
      · rw [decide_eq_false (by
          intro e
          injection e with e
          omega)]
        refine iteF ?_
        have et : trim fs = fs.take m := fin (by
          rw [hj]
          show (if fs[j + 1]? = some 0 then many fs (j + 1) else j + 2) = _
          rw [if_neg (by rw [hz']; intro e; exact h0z (Option.some.inj e))])
        refine ⟨_, rfl, _, rfl, _, rfl, by show 3 ≤ sizeLine; decide, fun t ht => ⟨t, trim fs, st, rfl, ⟨b, upd_same, (same_new ht) _ _ (by rw [hb', et]), trim_ne h0, Nat.le_trans (trim_le fs) h4, fun n hn => hb n (by rw [et] at hn; exact List.mem_of_mem_take hn), hs⟩, fun H2 s2 => q H2 ((s1.trans (same_new ht)).trans s2)⟩⟩
end

/-! ## Figures -/
section
variable {P : Program} {w : World} {K : PySem.W.Frag} {mg : Str → Option Value} {base : Heap} {D : Ad}
open TL SX
def li (ns : List Nat) : List Int := ns.map fun (n : Nat) => (n : Int)
theorem vN_li (ns : List Nat) : vN ns = (li ns).map V.int := by
  unfold vN li
  rw [List.map_map]
  rfl
structure Fig (fs : List Nat) (st : Nat) : Prop where
  ne : fs ≠ []
  le : fs.length ≤ 4
  lt : ∀ n ∈ fs, n < 1000
  st : st ≤ 3000
theorem Pt.fig {H : Hp} {p : Addr} {fs : List Nat} {st : Nat} (h : Pt H p fs st) : Fig fs st := let ⟨_, _, _, a, b, c, d⟩ := h; ⟨a, b, c, d⟩
theorem Fig.six {fs : List Nat} {st : Nat} (h : Fig fs st) : ∃ a b c d, a < 1000 ∧ b < 1000 ∧ c < 1000 ∧ d < 1000 ∧ rowL fs st = [a, b, c, d, st / 1000, st % 1000] ∧ rk fs st = (((a * 1000 + b) * 1000 + c) * 1000 + d) * 3001 + st := by
  obtain ⟨a, b, c, d, e1, e2⟩ := pad4 h.ne h.le
  have hb : ∀ x ∈ [a, b, c, d], x < 1000 := by
    intro x hx
    rw [← e1] at hx
    rcases List.mem_append.mp hx with h' | h'
    · exact h.lt x h'
    · rw [(List.mem_replicate.mp h').2]
      decide
  refine ⟨a, b, c, d, hb a (by simp), hb b (by simp), hb c (by simp), hb d (by simp), ?_, ?_⟩
  · unfold rowL
    rw [e1]
    rfl
  · unfold rk
    rw [e2]
    simp only [List.foldl_cons, List.foldl_nil]
    omega
theorem Fig.last {fs : List Nat} {st : Nat} (h : Fig fs st) : rk fs st ≤ LAST := by
  obtain ⟨a, b, c, d, ha, hb, hc, hd, _, e⟩ := h.six
  have := h.st
  rw [e]
  unfold LAST
  omega
end

/-! ## BadVersion made, between and pin -/
section
variable {P : Program} {w : World} {K : PySem.W.Frag} {mg : Str → Option Value} {base : Heap} {D : Ad}
open TL SX
def spXI (C : Addr) (f : Str) : Sp := fun vs H Q _ => ∃ (a : Addr) (y : V), vs = [.ref a, y] ∧ H a = some (exo a C none) ∧ ∀ dx, H dx = none → dx ≠ a → Q .non (upd (upd H dx (exd dx [(f, y)])) a (exo a C (some dx)))
theorem ok_BadVersion_init (T : Tex K mg D) : FnOk P w K mg base CX0 1 D.a_BadVersion_init D.d_BadVersion_init P_BadVersion_init (spXI D.a_BadVersion "given") := by
  refine T.BadVersion_init_F.ok S_BadVersion_init (fun vs H Q E h => ?_) (fun cdv A outer s H vs Q E hr h => ?_)
  · obtain ⟨a, y, rfl, _⟩ := h
    rfl
  · obtain ⟨a, y, rfl, ha, q⟩ := h
    exact ⟨_, (pss_one (ps_ost (pv 0) (pv 1))), _, rfl, _, rfl, a, _, rfl, T.BadVersion_xa.o, T.BadVersion_xf, .inl ⟨ha, fun dx h1 h2 => q dx h1 h2⟩⟩
/-- what the making of an own exception leaves -/
theorem raise_same {H : Hp} {a dx C : Addr} {fs : List (Str × V)} (ha : H a = none) (hd : (upd H a (exo a C none)) dx = none) :
    Same H (upd (del (upd (upd (upd H a (exo a C none)) dx (exd dx fs)) a (exo a C (some dx))) a) dx (.xd fs)) := by
  intro b o e
  have n1 : b ≠ a := ne_of_none e ha
  have n2 : b ≠ dx := by
    rintro rfl
    rw [upd_ne n1, e] at hd
    cases hd
  rw [upd_ne n2, del_ne n1, upd_ne n1, upd_ne n2, upd_ne n1]
  exact e
/-- no version -/
def NotV (K : PySem.W.Frag) (C : Addr) (H : Hp) (x : V) : Prop := ∃ t, TyX K H x t ∧ PySem.W.kitOne K t (.ref C) = some false
theorem tyX_keep {H H' : Hp} {x : V} {t : Value} (h : TyX K H x t) (s : Same H H') : TyX K H' x t := by
  cases h with
  | base h =>
    cases h with
    | non => exact .base .non
    | bl b => exact .base (.bl b)
    | int i => exact .base (.int i)
    | str i => exact .base (.str i)
    | flt i => exact .base (.flt i)
    | lst e => exact .base (.lst (s _ _ e))
    | frz e => exact .base (.frz (s _ _ e))
    | tup e => exact .base (.tup (s _ _ e))
    | dK e => exact .base (.dK (s _ _ e))
    | dT e => exact .base (.dT (s _ _ e))
    | ins e a b c d f => exact .base (.ins (s _ _ e) a b c d f)
  | byt b => exact .byt b
  | set e => exact .set (s _ _ e)
  | kList e c => exact .kList e c
  | kTuple e c => exact .kTuple e c
  | kDict e c => exact .kDict e c
  | fTuple e => exact .fTuple (s _ _ e)
  | fDict e => exact .fDict (s _ _ e)
theorem NotV.keep {C : Addr} {H H' : Hp} {x : V} (h : NotV K C H x) (s : Same H H') : NotV K C H' x := let ⟨t, a, b⟩ := h; ⟨t, tyX_keep a s, b⟩
end

/-! ## Versions made and refused -/
section
variable {P : Program} {w : World} {K : PySem.W.Frag} {mg : Str → Option Value} {base : Heap} {D : Ad}
open TL SX
theorem Plain.keep {H H' : Hp} {x : V} (h : Plain K H x) (s : Same H H') : Plain K H' x := let ⟨S, a, b⟩ := h; ⟨S, a, tyX_keep b s⟩
theorem ok_BadCount_init (T : Tex K mg D) : FnOk P w K mg base CX0 1 D.a_BadCount_init D.d_BadCount_init P_BadCount_init (spXI D.a_BadCount "given") := by
  refine T.BadCount_init_F.ok S_BadCount_init (fun vs H Q E h => ?_) (fun cdv A outer s H vs Q E hr h => ?_)
  · obtain ⟨a, y, rfl, _⟩ := h
    rfl
  · obtain ⟨a, y, rfl, ha, q⟩ := h
    exact ⟨_, (pss_one (ps_ost (pv 0) (pv 1))), _, rfl, _, rfl, a, _, rfl, T.BadCount_xa.o, T.BadCount_xf, .inl ⟨ha, fun dx h1 h2 => q dx h1 h2⟩⟩
/-! ### what a read text is -/
theorem nT_lt {l : List Nat} {n : Nat} (h : nT l = some n) : n < 1000 := by
  unfold nT at h
  split at h
  · rename_i hg
    split at h
    · cases h
    · injection h with h
      simp only [Bool.and_eq_true, decide_eq_true_eq] at hg
      obtain ⟨_, h3, hd⟩ := hg
      rw [← h]
      have hdig : ∀ c ∈ l, 48 ≤ c ∧ c ≤ 57 := fun c hc => by
        have := List.all_eq_true.mp hd c hc
        unfold isDig at this
        exact of_decide_eq_true this
      match l, h3, hdig with
      | [], _, _ => decide
      | [a], _, hd =>
        have := hd a (by simp)
        simp only [NumText.digitsVal, List.foldl_cons, List.foldl_nil]
        omega
      | [a, b], _, hd =>
        have h1 := hd a (by simp)
        have h2 := hd b (by simp)
        simp only [NumText.digitsVal, List.foldl_cons, List.foldl_nil]
        omega
      | [a, b, c], _, hd =>
        have h1 := hd a (by simp)
        have h2 := hd b (by simp)
        have h3 := hd c (by simp)
        simp only [NumText.digitsVal, List.foldl_cons, List.foldl_nil]
        omega
      | a :: b :: c :: d :: r, h3, _ => exact absurd h3 (by simp only [List.length_cons]; omega)
  · cases h
theorem spl_ne (S : List Nat) : ∀ (k : Nat) (acc l : List Nat), spl S k acc l ≠ [] := by
  intro k acc l
  induction l generalizing k acc with
  | nil => cases k <;> simp [spl]
  | cons c r ih =>
    cases k with
    | zero =>
      unfold spl
      split
      · exact List.cons_ne_nil _ _
      · exact ih _ _
    | succ k =>
      show spl S k acc r ≠ []
      exact ih _ _
theorem allSome_spec : ∀ {os : List (Option Nat)} {ns : List Nat}, allSome os = some ns → os = ns.map some
  | [], ns, h => by
    injection h with h
    rw [← h]
    rfl
  | none :: _, ns, h => by cases h
  | some n :: r, ns, h => by
    unfold allSome at h
    cases e : allSome r with
    | none =>
      rw [e] at h
      cases h
    | some m =>
      rw [e] at h
      injection h with h
      rw [← h, allSome_spec e]
      rfl
theorem sT_le {l : List Nat} {st : Nat} (h : (sT l).2 = some st) : st ≤ 3000 := by
  have key : ∀ (k i : Nat), k + i = 3 → (sTn l k i).2 = some st → st ≤ 3000 := by
    intro k
    induction k with
    | zero =>
      intro i _ h
      injection h with h
      omega
    | succ k ih =>
      intro i hi h
      cases e : par (wd i) [] l with
      | none =>
        rw [sTn_step e] at h
        exact ih (i + 1) (by omega) h
      | some pq =>
        obtain ⟨p, q⟩ := pq
        rw [sTn_hit e] at h
        cases hn : nT q with
        | none =>
          rw [hn] at h
          cases h
        | some n =>
          rw [hn] at h
          have h : i * 1000 + n = st := by simpa using h
          have := nT_lt hn
          omega
  exact key 3 0 rfl h
theorem pT_fig {l ns : List Nat} {st : Nat} (h : pT l = some (ns, st)) : Fig ns st := by
  unfold pT at h
  split at h
  · rename_i st' ns' h1 h2
    split at h
    · cases h
    · rename_i h4
      injection h with h
      injection h with e1 e2
      subst e1 e2
      have e := allSome_spec h2
      refine ⟨fun z => ?_, by omega, fun n hn => ?_, sT_le h1⟩
      · rw [z] at e
        exact spl_ne _ _ _ _ (List.map_eq_nil_iff.mp e)
      · have : some n ∈ ((spl [46] 0 [] (sT l).1).map nT) := by
          rw [e]
          exact List.mem_map_of_mem hn
        obtain ⟨x, _, hx⟩ := List.mem_map.mp this
        exact nT_lt hx
  · cases h
/-! ### parts of other objects -/
theorem okOrX {CX : CXT} {k : Nat} {f : Addr} {fd : FuncData} {ps : List Str} {sp sp' : Sp} (F : FnOk P w K mg base CX k f fd ps sp) (G : FnOk P w K mg base CX k f fd ps sp') : FnOk P w K mg base CX k f fd ps (fun vs H Q E => sp vs H Q E ∨ sp' vs H Q E) :=
  ⟨fun vs H Q E h => h.elim (F.len vs H Q E) (G.len vs H Q E), fun A outer s H args us vs Q E hr he hb hv hs => hs.elim (F.run A outer s H args us vs Q E hr he hb hv) (G.run A outer s H args us vs Q E hr he hb hv)⟩
/-- a plain object that is no text -/
def NoTxt (K : PySem.W.Frag) (H : Hp) (x : V) : Prop := ∃ S ∈ (["NoneType", "bool", "int", "tuple", "list", "dict"] : List String), TyX K H x (.type S)
def spPartsO (K : PySem.W.Frag) : Sp := fun vs H Q _ => ∃ x, vs = [x] ∧ NoTxt K H x ∧ Q .non H
theorem ok_parts_other (T : Tex K mg D) : FnOk P w K mg base CX0 5 D.a_parts_of_text D.d_parts_of_text P_parts_of_text (spPartsO K) := by
  have G_stage_of_text : FnOk P w K mg base CX0 4 D.a_stage_of_text D.d_stage_of_text P_stage_of_text spStage := ok_stage_of_text T
  have G_number_in : FnOk P w K mg base CX0 3 D.a_number_in D.d_number_in P_number_in spNumL := ok_number_in T
  refine T.parts_of_text_F.ok S_parts_of_text (fun vs H Q E h => ?_) (fun cdv A outer s H vs Q E hr h => ?_)
  · obtain ⟨x, rfl, _⟩ := h
    rfl
  · obtain ⟨x, rfl, ⟨St, hS, ty⟩, q⟩ := h
    refine ⟨_, (pss_cons (ps_if (pt_not (pt_val (pe_callB call_isi (by rfl) T.b_isinstance (by decide +kernel) (pa_cons (pv 0) (pa_cons (pe_bltn (v := .ty "str") (u := .type "str") (by rfl) T.b_str (by decide +kernel) rfl) pa_nil))))) (pss_one (ps_ret pe_non)) pss_nil)
      (pss_cons (ps_asg (pe_call G_stage_of_text (hr.mono (by decide)) (by rfl) T.stage_of_text_g T.stage_of_text_F.kp T.stage_of_text_b .nil pass0 (pa_cons (pv 0) pa_nil)) (pg_tup (by rfl) (pgs_cons (pg_name (i := 1) S_parts_of_text.nd rfl (Or.inl rfl)) (pgs_cons (pg_name (i := 2) S_parts_of_text.nd rfl (Or.inl rfl)) pgs_nil))))
      (pss_cons (ps_setLc (i := 3) (own := [(("part" : Str), 4)]) (g := gName 4) (tt := tYes) rfl S_parts_of_text.nd rfl rfl (sw_true rfl rfl rfl (by decide +kernel)) (pi_list (pe_split (pv 1) pe_str)) (blkOk_by (N := N_parts_of_text) (sc := defScope s_parts_of_text) (by decide +kernel)) (fun _ _ _ _ _ => pg_name (i := 4) S_parts_of_text.nd rfl (Or.inl rfl)) (fun _ _ _ _ _ => pts_nil) (fun _ _ _ _ _ => (pe_call G_number_in (hr.mono (by decide)) (by rfl) T.number_in_g T.number_in_F.kp T.number_in_b .nil pass0 (pa_cons (pv 4) (pa_cons (pe_glob (v := .int 999) rfl T.c_GREATEST ⟨_, rfl⟩) pa_nil)))))
      (pss_cons (ps_if (PW.pt (pw_or (pt_cmpR op_isN (pv 2) pe_non (nomark _)) (pw_or (pt_cmpR op_in_seq pe_non (pv 3) rfl) (pw_or1 (pt_cmpR op_gt (pe_callB call_len_seq (by rfl) T.b_len (by decide +kernel) (pa_cons (pv 3) pa_nil)) pe_int (nomark _)))))) (pss_one (ps_ret pe_non)) pss_nil)
      (pss_one (ps_ret (pe_tup (pa_cons (pe_callTy call_tuple_of (by rfl) T.b_tuple (by decide +kernel) (pa_cons (pv 3) pa_nil)) (pa_cons (pv 2) pa_nil))))))))), ?_⟩
    simp only [List.mem_cons, List.not_mem_nil, or_false] at hS
    rcases hS with rfl | rfl | rfl | rfl | rfl | rfl
    all_goals exact ⟨_, rfl, x, .ty "str", _, .type "str", false, rfl, .ty _, ty, kit_ty (by decide +kernel), _, rfl, iteT q⟩
/-! ### Version(..), with what it lets out -/
def spInitX (K : PySem.W.Frag) (C B : Addr) : Sp := fun vs H Q E => ∃ (x dx : Addr) (y : V), vs = [.ref x, y] ∧ H x = some (.ins C dx []) ∧
  ((∃ (l ns : List Nat) (st : Nat), y = .str (S l) ∧ l.length ≤ 80000 ∧ pT l = some (ns, st) ∧ ∀ H1, Same H H1 → Q .non (upd H1 x (.ins C dx [("_rank", .int (rk ns st : Nat))]))) ∨
    (((∃ l : List Nat, y = .str (S l) ∧ l.length ≤ 80000 ∧ pT l = none) ∨ NoTxt K H y) ∧ ∀ d H1, Same H H1 → H1 d = some (.xd [("given", y)]) → E (.ref B) (some d) H1))
theorem ok_Version_initX (T : Tex K mg D) : FnOk P w K mg base (L2.CX P w) 6 D.a_Version_init D.d_Version_init P_Version_init (spInitX K D.a_Version D.a_BadVersion) := by
  have G_BadVersion_init : FnOk P w K mg base CX0 1 D.a_BadVersion_init D.d_BadVersion_init P_BadVersion_init (spXI D.a_BadVersion "given") := ok_BadVersion_init T
  have G_parts_of_text : FnOk P w K mg base CX0 5 D.a_parts_of_text D.d_parts_of_text P_parts_of_text (fun vs H Q E => spParts vs H Q E ∨ spPartsO K vs H Q E) := okOrX (ok_parts_of_text T) (ok_parts_other T)
  have G_rank_of : FnOk P w K mg base CX0 1 D.a_rank_of D.d_rank_of P_rank_of (spRank K) := ok_rank_of T
  refine T.Version_init_F.okX S_Version_init (fun vs H Q E h => ?_) (fun cdv A outer s H vs Q E hr h => ?_)
  · obtain ⟨x, dx, y, rfl, _⟩ := h
    rfl
  · obtain ⟨x, dx, y, rfl, hx, h⟩ := h
    refine ⟨_, (pss_cons (ps_set (i := 2) S_Version_init.nd rfl (Or.inl rfl) (pe_call G_parts_of_text (hr.mono (by decide)) (by rfl) T.parts_of_text_g T.parts_of_text_F.kp T.parts_of_text_b .nil pass0 (pa_cons (pv 1) pa_nil)))
      (pss_cons (ps_if (pt_cmpR op_isN (pv 2) pe_non (nomark _)) (pss_one (ps_raise rfl (takes_of rfl rfl rfl rfl) (pmk_oex T.BadVersion_xa.o T.BadVersion_xi T.BadVersion_xt G_BadVersion_init (hr.mono (by decide)) T.BadVersion_init_b .nil pass0 rfl T.BadVersion_g (pa_cons (pv 1) pa_nil)))) pss_nil)
      (pss_cons (ps_asg (pv 2) (pg_tup (by rfl) (pgs_cons (pg_name (i := 3) S_Version_init.nd rfl (Or.inl rfl)) (pgs_cons (pg_name (i := 4) S_Version_init.nd rfl (Or.inl rfl)) pgs_nil))))
      (pss_one (ps_fld (pv 0) (pe_call G_rank_of (hr.mono (by decide)) (by rfl) T.rank_of_g T.rank_of_F.kp T.rank_of_b .nil pass0 (pa_cons (pv 3) (pa_cons (pv 4) pa_nil))) rfl))))), ?_⟩
    rcases h with ⟨l, ns, st, rfl, hl, hp, q⟩ | ⟨hy, q⟩
    · have hf := pT_fig hp
      refine ⟨_, rfl, .inl ⟨l, rfl, hl, fun e => (by rw [hp] at e; cases e), fun ns' st' e p t H1 s1 hpf hp' ht' => ?_⟩⟩
      rw [hp] at e
      cases e
      refine ⟨_, rfl, rfl, _, rfl, iteF ?_⟩
      refine ⟨_, rfl, p, _, rfl, .inl (.inl hp'), rfl, _, _, rfl, _, _, rfl, rfl, ?_⟩
      refine ⟨_, rfl, _, rfl, t, ns, st, rfl, sqT_of ht', hf.ne, Nat.le_trans hf.le (by decide), fun H2 s2 => ?_⟩
      exact ⟨_, rfl, x, _, dx, [], rfl, s2 _ _ (s1 _ _ hx), T.Version_cl, T.Version_n_rank, by decide, q H2 (s1.trans s2)⟩
    · have fin : ∀ H1, Same H H1 → ∀ e, H1 e = none → spXI D.a_BadVersion "given" [.ref e, y] (upd H1 e (exo e D.a_BadVersion none)) (fun v H2 => v = .non ∧ ∃ (d : Addr) (fs : List (Str × V)), H2 e = some (exo e D.a_BadVersion (some d)) ∧ H2 d = some (exd d fs) ∧ H1 d = none ∧ E (.ref D.a_BadVersion) (some d) (upd (del H2 e) d (.xd fs))) (fun _ _ _ => False) := by
        intro H1 s1 e he
        refine ⟨e, y, rfl, upd_same, fun dx hd hne => ⟨rfl, dx, _, upd_same, by rw [upd_ne hne, upd_same], ?_, ?_⟩⟩
        · rw [upd_ne hne] at hd
          exact hd
        · exact q dx _ (s1.trans (raise_same he hd)) upd_same
      rcases hy with ⟨l, rfl, hl, hp⟩ | hn
      · refine ⟨_, rfl, .inl ⟨l, rfl, hl, fun _ H1 s1 => ?_, fun ns' st' e => (by rw [hp] at e; cases e)⟩⟩
        exact ⟨_, rfl, rfl, _, rfl, iteT ⟨_, rfl, by show (1 : Nat) ≤ 1000; decide, fun e he => fin H1 s1 e he⟩⟩
      · refine ⟨_, rfl, .inr ⟨y, rfl, hn, ?_⟩⟩
        exact ⟨_, rfl, rfl, _, rfl, iteT ⟨_, rfl, by show (1 : Nat) ≤ 1000; decide, fun e he => fin H (Same.refl _) e he⟩⟩
/-- Version.at of other objects -/
def spAtX (K : PySem.W.Frag) (C B : Addr) : Sp := fun vs H _ E => ∃ y : V, vs = [.ref C, y] ∧ ((∃ i : Int, y = .int i ∧ ¬ (0 ≤ i ∧ i ≤ 3000999999999999)) ∨ Plain K H y) ∧ ∀ d H1, Same H H1 → H1 d = some (.xd [("given", y)]) → E (.ref B) (some d) H1
theorem ok_Version_atX (T : Tex K mg D) : FnOk P w K mg base (L2.CX P w) 8 D.a_Version_at D.d_Version_at P_Version_at (spAtX K D.a_Version D.a_BadCount) := by
  have G_BadCount_init : FnOk P w K mg base CX0 1 D.a_BadCount_init D.d_BadCount_init P_BadCount_init (spXI D.a_BadCount "given") := ok_BadCount_init T
  have G_is_whole_to : FnOk P w K mg base CX0 3 D.a_is_whole_to D.d_is_whole_to P_is_whole_to (spWToA K) := ok_is_whole_toA T
  have G_text_at : FnOk P w K mg base CX0 2 D.a_text_at D.d_text_at P_text_at spTA := ok_text_at T
  have G_Version_init : FnOk P w K mg base CX0 6 D.a_Version_init D.d_Version_init P_Version_init (spInit D.a_Version) := ok_Version_init T
  refine T.Version_at_F.okX S_Version_at (fun vs H Q E h => ?_) (fun cdv A outer s H vs Q E hr h => ?_)
  · obtain ⟨y, rfl, _⟩ := h
    rfl
  · obtain ⟨y, rfl, hy, q⟩ := h
    refine ⟨_, (pss_cons (ps_if (pt_not (pt_val (pe_call G_is_whole_to (hr.mono (by decide)) (by rfl) T.is_whole_to_g T.is_whole_to_F.kp T.is_whole_to_b .nil pass0 (pa_cons (pv 1) (pa_cons (ClX.pe_cval (pv 0)) pa_nil))))) (pss_one (ps_raise rfl (takes_of rfl rfl rfl rfl) (pmk_oex T.BadCount_xa.o T.BadCount_xi T.BadCount_xt G_BadCount_init (hr.mono (by decide)) T.BadCount_init_b .nil pass0 rfl T.BadCount_g (pa_cons (pv 1) pa_nil)))) pss_nil)
      (pss_one (ps_ret (pe_makeL (i := 0) T.Version_mk G_Version_init (hr.mono (by decide)) rfl (Or.inl rfl) T.Version_init_b pass0 (pa_cons (pe_call G_text_at (hr.mono (by decide)) (by rfl) T.text_at_g T.text_at_F.kp T.text_at_b .nil pass0 (pa_cons (pv 1) pa_nil)) pa_nil))))), ?_⟩
    refine ⟨_, rfl, _, rfl, D.a_Version, _, _, _, rfl, T.Version_rd, T.Version_LAST, y, _, false, rfl, ?_, _, rfl, iteT ?_⟩
    · rcases hy with ⟨i, rfl, hi⟩ | hp
      · refine .inl ⟨i, rfl, ?_⟩
        by_cases h0 : 0 ≤ i
        · rw [decide_eq_true h0, decide_eq_false fun h1 => hi ⟨h0, h1⟩]
          rfl
        · rw [decide_eq_false h0]
          rfl
      · exact .inr ⟨hp, rfl⟩
    · refine ⟨_, rfl, by show (1 : Nat) ≤ 1000; decide, fun e he => ⟨e, y, rfl, upd_same, fun dx hd hne => ⟨rfl, dx, _, upd_same, by rw [upd_ne hne, upd_same], ?_, ?_⟩⟩⟩
      · rw [upd_ne hne] at hd
        exact hd
      · exact q dx _ (raise_same he hd) upd_same
def spNums (C : Addr) : Sp := fun vs H Q _ => ∃ (a : Addr) (r : Nat), vs = [.ref a] ∧ Ver C H a r ∧ ∀ p H', Same H H' → H' p = some (.tup (vN (n4 r))) → Q (.ref p) H'
theorem ok_Version_numbers (T : Tex K mg D) : FnOk P w K mg base CX0 2 D.a_Version_numbers D.d_Version_numbers P_Version_numbers (spNums D.a_Version) := by
  have G_numbers_at : FnOk P w K mg base CX0 1 D.a_numbers_at D.d_numbers_at P_numbers_at spN4 := ok_numbers_at T
  refine T.Version_numbers_F.ok S_Version_numbers (fun vs H Q E h => ?_) (fun cdv A outer s H vs Q E hr h => ?_)
  · obtain ⟨a, r, rfl, _⟩ := h
    rfl
  · obtain ⟨a, r, rfl, ⟨dx, ha⟩, q⟩ := h
    exact ⟨_, (pss_one (ps_ret (pe_call G_numbers_at (hr.mono (by decide)) (by rfl) T.numbers_at_g T.numbers_at_F.kp T.numbers_at_b .nil pass0 (pa_cons (pe_fld (pv 0) rfl) pa_nil)))), _, rfl, a, _, dx, _, _, rfl, ha, T.Version_cl, T.Version_n_rank, lk_rank _, r, rfl, fun p H1 s1 _ hp => q p H1 s1 hp⟩
def spEarly (C : Addr) : Sp := fun vs H Q _ => ∃ (a : Addr) (r : Nat), vs = [.ref a] ∧ Ver C H a r ∧ Q (.bl (!decide (r % 3001 = 3000))) H
theorem ok_Version_early (T : Tex K mg D) : FnOk P w K mg base CX0 1 D.a_Version_is_early D.d_Version_is_early P_Version_is_early (spEarly D.a_Version) := by
  refine T.Version_is_early_F.ok S_Version_is_early (fun vs H Q E h => ?_) (fun cdv A outer s H vs Q E hr h => ?_)
  · obtain ⟨a, r, rfl, _⟩ := h
    rfl
  · obtain ⟨a, r, rfl, ⟨dx, ha⟩, q⟩ := h
    refine ⟨_, (pss_one (ps_ret (pe_cmpR op_ne (pe_op op_mod (pe_fld (pv 0) rfl) (pe_glob (v := .int 3001) rfl T.c_WIDTH ⟨_, rfl⟩)) (pe_glob (v := .int 3000) rfl T.c_FINAL ⟨_, rfl⟩) (nomark _)))), ?_⟩
    refine ⟨_, rfl, a, _, dx, _, _, rfl, ha, T.Version_cl, T.Version_n_rank, lk_rank _, _, _, rfl, rfl, (posI rfl), rfl, ?_⟩
    have e : decide (V.int ((r : Int) % 3001) = V.int 3000) = decide (r % 3001 = 3000) := decide_eq_decide.mpr ⟨fun e => by
      injection e with e
      omega, fun e => by
      congr 1
      omega⟩
    show Q (.bl (!decide (V.int ((r : Int) % 3001) = V.int 3000))) H
    rw [e]
    exact q
end

/-! ## Version.of -/
section
variable {P : Program} {w : World} {K : PySem.W.Frag} {mg : Str → Option Value} {base : Heap} {D : Ad}
open TL SX
/-- an item of Version.of, and whether it is a number from 0 to 999 -/
def WTo (K : PySem.W.Frag) (H : Hp) (z : V × Bool) : Prop := (∃ i, z.1 = .int i ∧ z.2 = (decide (0 ≤ i) && decide (i ≤ 999))) ∨ (Plain K H z.1 ∧ z.2 = false)
theorem WTo.keep {H H' : Hp} {z : V × Bool} (h : WTo K H z) (s : Same H H') : WTo K H' z := h.imp id fun ⟨a, b⟩ => ⟨a.keep s, b⟩
def spOf (K : PySem.W.Frag) (C B : Addr) : Sp := fun vs H Q E => ∃ (p : Addr) (zs : List (V × Bool)), vs = [.ref C, .ref p] ∧ H p = some (.tup (zs.map (·.1))) ∧ zs.length ≤ 10 ∧ (∀ z ∈ zs, WTo K H z) ∧
  ((∃ ns : List Nat, zs = ns.map (fun (n : Nat) => (V.int (n : Int), true)) ∧ ns ≠ [] ∧ ns.length ≤ 4 ∧ (∀ n ∈ ns, n < 1000) ∧ ∀ a H', Same H H' → Ver C H' a (rk ns 3000) → Q (.ref a) H') ∨
    (¬ (zs.all (·.2) = true ∧ 1 ≤ zs.length ∧ zs.length ≤ 4) ∧ ∀ d H1, Same H H1 → H1 d = some (.xd [("given", .ref p)]) → E (.ref B) (some d) H1))
theorem rk_of_le {ns : List Nat} (h0 : ns ≠ []) (h4 : ns.length ≤ 4) (hb : ∀ n ∈ ns, n < 1000) : rk ns 3000 ≤ LAST := Fig.last ⟨h0, h4, hb, Nat.le_refl _⟩
theorem ok_Version_of (T : Tex K mg D) : FnR P w K mg base (L2.CX P w) 10 D.a_Version_of (fun vs H Q E => ∃ ws rest, vs = ws ++ rest ∧ ws.length = (["cls"] : List Str).length ∧ rest.length ≤ sizeLine ∧ ∀ p, H p = none → spOf K D.a_Version D.a_BadVersion (ws ++ [V.ref p]) (upd H p (.tup rest)) Q E) := by
  have G_BadVersion_init : FnOk P w K mg base CX0 1 D.a_BadVersion_init D.d_BadVersion_init P_BadVersion_init (spXI D.a_BadVersion "given") := ok_BadVersion_init T
  have G_is_whole_to : FnOk P w K mg base CX0 3 D.a_is_whole_to D.d_is_whole_to P_is_whole_to (spWToA K) := ok_is_whole_toA T
  have G_rank_of : FnOk P w K mg base CX0 1 D.a_rank_of D.d_rank_of P_rank_of (spRank K) := ok_rank_of T
  have G_Version_at : FnOk P w K mg base CX0 8 D.a_Version_at D.d_Version_at P_Version_at (spAt D.a_Version) := ok_Version_at T
  obtain ⟨oc, od, kV, doc, pm, an, cdv, ct, osl, ef, lk, hcd⟩ := T.Version_of_F.ex
  rw [ef] at lk
  refine StX.fn_star (ps := ["cls"]) (pv := "numbers") lk hcd S_Version_of StX.cxUp (fun us rest hu => ?_) (fun A outer s H vs Q E hr h => ?_)
  · match us, rest, hu with
    | [a], [], _ => rfl
    | [a], r :: rs, _ => rfl
  · obtain ⟨p, zs, rfl, hp, h10, hz, h⟩ := h
    refine ⟨_, (pss_cons (ps_set (i := 2) S_Version_of.nd rfl (Or.inl rfl) (pe_callB (cr_all rfl) (by rfl) T.b_all (by decide +kernel) (pa_cons (pe_lc (own := [(("number" : Str), 3)]) (g := gName 3) (tt := tYes) rfl S_Version_of.nd (pi_tup (pv 1)) (blkOk_by (N := N_Version_of) (sc := defScope s_Version_of) (by decide +kernel)) (fun _ _ _ _ _ => pg_name (i := 3) S_Version_of.nd rfl (Or.inl rfl)) (fun _ _ _ _ _ => pts_nil) (fun _ _ _ _ _ => (pe_call G_is_whole_to (hr.mono (by decide)) (by rfl) T.is_whole_to_g T.is_whole_to_F.kp T.is_whole_to_b .nil pass0 (pa_cons (pv 3) (pa_cons (pe_glob (v := .int 999) rfl T.c_GREATEST ⟨_, rfl⟩) pa_nil))))) pa_nil)))
      (pss_cons (ps_if (PW.pt (pw_or (pt_not (pt_val (pv 2))) (pw_or1 (pt_not (pt_chain op_le op_le pe_int (pe_callB call_len_seq (by rfl) T.b_len (by decide +kernel) (pa_cons (pv 1) pa_nil)) pe_int))))) (pss_one (ps_raise rfl (takes_of rfl rfl rfl rfl) (pmk_oex T.BadVersion_xa.o T.BadVersion_xi T.BadVersion_xt G_BadVersion_init (hr.mono (by decide)) T.BadVersion_init_b .nil pass0 rfl T.BadVersion_g (pa_cons (pv 1) pa_nil)))) pss_nil)
      (pss_one (ps_ret (ClX.pe_cmeth (pv 0) T.Version_rd T.Version_at_c (G_Version_at.raw T.Version_at_b .nil) (hr.mono (by decide)) pass0 (pa_cons (pe_call G_rank_of (hr.mono (by decide)) (by rfl) T.rank_of_g T.rank_of_F.kp T.rank_of_b .nil pass0 (pa_cons (pv 1) (pa_cons (pe_glob (v := .int 3000) rfl T.c_FINAL ⟨_, rfl⟩) pa_nil))) pa_nil)))))), ?_⟩
    have hpt : SqT K H p (zs.map (·.1)) := sqT_of hp
    refine ⟨_, rfl, p, rfl, ⟨_, hpt⟩, fun DD hDD => lc_tpl (K := K) zs (fun z => z.1) (fun _ => true) (fun z => .bl z.2) hDD (szT (by omega)) hpt (fun z hz0 H2 R S' s2 g1 g2 => ?_) (fun H2 s2 g2 => ?_)⟩
    · refine ⟨rfl, _, rfl, z.1, 999, z.2, rfl, ?_, g1 rfl H2 (Same.refl _)⟩
      exact ((hz z hz0).keep s2)
    · rw [filt1] at g2
      have hpt2 := sqT_keep s2 hpt
      have hln : (zs.map (·.1)).length = zs.length := List.length_map _
      have eall : ((zs.map (·.2)).all id) = zs.all (·.2) := by rw [List.all_map]; rfl
      have bad : (¬ (zs.all (·.2) = true ∧ 1 ≤ zs.length ∧ zs.length ≤ 4) ∧ ∀ d H1, Same H H1 → H1 d = some (.xd [("given", .ref p)]) → E (.ref D.a_BadVersion) (some d) H1) →
          ∀ e, H2 e = none → spXI D.a_BadVersion "given" [.ref e, .ref p] (upd H2 e (exo e D.a_BadVersion none)) (fun v H3 => v = .non ∧ ∃ (d : Addr) (fs : List (Str × V)), H3 e = some (exo e D.a_BadVersion (some d)) ∧ H3 d = some (exd d fs) ∧ H2 d = none ∧ E (.ref D.a_BadVersion) (some d) (upd (del H3 e) d (.xd fs))) (fun _ _ _ => False) := by
        rintro ⟨_, q⟩ e he
        refine ⟨e, .ref p, rfl, upd_same, fun dx hd hne => ⟨rfl, dx, _, upd_same, by rw [upd_ne hne, upd_same], ?_, ?_⟩⟩
        · rw [upd_ne hne] at hd
          exact hd
        · exact q dx _ (s2.trans (raise_same he hd)) upd_same
      refine ⟨DD, zs.map (·.2), rfl, SqL.of (by rw [g2, List.map_map]; rfl), ?_⟩
      rw [eall]
      refine ⟨_, rfl, _, rfl, ?_⟩
      rcases h with ⟨ns, rfl, h0, h4, hb, q⟩ | hbad
      · have eg : (ns.map (fun (n : Nat) => (V.int (n : Int), true))).all (·.2) = true := by
          rw [List.all_map]
          exact List.all_eq_true.mpr fun _ _ => rfl
        have e1 : (ns.map (fun (n : Nat) => (V.int (n : Int), true))).map (·.1) = vN ns := by
          rw [List.map_map]
          rfl
        have hl0 : 1 ≤ ns.length := List.length_pos_iff.mpr h0
        rw [e1] at hpt2 hln
        rw [List.length_map] at hln
        rw [eg]
        refine iteF ⟨_, rfl, p, _, rfl, .inr hpt2, _, _, rfl, rfl, _, rfl, ?_⟩
        rw [hln, decide_eq_true (by omega : (1 : Int) ≤ (ns.length : Int))]
        refine iteT ⟨_, _, rfl, rfl, _, rfl, ?_⟩
        rw [decide_eq_true (by omega : (ns.length : Int) ≤ 4)]
        refine iteF ?_
        refine ⟨_, rfl, rfl, _, rfl, p, ns, 3000, rfl, hpt2, h0, by omega, fun H3 s3 => ⟨_, rfl, rk_of_le h0 h4 hb, fun a H4 s4 _ hv => q a H4 ((s2.trans s3).trans s4) hv⟩⟩
      · have hn := hbad.1
        by_cases hg : zs.all (·.2) = true
        · rw [hg]
          refine iteF ⟨_, rfl, p, _, rfl, .inr hpt2, _, _, rfl, rfl, _, rfl, ?_⟩
          rw [hln]
          by_cases h1 : 1 ≤ zs.length
          · rw [decide_eq_true (by omega : (1 : Int) ≤ (zs.length : Int))]
            refine iteT ⟨_, _, rfl, rfl, _, rfl, ?_⟩
            rw [decide_eq_false (fun h4 : (zs.length : Int) ≤ 4 => hn ⟨hg, h1, by omega⟩)]
            exact iteT ⟨_, rfl, by show (1 : Nat) ≤ 1000; decide, bad hbad⟩
          · rw [decide_eq_false (by omega : ¬ (1 : Int) ≤ (zs.length : Int))]
            exact iteF ⟨_, rfl, iteT ⟨_, rfl, by show (1 : Nat) ≤ 1000; decide, bad hbad⟩⟩
        · rw [Bool.eq_false_iff.mpr hg]
          exact iteT ⟨_, rfl, by show (1 : Nat) ≤ 1000; decide, bad hbad⟩
end

/-! ## The law's texts bent, its figures read -/
section
variable {P : Program} {w : World} {K : PySem.W.Frag} {mg : Str → Option Value} {base : Heap} {D : Ad}
open TL SX
theorem str_S (z : Str) : z = S z.cps.toList := by
  obtain ⟨a⟩ := z
  simp [S]
theorem cut_len (l : List Nat) (lo hi : Option Int) : (cutS (S l) lo hi).length ≤ l.length := by
  have h : (cutS (S l) lo hi).length = ((l.drop (HT.sIx (S l).length 0 lo)).take (HT.sIx (S l).length (S l).length hi - HT.sIx (S l).length 0 lo)).length := by
    unfold cutS
    rw [show ∀ x : List Nat, (⟨x.toArray⟩ : Str).length = x.length from fun x => S_len x]
  rw [h, List.length_take, List.length_drop]
  omega
def Ch (x : Str) : Prop := ∀ c ∈ x.cps.toList, c < 1000
theorem ch_S {l : List Nat} (h : ∀ c ∈ l, c < 1000) : Ch (S l) := fun c hc => h c (by simpa [S] using hc)
theorem ch_app {a b : Str} (ha : Ch a) (hb : Ch b) : Ch (a ++ b) := fun c hc => by
  have hc : c ∈ (a.cps ++ b.cps).toList := hc
  rw [Array.toList_append, List.mem_append] at hc
  exact hc.elim (ha c) (hb c)
theorem ch_cut {l : List Nat} {lo hi : Option Int} (h : ∀ c ∈ l, c < 1000) : Ch (cutS (S l) lo hi) := fun c hc => by
  refine h c ?_
  unfold cutS at hc
  have hc : c ∈ ((S l).cps.toList.drop (HT.sIx (S l).length 0 lo)).take (HT.sIx (S l).length (S l).length hi - HT.sIx (S l).length 0 lo) := by simpa using hc
  simpa [S] using List.mem_of_mem_drop (List.mem_of_mem_take hc)
def spBent : Sp := fun vs H Q _ => ∃ (d c : Addr) (n : Nat) (l : List Nat), vs = [.ref d, .str (S l)] ∧ Dr H d c n ∧ n ≤ 10 ^ 9 ∧ l.length ≤ 10000 ∧ (∀ c ∈ l, c < 1000) ∧ ∀ l' H', (∀ c ∈ l', c < 1000) → l'.length ≤ 2 * l.length + 1 → Dr H' d c (n + 10) → But d H H' → Q (.str (S l')) H'
theorem ok_bent (T : Tex K mg D) : FnOk P w K mg base CX0 3 D.a_bent D.d_bent P_bent spBent := by
  have G_next : FnOk P w K mg base CX0 2 D.a_next D.d_next P_next spNext := ok_next T
  refine T.bent_F.ok S_bent (fun vs H Q E h => ?_) (fun cdv A outer s H vs Q E hr h => ?_)
  · obtain ⟨d, c, n, l, rfl, _⟩ := h
    rfl
  · obtain ⟨d, c, n, l, rfl, hd, hn, hl, hch, q⟩ := h
    refine ⟨_, (pss_cons (ps_par (i := 2) (j := 3) (by rfl) S_bent.nd rfl rfl (by decide) rfl rfl (pa_cons (pe_call G_next (hr.mono (by decide)) (by rfl) T.next_g T.next_F.kp T.next_b .nil pass0 (pa_cons (pv 0) (pa_cons (pe_op op_add (pe_callB call_len_str (by rfl) T.b_len (by decide +kernel) (pa_cons (pv 1) pa_nil)) pe_int) pa_nil))) (pa_cons (pe_ix ix_str pe_str (pe_call G_next (hr.mono (by decide)) (by rfl) T.next_g T.next_F.kp T.next_b .nil pass0 (pa_cons (pv 0) (pa_cons pe_int pa_nil))) (fun _ _ => rfl)) pa_nil)) (by rfl))
      (pss_cons (ps_set (i := 4) S_bent.nd rfl (Or.inl rfl) (pe_lst (pa_cons (pe_op op_add_str (pe_op op_add_str (pe_slice sl_str (pv 1) po_none (po_some (pv 2))) (pv 3)) (pe_slice sl_str (pv 1) (po_some (pv 2)) po_none)) (pa_cons (pe_op op_add_str (pe_slice sl_str (pv 1) po_none (po_some (pv 2))) (pe_slice sl_str (pv 1) (po_some (pe_op op_add (pv 2) pe_int)) po_none)) (pa_cons (pe_op op_add_str (pe_op op_add_str (pe_slice sl_str (pv 1) po_none (po_some (pv 2))) (pv 3)) (pe_slice sl_str (pv 1) (po_some (pe_op op_add (pv 2) pe_int)) po_none)) pa_nil)))))
      (pss_one (ps_ret (pe_ix ix_list (pv 4) (pe_call G_next (hr.mono (by decide)) (by rfl) T.next_g T.next_F.kp T.next_b .nil pass0 (pa_cons (pv 0) (pa_cons pe_int pa_nil))) (fun _ _ => rfl)))))), ?_⟩
    have hz : (S l).length = l.length := S_len l
    refine ⟨_, rfl, _, rfl, S l, rfl, by rw [hz]; exact szL (by omega), _, _, rfl, rfl, d, c, _, n, rfl, hd, by omega, by rw [hz]; omega, by rw [hz]; omega, fun v1 H1 v10 v11 d1 b1 => ?_⟩
    refine ⟨_, rfl, d, c, 14, _, rfl, d1, by omega, by decide, by decide, fun v2 H2 v20 v21 d2 b2 => ?_⟩
    obtain ⟨x, hx, mx⟩ := at_in (xs := (("0019.abrc ,-=\n" : String) : Str).cps.toList) v20 (by rw [show ((("0019.abrc ,-=\n" : String) : Str).cps.toList.length : Int) = 14 from by decide +kernel]; exact v21)
    refine ⟨_, _, _, rfl, rfl, by decide +kernel, hx, _, _, rfl, ?_⟩
    have c1 : (cutS (S l) none (some v1)).length ≤ l.length := cut_len _ _ _
    have c2 : (cutS (S l) (some v1) none).length ≤ l.length := cut_len _ _ _
    have c3 : (cutS (S l) (some (v1 + 1)) none).length ≤ l.length := cut_len _ _ _
    have c4 : (⟨#[x]⟩ : Str).length = 1 := rfl
    have hs : (S l).length ≤ sizeLine := by rw [hz]; exact szL (by omega)
    have ap : ∀ {a b : Str} {m k : Nat}, a.length ≤ m → b.length ≤ k → (a ++ b).length ≤ m + k := fun {a b m k} ha hb => by
      rw [len_app]
      omega
    have hi := ap c1 (Nat.le_of_eq c4)
    have sz : ∀ {a b : Str} {m : Nat}, a.length + b.length ≤ m → m ≤ 100000 → a.length + b.length ≤ sizeLine := fun h g => Nat.le_trans h (szL g)
    refine ⟨_, rfl, _, rfl, _, rfl, S l, rfl, hs, _, rfl, _, _, rfl, rfl, sz (Nat.add_le_add c1 (Nat.le_of_eq c4)) (by omega), ?_⟩
    refine ⟨_, rfl, _, rfl, _, rfl, S l, rfl, hs, _, _, rfl, rfl, sz (Nat.add_le_add hi c2) (by omega), ?_⟩
    refine ⟨_, rfl, _, rfl, _, rfl, S l, rfl, hs, _, rfl, _, rfl, _, _, rfl, rfl, _, rfl, S l, rfl, hs, _, _, rfl, rfl, sz (Nat.add_le_add c1 c3) (by omega), ?_⟩
    refine ⟨_, rfl, _, rfl, _, rfl, S l, rfl, hs, _, rfl, _, _, rfl, rfl, sz (Nat.add_le_add c1 (Nat.le_of_eq c4)) (by omega), ?_⟩
    refine ⟨_, rfl, _, rfl, _, _, rfl, rfl, _, rfl, S l, rfl, hs, _, _, rfl, rfl, sz (Nat.add_le_add hi c3) (by omega), by show 3 ≤ sizeLine; decide, fun t ht => ?_⟩
    have ndt := d2.ne_new ht
    refine ⟨_, rfl, _, rfl, d, c, 3, _, rfl, d2.new ht, by omega, by decide, by decide, fun v3 H3 v30 v31 d3 b3 => ?_⟩
    have ht3 := b3 t _ upd_same ndt.symm
    obtain ⟨z, hz3, mz⟩ := at_in (xs := [V.str (cutS (S l) none (some v1) ++ ⟨#[x]⟩ ++ cutS (S l) (some v1) none), .str (cutS (S l) none (some v1) ++ cutS (S l) (some (v1 + 1)) none), .str (cutS (S l) none (some v1) ++ ⟨#[x]⟩ ++ cutS (S l) (some (v1 + 1)) none)]) v30 v31
    refine ⟨t, _, _, _, rfl, rfl, SqL.of ht3, hz3, ?_⟩
    have hx1 : Ch (⟨#[x]⟩ : Str) := fun c hc => by
      have hc : c = x := by simpa using hc
      rw [hc]
      exact (by decide +kernel : ∀ c ∈ (("0019.abrc ,-=\n" : String) : Str).cps.toList, c < 1000) x mx
    have fin : ∀ y : Str, Ch y → y.length ≤ 2 * l.length + 1 → Q (.str y) H3 := fun y hcy hy => by
      rw [str_S y]
      exact q _ H3 hcy (by rw [← S_len y.cps.toList, ← str_S y]; exact hy) (d3.mono (by omega)) (((b1.trans b2).new ht).trans b3)
    simp only [List.mem_cons, List.not_mem_nil, or_false] at mz
    rcases mz with rfl | rfl | rfl
    · exact fin _ (ch_app (ch_app (ch_cut hch) hx1) (ch_cut hch)) (by have := ap hi c2; omega)
    · exact fin _ (ch_app (ch_cut hch) (ch_cut hch)) (by have := ap c1 c3; omega)
    · exact fin _ (ch_app (ch_app (ch_cut hch) hx1) (ch_cut hch)) (by have := ap hi c3; omega)
end

/-! ## The law's figures -/
section
variable {P : Program} {w : World} {K : PySem.W.Frag} {mg : Str → Option Value} {base : Heap} {D : Ad}
open TL SX
def fg (l : List Nat) : Int := match nT l with | some n => (n : Int) | none => -1
theorem S_ne {l : List Nat} : decide (V.str (S l) = V.str (("" : String) : Str)) = decide (l = []) := decide_eq_decide.mpr ⟨fun e => by
    injection e with e
    have e2 : S l = S [] := e
    exact S_inj e2, fun e => by
    rw [e]
    rfl⟩
def spFig : Sp := fun vs H Q _ => ∃ l : List Nat, vs = [.str (S l)] ∧ l.length ≤ 100000 ∧ ∀ H', Same H H' → Q (.int (fg l)) H'
theorem ok_figure (T : Tex K mg D) : FnOk P w K mg base CX0 1 D.a_figure D.d_figure P_figure spFig := by
  refine T.figure_F.ok S_figure (fun vs H Q E h => ?_) (fun cdv A outer s H vs Q E hr h => ?_)
  · obtain ⟨l, rfl, _⟩ := h
    rfl
  · obtain ⟨l, rfl, hl, q⟩ := h
    refine ⟨_, (pss_cons (ps_if (PW.pt (pw_or (pt_cmpR op_eq (pv 0) pe_str (nomark _)) (pw_or (pt_cmpR op_gt (pe_callB call_len_str (by rfl) T.b_len (by decide +kernel) (pa_cons (pv 0) pa_nil)) pe_int (nomark _)) (pw_or1 (pt_cmpR (op_neNil hr.units) (pe_lc (own := [(("_law_sign" : Str), 1)]) (g := gName 1) rfl S_figure.nd (pi_str (pv 0)) (blkOk_by (N := N_figure) (sc := defScope s_figure) (by decide +kernel)) (fun _ _ _ _ _ => pg_name (i := 1) S_figure.nd rfl (Or.inl rfl)) (fun _ _ _ _ _ => (pts_one (pt_cmpR op_notIn_sign (pv 1) pe_str rfl))) (fun _ _ _ _ _ => (pv 1))) (pe_lst pa_nil) (nomark _)))))) (pss_one (ps_ret (pe_op op_sub pe_int pe_int))) pss_nil)
      (pss_cons (ps_if (PW.pt (pw_and (pt_cmpR op_gt (pe_callB call_len_str (by rfl) T.b_len (by decide +kernel) (pa_cons (pv 0) pa_nil)) pe_int (nomark _)) (pw_and1 (pt_cmpR op_eq (pe_ix ix_str (pv 0) pe_int (fun _ _ => rfl)) pe_str (nomark _))))) (pss_one (ps_ret (pe_op op_sub pe_int pe_int))) pss_nil)
      (pss_one (ps_ret (pe_callTy call_int_str (by rfl) T.b_int (by decide +kernel) (pa_cons (pv 0) pa_nil)))))), ?_⟩
    have hz : (S l).length = l.length := S_len l
    have hs : (S l).length ≤ sizeLine := by rw [hz]; exact szL hl
    refine ⟨_, rfl, rfl, _, rfl, ?_⟩
    rw [S_ne]
    by_cases h0 : l = []
    · rw [decide_eq_true h0]
      have e : fg l = -1 := by rw [h0]; rfl
      rw [e] at q
      exact iteT ⟨_, _, rfl, rfl, q H (Same.refl _)⟩
    · rw [decide_eq_false h0]
      have hl1 : 1 ≤ l.length := List.length_pos_iff.mpr h0
      refine iteF ⟨_, rfl, S l, rfl, hs, _, _, rfl, rfl, _, rfl, ?_⟩
      rw [hz]
      by_cases h3 : (l.length : Int) > 3
      · rw [decide_eq_true h3]
        have e : fg l = -1 := by
          unfold fg nT
          rw [if_neg (by simp only [Bool.and_eq_true, decide_eq_true_eq]; omega)]
        rw [e] at q
        exact iteT ⟨_, _, rfl, rfl, q H (Same.refl _)⟩
      · rw [decide_eq_false h3]
        refine iteF ⟨_, rfl, S l, rfl, fun DD hDD => lc_txt (fun c => !isDig c) (fun c => .str ⟨#[c]⟩) hDD (by rw [hz]; exact szT hl) (fun c hc H2 R S' s2 g1 g2 => ?_) (fun H2 s2 g2 => ?_)⟩
        · refine ⟨rfl, _, rfl, c, (("0123456789" : String) : Str), rfl, rfl, _, rfl, ?_⟩
          have ed : (!decide (c ∈ (("0123456789" : String) : Str).cps.toList)) = !isDig c := by
            rw [← inS_dig]
            rfl
          rw [ed]
          cases hc' : isDig c with
          | true => exact iteF (g2 (by rw [hc']; rfl) H2 (Same.refl _))
          | false => exact iteT ⟨_, rfl, g1 (by rw [hc']; rfl) H2 (Same.refl _)⟩
        · refine ⟨by show 0 ≤ sizeLine; decide, fun n2 hn2 => ?_⟩
          refine ⟨DD, n2, _, rfl, rfl, SqL.of (same_new hn2 _ _ g2), SqL.of upd_same, _, rfl, ?_⟩
          have s3 := s2.trans (same_new (o := .lst []) hn2)
          by_cases hd : l.all isDig = true
          · have ef : (l.filter fun c => !isDig c) = [] := by
              rw [List.filter_eq_nil_iff]
              intro c hc
              rw [List.all_eq_true.mp hd c hc]
              decide
            rw [ef]
            refine iteF ?_
            have h3' : l.length ≤ 3 := by omega
            have hg : (decide (1 ≤ l.length) && (decide (l.length ≤ 3) && l.all isDig)) = true := by
              rw [decide_eq_true hl1, decide_eq_true h3', hd]
              rfl
            have hdig : NumText.AllDigits l := allD hd
            have hin : PySem.intText? (S l) = some ((NumText.digitsVal l : Nat) : Int) := intText_digits (x := S l) hdig h0 (by rw [S_len]; omega)
            have h64 : (S l).length ≤ 640 := by rw [S_len]; omega
            refine ⟨_, rfl, S l, rfl, hs, _, _, rfl, rfl, _, rfl, ?_⟩
            rw [hz]
            by_cases h1 : (l.length : Int) > 1
            · rw [decide_eq_true h1]
              obtain ⟨c, r, rfl⟩ : ∃ c r, l = c :: r := by
                cases l with
                | nil => exact absurd rfl h0
                | cons c r => exact ⟨c, r, rfl⟩
              have hr : r ≠ [] := fun e => by
                rw [e] at h1
                simp only [List.length_cons, List.length_nil] at h1
                omega
              refine iteT ⟨_, rfl, S (c :: r), 0, c, rfl, rfl, hs, atI_nat (j := 0) rfl, rfl, _, rfl, ?_⟩
              rw [zero_txt]
              by_cases hc0 : c = 48
              · subst hc0
                have e : fg (48 :: r) = -1 := by
                  unfold fg nT
                  rw [if_pos hg, if_pos ⟨rfl, by simp [hr]⟩]
                rw [e] at q
                rw [decide_eq_true rfl]
                exact iteT ⟨_, _, rfl, rfl, q _ s3⟩
              · have hd2 : decide (V.str (S [c]) = V.str (S [48])) = false := decide_eq_false (by
                  intro e
                  injection e with e
                  have e2 := S_inj e
                  injection e2 with e3
                  exact hc0 e3)
                have e : fg (c :: r) = ((NumText.digitsVal (c :: r) : Nat) : Int) := by
                  unfold fg nT
                  rw [if_pos hg, if_neg (by simp [hc0])]
                rw [e] at q
                rw [hd2]
                exact iteF ⟨_, rfl, S (c :: r), _, rfl, hin, h64, q _ s3⟩
            · rw [decide_eq_false h1]
              have e : fg l = ((NumText.digitsVal l : Nat) : Int) := by
                unfold fg nT
                have : ¬ (l.head? = some 48 ∧ l ≠ [48]) := by
                  rintro ⟨g1, g2⟩
                  obtain ⟨c, rfl⟩ := List.length_eq_one_iff.mp (by omega : l.length = 1)
                  simp only [List.head?_cons, Option.some.injEq] at g1
                  exact g2 (by rw [g1])
                rw [if_pos hg, if_neg this]
              rw [e] at q
              exact iteF ⟨_, rfl, S l, _, rfl, hin, h64, q _ s3⟩
          · have ef : (!((l.filter fun c => !isDig c).map fun c => V.str ⟨#[c]⟩).isEmpty) = true := by
              cases e : (l.filter fun c => !isDig c) with
              | nil =>
                refine absurd (List.all_eq_true.mpr fun c hc => ?_) hd
                have := List.filter_eq_nil_iff.mp e c hc
                simpa using this
              | cons c r => rfl
            rw [show (!(((S l).cps.toList.filter fun c => !isDig c).map fun c => V.str ⟨#[c]⟩).isEmpty) = true from ef]
            have e : fg l = -1 := by
              unfold fg nT
              rw [if_neg (by simp only [Bool.and_eq_true, decide_eq_true_eq]; exact fun h => hd h.2.2)]
            rw [e] at q
            exact iteT ⟨_, _, rfl, rfl, q _ s3⟩
end

/-! ## The law's reading of a version's text -/
section
variable {P : Program} {w : World} {K : PySem.W.Frag} {mg : Str → Option Value} {base : Heap} {D : Ad}
open TL SX
def scS (l : List Nat) : Nat → List Nat × Nat × Int
  | 0 => (l, 3, 0)
  | i + 1 => if (scS l i).2.1 = 3 then (match par (wd i) [] l with | some (p, q) => (p, i, fg q) | none => scS l i) else scS l i
theorem scS_none {l : List Nat} {i : Nat} (h : par (wd i) [] l = none) : scS l (i + 1) = scS l i := by
  show (if (scS l i).2.1 = 3 then (match par (wd i) [] l with | some (p, q) => (p, i, fg q) | none => scS l i) else scS l i) = _
  rw [h]
  split <;> rfl
theorem scS_old {l : List Nat} {i : Nat} (h : (scS l i).2.1 ≠ 3) : scS l (i + 1) = scS l i := if_neg h
theorem scS_new {l p q : List Nat} {i : Nat} (h : par (wd i) [] l = some (p, q)) (g : (scS l i).2.1 = 3) : scS l (i + 1) = (p, i, fg q) := by
  show (if (scS l i).2.1 = 3 then (match par (wd i) [] l with | some (p, q) => (p, i, fg q) | none => scS l i) else scS l i) = _
  rw [if_pos g, h]
theorem scS_end (l : List Nat) : (scS l 3 = (l, 3, 0) ∧ sT l = (l, some 3000)) ∨ ∃ p q j, j < 3 ∧ par (wd j) [] l = some (p, q) ∧ scS l 3 = (p, j, fg q) ∧ sT l = (p, (nT q).map fun n => j * 1000 + n) := by
  have e0 : scS l 0 = (l, 3, 0) := rfl
  cases h0 : par (wd 0) [] l with
  | some pq =>
    obtain ⟨p, q⟩ := pq
    have e1 := scS_new h0 (by rw [e0])
    have e2 : scS l 2 = scS l 1 := scS_old (by rw [e1]; show (0 : Nat) ≠ 3; decide)
    have e3 : scS l 3 = scS l 2 := scS_old (by rw [e2, e1]; show (0 : Nat) ≠ 3; decide)
    exact .inr ⟨p, q, 0, by decide, h0, by rw [e3, e2, e1], sTn_hit h0⟩
  | none =>
    have e1 : scS l 1 = (l, 3, 0) := (scS_none h0).trans e0
    have t1 : sT l = sTn l 2 1 := sTn_step h0
    cases h1 : par (wd 1) [] l with
    | some pq =>
      obtain ⟨p, q⟩ := pq
      have e2 := scS_new h1 (by rw [e1])
      have e3 : scS l 3 = scS l 2 := scS_old (by rw [e2]; show (1 : Nat) ≠ 3; decide)
      exact .inr ⟨p, q, 1, by decide, h1, by rw [e3, e2], t1.trans (sTn_hit h1)⟩
    | none =>
      have e2 : scS l 2 = (l, 3, 0) := (scS_none h1).trans e1
      have t2 : sT l = sTn l 1 2 := t1.trans (sTn_step h1)
      cases h2 : par (wd 2) [] l with
      | some pq =>
        obtain ⟨p, q⟩ := pq
        exact .inr ⟨p, q, 2, by decide, h2, scS_new h2 (by rw [e2]), t2.trans (sTn_hit h2)⟩
      | none => exact .inl ⟨(scS_none h2).trans e2, t2.trans (sTn_step h2)⟩
theorem scS_three {l : List Nat} : ∀ i, i ≤ 3 → (scS l i).2.1 ≤ 3 ∧ (scS l i).1.length ≤ l.length
  | 0, _ => ⟨Nat.le_refl _, Nat.le_refl _⟩
  | i + 1, hi => by
    have ih := scS_three (l := l) i (by omega)
    cases h : par (wd i) [] l with
    | none =>
      rw [scS_none h]
      exact ih
    | some pq =>
      obtain ⟨p, q⟩ := pq
      by_cases g : (scS l i).2.1 = 3
      · rw [scS_new h g]
        have := (par_len h).2
        exact ⟨by show i ≤ 3; omega, by simpa using this⟩
      · rw [scS_old g]
        exact ih
def oF : Option Nat → Int := fun o => match o with | some n => (n : Int) | none => -1
theorem inV_oF (os : List (Option Nat)) (b : Int) : inV (.int (0 - 1)) ((os.map fun o => V.int (oF o)) ++ [.int b]) = (decide (none ∈ os) || decide (b = -1)) := by
  have e : (0 - 1 : Int) = -1 := rfl
  rw [e]
  unfold inV
  rw [List.any_append, List.any_map]
  congr 1
  · rw [Bool.eq_iff_iff, List.any_eq_true, decide_eq_true_iff]
    constructor
    · rintro ⟨o, ho, he⟩
      cases o with
      | none => exact ho
      | some n =>
        exfalso
        simp [oF, eqV] at he
    · intro h
      exact ⟨none, h, rfl⟩
  · simp only [eqV, List.any_cons, List.any_nil, Bool.or_false]
    rw [Bool.eq_iff_iff]
    simp
theorem flat_oF (os : List (Option Nat)) (b : Int) : ((os.map fun o => V.int (oF o)) ++ [V.int b]).all flatV = true := by
  rw [List.all_append, List.all_map, Bool.and_eq_true, List.all_eq_true]
  exact ⟨fun _ _ => rfl, rfl⟩
/-- what the law reads -/
def spRead (K : PySem.W.Frag) : Sp := fun vs H Q _ => ∃ x : V, vs = [x] ∧
  ((∃ l : List Nat, x = .str (S l) ∧ l.length ≤ 80000 ∧ (pT l = none → ∀ r H', Same H H' → H' r = some (.lst []) → Q (.ref r) H') ∧
      ∀ ns st, pT l = some (ns, st) → ∀ r p H', Same H H' → H' r = some (.lst [.ref p]) → Pt H' p ns st → Q (.ref r) H') ∨
    (NoTxt K H x ∧ ∀ r H', Same H H' → H' r = some (.lst []) → Q (.ref r) H'))
theorem ok_read (T : Tex K mg D) : FnOk P w K mg base CX0 2 D.a_read D.d_read P_read (spRead K) := by
  have G_figure : FnOk P w K mg base CX0 1 D.a_figure D.d_figure P_figure spFig := ok_figure T
  refine T.read_F.ok S_read (fun vs H Q E h => ?_) (fun cdv A outer s H vs Q E hr h => ?_)
  · obtain ⟨x, rfl, _⟩ := h
    rfl
  · obtain ⟨x, rfl, h⟩ := h
    refine ⟨_, (pss_cons (ps_if (pt_not (pt_val (pe_callB call_isi (by rfl) T.b_isinstance (by decide +kernel) (pa_cons (pv 0) (pa_cons (pe_bltn (v := .ty "str") (u := .type "str") (by rfl) T.b_str (by decide +kernel) rfl) pa_nil))))) (pss_one (ps_ret (pe_lst pa_nil))) pss_nil)
      (pss_cons (ps_par3 (i := 1) (j := 2) (l := 3) rfl S_read.nd rfl rfl rfl (by decide) (by decide) (by decide) rfl rfl rfl (pa_cons (pv 0) (pa_cons pe_str (pa_cons pe_int pa_nil))) (by rfl))
      (pss_cons (ps_for PassesOwn.never rfl (pi_tup (pe_tup (pa_cons pe_str (pa_cons pe_str (pa_cons pe_str pa_nil))))) (pg_name (i := 4) S_read.nd rfl (Or.inl rfl)) (pss_cons (ps_set (i := 5) S_read.nd rfl (Or.inl rfl) (pe_bm PySem.F.plainAttrs_str PySem.F.slot_str_find PySem.F.type_str_find mt_find (pv 0) (pa_cons (pv 4) pa_nil)))
      (pss_one (ps_if (PW.pt (pw_and (pt_cmpR op_ge (pv 5) pe_int (nomark _)) (pw_and1 (pt_cmpR op_eq (pv 2) pe_str (nomark _))))) (pss_cons (ps_par (i := 1) (j := 2) (by rfl) S_read.nd rfl rfl (by decide) rfl rfl (pa_cons (pe_slice sl_str (pv 0) po_none (po_some (pv 5))) (pa_cons (pv 4) pa_nil)) (by rfl))
      (pss_one (ps_set (i := 3) S_read.nd rfl (Or.inl rfl) (pe_call G_figure (hr.mono (by decide)) (by rfl) T.figure_g T.figure_F.kp T.figure_b .nil pass0 (pa_cons (pe_slice sl_str (pv 0) (po_some (pe_op op_add (pv 5) (pe_callB call_len_str (by rfl) T.b_len (by decide +kernel) (pa_cons (pv 2) pa_nil)))) po_none) pa_nil))))) pss_nil))))
      (pss_cons (ps_setLc (i := 6) (own := [(("_law_part" : Str), 7)]) (g := gName 7) (tt := tYes) rfl S_read.nd rfl rfl (sw_true rfl rfl rfl (by decide +kernel)) (pi_list (pe_split (pv 1) pe_str)) (blkOk_by (N := N_read) (sc := defScope s_read) (by decide +kernel)) (fun _ _ _ _ _ => pg_name (i := 7) S_read.nd rfl (Or.inl rfl)) (fun _ _ _ _ _ => pts_nil) (fun _ _ _ _ _ => (pe_call G_figure (hr.mono (by decide)) (by rfl) T.figure_g T.figure_F.kp T.figure_b .nil pass0 (pa_cons (pv 7) pa_nil))))
      (pss_one (ps_ret (pe_ifExp (PW.pt (pw_and (pt_cmpR op_notIn_seq (pe_op op_sub pe_int pe_int) (pe_op op_cat (pv 6) (pe_lst (pa_cons (pv 3) pa_nil))) rfl) (pw_and1 (pt_cmpR op_lt (pe_callB call_len_seq (by rfl) T.b_len (by decide +kernel) (pa_cons (pv 6) pa_nil)) pe_int (nomark _))))) (pe_lst (pa_cons (pe_tup (pa_cons (pv 6) (pa_cons (pv 2) (pa_cons (pv 3) pa_nil)))) pa_nil)) (pe_lst pa_nil)))))))), ?_⟩
    rcases h with ⟨l, rfl, hl, q0, q1⟩ | ⟨⟨St, hS, ty⟩, q⟩
    rotate_left
    · simp only [List.mem_cons, List.not_mem_nil, or_false] at hS
      rcases hS with rfl | rfl | rfl | rfl | rfl | rfl
      all_goals exact ⟨_, rfl, x, .ty "str", _, .type "str", false, rfl, .ty _, ty, kit_ty (by decide +kernel), _, rfl, iteT ⟨by show 0 ≤ sizeLine; decide, fun r hr0 => q r _ (same_new hr0) upd_same⟩⟩
    · have hz : (S l).length = l.length := S_len l
      have hs : (S l).length ≤ sizeLine := by rw [hz]; exact szL (by omega)
      refine ⟨_, rfl, .str (S l), .ty "str", .type "str", .type "str", true, rfl, .ty _, .base (.str _), kit_ty (by decide +kernel), _, rfl, iteF ?_⟩
      refine ⟨_, rfl, _, _, _, rfl, ?_⟩
      refine ⟨by show 3 ≤ sizeLine; decide, fun t ht => ⟨t, rfl, ⟨_, sqT_of upd_same⟩, ?_⟩⟩
      have tH : (upd H t (.tup stN)) t = some (.tup stN) := upd_same
      refine for_tup (K := K) (xs := stN) (fun i σ H' => ∃ o4 o5 : Option V, σ = [some (.str (S l)), some (.str (S (scS l i).1)), some (.str (S (sw (scS l i).2.1))), some (.int (scS l i).2.2), o4, o5, none, none] ∧ Same (upd H t (.tup stN)) H') ⟨_, _, (by rw [show (("" : String) : Str) = S (sw 3) from sw_txt.2.2.2]; rfl), Same.refl _⟩ (fun i σ H' _ ⟨_, _, _, e⟩ => sqT_of (e _ _ tH)) ?_ ?_
      · rintro i x σ H1 hx ⟨o4, o5, rfl, s1⟩
        obtain ⟨hi, rfl⟩ := stN_at hx
        obtain ⟨hj3, _⟩ := scS_three (l := l) i (by omega)
        have hz2 : (S (wd i)).length ≤ sizeLine := by
          have := wd_len i
          rw [S_len]
          exact szl (by omega)
        refine ⟨_, rfl, rfl, _, rfl, S l, S (wd i), rfl, rfl, ?_⟩
        rcases find_par (S l) (S (wd i)) (wd_ne i) with ⟨p, q, e, ef, el⟩ | ⟨e, ef⟩
        · have e : par (wd i) [] l = some (p, q) := e
          have el : l = p ++ (wd i ++ q) := el
          rw [ef]
          refine ⟨_, rfl, _, _, rfl, rfl, _, rfl, ?_⟩
          rw [decide_eq_true (by omega : ((p.length : Nat) : Int) ≥ 0)]
          refine iteT ⟨_, rfl, rfl, _, rfl, ?_⟩
          rw [sw_ne hj3]
          by_cases g : (scS l i).2.1 = 3
          · rw [decide_eq_true g]
            have c1 : cutS (S l) none (some (((p.length : Nat)) : Int)) = S p := by
              rw [C8.cutS_slice, slice_to (by omega), Int.toNat_natCast, el, List.take_left]
            have c2 : cutS (S l) (some (((p.length : Nat) : Int) + ((S (wd i)).length : Nat))) none = S q := by
              rw [C8.cutS_slice, S_len, slice_from (by omega)]
              congr 1
              rw [show (((p.length : Nat) : Int) + ((wd i).length : Nat)).toNat = p.length + (wd i).length from by omega, el, ← List.append_assoc, ← List.length_append, List.drop_left]
            refine iteT ⟨_, rfl, _, rfl, _, rfl, S l, rfl, hs, _, rfl, _, _, rfl, ?_⟩
            rw [c1]
            refine ⟨_, rfl, _, rfl, _, rfl, S (wd i), rfl, hz2, _, _, rfl, rfl, _, rfl, S l, rfl, hs, ?_⟩
            rw [c2]
            have hq : q.length ≤ l.length := by
              rw [el, List.length_append, List.length_append]
              omega
            refine ⟨q, rfl, by omega, fun H2 s2 => ⟨some (.str (S (wd i))), some (.int ((p.length : Nat) : Int)), ?_, s1.trans s2⟩⟩
            rw [scS_new e g]
            show _ = [some (V.str (S l)), some (.str (S p)), some (.str (S (sw i))), some (.int (fg q)), _, _, none, none]
            rw [sw_wd hi]
            rfl
          · rw [decide_eq_false g]
            refine iteF ⟨some (.str (S (wd i))), some (.int ((p.length : Nat) : Int)), ?_, s1⟩
            rw [scS_old g]
            rfl
        · have e : par (wd i) [] l = none := e
          rw [ef]
          refine ⟨_, rfl, _, _, rfl, rfl, _, rfl, ?_⟩
          rw [decide_eq_false (by omega : ¬ (-1 : Int) ≥ 0)]
          refine iteF ⟨some (.str (S (wd i))), some (.int (-1)), ?_, s1⟩
          rw [scS_none e]
          rfl
      · rintro σ H1 ⟨o4, o5, rfl, s1⟩
        have e3 : stN.length = 3 := rfl
        rw [e3]
        obtain ⟨hj3, hfl⟩ := scS_three (l := l) 3 (Nat.le_refl _)
        have hend := scS_end l
        revert hend hj3 hfl
        generalize scS l 3 = fjb
        obtain ⟨fr, j, b⟩ := fjb
        intro hj3 hfl hend
        have s1' : Same H H1 := (same_new ht).trans s1
        have hfr : (sT l).1 = fr := by
          rcases hend with ⟨e, e2⟩ | ⟨p, q, j', _, _, e, e2⟩
          · injection e with e _
            rw [e2, e]
          · injection e with e _
            rw [e2, e]
        have hfl : fr.length ≤ l.length := hfl
        have esp : Txt.split (S fr) (S [46]) = (spl [46] 0 [] fr).map S := split_S (by simp) (by decide)
        have hsl := spl_len (b := [46]) (k := 0) (acc := []) (l := fr)
        refine ⟨_, rfl, ⟨_, rfl⟩, _, _, rfl, rfl, by rw [dot_txt]; rfl, by rw [S_len]; exact szL (by omega), fun t2 ht2 => ?_⟩
        rw [dot_txt, esp]
        have s2 := s1'.trans (same_new (o := .lst (((spl [46] 0 [] fr).map S).map V.str)) ht2)
        have e2 : (upd H1 t2 (.lst (((spl [46] 0 [] fr).map S).map V.str))) t2 = some (.lst ((spl [46] 0 [] fr).map fun x => V.str (S x))) := by
          rw [upd_same, List.map_map]
          rfl
        revert s2 e2
        generalize upd H1 t2 (.lst (((spl [46] 0 [] fr).map S).map V.str)) = H2
        intro s2 e2
        refine ⟨t2, rfl, ⟨_, SqL.of e2⟩, fun D' hD' => lc_lst (spl [46] 0 [] fr) (fun x => V.str (S x)) (fun _ => true) (fun x => .int (fg x)) hD' (szT (by omega)) (SqL.of e2) (fun x hx H3 R S3 s3 h1 h2 => ?_) (fun H3 s3 h3 => ?_)⟩
        · have hxl := hsl.2 x hx
          exact ⟨rfl, ⟨_, rfl, x, rfl, by simp at hxl; omega, fun H' s' => h1 rfl H' s'⟩⟩
        · rw [filt1] at h3
          have s4 := s2.trans s3
          have h3' : H3 D' = some (.lst (((spl [46] 0 [] fr).map nT).map fun o => V.int (oF o))) := by
            rw [h3, List.map_map]
            rfl
          have hlen : ((spl [46] 0 [] fr).map nT).length ≤ 90000 := by
            rw [List.length_map]
            omega
          have ep : pT l = (match (sT l).2, allSome ((spl [46] 0 [] fr).map nT) with
              | some st, some ns => if ns.length > 4 then none else some (ns, st)
              | _, _ => none) := by
            rw [← hfr]
            rfl
          have hno : ((spl [46] 0 [] fr).map nT) ≠ [] := by
            intro e
            exact spl_ne _ _ _ _ (List.map_eq_nil_iff.mp e)
          have hst : (∃ m : Nat, m < 1000 ∧ (j = 3 → m = 0) ∧ b = (m : Int) ∧ (sT l).2 = some (j * 1000 + m)) ∨ (b = -1 ∧ (sT l).2 = none) := by
            rcases hend with ⟨e, e2⟩ | ⟨p, q, j', hj', _, e, e2⟩
            · injection e with _ e
              injection e with ej eb
              subst ej eb
              exact .inl ⟨0, by decide, fun _ => rfl, rfl, by rw [e2]⟩
            · injection e with _ e
              injection e with ej eb
              subst ej eb
              rw [e2]
              cases hn : nT q with
              | none => exact .inr ⟨by unfold fg; rw [hn], rfl⟩
              | some n => exact .inl ⟨n, nT_lt hn, fun h => absurd h (by omega), by unfold fg; rw [hn], rfl⟩
          generalize (spl [46] 0 [] fr).map nT = os at h3' hlen hno ep
          refine ⟨_, _, rfl, rfl, _, rfl, _, rfl, by show 1 ≤ sizeLine; decide, fun n1 hn1 => ?_⟩
          have s5 := s4.trans (same_new (o := .lst [V.int b]) hn1)
          have f5 := (same_new (o := .lst [V.int b]) hn1) _ _ h3'
          refine ⟨D', n1, _, _, rfl, rfl, f5, upd_same, by rw [List.length_map]; exact szL (by simp only [List.length_cons, List.length_nil]; omega), fun z hz => ?_⟩
          have s6 := s5.trans (same_new (o := .lst ((os.map fun o => V.int (oF o)) ++ [V.int b])) hz)
          have f6 := (same_new (o := .lst ((os.map fun o => V.int (oF o)) ++ [V.int b])) hz) _ _ f5
          have fin : ∀ (H9 : Hp), Same H H9 → ∀ r, H9 r = none → pT l = none → Q (.ref r) (upd H9 r (.lst [])) := fun H9 s9 r hr0 hp => q0 hp r _ (s9.trans (same_new hr0)) upd_same
          refine ⟨z, _, rfl, .inl (SqL.of upd_same), rfl, flat_oF os b, _, rfl, ?_⟩
          rw [inV_oF]
          cases ho : allSome os with
          | none =>
            rw [ho] at ep
            rw [decide_eq_true (allSome_none.mp ho)]
            refine iteF ⟨by show 0 ≤ sizeLine; decide, fun r hr0 => fin _ s6 r hr0 ?_⟩
            rw [ep]
            split <;> first | rfl | skip
            rename_i h
            cases h
          | some ns =>
            rw [ho] at ep
            have hos := allSome_some ho
            have hnn : none ∉ os := by
              rw [hos]
              simp
            rw [decide_eq_false hnn]
            rcases hst with ⟨m, hm, hj, rfl, e⟩ | ⟨rfl, e⟩
            rotate_left
            · rw [e] at ep
              refine iteF ⟨by show 0 ≤ sizeLine; decide, fun r hr0 => fin _ s6 r hr0 ep⟩
            · rw [e] at ep
              rw [decide_eq_false (by omega : ¬ (m : Int) = -1)]
              have hl2 : (os.map fun o => V.int (oF o)).length = ns.length := by
                rw [List.length_map, hos, List.length_map]
              refine iteT ⟨_, rfl, D', _, rfl, .inl (SqL.of f6), _, _, rfl, rfl, _, rfl, ?_⟩
              rw [hl2]
              by_cases h5 : ns.length < 5
              · rw [decide_eq_true (by omega : ((ns.length : Nat) : Int) < 5)]
                have ep : pT l = some (ns, j * 1000 + m) := by
                  rw [ep]
                  exact if_neg (by omega)
                have hf := pT_fig ep
                refine iteT ⟨_, rfl, _, rfl, _, rfl, by show 3 ≤ sizeLine; decide, fun p hp => ⟨by show 1 ≤ sizeLine; decide, fun r hr0 => ?_⟩⟩
                have g1 := same_new (o := .tup [V.ref D', .str (S (sw j)), .int (m : Int)]) hp
                have g2 := same_new (o := .lst [V.ref p]) hr0
                have ev : (os.map fun o => V.int (oF o)) = vN ns := by
                  rw [hos, List.map_map]
                  rfl
                have f7 := (g1 _ _ f6).trans (by rw [ev] : _ = some (HO.lst (vN ns)))
                exact q1 ns _ ep r p _ ((s6.trans g1).trans g2) upd_same (pt_of (g2 _ _ upd_same) (g2 _ _ f7) hf.ne (by omega) hf.lt (by simpa using hj3) hm hj)
              · rw [decide_eq_false (by omega : ¬ ((ns.length : Nat) : Int) < 5)]
                refine iteF ⟨by show 0 ≤ sizeLine; decide, fun r hr0 => fin _ s6 r hr0 ?_⟩
                rw [ep]
                exact if_pos (by omega)
end

/-! ## The law's word of a version -/
section
variable {P : Program} {w : World} {K : PySem.W.Frag} {mg : Str → Option Value} {base : Heap} {D : Ad}
open TL SX
theorem NoTxt.keep {H H' : Hp} {x : V} (h : NoTxt K H x) (s : Same H H') : NoTxt K H' x := let ⟨S, a, b⟩ := h; ⟨S, a, tyX_keep b s⟩
/-- no text of a version -/
def Bad1 (K : PySem.W.Frag) (H : Hp) (y : V) : Prop := (∃ l : List Nat, y = .str (S l) ∧ l.length ≤ 80000 ∧ pT l = none) ∨ NoTxt K H y
/-- no rank -/
def Bad2 (K : PySem.W.Frag) (H : Hp) (y : V) : Prop := (∃ i : Int, y = .int i ∧ ¬ (0 ≤ i ∧ i ≤ 3000999999999999)) ∨ Plain K H y
theorem Bad1.keep {H H' : Hp} {x : V} (h : Bad1 K H x) (s : Same H H') : Bad1 K H' x := h.imp id fun h => h.keep s
theorem Bad2.keep {H H' : Hp} {x : V} (h : Bad2 K H x) (s : Same H H') : Bad2 K H' x := h.imp id fun h => h.keep s
def spWord (K : PySem.W.Frag) (C : Addr) : Sp := fun vs H Q _ => ∃ (i : Int) (y : V), vs = [.int i, y] ∧
  ((i = 0 ∧ ∃ (l ns : List Nat) (st : Nat), y = .str (S l) ∧ l.length ≤ 80000 ∧ pT l = some (ns, st) ∧ ∀ a v H', Same H H' → a ≠ sysModules → H' a = some (.lst [.str "made", .ref v]) → Ver C H' v (rk ns st) → Q (.ref a) H') ∨
    (i = 0 ∧ Bad1 K H y ∧ ∀ a H', Same H H' → a ≠ sysModules → H' a = some (.lst [.str "version", y]) → Q (.ref a) H') ∨
    (i = 1 ∧ Bad2 K H y ∧ ∀ a H', Same H H' → a ≠ sysModules → H' a = some (.lst [.str "count", y]) → Q (.ref a) H'))
theorem same_late {H H1 : Hp} {a : Addr} {o : HO} (s : Same H H1) (ha : H1 a = none) : Same H (upd H1 a o) := s.trans (same_new ha)
theorem ok_word (T : Tex K mg D) : FnOk P w K mg base CX0 10 D.a_word D.d_word P_word (spWord K D.a_Version) := by
  have G_Version_initX : FnOk P w K mg base (L2.CX P w) 6 D.a_Version_init D.d_Version_init P_Version_init (spInitX K D.a_Version D.a_BadVersion) := ok_Version_initX T
  have G_Version_atX : FnOk P w K mg base (L2.CX P w) 8 D.a_Version_at D.d_Version_at P_Version_at (spAtX K D.a_Version D.a_BadCount) := ok_Version_atX T
  refine T.word_F.ok S_word (fun vs H Q E h => ?_) (fun cdv A outer s H vs Q E hr h => ?_)
  · obtain ⟨i, y, rfl, _⟩ := h
    rfl
  · obtain ⟨i, y, rfl, h⟩ := h
    refine ⟨_, (pss_cons (ps_asg (pe_tup (pa_cons pe_non (pa_cons pe_non pa_nil))) (pg_tup (by rfl) (pgs_cons (pg_name (i := 2) S_word.nd rfl (Or.inl rfl)) (pgs_cons (pg_name (i := 3) S_word.nd rfl (Or.inl rfl)) pgs_nil))))
      (pss_cons (ps_try_asT (i := 4) rfl rfl rfl S_word.nd rfl rfl (ht_tup3 ⟨by rfl, by decide, .inl T.ParcelError_g⟩ ⟨by rfl, by decide, .inl T.ChoiceError_g⟩ ⟨by rfl, by decide, .inl T.AbsentError_g⟩) takes0 (fun W pn xe tkB poB => (pss_one (ps_if (pt_cmpR op_eq (pv 0) pe_int (nomark _)) (pss_one (ps_set (i := 3) S_word.nd rfl (Or.inl rfl) (pe_makeKS T.Version_mk G_Version_initX (hr.mono (by decide)) rfl T.Version_g T.Version_init_km (fun σ => passAt tkB σ) (pk_cons (pv 1) pk_nil)))) (pss_one (ps_set (i := 3) S_word.nd rfl (Or.inl rfl) (pe_cmethK (pe_glob (v := .ref D.a_Version) rfl T.Version_g rfl) T.Version_rd T.Version_at_c G_Version_atX T.Version_at_km (hr.mono (by decide)) (fun σ => passAt tkB σ) (pk_cons (pv 1) pk_nil))))))) (fun a oe cls d pn hz hf => (pss_one (ps_set (i := 2) S_word.nd rfl (Or.inl rfl) (pv 4)))))
      (pss_cons (ps_if (pt_cmpR op_isN (pv 2) pe_non (nomark _)) (pss_one (ps_ret (pe_lstN (pa_cons pe_str (pa_cons (pv 3) pa_nil))))) pss_nil)
      (pss_cons (ps_if (pt_val (pe_callB call_isEV (by rfl) T.b_isinstance (by decide +kernel) (pa_cons (pv 2) (pa_cons (pe_glob (v := .ref D.a_BadVersion) rfl T.BadVersion_g rfl) pa_nil)))) (pss_one (ps_ret (pe_lstN (pa_cons pe_str (pa_cons (pe_xfV (pv 2)) pa_nil))))) pss_nil)
      (pss_one (ps_ret (pe_ifExp (pt_val (pe_callB call_isEV (by rfl) T.b_isinstance (by decide +kernel) (pa_cons (pv 2) (pa_cons (pe_glob (v := .ref D.a_BadCount) rfl T.BadCount_g rfl) pa_nil)))) (pe_lstN (pa_cons pe_str (pa_cons (pe_xfV (pv 2)) pa_nil))) (pe_lst (pa_cons pe_str pa_nil))))))))), ?_⟩
    refine ⟨by show 2 ≤ sizeLine; decide, fun p0 hp0 => ⟨p0, _, rfl, .inl (.inl upd_same), rfl, _, _, rfl, _, _, rfl, rfl, ?_⟩⟩
    have s0 : Same H (upd H p0 (.tup [.non, .non])) := same_new hp0
    revert s0
    generalize upd H p0 (.tup [.non, .non]) = H0
    intro s0
    rcases h with ⟨rfl, l, ns, st, rfl, hl, hp, q⟩ | ⟨rfl, hy, q⟩ | ⟨rfl, hy, q⟩
    · refine ⟨_, rfl, rfl, _, rfl, ?_⟩
      rw [decide_eq_true rfl]
      refine iteT ⟨_, rfl, rfl, fun x dx hx hdx hne => ⟨x, dx, _, rfl, upd_same, .inl ⟨l, ns, st, rfl, hl, hp, fun H1 s1 => ⟨rfl, ?_⟩⟩⟩⟩
      have s2 := make_same (fs := [("_rank", .int (rk ns st : Nat))]) hx hdx s1
      have hv : Ver D.a_Version (upd H1 x (.ins D.a_Version dx [("_rank", .int (rk ns st : Nat))])) x (rk ns st) := ⟨dx, upd_same⟩
      revert s2 hv
      generalize upd H1 x (.ins D.a_Version dx [("_rank", .int (rk ns st : Nat))]) = H2
      intro s2 hv
      refine ⟨_, rfl, rfl, _, rfl, iteT ⟨_, rfl, by show 2 ≤ sizeLine; decide, fun l2 hl2 hn => ?_⟩⟩
      exact q l2 x _ ((s0.trans s2).trans (same_new hl2)) hn upd_same (hv.keep (same_new hl2))
    · refine ⟨_, rfl, rfl, _, rfl, ?_⟩
      rw [decide_eq_true rfl]
      refine iteT ⟨_, rfl, rfl, fun x dx hx hdx hne => ?_⟩
      have sX : Same H0 (upd (upd H0 dx (.own x)) x (.ins D.a_Version dx [])) := (same_new hdx).trans (same_new (by rw [upd_ne hne.symm]; exact hx))
      refine ⟨x, dx, _, rfl, upd_same, .inr ⟨(hy.keep s0).keep sX, fun d H1 s1' hd => ?_⟩⟩
      have s1 := (s0.trans sX).trans s1'
      refine ⟨true, exm_any3 (exm_sub T.ParcelError_nm T.BadVersion_ParcelError_s) (exm_sub T.ChoiceError_nm T.BadVersion_ChoiceError_s) (exm_sub T.AbsentError_nm T.BadVersion_AbsentError_s), fun _ e he => ?_, fun g => nomatch g⟩
      refine ⟨_, rfl, fun _ => ?_⟩
      have ned : d ≠ e := ne_of_none hd he
      have hE : (upd H1 e (ExK (.ref D.a_BadVersion) (some d) e)) e = some (ExK (.ref D.a_BadVersion) (some d) e) := upd_same
      have hd2 : (upd H1 e (ExK (.ref D.a_BadVersion) (some d) e)) d = some (.xd [("given", y)]) := by
        rw [upd_ne ned]
        exact hd
      have s2 : Same H (upd H1 e (ExK (.ref D.a_BadVersion) (some d) e)) := same_late s1 he
      revert hE hd2 s2
      generalize upd H1 e (ExK (.ref D.a_BadVersion) (some d) e) = H2
      intro hE hd2 s2
      refine ⟨_, rfl, rfl, _, rfl, iteF ?_⟩
      refine ⟨_, rfl, e, D.a_BadVersion, d, _, _, _, true, rfl, T.BadVersion_xa.e, hE, hd2, (fun _ h => h), kit_sub T.BadVersion_nm T.BadVersion_BadVersion_s, _, rfl, iteT ?_⟩
      refine ⟨_, rfl, e, d, D.a_BadVersion, _, y, rfl, T.BadVersion_xa.x, T.BadVersion_xf, hE, hd2, rfl, by show 2 ≤ sizeLine; decide, fun l hl hn => q l _ (s2.trans (same_new hl)) hn upd_same⟩
    · refine ⟨_, rfl, rfl, _, rfl, ?_⟩
      rw [decide_eq_false (by decide)]
      refine iteF ⟨rfl, _, rfl, rfl, y, rfl, hy.keep s0, fun d H1 s1' hd => ?_⟩
      have s1 := s0.trans s1'
      refine ⟨true, exm_any3 (exm_sub T.ParcelError_nm T.BadCount_ParcelError_s) (exm_sub T.ChoiceError_nm T.BadCount_ChoiceError_s) (exm_sub T.AbsentError_nm T.BadCount_AbsentError_s), fun _ e he => ?_, fun g => nomatch g⟩
      refine ⟨_, rfl, fun _ => ?_⟩
      have ned : d ≠ e := ne_of_none hd he
      have hE : (upd H1 e (ExK (.ref D.a_BadCount) (some d) e)) e = some (ExK (.ref D.a_BadCount) (some d) e) := upd_same
      have hd2 : (upd H1 e (ExK (.ref D.a_BadCount) (some d) e)) d = some (.xd [("given", y)]) := by
        rw [upd_ne ned]
        exact hd
      have s2 : Same H (upd H1 e (ExK (.ref D.a_BadCount) (some d) e)) := same_late s1 he
      revert hE hd2 s2
      generalize upd H1 e (ExK (.ref D.a_BadCount) (some d) e) = H2
      intro hE hd2 s2
      refine ⟨_, rfl, rfl, _, rfl, iteF ?_⟩
      refine ⟨_, rfl, e, D.a_BadCount, d, _, _, _, false, rfl, T.BadCount_xa.e, hE, hd2, (fun _ h => h), kit_sub T.BadVersion_nm T.BadCount_BadVersion_s, _, rfl, iteF ?_⟩
      refine ⟨_, rfl, e, D.a_BadCount, d, _, _, _, true, rfl, T.BadCount_xa.e, hE, hd2, (fun _ h => h), kit_sub T.BadCount_nm T.BadCount_BadCount_s, _, rfl, iteT ?_⟩
      refine ⟨_, rfl, e, d, D.a_BadCount, _, y, rfl, T.BadCount_xa.x, T.BadCount_xf, hE, hd2, rfl, by show 2 ≤ sizeLine; decide, fun l hl hn => q l _ (s2.trans (same_new hl)) hn upd_same⟩
end

/-! ## Shown data; is_of -/
section
variable {P : Program} {w : World} {K : PySem.W.Frag} {mg : Str → Option Value} {base : Heap} {D : Ad}
open TL SX
structure Rep (d : PyData) : Prop where
  a : d.showable = true
  b : d.hasDict = false
  c : d.depth ≤ 60
  d : d.shown.length ≤ sizeLine
structure Bd (k W : Nat) (d : PyData) : Prop where
  able : d.showable = true
  nod : d.hasDict = false
  dep : d.depth ≤ k
  leaf : d.leavesShort 60 = true
  wt : d.weight ≤ W
structure BdA (k W : Nat) (ds : List PyData) : Prop where
  able : PyData.showableAll ds = true
  nod : PyData.hasDictAll ds = false
  dep : PyData.depthAll ds ≤ k
  leaf : PyData.leavesShortAll 60 ds = true
  wt : PyData.weightAll ds ≤ W
theorem Bd.rep {k W : Nat} {d : PyData} (h : Bd k W d) (hk : k ≤ 60) (hW : W ≤ 200000) : Rep d := by
  refine ⟨h.able, h.nod, Nat.le_trans h.dep hk, ?_⟩
  have h2 := PyData.shown_le 60 (by decide) d h.leaf
  have h3 := h.wt
  have e : sizeLine = 16777216 := by decide
  omega
theorem bd_non : Bd 1 0 .none := ⟨rfl, rfl, by decide, rfl, by decide⟩
theorem bd_bl (b : Bool) : Bd 1 0 (.bool b) := ⟨rfl, rfl, by cases b <;> decide, rfl, by cases b <;> decide⟩
theorem bd_int {i : Int} (h : i.natAbs ≤ 10 ^ 40) : Bd 1 150 (.int i) := by
  have hlog : i.natAbs.log2 < 140 := by
    by_cases h0 : i.natAbs = 0
    · rw [h0]
      decide
    · refine (Nat.log2_lt h0).mpr (Nat.lt_of_le_of_lt h (by decide))
  refine ⟨?_, rfl, ?_, ?_, ?_⟩
  · simp only [PyData.showable, decide_eq_true_eq]
    omega
  · simp [PyData.depth]
  · simp only [PyData.leavesShort, decide_eq_true_eq]
    show (PySem.Str.ofString (toString i)).length ≤ 60
    rw [PySem.ofString_length]
    exact Nat.le_trans (PySem.int_text_length_le10 (k := 41) (by decide) (Nat.lt_of_le_of_lt h (by decide))) (by decide)
  · simp only [PyData.weight]
    split <;> omega
theorem bd_str {l : List Nat} (h : ∀ c ∈ l, c < 1000) : Bd 1 l.length (.str (S l)) := by
  refine ⟨rfl, rfl, by simp [PyData.depth], ?_, ?_⟩
  · simp only [PyData.leavesShort, List.all_eq_true, decide_eq_true_eq]
    intro c hc
    have : c < 1000 := h c (by simpa [S] using hc)
    exact Nat.lt_trans this (by decide)
  · simp [PyData.weight, S]
theorem bda_nil : BdA 0 0 [] := ⟨rfl, rfl, by simp [PyData.depthAll], rfl, by simp [PyData.weightAll]⟩
theorem bda_cons {k W V : Nat} {d : PyData} {ds : List PyData} (h : Bd k W d) (g : BdA k V ds) : BdA k (W + 1 + V) (d :: ds) := by
  refine ⟨?_, ?_, ?_, ?_, ?_⟩
  · simp only [PyData.showableAll, h.able, g.able, Bool.and_self]
  · simp only [PyData.hasDictAll, h.nod, g.nod, Bool.or_self]
  · have h1 := h.dep
    have h2 := g.dep
    simp only [PyData.depthAll]
    omega
  · simp only [PyData.leavesShortAll, h.leaf, g.leaf, Bool.and_self]
  · have h1 := h.wt
    have h2 := g.wt
    simp only [PyData.weightAll]
    omega
theorem bda_up {k k' W : Nat} {ds : List PyData} (h : BdA k W ds) (e : k ≤ k') : BdA k' W ds := ⟨h.able, h.nod, Nat.le_trans h.dep e, h.leaf, h.wt⟩
theorem bd_up {k k' W W' : Nat} {d : PyData} (h : Bd k W d) (e : k ≤ k') (f : W ≤ W') : Bd k' W' d := ⟨h.able, h.nod, Nat.le_trans h.dep e, h.leaf, Nat.le_trans h.wt f⟩
theorem bd_lst {k W : Nat} {ds : List PyData} (h : BdA k W ds) : Bd (k + 1) W (.list ds) := by
  refine ⟨by simp only [PyData.showable, h.able], by simp only [PyData.hasDict, h.nod], ?_, by simp only [PyData.leavesShort, h.leaf], by simp only [PyData.weight]; exact h.wt⟩
  have := h.dep
  simp only [PyData.depth]
  omega
theorem bd_tup {k W : Nat} {ds : List PyData} (h : BdA k W ds) : Bd (k + 1) W (.tuple ds) := by
  refine ⟨by simp only [PyData.showable, h.able], by simp only [PyData.hasDict, h.nod], ?_, by simp only [PyData.leavesShort, h.leaf], by simp only [PyData.weight]; exact h.wt⟩
  have := h.dep
  simp only [PyData.depth]
  omega
theorem bda_nil1 : BdA 1 0 [] := bda_up bda_nil (by decide)
def vD (ns : List Nat) : List PyData := ns.map fun (n : Nat) => PyData.int (n : Int)
theorem bda_ns : ∀ {ns : List Nat}, (∀ n ∈ ns, n < 1000) → BdA 1 (151 * ns.length) (vD ns)
  | [], _ => bda_nil1
  | n :: r, h => by
    have h1 := h n List.mem_cons_self
    have ih := bda_ns (ns := r) fun m hm => h m (List.mem_cons_of_mem _ hm)
    have := bda_cons (bd_int (i := (n : Int)) (by
      have : (1000 : Nat) ≤ 10 ^ 40 := by decide
      omega)) ih
    refine ⟨this.able, this.nod, this.dep, this.leaf, ?_⟩
    have hw := this.wt
    show PyData.weightAll (vD (n :: r)) ≤ _
    have e : vD (n :: r) = PyData.int (n : Int) :: vD r := rfl
    rw [e]
    simp only [List.length_cons]
    omega
theorem dps (K : PySem.W.Frag) (H : Hp) : ∀ ns : List Nat, DpAll K H (vN ns) (vD ns)
  | [] => .nil
  | n :: r => .cons (.int _) (dps K H r)
/-! ### ranks of parts -/
theorem n4_rk {fs : List Nat} {st : Nat} (h : Fig fs st) : n4 (rk fs st) = (rowL fs st).take 4 ∧ rk fs st % 3001 = st := by
  obtain ⟨a, b, c, d, ha, hb, hc, hd, e1, e2⟩ := h.six
  have hs := h.st
  rw [e1, e2]
  refine ⟨?_, by omega⟩
  have h1 : ((((a * 1000 + b) * 1000 + c) * 1000 + d) * 3001 + st) / 3001 = ((a * 1000 + b) * 1000 + c) * 1000 + d := by omega
  have h2 : (((a * 1000 + b) * 1000 + c) * 1000 + d) / 1000000000 = a := by omega
  have h3 : (((a * 1000 + b) * 1000 + c) * 1000 + d) / 1000000 % 1000 = b := by omega
  have h4 : (((a * 1000 + b) * 1000 + c) * 1000 + d) / 1000 % 1000 = c := by omega
  have h5 : (((a * 1000 + b) * 1000 + c) * 1000 + d) % 1000 = d := by omega
  unfold n4
  rw [h1, h2, h3, h4, h5]
  rfl
theorem trim_rk {fs : List Nat} {st : Nat} (h : Fig fs st) : trim (n4 (rk fs st)) = trim fs := by
  rw [(n4_rk h).1]
  have h0 := h.ne
  have h4 := h.le
  clear h
  match fs, h0, h4 with
  | [a], _, _ => rfl
  | [a, b], _, _ =>
    show trim [a, b, 0, 0] = trim [a, b]
    by_cases hb : b = 0
    · subst hb
      rfl
    · simp [trim, many, hb]
  | [a, b, c], _, _ =>
    show trim [a, b, c, 0] = trim [a, b, c]
    by_cases hc : c = 0
    · subst hc
      by_cases hb : b = 0
      · subst hb
        rfl
      · simp [trim, many, hb]
    · simp [trim, many, hc]
  | [a, b, c, d], _, _ => rfl
  | a :: b :: c :: d :: e :: r, _, h4 => exact absurd h4 (by simp only [List.length_cons]; omega)
theorem tA_rk {fs : List Nat} {st : Nat} (h : Fig fs st) : tA (rk fs st) = wrt (trim fs) st := by
  unfold tA
  rw [trim_rk h, (n4_rk h).2]
end

/-! ## is_of -/
section
variable {P : Program} {w : World} {K : PySem.W.Frag} {mg : Str → Option Value} {base : Heap} {D : Ad}
open TL SX
def spIs (C : Addr) : Sp := fun vs H Q _ => ∃ (v p : Addr) (fs : List Nat) (st : Nat), vs = [.ref v, .ref p] ∧ Ver C H v (rk fs st) ∧ Pt H p fs st ∧ ∀ H', Same H H' → Q (.bl true) H'
theorem ok_is_of (T : Tex K mg D) : FnG P w K mg base 6 D.a_is_of D.d_is_of P_is_of (spIs D.a_Version) := by
  have G_row : FnOk P w K mg base CX0 1 D.a_row D.d_row P_row spRow := ok_row T
  have G_rank : FnOk P w K mg base CX0 2 D.a_rank D.d_rank P_rank spRkL := ok_rank T
  have G_short : FnOk P w K mg base CX0 2 D.a_short D.d_short P_short spShort := ok_short T
  have G_Version_numbers : FnOk P w K mg base CX0 2 D.a_Version_numbers D.d_Version_numbers P_Version_numbers (spNums D.a_Version) := ok_Version_numbers T
  have G_Version_is_early : FnOk P w K mg base CX0 1 D.a_Version_is_early D.d_Version_is_early P_Version_is_early (spEarly D.a_Version) := ok_Version_early T
  have G_Version_rank : FnOk P w K mg base CX0 1 D.a_Version_rank D.d_Version_rank P_Version_rank (spRk D.a_Version) := ok_Version_rank T
  have G_Version_str : FnOk P w K mg base CX0 3 D.a_Version_str D.d_Version_str P_Version_str (spStr D.a_Version) := ok_Version_str T
  refine fnG_of T.is_of_F S_is_of (fun vs H Q E h => ?_) (fun cdv A outer s H vs Q hg hr h => ?_)
  · obtain ⟨v, p, fs, st, rfl, _⟩ := h
    rfl
  · obtain ⟨v, p, fs, st, rfl, hv, hp, q⟩ := h
    have hf := hp.fig
    have hfl := hf.last
    obtain ⟨en, es⟩ := n4_rk hf
    have et := tA_rk hf
    have hn4 := n4_lt (r := rk fs st) hfl
    generalize er : rk fs st = r at *
    refine ⟨_, (pss_cons (ps_if (PW.pt (pw_or (pt_cmpR op_ne (pe_callB (call_repr hg hr.units) (by rfl) T.b_repr (by decide +kernel) (pa_cons (pe_prop (pv 0) T.Version_cl T.Version_numbers_p G_Version_numbers (hr.mono (by decide)) T.Version_numbers_b .nil pass0 rfl) pa_nil)) (pe_callB (call_repr hg hr.units) (by rfl) T.b_repr (by decide +kernel) (pa_cons (pe_slice sl_tupA (pe_call G_row (hr.mono (by decide)) (by rfl) T.row_g T.row_F.kp T.row_b .nil pass0 (pa_cons (pv 1) pa_nil)) po_none (po_some pe_int)) pa_nil)) (nomark _)) (pw_or1 (pt_cmpR op_ne (pe_callTy (call_strD T.Version_str_at T.Version_str_fn (G_Version_str.raw T.Version_str_b .nil) (hr.mono (by decide)) pass0) (by rfl) T.b_str (by decide +kernel) (pa_cons (pv 0) pa_nil)) (pe_call G_short (hr.mono (by decide)) (by rfl) T.short_g T.short_F.kp T.short_b .nil pass0 (pa_cons (pv 1) pa_nil)) (nomark _))))) (pss_one (ps_ret pe_bl)) pss_nil)
      (pss_one (ps_ret (pe_and (pe_cmpR op_eq (pe_callB (call_repr hg hr.units) (by rfl) T.b_repr (by decide +kernel) (pa_cons (pe_prop (pv 0) T.Version_cl T.Version_is_early_p G_Version_is_early (hr.mono (by decide)) T.Version_is_early_b .nil pass0 rfl) pa_nil)) (pe_callB (call_repr hg hr.units) (by rfl) T.b_repr (by decide +kernel) (pa_cons (pe_cmpR op_ne (pe_ix ix_tup (pv 1) pe_int (fun _ _ => rfl)) pe_str (nomark _)) pa_nil)) (nomark _)) (pe_one (pe_cmpR op_eq (pe_callB (call_repr hg hr.units) (by rfl) T.b_repr (by decide +kernel) (pa_cons (pe_prop (pv 0) T.Version_cl T.Version_rank_p G_Version_rank (hr.mono (by decide)) T.Version_rank_b .nil pass0 rfl) pa_nil)) (pe_callB (call_repr hg hr.units) (by rfl) T.b_repr (by decide +kernel) (pa_cons (pe_call G_rank (hr.mono (by decide)) (by rfl) T.rank_g T.rank_F.kp T.rank_b .nil pass0 (pa_cons (pv 1) pa_nil)) pa_nil)) (nomark _))))))), ?_⟩
    have R : Rep (.tuple (vD (n4 r))) := (bd_tup (bda_ns hn4)).rep (by decide) (by show 151 * 4 ≤ 200000; decide)
    obtain ⟨dv, gv⟩ := id hv
    refine ⟨_, rfl, v, dv, _, rfl, gv, v, r, rfl, hv, fun t H1 s1 ht => ⟨_, _, rfl, Dp.tup (sqT_of ht) (dps K H1 _), R.a, R.b, R.c, R.d, ?_⟩⟩
    refine ⟨_, rfl, p, fs, st, rfl, hp.keep s1, fun t2 H2 s2 ht2 => ?_⟩
    have hlen : (vN (rowL fs st)).length = 6 := by
      obtain ⟨a, b, c, d, _, _, _, _, e1, _⟩ := hf.six
      rw [e1]
      rfl
    have ecut : cutV (vN (rowL fs st)) none (some 4) = vN (n4 r) := by
      obtain ⟨a, b, c, d, _, _, _, _, e1, _⟩ := hf.six
      rw [en, e1]
      rfl
    have gv2 := s2 _ _ (s1 _ _ gv)
    refine ⟨_, rfl, t2, _, rfl, sqT_of ht2, fun hh => ?_, fun _ t3 ht3 => ?_⟩
    · exfalso
      have h2 := hh.2
      rw [hlen] at h2
      exact absurd h2 (by decide)
    rw [ecut]
    have s3 := (s1.trans s2).trans (same_new (o := .tup (vN (n4 r))) ht3)
    have g3 : (upd H2 t3 (.tup (vN (n4 r)))) t3 = some (.tup (vN (n4 r))) := upd_same
    revert s3 g3
    generalize upd H2 t3 (.tup (vN (n4 r))) = H3
    intro s3 g3
    refine ⟨_, _, rfl, Dp.tup (sqT_of g3) (dps K H3 _), R.a, R.b, R.c, R.d, rfl, _, rfl, ?_⟩
    rw [decide_eq_true rfl]
    refine iteF ?_
    have gv3 := s3 _ _ gv
    refine ⟨_, rfl, v, dv, _, rfl, gv3, v, r, rfl, ⟨dv, gv3⟩, hfl, fun H4 s4 => ⟨_, rfl, _, rfl, p, fs, st, rfl, hp.keep (s3.trans s4), fun H5 s5 => ⟨rfl, _, rfl, ?_⟩⟩⟩
    rw [et, decide_eq_true rfl]
    refine iteF ?_
    have s6 := (s3.trans s4).trans s5
    have gv5 := s6 _ _ gv
    have R1 : ∀ b : Bool, Rep (.bool b) := fun b => (bd_bl b).rep (by decide) (by decide)
    have R2 : Rep (.int (r : Int)) := (bd_int (by
      have : (3000999999999999 : Nat) ≤ 10 ^ 40 := by decide
      have : r ≤ 3000999999999999 := hfl
      omega)).rep (by decide) (by decide)
    obtain ⟨tq, h1, h2, _⟩ := id (hp.keep s6)
    refine ⟨_, rfl, v, dv, _, rfl, gv5, v, r, rfl, ⟨dv, gv5⟩, _, _, rfl, .bl _, (R1 _).a, (R1 _).b, (R1 _).c, (R1 _).d, ?_⟩
    refine ⟨_, rfl, p, _, _, _, rfl, rfl, sqT_of h1, rfl, rfl, _, _, rfl, .bl _, (R1 _).a, (R1 _).b, (R1 _).c, (R1 _).d, rfl, ?_⟩
    have e1 : (!decide (V.str (S (sw (st / 1000))) = V.str (("" : String) : Str))) = !decide (r % 3001 = 3000) := by
      have := hf.st
      rw [sw_ne (by omega), es]
      congr 1
      exact decide_eq_decide.mpr (by omega)
    rw [e1, decide_eq_true rfl]
    refine ⟨true, rfl, iteT ?_⟩
    refine ⟨_, rfl, v, dv, _, rfl, gv5, v, r, rfl, ⟨dv, gv5⟩, _, _, rfl, .int _, R2.a, R2.b, R2.c, R2.d, ?_⟩
    refine ⟨_, rfl, p, fs, st, rfl, hp.keep s6, fun H6 s7 => ⟨_, _, rfl, .int _, ?_⟩⟩
    rw [er]
    refine ⟨R2.a, R2.b, R2.c, R2.d, rfl, ?_⟩
    rw [decide_eq_true rfl]
    exact q _ (s6.trans s7)
end

/-! ## The reading judged -/
section
variable {P : Program} {w : World} {K : PySem.W.Frag} {mg : Str → Option Value} {base : Heap} {D : Ad}
open TL SX
theorem sqL_keep {H1 H2 : Hp} {b : Addr} {xs : List V} (e : Same H1 H2) (h : SqL K H1 b xs) : SqL K H2 b xs := by
  rcases h with (h | ⟨o, h⟩) | h
  · exact .inl (.inl (e _ _ h))
  · exact .inl (.inr ⟨o, e _ _ h⟩)
  · exact .inr h
mutual
theorem Dp.keep {H H' : Hp} (s : Same H H') : ∀ {x : V} {d : PyData}, Dp K H x d → Dp K H' x d
  | _, _, .non => .non
  | _, _, .bl b => .bl b
  | _, _, .int i => .int i
  | _, _, .str x => .str x
  | _, _, .lst h r => .lst (sqL_keep s h) (DpAll.keep s r)
  | _, _, .tup h r => .tup (sqT_keep s h) (DpAll.keep s r)
theorem DpAll.keep {H H' : Hp} (s : Same H H') : ∀ {xs : List V} {ds : List PyData}, DpAll K H xs ds → DpAll K H' xs ds
  | _, _, .nil => .nil
  | _, _, .cons a b => .cons (Dp.keep s a) (DpAll.keep s b)
end
/-- an object that is shown -/
def Shw (K : PySem.W.Frag) (H : Hp) (y : V) : Prop := (∃ d, Dp K H y d ∧ Rep (.list [.str "version", d])) ∨ ∃ dd, y = .ref dd ∧ H dd = some (.dK [])
theorem Shw.keep {H H' : Hp} {y : V} (h : Shw K H y) (s : Same H H') : Shw K H' y := by
  rcases h with ⟨d, a, b⟩ | ⟨dd, a, b⟩
  · exact .inl ⟨d, Dp.keep s a, b⟩
  · exact .inr ⟨dd, a, s _ _ b⟩
theorem bd_ver : Bd 1 7 (.str "version") := ⟨rfl, rfl, by decide, by decide +kernel, by decide +kernel⟩
theorem bd_cnt : Bd 1 7 (.str "count") := ⟨rfl, rfl, by decide, by decide +kernel, by decide +kernel⟩
theorem rep_ver {d : PyData} (h : Bd 10 30000 d) : Rep (.list [.str "version", d]) := (bd_lst (bda_cons (bd_up bd_ver (by decide) (Nat.le_refl _)) (bda_cons h (bda_up bda_nil (by decide))))).rep (by decide) (by decide)
theorem rep_cnt {d : PyData} (h : Bd 10 30000 d) : Rep (.list [.str "count", d]) := (bd_lst (bda_cons (bd_up bd_cnt (by decide) (Nat.le_refl _)) (bda_cons h (bda_up bda_nil (by decide))))).rep (by decide) (by decide)
def spRR (K : PySem.W.Frag) : Sp := fun vs H Q _ => ∃ y : V, vs = [y] ∧ ((∃ l : List Nat, y = .str (S l) ∧ l.length ≤ 30000 ∧ ∀ c ∈ l, c < 1000) ∨ (NoTxt K H y ∧ Shw K H y)) ∧ ∀ H', Same H H' → Q (.bl true) H'
theorem ok_read_right (T : Tex K mg D) : FnG P w K mg base 11 D.a_read_right D.d_read_right P_read_right (spRR K) := by
  have G_word : FnOk P w K mg base CX0 10 D.a_word D.d_word P_word (spWord K D.a_Version) := ok_word T
  have G_read : FnOk P w K mg base CX0 2 D.a_read D.d_read P_read (spRead K) := ok_read T
  have G_is_of : FnG P w K mg base 6 D.a_is_of D.d_is_of P_is_of (spIs D.a_Version) := ok_is_of T
  refine fnG_of T.read_right_F S_read_right (fun vs H Q E h => ?_) (fun cdv A outer s H vs Q hg hr h => ?_)
  · obtain ⟨y, rfl, _⟩ := h
    rfl
  · obtain ⟨y, rfl, hy, q⟩ := h
    refine ⟨_, (pss_cons (ps_par (i := 1) (j := 2) (by rfl) S_read_right.nd rfl rfl (by decide) rfl rfl (pa_cons (pe_call G_word (hr.mono (by decide)) (by rfl) T.word_g T.word_F.kp T.word_b .nil pass0 (pa_cons pe_int (pa_cons (pv 0) pa_nil))) (pa_cons (pe_call G_read (hr.mono (by decide)) (by rfl) T.read_g T.read_F.kp T.read_b .nil pass0 (pa_cons (pv 0) pa_nil)) pa_nil)) (by rfl))
      (pss_cons (ps_if (pt_cmpR (op_eqNil hr.units) (pv 2) (pe_lst pa_nil) (nomark _)) (pss_one (ps_ret (pe_cmpR op_eq (pe_callB (callR_or (call_repr hg hr.units) (call_reprD hg hr.units)) (by rfl) T.b_repr (by decide +kernel) (pa_cons (pv 1) pa_nil)) (pe_callB (callR_or (call_repr hg hr.units) (call_reprD hg hr.units)) (by rfl) T.b_repr (by decide +kernel) (pa_cons (pe_lstN (pa_cons pe_str (pa_cons (pv 0) pa_nil))) pa_nil)) (nomark _)))) pss_nil)
      (pss_one (ps_ret (pe_and (pe_cmpR op_eq (pe_ix ix_list (pv 1) pe_int (fun _ _ => rfl)) pe_str (nomark _)) (pe_one (pe_callG G_is_of hg (hr.mono (by decide)) (by rfl) T.is_of_g T.is_of_F.kp T.is_of_b (pa_cons (pe_ix ix_list (pv 1) pe_int (fun _ _ => rfl)) (pa_cons (pe_ix ix_list (pv 2) pe_int (fun _ _ => rfl)) pa_nil))))))))), ?_⟩
    rcases hy with ⟨l, rfl, hl, hc⟩ | ⟨hn, hs⟩
    · cases hp : pT l with
      | some x =>
        obtain ⟨ns, st⟩ := x
        refine ⟨_, rfl, 0, _, rfl, .inl ⟨rfl, l, ns, st, rfl, by omega, hp, fun a v H1 s1 na ha hv => ?_⟩⟩
        refine ⟨_, rfl, _, rfl, .inl ⟨l, rfl, by omega, fun e => (by rw [hp] at e; cases e), fun ns' st' e r p H2 s2 hr2 hpt => ?_⟩⟩
        rw [hp] at e
        cases e
        refine ⟨_, _, rfl, ?_⟩
        have s3 := s1.trans s2
        refine ⟨_, rfl, by show 0 ≤ sizeLine; decide, fun n1 hn1 => ⟨r, n1, _, rfl, rfl, SqL.of ((same_new hn1) _ _ hr2), SqL.of upd_same, _, rfl, iteF ?_⟩⟩
        have s4 := s2.trans (same_new (o := .lst []) hn1)
        have ha4 := s4 _ _ ha
        have hr4 := (same_new (o := .lst []) hn1) _ _ hr2
        refine ⟨_, rfl, a, _, _, _, rfl, rfl, SqL.of ha4, rfl, rfl, ?_⟩
        rw [decide_eq_true rfl]
        refine ⟨true, rfl, iteT ?_⟩
        exact ⟨_, rfl, a, _, _, _, rfl, rfl, SqL.of ha4, rfl, _, rfl, r, _, _, _, rfl, rfl, SqL.of hr4, rfl, v, p, ns, st, rfl, hv.keep s4, hpt.keep (same_new hn1), fun H' s' => q _ ((s1.trans s4).trans s')⟩
      | none =>
        refine ⟨_, rfl, 0, _, rfl, .inr (.inl ⟨rfl, .inl ⟨l, rfl, by omega, hp⟩, fun a H1 s1 na ha => ?_⟩)⟩
        refine ⟨_, rfl, _, rfl, .inl ⟨l, rfl, by omega, fun _ r H2 s2 hr2 => ?_, fun ns' st' e => (by rw [hp] at e; cases e)⟩⟩
        refine ⟨_, _, rfl, ?_⟩
        refine ⟨_, rfl, by show 0 ≤ sizeLine; decide, fun n1 hn1 => ⟨r, n1, _, rfl, rfl, SqL.of ((same_new hn1) _ _ hr2), SqL.of upd_same, _, rfl, iteT ?_⟩⟩
        have s4 := s2.trans (same_new (o := .lst []) hn1)
        have ha4 := s4 _ _ ha
        have R : Rep (.list [.str "version", .str (S l)]) := rep_ver (bd_up (bd_str hc) (by decide) (by omega))
        refine ⟨_, rfl, .inl ⟨_, _, rfl, .lst (SqL.of ha4) (.cons (.str _) (.cons (.str _) .nil)), R.a, R.b, R.c, R.d, ?_⟩⟩
        refine ⟨_, rfl, by show 2 ≤ sizeLine; decide, fun n2 hn2 nn2 => .inl ⟨_, _, rfl, .lst (SqL.of upd_same) (.cons (.str _) (.cons (.str _) .nil)), R.a, R.b, R.c, R.d, rfl, ?_⟩⟩
        rw [decide_eq_true rfl]
        exact q _ ((s1.trans s4).trans (same_new hn2))
    · refine ⟨_, rfl, 0, _, rfl, .inr (.inl ⟨rfl, .inr hn, fun a H1 s1 na ha => ?_⟩)⟩
      refine ⟨_, rfl, _, rfl, .inr ⟨hn.keep s1, fun r H2 s2 hr2 => ?_⟩⟩
      refine ⟨_, _, rfl, ?_⟩
      refine ⟨_, rfl, by show 0 ≤ sizeLine; decide, fun n1 hn1 => ⟨r, n1, _, rfl, rfl, SqL.of ((same_new hn1) _ _ hr2), SqL.of upd_same, _, rfl, iteT ?_⟩⟩
      have s4 := s2.trans (same_new (o := .lst []) hn1)
      have ha4 := s4 _ _ ha
      have hs4 := hs.keep (s1.trans s4)
      rcases hs4 with ⟨d, hd, R⟩ | ⟨dd, rfl, hd⟩
      · refine ⟨_, rfl, .inl ⟨_, _, rfl, .lst (SqL.of ha4) (.cons (.str _) (.cons hd .nil)), R.a, R.b, R.c, R.d, ?_⟩⟩
        refine ⟨_, rfl, by show 2 ≤ sizeLine; decide, fun n2 hn2 nn2 => .inl ⟨_, _, rfl, .lst (SqL.of upd_same) (.cons (.str _) (.cons (Dp.keep (same_new hn2) hd) .nil)), R.a, R.b, R.c, R.d, rfl, ?_⟩⟩
        rw [decide_eq_true rfl]
        exact q _ ((s1.trans s4).trans (same_new hn2))
      · refine ⟨_, rfl, .inr ⟨a, dd, rfl, na, ha4, hd, ?_⟩⟩
        refine ⟨_, rfl, by show 2 ≤ sizeLine; decide, fun n2 hn2 nn2 => .inr ⟨n2, dd, rfl, nn2, upd_same, (same_new hn2) _ _ hd, rfl, ?_⟩⟩
        rw [decide_eq_true rfl]
        exact q _ ((s1.trans s4).trans (same_new hn2))
end

/-! ## Version.of: the law's word -/
section
variable {P : Program} {w : World} {K : PySem.W.Frag} {mg : Str → Option Value} {base : Heap} {D : Ad}
open TL SX
def OfX (K : PySem.W.Frag) (C B : Addr) : Sp := fun vs H Q E => ∃ ws rest, vs = ws ++ rest ∧ ws.length = (["cls"] : List Str).length ∧ rest.length ≤ sizeLine ∧ ∀ p, H p = none → spOf K C B (ws ++ [V.ref p]) (upd H p (.tup rest)) Q E
def okN (ns : List Nat) : List (V × Bool) := ns.map fun (n : Nat) => (V.int (n : Int), true)
def spOW (K : PySem.W.Frag) (C : Addr) : Sp := fun vs H Q _ => ∃ (a : Addr) (zs : List (V × Bool)), vs = [.ref a] ∧ H a = some (.lst (zs.map (·.1))) ∧ zs.length ≤ 5 ∧ (∀ z ∈ zs, WTo K H z) ∧
  ((∃ ns : List Nat, zs = okN ns ∧ ns ≠ [] ∧ ns.length ≤ 4 ∧ (∀ n ∈ ns, n < 1000) ∧ ∀ l v H', Same H H' → H' l = some (.lst [.str "made", .ref v]) → Ver C H' v (rk ns 3000) → Q (.ref l) H') ∨
    (¬ (zs.all (·.2) = true ∧ 1 ≤ zs.length ∧ zs.length ≤ 4) ∧ ∀ l p H', Same H H' → H' l = some (.lst [.str "version", .ref p]) → H' p = some (.tup (zs.map (·.1))) → Q (.ref l) H'))
theorem ok_of_word (T : Tex K mg D) : FnOk P w K mg base CX0 12 D.a_of_word D.d_of_word P_of_word (spOW K D.a_Version) := by
  have G_Version_ofX : FnR P w K mg base (L2.CX P w) 10 D.a_Version_of (OfX K D.a_Version D.a_BadVersion) := ok_Version_of T
  refine T.of_word_F.ok S_of_word (fun vs H Q E h => ?_) (fun cdv A outer s H vs Q E hr h => ?_)
  · obtain ⟨a, zs, rfl, _⟩ := h
    rfl
  · obtain ⟨a, zs, rfl, ha, h5, hz, h⟩ := h
    refine ⟨_, (pss_cons (ps_asg (pe_tup (pa_cons pe_non (pa_cons pe_non pa_nil))) (pg_tup (by rfl) (pgs_cons (pg_name (i := 1) S_of_word.nd rfl (Or.inl rfl)) (pgs_cons (pg_name (i := 2) S_of_word.nd rfl (Or.inl rfl)) pgs_nil))))
      (pss_cons (ps_try_asT (i := 3) rfl rfl rfl S_of_word.nd rfl rfl (ht_one ⟨by rfl, by decide, .inl T.BadVersion_g⟩) takes0 (fun W pn xe tkB poB => (pss_one (ps_if (pt_cmpR op_lt (pe_callB (call_len_seqK (KK := K) rfl) (by rfl) T.b_len (by decide +kernel) (pa_cons (pv 0) pa_nil)) pe_int (nomark _)) (pss_one (ps_set (i := 2) S_of_word.nd rfl (Or.inl rfl) (pe_ifExp (pt_cmpR (op_eqNilK (KK := K) rfl hr.units) (pv 0) (pe_lst pa_nil) (nomark _)) (pe_cmeth0S (pe_glob (v := .ref D.a_Version) rfl T.Version_g rfl) T.Version_rd T.Version_of_c G_Version_ofX (hr.mono (by decide)) (fun σ => passAt tkB σ)) (pe_cmethS (pe_glob (v := .ref D.a_Version) rfl T.Version_g rfl) T.Version_rd T.Version_of_c G_Version_ofX (hr.mono (by decide)) (fun σ => passAt tkB σ) (pa_cons (pe_ix (ix_listK (KK := K) rfl) (pv 0) pe_int (fun _ _ => rfl)) pa_nil))))) (pss_one (ps_if (pt_cmpR op_eq (pe_callB (call_len_seqK (KK := K) rfl) (by rfl) T.b_len (by decide +kernel) (pa_cons (pv 0) pa_nil)) pe_int (nomark _)) (pss_one (ps_set (i := 2) S_of_word.nd rfl (Or.inl rfl) (pe_cmethS (pe_glob (v := .ref D.a_Version) rfl T.Version_g rfl) T.Version_rd T.Version_of_c G_Version_ofX (hr.mono (by decide)) (fun σ => passAt tkB σ) (pa_cons (pe_ix (ix_listK (KK := K) rfl) (pv 0) pe_int (fun _ _ => rfl)) (pa_cons (pe_ix (ix_listK (KK := K) rfl) (pv 0) pe_int (fun _ _ => rfl)) pa_nil))))) (pss_one (ps_if (pt_cmpR op_eq (pe_callB (call_len_seqK (KK := K) rfl) (by rfl) T.b_len (by decide +kernel) (pa_cons (pv 0) pa_nil)) pe_int (nomark _)) (pss_one (ps_set (i := 2) S_of_word.nd rfl (Or.inl rfl) (pe_cmethS (pe_glob (v := .ref D.a_Version) rfl T.Version_g rfl) T.Version_rd T.Version_of_c G_Version_ofX (hr.mono (by decide)) (fun σ => passAt tkB σ) (pa_cons (pe_ix (ix_listK (KK := K) rfl) (pv 0) pe_int (fun _ _ => rfl)) (pa_cons (pe_ix (ix_listK (KK := K) rfl) (pv 0) pe_int (fun _ _ => rfl)) (pa_cons (pe_ix (ix_listK (KK := K) rfl) (pv 0) pe_int (fun _ _ => rfl)) pa_nil)))))) (pss_one (ps_if (pt_cmpR op_eq (pe_callB (call_len_seqK (KK := K) rfl) (by rfl) T.b_len (by decide +kernel) (pa_cons (pv 0) pa_nil)) pe_int (nomark _)) (pss_one (ps_set (i := 2) S_of_word.nd rfl (Or.inl rfl) (pe_cmethS (pe_glob (v := .ref D.a_Version) rfl T.Version_g rfl) T.Version_rd T.Version_of_c G_Version_ofX (hr.mono (by decide)) (fun σ => passAt tkB σ) (pa_cons (pe_ix (ix_listK (KK := K) rfl) (pv 0) pe_int (fun _ _ => rfl)) (pa_cons (pe_ix (ix_listK (KK := K) rfl) (pv 0) pe_int (fun _ _ => rfl)) (pa_cons (pe_ix (ix_listK (KK := K) rfl) (pv 0) pe_int (fun _ _ => rfl)) (pa_cons (pe_ix (ix_listK (KK := K) rfl) (pv 0) pe_int (fun _ _ => rfl)) pa_nil))))))) (pss_one (ps_set (i := 2) S_of_word.nd rfl (Or.inl rfl) (pe_cmethS (pe_glob (v := .ref D.a_Version) rfl T.Version_g rfl) T.Version_rd T.Version_of_c G_Version_ofX (hr.mono (by decide)) (fun σ => passAt tkB σ) (pa_cons (pe_ix (ix_listK (KK := K) rfl) (pv 0) pe_int (fun _ _ => rfl)) (pa_cons (pe_ix (ix_listK (KK := K) rfl) (pv 0) pe_int (fun _ _ => rfl)) (pa_cons (pe_ix (ix_listK (KK := K) rfl) (pv 0) pe_int (fun _ _ => rfl)) (pa_cons (pe_ix (ix_listK (KK := K) rfl) (pv 0) pe_int (fun _ _ => rfl)) (pa_cons (pe_ix (ix_listK (KK := K) rfl) (pv 0) pe_int (fun _ _ => rfl)) pa_nil))))))))))))))))) (fun a oe cls d pn hz hf => (pss_one (ps_set (i := 1) S_of_word.nd rfl (Or.inl rfl) (pv 3)))))
      (pss_one (ps_ret (pe_ifExp (pt_cmpR op_isN (pv 1) pe_non (nomark _)) (pe_lst (pa_cons pe_str (pa_cons (pv 2) pa_nil))) (pe_lst (pa_cons pe_str (pa_cons (pe_xfV (pv 1)) pa_nil)))))))), ?_⟩
    refine ⟨by show 2 ≤ sizeLine; decide, fun p0 hp0 => ⟨p0, _, rfl, .inl (.inl upd_same), rfl, _, _, rfl, _, _, rfl, rfl, ?_⟩⟩
    have s0 : Same H (upd H p0 (.tup [.non, .non])) := same_new hp0
    revert s0
    generalize upd H p0 (.tup [.non, .non]) = H0
    intro s0
    have ha0 := s0 _ _ ha
    have go : ∀ (H1 : Hp) (Q' : VK) (E' : XK), Same H0 H1 → (∀ ns : List Nat, (∀ l v H', Same H H' → H' l = some (.lst [.str "made", .ref v]) → Ver D.a_Version H' v (rk ns 3000) → Q (.ref l) H') → ∀ b H', Same H H' → Ver D.a_Version H' b (rk ns 3000) → Q' (.ref b) H') →
        ((∀ l p H', Same H H' → H' l = some (.lst [.str "version", .ref p]) → H' p = some (.tup (zs.map (·.1))) → Q (.ref l) H') → ∀ d p H', Same H H' → H' p = some (.tup (zs.map (·.1))) → H' d = some (.xd [("given", .ref p)]) → E' (.ref D.a_BadVersion) (some d) H') →
        OfX K D.a_Version D.a_BadVersion (.ref D.a_Version :: zs.map (·.1)) H1 Q' E' := by
      intro H1 Q' E' s1 q1 q2
      refine ⟨[.ref D.a_Version], zs.map (·.1), rfl, rfl, by rw [List.length_map]; exact szl (by omega), fun p hp => ?_⟩
      have s2 : Same H (upd H1 p (.tup (zs.map (·.1)))) := (s0.trans s1).trans (same_new hp)
      have g2 : (upd H1 p (.tup (zs.map (·.1)))) p = some (.tup (zs.map (·.1))) := upd_same
      refine ⟨p, zs, rfl, g2, by omega, fun z hz1 => (hz z hz1).keep s2, ?_⟩
      rcases h with ⟨ns, e, h0, h4, hb, q⟩ | ⟨hn, q⟩
      · exact .inl ⟨ns, e, h0, h4, hb, fun b H' s' hv => q1 ns q b H' (s2.trans s') hv⟩
      · exact .inr ⟨hn, fun d H' s' hd => q2 q d p H' (s2.trans s') (s' _ _ g2) hd⟩
    match zs, h5, ha0, go with
    | [], _, ha0, go =>
      refine ⟨_, rfl, a, _, rfl, .inl (SqL.of ha0), _, _, rfl, rfl, _, rfl, iteT ?_⟩
      refine ⟨_, rfl, by show 0 ≤ sizeLine; decide, fun n1 hn1 => ⟨a, n1, _, rfl, rfl, SqL.of ((same_new hn1) _ _ ha0), SqL.of upd_same, _, rfl, iteT ⟨rfl, ?_⟩⟩⟩
      refine go _ _ _ (same_new hn1) (fun ns q b H' s' hv => ?_) (fun q d p H' s' hp hd => ?_)
      · refine ⟨_, rfl, rfl, _, rfl, iteT ⟨_, rfl, by show 2 ≤ sizeLine; decide, fun l hl => ?_⟩⟩
        exact q l b _ (s'.trans (same_new hl)) upd_same (hv.keep (same_new hl))
      · refine ⟨true, exm_sub T.BadVersion_nm T.BadVersion_BadVersion_s, fun _ e he => ?_, fun g => nomatch g⟩
        refine ⟨_, rfl, fun _ => ?_⟩
        have ned : d ≠ e := ne_of_none hd he
        have hE : (upd H' e (ExK (.ref D.a_BadVersion) (some d) e)) e = some (ExK (.ref D.a_BadVersion) (some d) e) := upd_same
        have hd2 : (upd H' e (ExK (.ref D.a_BadVersion) (some d) e)) d = some (.xd [("given", .ref p)]) := by
          rw [upd_ne ned]
          exact hd
        have s2 : Same H (upd H' e (ExK (.ref D.a_BadVersion) (some d) e)) := same_late s' he
        have hp2 := (same_new (o := ExK (.ref D.a_BadVersion) (some d) e) he) _ _ hp
        revert hE hd2 s2 hp2
        generalize upd H' e (ExK (.ref D.a_BadVersion) (some d) e) = H2
        intro hE hd2 s2 hp2
        refine ⟨_, rfl, rfl, _, rfl, iteF ?_⟩
        exact ⟨_, rfl, e, d, D.a_BadVersion, _, _, rfl, T.BadVersion_xa.x, T.BadVersion_xf, hE, hd2, rfl, by show 2 ≤ sizeLine; decide, fun l hl => q l p _ (s2.trans (same_new hl)) upd_same ((same_new hl) _ _ hp2)⟩
    | [z0], _, ha0, go =>
      refine ⟨_, rfl, a, _, rfl, .inl (SqL.of ha0), _, _, rfl, rfl, _, rfl, iteT ?_⟩
      refine ⟨_, rfl, by show 0 ≤ sizeLine; decide, fun n1 hn1 => ⟨a, n1, _, rfl, rfl, SqL.of ((same_new hn1) _ _ ha0), SqL.of upd_same, _, rfl, iteF ?_⟩⟩
      have ha0 := (same_new (o := .lst []) hn1) _ _ ha0
      refine ⟨rfl, _, rfl, a, _, _, _, rfl, rfl, SqL.of ha0, rfl, ?_⟩
      refine go _ _ _ (same_new hn1) (fun ns q b H' s' hv => ?_) (fun q d p H' s' hp hd => ?_)
      · refine ⟨_, rfl, rfl, _, rfl, iteT ⟨_, rfl, by show 2 ≤ sizeLine; decide, fun l hl => ?_⟩⟩
        exact q l b _ (s'.trans (same_new hl)) upd_same (hv.keep (same_new hl))
      · refine ⟨true, exm_sub T.BadVersion_nm T.BadVersion_BadVersion_s, fun _ e he => ?_, fun g => nomatch g⟩
        refine ⟨_, rfl, fun _ => ?_⟩
        have ned : d ≠ e := ne_of_none hd he
        have hE : (upd H' e (ExK (.ref D.a_BadVersion) (some d) e)) e = some (ExK (.ref D.a_BadVersion) (some d) e) := upd_same
        have hd2 : (upd H' e (ExK (.ref D.a_BadVersion) (some d) e)) d = some (.xd [("given", .ref p)]) := by
          rw [upd_ne ned]
          exact hd
        have s2 : Same H (upd H' e (ExK (.ref D.a_BadVersion) (some d) e)) := same_late s' he
        have hp2 := (same_new (o := ExK (.ref D.a_BadVersion) (some d) e) he) _ _ hp
        revert hE hd2 s2 hp2
        generalize upd H' e (ExK (.ref D.a_BadVersion) (some d) e) = H2
        intro hE hd2 s2 hp2
        refine ⟨_, rfl, rfl, _, rfl, iteF ?_⟩
        exact ⟨_, rfl, e, d, D.a_BadVersion, _, _, rfl, T.BadVersion_xa.x, T.BadVersion_xf, hE, hd2, rfl, by show 2 ≤ sizeLine; decide, fun l hl => q l p _ (s2.trans (same_new hl)) upd_same ((same_new hl) _ _ hp2)⟩
    | [z0, z1], _, ha0, go =>
      refine ⟨_, rfl, a, _, rfl, .inl (SqL.of ha0), _, _, rfl, rfl, _, rfl, iteF ?_⟩
      refine ⟨_, rfl, a, _, rfl, .inl (SqL.of ha0), rfl, _, rfl, iteT ?_⟩
      refine ⟨rfl, _, rfl, a, _, _, _, rfl, rfl, SqL.of ha0, rfl, _, rfl, a, _, _, _, rfl, rfl, SqL.of ha0, rfl, ?_⟩
      refine go _ _ _ (Same.refl _) (fun ns q b H' s' hv => ?_) (fun q d p H' s' hp hd => ?_)
      · refine ⟨_, rfl, rfl, _, rfl, iteT ⟨_, rfl, by show 2 ≤ sizeLine; decide, fun l hl => ?_⟩⟩
        exact q l b _ (s'.trans (same_new hl)) upd_same (hv.keep (same_new hl))
      · refine ⟨true, exm_sub T.BadVersion_nm T.BadVersion_BadVersion_s, fun _ e he => ?_, fun g => nomatch g⟩
        refine ⟨_, rfl, fun _ => ?_⟩
        have ned : d ≠ e := ne_of_none hd he
        have hE : (upd H' e (ExK (.ref D.a_BadVersion) (some d) e)) e = some (ExK (.ref D.a_BadVersion) (some d) e) := upd_same
        have hd2 : (upd H' e (ExK (.ref D.a_BadVersion) (some d) e)) d = some (.xd [("given", .ref p)]) := by
          rw [upd_ne ned]
          exact hd
        have s2 : Same H (upd H' e (ExK (.ref D.a_BadVersion) (some d) e)) := same_late s' he
        have hp2 := (same_new (o := ExK (.ref D.a_BadVersion) (some d) e) he) _ _ hp
        revert hE hd2 s2 hp2
        generalize upd H' e (ExK (.ref D.a_BadVersion) (some d) e) = H2
        intro hE hd2 s2 hp2
        refine ⟨_, rfl, rfl, _, rfl, iteF ?_⟩
        exact ⟨_, rfl, e, d, D.a_BadVersion, _, _, rfl, T.BadVersion_xa.x, T.BadVersion_xf, hE, hd2, rfl, by show 2 ≤ sizeLine; decide, fun l hl => q l p _ (s2.trans (same_new hl)) upd_same ((same_new hl) _ _ hp2)⟩
    | [z0, z1, z2], _, ha0, go =>
      refine ⟨_, rfl, a, _, rfl, .inl (SqL.of ha0), _, _, rfl, rfl, _, rfl, iteF ?_⟩
      refine ⟨_, rfl, a, _, rfl, .inl (SqL.of ha0), rfl, _, rfl, iteF ?_⟩
      refine ⟨_, rfl, a, _, rfl, .inl (SqL.of ha0), rfl, _, rfl, iteT ?_⟩
      refine ⟨rfl, _, rfl, a, _, _, _, rfl, rfl, SqL.of ha0, rfl, _, rfl, a, _, _, _, rfl, rfl, SqL.of ha0, rfl, _, rfl, a, _, _, _, rfl, rfl, SqL.of ha0, rfl, ?_⟩
      refine go _ _ _ (Same.refl _) (fun ns q b H' s' hv => ?_) (fun q d p H' s' hp hd => ?_)
      · refine ⟨_, rfl, rfl, _, rfl, iteT ⟨_, rfl, by show 2 ≤ sizeLine; decide, fun l hl => ?_⟩⟩
        exact q l b _ (s'.trans (same_new hl)) upd_same (hv.keep (same_new hl))
      · refine ⟨true, exm_sub T.BadVersion_nm T.BadVersion_BadVersion_s, fun _ e he => ?_, fun g => nomatch g⟩
        refine ⟨_, rfl, fun _ => ?_⟩
        have ned : d ≠ e := ne_of_none hd he
        have hE : (upd H' e (ExK (.ref D.a_BadVersion) (some d) e)) e = some (ExK (.ref D.a_BadVersion) (some d) e) := upd_same
        have hd2 : (upd H' e (ExK (.ref D.a_BadVersion) (some d) e)) d = some (.xd [("given", .ref p)]) := by
          rw [upd_ne ned]
          exact hd
        have s2 : Same H (upd H' e (ExK (.ref D.a_BadVersion) (some d) e)) := same_late s' he
        have hp2 := (same_new (o := ExK (.ref D.a_BadVersion) (some d) e) he) _ _ hp
        revert hE hd2 s2 hp2
        generalize upd H' e (ExK (.ref D.a_BadVersion) (some d) e) = H2
        intro hE hd2 s2 hp2
        refine ⟨_, rfl, rfl, _, rfl, iteF ?_⟩
        exact ⟨_, rfl, e, d, D.a_BadVersion, _, _, rfl, T.BadVersion_xa.x, T.BadVersion_xf, hE, hd2, rfl, by show 2 ≤ sizeLine; decide, fun l hl => q l p _ (s2.trans (same_new hl)) upd_same ((same_new hl) _ _ hp2)⟩
    | [z0, z1, z2, z3], _, ha0, go =>
      refine ⟨_, rfl, a, _, rfl, .inl (SqL.of ha0), _, _, rfl, rfl, _, rfl, iteF ?_⟩
      refine ⟨_, rfl, a, _, rfl, .inl (SqL.of ha0), rfl, _, rfl, iteF ?_⟩
      refine ⟨_, rfl, a, _, rfl, .inl (SqL.of ha0), rfl, _, rfl, iteF ?_⟩
      refine ⟨_, rfl, a, _, rfl, .inl (SqL.of ha0), rfl, _, rfl, iteT ?_⟩
      refine ⟨rfl, _, rfl, a, _, _, _, rfl, rfl, SqL.of ha0, rfl, _, rfl, a, _, _, _, rfl, rfl, SqL.of ha0, rfl, _, rfl, a, _, _, _, rfl, rfl, SqL.of ha0, rfl, _, rfl, a, _, _, _, rfl, rfl, SqL.of ha0, rfl, ?_⟩
      refine go _ _ _ (Same.refl _) (fun ns q b H' s' hv => ?_) (fun q d p H' s' hp hd => ?_)
      · refine ⟨_, rfl, rfl, _, rfl, iteT ⟨_, rfl, by show 2 ≤ sizeLine; decide, fun l hl => ?_⟩⟩
        exact q l b _ (s'.trans (same_new hl)) upd_same (hv.keep (same_new hl))
      · refine ⟨true, exm_sub T.BadVersion_nm T.BadVersion_BadVersion_s, fun _ e he => ?_, fun g => nomatch g⟩
        refine ⟨_, rfl, fun _ => ?_⟩
        have ned : d ≠ e := ne_of_none hd he
        have hE : (upd H' e (ExK (.ref D.a_BadVersion) (some d) e)) e = some (ExK (.ref D.a_BadVersion) (some d) e) := upd_same
        have hd2 : (upd H' e (ExK (.ref D.a_BadVersion) (some d) e)) d = some (.xd [("given", .ref p)]) := by
          rw [upd_ne ned]
          exact hd
        have s2 : Same H (upd H' e (ExK (.ref D.a_BadVersion) (some d) e)) := same_late s' he
        have hp2 := (same_new (o := ExK (.ref D.a_BadVersion) (some d) e) he) _ _ hp
        revert hE hd2 s2 hp2
        generalize upd H' e (ExK (.ref D.a_BadVersion) (some d) e) = H2
        intro hE hd2 s2 hp2
        refine ⟨_, rfl, rfl, _, rfl, iteF ?_⟩
        exact ⟨_, rfl, e, d, D.a_BadVersion, _, _, rfl, T.BadVersion_xa.x, T.BadVersion_xf, hE, hd2, rfl, by show 2 ≤ sizeLine; decide, fun l hl => q l p _ (s2.trans (same_new hl)) upd_same ((same_new hl) _ _ hp2)⟩
    | [z0, z1, z2, z3, z4], _, ha0, go =>
      refine ⟨_, rfl, a, _, rfl, .inl (SqL.of ha0), _, _, rfl, rfl, _, rfl, iteF ?_⟩
      refine ⟨_, rfl, a, _, rfl, .inl (SqL.of ha0), rfl, _, rfl, iteF ?_⟩
      refine ⟨_, rfl, a, _, rfl, .inl (SqL.of ha0), rfl, _, rfl, iteF ?_⟩
      refine ⟨_, rfl, a, _, rfl, .inl (SqL.of ha0), rfl, _, rfl, iteF ?_⟩
      refine ⟨rfl, _, rfl, a, _, _, _, rfl, rfl, SqL.of ha0, rfl, _, rfl, a, _, _, _, rfl, rfl, SqL.of ha0, rfl, _, rfl, a, _, _, _, rfl, rfl, SqL.of ha0, rfl, _, rfl, a, _, _, _, rfl, rfl, SqL.of ha0, rfl, _, rfl, a, _, _, _, rfl, rfl, SqL.of ha0, rfl, ?_⟩
      refine go _ _ _ (Same.refl _) (fun ns q b H' s' hv => ?_) (fun q d p H' s' hp hd => ?_)
      · refine ⟨_, rfl, rfl, _, rfl, iteT ⟨_, rfl, by show 2 ≤ sizeLine; decide, fun l hl => ?_⟩⟩
        exact q l b _ (s'.trans (same_new hl)) upd_same (hv.keep (same_new hl))
      · refine ⟨true, exm_sub T.BadVersion_nm T.BadVersion_BadVersion_s, fun _ e he => ?_, fun g => nomatch g⟩
        refine ⟨_, rfl, fun _ => ?_⟩
        have ned : d ≠ e := ne_of_none hd he
        have hE : (upd H' e (ExK (.ref D.a_BadVersion) (some d) e)) e = some (ExK (.ref D.a_BadVersion) (some d) e) := upd_same
        have hd2 : (upd H' e (ExK (.ref D.a_BadVersion) (some d) e)) d = some (.xd [("given", .ref p)]) := by
          rw [upd_ne ned]
          exact hd
        have s2 : Same H (upd H' e (ExK (.ref D.a_BadVersion) (some d) e)) := same_late s' he
        have hp2 := (same_new (o := ExK (.ref D.a_BadVersion) (some d) e) he) _ _ hp
        revert hE hd2 s2 hp2
        generalize upd H' e (ExK (.ref D.a_BadVersion) (some d) e) = H2
        intro hE hd2 s2 hp2
        refine ⟨_, rfl, rfl, _, rfl, iteF ?_⟩
        exact ⟨_, rfl, e, d, D.a_BadVersion, _, _, rfl, T.BadVersion_xa.x, T.BadVersion_xf, hE, hd2, rfl, by show 2 ≤ sizeLine; decide, fun l hl => q l p _ (s2.trans (same_new hl)) upd_same ((same_new hl) _ _ hp2)⟩
    | z0 :: z1 :: z2 :: z3 :: z4 :: z5 :: r, h5, _, _ => exact absurd h5 (by simp only [List.length_cons]; omega)
end

/-! ## Version.of judged -/
section
variable {P : Program} {w : World} {K : PySem.W.Frag} {mg : Str → Option Value} {base : Heap} {D : Ad}
open TL SX
theorem cut_lo {xs : List V} {m : Nat} : cutV xs none (some ((m : Nat) : Int)) = xs.take m := by
  unfold cutV
  rw [HT.sIx_nat, show HT.sIx xs.length 0 none = 0 from rfl, List.drop_zero, Nat.sub_zero]
  by_cases h : m ≤ xs.length
  · rw [Nat.min_eq_left h]
  · rw [Nat.min_eq_right (by omega), List.take_length, List.take_of_length_le (by omega)]
theorem cut_hi {xs : List V} {m : Nat} (h : m ≤ xs.length) : cutV xs (some ((m : Nat) : Int)) none = xs.drop m := by
  unfold cutV
  rw [HT.sIx_nat, HT.sIx_none, Nat.min_eq_left h]
  exact List.take_of_length_le (by rw [List.length_drop]; omega)
theorem dpAll_app {H : Hp} : ∀ {xs ys : List V} {ds es : List PyData}, DpAll K H xs ds → DpAll K H ys es → DpAll K H (xs ++ ys) (ds ++ es)
  | _, _, _, _, .nil, h => h
  | _, _, _, _, .cons a r, h => .cons a (dpAll_app r h)
theorem bda_app {k W U : Nat} : ∀ {ds es : List PyData}, BdA k W ds → BdA k U es → BdA k (W + U) (ds ++ es)
  | [], es, _, h => ⟨h.able, h.nod, h.dep, h.leaf, by have := h.wt; show PyData.weightAll es ≤ _; omega⟩
  | d :: ds, es, g, h => by
    have a := g.able
    have b := g.nod
    have c := g.dep
    have l := g.leaf
    have v := g.wt
    simp only [PyData.showableAll, PyData.hasDictAll, PyData.depthAll, PyData.leavesShortAll, PyData.weightAll, Bool.and_eq_true, Bool.or_eq_false_iff] at a b c l v
    have ih := bda_app (k := k) (W := W - (PyData.weight d + 1)) (U := U) (ds := ds) (es := es) ⟨a.2, b.2, by omega, l.2, by omega⟩ h
    rw [List.cons_append]
    refine ⟨?_, ?_, ?_, ?_, ?_⟩
    · simp only [PyData.showableAll, a.1, ih.able, Bool.and_self]
    · simp only [PyData.hasDictAll, b.1, ih.nod, Bool.or_self]
    · have := ih.dep
      simp only [PyData.depthAll]
      omega
    · simp only [PyData.leavesShortAll, l.1, ih.leaf, Bool.and_self]
    · have := ih.wt
      simp only [PyData.weightAll]
      omega
theorem wto_ok {H : Hp} {ns : List Nat} (hb : ∀ n ∈ ns, n < 1000) : ∀ z ∈ okN ns, WTo K H z := fun z hz => by
  obtain ⟨n, hn, rfl⟩ := List.mem_map.mp hz
  have := hb n hn
  refine .inl ⟨(n : Int), rfl, ?_⟩
  rw [decide_eq_true (by omega), decide_eq_true (by omega)]
  rfl
theorem okN_fst (ns : List Nat) : (okN ns).map (·.1) = vN ns := by
  unfold okN vN
  rw [List.map_map]
  rfl
theorem okN_all (ns : List Nat) : (okN ns).all (·.2) = true := by
  unfold okN
  rw [List.all_map]
  exact List.all_eq_true.mpr fun _ _ => rfl
theorem seven {H : Hp} {t : Addr} {z : V} (ht : H t = some (.tup [.int 1])) (mz : z ∈ [V.int 1000, .int (0 - 1), .bl true, .non, .str "1", .ref t, .int ((10 : Int) ^ ((40 : Int).toNat))]) : WTo K H (z, false) ∧ ∃ dz, Dp K H z dz ∧ Bd 3 2000 dz := by
  simp only [List.mem_cons, List.not_mem_nil, or_false] at mz
  rcases mz with rfl | rfl | rfl | rfl | rfl | rfl | rfl
  · exact ⟨.inl ⟨_, rfl, rfl⟩, _, .int _, bd_up (bd_int (by decide)) (by decide) (by decide)⟩
  · exact ⟨.inl ⟨_, rfl, rfl⟩, _, .int _, bd_up (bd_int (by decide)) (by decide) (by decide)⟩
  · exact ⟨.inr ⟨⟨"bool", by simp, .base (.bl _)⟩, rfl⟩, _, .bl _, bd_up (bd_bl _) (by decide) (by decide)⟩
  · exact ⟨.inr ⟨⟨"NoneType", by simp, .base .non⟩, rfl⟩, _, .non, bd_up bd_non (by decide) (by decide)⟩
  · exact ⟨.inr ⟨⟨"str", by simp, .base (.str _)⟩, rfl⟩, _, .str _, ⟨rfl, rfl, by decide, by decide +kernel, by decide +kernel⟩⟩
  · exact ⟨.inr ⟨⟨"tuple", by simp, .base (.tup ht)⟩, rfl⟩, _, .tup (sqT_of ht) (.cons (.int 1) .nil), bd_up (bd_tup (bda_cons (bd_int (by decide)) bda_nil1)) (by decide) (by decide)⟩
  · exact ⟨.inl ⟨_, rfl, by decide⟩, _, .int _, bd_up (bd_int (by decide)) (by decide) (by decide)⟩
def spOR : Sp := fun vs H Q _ => ∃ (d c a : Addr) (n : Nat) (ns : List Nat), vs = [.ref d, .ref a] ∧ Dr H d c n ∧ n ≤ 10 ^ 9 ∧ H a = some (.lst (vN ns)) ∧ ns ≠ [] ∧ ns.length ≤ 4 ∧ (∀ n ∈ ns, n < 1000) ∧ ∀ H', Dr H' d c (n + 10) → But d H H' → Q (.bl true) H'
theorem ok_of_right (T : Tex K mg D) : FnG P w K mg base 13 D.a_of_right D.d_of_right P_of_right spOR := by
  have G_next : FnOk P w K mg base CX0 2 D.a_next D.d_next P_next spNext := ok_next T
  have G_of_word : FnOk P w K mg base CX0 12 D.a_of_word D.d_of_word P_of_word (spOW K D.a_Version) := ok_of_word T
  have G_is_of : FnG P w K mg base 6 D.a_is_of D.d_is_of P_is_of (spIs D.a_Version) := ok_is_of T
  refine fnG_of T.of_right_F S_of_right (fun vs H Q E h => ?_) (fun cdv A outer s H vs Q hg hr h => ?_)
  · obtain ⟨d, c, a, n, ns, rfl, _⟩ := h
    rfl
  · obtain ⟨d, c, a, n, ns, rfl, hd, hn, ha, h0, h4, hb, q⟩ := h
    refine ⟨_, (pss_cons (ps_set (i := 2) S_of_right.nd rfl (Or.inl rfl) (pe_call G_of_word (hr.mono (by decide)) (by rfl) T.of_word_g T.of_word_F.kp T.of_word_b .nil pass0 (pa_cons (pv 1) pa_nil)))
      (pss_cons (ps_if (PW.pt (pw_or (pt_cmpR op_ne (pe_ix ix_list (pv 2) pe_int (fun _ _ => rfl)) pe_str (nomark _)) (pw_or1 (pt_not (pt_val (pe_callG G_is_of hg (hr.mono (by decide)) (by rfl) T.is_of_g T.is_of_F.kp T.is_of_b (pa_cons (pe_ix ix_list (pv 2) pe_int (fun _ _ => rfl)) (pa_cons (pe_tup (pa_cons (pv 1) (pa_cons pe_str (pa_cons pe_int pa_nil)))) pa_nil)))))))) (pss_one (ps_ret pe_bl)) pss_nil)
      (pss_cons (ps_par (i := 3) (j := 4) (by rfl) S_of_right.nd rfl rfl (by decide) rfl rfl (pa_cons (pe_ix ix_list (pe_lst (pa_cons pe_int (pa_cons (pe_op op_sub pe_int pe_int) (pa_cons pe_bl (pa_cons pe_non (pa_cons pe_str (pa_cons (pe_tup (pa_cons pe_int pa_nil)) (pa_cons (pe_op op_pow pe_int pe_int) pa_nil)))))))) (pe_call G_next (hr.mono (by decide)) (by rfl) T.next_g T.next_F.kp T.next_b .nil pass0 (pa_cons (pv 0) (pa_cons pe_int pa_nil))) (fun _ _ => rfl)) (pa_cons (pe_call G_next (hr.mono (by decide)) (by rfl) T.next_g T.next_F.kp T.next_b .nil pass0 (pa_cons (pv 0) (pa_cons (pe_callB call_len_seq (by rfl) T.b_len (by decide +kernel) (pa_cons (pv 1) pa_nil)) pa_nil))) pa_nil)) (by rfl))
      (pss_cons (ps_set (i := 5) S_of_right.nd rfl (Or.inl rfl) (pe_op op_cat (pe_op op_cat (pe_slice sl_list (pv 1) po_none (po_some (pv 4))) (pe_lst (pa_cons (pv 3) pa_nil))) (pe_slice sl_list (pv 1) (po_some (pe_op op_add (pv 4) pe_int)) po_none)))
      (pss_cons (ps_if (PW.pt (pw_or (pt_cmpR op_ne (pe_callB (call_repr hg hr.units) (by rfl) T.b_repr (by decide +kernel) (pa_cons (pe_call G_of_word (hr.mono (by decide)) (by rfl) T.of_word_g T.of_word_F.kp T.of_word_b .nil pass0 (pa_cons (pv 5) pa_nil)) pa_nil)) (pe_callB (call_repr hg hr.units) (by rfl) T.b_repr (by decide +kernel) (pa_cons (pe_lst (pa_cons pe_str (pa_cons (pe_callTy call_tuple_of (by rfl) T.b_tuple (by decide +kernel) (pa_cons (pv 5) pa_nil)) pa_nil))) pa_nil)) (nomark _)) (pw_or1 (pt_cmpR (op_neD hr.units) (pe_call G_of_word (hr.mono (by decide)) (by rfl) T.of_word_g T.of_word_F.kp T.of_word_b .nil pass0 (pa_cons (pe_lst pa_nil) pa_nil)) (pe_lst (pa_cons pe_str (pa_cons (pe_tup pa_nil) pa_nil))) (nomark _))))) (pss_one (ps_ret pe_bl)) pss_nil)
      (pss_one (ps_ret (pe_cmpR (op_eqD hr.units) (pe_call G_of_word (hr.mono (by decide)) (by rfl) T.of_word_g T.of_word_F.kp T.of_word_b .nil pass0 (pa_cons (pe_lst (pa_cons pe_int (pa_cons pe_int (pa_cons pe_int (pa_cons pe_int (pa_cons pe_int pa_nil)))))) pa_nil)) (pe_lst (pa_cons pe_str (pa_cons (pe_tup (pa_cons pe_int (pa_cons pe_int (pa_cons pe_int (pa_cons pe_int (pa_cons pe_int pa_nil)))))) pa_nil))) (nomark _))))))))), ?_⟩
    have hn1 : 1 ≤ ns.length := List.length_pos_iff.mpr h0
    refine ⟨_, rfl, a, okN ns, rfl, by rw [okN_fst]; exact ha, by unfold okN; rw [List.length_map]; omega, wto_ok hb, .inl ⟨ns, rfl, h0, h4, hb, fun l1 v H1 s1 hl1 hv => ?_⟩⟩
    refine ⟨_, rfl, l1, _, _, _, rfl, rfl, SqL.of hl1, rfl, rfl, _, rfl, ?_⟩
    rw [decide_eq_true rfl]
    refine iteF ⟨_, rfl, l1, _, _, _, rfl, rfl, SqL.of hl1, rfl, _, rfl, by show 3 ≤ sizeLine; decide, fun p hp => ?_⟩
    have sp := same_new (o := .tup [V.ref a, .str "", .int 0]) hp
    refine ⟨v, p, ns, 3000, rfl, hv.keep sp, pt_of (j := 3) (m := 0) upd_same (sp _ _ (s1 _ _ ha)) h0 h4 hb (by decide) (by decide) (fun _ => rfl), fun H2 s2 => ⟨true, rfl, iteF ?_⟩⟩
    have s02 : Same H H2 := (s1.trans sp).trans s2
    have hd2 := hd.keep s02
    have ha2 := s02 _ _ ha
    clear sp s1 hl1 hv hp
    refine ⟨_, _, rfl, rfl, by show 1 ≤ sizeLine; decide, fun t ht => ⟨_, _, rfl, rfl, ⟨by decide, by decide, by decide⟩, by show 7 ≤ sizeLine; decide, fun l hl => ?_⟩⟩
    have nt1 : t ≠ d := fun e => by
      obtain ⟨o, ho⟩ := hd2.dict
      rw [e, ho] at ht
      cases ht
    have st := same_new (o := .tup [V.int 1]) ht
    have sl := same_new (o := .lst [V.int 1000, .int (0 - 1), .bl true, .non, .str "1", .ref t, .int ((10 : Int) ^ ((40 : Int).toNat))]) hl
    have dA := (hd2.new (o := .tup [V.int 1]) ht)
    have ndl := dA.ne_new hl
    have nda : d ≠ a := fun e => by
      obtain ⟨o, ho⟩ := hd2.dict
      rw [e, ha2] at ho
      cases ho
    have dB := dA.new (o := .lst [V.int 1000, .int (0 - 1), .bl true, .non, .str "1", .ref t, .int ((10 : Int) ^ ((40 : Int).toNat))]) hl
    have ht2 := sl _ _ (upd_same (H := H2) (a := t) (o := .tup [V.int 1]))
    have hl2 := upd_same (H := upd H2 t (.tup [V.int 1])) (a := l) (o := .lst [V.int 1000, .int (0 - 1), .bl true, .non, .str "1", .ref t, .int ((10 : Int) ^ ((40 : Int).toNat))])
    have ha3 := sl _ _ (st _ _ ha2)
    have b0 : But d H (upd (upd H2 t (.tup [V.int 1])) l (.lst [V.int 1000, .int (0 - 1), .bl true, .non, .str "1", .ref t, .int ((10 : Int) ^ ((40 : Int).toNat))])) := .of_same ((s02.trans st).trans sl)
    clear st sl dA hd2 ha2 s02 ht hl hd ha
    revert dB ht2 hl2 ha3 b0
    generalize (upd (upd H2 t (.tup [V.int 1])) l (.lst [V.int 1000, .int (0 - 1), .bl true, .non, .str "1", .ref t, .int ((10 : Int) ^ ((40 : Int).toNat))])) = H3
    intro dB ht2 hl2 ha3 b0
    refine ⟨_, rfl, d, c, 7, _, rfl, dB, by omega, by decide, by decide, fun v1 H4 v10 v11 d4 b4 => ?_⟩
    have hl4 := b4 _ _ hl2 ndl.symm
    have ht4 := b4 _ _ ht2 nt1
    have ha4 := b4 _ _ ha3 nda.symm
    obtain ⟨z, hz, mz⟩ := at_in (xs := [V.int 1000, .int (0 - 1), .bl true, .non, .str "1", .ref t, .int ((10 : Int) ^ ((40 : Int).toNat))]) v10 v11
    refine ⟨l, _, _, _, rfl, rfl, SqL.of hl4, hz, ?_⟩
    have nl : ((vN ns).length : Int) = (ns.length : Int) := by rw [vN_len]
    refine ⟨_, rfl, _, rfl, a, _, rfl, .inl (SqL.of ha4), d, c, _, _, rfl, d4, by omega, by rw [nl]; omega, by rw [nl]; omega, fun v2 H5 v20 v21 d5 b5 => ?_⟩
    rw [nl] at v21
    have ht5 := b5 _ _ ht4 nt1
    have ha5 := b5 _ _ ha4 nda.symm
    have b05 := (b0.trans b4).trans b5
    obtain ⟨m, rfl⟩ := Int.eq_ofNat_of_zero_le v20
    have hm : m < ns.length := by omega
    refine ⟨_, _, rfl, ?_⟩
    obtain ⟨wz, dz, hdz, bz⟩ := seven ht5 mz
    -- the bent figures
    refine ⟨_, rfl, _, rfl, _, rfl, a, _, rfl, SqL.of ha5, fun p1 hp1 => ?_⟩
    rw [cut_lo]
    have s1 := same_new (o := .lst ((vN ns).take m)) hp1
    have e1 := upd_same (H := H5) (a := p1) (o := .lst ((vN ns).take m))
    have l1' : ((vN ns).take m).length ≤ 4 := by rw [List.length_take, vN_len]; omega
    refine ⟨_, rfl, by show 1 ≤ sizeLine; decide, fun p2 hp2 => ?_⟩
    have s2 := same_new (o := .lst [z]) hp2
    refine ⟨p1, p2, _, _, rfl, rfl, s2 _ _ e1, upd_same, szl (by simp only [List.length_cons, List.length_nil]; omega), fun p3 hp3 => ?_⟩
    have s3 := same_new (o := .lst ((vN ns).take m ++ [z])) hp3
    have e3 := upd_same (H := upd (upd H5 p1 (.lst ((vN ns).take m))) p2 (.lst [z])) (a := p3) (o := .lst ((vN ns).take m ++ [z]))
    have s13 := (s1.trans s2).trans s3
    have ha6 := s13 _ _ ha5
    clear s1 s2 s3 e1 hp1 hp2 hp3
    revert s13 e3 ha6
    generalize upd (upd (upd H5 p1 (.lst ((vN ns).take m))) p2 (.lst [z])) p3 (.lst ((vN ns).take m ++ [z])) = H6
    intro e3 s13 ha6
    refine ⟨_, rfl, _, rfl, _, _, rfl, rfl, _, rfl, a, _, rfl, SqL.of ha6, fun p4 hp4 => ?_⟩
    rw [show ((m : Int) + 1) = ((m + 1 : Nat) : Int) from rfl, cut_hi (by rw [vN_len]; omega)]
    have s4 := same_new (o := .lst ((vN ns).drop (m + 1))) hp4
    have l4' : ((vN ns).drop (m + 1)).length ≤ 4 := by rw [List.length_drop, vN_len]; omega
    refine ⟨p3, p4, _, _, rfl, rfl, s4 _ _ e3, upd_same, szl (by simp only [List.length_append, List.length_cons, List.length_nil]; omega), fun p5 hp5 => ?_⟩
    have s5 := same_new (o := .lst ((vN ns).take m ++ [z] ++ (vN ns).drop (m + 1))) hp5
    have e5 := upd_same (H := upd H6 p4 (.lst ((vN ns).drop (m + 1)))) (a := p5) (o := .lst ((vN ns).take m ++ [z] ++ (vN ns).drop (m + 1)))
    have s55 : Same H5 _ := (s13.trans s4).trans s5
    clear s4 s5 hp4 hp5 e3 ha6 s13
    revert s55 e5
    generalize upd (upd H6 p4 (.lst ((vN ns).drop (m + 1)))) p5 (.lst ((vN ns).take m ++ [z] ++ (vN ns).drop (m + 1))) = H7
    intro e5 s57
    have ev : (vN ns).take m ++ [z] ++ (vN ns).drop (m + 1) = (okN (ns.take m) ++ [(z, false)] ++ okN (ns.drop (m + 1))).map (·.1) := by
      rw [List.map_append, List.map_append, okN_fst, okN_fst]
      unfold vN
      rw [List.map_take, List.map_drop]
      rfl
    have hbt : ∀ n ∈ ns.take m, n < 1000 := fun n hn => hb n (List.mem_of_mem_take hn)
    have hbd : ∀ n ∈ ns.drop (m + 1), n < 1000 := fun n hn => hb n (List.mem_of_mem_drop hn)
    have dps7 : ∀ H', Same H7 H' → DpAll K H' ((okN (ns.take m) ++ [(z, false)] ++ okN (ns.drop (m + 1))).map (·.1)) (vD (ns.take m) ++ [dz] ++ vD (ns.drop (m + 1))) := fun H' s' => by
      rw [List.map_append, List.map_append, okN_fst, okN_fst]
      exact dpAll_app (dpAll_app (dps K H' _) (.cons (Dp.keep (s57.trans s') hdz) .nil)) (dps K H' _)
    have R : Rep (.list [.str "version", .tuple (vD (ns.take m) ++ [dz] ++ vD (ns.drop (m + 1)))]) := by
      refine rep_ver (bd_up (bd_tup (bda_app (bda_app (bda_up (bda_ns hbt) (by decide)) (bda_cons bz (bda_up bda_nil (by decide)))) (bda_up (bda_ns hbd) (by decide)))) (by decide) ?_)
      rw [List.length_take, List.length_drop]
      omega
    rw [ev] at e5
    have hzl : (okN (ns.take m) ++ [(z, false)] ++ okN (ns.drop (m + 1))).length ≤ 5 := by
      unfold okN
      simp only [List.length_append, List.length_map, List.length_cons, List.length_nil, List.length_take, List.length_drop]
      omega
    have hzw : ∀ y ∈ okN (ns.take m) ++ [(z, false)] ++ okN (ns.drop (m + 1)), WTo K H7 y := fun y hy => by
      rcases List.mem_append.mp hy with hy | hy
      · rcases List.mem_append.mp hy with hy | hy
        · exact wto_ok hbt y hy
        · rw [List.mem_singleton.mp hy]
          exact wz.keep s57
      · exact wto_ok hbd y hy
    have hza : (okN (ns.take m) ++ [(z, false)] ++ okN (ns.drop (m + 1))).all (·.2) = false := by
      rw [List.all_append, List.all_append]
      show (_ && (false && true) && _) = false
      rw [Bool.false_and, Bool.and_false, Bool.false_and]
    have d7 := d5.keep s57
    have b07 := b05.trans (.of_same s57)
    generalize okN (ns.take m) ++ [(z, false)] ++ okN (ns.drop (m + 1)) = zs at *
    generalize vD (ns.take m) ++ [dz] ++ vD (ns.drop (m + 1)) = ds at *
    -- of_word(bad)
    refine ⟨_, rfl, p5, zs, rfl, e5, hzl, hzw, .inr ⟨fun hh => by rw [hza] at hh; exact absurd hh.1 (by decide), fun l8 p8 H8 s8 hl8 hp8 => ?_⟩⟩
    refine ⟨_, _, rfl, .lst (SqL.of hl8) (.cons (.str _) (.cons (.tup (sqT_of hp8) (dps7 H8 s8)) .nil)), R.a, R.b, R.c, R.d, ?_⟩
    refine ⟨_, rfl, p5, _, rfl, .inl ⟨SqL.of (s8 _ _ e5), fun p9 hp9 => ⟨by show 2 ≤ sizeLine; decide, fun l9 hl9 => ?_⟩⟩⟩
    have s9 := same_new (o := .tup (zs.map (·.1))) hp9
    have s9' := same_new (o := .lst [V.str "version", .ref p9]) hl9
    refine ⟨_, _, rfl, .lst (SqL.of upd_same) (.cons (.str _) (.cons (.tup (sqT_of (s9' _ _ upd_same)) (dps7 _ ((s8.trans s9).trans s9'))) .nil)), R.a, R.b, R.c, R.d, rfl, _, rfl, ?_⟩
    rw [decide_eq_true rfl]
    refine iteF ?_
    have d9 := d7.keep ((s8.trans s9).trans s9')
    have b09 := b07.trans (.of_same ((s8.trans s9).trans s9'))
    clear s9 s9' hl9 hp9 hl8 hp8
    revert d9 b09
    generalize upd (upd H8 p9 (.tup (zs.map (·.1)))) l9 (.lst [V.str "version", .ref p9]) = H9
    intro d9 b09
    -- of_word([])
    refine ⟨by show 0 ≤ sizeLine; decide, fun n1 hn1 => ⟨n1, [], rfl, upd_same, Nat.zero_le _, (fun z hz => nomatch hz), .inr ⟨fun hh => absurd hh.2.1 (by decide), fun l10 p10 H10 s10 hl10 hp10 => ?_⟩⟩⟩
    refine ⟨by show 0 ≤ sizeLine; decide, fun p11 hp11 => ⟨by show 2 ≤ sizeLine; decide, fun l11 hl11 => ?_⟩⟩
    have s11 := same_new (o := .tup []) hp11
    have s11' := same_new (o := .lst [V.str "version", .ref p11]) hl11
    have sA := (same_new (o := .lst []) hn1).trans ((s10.trans s11).trans s11')
    refine ⟨_, _, .lst (SqL.of (s11' _ _ (s11 _ _ hl10))) (.cons (.str _) (.cons (.tup (sqT_of (s11' _ _ (s11 _ _ hp10))) .nil) .nil)), .lst (SqL.of upd_same) (.cons (.str _) (.cons (.tup (sqT_of (s11' _ _ upd_same)) .nil) .nil)), (by decide +kernel), (by decide +kernel), _, rfl, ?_⟩
    rw [show (!PyData.eqv (.list [.str "version", .tuple []]) (.list [.str "version", .tuple []])) = false from by decide +kernel]
    refine iteF ?_
    have d11 := d9.keep sA
    have b11 := b09.trans (.of_same sA)
    clear sA s11 s11' hl11 hp11 hn1
    revert d11 b11
    generalize upd (upd H10 p11 (.tup [])) l11 (.lst [V.str "version", .ref p11]) = H11
    intro d11 b11
    -- of_word([1, 2, 3, 4, 5])
    refine ⟨by show 5 ≤ sizeLine; decide, fun n2 hn2 => ⟨n2, okN [1, 2, 3, 4, 5], rfl, upd_same, by decide, wto_ok (by decide), .inr ⟨fun hh => absurd hh.2.2 (by decide), fun l12 p12 H12 s12 hl12 hp12 => ?_⟩⟩⟩
    refine ⟨by show 5 ≤ sizeLine; decide, fun p13 hp13 => ⟨by show 2 ≤ sizeLine; decide, fun l13 hl13 => ?_⟩⟩
    have s13 := same_new (o := .tup [V.int 1, .int 2, .int 3, .int 4, .int 5]) hp13
    have s13' := same_new (o := .lst [V.str "version", .ref p13]) hl13
    have sB := (same_new (o := .lst [V.int 1, .int 2, .int 3, .int 4, .int 5]) hn2).trans ((s12.trans s13).trans s13')
    have d5 : ∀ H', DpAll K H' [V.int 1, .int 2, .int 3, .int 4, .int 5] [.int 1, .int 2, .int 3, .int 4, .int 5] := fun _ => .cons (.int _) (.cons (.int _) (.cons (.int _) (.cons (.int _) (.cons (.int _) .nil))))
    refine ⟨_, _, .lst (SqL.of (s13' _ _ (s13 _ _ hl12))) (.cons (.str _) (.cons (.tup (sqT_of (s13' _ _ (s13 _ _ hp12))) (d5 _)) .nil)), .lst (SqL.of upd_same) (.cons (.str _) (.cons (.tup (sqT_of (s13' _ _ upd_same)) (d5 _)) .nil)), (by decide +kernel), (by decide +kernel), ?_⟩
    rw [show (PyData.eqv (.list [.str "version", .tuple [.int 1, .int 2, .int 3, .int 4, .int 5]]) (.list [.str "version", .tuple [.int 1, .int 2, .int 3, .int 4, .int 5]])) = true from by decide +kernel]
    exact q _ ((d11.keep sB).mono (by omega)) (b11.trans (.of_same sB))
end

/-! ## The law of k03 -/
section
variable {P : Program} {w : World} {K : PySem.W.Frag} {mg : Str → Option Value} {base : Heap} {D : Ad}
open TL SX
theorem ch_joinL {sep : List Nat} (hs : ∀ c ∈ sep, c < 1000) : ∀ {ls : List (List Nat)}, (∀ l ∈ ls, ∀ c ∈ l, c < 1000) → ∀ c ∈ joinL sep ls, c < 1000
  | [], _, c, hc => nomatch hc
  | [l], h, c, hc => h l (by simp) c hc
  | l :: m :: r, h, c, hc => by
    have hc' : c ∈ l ++ (sep ++ joinL sep (m :: r)) := hc
    rcases List.mem_append.mp hc' with q | q
    · exact h l (by simp) c q
    · rcases List.mem_append.mp q with q | q
      · exact hs c q
      · exact ch_joinL hs (ls := m :: r) (fun l hl => h l (List.mem_cons_of_mem _ hl)) c q
theorem ch_wrt {fs : List Nat} {st : Nat} (h : st ≤ 3000) : ∀ c ∈ wrt fs st, c < 1000 := fun c hc => by
  unfold wrt at hc
  rcases List.mem_append.mp hc with g | g
  · refine ch_joinL (sep := [46]) (by decide) (fun l hl c hc => ?_) c g
    obtain ⟨n, _, rfl⟩ := List.mem_map.mp hl
    have := numL_digits n c hc
    omega
  · unfold stg at g
    split at g
    · cases g
    · rcases List.mem_append.mp g with g | g
      · have key : ∀ j < 3, ∀ c ∈ wd j, c < 1000 := by decide
        exact key (st / 1000) (by omega) c g
      · have := numL_digits (st % 1000) c g
        omega
/-- what is read, or refused -/
def WT (K : PySem.W.Frag) (H : Hp) (y : V) : Prop := (∃ l : List Nat, y = .str (S l) ∧ l.length ≤ 30000 ∧ ∀ c ∈ l, c < 1000) ∨ (NoTxt K H y ∧ Shw K H y)
theorem WT.keep {H H' : Hp} {y : V} (h : WT K H y) (s : Same H H') : WT K H' y := h.imp id fun ⟨a, b⟩ => ⟨a.keep s, b.keep s⟩
theorem wt_txt {H : Hp} (z : Str) (h1 : z.cps.toList.length ≤ 30000) (h2 : ∀ c ∈ z.cps.toList, c < 1000) : WT K H (.str z) := .inl ⟨z.cps.toList, congrArg V.str (str_S z), h1, h2⟩
theorem sixteen {H : Hp} {t l dd : Addr} {y : V} (ht : H t = some (.tup [.int 1, .int 2])) (hl : H l = some (.lst [.str "1"])) (hd : H dd = some (.dK []))
    (my : y ∈ [V.non, .int 5, .bl true, .ref t, .ref l, .ref dd, .str "", .str "1..2", .str ".1", .str "1.", .str "1a", .str "a1", .str "1.2.3.4.5", .str "01", .str "1r2c", .str "1r.c2"]) : WT K H y := by
  simp only [List.mem_cons, List.not_mem_nil, or_false] at my
  rcases my with rfl | rfl | rfl | rfl | rfl | rfl | rfl | rfl | rfl | rfl | rfl | rfl | rfl | rfl | rfl | rfl
  · exact .inr ⟨⟨"NoneType", by simp, .base .non⟩, .inl ⟨_, .non, rep_ver (bd_up bd_non (by decide) (by decide))⟩⟩
  · exact .inr ⟨⟨"int", by simp, .base (.int _)⟩, .inl ⟨_, .int _, rep_ver (bd_up (bd_int (by decide)) (by decide) (by decide))⟩⟩
  · exact .inr ⟨⟨"bool", by simp, .base (.bl _)⟩, .inl ⟨_, .bl _, rep_ver (bd_up (bd_bl _) (by decide) (by decide))⟩⟩
  · exact .inr ⟨⟨"tuple", by simp, .base (.tup ht)⟩, .inl ⟨_, .tup (sqT_of ht) (.cons (.int 1) (.cons (.int 2) .nil)), rep_ver (bd_up (bd_tup (bda_cons (bd_int (by decide)) (bda_cons (bd_int (by decide)) bda_nil1))) (by decide) (by decide))⟩⟩
  · exact .inr ⟨⟨"list", by simp, .base (.lst hl)⟩, .inl ⟨_, .lst (SqL.of hl) (.cons (.str "1") .nil), rep_ver (bd_up (bd_lst (bda_cons (W := 1) ⟨rfl, rfl, by decide, by decide +kernel, by decide +kernel⟩ bda_nil1)) (by decide) (by decide))⟩⟩
  · exact .inr ⟨⟨"dict", by simp, .base (.dK hd)⟩, .inr ⟨dd, rfl, hd⟩⟩
  all_goals exact wt_txt _ (by decide +kernel) (by decide +kernel)
theorem seven2 {H : Hp} {t : Addr} {z : V} (ht : H t = some (.tup [.int 7])) (mz : z ∈ [V.int (0 - 1), .int (3000999999999999 + 1), .non, .bl true, .str "7", .ref t, .int ((10 : Int) ^ ((40 : Int).toNat))]) : Bad2 K H z ∧ ∃ dz, Dp K H z dz ∧ Bd 3 2000 dz := by
  simp only [List.mem_cons, List.not_mem_nil, or_false] at mz
  rcases mz with rfl | rfl | rfl | rfl | rfl | rfl | rfl
  · exact ⟨.inl ⟨_, rfl, by decide⟩, _, .int _, bd_up (bd_int (by decide)) (by decide) (by decide)⟩
  · exact ⟨.inl ⟨_, rfl, by decide⟩, _, .int _, bd_up (bd_int (by decide)) (by decide) (by decide)⟩
  · exact ⟨.inr ⟨"NoneType", by simp, .base .non⟩, _, .non, bd_up bd_non (by decide) (by decide)⟩
  · exact ⟨.inr ⟨"bool", by simp, .base (.bl _)⟩, _, .bl _, bd_up (bd_bl _) (by decide) (by decide)⟩
  · exact ⟨.inr ⟨"str", by simp, .base (.str _)⟩, _, .str _, ⟨rfl, rfl, by decide, by decide +kernel, by decide +kernel⟩⟩
  · exact ⟨.inr ⟨"tuple", by simp, .base (.tup ht)⟩, _, .tup (sqT_of ht) (.cons (.int 7) .nil), bd_up (bd_tup (bda_cons (bd_int (by decide)) bda_nil1)) (by decide) (by decide)⟩
  · exact ⟨.inl ⟨_, rfl, by decide⟩, _, .int _, bd_up (bd_int (by decide)) (by decide) (by decide)⟩
theorem ch_rep {c n : Nat} (h : c < 1000) : ∀ x ∈ (List.replicate n [c]).flatten, x < 1000 := fun x hx => by
  obtain ⟨l, hl, hx⟩ := List.mem_flatten.mp hx
  rw [List.eq_of_mem_replicate hl, List.mem_singleton] at hx
  omega
theorem rk_last : rk [999, 999, 999, 999] 3000 = 3000999999999999 := by decide +kernel
theorem wt_str {H : Hp} {z : Str} (h : z.length ≤ 30000) (hc : Ch z) : WT K H (.str z) := .inl ⟨z.cps.toList, congrArg V.str (str_S z), by rw [← S_len, ← str_S]; exact h, hc⟩
theorem t_1 : (("1" : String) : Str) = S [49] := by decide +kernel
theorem t_0 : (("0" : String) : Str) = S [48] := by decide +kernel
theorem t_9 : (("9" : String) : Str) = S [57] := by decide +kernel
theorem t_1d : (("1." : String) : Str) = S [49, 46] := by decide +kernel
def spLaw (K : PySem.W.Frag) : Sp := fun vs H Q _ => ∃ (a : Addr) (ns : List Int), vs = [.ref a] ∧ Bare K H a (ns.map V.int) ∧ ns.length ≤ 63 ∧ ∀ H', Q (.bl true) H'
theorem ok_law (T : Tex K mg D) : FnG P w K mg base 15 D.a_law D.d_law P_law (spLaw K) := by
  have G_begin : FnOk P w K mg base CX0 1 D.a_begin D.d_begin P_begin (spBegin K) := ok_begin T
  have G_next : FnOk P w K mg base CX0 2 D.a_next D.d_next P_next spNext := ok_next T
  have G_parts : FnOk P w K mg base CX0 4 D.a_parts D.d_parts P_parts spPt := ok_parts T
  have G_written : FnOk P w K mg base CX0 1 D.a_written D.d_written P_written spWrit := ok_written T
  have G_rank : FnOk P w K mg base CX0 2 D.a_rank D.d_rank P_rank spRkL := ok_rank T
  have G_bent : FnOk P w K mg base CX0 3 D.a_bent D.d_bent P_bent spBent := ok_bent T
  have G_read_right : FnG P w K mg base 11 D.a_read_right D.d_read_right P_read_right (spRR K) := ok_read_right T
  have G_is_of : FnG P w K mg base 6 D.a_is_of D.d_is_of P_is_of (spIs D.a_Version) := ok_is_of T
  have G_of_right : FnG P w K mg base 13 D.a_of_right D.d_of_right P_of_right spOR := ok_of_right T
  have G_word : FnOk P w K mg base CX0 10 D.a_word D.d_word P_word (spWord K D.a_Version) := ok_word T
  have G_Version_at : FnOk P w K mg base CX0 8 D.a_Version_at D.d_Version_at P_Version_at (spAt D.a_Version) := ok_Version_at T
  refine fnG_of T.law_F S_law (fun vs H Q E h => ?_) (fun cdv A outer s H vs Q hg hr h => ?_)
  · obtain ⟨a, ns, rfl, _⟩ := h
    rfl
  · obtain ⟨a, ns, rfl, hb, hl, q⟩ := h
    refine ⟨_, (pss_cons (ps_set (i := 1) S_law.nd rfl (Or.inl rfl) (pe_call G_begin (hr.mono (by decide)) (by rfl) T.begin_g T.begin_F.kp T.begin_b .nil pass0 (pa_cons (pv 0) pa_nil)))
      (pss_cons (ps_if (pt_cmpR op_ne (ClX.pe_cval (pe_glob (v := .ref D.a_Version) rfl T.Version_g rfl)) (pe_call G_rank (hr.mono (by decide)) (by rfl) T.rank_g T.rank_F.kp T.rank_b .nil pass0 (pa_cons (pe_tup (pa_cons (pe_lst (pa_cons pe_int (pa_cons pe_int (pa_cons pe_int (pa_cons pe_int pa_nil))))) (pa_cons pe_str (pa_cons pe_int pa_nil)))) pa_nil)) (nomark _)) (pss_one (ps_ret pe_bl)) pss_nil)
      (pss_cons (ps_for PassesOwn.never rfl (pi_range1 rfl T.b_range (pa_cons (pe_callB (call_min2 rfl) (by rfl) T.b_min (by decide +kernel) (pa_cons pe_int (pa_cons (pe_op op_add pe_int (pe_callB call_len_seq (by rfl) T.b_len (by decide +kernel) (pa_cons (pv 0) pa_nil))) pa_nil))) pa_nil)) (pg_name (i := 2) S_law.nd rfl (Or.inl rfl)) (pss_cons (ps_set (i := 3) S_law.nd rfl (Or.inl rfl) (pe_call G_parts (hr.mono (by decide)) (by rfl) T.parts_g T.parts_F.kp T.parts_b .nil pass0 (pa_cons (pv 1) pa_nil)))
      (pss_cons (ps_par (i := 4) (j := 5) (by rfl) S_law.nd rfl rfl (by decide) rfl rfl (pa_cons (pe_call G_written (hr.mono (by decide)) (by rfl) T.written_g T.written_F.kp T.written_b .nil pass0 (pa_cons (pv 3) pa_nil)) (pa_cons (pe_call G_rank (hr.mono (by decide)) (by rfl) T.rank_g T.rank_F.kp T.rank_b .nil pass0 (pa_cons (pv 3) pa_nil)) pa_nil)) (by rfl))
      (pss_cons (ps_set (i := 6) S_law.nd rfl (Or.inl rfl) (pe_lst (pa_cons pe_non (pa_cons pe_int (pa_cons pe_bl (pa_cons (pe_tup (pa_cons pe_int (pa_cons pe_int pa_nil))) (pa_cons (pe_lst (pa_cons pe_str pa_nil)) (pa_cons pe_dnewK (pa_cons pe_str (pa_cons pe_str (pa_cons pe_str (pa_cons pe_str (pa_cons pe_str (pa_cons pe_str (pa_cons pe_str (pa_cons pe_str (pa_cons pe_str (pa_cons pe_str pa_nil))))))))))))))))))
      (pss_cons (ps_set (i := 6) S_law.nd rfl (Or.inl rfl) (pe_ix ix_list (pv 6) (pe_call G_next (hr.mono (by decide)) (by rfl) T.next_g T.next_F.kp T.next_b .nil pass0 (pa_cons (pv 1) (pa_cons pe_int pa_nil))) (fun _ _ => rfl)))
      (pss_cons (ps_for PassesOwn.never rfl (pi_list (pe_lst (pa_cons (pv 4) (pa_cons (pe_call G_bent (hr.mono (by decide)) (by rfl) T.bent_g T.bent_F.kp T.bent_b .nil pass0 (pa_cons (pv 1) (pa_cons (pv 4) pa_nil))) (pa_cons (pe_call G_bent (hr.mono (by decide)) (by rfl) T.bent_g T.bent_F.kp T.bent_b .nil pass0 (pa_cons (pv 1) (pa_cons (pv 4) pa_nil))) (pa_cons (pv 6) pa_nil)))))) (pg_name (i := 7) S_law.nd rfl (Or.inl rfl)) (pss_one (ps_if (pt_not (pt_val (pe_callG G_read_right hg (hr.mono (by decide)) (by rfl) T.read_right_g T.read_right_F.kp T.read_right_b (pa_cons (pv 7) pa_nil)))) (pss_one (ps_ret pe_bl)) pss_nil)))
      (pss_cons (ps_if (PW.pt (pw_or (pt_not (pt_val (pe_callG G_is_of hg (hr.mono (by decide)) (by rfl) T.is_of_g T.is_of_F.kp T.is_of_b (pa_cons (ClX.pe_cmeth (pe_glob (v := .ref D.a_Version) rfl T.Version_g rfl) T.Version_rd T.Version_at_c (G_Version_at.raw T.Version_at_b .nil) (hr.mono (by decide)) pass0 (pa_cons (pv 5) pa_nil)) (pa_cons (pv 3) pa_nil))))) (pw_or1 (pt_not (pt_val (pe_callG G_of_right hg (hr.mono (by decide)) (by rfl) T.of_right_g T.of_right_F.kp T.of_right_b (pa_cons (pv 1) (pa_cons (pe_ix ix_tup (pv 3) pe_int (fun _ _ => rfl)) pa_nil)))))))) (pss_one (ps_ret pe_bl)) pss_nil)
      (pss_cons (ps_set (i := 8) S_law.nd rfl (Or.inl rfl) (pe_ix ix_list (pe_lst (pa_cons (pe_op op_sub pe_int pe_int) (pa_cons (pe_op op_add (ClX.pe_cval (pe_glob (v := .ref D.a_Version) rfl T.Version_g rfl)) pe_int) (pa_cons pe_non (pa_cons pe_bl (pa_cons pe_str (pa_cons (pe_tup (pa_cons pe_int pa_nil)) (pa_cons (pe_op op_pow pe_int pe_int) pa_nil)))))))) (pe_call G_next (hr.mono (by decide)) (by rfl) T.next_g T.next_F.kp T.next_b .nil pass0 (pa_cons (pv 1) (pa_cons pe_int pa_nil))) (fun _ _ => rfl)))
      (pss_one (ps_if (pt_cmpR op_ne (pe_callB (call_repr hg hr.units) (by rfl) T.b_repr (by decide +kernel) (pa_cons (pe_call G_word (hr.mono (by decide)) (by rfl) T.word_g T.word_F.kp T.word_b .nil pass0 (pa_cons pe_int (pa_cons (pv 8) pa_nil))) pa_nil)) (pe_callB (call_repr hg hr.units) (by rfl) T.b_repr (by decide +kernel) (pa_cons (pe_lst (pa_cons pe_str (pa_cons (pv 8) pa_nil))) pa_nil)) (nomark _)) (pss_one (ps_ret pe_bl)) pss_nil))))))))))
      (pss_cons (ps_for PassesOwn.never rfl (pi_list (pe_lst (pa_cons (pe_op op_mulS pe_str pe_int) (pa_cons (pe_op op_add_str pe_str (pe_op op_mulS pe_str pe_int)) (pa_cons (pe_op op_add_str pe_str (pe_op op_mulS pe_str pe_int)) (pa_cons (pe_op op_add_str (pe_op op_add_str (pe_op op_mulS pe_str pe_int) (pe_op op_mulS pe_str pe_int)) pe_str) pa_nil)))))) (pg_name (i := 7) S_law.nd rfl (Or.inl rfl)) (pss_one (ps_if (pt_not (pt_val (pe_callG G_read_right hg (hr.mono (by decide)) (by rfl) T.read_right_g T.read_right_F.kp T.read_right_b (pa_cons (pv 7) pa_nil)))) (pss_one (ps_ret pe_bl)) pss_nil)))
      (pss_one (ps_ret pe_bl)))))), ?_⟩
    refine ⟨_, rfl, a, ns, rfl, hb, hl, fun d c H1 hd s1 D1 => ?_⟩
    have hb1 := hb.keep s1
    clear s1
    refine ⟨D.a_Version, _, _, _, rfl, T.Version_rd, T.Version_LAST, by show 4 ≤ sizeLine; decide, fun lf hlf => ⟨by show 3 ≤ sizeLine; decide, fun tf htf => ?_⟩⟩
    have sf := same_new (o := .lst [V.int 999, .int 999, .int 999, .int 999]) hlf
    have sf2 := same_new (o := .tup [V.ref lf, .str "", .int 0]) htf
    refine ⟨tf, [999, 999, 999, 999], 3000, rfl, pt_of (j := 3) (m := 0) upd_same (sf2 _ _ upd_same) (by decide) (by decide) (by decide) (by decide) (by decide) (fun _ => rfl), fun H2 s2 => ⟨rfl, _, rfl, ?_⟩⟩
    rw [rk_last, decide_eq_true (show V.int 3000999999999999 = V.int ((3000999999999999 : Nat) : Int) from rfl)]
    refine iteF ?_
    have D1 := ((D1.keep sf).keep sf2).keep s2
    have hb1 := ((hb1.keep sf).keep sf2).keep s2
    clear sf sf2 s2 hlf htf
    have nl : (ns.map V.int).length = ns.length := List.length_map _
    refine ⟨_, rfl, a, _, rfl, .inl (hb1.seq (by rw [nl]; exact szl (by omega))), _, _, rfl, rfl, _, _, rfl, _, rfl, ?_, ?_, ?_⟩
    · rw [nl]
      split <;> omega
    · rw [nl]
      split <;> omega
    have hcnt : (if (5 + ((ns.map V.int).length : Int)) < 20 then (5 + ((ns.map V.int).length : Int)) else 20).toNat ≤ 20 := by split <;> omega
    revert hcnt
    generalize (if (5 + ((ns.map V.int).length : Int)) < 20 then (5 + ((ns.map V.int).length : Int)) else 20).toNat = cnt
    intro hcnt
    refine for_range (lo := 0) (n := cnt) (fun i σ H' => ∃ o2 o3 o4 o5 o6 o7 o8 : Option V, σ = [some (.ref a), some (.ref d), o2, o3, o4, o5, o6, o7, o8] ∧ Dr H' d c (100 * i)) ⟨_, _, _, _, _, _, _, rfl, D1⟩ ?_ ?_
    · rintro i σ H3 hi ⟨o2, o3, o4, o5, o6, o7, o8, rfl, D3⟩
      refine ⟨_, rfl, d, c, _, rfl, D3, by omega, fun p fs st H4 P4 D4 b4 => ?_⟩
      clear b4 D3
      have hf := P4.fig
      have hfl := hf.last
      refine ⟨_, rfl, p, fs, st, rfl, P4, fun H5 s5 => ⟨_, rfl, p, fs, st, rfl, P4.keep s5, fun H6 s6 => ⟨_, _, rfl, ?_⟩⟩⟩
      have P6 := (P4.keep s5).keep s6
      have D6 := (D4.keep s5).keep s6
      clear s5 s6 P4 D4
      -- the odd one
      refine ⟨by show 2 ≤ sizeLine; decide, fun t ht => ⟨by show 1 ≤ sizeLine; decide, fun l1 hl1 => fun dd hdd => ⟨by show 16 ≤ sizeLine; decide, fun lo hlo => ?_⟩⟩⟩
      have st1 := same_new (o := .tup [V.int 1, .int 2]) ht
      have st2 := same_new (o := .lst [V.str "1"]) hl1
      have st3 := same_new (o := .dK []) hdd
      have st4 := same_new (o := .lst [V.non, .int 5, .bl true, .ref t, .ref l1, .ref dd, .str "", .str "1..2", .str ".1", .str "1.", .str "1a", .str "a1", .str "1.2.3.4.5", .str "01", .str "1r2c", .str "1r.c2"]) hlo
      have n1 : d ≠ t := D6.ne_new ht
      have n2 : d ≠ l1 := (D6.keep st1).ne_new hl1
      have n3 : d ≠ dd := ((D6.keep st1).keep st2).ne_new hdd
      have n4 : d ≠ lo := (((D6.keep st1).keep st2).keep st3).ne_new hlo
      have s14 := ((st1.trans st2).trans st3).trans st4
      have g1 := st4 _ _ (st3 _ _ (st2 _ _ (upd_same (H := H6) (a := t) (o := .tup [V.int 1, .int 2]))))
      have g2 := st4 _ _ (st3 _ _ (upd_same (H := upd H6 t (.tup [V.int 1, .int 2])) (a := l1) (o := .lst [V.str "1"])))
      have g3 := st4 _ _ (upd_same (H := upd (upd H6 t (.tup [V.int 1, .int 2])) l1 (.lst [V.str "1"])) (a := dd) (o := .dK []))
      have g4 := upd_same (H := upd (upd (upd H6 t (.tup [V.int 1, .int 2])) l1 (.lst [V.str "1"])) dd (.dK [])) (a := lo) (o := .lst [V.non, .int 5, .bl true, .ref t, .ref l1, .ref dd, .str "", .str "1..2", .str ".1", .str "1.", .str "1a", .str "a1", .str "1.2.3.4.5", .str "01", .str "1r2c", .str "1r.c2"])
      have D7 := D6.keep s14
      have P7 := P6.keep s14
      clear st1 st2 st3 st4 s14 D6 P6 ht hl1 hdd hlo
      revert g1 g2 g3 g4 D7 P7
      generalize upd (upd (upd (upd H6 t (.tup [V.int 1, .int 2])) l1 (.lst [V.str "1"])) dd (.dK [])) lo (.lst [V.non, .int 5, .bl true, .ref t, .ref l1, .ref dd, .str "", .str "1..2", .str ".1", .str "1.", .str "1a", .str "a1", .str "1.2.3.4.5", .str "01", .str "1r2c", .str "1r.c2"]) = H7
      intro g1 g2 g3 g4 D7 P7
      refine ⟨_, rfl, _, rfl, d, c, 16, _, rfl, D7, by omega, by decide, by decide, fun v1 H8 v10 v11 D8 b8 => ?_⟩
      obtain ⟨y, hy, my⟩ := at_in (xs := [V.non, .int 5, .bl true, .ref t, .ref l1, .ref dd, .str "", .str "1..2", .str ".1", .str "1.", .str "1a", .str "a1", .str "1.2.3.4.5", .str "01", .str "1r2c", .str "1r.c2"]) v10 v11
      refine ⟨lo, _, _, _, rfl, rfl, SqL.of (b8 _ _ g4 n4.symm), hy, ?_⟩
      have P8 := P7.but D7 b8
      have g1 := b8 _ _ g1 n1.symm
      have g2 := b8 _ _ g2 n2.symm
      have g3 := b8 _ _ g3 n3.symm
      -- the four texts
      have wl : (wrt fs st).length ≤ 100 := by have := wrt_len (st := st) hf.lt; have := hf.le; omega
      have wc : ∀ c ∈ wrt fs st, c < 1000 := ch_wrt hf.st
      refine ⟨_, rfl, _, rfl, _, rfl, d, c, _, wrt fs st, rfl, D8, by omega, by omega, wc, fun x1 H9 c1 m1 D9 b9 => ?_⟩
      refine ⟨_, rfl, _, rfl, d, c, _, wrt fs st, rfl, D9, by omega, by omega, wc, fun x2 H10 c2 m2 D10 b10 => ?_⟩
      have P10 := (P8.but D8 b9).but D9 b10
      have g1 := b10 _ _ (b9 _ _ g1 n1.symm) n1.symm
      have g2 := b10 _ _ (b9 _ _ g2 n2.symm) n2.symm
      have g3 := b10 _ _ (b9 _ _ g3 n3.symm) n3.symm
      have wy : WT K H10 y := sixteen g1 g2 g3 my
      clear b8 b9 b10 D7 D8 D9 P7 P8
      refine ⟨_, rfl, by show 4 ≤ sizeLine; decide, fun L hL => ?_⟩
      have sL := same_new (o := .lst [V.str (S (wrt fs st)), .str (S x1), .str (S x2), y]) hL
      have gL := upd_same (H := H10) (a := L) (o := .lst [V.str (S (wrt fs st)), .str (S x1), .str (S x2), y])
      have P11 := P10.keep sL
      have D11 := D10.keep sL
      have wy := wy.keep sL
      clear hL sL D10 P10
      revert gL P11 D11 wy
      generalize upd H10 L (.lst [V.str (S (wrt fs st)), .str (S x1), .str (S x2), y]) = H11
      intro gL P11 D11 wy
      refine ⟨L, rfl, ⟨_, SqL.of gL⟩, for_list (K := K) (a := L) (xs := [V.str (S (wrt fs st)), .str (S x1), .str (S x2), y]) (fun j σ H' => ∃ o7 : Option V, σ = [some (.ref a), some (.ref d), some (.int (0 + (i : Int))), some (.ref p), some (.str (S (wrt fs st))), some (.int ((rk fs st : Nat) : Int)), some y, o7, o8] ∧ Same H11 H')
        ⟨o7, rfl, Same.refl _⟩ (fun j σ H' _ ⟨_, _, h⟩ => SqL.of (h _ _ gL)) ?_ ?_⟩
      · rintro j x σ H12 hj ⟨o7, rfl, s12⟩
        have wx : WT K H12 x := by
          have hm : x ∈ [V.str (S (wrt fs st)), .str (S x1), .str (S x2), y] := List.mem_of_getElem? hj
          simp only [List.mem_cons, List.not_mem_nil, or_false] at hm
          rcases hm with rfl | rfl | rfl | rfl
          · exact .inl ⟨_, rfl, by omega, wc⟩
          · exact .inl ⟨_, rfl, by omega, c1⟩
          · exact .inl ⟨_, rfl, by omega, c2⟩
          · exact wy.keep s12
        exact ⟨_, rfl, x, rfl, wx, fun H13 s13 => ⟨true, rfl, iteF ⟨_, rfl, s12.trans s13⟩⟩⟩
      · rintro σ H12 ⟨o7, rfl, s12⟩
        have D12 := D11.keep s12
        have P12 := P11.keep s12
        clear s12 D11 P11 gL
        refine ⟨rfl, _, rfl, rk fs st, rfl, hfl, fun v H13 s13 _ hv => ⟨_, rfl, v, p, fs, st, rfl, hv, P12.keep s13, fun H14 s14 => ⟨true, rfl, iteF ?_⟩⟩⟩
        have D14 := (D12.keep s13).keep s14
        have P14 := (P12.keep s13).keep s14
        clear s13 s14 D12 P12
        obtain ⟨pq, hp1, hp2, _⟩ := id P14
        refine ⟨_, rfl, _, rfl, p, _, _, _, rfl, rfl, sqT_of hp1, rfl, d, c, pq, _, fs, rfl, D14, by omega, hp2, hf.ne, hf.le, hf.lt, fun H15 D15 b15 => ⟨true, rfl, iteF ?_⟩⟩
        clear D14 P14 hp1 hp2 b15
        refine ⟨_, _, rfl, rfl, D.a_Version, _, _, _, rfl, T.Version_rd, T.Version_LAST, _, _, rfl, rfl, by show 1 ≤ sizeLine; decide, fun t ht => ⟨_, _, rfl, rfl, ⟨by decide, by decide, by decide⟩, by show 7 ≤ sizeLine; decide, fun lb hlb => ?_⟩⟩
        have st1 := same_new (o := .tup [V.int 7]) ht
        have st2 := same_new (o := .lst [V.int (0 - 1), .int (3000999999999999 + 1), .non, .bl true, .str "7", .ref t, .int ((10 : Int) ^ ((40 : Int).toNat))]) hlb
        have n1 : d ≠ t := D15.ne_new ht
        have n2 : d ≠ lb := (D15.keep st1).ne_new hlb
        have g1 := st2 _ _ (upd_same (H := H15) (a := t) (o := .tup [V.int 7]))
        have g2 := upd_same (H := upd H15 t (.tup [V.int 7])) (a := lb) (o := .lst [V.int (0 - 1), .int (3000999999999999 + 1), .non, .bl true, .str "7", .ref t, .int ((10 : Int) ^ ((40 : Int).toNat))])
        have D16 := (D15.keep st1).keep st2
        clear st1 st2 ht hlb D15
        revert g1 g2 D16
        generalize upd (upd H15 t (.tup [V.int 7])) lb (.lst [V.int (0 - 1), .int (3000999999999999 + 1), .non, .bl true, .str "7", .ref t, .int ((10 : Int) ^ ((40 : Int).toNat))]) = H16
        intro g1 g2 D16
        refine ⟨_, rfl, d, c, 7, _, rfl, D16, by omega, by decide, by decide, fun v1 H17 v10 v11 D17 b17 => ?_⟩
        obtain ⟨z, hz, mz⟩ := at_in (xs := [V.int (0 - 1), .int (3000999999999999 + 1), .non, .bl true, .str "7", .ref t, .int ((10 : Int) ^ ((40 : Int).toNat))]) v10 v11
        refine ⟨lb, _, _, _, rfl, rfl, SqL.of (b17 _ _ g2 n2.symm), hz, ?_⟩
        obtain ⟨bz, dz, hdz, bdz⟩ := seven2 (K := K) (b17 _ _ g1 n1.symm) mz
        have R : Rep (.list [.str "count", dz]) := rep_cnt (bd_up bdz (by decide) (by decide))
        refine ⟨_, rfl, 1, z, rfl, .inr (.inr ⟨rfl, bz, fun aw H18 s18 na haw => ?_⟩)⟩
        refine ⟨_, _, rfl, .lst (SqL.of haw) (.cons (.str _) (.cons (Dp.keep s18 hdz) .nil)), R.a, R.b, R.c, R.d, ?_⟩
        refine ⟨_, rfl, by show 2 ≤ sizeLine; decide, fun lc hlc => ?_⟩
        have s19 := same_new (o := .lst [V.str "count", z]) hlc
        refine ⟨_, _, rfl, .lst (SqL.of upd_same) (.cons (.str _) (.cons (Dp.keep (s18.trans s19) hdz) .nil)), R.a, R.b, R.c, R.d, rfl, _, rfl, ?_⟩
        rw [decide_eq_true rfl]
        refine iteF ⟨_, _, _, _, _, _, _, rfl, ((D17.keep s18).keep s19).mono (by omega)⟩
    · rintro σ H3 ⟨o2, o3, o4, o5, o6, o7, o8, rfl, _⟩
      obtain ⟨A, eA, lA, cA⟩ : ∃ A, A = (List.replicate 5000 [49]).flatten ∧ A.length = 5000 ∧ ∀ c ∈ A, c < 1000 := ⟨_, rfl, by rw [len_reps]; rfl, ch_rep (by decide)⟩
      obtain ⟨B, eB, lB, cB⟩ : ∃ A, A = (List.replicate 5000 [48]).flatten ∧ A.length = 5000 ∧ ∀ c ∈ A, c < 1000 := ⟨_, rfl, by rw [len_reps]; rfl, ch_rep (by decide)⟩
      obtain ⟨C, eC, lC, cC⟩ : ∃ A, A = (List.replicate 5000 [57]).flatten ∧ A.length = 5000 ∧ ∀ c ∈ A, c < 1000 := ⟨_, rfl, by rw [len_reps]; rfl, ch_rep (by decide)⟩
      obtain ⟨F, eF, lF, cF⟩ : ∃ A, A = (List.replicate 3 [49, 46]).flatten ∧ A.length = 6 ∧ ∀ c ∈ A, c < 1000 := ⟨_, rfl, rfl, by decide⟩
      have zB : (S B).length = 5000 := by rw [S_len, lB]
      have zC : (S C).length = 5000 := by rw [S_len, lC]
      have zF : (S F).length = 6 := by rw [S_len, lF]
      refine ⟨[49], 5000, congrArg V.str t_1, rfl, by decide, by decide, by decide, ?_⟩
      rw [← eA]
      refine ⟨[48], 5000, congrArg V.str t_0, rfl, by decide, by decide, by decide, ?_⟩
      rw [← eB]
      refine ⟨_, _, rfl, rfl, by rw [zB]; exact szL (by decide +kernel), ?_⟩
      refine ⟨[57], 5000, congrArg V.str t_9, rfl, by decide, by decide, by decide, ?_⟩
      rw [← eC]
      refine ⟨_, _, rfl, rfl, by rw [zC]; exact szL (by decide +kernel), ?_⟩
      refine ⟨[49, 46], 3, congrArg V.str t_1d, rfl, by decide, by decide, by decide, ?_⟩
      rw [← eF]
      refine ⟨[57], 5000, congrArg V.str t_9, rfl, by decide, by decide, by decide, ?_⟩
      rw [← eC]
      refine ⟨_, _, rfl, rfl, by rw [zC, zF]; exact szL (by decide), ?_⟩
      refine ⟨_, _, rfl, rfl, by rw [len_app, zC, zF]; exact szL (by decide +kernel), by show 4 ≤ sizeLine; decide, fun L hL => ?_⟩
      clear eA eB eC eF
      have gL := upd_same (H := H3) (a := L) (o := .lst [V.str (S A), .str ("1." ++ S B), .str ("2rc" ++ S C), .str (S F ++ S C ++ "b1")])
      revert gL
      generalize upd H3 L (.lst [V.str (S A), .str ("1." ++ S B), .str ("2rc" ++ S C), .str (S F ++ S C ++ "b1")]) = H4
      intro gL
      refine ⟨L, rfl, ⟨_, SqL.of gL⟩, for_list (K := K) (a := L) (xs := [V.str (S A), .str ("1." ++ S B), .str ("2rc" ++ S C), .str (S F ++ S C ++ "b1")]) (fun j σ H' => ∃ o7 : Option V, σ = [some (.ref a), some (.ref d), o2, o3, o4, o5, o6, o7, o8] ∧ Same H4 H')
        ⟨o7, rfl, Same.refl _⟩ (fun j σ H' _ ⟨_, _, h⟩ => SqL.of (h _ _ gL)) ?_ ?_⟩
      · rintro j x σ H12 hj ⟨o7, rfl, s12⟩
        have wx : WT K H12 x := by
          have hm : x ∈ [V.str (S A), .str ("1." ++ S B), .str ("2rc" ++ S C), .str (S F ++ S C ++ "b1")] := List.mem_of_getElem? hj
          simp only [List.mem_cons, List.not_mem_nil, or_false] at hm
          rcases hm with rfl | rfl | rfl | rfl
          · exact .inl ⟨_, rfl, by omega, cA⟩
          · exact wt_str (by rw [len_app, zB]; decide +kernel) (ch_app (by unfold Ch; decide +kernel) (ch_S cB))
          · exact wt_str (by rw [len_app, zC]; decide +kernel) (ch_app (by unfold Ch; decide +kernel) (ch_S cC))
          · exact wt_str (by rw [len_app, len_app, zC, zF]; decide +kernel) (ch_app (ch_app (ch_S cF) (ch_S cC)) (by unfold Ch; decide +kernel))
        exact ⟨_, rfl, x, rfl, wx, fun H13 s13 => ⟨true, rfl, iteF ⟨_, rfl, s12.trans s13⟩⟩⟩
      · rintro σ H12 ⟨o7, rfl, s12⟩
        exact q H12
end

theorem all_mk {l : PySem.W.OpenLaw} {w : World} {K : PySem.W.Frag} {h : Heap} {mg : Str → Option Value} {fa : Addr} (X : K.In h) (G : h.Ns mainGlobals mg) (hfa : mg "law" = some (.ref fa))
    {f_is_whole : Addr} {od_is_whole an_is_whole : Option Addr} {sl_is_whole : Array (Option Value)} {oc_is_whole kV_is_whole dc_is_whole pm_is_whole cd_is_whole ct_is_whole : Value}
    (n_is_whole : PySem.W.nsIn K mainGlobals "is_whole" = some (some (.ref f_is_whole)))
    (l_is_whole : K.lookup f_is_whole = some ⟨oc_is_whole, od_is_whole, .func (PySem.W.fnOf "is_whole" "is_whole" (defArgs s_is_whole) (defBody s_is_whole) (defScope s_is_whole) .none kV_is_whole dc_is_whole pm_is_whole an_is_whole cd_is_whole ct_is_whole), sl_is_whole⟩)
    (c_is_whole : PySem.W.codeIn K cd_is_whole "is_whole" = true)
    (k_is_whole : PySem.W.keepIn K (.ref f_is_whole) = true)
    {f_is_count : Addr} {od_is_count an_is_count : Option Addr} {sl_is_count : Array (Option Value)} {oc_is_count kV_is_count dc_is_count pm_is_count cd_is_count ct_is_count : Value}
    (n_is_count : PySem.W.nsIn K mainGlobals "is_count" = some (some (.ref f_is_count)))
    (l_is_count : K.lookup f_is_count = some ⟨oc_is_count, od_is_count, .func (PySem.W.fnOf "is_count" "is_count" (defArgs s_is_count) (defBody s_is_count) (defScope s_is_count) .none kV_is_count dc_is_count pm_is_count an_is_count cd_is_count ct_is_count), sl_is_count⟩)
    (c_is_count : PySem.W.codeIn K cd_is_count "is_count" = true)
    (k_is_count : PySem.W.keepIn K (.ref f_is_count) = true)
    {f_is_whole_to : Addr} {od_is_whole_to an_is_whole_to : Option Addr} {sl_is_whole_to : Array (Option Value)} {oc_is_whole_to kV_is_whole_to dc_is_whole_to pm_is_whole_to cd_is_whole_to ct_is_whole_to : Value}
    (n_is_whole_to : PySem.W.nsIn K mainGlobals "is_whole_to" = some (some (.ref f_is_whole_to)))
    (l_is_whole_to : K.lookup f_is_whole_to = some ⟨oc_is_whole_to, od_is_whole_to, .func (PySem.W.fnOf "is_whole_to" "is_whole_to" (defArgs s_is_whole_to) (defBody s_is_whole_to) (defScope s_is_whole_to) .none kV_is_whole_to dc_is_whole_to pm_is_whole_to an_is_whole_to cd_is_whole_to ct_is_whole_to), sl_is_whole_to⟩)
    (c_is_whole_to : PySem.W.codeIn K cd_is_whole_to "is_whole_to" = true)
    (k_is_whole_to : PySem.W.keepIn K (.ref f_is_whole_to) = true)
    {f_consists_of : Addr} {od_consists_of an_consists_of : Option Addr} {sl_consists_of : Array (Option Value)} {oc_consists_of kV_consists_of dc_consists_of pm_consists_of cd_consists_of ct_consists_of : Value}
    (n_consists_of : PySem.W.nsIn K mainGlobals "consists_of" = some (some (.ref f_consists_of)))
    (l_consists_of : K.lookup f_consists_of = some ⟨oc_consists_of, od_consists_of, .func (PySem.W.fnOf "consists_of" "consists_of" (defArgs s_consists_of) (defBody s_consists_of) (defScope s_consists_of) .none kV_consists_of dc_consists_of pm_consists_of an_consists_of cd_consists_of ct_consists_of), sl_consists_of⟩)
    (c_consists_of : PySem.W.codeIn K cd_consists_of "consists_of" = true)
    (k_consists_of : PySem.W.keepIn K (.ref f_consists_of) = true)
    {f_is_string_of : Addr} {od_is_string_of an_is_string_of : Option Addr} {sl_is_string_of : Array (Option Value)} {oc_is_string_of kV_is_string_of dc_is_string_of pm_is_string_of cd_is_string_of ct_is_string_of : Value}
    (n_is_string_of : PySem.W.nsIn K mainGlobals "is_string_of" = some (some (.ref f_is_string_of)))
    (l_is_string_of : K.lookup f_is_string_of = some ⟨oc_is_string_of, od_is_string_of, .func (PySem.W.fnOf "is_string_of" "is_string_of" (defArgs s_is_string_of) (defBody s_is_string_of) (defScope s_is_string_of) .none kV_is_string_of dc_is_string_of pm_is_string_of an_is_string_of cd_is_string_of ct_is_string_of), sl_is_string_of⟩)
    (c_is_string_of : PySem.W.codeIn K cd_is_string_of "is_string_of" = true)
    (k_is_string_of : PySem.W.keepIn K (.ref f_is_string_of) = true)
    {f_number_in : Addr} {od_number_in an_number_in : Option Addr} {sl_number_in : Array (Option Value)} {oc_number_in kV_number_in dc_number_in pm_number_in cd_number_in ct_number_in : Value}
    (n_number_in : PySem.W.nsIn K mainGlobals "number_in" = some (some (.ref f_number_in)))
    (l_number_in : K.lookup f_number_in = some ⟨oc_number_in, od_number_in, .func (PySem.W.fnOf "number_in" "number_in" (defArgs s_number_in) (defBody s_number_in) (defScope s_number_in) .none kV_number_in dc_number_in pm_number_in an_number_in cd_number_in ct_number_in), sl_number_in⟩)
    (c_number_in : PySem.W.codeIn K cd_number_in "number_in" = true)
    (k_number_in : PySem.W.keepIn K (.ref f_number_in) = true)
    {f_stage_of_text : Addr} {od_stage_of_text an_stage_of_text : Option Addr} {sl_stage_of_text : Array (Option Value)} {oc_stage_of_text kV_stage_of_text dc_stage_of_text pm_stage_of_text cd_stage_of_text ct_stage_of_text : Value}
    (n_stage_of_text : PySem.W.nsIn K mainGlobals "stage_of_text" = some (some (.ref f_stage_of_text)))
    (l_stage_of_text : K.lookup f_stage_of_text = some ⟨oc_stage_of_text, od_stage_of_text, .func (PySem.W.fnOf "stage_of_text" "stage_of_text" (defArgs s_stage_of_text) (defBody s_stage_of_text) (defScope s_stage_of_text) .none kV_stage_of_text dc_stage_of_text pm_stage_of_text an_stage_of_text cd_stage_of_text ct_stage_of_text), sl_stage_of_text⟩)
    (c_stage_of_text : PySem.W.codeIn K cd_stage_of_text "stage_of_text" = true)
    (k_stage_of_text : PySem.W.keepIn K (.ref f_stage_of_text) = true)
    {f_parts_of_text : Addr} {od_parts_of_text an_parts_of_text : Option Addr} {sl_parts_of_text : Array (Option Value)} {oc_parts_of_text kV_parts_of_text dc_parts_of_text pm_parts_of_text cd_parts_of_text ct_parts_of_text : Value}
    (n_parts_of_text : PySem.W.nsIn K mainGlobals "parts_of_text" = some (some (.ref f_parts_of_text)))
    (l_parts_of_text : K.lookup f_parts_of_text = some ⟨oc_parts_of_text, od_parts_of_text, .func (PySem.W.fnOf "parts_of_text" "parts_of_text" (defArgs s_parts_of_text) (defBody s_parts_of_text) (defScope s_parts_of_text) .none kV_parts_of_text dc_parts_of_text pm_parts_of_text an_parts_of_text cd_parts_of_text ct_parts_of_text), sl_parts_of_text⟩)
    (c_parts_of_text : PySem.W.codeIn K cd_parts_of_text "parts_of_text" = true)
    (k_parts_of_text : PySem.W.keepIn K (.ref f_parts_of_text) = true)
    {f_rank_of : Addr} {od_rank_of an_rank_of : Option Addr} {sl_rank_of : Array (Option Value)} {oc_rank_of kV_rank_of dc_rank_of pm_rank_of cd_rank_of ct_rank_of : Value}
    (n_rank_of : PySem.W.nsIn K mainGlobals "rank_of" = some (some (.ref f_rank_of)))
    (l_rank_of : K.lookup f_rank_of = some ⟨oc_rank_of, od_rank_of, .func (PySem.W.fnOf "rank_of" "rank_of" (defArgs s_rank_of) (defBody s_rank_of) (defScope s_rank_of) .none kV_rank_of dc_rank_of pm_rank_of an_rank_of cd_rank_of ct_rank_of), sl_rank_of⟩)
    (c_rank_of : PySem.W.codeIn K cd_rank_of "rank_of" = true)
    (k_rank_of : PySem.W.keepIn K (.ref f_rank_of) = true)
    {f_numbers_at : Addr} {od_numbers_at an_numbers_at : Option Addr} {sl_numbers_at : Array (Option Value)} {oc_numbers_at kV_numbers_at dc_numbers_at pm_numbers_at cd_numbers_at ct_numbers_at : Value}
    (n_numbers_at : PySem.W.nsIn K mainGlobals "numbers_at" = some (some (.ref f_numbers_at)))
    (l_numbers_at : K.lookup f_numbers_at = some ⟨oc_numbers_at, od_numbers_at, .func (PySem.W.fnOf "numbers_at" "numbers_at" (defArgs s_numbers_at) (defBody s_numbers_at) (defScope s_numbers_at) .none kV_numbers_at dc_numbers_at pm_numbers_at an_numbers_at cd_numbers_at ct_numbers_at), sl_numbers_at⟩)
    (c_numbers_at : PySem.W.codeIn K cd_numbers_at "numbers_at" = true)
    (k_numbers_at : PySem.W.keepIn K (.ref f_numbers_at) = true)
    {f_text_of_numbers : Addr} {od_text_of_numbers an_text_of_numbers : Option Addr} {sl_text_of_numbers : Array (Option Value)} {oc_text_of_numbers kV_text_of_numbers dc_text_of_numbers pm_text_of_numbers cd_text_of_numbers ct_text_of_numbers : Value}
    (n_text_of_numbers : PySem.W.nsIn K mainGlobals "text_of_numbers" = some (some (.ref f_text_of_numbers)))
    (l_text_of_numbers : K.lookup f_text_of_numbers = some ⟨oc_text_of_numbers, od_text_of_numbers, .func (PySem.W.fnOf "text_of_numbers" "text_of_numbers" (defArgs s_text_of_numbers) (defBody s_text_of_numbers) (defScope s_text_of_numbers) .none kV_text_of_numbers dc_text_of_numbers pm_text_of_numbers an_text_of_numbers cd_text_of_numbers ct_text_of_numbers), sl_text_of_numbers⟩)
    (c_text_of_numbers : PySem.W.codeIn K cd_text_of_numbers "text_of_numbers" = true)
    (k_text_of_numbers : PySem.W.keepIn K (.ref f_text_of_numbers) = true)
    {f_text_of_stage : Addr} {od_text_of_stage an_text_of_stage : Option Addr} {sl_text_of_stage : Array (Option Value)} {oc_text_of_stage kV_text_of_stage dc_text_of_stage pm_text_of_stage cd_text_of_stage ct_text_of_stage : Value}
    (n_text_of_stage : PySem.W.nsIn K mainGlobals "text_of_stage" = some (some (.ref f_text_of_stage)))
    (l_text_of_stage : K.lookup f_text_of_stage = some ⟨oc_text_of_stage, od_text_of_stage, .func (PySem.W.fnOf "text_of_stage" "text_of_stage" (defArgs s_text_of_stage) (defBody s_text_of_stage) (defScope s_text_of_stage) .none kV_text_of_stage dc_text_of_stage pm_text_of_stage an_text_of_stage cd_text_of_stage ct_text_of_stage), sl_text_of_stage⟩)
    (c_text_of_stage : PySem.W.codeIn K cd_text_of_stage "text_of_stage" = true)
    (k_text_of_stage : PySem.W.keepIn K (.ref f_text_of_stage) = true)
    {f_text_at : Addr} {od_text_at an_text_at : Option Addr} {sl_text_at : Array (Option Value)} {oc_text_at kV_text_at dc_text_at pm_text_at cd_text_at ct_text_at : Value}
    (n_text_at : PySem.W.nsIn K mainGlobals "text_at" = some (some (.ref f_text_at)))
    (l_text_at : K.lookup f_text_at = some ⟨oc_text_at, od_text_at, .func (PySem.W.fnOf "text_at" "text_at" (defArgs s_text_at) (defBody s_text_at) (defScope s_text_at) .none kV_text_at dc_text_at pm_text_at an_text_at cd_text_at ct_text_at), sl_text_at⟩)
    (c_text_at : PySem.W.codeIn K cd_text_at "text_at" = true)
    (k_text_at : PySem.W.keepIn K (.ref f_text_at) = true)
    {f_Version : Addr}
    {f_Version_init : Addr} {od_Version_init an_Version_init : Option Addr} {sl_Version_init : Array (Option Value)} {oc_Version_init kV_Version_init dc_Version_init pm_Version_init cd_Version_init ct_Version_init : Value}
    (n_Version : PySem.W.nsIn K mainGlobals "Version" = some (some (.ref f_Version)))
    (at_Version_init : PySem.W.findIn K (.ref f_Version) "__init__" = some (some (.ref f_Version_init)))
    (l_Version_init : K.lookup f_Version_init = some ⟨oc_Version_init, od_Version_init, .func (PySem.W.fnOf "__init__" "Version.__init__" (defArgs s_Version_init) (defBody s_Version_init) (defScope s_Version_init) .none kV_Version_init dc_Version_init pm_Version_init an_Version_init cd_Version_init ct_Version_init), sl_Version_init⟩)
    (c_Version_init : PySem.W.codeIn K cd_Version_init "Version.__init__" = true)
    (k_Version_init : PySem.W.keepIn K (.ref f_Version_init) = true)
    {f_Version_of : Addr} {od_Version_of an_Version_of : Option Addr} {sl_Version_of : Array (Option Value)} {oc_Version_of kV_Version_of dc_Version_of pm_Version_of cd_Version_of ct_Version_of : Value}
    {p_Version_of : Addr} {r_Version_of : List Value}
    (at_Version_of : PySem.W.findCls K (.ref f_Version) (.type "type") "of" = some (.get (.builtin "classmethod.__get__") (.ref p_Version_of) .none (.ref f_Version)))
    (rc_Version_of : PySem.W.recIn K p_Version_of "classmethod" = some (.ref f_Version_of :: r_Version_of))
    (l_Version_of : K.lookup f_Version_of = some ⟨oc_Version_of, od_Version_of, .func (PySem.W.fnOf "of" "Version.of" (defArgs s_Version_of) (defBody s_Version_of) (defScope s_Version_of) .none kV_Version_of dc_Version_of pm_Version_of an_Version_of cd_Version_of ct_Version_of), sl_Version_of⟩)
    (c_Version_of : PySem.W.codeIn K cd_Version_of "Version.of" = true)
    (k_Version_of : PySem.W.keepIn K (.ref f_Version_of) = true)
    {f_Version_at : Addr} {od_Version_at an_Version_at : Option Addr} {sl_Version_at : Array (Option Value)} {oc_Version_at kV_Version_at dc_Version_at pm_Version_at cd_Version_at ct_Version_at : Value}
    {p_Version_at : Addr} {r_Version_at : List Value}
    (at_Version_at : PySem.W.findCls K (.ref f_Version) (.type "type") "at" = some (.get (.builtin "classmethod.__get__") (.ref p_Version_at) .none (.ref f_Version)))
    (rc_Version_at : PySem.W.recIn K p_Version_at "classmethod" = some (.ref f_Version_at :: r_Version_at))
    (l_Version_at : K.lookup f_Version_at = some ⟨oc_Version_at, od_Version_at, .func (PySem.W.fnOf "at" "Version.at" (defArgs s_Version_at) (defBody s_Version_at) (defScope s_Version_at) .none kV_Version_at dc_Version_at pm_Version_at an_Version_at cd_Version_at ct_Version_at), sl_Version_at⟩)
    (c_Version_at : PySem.W.codeIn K cd_Version_at "Version.at" = true)
    (k_Version_at : PySem.W.keepIn K (.ref f_Version_at) = true)
    {f_Version_numbers : Addr} {od_Version_numbers an_Version_numbers : Option Addr} {sl_Version_numbers : Array (Option Value)} {oc_Version_numbers kV_Version_numbers dc_Version_numbers pm_Version_numbers cd_Version_numbers ct_Version_numbers : Value}
    {p_Version_numbers : Addr} {r_Version_numbers : List Value}
    (at_Version_numbers : PySem.W.findIn K (.ref f_Version) "numbers" = some (some (.ref p_Version_numbers)))
    (rc_Version_numbers : PySem.W.recIn K p_Version_numbers "property" = some (.ref f_Version_numbers :: r_Version_numbers))
    (l_Version_numbers : K.lookup f_Version_numbers = some ⟨oc_Version_numbers, od_Version_numbers, .func (PySem.W.fnOf "numbers" "Version.numbers" (defArgs s_Version_numbers) (defBody s_Version_numbers) (defScope s_Version_numbers) .none kV_Version_numbers dc_Version_numbers pm_Version_numbers an_Version_numbers cd_Version_numbers ct_Version_numbers), sl_Version_numbers⟩)
    (c_Version_numbers : PySem.W.codeIn K cd_Version_numbers "Version.numbers" = true)
    (k_Version_numbers : PySem.W.keepIn K (.ref f_Version_numbers) = true)
    {f_Version_is_early : Addr} {od_Version_is_early an_Version_is_early : Option Addr} {sl_Version_is_early : Array (Option Value)} {oc_Version_is_early kV_Version_is_early dc_Version_is_early pm_Version_is_early cd_Version_is_early ct_Version_is_early : Value}
    {p_Version_is_early : Addr} {r_Version_is_early : List Value}
    (at_Version_is_early : PySem.W.findIn K (.ref f_Version) "is_early" = some (some (.ref p_Version_is_early)))
    (rc_Version_is_early : PySem.W.recIn K p_Version_is_early "property" = some (.ref f_Version_is_early :: r_Version_is_early))
    (l_Version_is_early : K.lookup f_Version_is_early = some ⟨oc_Version_is_early, od_Version_is_early, .func (PySem.W.fnOf "is_early" "Version.is_early" (defArgs s_Version_is_early) (defBody s_Version_is_early) (defScope s_Version_is_early) .none kV_Version_is_early dc_Version_is_early pm_Version_is_early an_Version_is_early cd_Version_is_early ct_Version_is_early), sl_Version_is_early⟩)
    (c_Version_is_early : PySem.W.codeIn K cd_Version_is_early "Version.is_early" = true)
    (k_Version_is_early : PySem.W.keepIn K (.ref f_Version_is_early) = true)
    {f_Version_rank : Addr} {od_Version_rank an_Version_rank : Option Addr} {sl_Version_rank : Array (Option Value)} {oc_Version_rank kV_Version_rank dc_Version_rank pm_Version_rank cd_Version_rank ct_Version_rank : Value}
    {p_Version_rank : Addr} {r_Version_rank : List Value}
    (at_Version_rank : PySem.W.findIn K (.ref f_Version) "rank" = some (some (.ref p_Version_rank)))
    (rc_Version_rank : PySem.W.recIn K p_Version_rank "property" = some (.ref f_Version_rank :: r_Version_rank))
    (l_Version_rank : K.lookup f_Version_rank = some ⟨oc_Version_rank, od_Version_rank, .func (PySem.W.fnOf "rank" "Version.rank" (defArgs s_Version_rank) (defBody s_Version_rank) (defScope s_Version_rank) .none kV_Version_rank dc_Version_rank pm_Version_rank an_Version_rank cd_Version_rank ct_Version_rank), sl_Version_rank⟩)
    (c_Version_rank : PySem.W.codeIn K cd_Version_rank "Version.rank" = true)
    (k_Version_rank : PySem.W.keepIn K (.ref f_Version_rank) = true)
    {f_Version_str : Addr} {od_Version_str an_Version_str : Option Addr} {sl_Version_str : Array (Option Value)} {oc_Version_str kV_Version_str dc_Version_str pm_Version_str cd_Version_str ct_Version_str : Value}
    (at_Version_str : PySem.W.findIn K (.ref f_Version) "__str__" = some (some (.ref f_Version_str)))
    (l_Version_str : K.lookup f_Version_str = some ⟨oc_Version_str, od_Version_str, .func (PySem.W.fnOf "__str__" "Version.__str__" (defArgs s_Version_str) (defBody s_Version_str) (defScope s_Version_str) .none kV_Version_str dc_Version_str pm_Version_str an_Version_str cd_Version_str ct_Version_str), sl_Version_str⟩)
    (c_Version_str : PySem.W.codeIn K cd_Version_str "Version.__str__" = true)
    (k_Version_str : PySem.W.keepIn K (.ref f_Version_str) = true)
    {f_begin : Addr} {od_begin an_begin : Option Addr} {sl_begin : Array (Option Value)} {oc_begin kV_begin dc_begin pm_begin cd_begin ct_begin : Value}
    (n_begin : PySem.W.nsIn K mainGlobals "_law_begin" = some (some (.ref f_begin)))
    (l_begin : K.lookup f_begin = some ⟨oc_begin, od_begin, .func (PySem.W.fnOf "_law_begin" "_law_begin" (defArgs s_begin) (defBody s_begin) (defScope s_begin) .none kV_begin dc_begin pm_begin an_begin cd_begin ct_begin), sl_begin⟩)
    (c_begin : PySem.W.codeIn K cd_begin "_law_begin" = true)
    (k_begin : PySem.W.keepIn K (.ref f_begin) = true)
    {f_mixed : Addr} {od_mixed an_mixed : Option Addr} {sl_mixed : Array (Option Value)} {oc_mixed kV_mixed dc_mixed pm_mixed cd_mixed ct_mixed : Value}
    (n_mixed : PySem.W.nsIn K mainGlobals "_law_mixed" = some (some (.ref f_mixed)))
    (l_mixed : K.lookup f_mixed = some ⟨oc_mixed, od_mixed, .func (PySem.W.fnOf "_law_mixed" "_law_mixed" (defArgs s_mixed) (defBody s_mixed) (defScope s_mixed) .none kV_mixed dc_mixed pm_mixed an_mixed cd_mixed ct_mixed), sl_mixed⟩)
    (c_mixed : PySem.W.codeIn K cd_mixed "_law_mixed" = true)
    (k_mixed : PySem.W.keepIn K (.ref f_mixed) = true)
    {f_next : Addr} {od_next an_next : Option Addr} {sl_next : Array (Option Value)} {oc_next kV_next dc_next pm_next cd_next ct_next : Value}
    (n_next : PySem.W.nsIn K mainGlobals "_law_next" = some (some (.ref f_next)))
    (l_next : K.lookup f_next = some ⟨oc_next, od_next, .func (PySem.W.fnOf "_law_next" "_law_next" (defArgs s_next) (defBody s_next) (defScope s_next) .none kV_next dc_next pm_next an_next cd_next ct_next), sl_next⟩)
    (c_next : PySem.W.codeIn K cd_next "_law_next" = true)
    (k_next : PySem.W.keepIn K (.ref f_next) = true)
    {f_number : Addr} {od_number an_number : Option Addr} {sl_number : Array (Option Value)} {oc_number kV_number dc_number pm_number cd_number ct_number : Value}
    (n_number : PySem.W.nsIn K mainGlobals "_law_number" = some (some (.ref f_number)))
    (l_number : K.lookup f_number = some ⟨oc_number, od_number, .func (PySem.W.fnOf "_law_number" "_law_number" (defArgs s_number) (defBody s_number) (defScope s_number) .none kV_number dc_number pm_number an_number cd_number ct_number), sl_number⟩)
    (c_number : PySem.W.codeIn K cd_number "_law_number" = true)
    (k_number : PySem.W.keepIn K (.ref f_number) = true)
    {f_parts : Addr} {od_parts an_parts : Option Addr} {sl_parts : Array (Option Value)} {oc_parts kV_parts dc_parts pm_parts cd_parts ct_parts : Value}
    (n_parts : PySem.W.nsIn K mainGlobals "_law_parts" = some (some (.ref f_parts)))
    (l_parts : K.lookup f_parts = some ⟨oc_parts, od_parts, .func (PySem.W.fnOf "_law_parts" "_law_parts" (defArgs s_parts) (defBody s_parts) (defScope s_parts) .none kV_parts dc_parts pm_parts an_parts cd_parts ct_parts), sl_parts⟩)
    (c_parts : PySem.W.codeIn K cd_parts "_law_parts" = true)
    (k_parts : PySem.W.keepIn K (.ref f_parts) = true)
    {f_written : Addr} {od_written an_written : Option Addr} {sl_written : Array (Option Value)} {oc_written kV_written dc_written pm_written cd_written ct_written : Value}
    (n_written : PySem.W.nsIn K mainGlobals "_law_written" = some (some (.ref f_written)))
    (l_written : K.lookup f_written = some ⟨oc_written, od_written, .func (PySem.W.fnOf "_law_written" "_law_written" (defArgs s_written) (defBody s_written) (defScope s_written) .none kV_written dc_written pm_written an_written cd_written ct_written), sl_written⟩)
    (c_written : PySem.W.codeIn K cd_written "_law_written" = true)
    (k_written : PySem.W.keepIn K (.ref f_written) = true)
    {f_row : Addr} {od_row an_row : Option Addr} {sl_row : Array (Option Value)} {oc_row kV_row dc_row pm_row cd_row ct_row : Value}
    (n_row : PySem.W.nsIn K mainGlobals "_law_row" = some (some (.ref f_row)))
    (l_row : K.lookup f_row = some ⟨oc_row, od_row, .func (PySem.W.fnOf "_law_row" "_law_row" (defArgs s_row) (defBody s_row) (defScope s_row) .none kV_row dc_row pm_row an_row cd_row ct_row), sl_row⟩)
    (c_row : PySem.W.codeIn K cd_row "_law_row" = true)
    (k_row : PySem.W.keepIn K (.ref f_row) = true)
    {f_rank : Addr} {od_rank an_rank : Option Addr} {sl_rank : Array (Option Value)} {oc_rank kV_rank dc_rank pm_rank cd_rank ct_rank : Value}
    (n_rank : PySem.W.nsIn K mainGlobals "_law_rank" = some (some (.ref f_rank)))
    (l_rank : K.lookup f_rank = some ⟨oc_rank, od_rank, .func (PySem.W.fnOf "_law_rank" "_law_rank" (defArgs s_rank) (defBody s_rank) (defScope s_rank) .none kV_rank dc_rank pm_rank an_rank cd_rank ct_rank), sl_rank⟩)
    (c_rank : PySem.W.codeIn K cd_rank "_law_rank" = true)
    (k_rank : PySem.W.keepIn K (.ref f_rank) = true)
    {f_short : Addr} {od_short an_short : Option Addr} {sl_short : Array (Option Value)} {oc_short kV_short dc_short pm_short cd_short ct_short : Value}
    (n_short : PySem.W.nsIn K mainGlobals "_law_short" = some (some (.ref f_short)))
    (l_short : K.lookup f_short = some ⟨oc_short, od_short, .func (PySem.W.fnOf "_law_short" "_law_short" (defArgs s_short) (defBody s_short) (defScope s_short) .none kV_short dc_short pm_short an_short cd_short ct_short), sl_short⟩)
    (c_short : PySem.W.codeIn K cd_short "_law_short" = true)
    (k_short : PySem.W.keepIn K (.ref f_short) = true)
    {f_bent : Addr} {od_bent an_bent : Option Addr} {sl_bent : Array (Option Value)} {oc_bent kV_bent dc_bent pm_bent cd_bent ct_bent : Value}
    (n_bent : PySem.W.nsIn K mainGlobals "_law_bent" = some (some (.ref f_bent)))
    (l_bent : K.lookup f_bent = some ⟨oc_bent, od_bent, .func (PySem.W.fnOf "_law_bent" "_law_bent" (defArgs s_bent) (defBody s_bent) (defScope s_bent) .none kV_bent dc_bent pm_bent an_bent cd_bent ct_bent), sl_bent⟩)
    (c_bent : PySem.W.codeIn K cd_bent "_law_bent" = true)
    (k_bent : PySem.W.keepIn K (.ref f_bent) = true)
    {f_figure : Addr} {od_figure an_figure : Option Addr} {sl_figure : Array (Option Value)} {oc_figure kV_figure dc_figure pm_figure cd_figure ct_figure : Value}
    (n_figure : PySem.W.nsIn K mainGlobals "_law_figure" = some (some (.ref f_figure)))
    (l_figure : K.lookup f_figure = some ⟨oc_figure, od_figure, .func (PySem.W.fnOf "_law_figure" "_law_figure" (defArgs s_figure) (defBody s_figure) (defScope s_figure) .none kV_figure dc_figure pm_figure an_figure cd_figure ct_figure), sl_figure⟩)
    (c_figure : PySem.W.codeIn K cd_figure "_law_figure" = true)
    (k_figure : PySem.W.keepIn K (.ref f_figure) = true)
    {f_read : Addr} {od_read an_read : Option Addr} {sl_read : Array (Option Value)} {oc_read kV_read dc_read pm_read cd_read ct_read : Value}
    (n_read : PySem.W.nsIn K mainGlobals "_law_read" = some (some (.ref f_read)))
    (l_read : K.lookup f_read = some ⟨oc_read, od_read, .func (PySem.W.fnOf "_law_read" "_law_read" (defArgs s_read) (defBody s_read) (defScope s_read) .none kV_read dc_read pm_read an_read cd_read ct_read), sl_read⟩)
    (c_read : PySem.W.codeIn K cd_read "_law_read" = true)
    (k_read : PySem.W.keepIn K (.ref f_read) = true)
    {f_word : Addr} {od_word an_word : Option Addr} {sl_word : Array (Option Value)} {oc_word kV_word dc_word pm_word cd_word ct_word : Value}
    (n_word : PySem.W.nsIn K mainGlobals "_law_word" = some (some (.ref f_word)))
    (l_word : K.lookup f_word = some ⟨oc_word, od_word, .func (PySem.W.fnOf "_law_word" "_law_word" (defArgs s_word) (defBody s_word) (defScope s_word) .none kV_word dc_word pm_word an_word cd_word ct_word), sl_word⟩)
    (c_word : PySem.W.codeIn K cd_word "_law_word" = true)
    (k_word : PySem.W.keepIn K (.ref f_word) = true)
    {f_is_of : Addr} {od_is_of an_is_of : Option Addr} {sl_is_of : Array (Option Value)} {oc_is_of kV_is_of dc_is_of pm_is_of cd_is_of ct_is_of : Value}
    (n_is_of : PySem.W.nsIn K mainGlobals "_law_is_of" = some (some (.ref f_is_of)))
    (l_is_of : K.lookup f_is_of = some ⟨oc_is_of, od_is_of, .func (PySem.W.fnOf "_law_is_of" "_law_is_of" (defArgs s_is_of) (defBody s_is_of) (defScope s_is_of) .none kV_is_of dc_is_of pm_is_of an_is_of cd_is_of ct_is_of), sl_is_of⟩)
    (c_is_of : PySem.W.codeIn K cd_is_of "_law_is_of" = true)
    (k_is_of : PySem.W.keepIn K (.ref f_is_of) = true)
    {f_read_right : Addr} {od_read_right an_read_right : Option Addr} {sl_read_right : Array (Option Value)} {oc_read_right kV_read_right dc_read_right pm_read_right cd_read_right ct_read_right : Value}
    (n_read_right : PySem.W.nsIn K mainGlobals "_law_read_right" = some (some (.ref f_read_right)))
    (l_read_right : K.lookup f_read_right = some ⟨oc_read_right, od_read_right, .func (PySem.W.fnOf "_law_read_right" "_law_read_right" (defArgs s_read_right) (defBody s_read_right) (defScope s_read_right) .none kV_read_right dc_read_right pm_read_right an_read_right cd_read_right ct_read_right), sl_read_right⟩)
    (c_read_right : PySem.W.codeIn K cd_read_right "_law_read_right" = true)
    (k_read_right : PySem.W.keepIn K (.ref f_read_right) = true)
    {f_of_word : Addr} {od_of_word an_of_word : Option Addr} {sl_of_word : Array (Option Value)} {oc_of_word kV_of_word dc_of_word pm_of_word cd_of_word ct_of_word : Value}
    (n_of_word : PySem.W.nsIn K mainGlobals "_law_of_word" = some (some (.ref f_of_word)))
    (l_of_word : K.lookup f_of_word = some ⟨oc_of_word, od_of_word, .func (PySem.W.fnOf "_law_of_word" "_law_of_word" (defArgs s_of_word) (defBody s_of_word) (defScope s_of_word) .none kV_of_word dc_of_word pm_of_word an_of_word cd_of_word ct_of_word), sl_of_word⟩)
    (c_of_word : PySem.W.codeIn K cd_of_word "_law_of_word" = true)
    (k_of_word : PySem.W.keepIn K (.ref f_of_word) = true)
    {f_of_right : Addr} {od_of_right an_of_right : Option Addr} {sl_of_right : Array (Option Value)} {oc_of_right kV_of_right dc_of_right pm_of_right cd_of_right ct_of_right : Value}
    (n_of_right : PySem.W.nsIn K mainGlobals "_law_of_right" = some (some (.ref f_of_right)))
    (l_of_right : K.lookup f_of_right = some ⟨oc_of_right, od_of_right, .func (PySem.W.fnOf "_law_of_right" "_law_of_right" (defArgs s_of_right) (defBody s_of_right) (defScope s_of_right) .none kV_of_right dc_of_right pm_of_right an_of_right cd_of_right ct_of_right), sl_of_right⟩)
    (c_of_right : PySem.W.codeIn K cd_of_right "_law_of_right" = true)
    (k_of_right : PySem.W.keepIn K (.ref f_of_right) = true)
    {f_law : Addr} {od_law an_law : Option Addr} {sl_law : Array (Option Value)} {oc_law kV_law dc_law pm_law cd_law ct_law : Value}
    (n_law : PySem.W.nsIn K mainGlobals "law" = some (some (.ref f_law)))
    (l_law : K.lookup f_law = some ⟨oc_law, od_law, .func (PySem.W.fnOf "law" "law" (defArgs s_law) (defBody s_law) (defScope s_law) .none kV_law dc_law pm_law an_law cd_law ct_law), sl_law⟩)
    (c_law : PySem.W.codeIn K cd_law "law" = true)
    (k_law : PySem.W.keepIn K (.ref f_law) = true)
    {f_BadVersion : Addr}
    {f_BadVersion_init : Addr} {od_BadVersion_init an_BadVersion_init : Option Addr} {sl_BadVersion_init : Array (Option Value)} {oc_BadVersion_init kV_BadVersion_init dc_BadVersion_init pm_BadVersion_init cd_BadVersion_init ct_BadVersion_init : Value}
    (n_BadVersion : PySem.W.nsIn K mainGlobals "BadVersion" = some (some (.ref f_BadVersion)))
    (at_BadVersion_init : PySem.W.findIn K (.ref f_BadVersion) "__init__" = some (some (.ref f_BadVersion_init)))
    (l_BadVersion_init : K.lookup f_BadVersion_init = some ⟨oc_BadVersion_init, od_BadVersion_init, .func (PySem.W.fnOf "__init__" "BadVersion.__init__" (defArgs s_BadVersion_init) (defBody s_BadVersion_init) (defScope s_BadVersion_init) .none kV_BadVersion_init dc_BadVersion_init pm_BadVersion_init an_BadVersion_init cd_BadVersion_init ct_BadVersion_init), sl_BadVersion_init⟩)
    (c_BadVersion_init : PySem.W.codeIn K cd_BadVersion_init "BadVersion.__init__" = true)
    (k_BadVersion_init : PySem.W.keepIn K (.ref f_BadVersion_init) = true)
    {f_BadCount : Addr}
    {f_BadCount_init : Addr} {od_BadCount_init an_BadCount_init : Option Addr} {sl_BadCount_init : Array (Option Value)} {oc_BadCount_init kV_BadCount_init dc_BadCount_init pm_BadCount_init cd_BadCount_init ct_BadCount_init : Value}
    (n_BadCount : PySem.W.nsIn K mainGlobals "BadCount" = some (some (.ref f_BadCount)))
    (at_BadCount_init : PySem.W.findIn K (.ref f_BadCount) "__init__" = some (some (.ref f_BadCount_init)))
    (l_BadCount_init : K.lookup f_BadCount_init = some ⟨oc_BadCount_init, od_BadCount_init, .func (PySem.W.fnOf "__init__" "BadCount.__init__" (defArgs s_BadCount_init) (defBody s_BadCount_init) (defScope s_BadCount_init) .none kV_BadCount_init dc_BadCount_init pm_BadCount_init an_BadCount_init cd_BadCount_init ct_BadCount_init), sl_BadCount_init⟩)
    (c_BadCount_init : PySem.W.codeIn K cd_BadCount_init "BadCount.__init__" = true)
    (k_BadCount_init : PySem.W.keepIn K (.ref f_BadCount_init) = true)
    {nm_BadVersion qn_BadVersion : Str} {N_BadVersion : Addr} {bs_BadVersion bm_BadVersion : List Value} {sn_BadVersion : List Str} {sub_BadVersion : List Value} {ab_BadVersion : Bool} {col_BadVersion : Option Bool} {dd_BadVersion : Option Addr} {k0_BadVersion k1_BadVersion k2_BadVersion k3_BadVersion k5_BadVersion : Option Value}
    (xl_BadVersion : K.lookup f_BadVersion = some (excClassObj nm_BadVersion qn_BadVersion f_BadVersion N_BadVersion bs_BadVersion bm_BadVersion true sn_BadVersion sub_BadVersion ab_BadVersion col_BadVersion dd_BadVersion k0_BadVersion k1_BadVersion k2_BadVersion k3_BadVersion k5_BadVersion "ValueError.__new__"))
    (xr_BadVersion : PySem.HandSPX.refsVE bm_BadVersion = true)
    (xsa_BadVersion : PySem.W.findIn K (.ref f_BadVersion) "__setattr__" = some (some (.builtin "object.__setattr__")))
    (xb_BadVersion : PySem.W.subIn K (.ref f_BadVersion) (.type "BaseException") = some true)
    (xd_BadVersion : PySem.W.hasDictIn K f_BadVersion = true)
    (xy_BadVersion : PySem.W.typeIn K (.ref f_BadVersion) = some (.type "type"))
    (xk_BadVersion : PySem.W.keepIn K (.ref f_BadVersion) = true)
    (xg_BadVersion : PySem.W.findIn K (.ref f_BadVersion) "__getattribute__" = some (some (.builtin "BaseException.__getattribute__")))
    (xh_BadVersion : PySem.W.findIn K (.ref f_BadVersion) "__getattr__" = some none)
    (xc_BadVersion : PySem.W.findIn K (.ref f_BadVersion) "__class__" = some (some (.builtin "object.__class__")))
    (xn_BadVersion : PySem.W.specialIn K (.builtin "object.__class__") "__get__" = some (some (.builtin "getset_descriptor.__get__")))
    (xq_BadVersion : PySem.W.takesIn K (.builtin "object.__class__") = some true)
    (xm_BadVersion : PySem.W.mroIn K f_BadVersion (.type "object") = some true)
    (xt_BadVersion : PySem.W.typeIn K (.ref f_BadVersion_init) = some (.type "function"))
    (xf_BadVersion : PySem.W.findIn K (.ref f_BadVersion) "given" = some none)
    (xz_BadVersion : PySem.W.subIn K (.ref f_BadVersion) (.ref f_BadVersion) = some true)
    {nm_BadCount qn_BadCount : Str} {N_BadCount : Addr} {bs_BadCount bm_BadCount : List Value} {sn_BadCount : List Str} {sub_BadCount : List Value} {ab_BadCount : Bool} {col_BadCount : Option Bool} {dd_BadCount : Option Addr} {k0_BadCount k1_BadCount k2_BadCount k3_BadCount k5_BadCount : Option Value}
    (xl_BadCount : K.lookup f_BadCount = some (excClassObj nm_BadCount qn_BadCount f_BadCount N_BadCount bs_BadCount bm_BadCount true sn_BadCount sub_BadCount ab_BadCount col_BadCount dd_BadCount k0_BadCount k1_BadCount k2_BadCount k3_BadCount k5_BadCount "ValueError.__new__"))
    (xr_BadCount : PySem.HandSPX.refsVE bm_BadCount = true)
    (xsa_BadCount : PySem.W.findIn K (.ref f_BadCount) "__setattr__" = some (some (.builtin "object.__setattr__")))
    (xb_BadCount : PySem.W.subIn K (.ref f_BadCount) (.type "BaseException") = some true)
    (xd_BadCount : PySem.W.hasDictIn K f_BadCount = true)
    (xy_BadCount : PySem.W.typeIn K (.ref f_BadCount) = some (.type "type"))
    (xk_BadCount : PySem.W.keepIn K (.ref f_BadCount) = true)
    (xg_BadCount : PySem.W.findIn K (.ref f_BadCount) "__getattribute__" = some (some (.builtin "BaseException.__getattribute__")))
    (xh_BadCount : PySem.W.findIn K (.ref f_BadCount) "__getattr__" = some none)
    (xc_BadCount : PySem.W.findIn K (.ref f_BadCount) "__class__" = some (some (.builtin "object.__class__")))
    (xn_BadCount : PySem.W.specialIn K (.builtin "object.__class__") "__get__" = some (some (.builtin "getset_descriptor.__get__")))
    (xq_BadCount : PySem.W.takesIn K (.builtin "object.__class__") = some true)
    (xm_BadCount : PySem.W.mroIn K f_BadCount (.type "object") = some true)
    (xt_BadCount : PySem.W.typeIn K (.ref f_BadCount_init) = some (.type "function"))
    (xf_BadCount : PySem.W.findIn K (.ref f_BadCount) "given" = some none)
    (xz_BadCount : PySem.W.subIn K (.ref f_BadCount) (.ref f_BadCount) = some true)
    {f_ParcelError : Addr}
    (n_ParcelError : PySem.W.nsIn K mainGlobals "ParcelError" = some (some (.ref f_ParcelError)))
    (xb_ParcelError : PySem.W.subIn K (.ref f_ParcelError) (.type "BaseException") = some true)
    (xd_ParcelError : PySem.W.hasDictIn K f_ParcelError = true)
    (xy_ParcelError : PySem.W.typeIn K (.ref f_ParcelError) = some (.type "type"))
    (xz_ParcelError : PySem.W.subIn K (.ref f_ParcelError) (.ref f_ParcelError) = some true)
    {f_ChoiceError : Addr}
    (n_ChoiceError : PySem.W.nsIn K mainGlobals "ChoiceError" = some (some (.ref f_ChoiceError)))
    (xb_ChoiceError : PySem.W.subIn K (.ref f_ChoiceError) (.type "BaseException") = some true)
    (xd_ChoiceError : PySem.W.hasDictIn K f_ChoiceError = true)
    (xy_ChoiceError : PySem.W.typeIn K (.ref f_ChoiceError) = some (.type "type"))
    (xz_ChoiceError : PySem.W.subIn K (.ref f_ChoiceError) (.ref f_ChoiceError) = some true)
    {f_AbsentError : Addr}
    (n_AbsentError : PySem.W.nsIn K mainGlobals "AbsentError" = some (some (.ref f_AbsentError)))
    (xb_AbsentError : PySem.W.subIn K (.ref f_AbsentError) (.type "BaseException") = some true)
    (xd_AbsentError : PySem.W.hasDictIn K f_AbsentError = true)
    (xy_AbsentError : PySem.W.typeIn K (.ref f_AbsentError) = some (.type "type"))
    (xz_AbsentError : PySem.W.subIn K (.ref f_AbsentError) (.ref f_AbsentError) = some true)
    (xs_BadVersion_ParcelError : PySem.W.subIn K (.ref f_BadVersion) (.ref f_ParcelError) = some true)
    (xs_BadVersion_ChoiceError : PySem.W.subIn K (.ref f_BadVersion) (.ref f_ChoiceError) = some false)
    (xs_BadVersion_AbsentError : PySem.W.subIn K (.ref f_BadVersion) (.ref f_AbsentError) = some false)
    (xs_BadVersion_BadVersion : PySem.W.subIn K (.ref f_BadVersion) (.ref f_BadVersion) = some true)
    (xs_BadVersion_BadCount : PySem.W.subIn K (.ref f_BadVersion) (.ref f_BadCount) = some false)
    (xs_BadCount_ParcelError : PySem.W.subIn K (.ref f_BadCount) (.ref f_ParcelError) = some true)
    (xs_BadCount_ChoiceError : PySem.W.subIn K (.ref f_BadCount) (.ref f_ChoiceError) = some false)
    (xs_BadCount_AbsentError : PySem.W.subIn K (.ref f_BadCount) (.ref f_AbsentError) = some false)
    (xs_BadCount_BadVersion : PySem.W.subIn K (.ref f_BadCount) (.ref f_BadVersion) = some false)
    (xs_BadCount_BadCount : PySem.W.subIn K (.ref f_BadCount) (.ref f_BadCount) = some true)
    (pg_Version : PySem.W.plainGet K f_Version Str.empty = true)
    (hd_Version : PySem.W.hasDictIn K f_Version = true)
    (po_Version : PySem.W.plainOver K f_Version = true)
    (sa_Version : PySem.W.findIn K (.ref f_Version) "__setattr__" = some (some (.builtin "object.__setattr__")))
    (mk_Version : PySem.W.makesIn K f_Version = true)
    (kc_Version : PySem.W.keepIn K (.ref f_Version) = true)
    (rd_Version : PySem.W.readsIn K f_Version (.type "type") = true)
    (ga_Version : PySem.W.specialIn K (.ref f_Version) "__getattribute__" = some (some (.builtin "type.__getattribute__")))
    (ca_Version : PySem.W.findIn K (.ref f_Version) "__class__" = some (some (.builtin "object.__class__")))
    (cn_Version : PySem.W.specialIn K (.builtin "object.__class__") "__get__" = some (some (.builtin "getset_descriptor.__get__")))
    (ct_Version : PySem.W.takesIn K (.builtin "object.__class__") = some true)
    (cm_Version : PySem.W.mroIn K f_Version (.type "object") = some true)
    (nf_Version : PySem.W.notFirst K f_Version (.ref f_Version) = true)
    (fn_Version_init : PySem.W.isFn K (.ref f_Version_init) = true)
    (na_Version_rank : PySem.W.findIn K (.ref f_Version) "_rank" = some none)
    (fi_Version_of : PySem.W.fnIn K f_Version_of = true)
    (fi_Version_at : PySem.W.fnIn K f_Version_at = true)
    (ge_Version_numbers : PySem.W.specialIn K (.ref p_Version_numbers) "__get__" = some (some (.builtin "property.__get__")))
    (tk_Version_numbers : PySem.W.takesIn K (.ref p_Version_numbers) = some true)
    (ge_Version_is_early : PySem.W.specialIn K (.ref p_Version_is_early) "__get__" = some (some (.builtin "property.__get__")))
    (tk_Version_is_early : PySem.W.takesIn K (.ref p_Version_is_early) = some true)
    (ge_Version_rank : PySem.W.specialIn K (.ref p_Version_rank) "__get__" = some (some (.builtin "property.__get__")))
    (tk_Version_rank : PySem.W.takesIn K (.ref p_Version_rank) = some true)
    (fn_Version_str : PySem.W.isFn K (.ref f_Version_str) = true)
    {t_Version_LAST : Tok}
    (cv_Version_LAST : PySem.W.findCls K (.ref f_Version) (.type "type") "LAST" = some (.val (.int 3000999999999999 t_Version_LAST)))
    {t_DIGITS : Tok}
    (g_DIGITS : PySem.W.nsIn K mainGlobals "DIGITS" = some (some (.str "0123456789" t_DIGITS)))
    {k_STAGES : Addr} {od_STAGES : Option Addr} {sl_STAGES : Array (Option Value)} {nn_STAGES : Nat} {t_STAGES0 : Tok} {t_STAGES1 : Tok} {t_STAGES2 : Tok}
    (g_STAGES : PySem.W.nsIn K mainGlobals "STAGES" = some (some (.ref k_STAGES)))
    (w_STAGES : K.lookup k_STAGES = some ⟨.type "tuple", od_STAGES, .seq #[.str "a" t_STAGES0, .str "b" t_STAGES1, .str "rc" t_STAGES2] nn_STAGES, sl_STAGES⟩)
    {t_FINAL : Tok}
    (g_FINAL : PySem.W.nsIn K mainGlobals "FINAL" = some (some (.int 3000 t_FINAL)))
    {t_WIDTH : Tok}
    (g_WIDTH : PySem.W.nsIn K mainGlobals "WIDTH" = some (some (.int 3001 t_WIDTH)))
    {t_GREATEST : Tok}
    (g_GREATEST : PySem.W.nsIn K mainGlobals "GREATEST" = some (some (.int 999 t_GREATEST)))
    (z_all : PySem.W.nsIn K mainGlobals "all" = some none)
    (z_bool : PySem.W.nsIn K mainGlobals "bool" = some none)
    (z_enumerate : PySem.W.nsIn K mainGlobals "enumerate" = some none)
    (z_int : PySem.W.nsIn K mainGlobals "int" = some none)
    (z_isinstance : PySem.W.nsIn K mainGlobals "isinstance" = some none)
    (z_len : PySem.W.nsIn K mainGlobals "len" = some none)
    (z_list : PySem.W.nsIn K mainGlobals "list" = some none)
    (z_min : PySem.W.nsIn K mainGlobals "min" = some none)
    (z_range : PySem.W.nsIn K mainGlobals "range" = some none)
    (z_repr : PySem.W.nsIn K mainGlobals "repr" = some none)
    (z_str : PySem.W.nsIn K mainGlobals "str" = some none)
    (z_tuple : PySem.W.nsIn K mainGlobals "tuple" = some none) :
    ∃ fd : FuncData, (∀ (s : Shared) (v : Value), BindsTo s fd ⟨[v], []⟩ [("_law_script", v)]) ∧ ∀ base : Heap, K.In base → base.Ns mainGlobals mg → FnG l.prog w K mg base 15 fa fd ["_law_script"] (spLaw K) := by
  have e0 := hfa.symm.trans (PySem.W.mg_of X G n_law)
  have e : f_law = fa := by
    cases e0
    rfl
  subst e
  have F_is_whole := fun_mk (st := s_is_whole) l_is_whole c_is_whole k_is_whole
  have B_is_whole := F_is_whole.binds (ps := P_is_whole) fun _ _ _ _ _ _ us hl => match us, hl with | [_], _ => rfl
  have F_is_count := fun_mk (st := s_is_count) l_is_count c_is_count k_is_count
  have B_is_count := F_is_count.binds (ps := P_is_count) fun _ _ _ _ _ _ us hl => match us, hl with | [_], _ => rfl
  have F_is_whole_to := fun_mk (st := s_is_whole_to) l_is_whole_to c_is_whole_to k_is_whole_to
  have B_is_whole_to := F_is_whole_to.binds (ps := P_is_whole_to) fun _ _ _ _ _ _ us hl => match us, hl with | [_, _], _ => rfl
  have F_consists_of := fun_mk (st := s_consists_of) l_consists_of c_consists_of k_consists_of
  have B_consists_of := F_consists_of.binds (ps := P_consists_of) fun _ _ _ _ _ _ us hl => match us, hl with | [_, _], _ => rfl
  have F_is_string_of := fun_mk (st := s_is_string_of) l_is_string_of c_is_string_of k_is_string_of
  have B_is_string_of := F_is_string_of.binds (ps := P_is_string_of) fun _ _ _ _ _ _ us hl => match us, hl with | [_, _, _], _ => rfl
  have F_number_in := fun_mk (st := s_number_in) l_number_in c_number_in k_number_in
  have B_number_in := F_number_in.binds (ps := P_number_in) fun _ _ _ _ _ _ us hl => match us, hl with | [_, _], _ => rfl
  have F_stage_of_text := fun_mk (st := s_stage_of_text) l_stage_of_text c_stage_of_text k_stage_of_text
  have B_stage_of_text := F_stage_of_text.binds (ps := P_stage_of_text) fun _ _ _ _ _ _ us hl => match us, hl with | [_], _ => rfl
  have F_parts_of_text := fun_mk (st := s_parts_of_text) l_parts_of_text c_parts_of_text k_parts_of_text
  have B_parts_of_text := F_parts_of_text.binds (ps := P_parts_of_text) fun _ _ _ _ _ _ us hl => match us, hl with | [_], _ => rfl
  have F_rank_of := fun_mk (st := s_rank_of) l_rank_of c_rank_of k_rank_of
  have B_rank_of := F_rank_of.binds (ps := P_rank_of) fun _ _ _ _ _ _ us hl => match us, hl with | [_, _], _ => rfl
  have F_numbers_at := fun_mk (st := s_numbers_at) l_numbers_at c_numbers_at k_numbers_at
  have B_numbers_at := F_numbers_at.binds (ps := P_numbers_at) fun _ _ _ _ _ _ us hl => match us, hl with | [_], _ => rfl
  have F_text_of_numbers := fun_mk (st := s_text_of_numbers) l_text_of_numbers c_text_of_numbers k_text_of_numbers
  have B_text_of_numbers := F_text_of_numbers.binds (ps := P_text_of_numbers) fun _ _ _ _ _ _ us hl => match us, hl with | [_], _ => rfl
  have F_text_of_stage := fun_mk (st := s_text_of_stage) l_text_of_stage c_text_of_stage k_text_of_stage
  have B_text_of_stage := F_text_of_stage.binds (ps := P_text_of_stage) fun _ _ _ _ _ _ us hl => match us, hl with | [_], _ => rfl
  have F_text_at := fun_mk (st := s_text_at) l_text_at c_text_at k_text_at
  have B_text_at := F_text_at.binds (ps := P_text_at) fun _ _ _ _ _ _ us hl => match us, hl with | [_], _ => rfl
  have F_Version_init := fun_mk (st := s_Version_init) l_Version_init c_Version_init k_Version_init
  have B_Version_init := F_Version_init.binds (ps := P_Version_init) fun _ _ _ _ _ _ us hl => match us, hl with | [_, _], _ => rfl
  have F_Version_of := fun_mk (st := s_Version_of) l_Version_of c_Version_of k_Version_of
  have F_Version_at := fun_mk (st := s_Version_at) l_Version_at c_Version_at k_Version_at
  have B_Version_at := F_Version_at.binds (ps := P_Version_at) fun _ _ _ _ _ _ us hl => match us, hl with | [_, _], _ => rfl
  have F_Version_numbers := fun_mk (st := s_Version_numbers) l_Version_numbers c_Version_numbers k_Version_numbers
  have B_Version_numbers := F_Version_numbers.binds (ps := P_Version_numbers) fun _ _ _ _ _ _ us hl => match us, hl with | [_], _ => rfl
  have F_Version_is_early := fun_mk (st := s_Version_is_early) l_Version_is_early c_Version_is_early k_Version_is_early
  have B_Version_is_early := F_Version_is_early.binds (ps := P_Version_is_early) fun _ _ _ _ _ _ us hl => match us, hl with | [_], _ => rfl
  have F_Version_rank := fun_mk (st := s_Version_rank) l_Version_rank c_Version_rank k_Version_rank
  have B_Version_rank := F_Version_rank.binds (ps := P_Version_rank) fun _ _ _ _ _ _ us hl => match us, hl with | [_], _ => rfl
  have F_Version_str := fun_mk (st := s_Version_str) l_Version_str c_Version_str k_Version_str
  have B_Version_str := F_Version_str.binds (ps := P_Version_str) fun _ _ _ _ _ _ us hl => match us, hl with | [_], _ => rfl
  have F_begin := fun_mk (st := s_begin) l_begin c_begin k_begin
  have B_begin := F_begin.binds (ps := P_begin) fun _ _ _ _ _ _ us hl => match us, hl with | [_], _ => rfl
  have F_mixed := fun_mk (st := s_mixed) l_mixed c_mixed k_mixed
  have B_mixed := F_mixed.binds (ps := P_mixed) fun _ _ _ _ _ _ us hl => match us, hl with | [_, _], _ => rfl
  have F_next := fun_mk (st := s_next) l_next c_next k_next
  have B_next := F_next.binds (ps := P_next) fun _ _ _ _ _ _ us hl => match us, hl with | [_, _], _ => rfl
  have F_number := fun_mk (st := s_number) l_number c_number k_number
  have B_number := F_number.binds (ps := P_number) fun _ _ _ _ _ _ us hl => match us, hl with | [_], _ => rfl
  have F_parts := fun_mk (st := s_parts) l_parts c_parts k_parts
  have B_parts := F_parts.binds (ps := P_parts) fun _ _ _ _ _ _ us hl => match us, hl with | [_], _ => rfl
  have F_written := fun_mk (st := s_written) l_written c_written k_written
  have B_written := F_written.binds (ps := P_written) fun _ _ _ _ _ _ us hl => match us, hl with | [_], _ => rfl
  have F_row := fun_mk (st := s_row) l_row c_row k_row
  have B_row := F_row.binds (ps := P_row) fun _ _ _ _ _ _ us hl => match us, hl with | [_], _ => rfl
  have F_rank := fun_mk (st := s_rank) l_rank c_rank k_rank
  have B_rank := F_rank.binds (ps := P_rank) fun _ _ _ _ _ _ us hl => match us, hl with | [_], _ => rfl
  have F_short := fun_mk (st := s_short) l_short c_short k_short
  have B_short := F_short.binds (ps := P_short) fun _ _ _ _ _ _ us hl => match us, hl with | [_], _ => rfl
  have F_bent := fun_mk (st := s_bent) l_bent c_bent k_bent
  have B_bent := F_bent.binds (ps := P_bent) fun _ _ _ _ _ _ us hl => match us, hl with | [_, _], _ => rfl
  have F_figure := fun_mk (st := s_figure) l_figure c_figure k_figure
  have B_figure := F_figure.binds (ps := P_figure) fun _ _ _ _ _ _ us hl => match us, hl with | [_], _ => rfl
  have F_read := fun_mk (st := s_read) l_read c_read k_read
  have B_read := F_read.binds (ps := P_read) fun _ _ _ _ _ _ us hl => match us, hl with | [_], _ => rfl
  have F_word := fun_mk (st := s_word) l_word c_word k_word
  have B_word := F_word.binds (ps := P_word) fun _ _ _ _ _ _ us hl => match us, hl with | [_, _], _ => rfl
  have F_is_of := fun_mk (st := s_is_of) l_is_of c_is_of k_is_of
  have B_is_of := F_is_of.binds (ps := P_is_of) fun _ _ _ _ _ _ us hl => match us, hl with | [_, _], _ => rfl
  have F_read_right := fun_mk (st := s_read_right) l_read_right c_read_right k_read_right
  have B_read_right := F_read_right.binds (ps := P_read_right) fun _ _ _ _ _ _ us hl => match us, hl with | [_], _ => rfl
  have F_of_word := fun_mk (st := s_of_word) l_of_word c_of_word k_of_word
  have B_of_word := F_of_word.binds (ps := P_of_word) fun _ _ _ _ _ _ us hl => match us, hl with | [_], _ => rfl
  have F_of_right := fun_mk (st := s_of_right) l_of_right c_of_right k_of_right
  have B_of_right := F_of_right.binds (ps := P_of_right) fun _ _ _ _ _ _ us hl => match us, hl with | [_, _], _ => rfl
  have F_law := fun_mk (st := s_law) l_law c_law k_law
  have B_law := F_law.binds (ps := P_law) fun _ _ _ _ _ _ us hl => match us, hl with | [_], _ => rfl
  have F_BadVersion_init := fun_mk (st := s_BadVersion_init) l_BadVersion_init c_BadVersion_init k_BadVersion_init
  have B_BadVersion_init := F_BadVersion_init.binds (ps := P_BadVersion_init) fun _ _ _ _ _ _ us hl => match us, hl with | [_, _], _ => rfl
  have F_BadCount_init := fun_mk (st := s_BadCount_init) l_BadCount_init c_BadCount_init k_BadCount_init
  have B_BadCount_init := F_BadCount_init.binds (ps := P_BadCount_init) fun _ _ _ _ _ _ us hl => match us, hl with | [_, _], _ => rfl
  have KM_Version_init : KM K (PySem.W.fnOf "__init__" "Version.__init__" (defArgs s_Version_init) (defBody s_Version_init) (defScope s_Version_init) .none kV_Version_init dc_Version_init pm_Version_init an_Version_init cd_Version_init ct_Version_init) P_Version_init ["text"] (fun us => match us with | [x0] => [x0] | _ => []) (fun us => match us with | [x0] => [x0] | _ => []) := ⟨fun _ _ ws _ hl => match ws, hl with | [_], _ => .of_eq rfl, fun {zs ws} hl r => match zs, ws, hl, r with | [_], _, _, .cons r0 (.nil) => .cons r0 (.nil)⟩
  have KM_Version_at : KM K (PySem.W.fnOf "at" "Version.at" (defArgs s_Version_at) (defBody s_Version_at) (defScope s_Version_at) .none kV_Version_at dc_Version_at pm_Version_at an_Version_at cd_Version_at ct_Version_at) P_Version_at ["rank"] (fun us => match us with | [x0] => [x0] | _ => []) (fun us => match us with | [x0] => [x0] | _ => []) := ⟨fun _ _ ws _ hl => match ws, hl with | [_], _ => .of_eq rfl, fun {zs ws} hl r => match zs, ws, hl, r with | [_], _, _, .cons r0 (.nil) => .cons r0 (.nil)⟩
  have T : Tex K mg { a_is_whole := f_is_whole, d_is_whole := (PySem.W.fnOf "is_whole" "is_whole" (defArgs s_is_whole) (defBody s_is_whole) (defScope s_is_whole) .none kV_is_whole dc_is_whole pm_is_whole an_is_whole cd_is_whole ct_is_whole), a_is_count := f_is_count, d_is_count := (PySem.W.fnOf "is_count" "is_count" (defArgs s_is_count) (defBody s_is_count) (defScope s_is_count) .none kV_is_count dc_is_count pm_is_count an_is_count cd_is_count ct_is_count), a_is_whole_to := f_is_whole_to, d_is_whole_to := (PySem.W.fnOf "is_whole_to" "is_whole_to" (defArgs s_is_whole_to) (defBody s_is_whole_to) (defScope s_is_whole_to) .none kV_is_whole_to dc_is_whole_to pm_is_whole_to an_is_whole_to cd_is_whole_to ct_is_whole_to), a_consists_of := f_consists_of, d_consists_of := (PySem.W.fnOf "consists_of" "consists_of" (defArgs s_consists_of) (defBody s_consists_of) (defScope s_consists_of) .none kV_consists_of dc_consists_of pm_consists_of an_consists_of cd_consists_of ct_consists_of), a_is_string_of := f_is_string_of, d_is_string_of := (PySem.W.fnOf "is_string_of" "is_string_of" (defArgs s_is_string_of) (defBody s_is_string_of) (defScope s_is_string_of) .none kV_is_string_of dc_is_string_of pm_is_string_of an_is_string_of cd_is_string_of ct_is_string_of), a_number_in := f_number_in, d_number_in := (PySem.W.fnOf "number_in" "number_in" (defArgs s_number_in) (defBody s_number_in) (defScope s_number_in) .none kV_number_in dc_number_in pm_number_in an_number_in cd_number_in ct_number_in), a_stage_of_text := f_stage_of_text, d_stage_of_text := (PySem.W.fnOf "stage_of_text" "stage_of_text" (defArgs s_stage_of_text) (defBody s_stage_of_text) (defScope s_stage_of_text) .none kV_stage_of_text dc_stage_of_text pm_stage_of_text an_stage_of_text cd_stage_of_text ct_stage_of_text), a_parts_of_text := f_parts_of_text, d_parts_of_text := (PySem.W.fnOf "parts_of_text" "parts_of_text" (defArgs s_parts_of_text) (defBody s_parts_of_text) (defScope s_parts_of_text) .none kV_parts_of_text dc_parts_of_text pm_parts_of_text an_parts_of_text cd_parts_of_text ct_parts_of_text), a_rank_of := f_rank_of, d_rank_of := (PySem.W.fnOf "rank_of" "rank_of" (defArgs s_rank_of) (defBody s_rank_of) (defScope s_rank_of) .none kV_rank_of dc_rank_of pm_rank_of an_rank_of cd_rank_of ct_rank_of), a_numbers_at := f_numbers_at, d_numbers_at := (PySem.W.fnOf "numbers_at" "numbers_at" (defArgs s_numbers_at) (defBody s_numbers_at) (defScope s_numbers_at) .none kV_numbers_at dc_numbers_at pm_numbers_at an_numbers_at cd_numbers_at ct_numbers_at), a_text_of_numbers := f_text_of_numbers, d_text_of_numbers := (PySem.W.fnOf "text_of_numbers" "text_of_numbers" (defArgs s_text_of_numbers) (defBody s_text_of_numbers) (defScope s_text_of_numbers) .none kV_text_of_numbers dc_text_of_numbers pm_text_of_numbers an_text_of_numbers cd_text_of_numbers ct_text_of_numbers), a_text_of_stage := f_text_of_stage, d_text_of_stage := (PySem.W.fnOf "text_of_stage" "text_of_stage" (defArgs s_text_of_stage) (defBody s_text_of_stage) (defScope s_text_of_stage) .none kV_text_of_stage dc_text_of_stage pm_text_of_stage an_text_of_stage cd_text_of_stage ct_text_of_stage), a_text_at := f_text_at, d_text_at := (PySem.W.fnOf "text_at" "text_at" (defArgs s_text_at) (defBody s_text_at) (defScope s_text_at) .none kV_text_at dc_text_at pm_text_at an_text_at cd_text_at ct_text_at), a_Version_init := f_Version_init, d_Version_init := (PySem.W.fnOf "__init__" "Version.__init__" (defArgs s_Version_init) (defBody s_Version_init) (defScope s_Version_init) .none kV_Version_init dc_Version_init pm_Version_init an_Version_init cd_Version_init ct_Version_init), a_Version_of := f_Version_of, d_Version_of := (PySem.W.fnOf "of" "Version.of" (defArgs s_Version_of) (defBody s_Version_of) (defScope s_Version_of) .none kV_Version_of dc_Version_of pm_Version_of an_Version_of cd_Version_of ct_Version_of), a_Version_at := f_Version_at, d_Version_at := (PySem.W.fnOf "at" "Version.at" (defArgs s_Version_at) (defBody s_Version_at) (defScope s_Version_at) .none kV_Version_at dc_Version_at pm_Version_at an_Version_at cd_Version_at ct_Version_at), a_Version_numbers := f_Version_numbers, d_Version_numbers := (PySem.W.fnOf "numbers" "Version.numbers" (defArgs s_Version_numbers) (defBody s_Version_numbers) (defScope s_Version_numbers) .none kV_Version_numbers dc_Version_numbers pm_Version_numbers an_Version_numbers cd_Version_numbers ct_Version_numbers), a_Version_is_early := f_Version_is_early, d_Version_is_early := (PySem.W.fnOf "is_early" "Version.is_early" (defArgs s_Version_is_early) (defBody s_Version_is_early) (defScope s_Version_is_early) .none kV_Version_is_early dc_Version_is_early pm_Version_is_early an_Version_is_early cd_Version_is_early ct_Version_is_early), a_Version_rank := f_Version_rank, d_Version_rank := (PySem.W.fnOf "rank" "Version.rank" (defArgs s_Version_rank) (defBody s_Version_rank) (defScope s_Version_rank) .none kV_Version_rank dc_Version_rank pm_Version_rank an_Version_rank cd_Version_rank ct_Version_rank), a_Version_str := f_Version_str, d_Version_str := (PySem.W.fnOf "__str__" "Version.__str__" (defArgs s_Version_str) (defBody s_Version_str) (defScope s_Version_str) .none kV_Version_str dc_Version_str pm_Version_str an_Version_str cd_Version_str ct_Version_str), a_begin := f_begin, d_begin := (PySem.W.fnOf "_law_begin" "_law_begin" (defArgs s_begin) (defBody s_begin) (defScope s_begin) .none kV_begin dc_begin pm_begin an_begin cd_begin ct_begin), a_mixed := f_mixed, d_mixed := (PySem.W.fnOf "_law_mixed" "_law_mixed" (defArgs s_mixed) (defBody s_mixed) (defScope s_mixed) .none kV_mixed dc_mixed pm_mixed an_mixed cd_mixed ct_mixed), a_next := f_next, d_next := (PySem.W.fnOf "_law_next" "_law_next" (defArgs s_next) (defBody s_next) (defScope s_next) .none kV_next dc_next pm_next an_next cd_next ct_next), a_number := f_number, d_number := (PySem.W.fnOf "_law_number" "_law_number" (defArgs s_number) (defBody s_number) (defScope s_number) .none kV_number dc_number pm_number an_number cd_number ct_number), a_parts := f_parts, d_parts := (PySem.W.fnOf "_law_parts" "_law_parts" (defArgs s_parts) (defBody s_parts) (defScope s_parts) .none kV_parts dc_parts pm_parts an_parts cd_parts ct_parts), a_written := f_written, d_written := (PySem.W.fnOf "_law_written" "_law_written" (defArgs s_written) (defBody s_written) (defScope s_written) .none kV_written dc_written pm_written an_written cd_written ct_written), a_row := f_row, d_row := (PySem.W.fnOf "_law_row" "_law_row" (defArgs s_row) (defBody s_row) (defScope s_row) .none kV_row dc_row pm_row an_row cd_row ct_row), a_rank := f_rank, d_rank := (PySem.W.fnOf "_law_rank" "_law_rank" (defArgs s_rank) (defBody s_rank) (defScope s_rank) .none kV_rank dc_rank pm_rank an_rank cd_rank ct_rank), a_short := f_short, d_short := (PySem.W.fnOf "_law_short" "_law_short" (defArgs s_short) (defBody s_short) (defScope s_short) .none kV_short dc_short pm_short an_short cd_short ct_short), a_bent := f_bent, d_bent := (PySem.W.fnOf "_law_bent" "_law_bent" (defArgs s_bent) (defBody s_bent) (defScope s_bent) .none kV_bent dc_bent pm_bent an_bent cd_bent ct_bent), a_figure := f_figure, d_figure := (PySem.W.fnOf "_law_figure" "_law_figure" (defArgs s_figure) (defBody s_figure) (defScope s_figure) .none kV_figure dc_figure pm_figure an_figure cd_figure ct_figure), a_read := f_read, d_read := (PySem.W.fnOf "_law_read" "_law_read" (defArgs s_read) (defBody s_read) (defScope s_read) .none kV_read dc_read pm_read an_read cd_read ct_read), a_word := f_word, d_word := (PySem.W.fnOf "_law_word" "_law_word" (defArgs s_word) (defBody s_word) (defScope s_word) .none kV_word dc_word pm_word an_word cd_word ct_word), a_is_of := f_is_of, d_is_of := (PySem.W.fnOf "_law_is_of" "_law_is_of" (defArgs s_is_of) (defBody s_is_of) (defScope s_is_of) .none kV_is_of dc_is_of pm_is_of an_is_of cd_is_of ct_is_of), a_read_right := f_read_right, d_read_right := (PySem.W.fnOf "_law_read_right" "_law_read_right" (defArgs s_read_right) (defBody s_read_right) (defScope s_read_right) .none kV_read_right dc_read_right pm_read_right an_read_right cd_read_right ct_read_right), a_of_word := f_of_word, d_of_word := (PySem.W.fnOf "_law_of_word" "_law_of_word" (defArgs s_of_word) (defBody s_of_word) (defScope s_of_word) .none kV_of_word dc_of_word pm_of_word an_of_word cd_of_word ct_of_word), a_of_right := f_of_right, d_of_right := (PySem.W.fnOf "_law_of_right" "_law_of_right" (defArgs s_of_right) (defBody s_of_right) (defScope s_of_right) .none kV_of_right dc_of_right pm_of_right an_of_right cd_of_right ct_of_right), a_law := f_law, d_law := (PySem.W.fnOf "law" "law" (defArgs s_law) (defBody s_law) (defScope s_law) .none kV_law dc_law pm_law an_law cd_law ct_law), a_BadVersion_init := f_BadVersion_init, d_BadVersion_init := (PySem.W.fnOf "__init__" "BadVersion.__init__" (defArgs s_BadVersion_init) (defBody s_BadVersion_init) (defScope s_BadVersion_init) .none kV_BadVersion_init dc_BadVersion_init pm_BadVersion_init an_BadVersion_init cd_BadVersion_init ct_BadVersion_init), a_BadCount_init := f_BadCount_init, d_BadCount_init := (PySem.W.fnOf "__init__" "BadCount.__init__" (defArgs s_BadCount_init) (defBody s_BadCount_init) (defScope s_BadCount_init) .none kV_BadCount_init dc_BadCount_init pm_BadCount_init an_BadCount_init cd_BadCount_init ct_BadCount_init), a_BadVersion := f_BadVersion, a_BadCount := f_BadCount, a_ParcelError := f_ParcelError, a_ChoiceError := f_ChoiceError, a_AbsentError := f_AbsentError, a_Version := f_Version, p_Version_of := p_Version_of, p_Version_at := p_Version_at, p_Version_numbers := p_Version_numbers, p_Version_is_early := p_Version_is_early, p_Version_rank := p_Version_rank, t_Version_LAST := t_Version_LAST, t_DIGITS := t_DIGITS, k_STAGES := k_STAGES, t_FINAL := t_FINAL, t_WIDTH := t_WIDTH, t_GREATEST := t_GREATEST } := { is_whole_F := F_is_whole, is_whole_g := PySem.W.mg_of X G n_is_whole, is_whole_b := B_is_whole, is_count_F := F_is_count, is_count_g := PySem.W.mg_of X G n_is_count, is_count_b := B_is_count, is_whole_to_F := F_is_whole_to, is_whole_to_g := PySem.W.mg_of X G n_is_whole_to, is_whole_to_b := B_is_whole_to, consists_of_F := F_consists_of, consists_of_g := PySem.W.mg_of X G n_consists_of, consists_of_b := B_consists_of, is_string_of_F := F_is_string_of, is_string_of_g := PySem.W.mg_of X G n_is_string_of, is_string_of_b := B_is_string_of, number_in_F := F_number_in, number_in_g := PySem.W.mg_of X G n_number_in, number_in_b := B_number_in, stage_of_text_F := F_stage_of_text, stage_of_text_g := PySem.W.mg_of X G n_stage_of_text, stage_of_text_b := B_stage_of_text, parts_of_text_F := F_parts_of_text, parts_of_text_g := PySem.W.mg_of X G n_parts_of_text, parts_of_text_b := B_parts_of_text, rank_of_F := F_rank_of, rank_of_g := PySem.W.mg_of X G n_rank_of, rank_of_b := B_rank_of, numbers_at_F := F_numbers_at, numbers_at_g := PySem.W.mg_of X G n_numbers_at, numbers_at_b := B_numbers_at, text_of_numbers_F := F_text_of_numbers, text_of_numbers_g := PySem.W.mg_of X G n_text_of_numbers, text_of_numbers_b := B_text_of_numbers, text_of_stage_F := F_text_of_stage, text_of_stage_g := PySem.W.mg_of X G n_text_of_stage, text_of_stage_b := B_text_of_stage, text_at_F := F_text_at, text_at_g := PySem.W.mg_of X G n_text_at, text_at_b := B_text_at, Version_init_F := F_Version_init, Version_init_b := B_Version_init, Version_of_F := F_Version_of, Version_at_F := F_Version_at, Version_at_b := B_Version_at, Version_numbers_F := F_Version_numbers, Version_numbers_b := B_Version_numbers, Version_is_early_F := F_Version_is_early, Version_is_early_b := B_Version_is_early, Version_rank_F := F_Version_rank, Version_rank_b := B_Version_rank, Version_str_F := F_Version_str, Version_str_b := B_Version_str, begin_F := F_begin, begin_g := PySem.W.mg_of X G n_begin, begin_b := B_begin, mixed_F := F_mixed, mixed_g := PySem.W.mg_of X G n_mixed, mixed_b := B_mixed, next_F := F_next, next_g := PySem.W.mg_of X G n_next, next_b := B_next, number_F := F_number, number_g := PySem.W.mg_of X G n_number, number_b := B_number, parts_F := F_parts, parts_g := PySem.W.mg_of X G n_parts, parts_b := B_parts, written_F := F_written, written_g := PySem.W.mg_of X G n_written, written_b := B_written, row_F := F_row, row_g := PySem.W.mg_of X G n_row, row_b := B_row, rank_F := F_rank, rank_g := PySem.W.mg_of X G n_rank, rank_b := B_rank, short_F := F_short, short_g := PySem.W.mg_of X G n_short, short_b := B_short, bent_F := F_bent, bent_g := PySem.W.mg_of X G n_bent, bent_b := B_bent, figure_F := F_figure, figure_g := PySem.W.mg_of X G n_figure, figure_b := B_figure, read_F := F_read, read_g := PySem.W.mg_of X G n_read, read_b := B_read, word_F := F_word, word_g := PySem.W.mg_of X G n_word, word_b := B_word, is_of_F := F_is_of, is_of_g := PySem.W.mg_of X G n_is_of, is_of_b := B_is_of, read_right_F := F_read_right, read_right_g := PySem.W.mg_of X G n_read_right, read_right_b := B_read_right, of_word_F := F_of_word, of_word_g := PySem.W.mg_of X G n_of_word, of_word_b := B_of_word, of_right_F := F_of_right, of_right_g := PySem.W.mg_of X G n_of_right, of_right_b := B_of_right, law_F := F_law, law_g := PySem.W.mg_of X G n_law, law_b := B_law, BadVersion_init_F := F_BadVersion_init, BadVersion_init_b := B_BadVersion_init, BadCount_init_F := F_BadCount_init, BadCount_init_b := B_BadCount_init, BadVersion_g := PySem.W.mg_of X G n_BadVersion, BadVersion_xa := ⟨⟨⟨_, _, _, _, _, _, _, _, _, _, _, _, _, _, _, xl_BadVersion, xr_BadVersion⟩, xsa_BadVersion, xb_BadVersion, xy_BadVersion, xk_BadVersion⟩, ⟨xg_BadVersion, xh_BadVersion, xb_BadVersion, xd_BadVersion⟩, ⟨xg_BadVersion, xh_BadVersion, xb_BadVersion, xd_BadVersion, xc_BadVersion, xn_BadVersion, xq_BadVersion, xm_BadVersion⟩⟩, BadVersion_xt := xt_BadVersion, BadVersion_xf := xf_BadVersion, BadVersion_xi := at_BadVersion_init, BadVersion_nm := ⟨xb_BadVersion, xd_BadVersion, xy_BadVersion, xz_BadVersion⟩, BadCount_g := PySem.W.mg_of X G n_BadCount, BadCount_xa := ⟨⟨⟨_, _, _, _, _, _, _, _, _, _, _, _, _, _, _, xl_BadCount, xr_BadCount⟩, xsa_BadCount, xb_BadCount, xy_BadCount, xk_BadCount⟩, ⟨xg_BadCount, xh_BadCount, xb_BadCount, xd_BadCount⟩, ⟨xg_BadCount, xh_BadCount, xb_BadCount, xd_BadCount, xc_BadCount, xn_BadCount, xq_BadCount, xm_BadCount⟩⟩, BadCount_xt := xt_BadCount, BadCount_xf := xf_BadCount, BadCount_xi := at_BadCount_init, BadCount_nm := ⟨xb_BadCount, xd_BadCount, xy_BadCount, xz_BadCount⟩, ParcelError_g := PySem.W.mg_of X G n_ParcelError, ParcelError_nm := ⟨xb_ParcelError, xd_ParcelError, xy_ParcelError, xz_ParcelError⟩, ChoiceError_g := PySem.W.mg_of X G n_ChoiceError, ChoiceError_nm := ⟨xb_ChoiceError, xd_ChoiceError, xy_ChoiceError, xz_ChoiceError⟩, AbsentError_g := PySem.W.mg_of X G n_AbsentError, AbsentError_nm := ⟨xb_AbsentError, xd_AbsentError, xy_AbsentError, xz_AbsentError⟩, BadVersion_ParcelError_s := xs_BadVersion_ParcelError, BadVersion_ChoiceError_s := xs_BadVersion_ChoiceError, BadVersion_AbsentError_s := xs_BadVersion_AbsentError, BadVersion_BadVersion_s := xs_BadVersion_BadVersion, BadVersion_BadCount_s := xs_BadVersion_BadCount, BadCount_ParcelError_s := xs_BadCount_ParcelError, BadCount_ChoiceError_s := xs_BadCount_ChoiceError, BadCount_AbsentError_s := xs_BadCount_AbsentError, BadCount_BadVersion_s := xs_BadCount_BadVersion, BadCount_BadCount_s := xs_BadCount_BadCount, Version_init_km := KM_Version_init, Version_at_km := KM_Version_at, Version_g := PySem.W.mg_of X G n_Version, Version_cl := ⟨pg_Version, hd_Version, po_Version, sa_Version⟩, Version_mk := ⟨mk_Version, at_Version_init, fn_Version_init, kc_Version⟩, Version_rd := ⟨rd_Version, ga_Version⟩, Version_si := ⟨ca_Version, cn_Version, ct_Version, cm_Version⟩, Version_nf := nf_Version, Version_n_rank := na_Version_rank, Version_init_at := at_Version_init, Version_init_fn := fn_Version_init, Version_of_c := ⟨at_Version_of, ⟨_, rc_Version_of⟩, fi_Version_of⟩, Version_at_c := ⟨at_Version_at, ⟨_, rc_Version_at⟩, fi_Version_at⟩, Version_numbers_p := ⟨at_Version_numbers, ge_Version_numbers, tk_Version_numbers, _, rc_Version_numbers⟩, Version_is_early_p := ⟨at_Version_is_early, ge_Version_is_early, tk_Version_is_early, _, rc_Version_is_early⟩, Version_rank_p := ⟨at_Version_rank, ge_Version_rank, tk_Version_rank, _, rc_Version_rank⟩, Version_str_at := at_Version_str, Version_str_fn := fn_Version_str, Version_LAST := ⟨cv_Version_LAST, _, rfl⟩, c_DIGITS := PySem.W.mg_of X G g_DIGITS, c_STAGES := PySem.W.mg_of X G g_STAGES, v_STAGES := .inr ⟨_, _, _, w_STAGES, rfl, rfl, (by show 3 ≤ sizeLine; decide), .cons ⟨_, rfl⟩ (.cons ⟨_, rfl⟩ (.cons ⟨_, rfl⟩ (.nil)))⟩, c_FINAL := PySem.W.mg_of X G g_FINAL, c_WIDTH := PySem.W.mg_of X G g_WIDTH, c_GREATEST := PySem.W.mg_of X G g_GREATEST, b_all := PySem.W.mg_none_of X G z_all, b_bool := PySem.W.mg_none_of X G z_bool, b_enumerate := PySem.W.mg_none_of X G z_enumerate, b_int := PySem.W.mg_none_of X G z_int, b_isinstance := PySem.W.mg_none_of X G z_isinstance, b_len := PySem.W.mg_none_of X G z_len, b_list := PySem.W.mg_none_of X G z_list, b_min := PySem.W.mg_none_of X G z_min, b_range := PySem.W.mg_none_of X G z_range, b_repr := PySem.W.mg_none_of X G z_repr, b_str := PySem.W.mg_none_of X G z_str, b_tuple := PySem.W.mg_none_of X G z_tuple }
  exact ⟨_, fun s v => .of_eq rfl, fun base _ _ => ok_law T⟩
end Pk
open PySem PySem.W PyProof.Rows
set_option maxRecDepth 100000 in
set_option maxHeartbeats 0 in
theorem PySem.Challenge.cw_parcelindex_k03_versions_read_and_writte_holds : PySem.Challenge.rw_parcelindex_k03_versions_read_and_writte.Holds := by
  w_on; o_law; k_head; (case hw => w_witness2)
  k_fill
  refine Pk.walkG (l := PySem.Challenge.rw_parcelindex_k03_versions_read_and_writte) (k := 15) (x := "_law_script") (sp := Pk.spLaw) rfl rfl ⟨rfl, by decide, by decide⟩ (fun w h Y => PySem.W.kIn_of Y) ?F (fun K H a ns hl hS => ⟨a, ns, rfl, hS, hl, fun _ => rfl⟩)
  case F =>
    intro w mg fa h KX G hmg
    refine' Pk.all_mk KX G hmg ?n_is_whole ?l_is_whole ?c_is_whole ?k_is_whole ?n_is_count ?l_is_count ?c_is_count ?k_is_count ?n_is_whole_to ?l_is_whole_to ?c_is_whole_to ?k_is_whole_to ?n_consists_of ?l_consists_of ?c_consists_of ?k_consists_of ?n_is_string_of ?l_is_string_of ?c_is_string_of ?k_is_string_of ?n_number_in ?l_number_in ?c_number_in ?k_number_in ?n_stage_of_text ?l_stage_of_text ?c_stage_of_text ?k_stage_of_text ?n_parts_of_text ?l_parts_of_text ?c_parts_of_text ?k_parts_of_text ?n_rank_of ?l_rank_of ?c_rank_of ?k_rank_of ?n_numbers_at ?l_numbers_at ?c_numbers_at ?k_numbers_at ?n_text_of_numbers ?l_text_of_numbers ?c_text_of_numbers ?k_text_of_numbers ?n_text_of_stage ?l_text_of_stage ?c_text_of_stage ?k_text_of_stage ?n_text_at ?l_text_at ?c_text_at ?k_text_at ?n_Version ?at_Version_init ?l_Version_init ?c_Version_init ?k_Version_init ?at_Version_of ?rc_Version_of ?l_Version_of ?c_Version_of ?k_Version_of ?at_Version_at ?rc_Version_at ?l_Version_at ?c_Version_at ?k_Version_at ?at_Version_numbers ?rc_Version_numbers ?l_Version_numbers ?c_Version_numbers ?k_Version_numbers ?at_Version_is_early ?rc_Version_is_early ?l_Version_is_early ?c_Version_is_early ?k_Version_is_early ?at_Version_rank ?rc_Version_rank ?l_Version_rank ?c_Version_rank ?k_Version_rank ?at_Version_str ?l_Version_str ?c_Version_str ?k_Version_str ?n_begin ?l_begin ?c_begin ?k_begin ?n_mixed ?l_mixed ?c_mixed ?k_mixed ?n_next ?l_next ?c_next ?k_next ?n_number ?l_number ?c_number ?k_number ?n_parts ?l_parts ?c_parts ?k_parts ?n_written ?l_written ?c_written ?k_written ?n_row ?l_row ?c_row ?k_row ?n_rank ?l_rank ?c_rank ?k_rank ?n_short ?l_short ?c_short ?k_short ?n_bent ?l_bent ?c_bent ?k_bent ?n_figure ?l_figure ?c_figure ?k_figure ?n_read ?l_read ?c_read ?k_read ?n_word ?l_word ?c_word ?k_word ?n_is_of ?l_is_of ?c_is_of ?k_is_of ?n_read_right ?l_read_right ?c_read_right ?k_read_right ?n_of_word ?l_of_word ?c_of_word ?k_of_word ?n_of_right ?l_of_right ?c_of_right ?k_of_right ?n_law ?l_law ?c_law ?k_law ?n_BadVersion ?at_BadVersion_init ?l_BadVersion_init ?c_BadVersion_init ?k_BadVersion_init ?n_BadCount ?at_BadCount_init ?l_BadCount_init ?c_BadCount_init ?k_BadCount_init ?xl_BadVersion ?xr_BadVersion ?xsa_BadVersion ?xb_BadVersion ?xd_BadVersion ?xy_BadVersion ?xk_BadVersion ?xg_BadVersion ?xh_BadVersion ?xc_BadVersion ?xn_BadVersion ?xq_BadVersion ?xm_BadVersion ?xt_BadVersion ?xf_BadVersion ?xz_BadVersion ?xl_BadCount ?xr_BadCount ?xsa_BadCount ?xb_BadCount ?xd_BadCount ?xy_BadCount ?xk_BadCount ?xg_BadCount ?xh_BadCount ?xc_BadCount ?xn_BadCount ?xq_BadCount ?xm_BadCount ?xt_BadCount ?xf_BadCount ?xz_BadCount ?n_ParcelError ?xb_ParcelError ?xd_ParcelError ?xy_ParcelError ?xz_ParcelError ?n_ChoiceError ?xb_ChoiceError ?xd_ChoiceError ?xy_ChoiceError ?xz_ChoiceError ?n_AbsentError ?xb_AbsentError ?xd_AbsentError ?xy_AbsentError ?xz_AbsentError ?xs_BadVersion_ParcelError ?xs_BadVersion_ChoiceError ?xs_BadVersion_AbsentError ?xs_BadVersion_BadVersion ?xs_BadVersion_BadCount ?xs_BadCount_ParcelError ?xs_BadCount_ChoiceError ?xs_BadCount_AbsentError ?xs_BadCount_BadVersion ?xs_BadCount_BadCount ?pg_Version ?hd_Version ?po_Version ?sa_Version ?mk_Version ?kc_Version ?rd_Version ?ga_Version ?ca_Version ?cn_Version ?ct_Version ?cm_Version ?nf_Version ?fn_Version_init ?na_Version_rank ?fi_Version_of ?fi_Version_at ?ge_Version_numbers ?tk_Version_numbers ?ge_Version_is_early ?tk_Version_is_early ?ge_Version_rank ?tk_Version_rank ?fn_Version_str ?cv_Version_LAST ?g_DIGITS ?g_STAGES ?w_STAGES ?g_FINAL ?g_WIDTH ?g_GREATEST ?z_all ?z_bool ?z_enumerate ?z_int ?z_isinstance ?z_len ?z_list ?z_min ?z_range ?z_repr ?z_str ?z_tuple
    (case n_is_whole => k_is)
    (case l_is_whole => k_is)
    (case c_is_whole => k_is)
    (case k_is_whole => k_is)
    (case n_is_count => k_is)
    (case l_is_count => k_is)
    (case c_is_count => k_is)
    (case k_is_count => k_is)
    (case n_is_whole_to => k_is)
    (case l_is_whole_to => k_is)
    (case c_is_whole_to => k_is)
    (case k_is_whole_to => k_is)
    (case n_consists_of => k_is)
    (case l_consists_of => k_is)
    (case c_consists_of => k_is)
    (case k_consists_of => k_is)
    (case n_is_string_of => k_is)
    (case l_is_string_of => k_is)
    (case c_is_string_of => k_is)
    (case k_is_string_of => k_is)
    (case n_number_in => k_is)
    (case l_number_in => k_is)
    (case c_number_in => k_is)
    (case k_number_in => k_is)
    (case n_stage_of_text => k_is)
    (case l_stage_of_text => k_is)
    (case c_stage_of_text => k_is)
    (case k_stage_of_text => k_is)
    (case n_parts_of_text => k_is)
    (case l_parts_of_text => k_is)
    (case c_parts_of_text => k_is)
    (case k_parts_of_text => k_is)
    (case n_rank_of => k_is)
    (case l_rank_of => k_is)
    (case c_rank_of => k_is)
    (case k_rank_of => k_is)
    (case n_numbers_at => k_is)
    (case l_numbers_at => k_is)
    (case c_numbers_at => k_is)
    (case k_numbers_at => k_is)
    (case n_text_of_numbers => k_is)
    (case l_text_of_numbers => k_is)
    (case c_text_of_numbers => k_is)
    (case k_text_of_numbers => k_is)
    (case n_text_of_stage => k_is)
    (case l_text_of_stage => k_is)
    (case c_text_of_stage => k_is)
    (case k_text_of_stage => k_is)
    (case n_text_at => k_is)
    (case l_text_at => k_is)
    (case c_text_at => k_is)
    (case k_text_at => k_is)
    (case n_Version => k_is)
    (case at_Version_init => k_is)
    (case l_Version_init => k_is)
    (case c_Version_init => k_is)
    (case k_Version_init => k_is)
    (case at_Version_of => k_is)
    (case rc_Version_of => k_is)
    (case l_Version_of => k_is)
    (case c_Version_of => k_is)
    (case k_Version_of => k_is)
    (case at_Version_at => k_is)
    (case rc_Version_at => k_is)
    (case l_Version_at => k_is)
    (case c_Version_at => k_is)
    (case k_Version_at => k_is)
    (case at_Version_numbers => k_is)
    (case rc_Version_numbers => k_is)
    (case l_Version_numbers => k_is)
    (case c_Version_numbers => k_is)
    (case k_Version_numbers => k_is)
    (case at_Version_is_early => k_is)
    (case rc_Version_is_early => k_is)
    (case l_Version_is_early => k_is)
    (case c_Version_is_early => k_is)
    (case k_Version_is_early => k_is)
    (case at_Version_rank => k_is)
    (case rc_Version_rank => k_is)
    (case l_Version_rank => k_is)
    (case c_Version_rank => k_is)
    (case k_Version_rank => k_is)
    (case at_Version_str => k_is)
    (case l_Version_str => k_is)
    (case c_Version_str => k_is)
    (case k_Version_str => k_is)
    (case n_begin => k_is)
    (case l_begin => k_is)
    (case c_begin => k_is)
    (case k_begin => k_is)
    (case n_mixed => k_is)
    (case l_mixed => k_is)
    (case c_mixed => k_is)
    (case k_mixed => k_is)
    (case n_next => k_is)
    (case l_next => k_is)
    (case c_next => k_is)
    (case k_next => k_is)
    (case n_number => k_is)
    (case l_number => k_is)
    (case c_number => k_is)
    (case k_number => k_is)
    (case n_parts => k_is)
    (case l_parts => k_is)
    (case c_parts => k_is)
    (case k_parts => k_is)
    (case n_written => k_is)
    (case l_written => k_is)
    (case c_written => k_is)
    (case k_written => k_is)
    (case n_row => k_is)
    (case l_row => k_is)
    (case c_row => k_is)
    (case k_row => k_is)
    (case n_rank => k_is)
    (case l_rank => k_is)
    (case c_rank => k_is)
    (case k_rank => k_is)
    (case n_short => k_is)
    (case l_short => k_is)
    (case c_short => k_is)
    (case k_short => k_is)
    (case n_bent => k_is)
    (case l_bent => k_is)
    (case c_bent => k_is)
    (case k_bent => k_is)
    (case n_figure => k_is)
    (case l_figure => k_is)
    (case c_figure => k_is)
    (case k_figure => k_is)
    (case n_read => k_is)
    (case l_read => k_is)
    (case c_read => k_is)
    (case k_read => k_is)
    (case n_word => k_is)
    (case l_word => k_is)
    (case c_word => k_is)
    (case k_word => k_is)
    (case n_is_of => k_is)
    (case l_is_of => k_is)
    (case c_is_of => k_is)
    (case k_is_of => k_is)
    (case n_read_right => k_is)
    (case l_read_right => k_is)
    (case c_read_right => k_is)
    (case k_read_right => k_is)
    (case n_of_word => k_is)
    (case l_of_word => k_is)
    (case c_of_word => k_is)
    (case k_of_word => k_is)
    (case n_of_right => k_is)
    (case l_of_right => k_is)
    (case c_of_right => k_is)
    (case k_of_right => k_is)
    (case n_law => k_is)
    (case l_law => k_is)
    (case c_law => k_is)
    (case k_law => k_is)
    (case n_BadVersion => k_is)
    (case at_BadVersion_init => k_is)
    (case l_BadVersion_init => k_is)
    (case c_BadVersion_init => k_is)
    (case k_BadVersion_init => k_is)
    (case n_BadCount => k_is)
    (case at_BadCount_init => k_is)
    (case l_BadCount_init => k_is)
    (case c_BadCount_init => k_is)
    (case k_BadCount_init => k_is)
    (case xl_BadVersion => k_is)
    (case xr_BadVersion => first | rfl | decide +kernel | k_is)
    (case xsa_BadVersion => k_is)
    (case xb_BadVersion => k_is)
    (case xd_BadVersion => k_is)
    (case xy_BadVersion => k_is)
    (case xk_BadVersion => k_is)
    (case xg_BadVersion => k_is)
    (case xh_BadVersion => k_is)
    (case xc_BadVersion => k_is)
    (case xn_BadVersion => k_is)
    (case xq_BadVersion => k_is)
    (case xm_BadVersion => k_is)
    (case xt_BadVersion => k_is)
    (case xf_BadVersion => k_is)
    (case xz_BadVersion => k_is)
    (case xl_BadCount => k_is)
    (case xr_BadCount => first | rfl | decide +kernel | k_is)
    (case xsa_BadCount => k_is)
    (case xb_BadCount => k_is)
    (case xd_BadCount => k_is)
    (case xy_BadCount => k_is)
    (case xk_BadCount => k_is)
    (case xg_BadCount => k_is)
    (case xh_BadCount => k_is)
    (case xc_BadCount => k_is)
    (case xn_BadCount => k_is)
    (case xq_BadCount => k_is)
    (case xm_BadCount => k_is)
    (case xt_BadCount => k_is)
    (case xf_BadCount => k_is)
    (case xz_BadCount => k_is)
    (case n_ParcelError => k_is)
    (case xb_ParcelError => k_is)
    (case xd_ParcelError => k_is)
    (case xy_ParcelError => k_is)
    (case xz_ParcelError => k_is)
    (case n_ChoiceError => k_is)
    (case xb_ChoiceError => k_is)
    (case xd_ChoiceError => k_is)
    (case xy_ChoiceError => k_is)
    (case xz_ChoiceError => k_is)
    (case n_AbsentError => k_is)
    (case xb_AbsentError => k_is)
    (case xd_AbsentError => k_is)
    (case xy_AbsentError => k_is)
    (case xz_AbsentError => k_is)
    (case xs_BadVersion_ParcelError => k_is)
    (case xs_BadVersion_ChoiceError => k_is)
    (case xs_BadVersion_AbsentError => k_is)
    (case xs_BadVersion_BadVersion => k_is)
    (case xs_BadVersion_BadCount => k_is)
    (case xs_BadCount_ParcelError => k_is)
    (case xs_BadCount_ChoiceError => k_is)
    (case xs_BadCount_AbsentError => k_is)
    (case xs_BadCount_BadVersion => k_is)
    (case xs_BadCount_BadCount => k_is)
    (case pg_Version => k_is)
    (case hd_Version => k_is)
    (case po_Version => k_is)
    (case sa_Version => k_is)
    (case mk_Version => k_is)
    (case kc_Version => k_is)
    (case rd_Version => k_is)
    (case ga_Version => k_is)
    (case ca_Version => k_is)
    (case cn_Version => k_is)
    (case ct_Version => k_is)
    (case cm_Version => k_is)
    (case nf_Version => k_is)
    (case fn_Version_init => k_is)
    (case na_Version_rank => k_is)
    (case fi_Version_of => k_is)
    (case fi_Version_at => k_is)
    (case ge_Version_numbers => k_is)
    (case tk_Version_numbers => k_is)
    (case ge_Version_is_early => k_is)
    (case tk_Version_is_early => k_is)
    (case ge_Version_rank => k_is)
    (case tk_Version_rank => k_is)
    (case fn_Version_str => k_is)
    (case cv_Version_LAST => k_is)
    (case g_DIGITS => k_is)
    (case g_STAGES => k_is)
    (case w_STAGES => k_is)
    (case g_FINAL => k_is)
    (case g_WIDTH => k_is)
    (case g_GREATEST => k_is)
    (case z_all => k_is)
    (case z_bool => k_is)
    (case z_enumerate => k_is)
    (case z_int => k_is)
    (case z_isinstance => k_is)
    (case z_len => k_is)
    (case z_list => k_is)
    (case z_min => k_is)
    (case z_range => k_is)
    (case z_repr => k_is)
    (case z_str => k_is)
    (case z_tuple => k_is)
