import PyProof.Rows.All
import Wide.All
import OpenK.AllK
import Wide.FinOn
import PyProof.ReprRoads
import HandS.ForMost
import HandS.ForExc
import HandS.IsInst
import HandS.Walk
import HandS.Flow
import HandS.RaiseMore

import HandS.ClsMeth
import HandS.Property
import HandS.SlotsOwn
import HandS.FStr
import HandS.TupAny
import HandS.Codes
import KE.KCallOwn
import KE.GoesMore
import KE.GoesEnum
import KE.DatumOrd
import HandS.SortInts
import HandS.Defaults

import HandS.ExcInit
import HandS.ExcValue
import HandS.ExcField
import HandS.ExcIs
import HandS.TryMany

import HandS.Style
import HandS.Lambda
import HandS.Replace
import HandS.Zip
import HandS.NoneIn
import HandS.DeepEq
import HandS.DictComp
import HandS.More
import HandS.MakeKw
import HandS.MakeKwOnly
import PySem.Challenge.RW_parcelindex_k13_environments
set_option Elab.async false
set_option maxRecDepth 100000
set_option maxHeartbeats 4000000

/-! ## Calls with the stack's repr marks known to be none: a def's promise, its body's rule, calls, the end -/
namespace Pk
open PySem PySem.Spec PyProof.Rows L2

/-- a def keeps its promise wherever no repr runs around it -/
structure FnG (P : Program) (w : World) (K : PySem.W.Frag) (mg : Str → Option Value) (base : Heap) (k : Nat) (f : Addr) (fd : FuncData) (ps : List Str) (sp : Sp) : Prop where
  lenG : ∀ vs H Q E, sp vs H Q E → vs.length = ps.length
  runG : ∀ (A : Around) (outer : List Env) (s : Shared) (H : Hp) (args : Args) (us : List Value) (vs : List V) (Q : VK),
    A.guards = some [] → Room k A → Env0 P w K mg base A outer s H →
    BindsTo s fd args (ps.zip us) → Vals vs us → sp vs H Q E0 →
    codeAny (model P w) A (.call (.ref f) args) (CR CX0 outer P w H s Q E0) s

section
variable {P : Program} {w : World} {K : PySem.W.Frag} {mg : Str → Option Value} {base : Heap}
theorem FnG.of {k : Nat} {f : Addr} {fd : FuncData} {ps : List Str} {sp : Sp} (F : FnOk P w K mg base CX0 k f fd ps sp) : FnG P w K mg base k f fd ps sp :=
  ⟨F.len, fun A outer s H args us vs Q _ h1 h2 h3 h4 h5 => F.run A outer s H args us vs Q E0 h1 h2 h3 h4 h5⟩

/-- the rule for a def's body, with the marks known -/
theorem fnG_of {x qual : Str} {st : Stmt} {f : Addr} {fd : FuncData} {N ps : List Str} {k : Nat} {sp : Sp} (F : Fun K x qual st f fd)
    (S : FnScope N ps (defScope st)) (len : ∀ vs H Q E, sp vs H Q E → vs.length = ps.length)
    (hbody : ∀ (cdv : Value) (A : Around) (outer : List Env) (s : Shared) (H : Hp) (vs : List V) (Q : VK),
      A.guards = some [] → Room k (A.deeper (envOfC qual (defScope st) s.heap.objs.size f cdv)) → sp vs H Q E0 →
      ∃ t, PSs (cxOf CX0 P w K mg base N qual (defScope st) f cdv A outer s H E0).nox (defBody st) t ∧
        t { nx := fun _ H' => Q .non H', rt := Q } (start N vs) H) :
    FnG P w K mg base (k + 1) f fd ps sp := by
  obtain ⟨oc, od, kV, doc, pm, an, cdv, ct, osl, rfl, lk, hcd⟩ := F.ex
  refine ⟨len, ?_⟩
  intro A outer s H args us vs Q hg hr e0 hb r hsp
  have hlen := len _ _ _ _ hsp
  have inK : K.In s.heap := e0.mod.kin.keeps (fun b o e => (e0.bs b o e).1)
  have nolim : s.heap.NoLimit := e0.mod.nolimit.keeps (fun b o e => (e0.bs b o e).1)
  have hk : ∀ y ∈ ps.zip us, (defScope st).names.lookup y.1 = some .local ∨ ((defScope st).names.lookup y.1 = some .cell ∧
      ((cellsFrom (s.heap.objs.size + 1) (defScope st).names []).lookup y.1).isSome = true) := by
    rintro ⟨n, v⟩ hy
    rcases S.par n (List.of_mem_zip hy).1 with q | q
    · exact Or.inl q
    · exact Or.inr ⟨q, PySem.W.cellsFrom_some _ _ _ (Or.inl q)⟩
  refine codeAny_call_function hr.depth (inK _ _ lk) rfl S.co S.gen rfl (PySem.W.codeRec_of inK hcd) (hb _ _ _ _ ?_)
  refine wpAny_newFunctionEnv_cells S.kind hk ?_
  intro env he s1 x
  subst he
  refine ⟨nolim.keeps x.toInCall.keep, codeAny_func ?_⟩
  obtain ⟨t, ht0, hq⟩ := hbody cdv A outer s H vs Q hg (hr.deeper _) hsp
  have ht := ht0.nox
  have J0 : Inv (cxOf CX0 P w K mg base N qual (defScope st) f cdv A outer s H E0) [] (start N vs) H s1 := inv_start S hr.hd e0 hlen r x
  have fin : ∀ {σ' : L2.St} {H' : Hp} {s' : Shared} {v : V} {u : Value},
      Inv (cxOf CX0 P w K mg base N qual (defScope st) f cdv A outer s H E0) [] σ' H' s' → RelV v u → Q v H' → CE outer P w H s Q u s' :=
    fun {σ' H' s' v u} J rv q => ⟨v, H', J.os, J.bare, J.base, J.hok, rv, q⟩
  refine wpAny_mono (ht.run [] s1 (start N vs) H _ J0 hq) ?_ (fun e s' hs => hs)
  rintro (_ | _ | _ | u) s' hs
  · obtain ⟨σ', H', J, q⟩ := hs
    exact fin (v := V.non) (u := Value.none) J rfl q
  · obtain ⟨_, _, _, q⟩ := hs
    exact q.elim
  · obtain ⟨_, _, _, q⟩ := hs
    exact q.elim
  · obtain ⟨v, σ', H', J, rv, q⟩ := hs
    exact fin J rv q
end

section
variable {X : Cx} {k : Nat} {f : Addr} {fd : FuncData} {ps ks : List Str} {sp : Sp} {x : Str} {p pos : Pos} {e : Expr} {es : List Expr} {t tk : TA} {kws : List Keyword}
theorem run_g {pins : List (Addr × Obj)} {σ : L2.St} {H : Hp} {s : Shared} {Q : VK} {args : Args} {us : List Value} {vs : List V}
    (F : FnG X.prog X.w X.K X.mg X.base k f fd ps sp) (hg : X.A.guards = some []) (hr : Room k X.A)
    (hb : BindsTo s fd args (ps.zip us)) (I : Inv X pins σ H s) (r : Vals vs us) (h : sp vs H Q E0) :
    codeAny (model X.prog X.w) X.A (.call (.ref f) args) (fun r s' => match r with | .ok (.ret v) => EP X pins σ Q v s' | .ok _ => False | .error e => X.xe e s') s := by
  refine codeAny_mono (F.runG X.A X.stack s H args us vs Q hg hr I.env0 hb r h) ?_
  rintro (e | fl) s' hq
  · exact (show False from hq).elim
  · cases fl with
    | ret u => exact I.after hq
    | next => exact (show False from hq).elim
    | brk => exact (show False from hq).elim
    | cont => exact (show False from hq).elim
/-- f(..), the parameters all given by position -/
theorem pe_callG (F : FnG X.prog X.w X.K X.mg X.base k f fd ps sp) (hgu : X.A.guards = some []) (hr : Room k X.A) (hg : Gl X x) (hm : X.mg x = some (.ref f))
    (hk : PySem.W.keepIn X.K (.ref f) = true) (hb : Binds X.K fd ps []) (ha : PA X (e :: es) t) (hdb : (x == ("__debug__" : Str)) = false := by decide)
    (he : starEach (e :: es) X.env = (false, eval e X.env) :: starEach es X.env := by rfl)
    (hpl : (backTo pos (starEach es X.env)).any (·.1) = false := by rfl) :
    PE X (.Call (.Name x p) (e :: es) [] pos) (tCall sp [] E0 t) := by
  constructor
  intro pins s σ H Q I h
  refine wpAny_Call_Name_kw (ld_glob I hg hm ?_ hdb)
  refine PySem.W.callWith_K (h₀ := X.base) I.ok.mod.kin hk (thn (ha.run pos pins s σ H _ I h) ?_) he hpl
  intro us s1 ⟨vs, H1, I1, r, q⟩
  have q' : sp vs H1 Q E0 := by
    have q0 : sp (vs ++ []) H1 Q E0 := q
    rw [List.append_nil] at q0
    exact q0
  have hl : (us ++ []).length = ps.length := by rw [List.append_nil, ← r.length]; exact F.lenG _ _ _ _ q'
  refine ⟨I1.kIn, wpAny_call (run_g F hgu hr ?_ I1 r q')⟩
  have hb1 := hb s1 us I1.kIn hl
  rw [List.append_nil] at hb1
  exact hb1
theorem pe_callG0 (F : FnG X.prog X.w X.K X.mg X.base k f fd ps sp) (hgu : X.A.guards = some []) (hr : Room k X.A) (hg : Gl X x) (hm : X.mg x = some (.ref f))
    (hk : PySem.W.keepIn X.K (.ref f) = true) (hb : Binds X.K fd ps []) (hdb : (x == ("__debug__" : Str)) = false := by decide) :
    PE X (.Call (.Name x p) [] [] pos) (tCall sp [] E0 tNil) := by
  constructor
  intro pins s σ H Q I h
  refine wpAny_Call_Name_kw (ld_glob I hg hm ?_ hdb)
  refine PySem.W.callWith_K0 I.kIn hk ?_
  have q' : sp [] H Q E0 := h
  have hl : (([] : List Value) ++ []).length = ps.length := by rw [List.append_nil]; exact F.lenG _ _ _ _ q'
  exact wpAny_call (run_g F hgu hr (hb s [] I.kIn hl) I .nil q')
/-- how keywords alone bind: the values are put in the parameters' order by pm -/
structure KB (K : PySem.W.Frag) (fd : FuncData) (ps ks : List Str) : Prop where
  toK : ∀ (s : Shared) (ws : List Value), K.In s.heap → ws.length = ps.length → BindsTo s fd ⟨[], ks.zip ws⟩ (ps.zip ws)
/-- f(k = v, ..), the keywords in the parameters' order -/
theorem pe_kwG (F : FnG X.prog X.w X.K X.mg X.base k f fd ps sp) (hgu : X.A.guards = some []) (hr : Room k X.A) (hg : Gl X x) (hm : X.mg x = some (.ref f))
    (hk : PySem.W.keepIn X.K (.ref f) = true) (hb : KB X.K fd ps ks) (hkw : PK X kws tk) (hall : (backToKw pos (keywordEach kws X.env)).all (·.1.isSome) = true := by rfl)
    (hks : (backToKw pos (keywordEach kws X.env)).filterMap (·.1) = ks := by rfl) (hdb : (x == ("__debug__" : Str)) = false := by decide)
    (hpl : ((backTo pos (starEach [] X.env)).any (·.1) || (backToKw pos (keywordEach kws X.env)).any (·.1.isNone)) = false := by rfl) :
    PE X (.Call (.Name x p) [] kws pos) (tCall sp [] E0 tk) := by
  constructor
  intro pins s σ H Q I h
  refine wpAny_Call_Name_kw (ld_glob I hg hm ?_ hdb)
  refine PySem.W.callWith_KW0 (h₀ := X.base) I.ok.mod.kin hk hall (thn (hkw.run pos pins s σ H _ I h) ?_) hpl
  intro ws s1 ⟨zs, H1, I1, r, q⟩
  have q' : sp zs H1 Q E0 := by
    have q0 : sp (zs ++ []) H1 Q E0 := q
    rw [List.append_nil] at q0
    exact q0
  rw [hks]
  exact ⟨I1.kIn, wpAny_call (run_g F hgu hr (hb.toK s1 ws I1.kIn (by rw [← r.length]; exact F.lenG _ _ _ _ q')) I1 r q')⟩
end

/-! ### repr of data -/
section
variable {X : Cx}
def rRepr (K : PySem.W.Frag) : List V → Hp → VK → Prop := fun xs H Q => ∃ x d, xs = [x] ∧ Dp K H x d ∧ d.showable = true ∧ d.hasDict = false ∧ d.depth ≤ 60 ∧ d.shown.length ≤ sizeLine ∧ Q (.str d.shown) H
theorem call_repr (hgu : X.A.guards = some []) (hu : X.A.units + 64 < cLine) : CallR X (.builtin "repr") (rRepr X.K) := by
  intro pins s σ H xs us Q I r h
  obtain ⟨x, d, rfl, hd, hs, hnd, hdp, hz, q⟩ := h
  obtain ⟨u, rfl, rx⟩ := vals1 r
  have hsm : ∀ as : List Addr, d.hasDict = true → sysModules ∉ as := fun as e => by
    rw [hnd] at e
    cases e
  obtain ⟨as, rd⟩ := Dp.reads I d x u hd rx
  cases hd with
  | non =>
    obtain rfl : u = Value.none := rx
    exact PySem.P.repr_of_none ⟨.str _, H, I.tok _, ⟨_, rfl⟩, q⟩
  | bl b =>
    obtain rfl : u = Value.bool b := rx
    exact PySem.P.repr_of_bool ⟨.str _, H, I.tok _, ⟨_, rfl⟩, by simpa only [PyData.shown] using q⟩
  | int i =>
    obtain ⟨t, rfl⟩ := rx
    exact PySem.P.repr_of_int (by simpa [PyData.showable] using hs) ⟨.str _, H, I.tok _, ⟨_, rfl⟩, by simpa only [PyData.shown] using q⟩
  | str y =>
    obtain ⟨t, rfl⟩ := rx
    exact PySem.P.repr_of_str ⟨.str _, H, I.tok _, ⟨_, rfl⟩, by simpa only [PyData.shown] using q⟩ (by simpa only [PyData.shown] using hz)
  | lst =>
    rename_i a _ _ _ _
    obtain rfl : u = Value.ref a := rx
    exact repr_of_reads' (h₀ := s.heap) rd hs (hsm as) hgu (by omega) (fun _ _ e => e) (fun h' v tk hk => ⟨.str _, H, I.kept hk, ⟨v, rfl⟩, q⟩) hz
  | tup =>
    rename_i a _ _ _ _
    obtain rfl : u = Value.ref a := rx
    exact repr_of_reads' (h₀ := s.heap) rd hs (hsm as) hgu (by omega) (fun _ _ e => e) (fun h' v tk hk => ⟨.str _, H, I.kept hk, ⟨v, rfl⟩, q⟩) hz
end

/-! ### the script + a list -/
/-- a list that stands with no dict and no slots of its own -/
def Bare (K : PySem.W.Frag) (H : Hp) (a : Addr) (xs : List V) : Prop :=
  (∃ (us : List Value) (n : Nat), H a = some (.frz { cls := .type "list", data := .seq us.toArray n } (.lst xs))) ∨
  (∃ (us : List Value) (n : Nat), K.lookup a = some { cls := .type "list", data := .seq us.toArray n } ∧ Vals xs us)
theorem Bare.seq {K : PySem.W.Frag} {H : Hp} {a : Addr} {xs : List V} (hz : xs.length ≤ sizeLine) (h : Bare K H a xs) : SqL K H a xs := by
  rcases h with ⟨us, n, e⟩ | ⟨us, n, e, r⟩
  · exact .inl (.inr ⟨_, e⟩)
  · refine .inr ⟨_, us.toArray, n, e, rfl, rfl, rfl, ?_, by simpa using r⟩
    rw [List.size_toArray, ← r.length]
    exact hz
theorem Bare.keep {K : PySem.W.Frag} {H H' : Hp} {a : Addr} {xs : List V} (h : Bare K H a xs) (e : Same H H') : Bare K H' a xs := by
  rcases h with ⟨us, n, q⟩ | h
  · exact .inl ⟨us, n, e _ _ q⟩
  · exact .inr h
section
variable {X : Cx}
def rCatS (K : PySem.W.Frag) : R2 := fun x y H Q => ∃ l b xs zs, x = .ref l ∧ y = .ref b ∧ Bare K H l xs ∧ H b = some (.lst zs) ∧ xs.length + zs.length ≤ sizeLine ∧
  ∀ p, H p = none → Q (.ref p) (upd H p (.lst (xs ++ zs)))
theorem op_catS : OpR X (binaryOp .Add) (rCatS X.K) := by
  intro pins s σ H x y v u Q I rx ry h
  obtain ⟨l, b, xs, zs, rfl, rfl, hl, hb, hz, q⟩ := h
  obtain rfl : v = Value.ref l := rx
  obtain rfl : u = Value.ref b := ry
  obtain ⟨z2, its2, n2, r2, hl2, e2⟩ := I.lstM hb
  have hfin : ∀ (its : List Value) (n : Nat), Vals xs its → s.heap.get? l = some { cls := .type "list", data := .seq its.toArray n } →
      wpAny (model X.prog X.w) X.A (binaryOp .Add (.ref l) (.ref b)) (EP X pins σ Q) X.xe s := by
    intro its n r e
    have hln := r.length
    refine PySem.P.add_list e e2 ?_ (by rw [List.size_toArray, List.size_toArray]; omega)
    rw [show its.toArray ++ its2.toArray = (its ++ its2).toArray by simp]
    exact ⟨.ref _, _, I.lnew (t' := s.toks) (r.append r2) (by rw [List.length_append]; exact hz), rfl, q _ I.fresh⟩
  rcases hl with ⟨us, n, e⟩ | ⟨us, n, e, r⟩
  · obtain ⟨e1, _, its, m, r, e3⟩ := I.hok l _ e
    rw [e1] at e3
    cases e3
    exact hfin _ _ r e1
  · exact hfin us n r (I.kIn l _ e)
end

/-! ### the end -/
/-- the law's own head, with the marks known and the script told to be bare -/
theorem enterG {P : Program} {w : World} {K : PySem.W.Frag} {mg mb : Str → Option Value} {k : Nat} {fa a : Addr} {fd : FuncData} {x : Str} {sp : Sp} {s₁ : Shared} {vs : List Value} {ns : List Int}
    (KX : K.In s₁.heap) (hns : s₁.heap.Ns mainGlobals mg) (hb : s₁.heap.Ns builtinsNs mb) (hbb : ∀ x : Str, x ≠ "__name__" → mb x = bootBuiltins x)
    (hlim : s₁.heap.NoLimit) (hg : s₁.gens = #[]) (ha : s₁.heap.get? a = some { cls := .type "list", data := .seq vs.toArray })
    (hi : IntsAre vs ns) (hl : ns.length ≤ sizeLine) (hr : Room k callerA)
    (F : ∀ base : Heap, K.In base → base.Ns mainGlobals mg → FnG P w K mg base k fa fd [x] sp)
    (hbind : ∀ (s : Shared) (u : Value), BindsTo s fd ⟨[u], []⟩ [(x, u)])
    (hsp : ∀ H : Hp, Bare K H a (ns.map V.int) → sp [.ref a] H (fun v _ => v = .bl true) E0) :
    codeAny (model P w) callerA (.call (.ref fa) ⟨[.ref a], []⟩)
      (fun r s' => r = .ok (.ret (.bool true)) ∧ OldK s₁.heap s'.heap ∧ s'.os = s₁.os ∧ AllBare s'.gens) s₁ := by
  have rv := vals_ints hi
  have nV := hi.length
  have core : ∀ H : Hp, Only H → Bare K H a (ns.map V.int) → HOk P w H s₁.heap → (∀ b, H b ≠ none → b = a) → (H a ≠ none → K.lookup a = none) →
      codeAny (model P w) callerA (.call (.ref fa) ⟨[.ref a], []⟩)
        (fun r s' => r = .ok (.ret (.bool true)) ∧ OldK s₁.heap s'.heap ∧ s'.os = s₁.os ∧ AllBare s'.gens) s₁ := by
    intro H hO hS hok hA hK
    have only_a : ∀ {b : Addr} {u : HO}, H b = some u → b = a := fun {b u} q => hA b (by rw [q]; simp)
    have un : ∀ {b : Addr} {o : Obj} {es : Array DictEntry} {ep : Nat}, s₁.heap.get? b = some o → o.data = .dict es ep → H b = none := by
      intro b o es ep e d
      cases q : H b with
      | none => rfl
      | some u =>
        have e' := only_a q
        rw [e', ha] at e
        cases e
        exact nomatch (show Data.seq vs.toArray _ = Data.dict es ep from d)
    have nsB : ∀ {b : Addr} {m : Str → Option Value}, s₁.heap.Ns b m → (hidT s₁.heap H).Ns b m :=
      fun {b m} ⟨o, es, ep, e, d, r⟩ => ⟨o, es, ep, hidT_get e (un e d), d, r⟩
    have inB : K.In (hidT s₁.heap H) := by
      intro b o e
      refine hidT_get (KX b o e) ?_
      cases q : H b with
      | none => rfl
      | some u =>
        have e' := only_a q
        rw [e', hK (by rw [← e', q]; simp)] at e
        cases e
    have md : Mod K mg (hidT s₁.heap H) := ⟨inB, nsB hns, ⟨mb, nsB hb, hbb⟩, let ⟨mc, h1, h2⟩ := hlim; ⟨mc, nsB h1, h2⟩⟩
    have e0 : Env0 P w K mg (hidT s₁.heap H) callerA [] s₁ H :=
      ⟨rfl, md, fun b o e => of_hidT e, Nat.le_of_eq (hidT_size _ _), trivial, fun b z => absurd (show b ∈ ([] : List Addr) from z) (by simp), hok, .of_eq hg⟩
    refine codeAny_mono ((F _ inB (nsB hns)).runG callerA [] s₁ H ⟨[.ref a], []⟩ [.ref a] [.ref a] _ rfl hr e0 (hbind s₁ (.ref a)) (.cons rfl .nil) (hsp H hS)) ?_
    rintro (e | fl) s' h
    · exact (show False from h).elim
    · cases fl with
      | next => exact (show False from h).elim
      | brk => exact (show False from h).elim
      | cont => exact (show False from h).elim
      | ret u =>
        obtain ⟨v, H', os, bare, uu, hok', r', q⟩ := h
        obtain rfl : v = .bl true := q
        obtain rfl : u = Value.bool true := r'
        refine ⟨rfl, OldK.of_keep ?_, os, bare⟩
        intro b o e
        cases q : H b with
        | none => exact uu.keep b o e q (fun z => absurd (show b ∈ ([] : List Addr) from z) (by simp)) (by simp)
        | some u =>
          rcases hO b with z | ⟨ob, xs, z⟩
          · rw [q] at z
            cases z
          · obtain ⟨e1, _⟩ := hok b _ z
            obtain ⟨e2, _⟩ := hok' b _ (uu.frzs b ob _ z)
            rw [e] at e1
            cases e1
            exact e2
  cases hk : K.lookup a with
  | some o =>
    have e := KX a o hk
    rw [ha] at e
    cases e
    exact core (fun _ => none) (fun _ => .inl rfl) (.inr ⟨vs, 0, hk, rv⟩) (fun b u z => nomatch (show (none : Option HO) = some u from z)) (fun b z => absurd rfl z) (fun z => absurd rfl z)
  | none =>
    have hat : ∀ b u, (if b = a then some (HO.frz { cls := .type "list", data := .seq vs.toArray } (.lst (ns.map V.int))) else none) = some u →
        b = a ∧ u = HO.frz { cls := .type "list", data := .seq vs.toArray } (.lst (ns.map V.int)) := by
      intro b u z
      by_cases hb : b = a
      · rw [if_pos hb] at z
        exact ⟨hb, (Option.some.inj z).symm⟩
      · rw [if_neg hb] at z
        cases z
    refine core (fun b => if b = a then some (.frz { cls := .type "list", data := .seq vs.toArray } (.lst (ns.map V.int))) else none) ?_ (.inl ⟨vs, 0, if_pos rfl⟩) ?_ ?_ (fun _ => hk)
    · intro b
      by_cases hb : b = a
      · exact .inr ⟨_, _, if_pos hb⟩
      · exact .inl (if_neg hb)
    · intro b u z
      obtain ⟨rfl, rfl⟩ := hat b u z
      exact ⟨ha, by rw [List.length_map]; exact hl, vs, _, rv, ha⟩
    · intro b z
      cases q : (if b = a then some (HO.frz { cls := .type "list", data := .seq vs.toArray } (.lst (ns.map V.int))) else none) with
      | none => exact absurd q z
      | some u => exact (hat b u q).1

/-- what the last theorem takes -/
theorem walkG {l : PySem.W.OpenLaw} {k : Nat} {q : Program} {loose : List Str} {XP : (Str → Option Value) → Heap → Prop} {YP : World → Heap → Prop} {d : DefRec} {K : Params → PySem.W.Frag} {sp : PySem.W.Frag → Sp} {x : Str}
    (hn : l.most = some 63) (hdf : d.params.defaults = []) (hr : Room k callerA) (hY : ∀ (w : World) (h : Heap), YP w h → (K w.params).In h)
    (F : ∀ (w : World) (mg : Str → Option Value) (fa : Addr) (h : Heap), (K w.params).In h → h.Ns mainGlobals mg → mg d.name = some (.ref fa) →
      ∃ fd : FuncData, (∀ (s : Shared) (u : Value), BindsTo s fd ⟨[u], []⟩ [(x, u)]) ∧
        ∀ base : Heap, (K w.params).In base → base.Ns mainGlobals mg → FnG l.prog w (K w.params) mg base k fa fd [x] (sp (K w.params)))
    (hsp : ∀ (K : PySem.W.Frag) (H : Hp) (a : Addr) (ns : List Int), ns.length ≤ 63 → Bare K H a (ns.map V.int) → sp K [.ref a] H (fun v _ => v = .bl true) E0) :
    PySem.W.WalkO q loose XP YP l.row.toRowW d [] (fun f vs => PySem.call f vs) := by
  refine Att.attach_call hn hdf ?_
  intro w s₀ s₁ mg mb fa o pm cd doc a vs ns G Y ho hd hcd hmg hobj hints hlen hg
  have KX := hY w _ Y
  obtain ⟨fd, hb, hF⟩ := F w mg fa _ KX G.T.g hmg
  exact enterG KX G.T.g G.T.b G.T.builtins G.T.nolimit hg hobj hints (Nat.le_trans hlen (by decide)) hr hF hb (fun H hS => hsp (K w.params) H a ns hlen hS)
end Pk

/-! ## Comprehensions whose element has a value that the heap does not change -/
namespace Pk
open PySem PySem.Spec PyProof.Rows L2
theorem posI {j : Int} (h : decide (0 < j) = true) : 0 < j := of_decide_eq_true h
theorem one_more {α : Type} {xs : List α} {i : Nat} {a : α} (h : xs[i]? = some a) : xs.take (i + 1) = xs.take i ++ [a] := by
  rw [List.take_add_one, h]
  rfl
theorem same_upd {H1 H : Hp} {D : Addr} {o : HO} (s : Same H1 H) (hD : H1 D = none) : Same H1 (upd H D o) := fun b u e => by
  rw [upd_ne (ne_of_none e hD)]
  exact s b u e
theorem same_new {H : Hp} {p : Addr} {o : HO} (h : H p = none) : Same H (upd H p o) := same_upd (Same.refl H) h
theorem lc_map {α : Type} {J : It} {n : Nat} {G : Hp → Prop} {Y : Nat → Hp → V → Hp → Prop} (w : Walk J n G Y) (xs : List α) (emb : α → V) (hn : n = xs.length)
    (hY : ∀ i H x H', Y i H x H' → H' = H ∧ ∃ a, xs[i]? = some a ∧ x = emb a)
    {g : TG} {tt : TT} {te : TE} {vs : List Nat} {σ : L2.St} {H1 : Hp} {D : Addr} {Qd : Hp → Prop} (p : α → Bool) (f : α → V) (hD : H1 D = none) (hz : n < sizeLine) (hG : ∀ H, Same H1 H → G H)
    (hs : ∀ a, a ∈ xs → ∀ (H : Hp) (R : VK) (S : Hp → Prop), Same H1 H → (p a = true → ∀ H', Same H H' → R (f a) H') → (p a = false → ∀ H', Same H H' → S H') →
      g (emb a) (wipe σ vs) H fun σ2 H2 => wipe σ2 vs = wipe σ vs ∧ tt σ2 H2 fun b H3 => if b = true then te σ2 H3 R else S H3)
    (hd : ∀ H, Same H1 H → H D = some (.lst ((xs.filter p).map f)) → Qd H) :
    ∃ W : Nat → Nat → Hp → Prop, (∃ m, W 0 m (upd H1 D (.lst []))) ∧ ∀ i m H, W i m H →
      (J.stop i H ∧ Qd H) ∨ (J.go i H ∧ ∃ Nx : Hp → Prop, (∀ H', Nx H' → ∃ m', m' < m ∧ W (i + 1) m' H') ∧
        ∀ x H', J.yld i H x H' → g x (wipe σ vs) H' fun σ2 H2 => wipe σ2 vs = wipe σ vs ∧ tt σ2 H2 fun b H3 =>
          if b = true then te σ2 H3 fun y H4 => ∃ acc, H4 D = some (.lst acc) ∧ acc.length < sizeLine ∧ Nx (upd H4 D (.lst (acc ++ [y]))) else Nx H3) := by
  refine lc_it w (fun i H => Same H1 H ∧ H D = some (.lst (((xs.take i).filter p).map f))) ⟨same_new hD, by rw [upd_same]; rfl⟩ (fun i H _ h => hG H h.1) ?_ ?_
  · rintro i x H H' hi ⟨s, hl⟩ y
    obtain ⟨rfl, a, ha, rfl⟩ := hY _ _ _ _ y
    have hlen : (((xs.take i).filter p).map f).length < sizeLine := by
      refine Nat.lt_of_le_of_lt ?_ hz
      rw [List.length_map]
      refine Nat.le_trans (List.length_filter_le _ _) ?_
      rw [List.length_take]
      omega
    refine hs a (List.mem_of_getElem? ha) H' _ _ s (fun hp H4 s4 => ?_) (fun hp H4 s4 => ?_)
    · refine ⟨_, s4 _ _ hl, hlen, same_upd (s.trans s4) hD, ?_⟩
      rw [upd_same, one_more ha, List.filter_append, List.map_append]
      simp [hp]
    · refine ⟨s.trans s4, ?_⟩
      rw [s4 _ _ hl, one_more ha, List.filter_append, List.map_append]
      simp [hp]
  · rintro H ⟨s, hl⟩
    refine hd H s ?_
    rw [hl, hn, List.take_length]
/-- over a text -/
theorem lc_txt {z : Str} {g : TG} {tt : TT} {te : TE} {vs : List Nat} {σ : L2.St} {H1 : Hp} {D : Addr} {Qd : Hp → Prop} (p : Nat → Bool) (f : Nat → V) (hD : H1 D = none) (hz : z.length < sizeLine)
    (hs : ∀ c, c ∈ z.cps.toList → ∀ (H : Hp) (R : VK) (S : Hp → Prop), Same H1 H → (p c = true → ∀ H', Same H H' → R (f c) H') → (p c = false → ∀ H', Same H H' → S H') →
      g (.str ⟨#[c]⟩) (wipe σ vs) H fun σ2 H2 => wipe σ2 vs = wipe σ vs ∧ tt σ2 H2 fun b H3 => if b = true then te σ2 H3 R else S H3)
    (hd : ∀ H, Same H1 H → H D = some (.lst ((z.cps.toList.filter p).map f)) → Qd H) :
    ∃ W : Nat → Nat → Hp → Prop, (∃ m, W 0 m (upd H1 D (.lst []))) ∧ ∀ i m H, W i m H →
      ((Its z).stop i H ∧ Qd H) ∨ ((Its z).go i H ∧ ∃ Nx : Hp → Prop, (∀ H', Nx H' → ∃ m', m' < m ∧ W (i + 1) m' H') ∧
        ∀ x H', (Its z).yld i H x H' → g x (wipe σ vs) H' fun σ2 H2 => wipe σ2 vs = wipe σ vs ∧ tt σ2 H2 fun b H3 =>
          if b = true then te σ2 H3 fun y H4 => ∃ acc, H4 D = some (.lst acc) ∧ acc.length < sizeLine ∧ Nx (upd H4 D (.lst (acc ++ [y]))) else Nx H3) :=
  lc_map (walk_str (z := z)) z.cps.toList (fun c => .str ⟨#[c]⟩) (by simp) (fun i H x H' ⟨e, c, h1, h2⟩ => ⟨e, c, by simpa using h1, h2⟩) p f hD hz (fun _ _ => trivial) hs hd
/-- over a list -/
theorem lc_lst {α : Type} {K : PySem.W.Frag} {a : Addr} (xs : List α) (emb : α → V) {g : TG} {tt : TT} {te : TE} {vs : List Nat} {σ : L2.St} {H1 : Hp} {D : Addr} {Qd : Hp → Prop} (p : α → Bool) (f : α → V) (hD : H1 D = none) (hz : xs.length < sizeLine)
    (ha : SqL K H1 a (xs.map emb))
    (hs : ∀ c, c ∈ xs → ∀ (H : Hp) (R : VK) (S : Hp → Prop), Same H1 H → (p c = true → ∀ H', Same H H' → R (f c) H') → (p c = false → ∀ H', Same H H' → S H') →
      g (emb c) (wipe σ vs) H fun σ2 H2 => wipe σ2 vs = wipe σ vs ∧ tt σ2 H2 fun b H3 => if b = true then te σ2 H3 R else S H3)
    (hd : ∀ H, Same H1 H → H D = some (.lst ((xs.filter p).map f)) → Qd H) :
    ∃ W : Nat → Nat → Hp → Prop, (∃ m, W 0 m (upd H1 D (.lst []))) ∧ ∀ i m H, W i m H →
      ((Itl K a).stop i H ∧ Qd H) ∨ ((Itl K a).go i H ∧ ∃ Nx : Hp → Prop, (∀ H', Nx H' → ∃ m', m' < m ∧ W (i + 1) m' H') ∧
        ∀ x H', (Itl K a).yld i H x H' → g x (wipe σ vs) H' fun σ2 H2 => wipe σ2 vs = wipe σ vs ∧ tt σ2 H2 fun b H3 =>
          if b = true then te σ2 H3 fun y H4 => ∃ acc, H4 D = some (.lst acc) ∧ acc.length < sizeLine ∧ Nx (upd H4 D (.lst (acc ++ [y]))) else Nx H3) :=
  lc_map (walk_list (K := K) (a := a) (xs := xs.map emb)) xs emb (by simp)
    (fun i H x H' ⟨e, h⟩ => ⟨e, by
      rw [List.getElem?_map] at h
      cases q : xs[i]? with
      | none =>
        rw [q] at h
        cases h
      | some c =>
        rw [q] at h
        exact ⟨c, rfl, (Option.some.inj h).symm⟩⟩) p f hD (by simpa using hz) (fun H s => s.seq ha) hs hd
end Pk

/-! ## Operators, str and construction of instances with a dict; enumerate over a tuple -/
namespace Pk
open PySem PySem.Spec PyProof.Rows L2
open SlX (cmpback)
section
variable {X : Cx} {k n : Nat} {f C g : Addr} {fd : FuncData} {ps : List Str} {sp : Sp} {E : XK} {CX : CXT}
/-- x op y, both instances of the class at C, whose def for op is at g -/
def rOwnD (C : Addr) (sp : Sp) (E : XK) : R2 := fun x y H Q => ∃ a dx fs b dy gs, x = .ref a ∧ y = .ref b ∧ H a = some (.ins C dx fs) ∧ H b = some (.ins C dy gs) ∧ sp [x, y] H Q E
theorem op_ownD {op : CmpOp} (hop : ∀ a b, compareOp op a b = richCompare op a b) (hs : PySem.W.findIn X.K (.ref C) (cmpInfo op).2.1 = some (some (.ref g)))
    (hf : PySem.W.isFn X.K (.ref g) = true) (hn : PySem.W.notFirst X.K C (.ref C) = true) (F : FnR X.prog X.w X.K X.mg X.base CX n g sp) (hr : Room n X.A) (hx : Passes CX X E) : OpR X (compareOp op) (rOwnD C sp E) := by
  intro pins s σ H x y v u Q I rx ry h
  obtain ⟨a, dx, fs, b, dy, gs, rfl, rfl, ha, hb, q⟩ := h
  obtain rfl : v = Value.ref a := rx
  obtain rfl : u = Value.ref b := ry
  obtain ⟨mA, O, _⟩ := ins_get I.hok ha
  obtain ⟨od, J, _⟩ := O.look
  obtain ⟨mB, O', _⟩ := ins_get I.hok hb
  obtain ⟨od', J', _⟩ := O'.look
  obtain ⟨m, hF⟩ := I.fr
  rw [hop]
  refine PySem.W.cmp_K (op := op) (tb := .ref C) hr.units0 hF I.ok.mod.kin J J'.type hn hs hf (wpAny_mono (wpAny_call (run_fnR (us := [.ref a, .ref b]) (vs := [.ref a, .ref b]) F hr hx I (.cons rfl (.cons rfl .nil)) q)) ?_ (fun _ _ x => x))
  rintro w s' ⟨z', H', I', rz, qz⟩
  exact cmpback rz ⟨z', H', I', rz, qz⟩
/-- str(x) of an instance -/
def rStrD (C : Addr) (sp : Sp) (E : XK) : List V → Hp → VK → Prop := fun xs H Q => ∃ a dx fs, xs = [.ref a] ∧ H a = some (.ins C dx fs) ∧ sp [.ref a] H (fun z H' => ∃ t, z = .str t ∧ Q z H') E
theorem call_strD (hs : PySem.W.findIn X.K (.ref C) "__str__" = some (some (.ref g))) (hf : PySem.W.isFn X.K (.ref g) = true) (F : FnR X.prog X.w X.K X.mg X.base CX n g sp) (hr : Room (n + 2) X.A) (hx : Passes CX X E) :
    CallR X (.type "str") (rStrD C sp E) := by
  intro pins s σ H xs us Q I r h
  obtain ⟨a, dx, fs, rfl, ha, q⟩ := h
  obtain ⟨u, rfl, ru⟩ := vals1 r
  obtain rfl : u = Value.ref a := ru
  obtain ⟨mA, O, _⟩ := ins_get I.hok ha
  obtain ⟨od, J, _⟩ := O.look
  have hr1 : Room (n + 1) X.A.in1 := Room.in1 hr
  have hr2 : Room n X.A.in1.in1 := hr1.in1
  refine PySem.W.kso_call hr2.units0 I.kIn J hs hf (wpAny_mono (wpAny_call (SlX.run_at (us := [.ref a]) (ws := [.ref a]) F hr2 I.env0.in1.in1 hx I (.cons rfl .nil) q)) ?_ (fun _ _ x => x))
  rintro w s' ⟨z', H', I', rz, t, rfl, qz⟩
  obtain ⟨tk, rfl⟩ := (show ∃ t', w = Value.str t t' from rz)
  exact ⟨.str t, H', I', ⟨tk, rfl⟩, qz⟩
/-- c(..), c a local name that holds the class at C -/
theorem pe_makeL {i : Nat} {x : Str} {p pos : Pos} {e : Expr} {es : List Expr} {t : TA} (M : Mk X.K C f) (F : FnOk X.prog X.w X.K X.mg X.base CX k f fd ps sp) (hr : Room (k + 1) X.A) (hN : X.N[i]? = some x) (hv : Vis X.env.scope x)
    (hb : Binds X.K fd ps []) (hx : Passes CX X E) (ha : PA X (e :: es) t) (hd : (x == ("__debug__" : Str)) = false := by decide) (hcd : (x == ("__classdict__" : Str)) = false := by decide)
    (he : starEach (e :: es) X.env = (false, eval e X.env) :: starEach es X.env := by rfl) (hpl : (backTo pos (starEach es X.env)).any (·.1) = false := by rfl) :
    PE X (.Call (.Name x p) (e :: es) [] pos) (fun σ H Q => σ[i]? = some (some (.ref C)) ∧ tMake C sp [] E t σ H Q) := by
  constructor
  intro pins s σ H Q I h
  obtain ⟨h1, h2⟩ := h
  refine wpAny_Call_Name_kw (thn ((pe_var hN hv hd hcd).run pins s σ H (fun v H' => v = .ref C ∧ H' = H) I ⟨.ref C, h1, rfl, rfl⟩) ?_)
  rintro u s1 ⟨v, H1, I1, rv, rfl, rfl⟩
  obtain rfl : u = Value.ref C := rv
  refine PySem.W.callWith_K (h₀ := X.base) I1.ok.mod.kin M.kp (thn (ha.run pos pins s1 σ H1 _ I1 h2) ?_) he hpl
  intro us s2 ⟨vs, H2, I2, r, q⟩
  exact ⟨I2.kIn, run_make M F hr hb .nil hx I2 r q⟩
end

/-! ### enumerate over a tuple -/
/-- the tuple at a, each item in a new pair -/
def ItT (K : PySem.W.Frag) (a : Addr) : It :=
  ⟨fun i H => ∃ (xs : List V) (x : V), SqT K H a xs ∧ xs[i]? = some x,
   fun i H v H' => ∃ T x, v = .ref T ∧ H T = none ∧ H' = upd H T (.tup [.int (i : Nat), x]) ∧ ∀ xs, SqT K H a xs → xs[i]? = some x,
   fun i H => ∃ xs : List V, SqT K H a xs ∧ xs.length = i⟩
theorem turn_enT {P : Program} {w : World} {K : PySem.W.Frag} {elts : List Expr} {kk : Nat} {tpos : Pos} (a e it : Addr) :
    Turn P w K (.Tuple elts kk tpos) (ItT K a) [e, it] e (fun i h => (∃ old, IsEnum h e it ((i : Nat) : Int) old) ∧ h.IsTupleIter it a i ∧ e ≠ it ∧ a ≠ it ∧ e ≠ a) where
  mem := by simp
  obj := by
    rintro i h ⟨⟨old, he⟩, ⟨o, ho, hc, hd⟩, _⟩ b hb
    rcases (show b = e ∨ b = it by simpa using hb) with rfl | rfl
    · exact ⟨_, he, fun v q => nomatch q⟩
    · exact ⟨o, ho, fun v q => by rw [hd] at q; cases q⟩
  keep := by
    rintro i h h' ⟨⟨old, he⟩, hi, hne⟩ k
    exact ⟨⟨old, k e (by simp) _ he⟩, hi.at fun o q => k it (by simp) o q, hne⟩
  item := by
    intro X hP hw hK hc i pins s σ H E I hf st hg
    subst hP hw hK
    obtain ⟨⟨old, he⟩, hit, hne, hai, hea⟩ := st
    obtain ⟨xs, x, hq, hx⟩ := hg
    obtain ⟨its, rv, ht, hz⟩ := I.tuple hq
    obtain ⟨u, hu, ru⟩ := rv.get hx
    have hlt : i < its.toArray.size := by
      have h1 := (List.getElem?_eq_some_iff.mp hu).1
      simpa using h1
    have hel : e < s.heap.objs.size := Heap.lt_size he
    have hil : it < s.heap.objs.size := by
      obtain ⟨_, q, _⟩ := hit
      exact Heap.lt_size q
    have D := Draws.tuple (prog := X.prog) (w := X.w) (A := X.A.in1) (I.ok.hd hc) it a hai its.toArray
    refine wpAny_pyNext_enum_itemD D he ⟨hit, ht⟩ hlt hne (by simp [hne, hea]) ?_
    intro y h' tk hy ho hst hT hsz hk
    obtain rfl : u = y := by
      have h1 : its[i]? = some y := by simpa using hy
      rw [hu] at h1
      exact Option.some.inj h1
    refine ⟨_, rfl, wpAny_letOwnedTupleGo_enum (s := { s with heap := h', toks := tk + 1 }) ho ?_⟩
    intro h'' he' sb
    have hT2 := (sb.2 _ (Nat.ne_of_gt hel)).trans hT
    have new : ObjOk X.prog X.w (upd H s.heap.objs.size (.tup [.int (i : Nat), x])) h'' s.heap.objs.size (.tup [.int (i : Nat), x]) :=
      ⟨by show 2 ≤ sizeLine; decide, [.int i tk, u], .cons ⟨_, rfl⟩ (.cons ru .nil), ⟨_, hT2, rfl, _, rfl⟩⟩
    have hk2 : ∀ b ob, b ∉ [e, it] → s.heap.get? b = some ob → h''.get? b = some ob := by
      intro b ob hb q
      have n1 : b ≠ e := fun z => hb (by simp [z])
      have n2 : b ≠ it := fun z => hb (by simp [z])
      exact (sb.2 b n1).trans (hk b ob n1 n2 q)
    have I1 : Inv X pins σ (upd H s.heap.objs.size (.tup [.int (i : Nat), x])) { s with heap := h'', toks := tk + 1 } :=
      I.turnedNew (ch := [e, it]) hk2 hf (Nat.le_refl _) new
    refine ⟨.ref s.heap.objs.size, _, I1, rfl, ⟨_, x, rfl, I.fresh, rfl, ?_⟩, ⟨⟨u, ?_⟩, hst.1.at (fun o q => (sb.2 it (Ne.symm hne)).trans q), hne, hai, hea⟩, ?_⟩
    · intro ys hys
      rw [I.tuple_inj hys hq]
      exact hx
    · rw [show ((i + 1 : Nat) : Int) = (i : Int) + 1 by omega]
      exact he'
    · intro b hb
      have hb' : b < s.heap.objs.size := by
        rcases (show b = e ∨ b = it by simpa using hb) with rfl | rfl
        · exact hel
        · exact hil
      rw [upd_ne (Nat.ne_of_lt hb')]
      exact (hf b hb).1
  done := by
    intro X hP hw hK hc i pins s σ H E I hf st hg
    subst hP hw hK
    obtain ⟨⟨old, he⟩, hit, hne, hai, hea⟩ := st
    obtain ⟨xs, hq, hx⟩ := hg
    obtain ⟨its, rv, ht, hz⟩ := I.tuple hq
    obtain ⟨f0, f1, f2, f3, f4, f5⟩ := hf it (by simp)
    have hln := rv.length
    have D := Draws.tuple (prog := X.prog) (w := X.w) (A := X.A.in1) (I.ok.hd hc) it a hai its.toArray
    have ei : i = its.toArray.size := by
      rw [List.size_toArray, ← hln]
      exact hx.symm
    rw [ei] at hit
    refine wpAny_pyNext_enum_endD D he ⟨hit, ht⟩ ?_
    intro h' eb
    exact ⟨rfl, I.turned (t' := s.toks) (fun b o hb q => eb b o hb q) f0 f1 f3 f4 f5⟩
  self := by
    rintro A i s Q E ⟨⟨_, he⟩, _⟩ h
    exact wpAny_pyIter_enum he h
/-- the making of enumerate(v), v told by what its iterator is -/
theorem new_enum {v : Value} {o : Obj} {W : Heap → Prop} (B : Begins v o W) :
    Meets (Builtin.«enumerate.__new__» ⟨[.type "enumerate", v], []⟩) (fun _ R s => W s.heap ∧ R (.ok (.ret (.ref (s.heap.push o).objs.size)))
      { s with heap := (s.heap.push o).push { cls := .type "enumerate", data := .fields #[.none, .bool false, .ref s.heap.objs.size, rawInt 0, .none, .none] } }) := by
  refine .of_wp ?_
  rintro prog w A R ⟨hp, g, d, tk, os⟩ ⟨h1, h⟩
  have hsub := sub_enumerate
  have q1 : ∀ {A' : Around} {E : Value → Shared → Prop} {Q : Value → Shared → Prop}, Q (.ref hp.objs.size) ⟨hp.push o, g, d, tk, os⟩ → wpAny (model prog w) A' (pyIter v) Q E ⟨hp, g, d, tk, os⟩ := by
    intro A' E Q q
    exact B.iter prog w _ _ ⟨hp, g, d, tk, os⟩ _ h1 q
  wp_walk using q1
  refine wpAny_stack_any (fun st => wpAny_pure ?_)
  split
  · rename_i c _ _ _ _ _
    cases (c == Value.type "enumerate") <;> (wp_walk using q1; exact ⟨_, rfl, h⟩)
  · wp_walk using q1
    exact ⟨_, rfl, h⟩
theorem call_enum {prog : Program} {w : World} {A : Around} {E : Value → Shared → Prop} {s : Shared} {v : Value} {o : Obj} {W : Heap → Prop} {Q : Value → Shared → Prop} (B : Begins v o W) (h1 : W s.heap)
    (h : ∀ h', IsEnum h' (s.heap.objs.size + 1) s.heap.objs.size 0 .none → h'.get? s.heap.objs.size = some o → (∀ b o, s.heap.get? b = some o → h'.get? b = some o) →
      Q (.ref (s.heap.objs.size + 1)) { s with heap := h' }) : wpAny (model prog w) A (call (.type "enumerate") [v]) Q E s := by
  refine callType_new F.called_enumerate (by decide) (F.typeCall_enumerate_1 _) (F.newCall_enumerate_1 _) (fun obj => F.args_object_init_2 obj _) F.entry_enumerate_new (new_enum B) ⟨h1, ?_⟩
  have hz : (s.heap.push o).objs.size = s.heap.objs.size + 1 := Heap.size_push ..
  show _ ∧ _
  rw [hz]
  have he : IsEnum ((s.heap.push o).push { cls := .type "enumerate", data := .fields #[.none, .bool false, .ref s.heap.objs.size, rawInt 0, .none, .none] }) (s.heap.objs.size + 1) s.heap.objs.size 0 .none := by
    have e1 := Heap.get?_push_size (s.heap.push o) (o := { cls := .type "enumerate", data := .fields #[.none, .bool false, .ref s.heap.objs.size, rawInt 0, .none, .none] }) rfl
    rw [hz] at e1
    exact e1
  exact ⟨⟨_, he, rfl⟩, h _ he (Heap.get?_push_of_some _ (Heap.get?_push_size _ B.free)) (fun b o x => Heap.get?_push_of_some _ (Heap.get?_push_of_some _ x))⟩
def iEnT (K : PySem.W.Frag) (ta : TA) : TI := fun σ H R => ta σ H fun vs H1 => ∃ a xs, vs = [.ref a] ∧ SqT K H1 a xs ∧ R (ItT K a) H1
/-- for i, x in enumerate(a tuple) -/
theorem pi_enT {X : Cx} {e : Expr} {ta : TA} {p pos tpos : Pos} {elts : List Expr} {kk : Nat} (hg : Gl X "enumerate") (hm : X.mg "enumerate" = none) (ha : PA X [e] ta)
    (hs : starEach [e] X.env = [(false, eval e X.env)] := by rfl) : PI X (.Tuple elts kk tpos) (.Call (.Name "enumerate" p) [e] [] pos) (iEnT X.K ta) := by
  constructor
  intro pins s σ H R I h
  refine Call_ (ld_blt I hg hm boot_enumerate (PyProof.Rows.callWith_type1 (thn (ha.run pos pins s σ H _ I h) ?_) hs rfl))
  rintro us s1 ⟨vs, H1, I1, r1, a, xs, rfl, hq, q⟩
  obtain ⟨u, rfl, rx⟩ := vals1 r1
  obtain rfl : u = Value.ref a := rx
  obtain ⟨its, rv, ht, hz⟩ := I1.tuple hq
  refine call_enum (begins_tuple a its.toArray) ht ?_
  intro h' he hit hk
  refine wpAny_pyIter_enum he ?_
  have I2 : Inv X pins σ H1 { s1 with heap := h' } := I1.kept (t' := s1.toks) hk
  have la : a < s1.heap.objs.size := ht.lt
  refine ⟨s1.heap.objs.size + 1, [s1.heap.objs.size + 1, s1.heap.objs.size], _, _, H1, rfl, I2, turn_enT a (s1.heap.objs.size + 1) s1.heap.objs.size,
    ⟨⟨.none, he⟩, ⟨_, hit, rfl, rfl⟩, Nat.succ_ne_self _, Nat.ne_of_lt la, Nat.ne_of_gt (Nat.lt_succ_of_lt la)⟩, ?_, q⟩
  intro b hb
  have hle : s1.heap.objs.size ≤ b := by
    rcases (show b = s1.heap.objs.size + 1 ∨ b = s1.heap.objs.size by simpa using hb) with rfl | rfl
    · exact Nat.le_succ _
    · exact Nat.le_refl _
  exact I1.fpOk hle (I1.hok.fresh hle)
theorem walk_enT {K : PySem.W.Frag} {a : Addr} {xs : List V} : Walk (ItT K a) xs.length (fun H => SqT K H a xs) (YPair (fun i => some (.int (i : Nat))) (fun i => xs[i]?)) := by
  refine ⟨fun i _ hi q => ⟨xs, xs[i], q, by simp [hi]⟩, fun _ q => ⟨xs, q, rfl⟩, ?_⟩
  rintro i H v H' _ q ⟨T, x, h1, h2, h3, h4⟩
  exact ⟨T, .int (i : Nat), x, h1, h2, h3, rfl, h4 xs q⟩
end Pk

/-! ## Versions: the mathematics of their texts -/
namespace Pk
open PySem L2 TL SX
def isDig (c : Nat) : Bool := decide (48 ≤ c ∧ c ≤ 57)
/-- number_of_text -/
def nT (l : List Nat) : Option Nat :=
  if (decide (1 ≤ l.length) && (decide (l.length ≤ 3) && l.all isDig)) = true then (if l.head? = some 48 ∧ l ≠ [48] then none else some (NumText.digitsVal l)) else none
def wd : Nat → List Nat
  | 0 => [97]
  | 1 => [98]
  | _ => [114, 99]
/-- stage_of_text, from the i-th word on -/
def sTn (l : List Nat) : Nat → Nat → List Nat × Option Nat
  | 0, _ => (l, some 3000)
  | k + 1, i => match par (wd i) [] l with
    | some (p, q) => (p, (nT q).map (fun n => i * 1000 + n))
    | none => sTn l k (i + 1)
def sT (l : List Nat) : List Nat × Option Nat := sTn l 3 0
def allSome : List (Option Nat) → Option (List Nat)
  | [] => some []
  | none :: _ => none
  | some n :: r => (allSome r).map (n :: ·)
/-- parts_of_text -/
def pT (l : List Nat) : Option (List Nat × Nat) :=
  match (sT l).2, allSome ((spl [46] 0 [] (sT l).1).map nT) with
  | some st, some ns => if ns.length > 4 then none else some (ns, st)
  | _, _ => none
def rk (ns : List Nat) (st : Nat) : Nat := ((ns ++ [0, 0, 0]).take 4).foldl (fun r n => r * 1000 + n) 0 * 3001 + st
def stg (st : Nat) : List Nat := if st = 3000 then [] else wd (st / 1000) ++ numL (st % 1000)
def wrt (figs : List Nat) (st : Nat) : List Nat := joinL [46] (figs.map numL) ++ stg st
theorem nT_num : ∀ n : Nat, n < 1000 → nT (numL n) = some n := by
  intro n hn
  have hd := numL_digits n
  have h1 : (numL n).length ≤ 3 := numL_len (by decide) hn
  have h2 : 1 ≤ (numL n).length := by
    have := numL_ne n
    cases e : numL n with
    | nil => exact absurd e this
    | cons c r => simp
  have h3 : (numL n).all isDig = true := by
    rw [List.all_eq_true]
    intro c hc
    have := hd c hc
    simp only [isDig, decide_eq_true_eq]
    omega
  have h4 : ¬ ((numL n).head? = some 48 ∧ numL n ≠ [48]) := by
    have key : ∀ n : Nat, n < 1000 → decide ((numL n).head? = some 48 ∧ numL n ≠ [48]) = false := by decide +kernel
    exact of_decide_eq_false (key n hn)
  unfold nT
  rw [decide_eq_true h1, decide_eq_true h2, h3]
  simp only [Bool.and_self, if_true]
  rw [if_neg h4, numL_val]
theorem join_chars : ∀ {figs : List Nat} {c : Nat}, c ∈ joinL [46] (figs.map numL) → c = 46 ∨ (48 ≤ c ∧ c ≤ 57)
  | [], c, h => by cases h
  | [n], c, h => by
    have := numL_digits n c h
    omega
  | n :: m :: r, c, h => by
    have h' : c ∈ numL n ++ ([46] ++ joinL [46] ((m :: r).map numL)) := h
    rcases List.mem_append.mp h' with h | h
    · have := numL_digits n c h
      omega
    · rcases List.mem_append.mp h with h | h
      · exact .inl (by simpa using h)
      · exact join_chars h
theorem allSome_map : ∀ figs : List Nat, allSome (figs.map some) = some figs
  | [] => rfl
  | n :: r => by
    show (allSome (r.map some)).map (n :: ·) = some (n :: r)
    rw [allSome_map r]
    rfl
theorem sT_wrt {figs : List Nat} {st : Nat} (hs : st ≤ 3000) : sT (wrt figs st) = (joinL [46] (figs.map numL), some st) := by
  have noc : ∀ c : Nat, 57 < c → c ∉ joinL [46] (figs.map numL) := fun c hc h => by
    have := join_chars h
    omega
  have nod : ∀ c n : Nat, 57 < c → c ∉ numL n := fun c n hc => numL_free (.inr hc)
  unfold wrt
  generalize joinL [46] (figs.map numL) = A at noc
  by_cases h3 : st = 3000
  · subst h3
    have e1 : par [97] [] A = none := par_none1 (noc 97 (by decide))
    have e2 : par [98] [] A = none := par_none1 (noc 98 (by decide))
    have e3 : par [114, 99] [] A = none := par_none1 (noc 114 (by decide))
    simp only [stg, if_true, List.append_nil, sT, sTn, wd, e1, e2, e3]
  · have hs0 : stg st = wd (st / 1000) ++ numL (st % 1000) := if_neg h3
    have hn : nT (numL (st % 1000)) = some (st % 1000) := nT_num _ (Nat.mod_lt _ (by decide))
    have hlt : st / 1000 < 3 := by omega
    rw [hs0]
    have hc : st / 1000 = 0 ∨ st / 1000 = 1 ∨ st / 1000 = 2 := by omega
    rcases hc with h | h | h
    · rw [h]
      have e1 : par [97] [] (A ++ ([97] ++ numL (st % 1000))) = some (A, numL (st % 1000)) := by
        have := par_part1 (s := 97) (S := []) (p := A) (rest := numL (st % 1000)) (acc := []) (noc 97 (by decide))
        simpa using this
      simp only [sT, sTn, wd, e1, hn, Option.map_some]
      congr 2
      omega
    · rw [h]
      have m1 : 97 ∉ A ++ ([98] ++ numL (st % 1000)) := by
        simp only [List.mem_append, List.mem_singleton]
        rintro (q | q | q)
        · exact noc 97 (by decide) q
        · exact absurd q (by decide)
        · exact nod 97 _ (by decide) q
      have e1 : par [97] [] (A ++ ([98] ++ numL (st % 1000))) = none := par_none1 m1
      have e2 : par [98] [] (A ++ ([98] ++ numL (st % 1000))) = some (A, numL (st % 1000)) := by
        have := par_part1 (s := 98) (S := []) (p := A) (rest := numL (st % 1000)) (acc := []) (noc 98 (by decide))
        simpa using this
      simp only [sT, sTn, wd, e1, e2, hn, Option.map_some]
      congr 2
      omega
    · rw [h]
      have m1 : 97 ∉ A ++ ([114, 99] ++ numL (st % 1000)) := by
        simp only [List.mem_append, List.mem_cons, List.not_mem_nil, or_false]
        rintro (q | (q | q) | q)
        · exact noc 97 (by decide) q
        · exact absurd q (by decide)
        · exact absurd q (by decide)
        · exact nod 97 _ (by decide) q
      have m2 : 98 ∉ A ++ ([114, 99] ++ numL (st % 1000)) := by
        simp only [List.mem_append, List.mem_cons, List.not_mem_nil, or_false]
        rintro (q | (q | q) | q)
        · exact noc 98 (by decide) q
        · exact absurd q (by decide)
        · exact absurd q (by decide)
        · exact nod 98 _ (by decide) q
      have e1 : par [97] [] (A ++ ([114, 99] ++ numL (st % 1000))) = none := par_none1 m1
      have e2 : par [98] [] (A ++ ([114, 99] ++ numL (st % 1000))) = none := par_none1 m2
      have e3 : par [114, 99] [] (A ++ ([114, 99] ++ numL (st % 1000))) = some (A, numL (st % 1000)) := by
        have := par_part1 (s := 114) (S := [99]) (p := A) (rest := numL (st % 1000)) (acc := []) (noc 114 (by decide))
        simpa using this
      simp only [sT, sTn, wd, e1, e2, e3, hn, Option.map_some]
      congr 2
      omega
theorem pT_wrt {figs : List Nat} {st : Nat} (hf : figs ≠ []) (h4 : figs.length ≤ 4) (hb : ∀ n ∈ figs, n < 1000) (hs : st ≤ 3000) : pT (wrt figs st) = some (figs, st) := by
  have e : (spl [46] 0 [] (joinL [46] (figs.map numL))).map nT = figs.map some := by
    rw [TL.spl_join (s := 46) (S := []) (by simpa using hf) (fun p hp => by
      obtain ⟨n, _, rfl⟩ := List.mem_map.mp hp
      exact numL_free (.inl (by decide))), List.map_map]
    exact List.map_congr_left fun n hn => nT_num n (hb n hn)
  unfold pT
  rw [sT_wrt hs, e, allSome_map]
  simp only
  rw [if_neg (by omega)]
/-- how many numbers are written -/
def many (ns : List Nat) : Nat → Nat
  | 0 => 0
  | 1 => 1
  | m + 2 => if ns[m + 1]? = some 0 then many ns (m + 1) else m + 2
theorem many_le (ns : List Nat) : ∀ m, many ns m ≤ m
  | 0 => Nat.le_refl _
  | 1 => Nat.le_refl _
  | m + 2 => by
    unfold many
    split
    · exact Nat.le_succ_of_le (many_le ns (m + 1))
    · exact Nat.le_refl _
theorem many_pos (ns : List Nat) : ∀ m, 0 < m → 0 < many ns m
  | 1, _ => Nat.one_pos
  | m + 2, _ => by
    unfold many
    split
    · exact many_pos ns (m + 1) (by omega)
    · omega
def trim (ns : List Nat) : List Nat := ns.take (many ns ns.length)
/-- text_at -/
def n4 (r : Nat) : List Nat := [r / 3001 / 1000000000, r / 3001 / 1000000 % 1000, r / 3001 / 1000 % 1000, r / 3001 % 1000]
def tA (r : Nat) : List Nat := wrt (trim (n4 r)) (r % 3001)
theorem n4_lt {r : Nat} (h : r ≤ 3000999999999999) : ∀ n ∈ n4 r, n < 1000 := by
  intro n hn
  simp only [n4, List.mem_cons, List.not_mem_nil, or_false] at hn
  rcases hn with rfl | rfl | rfl | rfl <;> omega
theorem trim_len (ns : List Nat) : (trim ns).length = many ns ns.length := by
  unfold trim
  rw [List.length_take]
  have := many_le ns ns.length
  omega
theorem pT_tA {r : Nat} (h : r ≤ 3000999999999999) : pT (tA r) = some (trim (n4 r), r % 3001) := by
  have hl : (n4 r).length = 4 := rfl
  refine pT_wrt ?_ ?_ (fun n hn => n4_lt h n (List.mem_of_mem_take hn)) (by omega)
  · intro e
    have h1 := trim_len (n4 r)
    rw [e, hl] at h1
    have := many_pos (n4 r) 4 (by decide)
    simp at h1
    omega
  · have h1 := trim_len (n4 r)
    have := many_le (n4 r) (n4 r).length
    omega
/-- what is left out is zero -/
theorem many_zero (ns : List Nat) : ∀ m i, many ns m ≤ i → i < m → ns[i]? = some 0 ∨ m = 0
  | 0, _, _, h => absurd h (Nat.not_lt_zero _)
  | 1, i, h1, h2 => by
    have : many ns 1 = 1 := rfl
    omega
  | m + 2, i, h1, h2 => by
    unfold many at h1
    split at h1
    · rename_i h0
      by_cases hi : i = m + 1
      · subst hi
        exact .inl h0
      · exact .inl ((many_zero ns (m + 1) i h1 (by omega)).resolve_right (by omega))
    · omega
theorem rk_n4 {r : Nat} (h : r ≤ 3000999999999999) : rk (n4 r) (r % 3001) = r := by
  simp only [rk, n4, List.cons_append, List.nil_append, List.take_succ_cons, List.take_zero, List.foldl_cons, List.foldl_nil]
  omega
theorem take4 {ns : List Nat} (h : ns.length = 4) : ((trim ns) ++ [0, 0, 0]).take 4 = (ns ++ [0, 0, 0]).take 4 := by
  have hz := many_zero ns 4
  have hp := many_pos ns 4 (by decide)
  have hl := many_le ns 4
  unfold trim
  rw [h]
  generalize many ns 4 = m at hz hp hl
  match ns, h with
  | [a, b, c, d], _ =>
    have hm : m = 1 ∨ m = 2 ∨ m = 3 ∨ m = 4 := by omega
    rcases hm with rfl | rfl | rfl | rfl
    · have h1 := (hz 1 (by decide) (by decide)).resolve_right (by decide)
      have h2 := (hz 2 (by decide) (by decide)).resolve_right (by decide)
      have h3 := (hz 3 (by decide) (by decide)).resolve_right (by decide)
      simp at h1 h2 h3
      subst h1 h2 h3
      rfl
    · have h2 := (hz 2 (by decide) (by decide)).resolve_right (by decide)
      have h3 := (hz 3 (by decide) (by decide)).resolve_right (by decide)
      simp at h2 h3
      subst h2 h3
      rfl
    · have h3 := (hz 3 (by decide) (by decide)).resolve_right (by decide)
      simp at h3
      subst h3
      rfl
    · rfl
theorem rk_trim {r : Nat} (h : r ≤ 3000999999999999) : rk (trim (n4 r)) (r % 3001) = r := by
  have e : rk (trim (n4 r)) (r % 3001) = rk (n4 r) (r % 3001) := by
    unfold rk
    rw [take4 rfl]
  rw [e, rk_n4 h]
end Pk

/-! ## An instance compared with any other object -/
namespace Pk
open PySem PySem.Spec PyProof.Rows L2
open SlX (cmpback)
section
variable {X : Cx} {k n : Nat} {f C g : Addr} {fd : FuncData} {ps : List Str} {sp : Sp} {E : XK} {CX : CXT}
/-- x op y, x an instance of the class at C, whose def for op is at g; y of a type that is not below C -/
def rOwnA (K : PySem.W.Frag) (C : Addr) (sp : Sp) (E : XK) : R2 := fun x y H Q => ∃ a dx fs t, x = .ref a ∧ H a = some (.ins C dx fs) ∧ TyX K H y t ∧ PySem.W.notFirst K C t = true ∧ sp [x, y] H Q E
theorem op_ownA {op : CmpOp} (hop : ∀ a b, compareOp op a b = richCompare op a b) (hs : PySem.W.findIn X.K (.ref C) (cmpInfo op).2.1 = some (some (.ref g)))
    (hf : PySem.W.isFn X.K (.ref g) = true) (F : FnR X.prog X.w X.K X.mg X.base CX n g sp) (hr : Room n X.A) (hx : Passes CX X E) : OpR X (compareOp op) (rOwnA X.K C sp E) := by
  intro pins s σ H x y v u Q I rx ry h
  obtain ⟨a, dx, fs, t, rfl, ha, ty, hn, q⟩ := h
  obtain rfl : v = Value.ref a := rx
  obtain ⟨mA, O, _⟩ := ins_get I.hok ha
  obtain ⟨od, J, _⟩ := O.look
  obtain ⟨m, hF⟩ := I.fr
  obtain ⟨P, Z, p, _⟩ := kit_of I ry ty
  rw [hop]
  refine PySem.W.cmp_K (op := op) (tb := t) hr.units0 hF I.ok.mod.kin J (Z.ty _ _ I.kIn p) hn hs hf (wpAny_mono (wpAny_call (run_fnR (us := [.ref a, u]) (vs := [.ref a, y]) F hr hx I (.cons rfl (.cons ry .nil)) q)) ?_ (fun _ _ x => x))
  rintro w s' ⟨z', H', I', rz, qz⟩
  exact cmpback rz ⟨z', H', I', rz, qz⟩
end
/-- no built-in type is an own class -/
theorem kit_not {K : PySem.W.Frag} {C : Addr} (cl : Cls K C) (rd : ClX.CRead K C (.type "type")) {T : String} (hT : (PySem.fastFind? T).isSome = true := by decide +kernel) :
    PySem.W.kitOne K (.type T) (.ref C) = some false ∧ PySem.W.notFirst K C (.type T) = true := by
  have hs : PySem.W.subIn K (.type T) (.ref C) = some false := by
    obtain ⟨d, hd⟩ := Option.isSome_iff_exists.mp hT
    show ((PySem.fastFind? T).map _).map _ = _
    rw [hd]
    show some (List.contains (d.mro.map Value.type) (.ref C)) = some false
    congr 1
    generalize d.mro = ts
    induction ts with
    | nil => rfl
    | cons t r ih =>
      rw [List.map_cons, List.contains_cons, ih]
      rfl
  have h1 : (PySem.W.clsIn K C).isSome = true := by
    have h := cl.hd
    unfold PySem.W.hasDictIn at h
    cases e : PySem.W.clsIn K C with
    | none =>
      rw [e] at h
      cases h
    | some c => rfl
  have h2 : PySem.W.typeIn K (.ref C) = some (.type "type") := by
    have h := rd.rd
    simp only [PySem.W.readsIn, Bool.and_eq_true, beq_iff_eq] at h
    exact h.1.1.1.2
  constructor
  · unfold PySem.W.kitOne
    rw [if_neg (by intro h; cases h)]
    show (if ((PySem.W.clsIn K C).isSome && PySem.W.typeIn K (.ref C) == some (.type "type")) = true then _ else _) = _
    rw [h1, h2, if_pos (by decide), hs]
  · unfold PySem.W.notFirst
    rw [hs]
    rfl
/-! ## Tuples of whole numbers: order -/
theorem dp_ints {K : PySem.W.Frag} {H : Hp} : ∀ {ns : List Int}, DpAll K H (ns.map V.int) (ns.map .int)
  | [] => .nil
  | n :: r => .cons (.int n) (dp_ints (ns := r))
theorem ints_lay : ∀ ns : List Int, PyData.canLayAll0 (ns.map .int) = true
  | [] => rfl
  | n :: r => by
    show (PyData.canLay0 (.int n) && PyData.canLayAll0 (r.map .int)) = true
    rw [ints_lay r]
    simp [PyData.canLay0]
theorem ints_depth : ∀ ns : List Int, PyData.depthAll (ns.map .int) = 0
  | [] => rfl
  | n :: r => by
    show max (PyData.depth (.int n)) (PyData.depthAll (r.map .int)) = 0
    rw [ints_depth r]
    rfl
theorem ints_shaped (ns : List Int) : SeqAt.shaped (.tuple (ns.map .int)) = true := by
  unfold SeqAt.shaped
  have e : PyData.canLay0 (.tuple (ns.map .int)) = true := by
    simp only [PyData.canLay0]
    exact ints_lay ns
  rw [e]
  simp only [PyData.depth, ints_depth]
  rfl
theorem ints_eqv (ns ms : List Int) : PyData.eqv (.tuple (ns.map .int)) (.tuple (ms.map .int)) = decide (ns = ms) := by
  have h := PySem.W.Datum.eqv (α := PySem.W.Tup Int) ⟨ns⟩ ⟨ms⟩
  refine h.trans (decide_eq_decide.mpr ⟨fun e => congrArg PySem.W.Tup.items e, fun e => by rw [e]⟩)
def rTupI (K : PySem.W.Frag) (f : List Int → List Int → Bool) : R2 := fun x y H Q => ∃ (a b : Addr) (ns ms : List Int), x = .ref a ∧ y = .ref b ∧ SqT K H a (ns.map V.int) ∧ SqT K H b (ms.map V.int) ∧ Q (.bl (f ns ms)) H
section
variable {X : Cx}
theorem holds_ints {pins : List (Addr × Obj)} {σ : L2.St} {H : Hp} {s : Shared} {a : Addr} {ns : List Int} {v : Value} (I : Inv X pins σ H s) (h : SqT X.K H a (ns.map V.int)) (r : RelV (.ref a) v) : PySem.W.Holds s.heap v (⟨ns⟩ : PySem.W.Tup Int) :=
  Dp.reads I _ _ v (.tup h dp_ints) r
theorem op_ltTI (hu : X.A.units + 64 < cLine) : OpR X (compareOp .Lt) (rTupI X.K fun ns ms => PySem.W.listLt ns ms) := by
  intro pins s σ H x y v u Q I rx ry h
  obtain ⟨a, b, ns, ms, rfl, rfl, ha, hb, q⟩ := h
  exact PySem.W.lt_datum (holds_ints I ha rx) (holds_ints I hb ry) (Nat.lt_of_le_of_lt (Nat.add_le_add_left (show (1 : Nat) ≤ 64 by decide) _) hu) ⟨.bl _, H, I, rfl, q⟩
theorem op_gtTI (hu : X.A.units + 64 < cLine) : OpR X (compareOp .Gt) (rTupI X.K fun ns ms => PySem.W.listLt ms ns) := by
  intro pins s σ H x y v u Q I rx ry h
  obtain ⟨a, b, ns, ms, rfl, rfl, ha, hb, q⟩ := h
  exact PySem.W.gt_datum (holds_ints I ha rx) (holds_ints I hb ry) (Nat.lt_of_le_of_lt (Nat.add_le_add_left (show (1 : Nat) ≤ 64 by decide) _) hu) ⟨.bl _, H, I, rfl, q⟩
theorem op_leTI (hu : X.A.units + 64 < cLine) : OpR X (compareOp .LtE) (rTupI X.K fun ns ms => !PySem.W.listLt ms ns) := by
  intro pins s σ H x y v u Q I rx ry h
  obtain ⟨a, b, ns, ms, rfl, rfl, ha, hb, q⟩ := h
  exact PySem.W.le_datum (holds_ints I ha rx) (holds_ints I hb ry) (Nat.lt_of_le_of_lt (Nat.add_le_add_left (show (1 : Nat) ≤ 64 by decide) _) hu) ⟨.bl _, H, I, rfl, q⟩
theorem op_geTI (hu : X.A.units + 64 < cLine) : OpR X (compareOp .GtE) (rTupI X.K fun ns ms => !PySem.W.listLt ns ms) := by
  intro pins s σ H x y v u Q I rx ry h
  obtain ⟨a, b, ns, ms, rfl, rfl, ha, hb, q⟩ := h
  exact PySem.W.ge_datum (holds_ints I ha rx) (holds_ints I hb ry) (Nat.lt_of_le_of_lt (Nat.add_le_add_left (show (1 : Nat) ≤ 64 by decide) _) hu) ⟨.bl _, H, I, rfl, q⟩
end
end Pk

/-! ## Exceptions that are kept as values: made, caught under a name, their fields read -/
namespace Pk
open PySem PySem.Spec PyProof.Rows L2
/-- at a: an exception of the class cls that is in nobody's flight, its dict at d -/
def ExK (cls : Value) (d : Option Addr) (a : Addr) : HO := .ext fun h => ∃ (oe : Obj) (vs : Array Value), h.get? a = some oe ∧ Zc cls d oe ∧ oe.data = .fields vs
theorem exK_ok {P : Program} {w : World} {H : Hp} {h : Heap} {a : Addr} {cls : Value} {d : Option Addr} {oe : Obj} {vs : Array Value} (e : h.get? a = some oe) (z : Zc cls d oe) (q : oe.data = .fields vs) : ObjOk P w H h a (ExK cls d a) :=
  ⟨⟨oe, vs, e, z, q⟩, ⟨oe, e⟩, fun _ _ ⟨o1, v1, e1, z1, q1⟩ k => ⟨o1, v1, k _ e1, z1, q1⟩⟩
theorem exK_at {P : Program} {w : World} {H : Hp} {h : Heap} {a : Addr} {cls : Value} {d : Option Addr} (k : HOk P w H h) (e : H a = some (ExK cls d a)) : ∃ (oe : Obj) (vs : Array Value), h.get? a = some oe ∧ Zc cls d oe ∧ oe.data = .fields vs :=
  (show ObjOk P w H h a (.ext fun h => ∃ (oe : Obj) (vs : Array Value), h.get? a = some oe ∧ Zc cls d oe ∧ oe.data = .fields vs) from k a _ e).1
theorem exK_ne {cls : Value} {d : Option Addr} {a : Addr} : (∀ xs, ExK cls d a ≠ .tup xs) ∧ (∀ o u, ExK cls d a ≠ .frz o u) ∧ (∀ ps, ExK cls d a ≠ .tbl ps) ∧ ∀ x, ExK cls d a ≠ .own x := by
  refine ⟨fun _ z => ?_, fun _ _ z => ?_, fun _ z => ?_, fun _ z => ?_⟩ <;> (unfold ExK at z; cases z)
section
variable {X : Cx} {pins : List (Addr × Obj)} {σ : L2.St} {H : Hp} {s : Shared}
/-- a thing of the heap that is younger than the def's call, told from now on -/
theorem track {a : Addr} {o : HO} (I : Inv X pins σ H s) (young : X.s_0.heap.get? a = none) (untold : H a = none) (nl : X.env.locals ≠ a) (nc : ∀ x c, X.env.cells.lookup x = some c → c ≠ a)
    (np : ∀ p ∈ X.pn ++ pins, p.1 ≠ a) (new : ObjOk X.prog X.w (upd H a o) s.heap a o) : Inv X pins σ (upd H a o) s := by
  have off : ∀ {b : Addr} {u : HO}, H b = some u → b ≠ a := fun {b u} e z => by
    rw [z, untold] at e
    cases e
  have old : ∀ {b : Addr} {u : Obj}, X.s_0.heap.get? b = some u → b ≠ a := fun {b u} e z => by
    rw [z, young] at e
    cases e
  have at_ : ∀ {b : Addr} {u : HO}, H b = some u → upd H a o b = some u := fun {b u} e => by
    rw [upd_ne (off e)]
    exact e
  refine { ok := I.ok, os := I.os, bare := I.bare, loc := I.loc, cell := I.cell, len := I.len, base := { keep := I.base.keep, slot := I.base.slot, there := I.base.there, free := ?_, tups := ?_, frzs := ?_, tbls := ?_ }, free := ?_, freeC := ?_, pin := ?_, hok := ?_ }
  · intro b u e n hx
    rw [upd_ne (old e)]
    exact I.base.free b u e n hx
  · exact fun b xs e => at_ (I.base.tups b xs e)
  · exact fun b u v e => at_ (I.base.frzs b u v e)
  · intro b ps e
    obtain ⟨m, q⟩ := I.base.tbls b ps e
    exact ⟨m, at_ q⟩
  · rw [upd_ne nl]
    exact I.free
  · intro x c e
    rw [upd_ne (nc x c e)]
    exact I.freeC x c e
  · intro p hp
    obtain ⟨q1, q2, q3, q4, q5⟩ := I.pin p hp
    exact ⟨q1, by rw [upd_ne (np p hp)]; exact q2, q3, q4, q5⟩
  · intro b u e
    by_cases hb : b = a
    · subst hb
      rw [upd_same] at e
      cases e
      exact new
    · rw [upd_ne hb] at e
      exact (I.hok b u e).stay (fun _ _ _ q => q) (fun _ q => at_ q) (fun _ _ q => at_ q)
theorem moved {s' : Shared} (I : Inv X pins σ H s) (hh : s'.heap = s.heap) (os : s'.os = s.os) (ag : AllBare s'.gens) : Inv X pins σ H s' := by
  obtain ⟨h1, g1, d1, t1, o1⟩ := s
  obtain ⟨h2, g2, d2, t2, o2⟩ := s'
  dsimp only at hh os ag
  subst hh os
  exact { ok := I.ok, os := I.os, bare := ag, base := I.base, loc := I.loc, cell := I.cell, free := I.free, freeC := I.freeC, pin := I.pin, hok := I.hok, len := I.len }
/-- what was not there before the call -/
theorem young_of (I : Inv X pins σ H s) (hex : X.ex = []) {a : Addr} (n : s.heap.get? a = none) : X.s_0.heap.get? a = none := by
  cases e : X.s_0.heap.get? a with
  | none => rfl
  | some o =>
    obtain ⟨o', q⟩ := I.base.there a o e (by rw [hex]; exact fun z => nomatch z)
    rw [n] at q
    cases q
theorem notcell (I : Inv X pins σ H s) {a : Addr} {oe : Obj} {vs : Array Value} (e : s.heap.get? a = some oe) (q : oe.data = .fields vs) : ∀ x c, X.env.cells.lookup x = some c → c ≠ a := fun x c hc z => by
  obtain ⟨v, o, ho, hd⟩ := I.cell x c hc
  rw [z, e] at ho
  cases ho
  rw [q] at hd
  cases hd
theorem notlocals (I : Inv X pins σ H s) {a : Addr} (n : s.heap.get? a = none) : X.env.locals ≠ a := fun z => by
  obtain ⟨m, ⟨o, es, ep, ho, _⟩, _⟩ := I.loc
  rw [z, n] at ho
  cases ho
end
/-! ### C(..) as a value -/
def tMkV (t : L2.St → Hp → XK → Prop) : TE := fun σ H Q => t σ H fun cls d H' => ∀ a, H' a = none → Q (.ref a) (upd H' a (ExK cls d a))
theorem pe_mkV {X : Cx} {e : Expr} {t : L2.St → Hp → XK → Prop} (hex : X.ex = []) (he : PMk X e t) : PE X e (tMkV t) := by
  refine ⟨fun pins s σ H Q I h => wpAny_mono (he pins s σ H _ I h) ?_ fun _ _ x => x⟩
  rintro u s' ⟨a, oe, vs, sI, H', cls, d, rfl, J, k, gone, there, hz, hd, _, na, os, ag, _, q⟩
  have J1 : Inv X pins σ H' s' := moved (s := { sI with heap := s'.heap, toks := sI.toks }) (J.kept k) rfl os ag
  refine ⟨.ref a, _, track J1 (young_of J hex gone) na (notlocals J gone) (notcell J1 there hd) (fun p hp z => ?_) (exK_ok there hz hd), rfl, q a na⟩
  have := (J.pin p hp).1
  rw [z, gone] at this
  cases this
/-! ### e.f -/
def tXfV (K : PySem.W.Frag) (f : Str) (te : TE) : TE := fun σ H Q => te σ H fun x H1 => ∃ (a dd C : Addr) (fs : List (Str × V)) (v : V), x = .ref a ∧ XfC K C ∧ PySem.W.findIn K (.ref C) f = some none ∧
  H1 a = some (ExK (.ref C) (some dd) a) ∧ H1 dd = some (.xd fs) ∧ fs.lookup f = some v ∧ Q v H1
theorem pe_xfV {X : Cx} {e : Expr} {te : TE} {pos : Pos} {n : Str} (he : PE X e te) (hb : attributeBase e n X.env (eval e X.env) = eval e X.env := by rfl) : PE X (.Attribute e n pos) (tXfV X.K n te) := by
  refine ⟨fun pins s σ H Q I h => attr_of hb (thn (he.run pins s σ H _ I h) ?_)⟩
  rintro u s1 ⟨x, H1, I1, rx, a, dd, C, fs, v, rfl, T, no, hx, hd, hl, q⟩
  obtain rfl : u = Value.ref a := rx
  obtain ⟨oe, vs, there, hz, hf⟩ := exK_at I1.hok hx
  obtain ⟨mA, hns, hr⟩ : ObjOk X.prog X.w H1 s1.heap dd (.xd fs) := I1.hok dd _ hd
  obtain ⟨od, ho, hlk⟩ := lookIn_ns hns
  obtain ⟨u, hu, ru⟩ := RelO.some_of (v := v) (o := mA n) (by rw [← hl]; exact hr n)
  have J : PySem.W.InstAt s1.heap a oe C (some od) := ⟨there, hz.1, by unfold PySem.W.notCls; rw [hf] <;> rfl, by rw [hz.2]; exact ho⟩
  exact HandSPX.exc_get I1.kIn J T.ga T.gg T.exC (PySem.W.findObj_own T.hdC no rfl (by rw [hlk, hu])) (handed_of ru) ⟨v, H1, I1.tok _, ru, q⟩
/-! ### try: body / except x as n: suite, the exception kept -/
/-- what follows the suite: the name is gone, the exception is told -/
def behindV (i : Nat) (a : Addr) (cls : Value) (d : Option Addr) (D : Ends) : Ends where
  nx := fun σ H => H a = none → D.nx (σ.set i none) (upd H a (ExK cls d a))
  rt := D.rt
  bk := fun σ H => D.bk (σ.set i none) H
  ct := fun σ H => D.ct (σ.set i none) H
def wAsV (K : PySem.W.Frag) (c : Value) (i : Nat) (ts : Addr → Value → Option Addr → TS) (Wout : WX) (D : Ends) : WX := fun cls d σ H =>
  ∃ b, PySem.W.exmOne K cls c = some b ∧ (b = true → ∀ a, H a = none → ts a cls d (behindV i a cls d D) (σ.set i (some (.ref a))) H) ∧ (b = false → Wout cls d σ H)
section
variable {X : Cx} {x n : Str} {c : Value} {i : Nat} {body suite : List Stmt} {b₀ : Stmt} {np pos pos' : Pos} {tb : WX → TS} {ts : Addr → Value → Option Addr → TS} {Wout : WX}
theorem unsuiteK {a : Addr} {q : Addr × Obj} {pins : List (Addr × Obj)} {σ : L2.St} {H : Hp} {s : Shared} (I : Inv (X.suite a (q :: (X.pn ++ pins))) [] σ H s) (ok : X.Ok) : Inv X (q :: pins) σ H s :=
  { ok := ok, os := I.os, bare := I.bare, base := I.base, loc := I.loc, cell := I.cell, free := I.free, freeC := I.freeC, hok := I.hok, len := I.len
    pin := fun p hp => I.pin p (by
      rcases List.mem_append.mp hp with h | h
      · exact List.mem_append_left _ (List.mem_cons_of_mem _ (List.mem_append_left _ h))
      · rcases List.mem_cons.mp h with h | h
        · rw [h]
          exact List.mem_append_left _ List.mem_cons_self
        · exact List.mem_append_left _ (List.mem_cons_of_mem _ (List.mem_append_right _ h))) }
theorem unpin {q : Addr × Obj} {pins : List (Addr × Obj)} {σ : L2.St} {H : Hp} {s : Shared} (I : Inv X (q :: pins) σ H s) : Inv X pins σ H s :=
  { ok := I.ok, os := I.os, bare := I.bare, base := I.base, loc := I.loc, cell := I.cell, free := I.free, freeC := I.freeC, hok := I.hok, len := I.len
    pin := fun p hp => I.pin p (by
      rcases List.mem_append.mp hp with h | h
      · exact List.mem_append_left _ h
      · exact List.mem_append_right _ (List.mem_cons_of_mem _ h)) }
theorem ps_try_asV (hex : X.ex = []) (hs : X.stack = X.env :: X.outer) (hf : X.env.frame = some X.env.locals) (hN : X.N.Nodup) (hi : X.N[i]? = some n) (hln : X.env.kindOf n = some .local) (hc : Names X x c) (tk : Takes X Wout)
    (hb : ∀ (W : WX) (pn : List (Addr × Obj)) (xe : Value → Shared → Prop), Takes (X.tr pn xe) W → PassesOwn (model X.prog X.w) X.A X.env xe → PSs (X.tr pn xe) body (tb W))
    (hsu : ∀ (a : Addr) (oe : Obj) (cls : Value) (d : Option Addr) (pn : List (Addr × Obj)), Zc cls d oe → (∃ vs, oe.data = .fields vs) → PSs (X.suite a ((a, oe) :: pn)) (b₀ :: suite) (ts a cls d)) :
    PS X (.Try body [.ExceptHandler (some (.Name x np)) (some n) (b₀ :: suite) pos'] [] [] pos) (fun D σ H => tb (wAsV X.K c i ts Wout D) D σ H) := by
  constructor
  intro pins s σ H D I h
  have okX := I.ok
  have frames : X.A.frames = some (X.env :: X.outer) := okX.frames.trans (by rw [hs])
  refine wpAny_Try_except ?_
  let XC : Value → Shared → Prop := fun e s₁ => wpAny (model X.prog X.w) X.A (noteFrame e X.env) (fun _ s₂ => wpAny (model X.prog X.w) X.A (setFlight e none) (fun _ s₃ =>
    wpAny (model X.prog X.w) X.A (handleBy e X.env [.ExceptHandler (some (.Name x np)) (some n) (b₀ :: suite) pos']) (SP X pins D) X.xe s₃) X.xe s₂) X.xe s₁
  have caught : Takes (X.tr (X.pn ++ pins) XC) (wAsV X.K c i ts Wout D) := by
    rintro u s' ⟨a, B, sI, pins', σ', H', cls, d, rfl, J', nb, up, sky, na, os, ag, b, hb1, hyes, hno⟩
    have J : Inv X pins σ' H' sI := J'.ofTry okX
    have sky' : Sky B (X.env :: X.outer) a (Zc cls d) X.env.locals s'.heap := by
      rw [← hs]
      exact sky
    show wpAny (model X.prog X.w) X.A (noteFrame (.ref a) X.env) _ _ _
    refine Sky.land Zc.steady frames hf sky' fun hA flA upA => ?_
    have JA : Inv X pins σ' H' { s' with heap := hA } := J.landed nb flA.1 (up.trans upA) os ag
    obtain ⟨oA, vA, eA, zA, dA⟩ := flA.there
    have nofr : a ∉ frs (X.env :: X.outer) := fun hm => by
      obtain ⟨_, o', e', hnf⟩ := flA.2.2.1.mem hm
      rw [eA] at e'
      cases e'
      exact hnf _ dA
    have goneI : sI.heap.get? a = none := by
      cases e : sI.heap.get? a with
      | none => rfl
      | some o =>
        have := nb a o e (by rw [show (X.tr (X.pn ++ pins) XC).stack = X.env :: X.outer from hs]; exact nofr)
        rw [flA.2.1] at this
        cases this
    have nLoc : a ≠ X.env.locals := fun z => nofr (List.mem_filterMap.mpr ⟨X.env, List.mem_cons_self, by rw [hf, z]⟩)
    have nFs : a ∉ X.fs := fun hm => by
      obtain ⟨e, he, q⟩ := List.mem_filterMap.mp hm
      exact nofr (List.mem_filterMap.mpr ⟨e, List.mem_cons_of_mem _ he, q⟩)
    have SA := JA.suite eA dA na nLoc nFs
    refine wpAny_handleBy_cons (codeAny_handlers_test ?_) (by intro q; cases q)
    have lookT : PySem.W.Looks (model X.prog X.w) hA (typeOf (.ref a)) cls := fun A Q E s k q => wpAny_typeOf_ref (k _ _ eA) (by rw [zA.1]; exact q)
    have lookM := PySem.W.exm_one (M := model X.prog X.w) JA.kIn lookT hb1
    have nameC : ∀ {Q : Value → Shared → Prop} {E : Value → Shared → Prop}, Q c { s' with heap := hA } → wpAny (model X.prog X.w) (X.A.mark (some (.ref a))) (eval (.Name x np) X.env) Q E { s' with heap := hA } := by
      intro Q E q
      obtain ⟨glo, dbg, m1 | ⟨m1, m2, m3⟩⟩ := hc
      · exact ld_glob (X := X.suite a ((a, oA) :: (X.pn ++ pins))) SA glo m1 q dbg
      · exact ld_blt (X := X.suite a ((a, oA) :: (X.pn ++ pins))) SA glo m1 m2 q m3 dbg
    refine nameC (lookM.here ?_)
    cases b with
    | true =>
      refine codeAny_handlers_suite_as (HandSPX.lands_againZ flA fun hB flB upB => ?_)
      have JB : Inv X pins σ' H' { s' with heap := hB } := J.landed nb flB.1 ((up.trans upA).trans upB) os ag
      obtain ⟨oB, vB, eB, zB, dB⟩ := flB.there
      refine store_ok (X := X.suite a ((a, oB) :: (X.pn ++ pins))) (v := .ref a) (JB.suite eB dB na nLoc nFs) hN hi (.inl hln) rfl (fun sS SS => ?_) (.inr hln)
      have inside := (hsu a oB cls d (X.pn ++ pins) zB ⟨_, dB⟩).run [] sS _ H' _ SS (hyes rfl a na)
      refine wpAny_mono inside (fun f sE hsp => ?_) (fun _ _ z => False.elim z)
      have close : ∀ {σE : L2.St} {HE : Hp} {Q : Shared → Prop}, Inv (X.suite a ((a, oB) :: (X.pn ++ pins))) [] σE HE sE → (∀ sZ, Inv X ((a, oB) :: pins) (σE.set i none) HE sZ → Q sZ) →
          wpAny (model X.prog X.w) X.A (do bindName X.env n .none; unbindBehindTheSuite X.env n pos') (fun _ sZ => Q sZ) X.xe sE := fun {σE HE Q} SE hq => gone_ok (unsuiteK SE okX) hN hi hln hq
      cases f with
      | next =>
        obtain ⟨σE, HE, SE, qE⟩ := hsp
        refine close SE fun sZ JZ => ?_
        obtain ⟨g1, g2, g3, _, _⟩ := JZ.pin (a, oB) (List.mem_append_right _ List.mem_cons_self)
        refine ⟨_, _, track (unpin JZ) (young_of J hex goneI) g2 (Ne.symm g3) (notcell (unpin JZ) g1 dB) (fun p hp z => ?_) (exK_ok g1 zB dB), qE g2⟩
        have := (J.pin p hp).1
        rw [z, goneI] at this
        cases this
      | brk =>
        obtain ⟨σE, HE, SE, qE⟩ := hsp
        exact close SE fun sZ JZ => ⟨_, _, unpin JZ, qE⟩
      | cont =>
        obtain ⟨σE, HE, SE, qE⟩ := hsp
        exact close SE fun sZ JZ => ⟨_, _, unpin JZ, qE⟩
      | ret u =>
        obtain ⟨vE, σE, HE, SE, rE, qE⟩ := hsp
        exact close SE fun sZ JZ => ⟨_, _, _, unpin JZ, rE, qE⟩
    | false =>
      show wpAny _ X.A (handleBy (.ref a) X.env []) _ _ _
      refine wpAny_handleBy_nil ?_
      obtain ⟨k1, k2, k3, oe, vs, T, oT, tt, eT, zT, dT, h1, hr⟩ := id flA
      unfold PySem.passOn
      refine wpAny_bind (wpAny_field eT dT h1 ?_)
      rw [if_neg (show ¬ ((Value.ref T == Value.none) = true) from by simp)]
      have away : wpAny (model X.prog X.w) X.A (setFlight (.ref a) X.env.frame) (fun _ s4 => wpAny (model X.prog X.w) X.A (throw (.ref a) : Sem Flow) (SP X pins D) X.xe s4) X.xe { s' with heap := hA } := by
        rw [hf]
        refine HandSPX.setFlight_upZ flA fun hB hhB upB => wpAny_throw (tk _ _ ?_)
        exact ⟨a, B, sI, pins, σ', H', cls, d, rfl, J, nb, (up.trans upA).trans upB, .inr (.inr (by rw [hs]; exact hhB)), na, os, ag, hno rfl⟩
      first
        | exact wpAny_bind (wpAny_pure (wpAny_bind away))
        | exact wpAny_bind away
  have through := (hb (wAsV X.K c i ts Wout D) (X.pn ++ pins) XC caught PassesOwn.looking).run [] s σ H D (I.toTry _) h
  refine wpAny_mono through (fun f s1 hsp => ?_) (fun _ _ he => he)
  cases f with
  | next =>
    obtain ⟨σ', H', JJ, q⟩ := hsp
    exact wpAny_execs_nil ⟨σ', H', JJ.ofTry okX, q⟩
  | brk =>
    obtain ⟨σ', H', JJ, q⟩ := hsp
    exact ⟨σ', H', JJ.ofTry okX, q⟩
  | cont =>
    obtain ⟨σ', H', JJ, q⟩ := hsp
    exact ⟨σ', H', JJ.ofTry okX, q⟩
  | ret u =>
    obtain ⟨v, σ', H', JJ, r, q⟩ := hsp
    exact ⟨v, σ', H', JJ.ofTry okX, r, q⟩
end
end Pk

/-! ## A clause of several classes: except (A, B, C) as e, the exception kept as a value -/
namespace Pk
open PySem PySem.Spec PyProof.Rows L2
/-- the test of a clause answers m for the class of what is caught; it may lay a tuple -/
def HT (X : Cx) (t : Expr) (m : Value → Option Bool) : Prop :=
  ∀ {a : Addr} {oe : Obj} {pn : List (Addr × Obj)} {σ : L2.St} {H : Hp} {s : Shared} {cls : Value} {b : Bool} {Q : Bool → Shared → Prop} {E : Value → Shared → Prop}, Inv (X.suite a ((a, oe) :: pn)) [] σ H s → s.heap.get? a = some oe → oe.cls = cls → m cls = some b →
    (∀ h', (∀ q o, s.heap.get? q = some o → h'.get? q = some o) → Q b { s with heap := h' }) →
    wpAny (model X.prog X.w) (X.A.mark (some (.ref a))) (eval t X.env) (fun c s₁ => wpAny (model X.prog X.w) (X.A.mark (some (.ref a))) (excMatches (.ref a) c) Q E s₁) E s
section
variable {X : Cx}
theorem ht_looks {a : Addr} {oe : Obj} {h : Heap} {cls : Value} (ha : h.get? a = some oe) (hc : oe.cls = cls) : PySem.W.Looks (model X.prog X.w) h (typeOf (.ref a)) cls := fun A Q E s k q => wpAny_typeOf_ref (k _ _ ha) (by rw [hc]; exact q)
theorem ht_name {x : Str} {c : Value} {np : Pos} {a : Addr} {oe : Obj} {pn : List (Addr × Obj)} {σ : L2.St} {H : Hp} {s : Shared} {Q : Value → Shared → Prop} {E : Value → Shared → Prop} (hc : Names X x c) (SA : Inv (X.suite a ((a, oe) :: pn)) [] σ H s) (q : Q c s) :
    wpAny (model X.prog X.w) (X.A.mark (some (.ref a))) (eval (.Name x np) X.env) Q E s := by
  obtain ⟨glo, dbg, m1 | ⟨m1, m2, m3⟩⟩ := hc
  · exact ld_glob (X := X.suite a ((a, oe) :: pn)) SA glo m1 q dbg
  · exact ld_blt (X := X.suite a ((a, oe) :: pn)) SA glo m1 m2 q m3 dbg
theorem ht_one {x : Str} {c : Value} {np : Pos} (hc : Names X x c) : HT X (.Name x np) (fun cls => PySem.W.exmOne X.K cls c) := by
  intro a oe pn σ H s cls b Q E SA ha hcl hb q
  exact ht_name hc SA ((PySem.W.exm_one (M := model X.prog X.w) SA.kIn (ht_looks ha hcl) hb).here (q _ fun _ _ z => z))
theorem ht_tup3 {x1 x2 x3 : Str} {c1 c2 c3 : Value} {p1 p2 p3 tpos : Pos} {kk : Nat} (n1 : Names X x1 c1) (n2 : Names X x2 c2) (n3 : Names X x3 c3) :
    HT X (.Tuple [.Name x1 p1, .Name x2 p2, .Name x3 p3] kk tpos) (fun cls => PySem.W.exmAny X.K cls [c1, c2, c3]) := by
  intro a oe pn σ H s cls b Q E SA ha hcl hb q
  refine wpAny_Tuple ?_
  refine wpAny_items_cons (ht_name n1 SA ?_)
  refine wpAny_items_cons (ht_name n2 SA ?_)
  refine wpAny_items_cons (ht_name n3 SA ?_)
  refine wpAny_items_nil ⟨by show (3 : Nat) ≤ sizeLine; rw [sizeLine_eq]; omega, ?_⟩
  have kp : ∀ q o, s.heap.get? q = some o → (s.heap.push { cls := .type "tuple", data := .seq [c1, c2, c3].toArray }).get? q = some o := fun _ _ z => Heap.get?_push_of_some _ z
  exact (PySem.W.exm_tup3 (SA.kIn.keeps kp) ((ht_looks ha hcl).keeps kp) (Heap.get?_push_size s.heap rfl) hb).here (q _ kp)
end
theorem flyingZ_keeps {B : Heap} {l : List Env} {a : Addr} {Z : Obj → Prop} {h h' : Heap} (f : HandSPX.FlyingZ B l a Z h) (k : ∀ b o, h.get? b = some o → h'.get? b = some o) : HandSPX.FlyingZ B l a Z h' := by
  obtain ⟨f1, f2, f3, oe, vs, T, oT, ts, he, hz, hd, h1, hnT, hTe, hT, hdT, h3⟩ := f
  exact ⟨fun b o q => k b o (f1 b o q), f2, f3.of_keeps fun b o q _ => ⟨o, k b o q, rfl⟩, oe, vs, T, oT, ts, k _ _ he, hz, hd, h1, hnT, hTe, k _ _ hT, hdT, h3⟩
def wAsT (m : Value → Option Bool) (i : Nat) (ts : Addr → Value → Option Addr → TS) (Wout : WX) (D : Ends) : WX := fun cls d σ H =>
  ∃ b, m cls = some b ∧ (b = true → ∀ a, H a = none → ts a cls d (behindV i a cls d D) (σ.set i (some (.ref a))) H) ∧ (b = false → Wout cls d σ H)
section
variable {X : Cx} {t : Expr} {n : Str} {m : Value → Option Bool} {i : Nat} {body suite : List Stmt} {b₀ : Stmt} {pos pos' : Pos} {tb : WX → TS} {ts : Addr → Value → Option Addr → TS} {Wout : WX}
theorem ps_try_asT (hex : X.ex = []) (hs : X.stack = X.env :: X.outer) (hf : X.env.frame = some X.env.locals) (hN : X.N.Nodup) (hi : X.N[i]? = some n) (hln : X.env.kindOf n = some .local) (ht : HT X t m) (tk : Takes X Wout)
    (hb : ∀ (W : WX) (pn : List (Addr × Obj)) (xe : Value → Shared → Prop), Takes (X.tr pn xe) W → PassesOwn (model X.prog X.w) X.A X.env xe → PSs (X.tr pn xe) body (tb W))
    (hsu : ∀ (a : Addr) (oe : Obj) (cls : Value) (d : Option Addr) (pn : List (Addr × Obj)), Zc cls d oe → (∃ vs, oe.data = .fields vs) → PSs (X.suite a ((a, oe) :: pn)) (b₀ :: suite) (ts a cls d)) :
    PS X (.Try body [.ExceptHandler (some t) (some n) (b₀ :: suite) pos'] [] [] pos) (fun D σ H => tb (wAsT m i ts Wout D) D σ H) := by
  constructor
  intro pins s σ H D I h
  have okX := I.ok
  have frames : X.A.frames = some (X.env :: X.outer) := okX.frames.trans (by rw [hs])
  refine wpAny_Try_except ?_
  let XC : Value → Shared → Prop := fun e s₁ => wpAny (model X.prog X.w) X.A (noteFrame e X.env) (fun _ s₂ => wpAny (model X.prog X.w) X.A (setFlight e none) (fun _ s₃ =>
    wpAny (model X.prog X.w) X.A (handleBy e X.env [.ExceptHandler (some t) (some n) (b₀ :: suite) pos']) (SP X pins D) X.xe s₃) X.xe s₂) X.xe s₁
  have caught : Takes (X.tr (X.pn ++ pins) XC) (wAsT m i ts Wout D) := by
    rintro u s' ⟨a, B, sI, pins', σ', H', cls, d, rfl, J', nb, up, sky, na, os, ag, b, hb1, hyes, hno⟩
    have J : Inv X pins σ' H' sI := J'.ofTry okX
    have sky' : Sky B (X.env :: X.outer) a (Zc cls d) X.env.locals s'.heap := by
      rw [← hs]
      exact sky
    show wpAny (model X.prog X.w) X.A (noteFrame (.ref a) X.env) _ _ _
    refine Sky.land Zc.steady frames hf sky' fun hA flA upA => ?_
    have JA : Inv X pins σ' H' { s' with heap := hA } := J.landed nb flA.1 (up.trans upA) os ag
    obtain ⟨oA, vA, eA, zA, dA⟩ := flA.there
    have nofr : a ∉ frs (X.env :: X.outer) := fun hm => by
      obtain ⟨_, o', e', hnf⟩ := flA.2.2.1.mem hm
      rw [eA] at e'
      cases e'
      exact hnf _ dA
    have goneI : sI.heap.get? a = none := by
      cases e : sI.heap.get? a with
      | none => rfl
      | some o =>
        have := nb a o e (by rw [show (X.tr (X.pn ++ pins) XC).stack = X.env :: X.outer from hs]; exact nofr)
        rw [flA.2.1] at this
        cases this
    have nLoc : a ≠ X.env.locals := fun z => nofr (List.mem_filterMap.mpr ⟨X.env, List.mem_cons_self, by rw [hf, z]⟩)
    have nFs : a ∉ X.fs := fun hm => by
      obtain ⟨e, he, q⟩ := List.mem_filterMap.mp hm
      exact nofr (List.mem_filterMap.mpr ⟨e, List.mem_cons_of_mem _ he, q⟩)
    have SA := JA.suite eA dA na nLoc nFs
    refine wpAny_handleBy_cons (codeAny_handlers_test ?_) (by intro q; cases q)
    refine ht (oe := oA) (pn := X.pn ++ pins) SA eA zA.1 hb1 fun hP kP => ?_
    have flP := flyingZ_keeps flA kP
    have upP : s'.heap.UpToSlots hP := upA.trans (Heap.UpToSlots.of_keeps kP)
    cases b with
    | true =>
      refine codeAny_handlers_suite_as (HandSPX.lands_againZ (s := { s' with heap := hP }) flP fun hB flB upB => ?_)
      have JB : Inv X pins σ' H' { s' with heap := hB } := J.landed nb flB.1 ((up.trans upP).trans upB) os ag
      obtain ⟨oB, vB, eB, zB, dB⟩ := flB.there
      refine store_ok (X := X.suite a ((a, oB) :: (X.pn ++ pins))) (v := .ref a) (JB.suite eB dB na nLoc nFs) hN hi (.inl hln) rfl (fun sS SS => ?_) (.inr hln)
      have inside := (hsu a oB cls d (X.pn ++ pins) zB ⟨_, dB⟩).run [] sS _ H' _ SS (hyes rfl a na)
      refine wpAny_mono inside (fun f sE hsp => ?_) (fun _ _ z => False.elim z)
      have close : ∀ {σE : L2.St} {HE : Hp} {Q : Shared → Prop}, Inv (X.suite a ((a, oB) :: (X.pn ++ pins))) [] σE HE sE → (∀ sZ, Inv X ((a, oB) :: pins) (σE.set i none) HE sZ → Q sZ) →
          wpAny (model X.prog X.w) X.A (do bindName X.env n .none; unbindBehindTheSuite X.env n pos') (fun _ sZ => Q sZ) X.xe sE := fun {σE HE Q} SE hq => gone_ok (unsuiteK SE okX) hN hi hln hq
      cases f with
      | next =>
        obtain ⟨σE, HE, SE, qE⟩ := hsp
        refine close SE fun sZ JZ => ?_
        obtain ⟨g1, g2, g3, _, _⟩ := JZ.pin (a, oB) (List.mem_append_right _ List.mem_cons_self)
        refine ⟨_, _, track (unpin JZ) (young_of J hex goneI) g2 (Ne.symm g3) (notcell (unpin JZ) g1 dB) (fun p hp z => ?_) (exK_ok g1 zB dB), qE g2⟩
        have := (J.pin p hp).1
        rw [z, goneI] at this
        cases this
      | brk =>
        obtain ⟨σE, HE, SE, qE⟩ := hsp
        exact close SE fun sZ JZ => ⟨_, _, unpin JZ, qE⟩
      | cont =>
        obtain ⟨σE, HE, SE, qE⟩ := hsp
        exact close SE fun sZ JZ => ⟨_, _, unpin JZ, qE⟩
      | ret u =>
        obtain ⟨vE, σE, HE, SE, rE, qE⟩ := hsp
        exact close SE fun sZ JZ => ⟨_, _, _, unpin JZ, rE, qE⟩
    | false =>
      show wpAny _ X.A (handleBy (.ref a) X.env []) _ _ _
      refine wpAny_handleBy_nil ?_
      obtain ⟨k1, k2, k3, oe, vs, T, oT, tt, eT, zT, dT, h1, hr⟩ := id flP
      unfold PySem.passOn
      refine wpAny_bind (wpAny_field eT dT h1 ?_)
      rw [if_neg (show ¬ ((Value.ref T == Value.none) = true) from by simp)]
      have away : wpAny (model X.prog X.w) X.A (setFlight (.ref a) X.env.frame) (fun _ s4 => wpAny (model X.prog X.w) X.A (throw (.ref a) : Sem Flow) (SP X pins D) X.xe s4) X.xe { s' with heap := hP } := by
        rw [hf]
        refine HandSPX.setFlight_upZ (s := { s' with heap := hP }) flP fun hB hhB upB => wpAny_throw (tk _ _ ?_)
        exact ⟨a, B, sI, pins, σ', H', cls, d, rfl, J, nb, (up.trans upP).trans upB, .inr (.inr (by rw [hs]; exact hhB)), na, os, ag, hno rfl⟩
      first
        | exact wpAny_bind (wpAny_pure (wpAny_bind away))
        | exact wpAny_bind away
  have through := (hb (wAsT m i ts Wout D) (X.pn ++ pins) XC caught PassesOwn.looking).run [] s σ H D (I.toTry _) h
  refine wpAny_mono through (fun f s1 hsp => ?_) (fun _ _ he => he)
  cases f with
  | next =>
    obtain ⟨σ', H', JJ, q⟩ := hsp
    exact wpAny_execs_nil ⟨σ', H', JJ.ofTry okX, q⟩
  | brk =>
    obtain ⟨σ', H', JJ, q⟩ := hsp
    exact ⟨σ', H', JJ.ofTry okX, q⟩
  | cont =>
    obtain ⟨σ', H', JJ, q⟩ := hsp
    exact ⟨σ', H', JJ.ofTry okX, q⟩
  | ret u =>
    obtain ⟨v, σ', H', JJ, r, q⟩ := hsp
    exact ⟨v, σ', H', JJ.ofTry okX, r, q⟩
end
end Pk

/-! ## Calls whose exceptions are told with the slots as they stand: classmethods and classes, by position and by name -/
namespace Pk
open PySem PySem.Spec PyProof.Rows L2
section
variable {X : Cx} {CX : CXT} {k : Nat} {σ : L2.St} {H : Hp} {s : Shared} {pins : List (Addr × Obj)} {E : L2.St → XK} {sp : Sp}
theorem run_fnRS {f : Addr} {Q : VK} {us : List Value} {vs : List V} (F : FnR X.prog X.w X.K X.mg X.base CX k f sp) (hr : Room k X.A) (hx : PassesAt CX X σ (E σ)) (I : Inv X pins σ H s) (r : Vals vs us) (h : sp vs H Q (E σ)) :
    codeAny (model X.prog X.w) X.A (.call (.ref f) ⟨us, []⟩) (fun r s' => match r with | .ok (.ret v) => EP X pins σ Q v s' | .ok _ => False | .error e => X.xe e s') s := by
  refine codeAny_mono (F X.A X.stack s H us vs Q (E σ) hr I.env0 r h) fun r s' hq => ?_
  cases r with
  | error e => exact hx pins H s e s' I hq
  | ok fl =>
    cases fl with
    | ret u => exact I.after hq
    | next => exact False.elim hq
    | brk => exact False.elim hq
    | cont => exact False.elim hq
/-- C.m(..), m a classmethod, by position -/
def tCMethS (C : Addr) (sp : Sp) (E : L2.St → XK) (ta : TE) (t : TA) : TE := fun σ H Q => ta σ H fun x H1 => x = .ref C ∧ t σ H1 fun vs H2 => sp (.ref C :: vs) H2 Q (E σ)
theorem pe_cmethS {C p g : Addr} {mc : Value} {o e : Expr} {es : List Expr} {m : Str} {pos apos : Pos} {ta : TE} {t : TA} {pl : Sem Bool} (he : PE X o ta) (r : ClX.CRead X.K C mc) (c : ClX.CMet X.K C mc m p g) (F : FnR X.prog X.w X.K X.mg X.base CX k g sp) (hr : Room k X.A)
    (hx : ∀ σ, PassesAt CX X σ (E σ)) (ha : PA X (e :: es) t)
    (hst : starEach (e :: es) X.env = (false, eval e X.env) :: starEach es X.env := by rfl) (hpl : (backTo pos (starEach es X.env)).any (·.1) = false := by rfl)
    (ht : eval (.Call (.Attribute o m apos) (e :: es) [] pos) X.env = (do
      let ov ← eval o X.env
      standAt apos.atName
      let (f, first) ← holding [ov] (getMethod ov m pl)
      callWith pos f first (backTo pos (starEach (e :: es) X.env)) (backToKw pos (keywordEach [] X.env))) := by rfl) :
    PE X (.Call (.Attribute o m apos) (e :: es) [] pos) (tCMethS C sp E ta t) := by
  refine ⟨fun pins s σ H Q I h => ?_⟩
  refine PySem.W.methodCall_KW (pl := pl) (thn (he.run pins s σ H _ I h) fun u s1 ⟨x, H1, I1, rx, ex, q⟩ => ?_) ht
  subst ex
  obtain rfl : u = Value.ref C := rx
  refine ClX.getmethcm_ok I1 r c fun s2 I2 => ?_
  refine ClX.callwith_cm I2 (ClX.base_none I1 (Nat.le_refl _)) c.fi (thn (ha.run pos _ s2 σ H1 _ I2 q) fun us s3 ⟨vs, H2, I3, rv, q2⟩ => ⟨⟨ClX.pin_at I3, I3.kIn⟩, ?_⟩) hst hpl
  have z := wpAny_call (PySem.W.method_call (ClX.pin_at I3) (run_fnRS (us := .ref C :: us) (vs := .ref C :: vs) F hr (hx σ) I3 (.cons rfl rv) q2))
  exact thn z fun _ _ y => ClX.unpinE y
/-- how the parameters behind the first one bind, all by name -/
structure KM (K : PySem.W.Frag) (fd : FuncData) (ps ks : List Str) (g : List Value → List Value) (gV : List V → List V) : Prop where
  to : ∀ (s : Shared) (c : Value) (ws : List Value), K.In s.heap → ws.length = ks.length → BindsTo s fd ⟨[c], ks.zip ws⟩ (ps.zip (c :: g ws))
  rel : ∀ {zs : List V} {ws : List Value}, zs.length = ks.length → Vals zs ws → Vals (gV zs) (g ws)
/-- C.m(k = v, ..), m a classmethod -/
def tCMethK (C : Addr) (n : Nat) (sp : Sp) (gV : List V → List V) (E : L2.St → XK) (ta : TE) (tk : TA) : TE := fun σ H Q => ta σ H fun x H1 => x = .ref C ∧ tk σ H1 fun zs H2 => zs.length = n ∧ sp (.ref C :: gV zs) H2 Q (E σ)
theorem pe_cmethK {C p f : Addr} {fd : FuncData} {ps ks : List Str} {g : List Value → List Value} {gV : List V → List V} {mc : Value} {o : Expr} {kws : List Keyword} {m : Str} {pos apos : Pos} {ta : TE} {tk : TA} {pl : Sem Bool}
    (he : PE X o ta) (r : ClX.CRead X.K C mc) (c : ClX.CMet X.K C mc m p f) (F : FnOk X.prog X.w X.K X.mg X.base CX k f fd ps sp) (hb : KM X.K fd ps ks g gV) (hr : Room k X.A)
    (hx : ∀ σ, PassesAt CX X σ (E σ)) (hkw : PK X kws tk)
    (hall : (backToKw pos (keywordEach kws X.env)).all (·.1.isSome) = true := by rfl) (hks : (backToKw pos (keywordEach kws X.env)).filterMap (·.1) = ks := by rfl)
    (hpl : ((backTo pos (starEach [] X.env)).any (·.1) || (backToKw pos (keywordEach kws X.env)).any (·.1.isNone)) = false := by rfl)
    (ht : eval (.Call (.Attribute o m apos) [] kws pos) X.env = (do
      let ov ← eval o X.env
      standAt apos.atName
      let (f, first) ← holding [ov] (getMethod ov m pl)
      callWith pos f first (backTo pos (starEach [] X.env)) (backToKw pos (keywordEach kws X.env))) := by rfl) :
    PE X (.Call (.Attribute o m apos) [] kws pos) (tCMethK C ks.length sp gV E ta tk) := by
  refine ⟨fun pins s σ H Q I h => ?_⟩
  refine PySem.W.methodCall_KW (pl := pl) (thn (he.run pins s σ H _ I h) fun u s1 ⟨x, H1, I1, rx, ex, q⟩ => ?_) ht
  subst ex
  obtain rfl : u = Value.ref C := rx
  refine ClX.getmethcm_ok I1 r c fun s2 I2 => ?_
  refine PySem.W.callWith_of hpl (PySem.W.keeps_M (self := Value.ref C) c.fi) (evalArgs_kw2_nil hall ?_)
  refine thn (hkw.run pos _ s2 σ H1 _ I2 q) fun ws s3 ⟨zs, H2, I3, rz, l2, q2⟩ => ⟨⟨ClX.pin_at I3, I3.kIn⟩, ?_⟩
  rw [hks]
  have r2 : Vals (V.ref C :: gV zs) (Value.ref C :: g ws) := .cons rfl (hb.rel l2 rz)
  have z : wpAny (model X.prog X.w) X.A (call (.ref s1.heap.objs.size) ([] ++ []) (ks.zip ws)) (EP X ((s1.heap.objs.size, PySem.W.methodObj (.ref f) (.ref C)) :: pins) σ Q) X.xe s3 := by
    refine wpAny_call (PySem.W.method_call (ClX.pin_at I3) (codeAny_mono (F.run X.A X.stack s3 H2 ⟨[Value.ref C], ks.zip ws⟩ (Value.ref C :: g ws) (V.ref C :: gV zs) Q (E σ) hr I3.env0 (hb.to s3 _ ws I3.kIn (rz.length.symm.trans l2)) r2 q2) fun r s' hq => ?_))
    cases r with
    | error e => exact hx σ _ H2 s3 e s' I3 hq
    | ok fl =>
      cases fl with
      | ret u => exact I3.after hq
      | next => exact False.elim hq
      | brk => exact False.elim hq
      | cont => exact False.elim hq
  exact thn z fun _ _ y => ClX.unpinE y
/-- C(k = v, ..) -/
def tMakeKS (C : Addr) (n : Nat) (sp : Sp) (gV : List V → List V) (E : L2.St → XK) (tk : TA) : TE := fun σ H Q => tk σ H fun zs H2 => zs.length = n ∧ ∀ x dx, H2 x = none → H2 dx = none → dx ≠ x →
  sp (.ref x :: gV zs) (upd (upd H2 dx (.own x)) x (.ins C dx [])) (fun v H3 => v = .non ∧ Q (.ref x) H3) (E σ)
theorem pe_makeKS {C f : Addr} {fd : FuncData} {ps ks : List Str} {g : List Value → List Value} {gV : List V → List V} {x : Str} {p pos : Pos} {kws : List Keyword} {tk : TA}
    (M : Mk X.K C f) (F : FnOk X.prog X.w X.K X.mg X.base CX k f fd ps sp) (hr : Room (k + 1) X.A) (hg : Gl X x) (hm : X.mg x = some (.ref C)) (hb : KM X.K fd ps ks g gV) (hx : ∀ σ, PassesAt CX X σ (E σ)) (hkw : PK X kws tk)
    (hall : (backToKw pos (keywordEach kws X.env)).all (·.1.isSome) = true := by rfl) (hks : (backToKw pos (keywordEach kws X.env)).filterMap (·.1) = ks := by rfl) (hdb : (x == ("__debug__" : Str)) = false := by decide)
    (hpl : ((backTo pos (starEach [] X.env)).any (·.1) || (backToKw pos (keywordEach kws X.env)).any (·.1.isNone)) = false := by rfl) :
    PE X (.Call (.Name x p) [] kws pos) (tMakeKS C ks.length sp gV E tk) := by
  refine ⟨fun pins s σ H Q I h => ?_⟩
  refine wpAny_Call_Name_kw (ld_glob I hg hm ?_ hdb)
  refine PySem.W.callWith_KW0 (h₀ := X.base) I.ok.mod.kin M.kp hall ?_ hpl
  refine thn (hkw.run pos pins s σ H _ I h) fun ws s2 ⟨zs, H2, I2, rz, l2, q2⟩ => ⟨I2.kIn, ?_⟩
  rw [hks]
  have hq := q2 (s2.heap.objs.size + 1) s2.heap.objs.size (I2.hok.fresh (Nat.le_succ _)) (I2.hok.fresh (Nat.le_refl _)) (Nat.ne_of_lt (Nat.lt_succ_self _))
  have I3 := Inv.made (C := C) I2
  have r2 : Vals (V.ref (s2.heap.objs.size + 1) :: gV zs) (Value.ref (s2.heap.objs.size + 1) :: g ws) := .cons rfl (hb.rel l2 rz)
  refine wpAny_call (make_map (f := f) I2.kIn M.makes M.init (beq_iff_eq.mp M.fn) (codeAny_mono (F.run _ X.stack _ _ ⟨[Value.ref (s2.heap.objs.size + 1)], ks.zip ws⟩ (Value.ref (s2.heap.objs.size + 1) :: g ws) _ _ (E σ) (hr.make C [] (ks.zip ws))
    (I3.env0.make C [] (ks.zip ws)) (hb.to _ _ ws I3.kIn (rz.length.symm.trans l2)) r2 hq) fun r s' hq' => ?_))
  cases r with
  | error e => exact hx σ pins _ _ e s' I3 hq'
  | ok fl =>
    cases fl with
    | ret u =>
      obtain ⟨v, H', I4, rv, ev, q3⟩ := I3.after hq'
      subst ev
      exact ⟨rv, ⟨V.ref (s2.heap.objs.size + 1), H', I4, rfl, q3⟩⟩
    | next => exact False.elim hq'
    | brk => exact False.elim hq'
    | cont => exact False.elim hq'
end
end Pk

/-! ## Own exceptions: their facts in one answer; isinstance of a kept one; lists of the same things -/
namespace PySem.W
open PySem PySem.Spec PySem.Calls PyProof.Rows
section
variable {prog : Program} {w : World} {A : Around} {E : Value → Shared → Prop} {s : Shared} {K : Frag} {x D : Addr} {ox od : Obj}
theorem pk_classE {Q : Option Value → Shared → Prop} (hga : findIn K (.ref D) "__getattribute__" = some (some (.builtin "BaseException.__getattribute__"))) (hgt : findIn K (.ref D) "__getattr__" = some none) (hsub : subIn K (.ref D) (.type "BaseException") = some true)
    (hdct : hasDictIn K D = true) (ha : findIn K (.ref D) "__class__" = some (some (.builtin "object.__class__")))
    (hn : specialIn K (.builtin "object.__class__") "__get__" = some (some (.builtin "getset_descriptor.__get__"))) (htk : takesIn K (.builtin "object.__class__") = some true) (hm : mroIn K D (.type "object") = some true)
    (X : K.In s.heap) (I : InstAt s.heap x ox D (some od)) (h : Q (some (.ref D)) { s with toks := s.toks + 1 }) : wpAny (model prog w) A (getAttr? (.ref x) "__class__") Q E s := by
  have hf : findObj K D (some od) "__class__" = some (.bind (.builtin "getset_descriptor.__get__") (.builtin "object.__class__")) := findObj_data (by obtain ⟨cd, hc, _⟩ := any_some hdct; rw [hc]; rfl) ha hn htk
  obtain ⟨hp, g, d, t, os⟩ := s
  have L0 := I.type (M := model prog w)
  have L1 := looks_findIn (M := model prog w) X hga
  have L2 := looks_findIn (M := model prog w) X hgt
  have L3 := looks_find (M := model prog w) X I hf
  have sub : Looks (model prog w) hp (isInstance (.ref x) (.type "BaseException")) true := L0.andThen (looks_subIn X hsub)
  have hx0 : (false && onTheHeap (Value.builtin "BaseException.__getattribute__")) = false := rfl
  have hx2 : (Value.builtin "BaseException.__getattribute__" == Value.builtin "object.__getattribute__") = false := by decide +kernel
  have hx1 : (onTheHeap (Value.ref D) && Value.builtin "BaseException.__getattribute__" == Value.builtin "object.__getattribute__") = false := by rw [hx2]; rfl
  unfold getAttr? getAttrBy? getAttrBy
  refine wpAny_bind (wpAny_mkText (wpAny_bind (wpAny_attempt (wpAny_holding (wpAny_bind (L0.at (wpAny_bind (L1.at ?_))))))))
  show wpAny _ _ (if (onTheHeap (Value.ref D) && Value.builtin "BaseException.__getattribute__" == Value.builtin "object.__getattribute__") = true then _ else _) _ _ _
  rw [hx1, if_neg Bool.false_ne_true]
  unfold getAttrByItsOwn hookBefore
  refine wpAny_bind ?_
  rw [if_pos (show onTheHeap (Value.ref D) = true from rfl)]
  refine L2.at ?_
  refine wpAny_bind (wpAny_attempt (wpAny_holding ?_))
  unfold callGetattribute
  rw [hx0, if_neg Bool.false_ne_true]
  unfold boundAndCalled
  rw [PySem.F.excAttr_ValueError.ga.bind (.ref x)]
  refine wpAny_bind (wpAny_pure ?_)
  show wpAny _ _ (call (.builtin "BaseException.__getattribute__") [.ref x, .str "__class__" t]) _ _ _
  refine wpAny_call (codeAny_call_builtin PySem.F.excAttr_ValueError.ga.plain PySem.F.entry_bexc_ga ?_)
  refine @check_slot (model prog w) _ _ ⟨hp, g, d, t + 1, os⟩ "BaseException.__getattribute__" "BaseException" "__getattribute__" (.ref x) [.str "__class__" t] [] _ (by decide +kernel) (by decide +kernel) sub (PySem.F.args_bexc_ga (.ref x) (.str "__class__" t)) ?_
  unfold Builtin.«object.__getattribute__»
  refine wpAny_bind (wpAny_of_eq (a := ((Value.ref x : Value), [Value.str "__class__" t])) (by first | rfl | (simp only [slotArgs]; rfl)) ?_)
  refine wpAny_bind (wpAny_pure (wpAny_bind (L0.at (wpAny_bind (L3.at ?_)))))
  show wpAny _ _ (holding [Value.builtin "object.__class__"] (call (.builtin "getset_descriptor.__get__") [.builtin "object.__class__", .ref x, .ref D]) >>= ret) _ _ _
  refine wpAny_bind (wpAny_holding (wpAny_call (class_get (s := ⟨hp, g, d, t + 1, os⟩) (ox := ox) (od := some od) X I hm ?_)))
  refine wpAny_pure ?_
  show wpAny _ _ (handedOut (.ref D)) _ _ _
  rw [handedOut_of (v := .ref D) rfl]
  first
    | exact wpAny_pure (wpAny_pure h)
    | exact wpAny_pure h
    | exact wpAny_pure (wpAny_bind (wpAny_pure (wpAny_pure h)))
theorem pk_kitxE (hga : findIn K (.ref D) "__getattribute__" = some (some (.builtin "BaseException.__getattribute__"))) (hgt : findIn K (.ref D) "__getattr__" = some none) (hsub : subIn K (.ref D) (.type "BaseException") = some true) (hdct : hasDictIn K D = true) (ha : findIn K (.ref D) "__class__" = some (some (.builtin "object.__class__")))
    (hn : specialIn K (.builtin "object.__class__") "__get__" = some (some (.builtin "getset_descriptor.__get__"))) (htk : takesIn K (.builtin "object.__class__") = some true) (hm : mroIn K D (.type "object") = some true) :
    KitX K (.ref x) (.ref D) (fun h => InstAt h x ox D (some od)) where
  ty := fun _ _ _ I => I.type
  it := fun _ _ X _ => by
    obtain ⟨cdD, hcD, _⟩ := any_some hdct
    unfold clsIn at hcD
    split at hcD
    · rename_i c' d' cd' sl' ho
      intro A' Q' E' s' k q
      unfold isType loadHead
      exact wpAny_bind (wpAny_loadPart (k _ _ (X _ _ ho)) (wpAny_pure q))
    · cases hcD
  ne := fun h tp dd its n sl X htp => by
    obtain ⟨cdD, hcD, _⟩ := any_some hdct
    refine Bool.eq_false_iff.mpr fun q => ?_
    have e : D = tp := Value.ref.inj (beq_iff_eq.mp q)
    subst e
    unfold clsIn at hcD
    split at hcD
    · rename_i c' d' cd' sl' ho
      have z := (X _ _ ho).symm.trans htp
      cases z
    · cases hcD
  ca := fun X I k => pk_classE hga hgt hsub hdct ha hn htk hm X I k
end
end PySem.W
namespace Pk
open PySem PySem.Spec PyProof.Rows L2
/-- the class object, as OexC asks it -/
def oexB (K : PySem.W.Frag) (C : Addr) : Bool := match K.lookup C with
  | some ⟨.type "type", _, .cls cd, sl⟩ => (match cd.mro, sl.toList with
    | .ref C' :: bm, [_, _, _, _, some (.builtin n), _] => C' == C && n == "ValueError.__new__" && cd.hasDict && !cd.hasDel && PySem.HandSPX.refsVE bm
    | _, _ => false)
  | _ => false
theorem oexB_ok {K : PySem.W.Frag} {C : Addr} (q : oexB K C = true) :
    ∃ nm qn N bs bm sn sub ab col dd k0 k1 k2 k3 k5, K.lookup C = some (excClassObj nm qn C N bs bm true sn sub ab col dd k0 k1 k2 k3 k5 "ValueError.__new__") ∧ PySem.HandSPX.refsVE bm = true := by
  unfold oexB at q
  split at q
  · rename_i dd cd sl ho
    split at q
    · rename_i C' bm k0 k1 k2 k3 n k5 hm hs
      simp only [Bool.and_eq_true, beq_iff_eq, Bool.not_eq_true'] at q
      obtain ⟨⟨⟨⟨rfl, rfl⟩, hd⟩, hdel⟩, hr⟩ := q
      obtain ⟨nm, bs, mro, ns, qn, hd', sn, sub, ab, col, del⟩ := cd
      dsimp only at hm hdel hd
      subst hm hdel hd
      have hsl : sl = #[k0, k1, k2, k3, some (.builtin "ValueError.__new__"), k5] := by
        obtain ⟨l⟩ := sl
        simp only at hs
        rw [hs]
      subst hsl
      exact ⟨nm, qn, ns, bs, bm, sn, sub, ab, col, dd, k0, k1, k2, k3, k5, ho, hr⟩
    · cases q
  · cases q
/-- a raised own exception class -/
structure ExA (K : PySem.W.Frag) (C : Addr) : Prop where
  o : OexC K C
  x : XfC K C
  e : ExcC K C
def exaB (K : PySem.W.Frag) (C : Addr) : Bool := oexB K C && (decide (PySem.W.findIn K (.ref C) "__setattr__" = some (some (.builtin "object.__setattr__"))) && (decide (PySem.W.typeIn K (.ref C) = some (.type "type")) && (PySem.W.keepIn K (.ref C) && (xfB K C &&
  (decide (PySem.W.findIn K (.ref C) "__class__" = some (some (.builtin "object.__class__"))) && (decide (PySem.W.specialIn K (.builtin "object.__class__") "__get__" = some (some (.builtin "getset_descriptor.__get__"))) &&
  (decide (PySem.W.takesIn K (.builtin "object.__class__") = some true) && decide (PySem.W.mroIn K C (.type "object") = some true))))))))
theorem exaB_ok {K : PySem.W.Frag} {C : Addr} (h : exaB K C = true) : ExA K C := by
  obtain ⟨h1, h⟩ := Bool.and_eq_true_iff.mp h
  obtain ⟨h2, h⟩ := Bool.and_eq_true_iff.mp h
  obtain ⟨h3, h⟩ := Bool.and_eq_true_iff.mp h
  obtain ⟨h4, h⟩ := Bool.and_eq_true_iff.mp h
  obtain ⟨h5, h⟩ := Bool.and_eq_true_iff.mp h
  obtain ⟨h6, h⟩ := Bool.and_eq_true_iff.mp h
  obtain ⟨h7, h⟩ := Bool.and_eq_true_iff.mp h
  obtain ⟨h8, h9⟩ := Bool.and_eq_true_iff.mp h
  have x := xfB_ok h5
  exact ⟨⟨oexB_ok h1, of_decide_eq_true h2, x.exC, of_decide_eq_true h3, h4⟩, x, ⟨x.ga, x.gg, x.exC, x.hdC, of_decide_eq_true h6, of_decide_eq_true h7, of_decide_eq_true h8, of_decide_eq_true h9⟩⟩
/-- a class that a clause or isinstance names -/
structure NmC (K : PySem.W.Frag) (C : Addr) : Prop where
  be : PySem.W.subIn K (.ref C) (.type "BaseException") = some true
  hd : PySem.W.hasDictIn K C = true
  ty : PySem.W.typeIn K (.ref C) = some (.type "type")
  se : PySem.W.subIn K (.ref C) (.ref C) = some true
def nmB (K : PySem.W.Frag) (C : Addr) : Bool := decide (PySem.W.subIn K (.ref C) (.type "BaseException") = some true) && (PySem.W.hasDictIn K C && (decide (PySem.W.typeIn K (.ref C) = some (.type "type")) && decide (PySem.W.subIn K (.ref C) (.ref C) = some true)))
theorem nmB_ok {K : PySem.W.Frag} {C : Addr} (h : nmB K C = true) : NmC K C := by
  obtain ⟨h1, h⟩ := Bool.and_eq_true_iff.mp h
  obtain ⟨h2, h⟩ := Bool.and_eq_true_iff.mp h
  obtain ⟨h3, h4⟩ := Bool.and_eq_true_iff.mp h
  exact ⟨of_decide_eq_true h1, h2, of_decide_eq_true h3, of_decide_eq_true h4⟩
theorem exm_sub {K : PySem.W.Frag} {C : Addr} {t : Value} {b : Bool} (N : NmC K C) (h : PySem.W.subIn K t (.ref C) = some b) : PySem.W.exmOne K t (.ref C) = some b := PySem.W.exm_ref N.be N.hd N.ty h
theorem exm_any3 {K : PySem.W.Frag} {t c1 c2 c3 : Value} {b1 b2 b3 : Bool} (h1 : PySem.W.exmOne K t c1 = some b1) (h2 : PySem.W.exmOne K t c2 = some b2) (h3 : PySem.W.exmOne K t c3 = some b3) : PySem.W.exmAny K t [c1, c2, c3] = some (b1 || (b2 || (b3 || false))) := by
  unfold PySem.W.exmAny PySem.W.exmAny PySem.W.exmAny PySem.W.exmAny
  rw [h1, h2, h3]
theorem kit_sub {K : PySem.W.Frag} {C D : Addr} {b : Bool} (N : NmC K C) (h : PySem.W.subIn K (.ref D) (.ref C) = some b) : PySem.W.kitOne K (.ref D) (.ref C) = some b := by
  unfold PySem.W.kitOne
  by_cases e : D = C
  · subst e
    rw [if_pos (by simp)]
    rw [N.se] at h
    exact h
  · rw [if_neg (by simp [e])]
    obtain ⟨cd, hc, _⟩ := PySem.W.any_some N.hd
    have e2 : ((PySem.W.clsIn K C).isSome && PySem.W.typeIn K (.ref C) == some (.type "type")) = true := by rw [hc, N.ty] <;> rfl
    show (if ((PySem.W.clsIn K C).isSome && PySem.W.typeIn K (.ref C) == some (.type "type")) = true then PySem.W.subIn K (.ref D) (.ref C) else none) = some b
    rw [if_pos e2]
    exact h
/-- isinstance(e, C), e a kept exception -/
def rIsEV (K : PySem.W.Frag) : List V → Hp → VK → Prop := fun xs H Q => ∃ (a D dd : Addr) (fs : List (Str × V)) (c : V) (cv : Value) (b : Bool), xs = [.ref a, c] ∧ ExcC K D ∧ H a = some (ExK (.ref D) (some dd) a) ∧ H dd = some (.xd fs) ∧ (∀ u, RelV c u → u = cv) ∧ PySem.W.kitOne K (.ref D) cv = some b ∧ Q (.bl b) H
theorem call_isEV {X : Cx} : CallR X (.builtin "isinstance") (rIsEV X.K) := by
  intro pins s σ H xs us Q I r h
  obtain ⟨a, D, dd, fs, c, cv, b, rfl, C, hx, hd, hcv, e, q⟩ := h
  obtain ⟨u1, u2, rfl, r1, r2⟩ := vals2 r
  obtain rfl : u1 = Value.ref a := r1
  have ec := hcv _ r2
  subst ec
  obtain ⟨oe, vs, there, hz, hf⟩ := exK_at I.hok hx
  obtain ⟨mA, hns, _⟩ : ObjOk X.prog X.w H s.heap dd (.xd fs) := I.hok dd _ hd
  obtain ⟨od, ho, _⟩ := lookIn_ns hns
  have J : PySem.W.InstAt s.heap a oe D (some od) := ⟨there, hz.1, by unfold PySem.W.notCls; rw [hf] <;> rfl, by rw [hz.2]; exact ho⟩
  exact PySem.W.kia_one (PySem.W.pk_kitxE C.hg C.hk C.hs C.hd C.ha C.hn C.ht C.hm) I.kIn J e (fun z => nomatch z) fun tk => ⟨.bl b, H, I.kept (t' := tk) fun _ _ z => z, rfl, q⟩
/-- lists of the same things: each pair one plain value, or one object -/
def SameV (x y : V) : Prop := x = y ∧ (flatB x = true ∨ ∃ a, x = .ref a)
def rNeSm (K : PySem.W.Frag) : R2 := fun x y H Q => ∃ a b xs, x = .ref a ∧ y = .ref b ∧ SqL K H a xs ∧ SqL K H b xs ∧ (∀ v ∈ xs, flatB v = true ∨ ∃ p, v = .ref p) ∧ Q (.bl false) H
theorem sm_run {A : Around} {s : Shared} : ∀ {xs : List V} {us ws : List Value}, (∀ v ∈ xs, flatB v = true ∨ ∃ p, v = .ref p) → Vals xs us → Vals xs ws → ∀ j (h1 : j < us.length) (h2 : j < ws.length), SeqAt.EqAt A s us[j] ws[j] true
  | [], _, _, _, r1, _, j, h1, _ => by
    cases r1
    exact absurd h1 (Nat.not_lt_zero j)
  | x :: xs, _, _, hx, .cons a1 b1, .cons a2 b2, j, h1, h2 => by
    cases j with
    | zero =>
      rcases hx x List.mem_cons_self with f | ⟨p, rfl⟩
      · exact eqAt_same a1 a2 f
      · cases (show _ = Value.ref p from a1)
        cases (show _ = Value.ref p from a2)
        exact SeqAt.EqAt.same _
    | succ j => exact sm_run (fun v hv => hx v (List.mem_cons_of_mem _ hv)) b1 b2 j (Nat.lt_of_succ_lt_succ h1) (Nat.lt_of_succ_lt_succ h2)
theorem op_neSm {X : Cx} (hu : X.A.units + 64 < cLine) : OpR X (compareOp .NotEq) (rNeSm X.K) := by
  intro pins s σ H x y v u Q I rx ry h
  obtain ⟨a, b, xs, rfl, rfl, ha, hb, hp, q⟩ := h
  cases (show v = Value.ref a from rx)
  cases (show u = Value.ref b from ry)
  obtain ⟨us, r1, p1, _⟩ := I.list ha
  obtain ⟨ws, r2, p2, _⟩ := I.list hb
  have hsz : us.toArray.size = ws.toArray.size := by
    rw [List.size_toArray, List.size_toArray, ← r1.length, ← r2.length]
  refine SeqAt.RcNeAt.lists (e := fun _ => true) p1.isList p2.isList hsz (by omega) (fun j h1 h2 => ?_) X.prog X.w _ _ ?_
  · have k := sm_run (A := X.A.in1) (s := s) hp r1 r2 j (by simpa using h1) (by simpa using h2)
    simpa using k
  · rw [show ((List.range us.toArray.size).all fun _ => true) = true from List.all_eq_true.mpr fun _ _ => rfl]
    exact ⟨.bl false, H, I, rfl, q⟩
end Pk

/-! ## More rules: a classmethod without arguments, texts times numbers, repr of a list with an empty dict, find -/
namespace Pk
open PySem PySem.Spec PyProof.Rows L2 TL SX
section
variable {X : Cx} {CX : CXT} {k : Nat} {E : L2.St → XK} {sp : Sp}
/-- C.m(), m a classmethod -/
theorem pe_cmeth0S {C p g : Addr} {mc : Value} {o : Expr} {m : Str} {pos apos : Pos} {ta : TE} {pl : Sem Bool} (he : PE X o ta) (r : ClX.CRead X.K C mc) (c : ClX.CMet X.K C mc m p g) (F : FnR X.prog X.w X.K X.mg X.base CX k g sp) (hr : Room k X.A)
    (hx : ∀ σ, PassesAt CX X σ (E σ))
    (ht : eval (.Call (.Attribute o m apos) [] [] pos) X.env = (do
      let ov ← eval o X.env
      standAt apos.atName
      let (f, first) ← holding [ov] (getMethod ov m pl)
      callWith pos f first (backTo pos (starEach [] X.env)) (backToKw pos (keywordEach [] X.env))) := by rfl) :
    PE X (.Call (.Attribute o m apos) [] [] pos) (tCMethS C sp E ta tNil) := by
  refine ⟨fun pins s σ H Q I h => ?_⟩
  refine PySem.W.methodCall_KW (pl := pl) (thn (he.run pins s σ H _ I h) fun u s1 ⟨x, H1, I1, rx, ex, q⟩ => ?_) ht
  subst ex
  obtain rfl : u = Value.ref C := rx
  refine ClX.getmethcm_ok I1 r c fun s2 I2 => ?_
  refine PySem.W.callWith_M0 (K := X.K) (self := Value.ref C) (g := g) ⟨ClX.pin_at I2, I2.kIn⟩ c.fi ?_
  have z := wpAny_call (PySem.W.method_call (ClX.pin_at I2) (run_fnRS (us := [Value.ref C]) (vs := [V.ref C]) F hr (hx σ) I2 (.cons rfl .nil) q))
  exact thn z fun _ _ y => ClX.unpinE y
end
/-! ### a text times a number -/
theorem fold_reps (a : Array Nat) : ∀ (n : Nat) (b : Array Nat), ((List.replicate n a).foldl (· ++ ·) b).toList = b.toList ++ (List.replicate n a.toList).flatten
  | 0, b => by simp
  | n + 1, b => by
    rw [List.replicate_succ, List.foldl_cons, fold_reps a n, List.replicate_succ, List.flatten_cons, Array.toList_append, List.append_assoc]
theorem len_reps (l : List Nat) : ∀ n, (List.replicate n l).flatten.length = l.length * n
  | 0 => by simp
  | n + 1 => by
    rw [List.replicate_succ, List.flatten_cons, List.length_append, len_reps l n, Nat.mul_succ]
    omega
def rMulS : R2 := fun x y H Q => ∃ (l : List Nat) (n : Nat), x = .str (S l) ∧ y = .int (n : Int) ∧ l ≠ [] ∧ 2 ≤ n ∧ l.length * n ≤ 100000 ∧ Q (.str (S (List.replicate n l).flatten)) H
theorem op_mulS {X : Cx} : OpR X (binaryOp .Mult) rMulS := by
  intro pins s σ H x y v u Q I rx ry h
  obtain ⟨l, n, rfl, rfl, hne, h2, hz, q⟩ := h
  obtain ⟨t, rfl⟩ := rx
  obtain ⟨t', rfl⟩ := ry
  have hl : (S l).length = l.length := S_len l
  have hn : n ≤ 100000 := Nat.le_trans (Nat.le_mul_of_pos_left n (List.length_pos_iff.mpr hne)) hz
  have h0 : ((n : Int) == 1 || (S l).length == 0) = false := by
    have h1 : l.length ≠ 0 := fun e => hne (List.length_eq_zero_iff.mp e)
    rw [hl]
    rw [Bool.or_eq_false_iff]
    exact ⟨beq_eq_false_iff_ne.mpr (by omega), beq_eq_false_iff_ne.mpr h1⟩
  have et : (⟨(List.replicate ((n : Int)).toNat (S l).cps).foldl (· ++ ·) #[]⟩ : Str) = S (List.replicate n l).flatten := by
    refine ext_tl ?_
    show ((List.replicate ((n : Int)).toNat (S l).cps).foldl (· ++ ·) #[]).toList = (S (List.replicate n l).flatten).cps.toList
    rw [fold_reps, Int.toNat_natCast]
    show [] ++ (List.replicate n (S l).cps.toList).flatten = _
    rw [List.nil_append]
  have hz2 : l.length * n ≤ sizeLine := by
    rw [sizeLine_eq]
    omega
  refine PySem.P.mul_str (x := S l) (n := (n : Int)) ?_ ?_ ?_ ?_
  · rw [Bool.or_eq_false_iff]
    exact ⟨decide_eq_false (by omega), decide_eq_false (by omega)⟩
  · intro _ _
    rw [hl]
    have h1 : l.length ≤ 100000 := Nat.le_trans (Nat.le_mul_of_pos_right _ (by omega)) hz
    have : (2 ^ 63 - 1 : Int) / (n : Int) ≥ 100000 := by
      refine (Int.le_ediv_iff_mul_le (by omega)).mpr ?_
      omega
    omega
  · intro _ _
    rw [hl, Int.toNat_natCast]
    show decide (l.length * n > sizeLine) = false
    exact decide_eq_false (by omega)
  · rw [if_neg (by omega), if_neg (by rw [h0]; exact Bool.false_ne_true), et]
    have hlen : (S (List.replicate n l).flatten).length ≤ sizeLine := by
      rw [S_len, len_reps]
      exact hz2
    exact ⟨hlen, ⟨.str _, H, I.tok _, ⟨_, rfl⟩, q⟩⟩
/-! ### repr of a list of a text and an empty dict -/
def rReprD : List V → Hp → VK → Prop := fun xs H Q => ∃ (a dd : Addr), xs = [.ref a] ∧ a ≠ sysModules ∧ H a = some (.lst [.str "version", .ref dd]) ∧ H dd = some (.dK []) ∧ Q (.str (PyData.shown (.list [.str "version", .dict []]))) H
theorem call_reprD {X : Cx} (hgu : X.A.guards = some []) (hu : X.A.units + 64 < cLine) : CallR X (.builtin "repr") rReprD := by
  intro pins s σ H xs us Q I r h
  obtain ⟨a, dd, rfl, na, ha, hd, q⟩ := h
  obtain ⟨u, rfl, rx⟩ := vals1 r
  obtain rfl : u = Value.ref a := rx
  obtain ⟨us, rv, ⟨o, n, ho, hc, _, hdt⟩, _⟩ := I.list (.inl (.inl ha))
  obtain ⟨hz, hS, vs, r, m⟩ : ([] : List (Key × V)).length ≤ sizeLine ∧ (dd == sysModules) = false ∧ ∃ vs, KV [] vs ∧ s.heap.DictOf (mixKind X.prog X.w) dd vs := I.hok dd _ hd
  cases r
  obtain ⟨o2, es, ep, ho2, hx, hd2, _, hp, _⟩ := m
  have he : es.toList = [] := by
    cases h : es.toList with
    | nil => rfl
    | cons e r =>
      rw [h] at hp
      cases hp
  cases rv with
  | cons r1 rr =>
    cases rr with
    | cons r2 rr =>
      cases rr
      obtain ⟨tk, rfl⟩ := r1
      have r2' : _ = Value.ref dd := r2
      subst r2'
      have rd : Reads s.heap (.ref dd) (.dict []) _ := Reads.dict ho2 hx.1 hd2 (by rw [he]; exact ReadsAll.nil) (by rw [he]; exact ReadsAll.nil)
      have rl := Reads.list ho hc hdt (ReadsAll.cons (Reads.str _ tk) (ReadsAll.cons rd ReadsAll.nil))
      refine repr_of_reads' (h₀ := s.heap) rl (by decide +kernel) (fun _ => ?_) hgu (by show X.A.units + (2 + 1) < cLine; omega) (fun _ _ e => e) (fun h' v tk hk => ⟨.str _, H, I.kept hk, ⟨v, rfl⟩, q⟩) (by decide +kernel)
      have nd : dd ≠ sysModules := by
        rintro rfl
        simp at hS
      simp [Ne.symm na, Ne.symm nd]
/-- either rule -/
theorem callR_or {X : Cx} {f : Value} {r1 r2 : List V → Hp → VK → Prop} (h1 : CallR X f r1) (h2 : CallR X f r2) : CallR X f (fun xs H Q => r1 xs H Q ∨ r2 xs H Q) := by
  intro pins s σ H xs us Q I r h
  rcases h with h | h
  · exact h1 pins s σ H xs us Q I r h
  · exact h2 pins s σ H xs us Q I r h
/-- a list whose place is none of the first ones -/
def tLstN (t : TA) : TE := fun σ H Q => t σ H fun xs H1 => xs.length ≤ sizeLine ∧ ∀ p, H1 p = none → p ≠ sysModules → Q (.ref p) (upd H1 p (.lst xs))
theorem pe_lstN {X : Cx} {es : List Expr} {pos : Pos} {t : TA} (h : PA X es t) : PE X (.List es pos) (tLstN t) := by
  refine ⟨fun pins s σ H Q I hq => ?_⟩
  refine wpAny_List_spliced (thn (h.run pos pins s σ H _ I hq) fun us s1 ⟨xs, H1, I1, r, z, q⟩ => ⟨by rw [← r.length]; exact z, ?_⟩)
  have hf : H1 s1.heap.objs.size = none := I1.hok.fresh (Nat.le_refl _)
  have hb : s1.heap.objs.size ≠ sysModules := by
    have lt : mainGlobals < s1.heap.objs.size := by
      obtain ⟨o, es, ep, e, _⟩ := I1.ok.mod.glob
      exact Heap.lt_size (I1.bk _ _ e)
    intro e
    rw [e] at lt
    exact absurd lt (by decide)
  refine ⟨.ref s1.heap.objs.size, upd H1 s1.heap.objs.size (.lst xs), I1.laid (t' := s1.toks) (fun b u e => Heap.get?_push_of_some _ e) (Nat.le_refl _) ?_, rfl, q _ hf hb⟩
  exact ⟨z, us, 0, r, Heap.get?_push_size _ rfl⟩
/-! ### find -/
theorem find_par (x y : Str) (hy : tl y ≠ []) : (∃ p q, par (tl y) [] (tl x) = some (p, q) ∧ Txt.find x y = (p.length : Int) ∧ tl x = p ++ (tl y ++ q)) ∨ (par (tl y) [] (tl x) = none ∧ Txt.find x y = -1) := by
  have hl := len_tl y
  have hx := len_tl x
  unfold Txt.find
  rcases StrLaws.occ_head x y 1 (Nat.le_refl 1) with ⟨e, hn⟩ | ⟨i, r, e, hi, hn⟩
  · have run := par_run (tl y) (tl x) (tl x).length 0 [] (by omega) (fun k _ _ => no_at hy (hn k))
    rw [List.drop_zero, Nat.zero_add, List.drop_length] at run
    rw [e, run]
    exact .inr ⟨rfl, rfl⟩
  · have hb : i + y.length ≤ x.length := hi.1
    have run := par_run (tl y) (tl x) i 0 [] (by omega) (fun k _ k2 => no_at hy (hn k (by omega)))
    rw [List.drop_zero, Nat.zero_add, List.nil_append, par_at hy ((at_iff hy i).mp hi)] at run
    rw [e, run]
    refine .inl ⟨_, _, rfl, ?_, ?_⟩
    · show (i : Int) = _
      rw [List.length_take]
      omega
    · have hp := (at_iff hy i).mp hi
      have e3 : ((tl x).drop i).take (tl y).length = tl y := by
        unfold pre at hp
        simpa using hp
      conv => lhs; rw [← List.take_append_drop i (tl x), ← List.take_append_drop (tl y).length ((tl x).drop i), e3, List.drop_drop]
/-! ### a list compared with the empty one -/
def rEqNil (K : PySem.W.Frag) : R2 := fun x y H Q => ∃ a b xs, x = .ref a ∧ y = .ref b ∧ SqL K H a xs ∧ SqL K H b [] ∧ Q (.bl xs.isEmpty) H
def rNeNil (K : PySem.W.Frag) : R2 := fun x y H Q => ∃ a b xs, x = .ref a ∧ y = .ref b ∧ SqL K H a xs ∧ SqL K H b [] ∧ Q (.bl (!xs.isEmpty)) H
theorem op_neNil {X : Cx} (hu : X.A.units + 64 < cLine) : OpR X (compareOp .NotEq) (rNeNil X.K) := by
  intro pins s σ H x y v u Q I rx ry h
  obtain ⟨a, b, xs, rfl, rfl, ha, hb, q⟩ := h
  cases (show v = Value.ref a from rx)
  cases (show u = Value.ref b from ry)
  obtain ⟨us, r1, p1, _⟩ := I.list ha
  obtain ⟨ws, r2, p2, _⟩ := I.list hb
  cases r2
  cases xs with
  | nil =>
    cases r1
    refine SeqAt.RcNeAt.lists (e := fun _ => true) p1.isList p2.isList rfl (by omega) (fun j h1 _ => absurd h1 (by simp)) X.prog X.w _ _ ?_
    exact ⟨.bl false, H, I, rfl, q⟩
  | cons x xs =>
    cases r1 with
    | cons ra rb => exact SeqAt.RcNeAt.lists_lengths p1.isList p2.isList (by simp [bne]) (by omega) X.prog X.w _ _ ⟨.bl true, H, I, rfl, q⟩
theorem op_eqNil {X : Cx} (hu : X.A.units + 64 < cLine) : OpR X (compareOp .Eq) (rEqNil X.K) := by
  intro pins s σ H x y v u Q I rx ry h
  obtain ⟨a, b, xs, rfl, rfl, ha, hb, q⟩ := h
  cases (show v = Value.ref a from rx)
  cases (show u = Value.ref b from ry)
  obtain ⟨us, r1, p1, _⟩ := I.list ha
  obtain ⟨ws, r2, p2, _⟩ := I.list hb
  cases r2
  cases xs with
  | nil =>
    cases r1
    refine SeqAt.RcAt.lists (e := fun _ => true) p1.isList p2.isList rfl (by omega) (fun j h1 _ => absurd h1 (by simp)) X.prog X.w _ _ ?_
    exact ⟨.bl true, H, I, rfl, q⟩
  | cons x xs =>
    cases r1 with
    | cons ra rb => exact SeqAt.RcAt.lists_lengths p1.isList p2.isList (by simp [bne]) (by omega) X.prog X.w _ _ ⟨.bl false, H, I, rfl, q⟩
end Pk

/-! ## != of an instance with an own ==, by the default __ne__ -/
namespace Pk
open PySem PySem.Spec PyProof.Rows L2 PySem.SeqAt
section
variable {M : Model} {prog : Program} {w : World} {A : Around} {E : Value → Shared → Prop} {s : Shared} {K : PySem.W.Frag} {x C L g : Addr} {ox : Obj} {od : Option Obj} {b : Value} {h₀ : Heap} {m : Str → Option Value}
theorem ifBound_objNe {args : List Value} {Q : Option Value → Shared → Prop} (X : K.In s.heap) (I : PySem.W.InstAt s.heap x ox C od) (hs : PySem.W.findIn K (.ref C) "__ne__" = some (some (.builtin "object.__ne__")))
    (h : wpAny M A (call (.builtin "object.__ne__") (.ref x :: args)) (fun v => Q (some v)) E s) : wpAny M A (callSpecialIfBound? (.ref x) "__ne__" args) Q E s := by
  simp only [callSpecialIfBound?, bindSpecialIfBound?]
  refine wpAny_holding (wpAny_bind (wpAny_bind (wpAny_bind (I.type.here ((PySem.W.looks_findIn X hs).here ?_)))))
  refine wpAny_bind (wpAny_askSetting (wpAny_ite ?_))
  have fin : wpAny M A (call (.builtin "object.__ne__") ([.ref x] ++ args) >>= fun v => pure (some v)) Q E s := wpAny_bind (wpAny_mono h (fun v s' h' => wpAny_pure h') fun _ _ h' => h')
  split
  · exact wpAny_bind (wpAny_of_eq (F.cmp_object.ne.bind _) (wpAny_pure (by exact fin)))
  · exact wpAny_tryCatch (wpAny_bind (wpAny_of_eq (F.cmp_object.ne.bind _) (wpAny_pure (by exact fin))))
theorem call_objNe {Q : Value → Shared → Prop} (hu : A.in1.units < cLine) (X : K.In s.heap) (I : PySem.W.InstAt s.heap x ox C od) (hm : PySem.W.mroIn K C (.type "object") = some true)
    (hs : PySem.W.findIn K (.ref C) "__eq__" = some (some (.ref g))) (hf : PySem.W.isFn K (.ref g) = true)
    (h : wpAny (model prog w) A.in1 (call (.ref g) [.ref x, b]) (fun v s' => ∃ c, v = .bool c ∧ Q (.bool (!c)) s') E s) :
    wpAny (model prog w) A (call (.builtin "object.__ne__") [.ref x, b]) Q E s := by
  refine wpAny_call (codeAny_call_builtin F.cmp_object.ne.plain F.cmpEntry_ne (PySem.W.check_slot F.cmpKind_ne F.cmpSplit_ne (I.type.andThen (PySem.W.looks_mroIn X hm)) (F.cmpArgs_ne _ _) ?_))
  unfold Builtin.«object.__ne__»
  refine wpAny_bind (wpAny_pure ?_)
  refine wpAny_bind (m := cRoomFor _ _) (wpAny_cRoomFor hu ?_)
  refine wpAny_bind (m := callSpecialIfBound? (.ref x) (Str.ofString "__eq__") _) (PySem.W.ifBound_K X I hs hf (wpAny_mono h (fun r s' hr => ?_) fun _ _ e => e))
  obtain ⟨c, rfl, hq⟩ := hr
  refine wpAny_bind (m := truthy (.bool c)) (wpAny_truthy_bool ?_)
  exact wpAny_pure hq
theorem cmp_ne {Q : Value → Shared → Prop} (hu : A.units < cLine) (hu1 : A.in1.units < cLine) (X : K.In s.heap) (I : PySem.W.InstAt s.heap x ox C od) (hb : PySem.W.Looks (model prog w) s.heap (typeOf b) (.ref C))
    (hn : PySem.W.findIn K (.ref C) "__ne__" = some (some (.builtin "object.__ne__"))) (hm : PySem.W.mroIn K C (.type "object") = some true)
    (hs : PySem.W.findIn K (.ref C) "__eq__" = some (some (.ref g))) (hf : PySem.W.isFn K (.ref g) = true)
    (h : wpAny (model prog w) A.in1 (call (.ref g) [.ref x, b]) (fun v s' => ∃ c, v = .bool c ∧ Q (.bool (!c)) s') E s) : wpAny (model prog w) A (richCompare .NotEq (.ref x) b) Q E s := by
  have one : wpAny (model prog w) A (tryCompare (.ref x) "__ne__" b) (fun r s' => ∃ v, r = some v ∧ Q v s') E s := by
    unfold tryCompare
    refine wpAny_bind (ifBound_objNe X I hn (call_objNe hu1 X I hm hs hf (wpAny_mono h (fun v s' hv => ?_) fun _ _ e => e)))
    obtain ⟨c, rfl, hq⟩ := hv
    exact ⟨c, rfl, wpAny_pure ⟨_, rfl, hq⟩⟩
  unfold richCompare
  simp only [oneThing_ref]
  refine wpAny_holding (wpAny_bind (wpAny_cRoomFor hu ?_))
  rw [cmpInfo_NotEq]
  refine wpAny_bind (I.type.here (wpAny_bind (hb.here ?_)))
  rw [show (Value.ref C != Value.ref C) = false from by simp]
  simp only [Bool.false_eq_true, if_false]
  refine wpAny_bind (wpAny_pure ?_)
  simp only [Bool.false_eq_true, if_false]
  refine wpAny_bind (wpAny_mono one (fun r s' z => ?_) fun _ _ e => e)
  obtain ⟨v, rfl, hq⟩ := z
  exact wpAny_pure hq
end
section
variable {X : Cx} {n : Nat} {C g : Addr} {sp : Sp} {E : XK} {CX : CXT}
/-- x != y, both instances of the class at C, whose == is at g -/
def rNeOwn (C : Addr) (sp : Sp) (E : XK) : R2 := fun x y H Q => ∃ a dx fs b dy gs, x = .ref a ∧ y = .ref b ∧ H a = some (.ins C dx fs) ∧ H b = some (.ins C dy gs) ∧ sp [x, y] H (fun z H' => ∃ c, z = .bl c ∧ Q (.bl (!c)) H') E
theorem op_neOwn (hn : PySem.W.findIn X.K (.ref C) "__ne__" = some (some (.builtin "object.__ne__"))) (hm : PySem.W.mroIn X.K C (.type "object") = some true) (hs : PySem.W.findIn X.K (.ref C) "__eq__" = some (some (.ref g)))
    (hf : PySem.W.isFn X.K (.ref g) = true) (F : FnR X.prog X.w X.K X.mg X.base CX n g sp) (hr : Room (n + 1) X.A) (hx : Passes CX X E) : OpR X (compareOp .NotEq) (rNeOwn C sp E) := by
  intro pins s σ H x y v u Q I rx ry h
  obtain ⟨a, dx, fs, b, dy, gs, rfl, rfl, ha, hb, q⟩ := h
  obtain rfl : v = Value.ref a := rx
  obtain rfl : u = Value.ref b := ry
  obtain ⟨mA, O, _⟩ := ins_get I.hok ha
  obtain ⟨od, J, _⟩ := O.look
  obtain ⟨mB, O', _⟩ := ins_get I.hok hb
  obtain ⟨od', J', _⟩ := O'.look
  have hr1 : Room n X.A.in1 := Room.in1 hr
  refine cmp_ne hr.units0 hr1.units0 I.kIn J J'.type hn hm hs hf (wpAny_mono (wpAny_call (SlX.run_at (us := [.ref a, .ref b]) (ws := [.ref a, .ref b]) F hr1 I.env0.in1 hx I (.cons rfl (.cons rfl .nil)) q)) ?_ (fun _ _ x => x))
  rintro w s' ⟨z', H', I', rz, c, rfl, qz⟩
  obtain rfl : w = Value.bool c := rz
  exact ⟨c, rfl, .bl (!c), H', I', rfl, qz⟩
/-- one rule or another -/
theorem opR_or {f : Value → Value → Sem Value} {r1 r2 : R2} (h1 : OpR X f r1) (h2 : OpR X f r2) : OpR X f (fun x y H Q => r1 x y H Q ∨ r2 x y H Q) := by
  intro pins s σ H x y v u Q I rx ry h
  rcases h with h | h
  · exact h1 pins s σ H x y v u Q I rx ry h
  · exact h2 pins s σ H x y v u Q I rx ry h
end
end Pk

/-! ## Static methods read off their class; nested things that are alike -/
namespace Pk
open PySem PySem.Spec PyProof.Rows L2
/-- C.m is a staticmethod: its record at p, its def at g -/
structure SMet (K : PySem.W.Frag) (C : Addr) (mc : Value) (m : Str) (p g : Addr) : Prop where
  at_ : PySem.W.findCls K (.ref C) mc m = some (.get (.builtin "staticmethod.__get__") (.ref p) .none (.ref C))
  rc : ∃ rest, PySem.W.recIn K p "staticmethod" = some (.ref g :: rest)
section
variable {X : Cx} {CX : CXT} {k : Nat} {σ : L2.St} {H : Hp} {s : Shared} {pins : List (Addr × Obj)} {E : L2.St → XK} {sp : Sp}
theorem getsm_ok {C p g : Addr} {mc : Value} {m : Str} {A : Around} {Ex : Value → Shared → Prop} {pl : Sem Bool} {Q : Value × List Value → Shared → Prop} (I : Inv X pins σ H s) (r : ClX.CRead X.K C mc) (c : SMet X.K C mc m p g)
    (h : ∀ s', Inv X pins σ H s' → Q (.ref g, []) s') : wpAny (model X.prog X.w) A (getMethod (.ref C) m pl) Q Ex s := by
  obtain ⟨rest, hp⟩ := c.rc
  refine PySem.W.method_cls I.kIn r.ga (PySem.W.cls_bind I.kIn r.rd c.at_ ?_)
  exact wpAny_call (PySem.W.sm_get (s := { s with toks := s.toks + 1 }) I.kIn hp (PySem.W.handed_on rfl (h _ (I.tok _))))
/-- C.m(..), m a staticmethod, by position -/
def tSMethS (C : Addr) (sp : Sp) (E : L2.St → XK) (ta : TE) (t : TA) : TE := fun σ H Q => ta σ H fun x H1 => x = .ref C ∧ t σ H1 fun vs H2 => sp vs H2 Q (E σ)
theorem pe_smethS {C p g : Addr} {fd : FuncData} {ps : List Str} {mc : Value} {o e : Expr} {es : List Expr} {m : Str} {pos apos : Pos} {ta : TE} {t : TA} {pl : Sem Bool} (he : PE X o ta) (r : ClX.CRead X.K C mc) (c : SMet X.K C mc m p g)
    (F : FnOk X.prog X.w X.K X.mg X.base CX k g fd ps sp) (hk : PySem.W.keepIn X.K (.ref g) = true) (hb : Binds X.K fd ps []) (hr : Room k X.A) (hx : ∀ σ, PassesAt CX X σ (E σ)) (ha : PA X (e :: es) t)
    (hst : starEach (e :: es) X.env = (false, eval e X.env) :: starEach es X.env := by rfl) (hpl : (backTo pos (starEach es X.env)).any (·.1) = false := by rfl)
    (ht : eval (.Call (.Attribute o m apos) (e :: es) [] pos) X.env = (do
      let cv ← eval o X.env
      standAt apos.atName
      let (fv, fst) ← holding [cv] (getMethod cv m pl)
      callWith pos fv fst (backTo pos (starEach (e :: es) X.env)) (backToKw pos (keywordEach [] X.env))) := by rfl) :
    PE X (.Call (.Attribute o m apos) (e :: es) [] pos) (tSMethS C sp E ta t) := by
  refine ⟨fun pins s σ H Q I h => ?_⟩
  refine PySem.W.methodCall_KW (pl := pl) (thn (he.run pins s σ H _ I h) fun u s1 ⟨x, H1, I1, rx, ex, q⟩ => ?_) ht
  subst ex
  obtain rfl : u = Value.ref C := rx
  refine getsm_ok I1 r c fun s2 I2 => ?_
  refine PySem.W.callWith_K (h₀ := X.base) I2.ok.mod.kin hk (thn (ha.run pos _ s2 σ H1 _ I2 q) fun us s3 ⟨vs, H2, I3, rv, q2⟩ => ⟨I3.kIn, ?_⟩) hst hpl
  exact wpAny_call (run_fnRS (F.raw hb .nil) hr (hx σ) I3 rv (by rw [List.append_nil]; exact q2))
/-- C.m(k = v), m a staticmethod, by name, in the parameters' order -/
def tSMethK (C : Addr) (n : Nat) (sp : Sp) (E : L2.St → XK) (ta : TE) (tk : TA) : TE := fun σ H Q => ta σ H fun x H1 => x = .ref C ∧ tk σ H1 fun zs H2 => zs.length = n ∧ sp zs H2 Q (E σ)
theorem pe_smethK {C p g : Addr} {fd : FuncData} {ps ks : List Str} {mc : Value} {o : Expr} {kws : List Keyword} {m : Str} {pos apos : Pos} {ta : TE} {tk : TA} {pl : Sem Bool} (he : PE X o ta) (r : ClX.CRead X.K C mc) (c : SMet X.K C mc m p g)
    (F : FnOk X.prog X.w X.K X.mg X.base CX k g fd ps sp) (hk : PySem.W.keepIn X.K (.ref g) = true) (hb : KB X.K fd ps ks) (hl : ps.length = ks.length) (hr : Room k X.A) (hx : ∀ σ, PassesAt CX X σ (E σ)) (hkw : PK X kws tk)
    (hall : (backToKw pos (keywordEach kws X.env)).all (·.1.isSome) = true := by rfl) (hks : (backToKw pos (keywordEach kws X.env)).filterMap (·.1) = ks := by rfl)
    (hpl : ((backTo pos (starEach [] X.env)).any (·.1) || (backToKw pos (keywordEach kws X.env)).any (·.1.isNone)) = false := by rfl)
    (ht : eval (.Call (.Attribute o m apos) [] kws pos) X.env = (do
      let cv ← eval o X.env
      standAt apos.atName
      let (fv, fst) ← holding [cv] (getMethod cv m pl)
      callWith pos fv fst (backTo pos (starEach [] X.env)) (backToKw pos (keywordEach kws X.env))) := by rfl) :
    PE X (.Call (.Attribute o m apos) [] kws pos) (tSMethK C ks.length sp E ta tk) := by
  refine ⟨fun pins s σ H Q I h => ?_⟩
  refine PySem.W.methodCall_KW (pl := pl) (thn (he.run pins s σ H _ I h) fun u s1 ⟨x, H1, I1, rx, ex, q⟩ => ?_) ht
  subst ex
  obtain rfl : u = Value.ref C := rx
  refine getsm_ok I1 r c fun s2 I2 => ?_
  refine PySem.W.callWith_KW0 (h₀ := X.base) I2.ok.mod.kin hk hall ?_ hpl
  refine thn (hkw.run pos _ s2 σ H1 _ I2 q) fun ws s3 ⟨zs, H2, I3, rz, l2, q2⟩ => ⟨I3.kIn, ?_⟩
  rw [hks]
  refine wpAny_call (codeAny_mono (F.run X.A X.stack s3 H2 ⟨[], ks.zip ws⟩ ws zs Q (E σ) hr I3.env0 (hb.toK s3 ws I3.kIn ((rz.length.symm.trans l2).trans hl.symm)) rz q2) fun r s' hq => ?_)
  cases r with
  | error e => exact hx σ _ H2 s3 e s' I3 hq
  | ok fl =>
    cases fl with
    | ret u => exact I3.after hq
    | next => exact False.elim hq
    | brk => exact False.elim hq
    | cont => exact False.elim hq
end
/-! ### alike: the same thing, or lists or tuples of alike things -/
mutual
inductive Alike (K : PySem.W.Frag) (H : Hp) : Nat → V → V → Prop
  | same {n : Nat} {x : V} : (flatB x = true ∨ ∃ a, x = .ref a) → Alike K H n x x
  | lst {n : Nat} {a b : Addr} {xs ys : List V} : SqL K H a xs → SqL K H b ys → AlikeAll K H n xs ys → Alike K H (n + 1) (.ref a) (.ref b)
  | tup {n : Nat} {a b : Addr} {xs ys : List V} : SqT K H a xs → SqT K H b ys → AlikeAll K H n xs ys → Alike K H (n + 1) (.ref a) (.ref b)
inductive AlikeAll (K : PySem.W.Frag) (H : Hp) : Nat → List V → List V → Prop
  | nil {n : Nat} : AlikeAll K H n [] []
  | cons {n : Nat} {x y : V} {xs ys : List V} : Alike K H n x y → AlikeAll K H n xs ys → AlikeAll K H n (x :: xs) (y :: ys)
end
theorem AlikeAll.len {K : PySem.W.Frag} {H : Hp} {n : Nat} : ∀ {xs ys : List V}, AlikeAll K H n xs ys → xs.length = ys.length
  | _, _, .nil => rfl
  | _, _, .cons _ h => congrArg Nat.succ h.len
theorem all_yes (n : Nat) : ((List.range n).all fun _ => true) = true := List.all_eq_true.mpr fun _ _ => rfl
section
variable {X : Cx} {pins : List (Addr × Obj)} {σ : L2.St} {H : Hp} {s : Shared}
mutual
theorem Alike.eqAt (I : Inv X pins σ H s) : ∀ {n : Nat} {x y : V} {u v : Value} {A : Around}, Alike X.K H n x y → RelV x u → RelV y v → A.units + n + 1 < cLine → SeqAt.EqAt A s u v true
  | _, x, _, u, v, A, .same h, r1, r2, _ => by
    rcases h with f | ⟨p, rfl⟩
    · exact eqAt_same r1 r2 f
    · cases (show u = Value.ref p from r1)
      cases (show v = Value.ref p from r2)
      exact SeqAt.EqAt.same _
  | n + 1, .ref a, .ref b, u, v, A, .lst ha hb hall, r1, r2, hu => by
    cases (show u = Value.ref a from r1)
    cases (show v = Value.ref b from r2)
    by_cases e : a = b
    · subst e
      exact SeqAt.EqAt.same _
    · obtain ⟨us, q1, p1, _⟩ := I.list ha
      obtain ⟨ws, q2, p2, _⟩ := I.list hb
      have hl := hall.len
      have hsz : us.toArray.size = ws.toArray.size := by
        rw [List.size_toArray, List.size_toArray, ← q1.length, ← q2.length, hl]
      have k := SeqAt.RcAt.lists (A := A) (e := fun _ => true) p1.isList p2.isList hsz (by omega) (fun j h1 h2 => by
        have z := AlikeAll.eqAt I (A := A.in1) hall q1 q2 (by show A.units + 1 + n + 1 < cLine; omega) j (by simpa using h1) (by simpa using h2)
        simpa using z)
      rw [all_yes] at k
      exact SeqAt.EqAt.of_refs e k
  | n + 1, .ref a, .ref b, u, v, A, .tup ha hb hall, r1, r2, hu => by
    cases (show u = Value.ref a from r1)
    cases (show v = Value.ref b from r2)
    by_cases e : a = b
    · subst e
      exact SeqAt.EqAt.same _
    · obtain ⟨us, q1, p1, _⟩ := I.tuple ha
      obtain ⟨ws, q2, p2, _⟩ := I.tuple hb
      have hl := hall.len
      have hsz : us.toArray.size = ws.toArray.size := by
        rw [List.size_toArray, List.size_toArray, ← q1.length, ← q2.length, hl]
      have k := SeqAt.RcAt.tuples (A := A) (e := fun _ => true) p1 p2 (by omega) (fun j h1 h2 => by
        have z := AlikeAll.eqAt I (A := A.in1) hall q1 q2 (by show A.units + 1 + n + 1 < cLine; omega) j (by simpa using h1) (by simpa using h2)
        simpa using z)
      rw [all_yes, hsz] at k
      simp only [BEq.rfl, Bool.and_self] at k
      exact SeqAt.EqAt.of_refs e k
theorem AlikeAll.eqAt (I : Inv X pins σ H s) : ∀ {n : Nat} {xs ys : List V} {us ws : List Value} {A : Around}, AlikeAll X.K H n xs ys → Vals xs us → Vals ys ws → A.units + n + 1 < cLine → ∀ j (h1 : j < us.length) (h2 : j < ws.length), SeqAt.EqAt A s us[j] ws[j] true
  | _, _, _, _, _, _, .nil, r1, _, _, j, h1, _ => by
    cases r1
    exact absurd h1 (Nat.not_lt_zero j)
  | _, _, _, _, _, A, .cons a b, .cons r1 t1, .cons r2 t2, hu, j, h1, h2 => by
    cases j with
    | zero => exact Alike.eqAt I a r1 r2 hu
    | succ j => exact AlikeAll.eqAt I b t1 t2 hu j (Nat.lt_of_succ_lt_succ h1) (Nat.lt_of_succ_lt_succ h2)
end
end
/-- == and != of lists or tuples that are alike -/
def rEqAl (K : PySem.W.Frag) (b : Bool) : R2 := fun x y H Q => ∃ (n : Nat) (p q : Addr) (xs ys : List V), x = .ref p ∧ y = .ref q ∧ n ≤ 40 ∧ ((SqL K H p xs ∧ SqL K H q ys) ∨ (SqT K H p xs ∧ SqT K H q ys)) ∧ AlikeAll K H n xs ys ∧ Q (.bl b) H
theorem op_eqAl {X : Cx} (hu : X.A.units + 64 < cLine) : OpR X (compareOp .Eq) (rEqAl X.K true) := by
  intro pins s σ H x y v u Q I rx ry h
  obtain ⟨n, a, b, xs, ys, rfl, rfl, hn, hab, hall, q⟩ := h
  cases (show v = Value.ref a from rx)
  cases (show u = Value.ref b from ry)
  have hl := hall.len
  have fin : EP X pins σ Q (.bool true) s := ⟨.bl true, H, I, rfl, q⟩
  rcases hab with ⟨ha, hb⟩ | ⟨ha, hb⟩
  · obtain ⟨us, q1, p1, _⟩ := I.list ha
    obtain ⟨ws, q2, p2, _⟩ := I.list hb
    have hsz : us.toArray.size = ws.toArray.size := by
      rw [List.size_toArray, List.size_toArray, ← q1.length, ← q2.length, hl]
    refine SeqAt.eq_listAt (e := fun _ => true) p1.isList p2.isList hsz (by omega) (fun j h1 h2 => ?_) ?_
    · have z := AlikeAll.eqAt I (A := X.A.in1) hall q1 q2 (by show X.A.units + 1 + n + 1 < cLine; omega) j (by simpa using h1) (by simpa using h2)
      simpa using z
    · rw [all_yes]
      exact fin
  · obtain ⟨us, q1, p1, _⟩ := I.tuple ha
    obtain ⟨ws, q2, p2, _⟩ := I.tuple hb
    have hsz : us.toArray.size = ws.toArray.size := by
      rw [List.size_toArray, List.size_toArray, ← q1.length, ← q2.length, hl]
    refine SeqAt.eq_tupleAt (e := fun _ => true) p1 p2 (by omega) (fun j h1 h2 => ?_) ?_
    · have z := AlikeAll.eqAt I (A := X.A.in1) hall q1 q2 (by show X.A.units + 1 + n + 1 < cLine; omega) j (by simpa using h1) (by simpa using h2)
      simpa using z
    · rw [all_yes, hsz]
      simpa using fin
/-! ### keyword-only parameters with defaults, some of them named: how they bind behind the first one -/
theorem FunD_km {K : PySem.W.Frag} {x qual : Str} {params : Arguments} {body : List Stmt} {scope : Scope} {kws : List (Str × V)} {f : Addr} {fd : FuncData} {ps : List Str} (F : FunD K x qual params body scope [] kws f fd)
    (ks : List Str) (ms : List (Str × V)) (g : {α : Type} → List α → List α → List α) (hk : kws ≠ []) (hms : ∀ q ∈ ms, q ∈ kws)
    (rel : ∀ (mz zs : List V) (mv ws : List Value), mz.length = ms.length → zs.length = ks.length → Vals mz mv → Vals zs ws → Vals (g mz zs) (g mv ws))
    (h : ∀ (D : Addr) (doc pm : Value) (an : Option Addr) (cdv ct c : Value) (mv ws : List Value), mv.length = ms.length → ws.length = ks.length →
      KwChain D ((ms.map (·.1)).zip mv) (bindArgs (PySem.W.fnOf x qual params body scope .none (.ref D) doc pm an cdv ct) ⟨[c], ks.zip ws⟩) (ps.zip (c :: g mv ws))) :
    ∃ g', KM K fd ps ks g' (fun zs => g (ms.map (·.2)) zs) := by
  obtain ⟨_, _, dV, kV, _, _, _, _, _, _, rfl, _, _, hD, hK⟩ := F.ex
  obtain rfl : dV = .none := hD.elim (fun z => z.2) (fun z => absurd rfl z.1)
  obtain ⟨D, rfl, hq⟩ := hK.resolve_left hk
  obtain ⟨mv, lm, rm, at_⟩ := kwd_vals (ms := ms) fun q z => hq q (hms q z)
  refine ⟨fun ws => g mv ws, fun s c ws X l => ?_, fun lz r => rel _ _ _ _ (List.length_map _) lz rm r⟩
  exact BindsTo.of_looks fun _ => KwChain.looks X at_ (h D _ _ _ _ _ c mv ws lm l)
theorem km_of {K : PySem.W.Frag} {fd : FuncData} {ps ks : List Str} {gV gW : List V → List V} (h : ∃ g, KM K fd ps ks g gV) (e : ∀ zs : List V, zs.length = ks.length → gV zs = gW zs) : ∃ g, KM K fd ps ks g gW :=
  let ⟨g, k⟩ := h
  ⟨g, k.to, fun {zs ws} l r => by rw [← e zs l]; exact k.rel l r⟩
end Pk

/-! ## Lambdas without parameters, handed to a def that calls them within a try: what is raised is told with the caller's slots -/
namespace Pk
open PySem PySem.Spec PyProof.Rows L2 LamX
/-- a def whose code object stands at c -/
structure FunC (K : PySem.W.Frag) (x qual : Str) (st : Stmt) (f : Addr) (fd : FuncData) (c : Addr) : Prop where
  ex : ∃ (oc : Value) (od : Option Addr) (kV doc pm : Value) (an : Option Addr) (ct : Value) (osl : Array (Option Value)),
    fd = PySem.W.fnOf x qual (defArgs st) (defBody st) (defScope st) .none kV doc pm an (.ref c) ct ∧ K.lookup f = some ⟨oc, od, .func fd, osl⟩ ∧ PySem.W.codeIn K (.ref c) qual = true
  kp : PySem.W.keepIn K (.ref f) = true
theorem FunC.toFun {K : PySem.W.Frag} {x qual : Str} {st : Stmt} {f : Addr} {fd : FuncData} {c : Addr} (F : FunC K x qual st f fd c) : Fun K x qual st f fd :=
  let ⟨oc, od, kV, doc, pm, an, ct, osl, h⟩ := F.ex
  ⟨⟨oc, od, kV, doc, pm, an, .ref c, ct, osl, h⟩, F.kp⟩
section
variable {P : Program} {w : World} {K : PySem.W.Frag} {mg : Str → Option Value} {base : Heap}
/-- a def's body, its code object told -/
theorem FunC.okC {x qual : Str} {st : Stmt} {f : Addr} {fd : FuncData} {c : Addr} {N ps : List Str} {k : Nat} {sp : Sp} (F : FunC K x qual st f fd c) (S : FnScope N ps (defScope st)) (len : ∀ vs H Q E, sp vs H Q E → vs.length = ps.length)
    (body : ∀ (A : Around) (outer : List Env) (s : Shared) (H : Hp) (vs : List V) (Q : VK) (E : XK), Room k (A.deeper (envOfC qual (defScope st) s.heap.objs.size f (.ref c))) → sp vs H Q E →
      ∃ t, PSs (cxOf CX0 P w K mg base N qual (defScope st) f (.ref c) A outer s H E).nox (defBody st) t ∧ t { nx := fun _ H' => Q .non H', rt := Q } (start N vs) H) : FnOk P w K mg base CX0 (k + 1) f fd ps sp := by
  obtain ⟨oc, od, kV, doc, pm, an, ct, osl, rfl, lk, hcd⟩ := F.ex
  exact fn_of lk hcd S len fun A outer s H vs Q E hr h =>
    let ⟨t, h1, h2⟩ := body A outer s H vs Q E hr h
    ⟨t, h1.nox, h2⟩
/-- .. the marks known -/
theorem FunC.okG {x qual : Str} {st : Stmt} {f : Addr} {fd : FuncData} {c : Addr} {N ps : List Str} {k : Nat} {sp : Sp} (F : FunC K x qual st f fd c) (S : FnScope N ps (defScope st)) (len : ∀ vs H Q E, sp vs H Q E → vs.length = ps.length)
    (body : ∀ (A : Around) (outer : List Env) (s : Shared) (H : Hp) (vs : List V) (Q : VK), A.guards = some [] → Room k (A.deeper (envOfC qual (defScope st) s.heap.objs.size f (.ref c))) → sp vs H Q E0 →
      ∃ t, PSs (cxOf CX0 P w K mg base N qual (defScope st) f (.ref c) A outer s H E0).nox (defBody st) t ∧ t { nx := fun _ H' => Q .non H', rt := Q } (start N vs) H) : FnG P w K mg base (k + 1) f fd ps sp := by
  obtain ⟨oc, od, kV, doc, pm, an, ct, osl, rfl, lk, hcd⟩ := F.ex
  refine ⟨len, fun A outer s H args us vs Q hg hr e0 hb r h => ?_⟩
  exact run_ofS (N := N) (ps := ps) lk hcd S hr e0 hb r (len _ _ _ _ h) fun hr' =>
    let ⟨t, h1, h2⟩ := body A outer s H vs Q hg hr' h
    ⟨t, h1.nox, h2⟩
end
section
variable {X : Cx} {pins : List (Addr × Obj)} {σ : L2.St} {H : Hp} {s : Shared}
/-- x() in the def that got the lambda: what the lambda raises is taken where the caller stands -/
theorem pe_actS {CXg : CXT} {Eg : XK} {Ng : List Str} {qg : Str} {sg : Scope} {g f c' : Addr} {cdg pm ctv : Value} {params : Arguments} {body : Expr} {scope : Scope} {k i : Nat} {a : Str} {pn : List (Addr × Obj)} {xe : Value → Shared → Prop} {W : WX} {tb : XK → TE} {p1 p2 : Pos}
    (I : Inv X pins σ H s) (L : LamS X.env.scope scope)
    (hf : s.heap.get? f = some (PySem.W.kla_obj "<lambda>" (X.env.qual ++ "<lambda>") params body scope (cloFrom X.env.cells scope.names []) pm c' ctv)) (hfn : H f = none) (hfr : f ∉ frs X.stack)
    (hbind : bindArgs (PySem.W.kla_fn "<lambda>" (X.env.qual ++ "<lambda>") params body scope (cloFrom X.env.cells scope.names []) pm (.ref c') ctv) ⟨[], []⟩ = pure [])
    (tk : Takes ((cxOf CXg X.prog X.w X.K X.mg X.base Ng qg sg g cdg X.A X.stack s H Eg).tr pn xe) W) (hr : Room (k + 1) (X.A.deeper (envOfC qg sg s.heap.objs.size g cdg)))
    (hbody : ∀ (A : Around) (outer : List Env) (s : Shared) (H : Hp) (E : XK), Room k (A.deeper (lamEnv X scope s.heap.objs.size f c')) → PE (lamCx X A outer s H E scope f c') body (tb E))
    (hN : Ng[i]? = some a) (hv : Vis sg a) (hd : (a == ("__debug__" : Str)) = false := by decide) (hcd : (a == ("__classdict__" : Str)) = false := by decide) :
    PE ((cxOf CXg X.prog X.w X.K X.mg X.base Ng qg sg g cdg X.A X.stack s H Eg).tr pn xe) (.Call (.Name a p1) [] [] p2)
      (fun σZ HZ Q => σZ[i]? = some (some (.ref f)) ∧ HZ c' = some (CodeO c' (X.env.qual ++ "<lambda>")) ∧ tb (fun cls d H' => W cls d σZ H') σ HZ Q) := by
  refine ⟨fun pinsZ sZ σZ HZ Q IZ ⟨hs, hc, ht⟩ => ?_⟩
  have name := (pe_var (pos := p1) (i := i) hN hv hd hcd).run pinsZ sZ σZ HZ (fun v H1 => v = .ref f ∧ H1 = HZ) IZ ⟨.ref f, hs, rfl, rfl⟩
  refine wpAny_Call_Name_kw (thn name fun u s1 ⟨v, H1, I1, r1, ev, eH⟩ => ?_)
  subst ev eH
  obtain rfl : u = Value.ref f := r1
  have there := I1.base.keep f _ hf hfn hfr (fun z => nomatch (show f ∈ ([] : List Addr) from z))
  have un : Un (frs X.stack) [] H H1 s.heap s1.heap := I1.base
  obtain ⟨⟨oc, vs, t, hoc, hdc, hvc⟩, _, _⟩ := I1.hok c' _ hc
  refine PySem.W.callWith_F0 ⟨_, _, _, _, there⟩ (wpAny_call (codeAny_mono (R := CR (L2.CX X.prog X.w) (envOfC qg sg s.heap.objs.size g cdg :: X.stack) X.prog X.w H1 s1 Q (fun cls d H' => W cls d σZ H')) ?_ fun r s' hq => ?_))
  · show codeAny (model X.prog X.w) (X.A.deeper (envOfC qg sg s.heap.objs.size g cdg)) (.call (.ref f) ⟨[], []⟩) _ s1
    refine PySem.W.kla_callFunE hr.depth there rfl L.co L.gen rfl ⟨c', oc, vs, t, rfl, hoc, hdc, hvc⟩ ?_
    rw [hbind]
    refine wpAny_pure (wpAny_newFunctionEnv (fun y hy => (L.own y hy).2) (fun y hy => absurd hy (by simp)) (fun h₁ hns hsb => ⟨I1.nolimit.fresh _ hsb, ?_⟩) L.kind)
    have old : ∀ b o, s1.heap.get? b = some o → h₁.get? b = some o := fun b o e => hsb.extBut b o (Nat.ne_of_lt (Heap.lt_size e)) (Heap.get?_push_of_some _ e)
    have J := lam_start2 (f := f) (c' := c') (E := fun cls d H' => W cls d σZ H') (tk := s1.toks + ([] : List (Str × Value)).length) (A := X.A.deeper (envOfC qg sg s.heap.objs.size g cdg)) (outer := envOfC qg sg s.heap.objs.size g cdg :: X.stack) I L I1.env0 hr.hd un hns old
    refine PySem.W.kla_codeExpr (wpAny_mono ((hbody _ _ s1 H1 _ (hr.deeper _)).run [] _ _ H1 Q J ht) (fun v s' ⟨w', H', J', rv, q⟩ => ?_) fun e s' hq => hq)
    exact ⟨w', H', J'.os, J'.bare, J'.base, J'.hok, rv, q⟩
  · cases r with
    | error e => exact tk e s' (XE.of_call I1 (fun cls d H' h => h) hq)
    | ok fl =>
      cases fl with
      | ret u => exact I1.after hq
      | next => exact False.elim hq
      | brk => exact False.elim hq
      | cont => exact False.elim hq
end
/-- what the def that got the lambda makes of it: tl is the lambda's reading, the wish for what it raises first -/
def Gives (X : Cx) (Ng : List Str) (x : Str) (st : Stmt) (g : Addr) (a q : Str) (TT : (XK → Hp → VK → Prop) → Hp → VK → Prop) : Prop :=
  ∀ (cdg : Value) (f c' : Addr) (s : Shared) (H : Hp) (Q : VK) (tl : XK → Hp → VK → Prop),
    (∀ (W : WX) (pn : List (Addr × Obj)) (xe : Value → Shared → Prop) (p1 p2 : Pos), Takes ((cxOf CX0 X.prog X.w X.K X.mg X.base Ng x (defScope st) g cdg X.A X.stack s H E0).tr pn xe) W →
      PE ((cxOf CX0 X.prog X.w X.K X.mg X.base Ng x (defScope st) g cdg X.A X.stack s H E0).tr pn xe) (.Call (.Name a p1) [] [] p2)
        (fun σZ HZ Q => σZ[0]? = some (some (.ref f)) ∧ HZ c' = some (CodeO c' q) ∧ tl (fun cls d H' => W cls d σZ H') HZ Q)) →
    H c' = some (CodeO c' q) → TT tl H Q →
    ∃ t, PSs (cxOf CX0 X.prog X.w X.K X.mg X.base Ng x (defScope st) g cdg X.A X.stack s H E0).nox (defBody st) t ∧ t { nx := fun _ H' => Q .non H', rt := Q } (L2.start Ng [.ref f]) H
section
variable {X : Cx}
/-- x(lambda: body) -/
theorem pe_lam {T : List (Addr × Str)} {TT : (XK → Hp → VK → Prop) → Hp → VK → Prop} {x a : Str} {st : Stmt} {g c P : Addr} {k : Nat} {fd : FuncData} {Ng : List Str} {params : Arguments} {body : Expr} {scope : Scope} {t : XK → TE} {p lpos pos : Pos}
    (F : Fun X.K x x st g fd) (hb : L2.Binds X.K fd [a] []) (Sg : FnScope Ng [a] (defScope st)) (hva : Vis (defScope st) a) (hNg : Ng[0]? = some a) (hg : Gl X x) (hm : X.mg x = some (.ref g))
    (hG : Gives X Ng x st g a (X.env.qual ++ "<lambda>") TT) (TB : TabB X.base X.mg c P) (hcode : X.env.code = .ref c) (hmT : (P, X.env.qual ++ "<lambda>") ∈ T) (hu : ∀ p ∈ T, p.1 = P → p.2 = X.env.qual ++ "<lambda>")
    (hr : Room (k + 2) X.A) (L : LamS X.env.scope scope) (hdef : defaultsOf params X.env = ([], []))
    (hbind : ∀ (q : Str) (cl : List (Str × Addr)) (pm cv ctv : Value), bindArgs (PySem.W.kla_fn "<lambda>" q params body scope cl pm cv ctv) ⟨[], []⟩ = pure [])
    (hbody : ∀ (A : Around) (outer : List Env) (s : Shared) (H : Hp) (E : XK) (f c' : Addr), Room k (A.deeper (lamEnv X scope s.heap.objs.size f c')) → PE (lamCx X A outer s H E scope f c') body (t E))
    (hdb : (x == ("__debug__" : Str)) = false := by decide) (hd : (a == ("__debug__" : Str)) = false := by decide) (hcd : (a == ("__classdict__" : Str)) = false := by decide) :
    PE X (.Call (.Name x p) [.Lambda params body scope lpos] [] pos) (tLam T TT t) := by
  refine ⟨fun pins s σ H Q I ⟨hT, h⟩ => ?_⟩
  obtain ⟨oc, od, kV, doc, pm, an, cdv, ct, osl, rfl, lk, hcg⟩ := F.ex
  refine wpAny_Call_Name_kw (ld_glob I hg hm (PySem.W.callWith_K (h₀ := X.base) I.ok.mod.kin F.kp ?_ (by rfl) (by rfl)) hdb)
  refine Calls.spliced_cons (lam_make2 I TB hcode hmT hu hT hdef (L.has I.ok) fun f c' pm' ctv H1 s' I1 eN T1 hf hfn hfr hco => Calls.spliced_nil ⟨I1.kIn, ?_⟩)
  refine wpAny_call (codeAny_mono (R := CR CX0 X.stack X.prog X.w H1 s' Q E0) ?_ fun r s2 hq => ?_)
  · refine run_ofS (N := Ng) (ps := [a]) (us := [.ref f]) (vs := [.ref f]) lk hcg Sg hr I1.env0 (hb s' [.ref f] I1.kIn rfl) (.cons rfl .nil) rfl fun hr' => ?_
    obtain ⟨t', h1, h2⟩ := hG cdv f c' s' H1 Q (fun E H' Q' => t E σ H' Q') (fun W pn xe p1 p2 tk =>
      pe_actS (i := 0) I1 L hf hfn hfr (hbind _ _ _ _ _) tk hr' (fun A outer s H E hr2 => hbody A outer s H E f c' hr2) hNg hva hd hcd) hco (h H1 eN T1)
    exact ⟨t', h1.nox, h2⟩
  · cases r with
    | error e => exact (show False from hq).elim
    | ok fl =>
      cases fl with
      | ret u => exact I1.after hq
      | next => exact False.elim hq
      | brk => exact False.elim hq
      | cont => exact False.elim hq
/-- within a lambda: what a callee raises leaves the lambda -/
theorem passLam {A : Around} {outer : List Env} {s : Shared} {H : Hp} {E : XK} {scope : Scope} {f c' : Addr} : Passes (L2.CX X.prog X.w) (lamCx X A outer s H E scope f c') E :=
  passes_call (X := lamCx X A outer s H E scope f c') (W := fun cls d _ H => E cls d H) (takes_of rfl rfl rfl rfl) fun _ _ _ _ h => h
end
end Pk

/-! ## The end of a law that makes lambdas: the makers' tables are told, empty at first -/
namespace Pk
open PySem PySem.Spec PyProof.Rows L2 LamX
/-- the makers: code objects and their tables, in the heap in front of the law's call -/
structure Makers (K : PySem.W.Frag) (h : Heap) (cs : List (Addr × Addr)) : Prop where
  empty : ∀ p ∈ cs, h.get? p.2 = some { cls := .none, data := .fields #[] }
  out : ∀ p ∈ cs, K.lookup p.2 = none
  code : ∀ p ∈ cs, PySem.W.CodeHd h p.1 p.2
def hasTab (cs : List (Addr × Addr)) (b : Addr) : Prop := ∃ p ∈ cs, p.2 = b
theorem Makers.at {K : PySem.W.Frag} {h : Heap} {cs : List (Addr × Addr)} (M : Makers K h cs) {b : Addr} (hb : hasTab cs b) : h.get? b = some { cls := .none, data := .fields #[] } ∧ K.lookup b = none := by
  obtain ⟨p, hp, rfl⟩ := hb
  exact ⟨M.empty p hp, M.out p hp⟩
instance (cs : List (Addr × Addr)) (b : Addr) : Decidable (hasTab cs b) := by unfold hasTab; infer_instance
/-- what is told at the entry: the tables, and the script if the text does not hold it -/
def entryH (cs : List (Addr × Addr)) (u : Option (Addr × HO)) : Hp := fun b => match u with
  | some (a, o) => if b = a then some o else if hasTab cs b then some (.tbl #[]) else none
  | none => if hasTab cs b then some (.tbl #[]) else none
theorem enterGT {P : Program} {w : World} {K : PySem.W.Frag} {mg mb : Str → Option Value} {k : Nat} {fa a : Addr} {cs : List (Addr × Addr)} {fd : FuncData} {x : Str} {sp : Sp} {s₁ : Shared} {vs : List Value} {ns : List Int}
    (KX : K.In s₁.heap) (hns : s₁.heap.Ns mainGlobals mg) (hb : s₁.heap.Ns builtinsNs mb) (hbb : ∀ x : Str, x ≠ "__name__" → mb x = bootBuiltins x)
    (hlim : s₁.heap.NoLimit) (hg : s₁.gens = #[]) (M : Makers K s₁.heap cs)
    (hbm : ∃ (m : Addr) (om : Obj), mg "__builtins__" = some (.ref m) ∧ m ≠ builtinsNs ∧ s₁.heap.get? m = some om ∧ om.cls = .type "module" ∧ om.dict = some builtinsNs ∧ om.data = .plain)
    (ha : s₁.heap.get? a = some { cls := .type "list", data := .seq vs.toArray })
    (hi : IntsAre vs ns) (hl : ns.length ≤ sizeLine) (hr : Room k callerA)
    (F : ∀ base : Heap, K.In base → base.Ns mainGlobals mg → (∀ p ∈ cs, TabB base mg p.1 p.2) → FnG P w K mg base k fa fd [x] sp)
    (hbind : ∀ (s : Shared) (u : Value), BindsTo s fd ⟨[u], []⟩ [(x, u)])
    (hsp : ∀ H : Hp, (∀ p ∈ cs, H p.2 = some (.tbl #[])) → Bare K H a (ns.map V.int) → sp [.ref a] H (fun v _ => v = .bl true) E0) :
    codeAny (model P w) callerA (.call (.ref fa) ⟨[.ref a], []⟩)
      (fun r s' => r = .ok (.ret (.bool true)) ∧ OldK s₁.heap s'.heap ∧ s'.os = s₁.os ∧ AllBare s'.gens) s₁ := by
  have rv := vals_ints hi
  have notab : ¬ hasTab cs a := fun z => by
    have q := (M.at z).1
    rw [ha] at q
    exact nomatch (show Data.seq vs.toArray _ = Data.fields #[] from congrArg Obj.data (Option.some.inj q))
  have core : ∀ H : Hp, (∀ p ∈ cs, H p.2 = some (.tbl #[])) → (∀ b u, H b = some u → (hasTab cs b ∧ u = .tbl #[]) ∨ (b = a ∧ K.lookup a = none ∧ ∃ ob xs, u = .frz ob (.lst xs))) → Bare K H a (ns.map V.int) → HOk P w H s₁.heap →
      codeAny (model P w) callerA (.call (.ref fa) ⟨[.ref a], []⟩)
        (fun r s' => r = .ok (.ret (.bool true)) ∧ OldK s₁.heap s'.heap ∧ s'.os = s₁.os ∧ AllBare s'.gens) s₁ := by
    intro H hH hO hS hok
    have un : ∀ {b : Addr} {o : Obj}, s₁.heap.get? b = some o → (∀ z n, o.data ≠ .seq z n) → o.data ≠ .fields #[] → H b = none := by
      intro b o e d1 d2
      cases q : H b with
      | none => rfl
      | some u =>
        rcases hO b u q with ⟨ht, _⟩ | ⟨rfl, _⟩
        · rw [(M.at ht).1] at e
          cases e
          exact absurd rfl d2
        · rw [ha] at e
          cases e
          exact absurd rfl (d1 _ _)
    have unD : ∀ {b : Addr} {o : Obj} {es : Array DictEntry} {ep : Nat}, s₁.heap.get? b = some o → o.data = .dict es ep → H b = none := fun e d => un e (fun z n y => by rw [d] at y; cases y) (fun y => by rw [d] at y; cases y)
    have nsB : ∀ {b : Addr} {m : Str → Option Value}, s₁.heap.Ns b m → (hidT s₁.heap H).Ns b m :=
      fun {b m} ⟨o, es, ep, e, d, r⟩ => ⟨o, es, ep, hidT_get e (unD e d), d, r⟩
    have inB : K.In (hidT s₁.heap H) := by
      intro b o e
      refine hidT_get (KX b o e) ?_
      cases q : H b with
      | none => rfl
      | some u =>
        rcases hO b u q with ⟨ht, _⟩ | ⟨rfl, hk, _⟩
        · rw [(M.at ht).2] at e
          cases e
        · rw [hk] at e
          cases e
    have md : Mod K mg (hidT s₁.heap H) := ⟨inB, nsB hns, ⟨mb, nsB hb, hbb⟩, let ⟨mc, h1, h2⟩ := hlim; ⟨mc, nsB h1, h2⟩⟩
    have TB : ∀ p ∈ cs, TabB (hidT s₁.heap H) mg p.1 p.2 := by
      intro p hp
      have tp := M.empty p hp
      refine ⟨?_, ?_, fun z => ?_⟩
      · obtain ⟨o, us, f1, f2, f3, f4, f5, f6, f7, e1, r1, r2, r3, r⟩ := M.code p hp
        refine ⟨o, us, f1, f2, f3, f4, f5, f6, f7, hidT_get e1 (un e1 (fun z n y => ?_) fun y => ?_), r1, r2, r3, r⟩
        · rw [r2] at y
          cases y
        · rw [r2] at y
          injection y with y
          rw [y] at r3
          simp at r3
      · obtain ⟨m, om, b1, b2, b3, b4, b5, b6⟩ := hbm
        refine ⟨m, om, b1, b2, fun z => ?_, fun z => ?_, hidT_get b3 (un b3 (fun z n y => by rw [b6] at y; cases y) fun y => by rw [b6] at y; cases y), b4, b5, b6⟩
        · obtain ⟨o, es, ep, e, d, _⟩ := hns
          rw [z, e] at b3
          rw [← Option.some.inj b3, d] at b6
          cases b6
        · rw [z, tp] at b3
          rw [← Option.some.inj b3] at b6
          cases b6
      · obtain ⟨o, es, ep, e, d, _⟩ := hns
        rw [z, tp] at e
        rw [← Option.some.inj e] at d
        cases d
    have e0 : Env0 P w K mg (hidT s₁.heap H) callerA [] s₁ H :=
      ⟨rfl, md, fun b o e => of_hidT e, Nat.le_of_eq (hidT_size _ _), trivial, fun b z => absurd (show b ∈ ([] : List Addr) from z) (by simp), hok, .of_eq hg⟩
    refine codeAny_mono ((F _ inB (nsB hns) TB).runG callerA [] s₁ H ⟨[.ref a], []⟩ [.ref a] [.ref a] _ rfl hr e0 (hbind s₁ (.ref a)) (.cons rfl .nil) (hsp H hH hS)) ?_
    rintro (e | fl) s' h
    · exact (show False from h).elim
    · cases fl with
      | next => exact (show False from h).elim
      | brk => exact (show False from h).elim
      | cont => exact (show False from h).elim
      | ret u =>
        obtain ⟨v, H', os, bare, uu, hok', r', q⟩ := h
        obtain rfl : v = .bl true := q
        obtain rfl : u = Value.bool true := r'
        have still : ∀ b o, ¬ hasTab cs b → s₁.heap.get? b = some o → s'.heap.get? b = some o := by
          intro b o nt e
          cases q : H b with
          | none => exact uu.keep b o e q (fun z => absurd (show b ∈ ([] : List Addr) from z) (by simp)) (by simp)
          | some u =>
            rcases hO b u q with ⟨ht, _⟩ | ⟨_, _, ob, xs, rfl⟩
            · exact absurd ht nt
            · obtain ⟨e1, _⟩ := hok b _ q
              obtain ⟨e2, _⟩ := hok' b _ (uu.frzs b ob _ q)
              rw [e] at e1
              cases e1
              exact e2
        have more : ∀ p ∈ cs, ∃ ps : Array Value, s'.heap.get? p.2 = some { cls := .none, data := .fields ps } := fun p hp =>
          let ⟨_, z⟩ := uu.tbls p.2 #[] (hH p hp)
          ⟨_, hok' p.2 _ z⟩
        refine ⟨rfl, ⟨fun b o e => ?_, fun b o e => ?_⟩, os, bare⟩
        · by_cases ht : hasTab cs b
          · obtain ⟨p, hp, rfl⟩ := ht
            obtain ⟨ps, hm⟩ := more p hp
            rw [M.empty p hp] at e
            obtain rfl := Option.some.inj e
            exact .inr (.inl ⟨((M.code p hp).tab (M.empty p hp)).isCodeTable, rfl, #[], ps, rfl, by simpa using hm⟩)
          · exact .inl (still b o ht e)
        · by_cases ht : hasTab cs b
          · obtain ⟨p, hp, rfl⟩ := ht
            obtain ⟨ps, hm⟩ := more p hp
            exact ⟨_, hm⟩
          · exact ⟨o, still b o ht e⟩
  cases hk : K.lookup a with
  | some o =>
    have e := KX a o hk
    rw [ha] at e
    cases e
    have h0 : ∀ b, entryH cs none b = if hasTab cs b then some (.tbl #[]) else none := fun b => rfl
    refine core (entryH cs none) (fun p hp => by rw [h0, if_pos ⟨p, hp, rfl⟩]) (fun b u z => ?_) (.inr ⟨vs, 0, hk, rv⟩) (fun b u z => ?_)
    · rw [h0] at z
      split at z
      · exact .inl ⟨by assumption, (Option.some.inj z).symm⟩
      · cases z
    · rw [h0] at z
      split at z
      · rename_i ht
        obtain rfl := Option.some.inj z
        exact (M.at ht).1
      · cases z
  | none =>
    let fo : HO := .frz { cls := .type "list", data := .seq vs.toArray } (.lst (ns.map V.int))
    have ea : entryH cs (some (a, fo)) a = some fo := if_pos rfl
    have ne : ∀ b, b ≠ a → entryH cs (some (a, fo)) b = if hasTab cs b then some (.tbl #[]) else none := fun b hb => if_neg hb
    refine core (entryH cs (some (a, fo))) (fun p hp => ?_) (fun b u z => ?_) (.inl ⟨vs, 0, ea⟩) (fun b u z => ?_)
    · rw [ne p.2 (fun z => notab ⟨p, hp, z⟩), if_pos ⟨p, hp, rfl⟩]
    · by_cases hba : b = a
      · subst hba
        rw [ea] at z
        exact .inr ⟨rfl, hk, _, _, (Option.some.inj z).symm⟩
      · rw [ne b hba] at z
        split at z
        · exact .inl ⟨by assumption, (Option.some.inj z).symm⟩
        · cases z
    · by_cases hba : b = a
      · subst hba
        rw [ea] at z
        obtain rfl := Option.some.inj z
        exact ⟨ha, by rw [List.length_map]; exact hl, vs, _, rv, ha⟩
      · rw [ne b hba] at z
        split at z
        · rename_i ht
          obtain rfl := Option.some.inj z
          exact (M.at ht).1
        · cases z
/-- what the last theorem takes -/
theorem walkGT {l : PySem.W.OpenLaw} {k : Nat} {q : Program} {loose : List Str} {XP : (Str → Option Value) → Heap → Prop} {YP : World → Heap → Prop} {d : DefRec} {K : Params → PySem.W.Frag} {sp : PySem.W.Frag → List (Addr × Addr) → Sp} {x : Str}
    (hn : l.most = some 63) (hdf : d.params.defaults = []) (hr : Room k callerA) (hY : ∀ (w : World) (h : Heap), YP w h → (K w.params).In h)
    (F : ∀ (w : World) (mg : Str → Option Value) (fa : Addr) (h : Heap), YP w h → (K w.params).In h → h.Ns mainGlobals mg → mg d.name = some (.ref fa) →
      ∃ (fd : FuncData) (cs : List (Addr × Addr)), Makers (K w.params) h cs ∧ (∀ (s : Shared) (u : Value), BindsTo s fd ⟨[u], []⟩ [(x, u)]) ∧
        ∀ base : Heap, (K w.params).In base → base.Ns mainGlobals mg → (∀ p ∈ cs, TabB base mg p.1 p.2) → FnG l.prog w (K w.params) mg base k fa fd [x] (sp (K w.params) cs))
    (hsp : ∀ (K : PySem.W.Frag) (cs : List (Addr × Addr)) (H : Hp) (a : Addr) (ns : List Int), ns.length ≤ 63 → (∀ p ∈ cs, H p.2 = some (.tbl #[])) → Bare K H a (ns.map V.int) → sp K cs [.ref a] H (fun v _ => v = .bl true) E0) :
    PySem.W.WalkO q loose XP YP l.row.toRowW d [] (fun f vs => PySem.call f vs) := by
  refine Att.attach_call hn hdf ?_
  intro w s₀ s₁ mg mb fa o pm cd doc a vs ns G Y ho hd hcd hmg hobj hints hlen hg
  have KX := hY w _ Y
  obtain ⟨fd, cs, M, hb, hF⟩ := F w mg fa _ Y KX G.T.g hmg
  exact enterGT KX G.T.g G.T.b G.T.builtins G.T.nolimit hg M G.T.bmain hobj hints (Nat.le_trans hlen (by decide)) hr hF hb (fun H hH hS => hsp (K w.params) cs H a ns hlen hH hS)
end Pk

namespace Pk
open PySem L2
open ClX (CRead CMet CVal)
def top (i : Nat) : Stmt := PySem.Challenge.pw_parcelindex_k13_environments.main.body.getD i (.Pass ⟨0, 0, 0, 0⟩)
abbrev s_is_whole : Stmt := top 3
abbrev N_is_whole : List Str := ["thing"]
abbrev P_is_whole : List Str := ["thing"]
theorem S_is_whole : FnScope N_is_whole P_is_whole (defScope s_is_whole) := ⟨rfl, rfl, rfl, by decide +kernel, rfl, by decide +kernel, by decide +kernel⟩
abbrev s_is_count : Stmt := top 4
abbrev N_is_count : List Str := ["thing"]
abbrev P_is_count : List Str := ["thing"]
theorem S_is_count : FnScope N_is_count P_is_count (defScope s_is_count) := ⟨rfl, rfl, rfl, by decide +kernel, rfl, by decide +kernel, by decide +kernel⟩
abbrev s_is_whole_to : Stmt := top 5
abbrev N_is_whole_to : List Str := ["thing", "last"]
abbrev P_is_whole_to : List Str := ["thing", "last"]
theorem S_is_whole_to : FnScope N_is_whole_to P_is_whole_to (defScope s_is_whole_to) := ⟨rfl, rfl, rfl, by decide +kernel, rfl, by decide +kernel, by decide +kernel⟩
abbrev s_consists_of : Stmt := top 6
abbrev N_consists_of : List Str := ["text", "signs", "sign"]
abbrev P_consists_of : List Str := ["text", "signs"]
theorem S_consists_of : FnScope N_consists_of P_consists_of (defScope s_consists_of) := ⟨rfl, rfl, rfl, by decide +kernel, rfl, by decide +kernel, by decide +kernel⟩
abbrev s_is_string_of : Stmt := top 7
abbrev N_is_string_of : List Str := ["thing", "signs", "most"]
abbrev P_is_string_of : List Str := ["thing", "signs", "most"]
theorem S_is_string_of : FnScope N_is_string_of P_is_string_of (defScope s_is_string_of) := ⟨rfl, rfl, rfl, by decide +kernel, rfl, by decide +kernel, by decide +kernel⟩
abbrev s_number_in : Stmt := top 8
abbrev N_number_in : List Str := ["text", "last", "number"]
abbrev P_number_in : List Str := ["text", "last"]
theorem S_number_in : FnScope N_number_in P_number_in (defScope s_number_in) := ⟨rfl, rfl, rfl, by decide +kernel, rfl, by decide +kernel, by decide +kernel⟩
abbrev s_is_word : Stmt := top 13
abbrev N_is_word : List Str := ["thing"]
abbrev P_is_word : List Str := ["thing"]
theorem S_is_word : FnScope N_is_word P_is_word (defScope s_is_word) := ⟨rfl, rfl, rfl, by decide +kernel, rfl, by decide +kernel, by decide +kernel⟩
abbrev s_place_of_word : Stmt := top 15
abbrev N_place_of_word : List Str := ["word", "place", "letter"]
abbrev P_place_of_word : List Str := ["word"]
theorem S_place_of_word : FnScope N_place_of_word P_place_of_word (defScope s_place_of_word) := ⟨rfl, rfl, rfl, by decide +kernel, rfl, by decide +kernel, by decide +kernel⟩
abbrev s_place_of : Stmt := top 19
abbrev N_place_of : List Str := ["system", "machine", "level"]
abbrev P_place_of : List Str := ["system", "machine", "level"]
theorem S_place_of : FnScope N_place_of P_place_of (defScope s_place_of) := ⟨rfl, rfl, rfl, by decide +kernel, rfl, by decide +kernel, by decide +kernel⟩
abbrev s_parts_of_environment : Stmt := top 20
abbrev N_parts_of_environment : List Str := ["thing", "words", "system", "machine", "digits", "level"]
abbrev P_parts_of_environment : List Str := ["thing"]
theorem S_parts_of_environment : FnScope N_parts_of_environment P_parts_of_environment (defScope s_parts_of_environment) := ⟨rfl, rfl, rfl, by decide +kernel, rfl, by decide +kernel, by decide +kernel⟩
abbrev s_written_environment : Stmt := top 21
abbrev N_written_environment : List Str := ["text", "parts", "system", "machine", "level"]
abbrev P_written_environment : List Str := ["text"]
theorem S_written_environment : FnScope N_written_environment P_written_environment (defScope s_written_environment) := ⟨rfl, rfl, rfl, by decide +kernel, rfl, by decide +kernel, by decide +kernel⟩
abbrev s_Environment_init : Stmt := inClass (top 22) 0
abbrev N_Environment_init : List Str := ["self", "system", "machine", "level"]
abbrev P_Environment_init : List Str := ["self", "system", "machine", "level"]
theorem S_Environment_init : FnScope N_Environment_init P_Environment_init (defScope s_Environment_init) := ⟨rfl, rfl, rfl, by decide +kernel, rfl, by decide +kernel, by decide +kernel⟩
abbrev s_Environment_read : Stmt := inClass (top 22) 1
abbrev N_Environment_read : List Str := ["text", "environment"]
abbrev P_Environment_read : List Str := ["text"]
theorem S_Environment_read : FnScope N_Environment_read P_Environment_read (defScope s_Environment_read) := ⟨rfl, rfl, rfl, by decide +kernel, rfl, by decide +kernel, by decide +kernel⟩
abbrev s_Environment_system : Stmt := inClass (top 22) 2
abbrev N_Environment_system : List Str := ["self"]
abbrev P_Environment_system : List Str := ["self"]
theorem S_Environment_system : FnScope N_Environment_system P_Environment_system (defScope s_Environment_system) := ⟨rfl, rfl, rfl, by decide +kernel, rfl, by decide +kernel, by decide +kernel⟩
abbrev s_Environment_machine : Stmt := inClass (top 22) 3
abbrev N_Environment_machine : List Str := ["self"]
abbrev P_Environment_machine : List Str := ["self"]
theorem S_Environment_machine : FnScope N_Environment_machine P_Environment_machine (defScope s_Environment_machine) := ⟨rfl, rfl, rfl, by decide +kernel, rfl, by decide +kernel, by decide +kernel⟩
abbrev s_Environment_level : Stmt := inClass (top 22) 4
abbrev N_Environment_level : List Str := ["self"]
abbrev P_Environment_level : List Str := ["self"]
theorem S_Environment_level : FnScope N_Environment_level P_Environment_level (defScope s_Environment_level) := ⟨rfl, rfl, rfl, by decide +kernel, rfl, by decide +kernel, by decide +kernel⟩
abbrev s_Environment_eq : Stmt := inClass (top 22) 5
abbrev N_Environment_eq : List Str := ["self", "other"]
abbrev P_Environment_eq : List Str := ["self", "other"]
theorem S_Environment_eq : FnScope N_Environment_eq P_Environment_eq (defScope s_Environment_eq) := ⟨rfl, rfl, rfl, by decide +kernel, rfl, by decide +kernel, by decide +kernel⟩
abbrev s_Environment_lt : Stmt := inClass (top 22) 6
abbrev N_Environment_lt : List Str := ["self", "other"]
abbrev P_Environment_lt : List Str := ["self", "other"]
theorem S_Environment_lt : FnScope N_Environment_lt P_Environment_lt (defScope s_Environment_lt) := ⟨rfl, rfl, rfl, by decide +kernel, rfl, by decide +kernel, by decide +kernel⟩
abbrev s_Environment_str : Stmt := inClass (top 22) 7
abbrev N_Environment_str : List Str := ["self"]
abbrev P_Environment_str : List Str := ["self"]
theorem S_Environment_str : FnScope N_Environment_str P_Environment_str (defScope s_Environment_str) := ⟨rfl, rfl, rfl, by decide +kernel, rfl, by decide +kernel, by decide +kernel⟩
abbrev s_begin : Stmt := top 24
abbrev N_begin : List Str := ["_law_script"]
abbrev P_begin : List Str := ["_law_script"]
theorem S_begin : FnScope N_begin P_begin (defScope s_begin) := ⟨rfl, rfl, rfl, by decide +kernel, rfl, by decide +kernel, by decide +kernel⟩
abbrev s_mixed : Stmt := top 25
abbrev N_mixed : List Str := ["_law_cell", "_law_k", "_law_mixed_here"]
abbrev P_mixed : List Str := ["_law_cell", "_law_k"]
theorem S_mixed : FnScope N_mixed P_mixed (defScope s_mixed) := ⟨rfl, rfl, rfl, by decide +kernel, rfl, by decide +kernel, by decide +kernel⟩
abbrev s_next : Stmt := top 26
abbrev N_next : List Str := ["_law_draw", "_law_bound", "_law_found", "_law_known", "_law_cell"]
abbrev P_next : List Str := ["_law_draw", "_law_bound"]
theorem S_next : FnScope N_next P_next (defScope s_next) := ⟨rfl, rfl, rfl, by decide +kernel, rfl, by decide +kernel, by decide +kernel⟩
abbrev s_spot : Stmt := top 27
abbrev N_spot : List Str := ["_law_draw", "_law_names_here", "_law_one", "_law_far"]
abbrev P_spot : List Str := ["_law_draw"]
theorem S_spot : FnScope N_spot P_spot (defScope s_spot) := ⟨rfl, rfl, rfl, by decide +kernel, rfl, by decide +kernel, by decide +kernel⟩
abbrev s_environment : Stmt := top 28
abbrev N_environment : List Str := ["_law_spot_here"]
abbrev P_environment : List Str := ["_law_spot_here"]
theorem S_environment : FnScope N_environment P_environment (defScope s_environment) := ⟨rfl, rfl, rfl, by decide +kernel, rfl, by decide +kernel, by decide +kernel⟩
abbrev s_told : Stmt := top 29
abbrev N_told : List Str := ["_law_deed", "_law_error", "_law_found", "e"]
abbrev P_told : List Str := ["_law_deed"]
theorem S_told : FnScope N_told P_told (defScope s_told) := ⟨rfl, rfl, rfl, by decide +kernel, rfl, by decide +kernel, by decide +kernel⟩
abbrev s_l_is_word : Stmt := top 30
abbrev N_l_is_word : List Str := ["_law_thing", "_law_sign"]
abbrev P_l_is_word : List Str := ["_law_thing"]
theorem S_l_is_word : FnScope N_l_is_word P_l_is_word (defScope s_l_is_word) := ⟨rfl, rfl, rfl, by decide +kernel, rfl, by decide +kernel, by decide +kernel⟩
abbrev s_is_right : Stmt := top 31
abbrev N_is_right : List Str := ["_law_signs", "_law_rows", "_law_number"]
abbrev P_is_right : List Str := ["_law_signs"]
theorem S_is_right : FnScope N_is_right P_is_right (defScope s_is_right) := ⟨rfl, rfl, rfl, by decide +kernel, rfl, by decide +kernel, by decide +kernel⟩
abbrev s_is_less : Stmt := top 32
abbrev N_is_less : List Str := ["_law_one", "_law_far", "_law_near", "_law_other"]
abbrev P_is_less : List Str := ["_law_one", "_law_far"]
theorem S_is_less : FnScope N_is_less P_is_less (defScope s_is_less) := ⟨rfl, rfl, rfl, by decide +kernel, rfl, by decide +kernel, by decide +kernel⟩
abbrev s_read_right : Stmt := top 33
abbrev N_read_right : List Str := ["_law_draw", "_law_spot_here", "_law_signs", "_law_turn", "_law_at", "_law_way", "_law_new", "_law_bent", "_law_told_here"]
abbrev P_read_right : List Str := ["_law_draw", "_law_spot_here"]
theorem S_read_right : FnScope N_read_right P_read_right (defScope s_read_right) := ⟨rfl, rfl, rfl, by decide +kernel, rfl, by decide +kernel, by decide +kernel⟩
abbrev s_refused_right : Stmt := top 34
abbrev N_refused_right : List Str := ["_law_draw", "_law_bad", "_law_one", "_law_far", "_law_last", "_law_told_here", "_law_thing"]
abbrev P_refused_right : List Str := ["_law_draw"]
theorem S_refused_right : FnScope N_refused_right P_refused_right (defScope s_refused_right) := ⟨rfl, rfl, rfl, by decide +kernel, rfl, by decide +kernel, by decide +kernel⟩
abbrev s_law : Stmt := top 35
abbrev N_law : List Str := ["_law_script", "_law_draw", "_law_bout", "_law_one", "_law_far", "_law_near", "_law_other", "_law_signs"]
abbrev P_law : List Str := ["_law_script"]
theorem S_law : FnScope N_law P_law (defScope s_law) := ⟨rfl, rfl, rfl, by decide +kernel, rfl, by decide +kernel, by decide +kernel⟩
abbrev s_BadEnvironment_init : Stmt := inClass (top 11) 0
abbrev N_BadEnvironment_init : List Str := ["self", "given"]
abbrev P_BadEnvironment_init : List Str := ["self", "given"]
theorem S_BadEnvironment_init : FnScope N_BadEnvironment_init P_BadEnvironment_init (defScope s_BadEnvironment_init) := ⟨rfl, rfl, rfl, by decide +kernel, rfl, by decide +kernel, by decide +kernel⟩
structure Ad where
  a_is_whole : Addr
  d_is_whole : FuncData
  a_is_count : Addr
  d_is_count : FuncData
  a_is_whole_to : Addr
  d_is_whole_to : FuncData
  a_consists_of : Addr
  d_consists_of : FuncData
  a_is_string_of : Addr
  d_is_string_of : FuncData
  a_number_in : Addr
  d_number_in : FuncData
  a_is_word : Addr
  d_is_word : FuncData
  a_place_of_word : Addr
  d_place_of_word : FuncData
  a_place_of : Addr
  d_place_of : FuncData
  a_parts_of_environment : Addr
  d_parts_of_environment : FuncData
  a_written_environment : Addr
  d_written_environment : FuncData
  a_Environment_init : Addr
  d_Environment_init : FuncData
  a_Environment_read : Addr
  d_Environment_read : FuncData
  a_Environment_system : Addr
  d_Environment_system : FuncData
  a_Environment_machine : Addr
  d_Environment_machine : FuncData
  a_Environment_level : Addr
  d_Environment_level : FuncData
  a_Environment_eq : Addr
  d_Environment_eq : FuncData
  a_Environment_lt : Addr
  d_Environment_lt : FuncData
  a_Environment_str : Addr
  d_Environment_str : FuncData
  a_begin : Addr
  d_begin : FuncData
  a_mixed : Addr
  d_mixed : FuncData
  a_next : Addr
  d_next : FuncData
  a_spot : Addr
  d_spot : FuncData
  a_environment : Addr
  d_environment : FuncData
  a_told : Addr
  d_told : FuncData
  a_l_is_word : Addr
  d_l_is_word : FuncData
  a_is_right : Addr
  d_is_right : FuncData
  a_is_less : Addr
  d_is_less : FuncData
  a_read_right : Addr
  d_read_right : FuncData
  c_read_right : Addr
  P_read_right : Addr
  a_refused_right : Addr
  d_refused_right : FuncData
  c_refused_right : Addr
  P_refused_right : Addr
  a_law : Addr
  d_law : FuncData
  c_law : Addr
  P_law : Addr
  a_BadEnvironment_init : Addr
  d_BadEnvironment_init : FuncData
  a_Environment : Addr
  p_Environment_read : Addr
  p_Environment_system : Addr
  p_Environment_machine : Addr
  p_Environment_level : Addr
  a_BadEnvironment : Addr
  t_LETTERS : Tok
  t_DIGITS : Tok
  t_HIGHEST : Tok
  t_WORDS : Tok
def Ad.tabs (D : Ad) : List (Addr × Str) := [(D.P_read_right, ("_law_read_right" ++ ".<locals>.") ++ "<lambda>"), (D.P_refused_right, ("_law_refused_right" ++ ".<locals>.") ++ "<lambda>"), (D.P_law, ("law" ++ ".<locals>.") ++ "<lambda>")]
def Ad.cs (D : Ad) : List (Addr × Addr) := [(D.c_read_right, D.P_read_right), (D.c_refused_right, D.P_refused_right), (D.c_law, D.P_law)]
structure Tex (K : PySem.W.Frag) (mg : Str → Option Value) (D : Ad) : Prop where
  is_whole_F : Fun K "is_whole" "is_whole" s_is_whole D.a_is_whole D.d_is_whole
  is_whole_g : mg "is_whole" = some (.ref D.a_is_whole)
  is_whole_b : Binds K D.d_is_whole P_is_whole []
  is_count_F : Fun K "is_count" "is_count" s_is_count D.a_is_count D.d_is_count
  is_count_g : mg "is_count" = some (.ref D.a_is_count)
  is_count_b : Binds K D.d_is_count P_is_count []
  is_whole_to_F : Fun K "is_whole_to" "is_whole_to" s_is_whole_to D.a_is_whole_to D.d_is_whole_to
  is_whole_to_g : mg "is_whole_to" = some (.ref D.a_is_whole_to)
  is_whole_to_b : Binds K D.d_is_whole_to P_is_whole_to []
  consists_of_F : Fun K "consists_of" "consists_of" s_consists_of D.a_consists_of D.d_consists_of
  consists_of_g : mg "consists_of" = some (.ref D.a_consists_of)
  consists_of_b : Binds K D.d_consists_of P_consists_of []
  is_string_of_F : Fun K "is_string_of" "is_string_of" s_is_string_of D.a_is_string_of D.d_is_string_of
  is_string_of_g : mg "is_string_of" = some (.ref D.a_is_string_of)
  is_string_of_b : Binds K D.d_is_string_of P_is_string_of []
  number_in_F : Fun K "number_in" "number_in" s_number_in D.a_number_in D.d_number_in
  number_in_g : mg "number_in" = some (.ref D.a_number_in)
  number_in_b : Binds K D.d_number_in P_number_in []
  is_word_F : Fun K "is_word" "is_word" s_is_word D.a_is_word D.d_is_word
  is_word_g : mg "is_word" = some (.ref D.a_is_word)
  is_word_b : Binds K D.d_is_word P_is_word []
  place_of_word_F : Fun K "place_of_word" "place_of_word" s_place_of_word D.a_place_of_word D.d_place_of_word
  place_of_word_g : mg "place_of_word" = some (.ref D.a_place_of_word)
  place_of_word_b : Binds K D.d_place_of_word P_place_of_word []
  place_of_F : Fun K "place_of" "place_of" s_place_of D.a_place_of D.d_place_of
  place_of_g : mg "place_of" = some (.ref D.a_place_of)
  place_of_b : Binds K D.d_place_of P_place_of []
  parts_of_environment_F : Fun K "parts_of_environment" "parts_of_environment" s_parts_of_environment D.a_parts_of_environment D.d_parts_of_environment
  parts_of_environment_g : mg "parts_of_environment" = some (.ref D.a_parts_of_environment)
  parts_of_environment_b : Binds K D.d_parts_of_environment P_parts_of_environment []
  written_environment_F : Fun K "written_environment" "written_environment" s_written_environment D.a_written_environment D.d_written_environment
  written_environment_g : mg "written_environment" = some (.ref D.a_written_environment)
  written_environment_b : Binds K D.d_written_environment P_written_environment []
  Environment_init_F : FunD K "__init__" "Environment.__init__" (defArgs s_Environment_init) (defBody s_Environment_init) (defScope s_Environment_init) [] [("system", .str "a"), ("machine", .str "a"), ("level", .int 0)] D.a_Environment_init D.d_Environment_init
  Environment_init_b0 : ∃ ds : List Value, Vals [.str "a", .str "a", .int 0] ds ∧ Binds K D.d_Environment_init P_Environment_init ds
  Environment_read_F : Fun K "read" "Environment.read" s_Environment_read D.a_Environment_read D.d_Environment_read
  Environment_read_b : Binds K D.d_Environment_read P_Environment_read []
  Environment_read_kb : KB K D.d_Environment_read P_Environment_read ["text"]
  Environment_system_F : Fun K "system" "Environment.system" s_Environment_system D.a_Environment_system D.d_Environment_system
  Environment_system_b : Binds K D.d_Environment_system P_Environment_system []
  Environment_machine_F : Fun K "machine" "Environment.machine" s_Environment_machine D.a_Environment_machine D.d_Environment_machine
  Environment_machine_b : Binds K D.d_Environment_machine P_Environment_machine []
  Environment_level_F : Fun K "level" "Environment.level" s_Environment_level D.a_Environment_level D.d_Environment_level
  Environment_level_b : Binds K D.d_Environment_level P_Environment_level []
  Environment_eq_F : Fun K "__eq__" "Environment.__eq__" s_Environment_eq D.a_Environment_eq D.d_Environment_eq
  Environment_eq_b : Binds K D.d_Environment_eq P_Environment_eq []
  Environment_lt_F : Fun K "__lt__" "Environment.__lt__" s_Environment_lt D.a_Environment_lt D.d_Environment_lt
  Environment_lt_b : Binds K D.d_Environment_lt P_Environment_lt []
  Environment_str_F : Fun K "__str__" "Environment.__str__" s_Environment_str D.a_Environment_str D.d_Environment_str
  Environment_str_b : Binds K D.d_Environment_str P_Environment_str []
  begin_F : Fun K "_law_begin" "_law_begin" s_begin D.a_begin D.d_begin
  begin_g : mg "_law_begin" = some (.ref D.a_begin)
  begin_b : Binds K D.d_begin P_begin []
  mixed_F : Fun K "_law_mixed" "_law_mixed" s_mixed D.a_mixed D.d_mixed
  mixed_g : mg "_law_mixed" = some (.ref D.a_mixed)
  mixed_b : Binds K D.d_mixed P_mixed []
  next_F : Fun K "_law_next" "_law_next" s_next D.a_next D.d_next
  next_g : mg "_law_next" = some (.ref D.a_next)
  next_b : Binds K D.d_next P_next []
  spot_F : Fun K "_law_spot" "_law_spot" s_spot D.a_spot D.d_spot
  spot_g : mg "_law_spot" = some (.ref D.a_spot)
  spot_b : Binds K D.d_spot P_spot []
  environment_F : Fun K "_law_environment" "_law_environment" s_environment D.a_environment D.d_environment
  environment_g : mg "_law_environment" = some (.ref D.a_environment)
  environment_b : Binds K D.d_environment P_environment []
  told_F : Fun K "_law_told" "_law_told" s_told D.a_told D.d_told
  told_g : mg "_law_told" = some (.ref D.a_told)
  told_b : Binds K D.d_told P_told []
  l_is_word_F : Fun K "_law_is_word" "_law_is_word" s_l_is_word D.a_l_is_word D.d_l_is_word
  l_is_word_g : mg "_law_is_word" = some (.ref D.a_l_is_word)
  l_is_word_b : Binds K D.d_l_is_word P_l_is_word []
  is_right_F : Fun K "_law_is_right" "_law_is_right" s_is_right D.a_is_right D.d_is_right
  is_right_g : mg "_law_is_right" = some (.ref D.a_is_right)
  is_right_b : Binds K D.d_is_right P_is_right []
  is_less_F : Fun K "_law_is_less" "_law_is_less" s_is_less D.a_is_less D.d_is_less
  is_less_g : mg "_law_is_less" = some (.ref D.a_is_less)
  is_less_b : Binds K D.d_is_less P_is_less []
  read_right_F : FunC K "_law_read_right" "_law_read_right" s_read_right D.a_read_right D.d_read_right D.c_read_right
  read_right_hu : ∀ p ∈ D.tabs, p.1 = D.P_read_right → p.2 = ("_law_read_right" ++ ".<locals>.") ++ "<lambda>"
  read_right_g : mg "_law_read_right" = some (.ref D.a_read_right)
  read_right_b : Binds K D.d_read_right P_read_right []
  refused_right_F : FunC K "_law_refused_right" "_law_refused_right" s_refused_right D.a_refused_right D.d_refused_right D.c_refused_right
  refused_right_hu : ∀ p ∈ D.tabs, p.1 = D.P_refused_right → p.2 = ("_law_refused_right" ++ ".<locals>.") ++ "<lambda>"
  refused_right_g : mg "_law_refused_right" = some (.ref D.a_refused_right)
  refused_right_b : Binds K D.d_refused_right P_refused_right []
  law_F : FunC K "law" "law" s_law D.a_law D.d_law D.c_law
  law_hu : ∀ p ∈ D.tabs, p.1 = D.P_law → p.2 = ("law" ++ ".<locals>.") ++ "<lambda>"
  law_g : mg "law" = some (.ref D.a_law)
  law_b : Binds K D.d_law P_law []
  BadEnvironment_init_F : Fun K "__init__" "BadEnvironment.__init__" s_BadEnvironment_init D.a_BadEnvironment_init D.d_BadEnvironment_init
  BadEnvironment_init_b : Binds K D.d_BadEnvironment_init P_BadEnvironment_init []
  Environment_g : mg "Environment" = some (.ref D.a_Environment)
  Environment_cl : Cls K D.a_Environment
  Environment_mk : Mk K D.a_Environment D.a_Environment_init
  Environment_rd : CRead K D.a_Environment (.type "type")
  Environment_si : SlX.SIsi K D.a_Environment
  Environment_nf : PySem.W.notFirst K D.a_Environment (.ref D.a_Environment) = true
  Environment_n_system : NoAttr K D.a_Environment "_system"
  Environment_n_machine : NoAttr K D.a_Environment "_machine"
  Environment_n_level : NoAttr K D.a_Environment "_level"
  Environment_n_place : NoAttr K D.a_Environment "_place"
  Environment_init_at : PySem.W.findIn K (.ref D.a_Environment) "__init__" = some (some (.ref D.a_Environment_init))
  Environment_init_fn : PySem.W.isFn K (.ref D.a_Environment_init) = true
  Environment_read_s : SMet K D.a_Environment (.type "type") "read" D.p_Environment_read D.a_Environment_read
  Environment_system_p : PropOf K D.a_Environment "system" D.p_Environment_system D.a_Environment_system
  Environment_machine_p : PropOf K D.a_Environment "machine" D.p_Environment_machine D.a_Environment_machine
  Environment_level_p : PropOf K D.a_Environment "level" D.p_Environment_level D.a_Environment_level
  Environment_eq_at : PySem.W.findIn K (.ref D.a_Environment) "__eq__" = some (some (.ref D.a_Environment_eq))
  Environment_eq_fn : PySem.W.isFn K (.ref D.a_Environment_eq) = true
  Environment_lt_at : PySem.W.findIn K (.ref D.a_Environment) "__lt__" = some (some (.ref D.a_Environment_lt))
  Environment_lt_fn : PySem.W.isFn K (.ref D.a_Environment_lt) = true
  Environment_str_at : PySem.W.findIn K (.ref D.a_Environment) "__str__" = some (some (.ref D.a_Environment_str))
  Environment_str_fn : PySem.W.isFn K (.ref D.a_Environment_str) = true
  BadEnvironment_g : mg "BadEnvironment" = some (.ref D.a_BadEnvironment)
  BadEnvironment_xa : ExA K D.a_BadEnvironment
  BadEnvironment_xi : PySem.W.findIn K (.ref D.a_BadEnvironment) "__init__" = some (some (.ref D.a_BadEnvironment_init))
  BadEnvironment_xt : PySem.W.typeIn K (.ref D.a_BadEnvironment_init) = some (.type "function")
  BadEnvironment_xf : PySem.W.findIn K (.ref D.a_BadEnvironment) "given" = some none
  BadEnvironment_nm : NmC K D.a_BadEnvironment
  BadEnvironment_BadEnvironment_s : PySem.W.subIn K (.ref D.a_BadEnvironment) (.ref D.a_BadEnvironment) = some true
  Environment_ne_b : PySem.W.findIn K (.ref D.a_Environment) "__ne__" = some (some (.builtin "object.__ne__"))
  Environment_init_km_system_machine_level : ∃ g, KM K D.d_Environment_init P_Environment_init ["system", "machine", "level"] g (fun us => match us with | [x0, x1, x2] => [x0, x1, x2] | _ => [])
  Environment_init_km_machine_level_system : ∃ g, KM K D.d_Environment_init P_Environment_init ["machine", "level", "system"] g (fun us => match us with | [x0, x1, x2] => [x2, x0, x1] | _ => [])
  Environment_init_km_level_machine : ∃ g, KM K D.d_Environment_init P_Environment_init ["level", "machine"] g (fun us => match us with | [x0, x1] => [.str "a", x1, x0] | _ => [])
  Environment_init_km_level : ∃ g, KM K D.d_Environment_init P_Environment_init ["level"] g (fun us => match us with | [x0] => [.str "a", .str "a", x0] | _ => [])
  Environment_init_km_machine : ∃ g, KM K D.d_Environment_init P_Environment_init ["machine"] g (fun us => match us with | [x0] => [.str "a", x0, .int 0] | _ => [])
  c_LETTERS : mg "LETTERS" = some (.str "abcdefghijklmnopqrstuvwxyz" D.t_LETTERS)
  c_DIGITS : mg "DIGITS" = some (.str "0123456789" D.t_DIGITS)
  c_HIGHEST : mg "HIGHEST" = some (.int 99 D.t_HIGHEST)
  c_WORDS : mg "WORDS" = some (.int 100000000000000000 D.t_WORDS)
  b_all : mg "all" = none
  b_bool : mg "bool" = none
  b_int : mg "int" = none
  b_isinstance : mg "isinstance" = none
  b_len : mg "len" = none
  b_range : mg "range" = none
  b_str : mg "str" = none
  b_zip : mg "zip" = none
/-! ## The draws -/
section
variable {P : Program} {w : World} {K : PySem.W.Frag} {mg : Str → Option Value} {base : Heap} {D : Ad}
def drK (c : Addr) (a l u : Int) : List (Key × V) := [(.inr "cells", .ref c), (.inr "at", .int a), (.inr "left", .int l), (.inr "used", .int u)]
theorem ne_ca : ¬ (("cells" : Str) = "at") := by decide +kernel
theorem ne_cl : ¬ (("cells" : Str) = "left") := by decide +kernel
theorem ne_cu : ¬ (("cells" : Str) = "used") := by decide +kernel
theorem ne_al : ¬ (("at" : Str) = "left") := by decide +kernel
theorem ne_au : ¬ (("at" : Str) = "used") := by decide +kernel
theorem ne_lu : ¬ (("left" : Str) = "used") := by decide +kernel
theorem ne_la : ¬ (("left" : Str) = "at") := by decide +kernel
theorem ne_ua : ¬ (("used" : Str) = "at") := by decide +kernel
theorem ne_ul : ¬ (("used" : Str) = "left") := by decide +kernel
theorem dr_cells (c : Addr) (a l u : Int) : valV (drK c a l u) (.inr "cells" : Key) = some (.ref c) := by simp [valV, drK]
theorem dr_at (c : Addr) (a l u : Int) : valV (drK c a l u) (.inr "at" : Key) = some (.int a) := by simp [valV, drK, ne_ca]
theorem dr_left (c : Addr) (a l u : Int) : valV (drK c a l u) (.inr "left" : Key) = some (.int l) := by simp [valV, drK, ne_cl, ne_al]
theorem dr_used (c : Addr) (a l u : Int) : valV (drK c a l u) (.inr "used" : Key) = some (.int u) := by simp [valV, drK, ne_cu, ne_au, ne_lu]
theorem dr_pat (c : Addr) (a l u x : Int) : putK (drK c a l u) (.inr "at" : Key) (.int x) = drK c x l u := by simp [putK, drK, ne_ca, ne_la, ne_ua]
theorem dr_pleft (c : Addr) (a l u x : Int) : putK (drK c a l u) (.inr "left" : Key) (.int x) = drK c a x u := by simp [putK, drK, ne_cl, ne_al, ne_ul]
theorem dr_pused (c : Addr) (a l u x : Int) : putK (drK c a l u) (.inr "used" : Key) (.int x) = drK c a l x := by simp [putK, drK, ne_cu, ne_au, ne_lu]

/-- a draw stands at d, its cells at c, at most n steps were made -/
def Dr (H : Hp) (d c : Addr) (n : Nat) : Prop := ∃ (cs : List Int) (a l u : Int), H d = some (.dK (drK c a l u)) ∧ H c = some (.lst (cs.map V.int)) ∧
  cs ≠ [] ∧ cs.length ≤ 64 ∧ 0 ≤ a ∧ a ≤ n ∧ 0 ≤ l ∧ 0 ≤ u ∧ u ≤ n
/-- all stands but what is at d -/
def But (d : Addr) (H H' : Hp) : Prop := ∀ b o, H b = some o → b ≠ d → H' b = some o
theorem But.refl {d : Addr} {H : Hp} : But d H H := fun _ _ e _ => e
theorem But.trans {d : Addr} {H H1 H2 : Hp} (x : But d H H1) (y : But d H1 H2) : But d H H2 := fun b o e n => y b o (x b o e n) n
theorem But.upd {d : Addr} {H : Hp} {o : HO} : But d H (upd H d o) := fun b u e n => by rw [upd_ne n]; exact e
theorem But.new {d p : Addr} {H H1 : Hp} {o : HO} (x : But d H H1) (h : H1 p = none) : But d H (L2.upd H1 p o) := fun b u e n => by
  have e1 := x b u e n
  rw [upd_ne (ne_of_none e1 h)]
  exact e1
theorem But.free {d p : Addr} {H H' : Hp} (x : But d H H') (hd : d ≠ p) (h : H' p = none) : H p = none := by
  cases q : H p with
  | none => rfl
  | some o =>
    rw [x p o q (Ne.symm hd)] at h
    cases h
theorem But.of_same {d : Addr} {H H' : Hp} (x : Same H H') : But d H H' := fun b o e _ => x b o e
theorem Dr.dict {H : Hp} {d c : Addr} {n : Nat} (h : Dr H d c n) : ∃ o, H d = some (.dK o) := let ⟨_, _, _, _, e, _⟩ := h; ⟨_, e⟩
theorem Dr.cells {H : Hp} {d c : Addr} {n : Nat} (h : Dr H d c n) : ∃ xs, H c = some (.lst xs) := let ⟨_, _, _, _, _, e, _⟩ := h; ⟨_, e⟩
theorem Dr.mono {H : Hp} {d c : Addr} {n m : Nat} (h : Dr H d c n) (q : n ≤ m) : Dr H d c m := by
  obtain ⟨cs, a, l, u, h1, h2, h3, h4, h5, h6, h7, h8, h9⟩ := h
  exact ⟨cs, a, l, u, h1, h2, h3, h4, h5, by omega, h7, h8, by omega⟩
theorem Dr.keep {H H' : Hp} {d c : Addr} {n : Nat} (h : Dr H d c n) (e : Same H H') : Dr H' d c n := by
  obtain ⟨cs, a, l, u, h1, h2, r⟩ := h
  exact ⟨cs, a, l, u, e _ _ h1, e _ _ h2, r⟩
theorem Dr.new {H : Hp} {d c p : Addr} {n : Nat} {o : HO} (h : Dr H d c n) (q : H p = none) : Dr (upd H p o) d c n :=
  h.keep fun b u e => by rw [upd_ne (ne_of_none e q)]; exact e
/-- what is at p changes -/
theorem Dr.off {H : Hp} {d c p : Addr} {n : Nat} {o : HO} (h : Dr H d c n) (hd : d ≠ p) (hc : c ≠ p) : Dr (upd H p o) d c n := by
  obtain ⟨cs, a, l, u, h1, h2, r⟩ := h
  exact ⟨cs, a, l, u, by rw [upd_ne hd]; exact h1, by rw [upd_ne hc]; exact h2, r⟩
theorem Dr.ne_new {H : Hp} {d c p : Addr} {n : Nat} (h : Dr H d c n) (q : H p = none) : d ≠ p := let ⟨_, e⟩ := h.dict; ne_of_none e q
theorem Dr.nc_new {H : Hp} {d c p : Addr} {n : Nat} (h : Dr H d c n) (q : H p = none) : c ≠ p := let ⟨_, e⟩ := h.cells; ne_of_none e q

def spMixed : Sp := fun vs H Q _ => ∃ c k : Int, vs = [.int c, .int k] ∧ 0 ≤ k ∧ k < 2 ^ 60 ∧ ∀ v, Q (.int v) H
theorem ok_mixed (T : Tex K mg D) : FnOk P w K mg base CX0 1 D.a_mixed D.d_mixed P_mixed spMixed := by
  refine T.mixed_F.ok S_mixed (fun vs H Q E h => ?_) (fun cdv A outer s H vs Q E hr h => ?_)
  · obtain ⟨c, k, rfl, _⟩ := h
    rfl
  · obtain ⟨c, k, rfl, h0, h1, q⟩ := h
    refine ⟨_, (pss_cons (ps_set (i := 2) S_mixed.nd rfl (Or.inl rfl) (pe_op op_mod (pe_op op_add (pe_op op_add (pe_op op_add (pe_op op_mod (pv 0) pe_int) (pe_op op_mul (pe_op op_mul pe_int (pv 1)) (pv 1))) (pe_op op_mul pe_int (pv 1))) pe_int) pe_int))
      (pss_cons (ps_set (i := 2) S_mixed.nd rfl (Or.inl rfl) (pe_op op_mod (pe_op op_mul (pe_op op_mod (pe_op op_mul (pv 2) (pv 2)) pe_int) (pv 2)) pe_int))
      (pss_one (ps_ret (pe_op op_fdiv (pe_op op_mod (pe_op op_mul (pv 2) (pe_op op_add pe_int (pe_op op_mul pe_int (pe_op op_mod (pv 1) pe_int)))) pe_int) pe_int))))), ?_⟩
    refine ⟨_, rfl, _, _, rfl, rfl, (posI rfl), ?_⟩
    refine ⟨_, rfl, _, _, rfl, rfl, .inl ⟨by decide, by decide⟩, ?_⟩
    refine ⟨_, rfl, _, _, rfl, rfl, .inr ⟨by omega, by omega⟩, _, _, rfl, rfl, ?_⟩
    refine ⟨_, rfl, _, _, rfl, rfl, .inl ⟨by decide, by decide⟩, _, _, rfl, rfl, _, _, rfl, rfl, _, _, rfl, rfl, (posI rfl), ?_⟩
    generalize hm : (c % 1000000007 + 7919 * k * k + 31 * k + 7) % 2147483647 = m
    have m0 : 0 ≤ m := by rw [← hm]; exact Int.emod_nonneg _ (by decide)
    have m1 : m < 2147483647 := by rw [← hm]; exact Int.emod_lt_of_pos _ (by decide)
    refine ⟨_, rfl, _, rfl, _, _, rfl, rfl, .inl ⟨by omega, by omega⟩, _, _, rfl, rfl, (posI rfl), ?_⟩
    refine ⟨_, rfl, _, _, rfl, rfl, .inr ⟨by omega, by omega⟩, _, _, rfl, rfl, (posI rfl), ?_⟩
    generalize hn : m * m % 2147483647 * m % 2147483629 = n
    have n0 : 0 ≤ n := by rw [← hn]; exact Int.emod_nonneg _ (by decide)
    have n1 : n < 2147483629 := by rw [← hn]; exact Int.emod_lt_of_pos _ (by decide)
    refine ⟨_, rfl, _, rfl, _, _, rfl, rfl, (posI rfl), _, _, rfl, rfl, .inl ⟨by decide, by decide⟩, _, _, rfl, rfl, _, _, rfl, rfl, .inl ⟨by omega, by omega⟩, ?_⟩
    refine ⟨_, _, rfl, rfl, (posI rfl), _, _, rfl, rfl, ⟨by decide, by decide⟩, ?_⟩
    exact q _

def spNext : Sp := fun vs H Q _ => ∃ (d c : Addr) (b : Int) (n : Nat), vs = [.ref d, .int b] ∧ Dr H d c n ∧ n ≤ 10 ^ 12 ∧ 0 < b ∧ b < 2 ^ 30 ∧
  ∀ (v : Int) (H' : Hp), 0 ≤ v → v < b → Dr H' d c (n + 1) → But d H H' → Q (.int v) H'
theorem ok_next (T : Tex K mg D) : FnOk P w K mg base CX0 2 D.a_next D.d_next P_next spNext := by
  have G_mixed : FnOk P w K mg base CX0 1 D.a_mixed D.d_mixed P_mixed spMixed := ok_mixed T
  refine T.next_F.ok S_next (fun vs H Q E h => ?_) (fun cdv A outer s H vs Q E hr h => ?_)
  · obtain ⟨d, c, b, n, rfl, _⟩ := h
    rfl
  · obtain ⟨d, c, b, n, rfl, ⟨cs, a, l, u, hd, hc, c0, c64, a0, an, l0, u0, un⟩, hn, b0, b1, q⟩ := h
    have hu := hu_of hr
    have ndc : d ≠ c := ne_of hd hc (by intro z; cases z)
    have sz : ∀ c' a' l' u', (drK c' a' l' u').length < sizeLine := fun _ _ _ _ => by show 4 < sizeLine; decide
    have cs0 : 0 < cs.length := List.length_pos_iff.mpr c0
    refine ⟨_, (pss_cons (ps_if (pt_cmpR op_gt (pe_dget hu (pv 0) pe_str (fun _ _ => rfl)) pe_int (nomark _)) (pss_cons (ps_set (i := 2) S_next.nd rfl (Or.inl rfl) (pe_op op_mod (pe_dget hu (pv 0) pe_str (fun _ _ => rfl)) (pv 1)))
      (pss_cons (ps_dput hu (pv 0) pe_str (pe_op op_fdiv (pe_dget hu (pv 0) pe_str (fun _ _ => rfl)) (pv 1)) rfl)
      (pss_one (ps_ret (pv 2))))) pss_nil)
      (pss_cons (ps_set (i := 3) S_next.nd rfl (Or.inl rfl) (pe_dget hu (pv 0) pe_str (fun _ _ => rfl)))
      (pss_cons (ps_set (i := 4) S_next.nd rfl (Or.inl rfl) (pe_ix ix_list (pv 3) (pe_op op_mod (pe_dget hu (pv 0) pe_str (fun _ _ => rfl)) (pe_callB call_len_seq (by rfl) T.b_len (by decide +kernel) (pa_cons (pv 3) pa_nil))) (fun _ _ => rfl)))
      (pss_cons (ps_dput hu (pv 0) pe_str (pe_op op_add (pe_dget hu (pv 0) pe_str (fun _ _ => rfl)) pe_int) rfl)
      (pss_cons (ps_if (PW.pt (pw_and (pt_cmpR op_ge (pv 4) (pe_op op_pow pe_int pe_int) (nomark _)) (pw_and1 (pt_cmpR op_le (pe_dget hu (pv 0) pe_str (fun _ _ => rfl)) (pe_callB call_len_seq (by rfl) T.b_len (by decide +kernel) (pa_cons (pv 3) pa_nil)) (nomark _))))) (pss_cons (ps_dput hu (pv 0) pe_str (pe_op op_fdiv (pv 4) (pv 1)) rfl)
      (pss_one (ps_ret (pe_op op_mod (pv 4) (pv 1))))) pss_nil)
      (pss_cons (ps_dput hu (pv 0) pe_str (pe_op op_add (pe_dget hu (pv 0) pe_str (fun _ _ => rfl)) pe_int) rfl)
      (pss_one (ps_ret (pe_op op_mod (pe_call G_mixed (hr.mono (by decide)) (by rfl) T.mixed_g T.mixed_F.kp T.mixed_b .nil pass0 (pa_cons (pe_call G_mixed (hr.mono (by decide)) (by rfl) T.mixed_g T.mixed_F.kp T.mixed_b .nil pass0 (pa_cons (pv 4) (pa_cons (pe_dget hu (pv 0) pe_str (fun _ _ => rfl)) pa_nil))) (pa_cons (pe_dget hu (pv 0) pe_str (fun _ _ => rfl)) pa_nil))) (pv 1)))))))))), ?_⟩
    refine ⟨_, rfl, d, _, rfl, (by have g := DGet.k (k := .inr "left") hd; rw [dr_left] at g; exact g), _, _, rfl, rfl, _, rfl, ?_⟩
    refine ite2 (fun hl => ?_) (fun hl => ?_)
    · refine ⟨_, rfl, d, _, rfl, (by have g := DGet.k (k := .inr "left") hd; rw [dr_left] at g; exact g), _, rfl, _, _, rfl, rfl, b0, ?_⟩
      refine ⟨_, rfl, d, _, rfl, (by have g := DGet.k (k := .inr "left") hd; rw [dr_left] at g; exact g), _, rfl, _, _, rfl, rfl, ⟨b0, b1⟩, _, rfl, d, _, rfl, DPut.k (k := .inr "left") hd (sz _ _ _ _), ?_⟩
      refine ⟨_, rfl, ?_⟩
      refine q _ _ (Int.emod_nonneg _ (by omega)) (Int.emod_lt_of_pos _ b0) ⟨cs, a, l / b, u, ?_, ?_, c0, c64, a0, by omega, Int.ediv_nonneg l0 (by omega), u0, by omega⟩ But.upd
      · rw [upd_same, dr_pleft]
      · rw [upd_ne ndc.symm]; exact hc
    · refine ⟨_, rfl, d, _, rfl, (by have g := DGet.k (k := .inr "cells") hd; rw [dr_cells] at g; exact g), ?_⟩
      refine ⟨_, rfl, _, rfl, d, _, rfl, (by have g := DGet.k (k := .inr "at") hd; rw [dr_at] at g; exact g), _, rfl, c, _, rfl, .inl (SqL.of hc), _, _, rfl, rfl, (by rw [List.length_map]; show (0 : Int) < (cs.length : Int); omega), ?_⟩
      have hix : 0 ≤ a % ((cs.map V.int).length : Int) ∧ a % ((cs.map V.int).length : Int) < ((cs.map V.int).length : Int) := by
        have e : ((cs.map V.int).length : Int) = (cs.length : Int) := by rw [List.length_map]
        rw [e]
        exact ⟨Int.emod_nonneg _ (by omega), Int.emod_lt_of_pos _ (by omega)⟩
      obtain ⟨x, hx⟩ : ∃ x, (cs.map V.int)[(a % ((cs.map V.int).length : Int)).toNat]? = some (V.int x) := by
        have hlt : (a % ((cs.map V.int).length : Int)).toNat < cs.length := by
          have e : ((cs.map V.int).length : Int) = (cs.length : Int) := by rw [List.length_map]
          omega
        exact ⟨cs[(a % ((cs.map V.int).length : Int)).toNat], by rw [List.getElem?_map, List.getElem?_eq_getElem hlt]; rfl⟩
      refine ⟨c, _, _, _, rfl, rfl, SqL.of hc, (by
        have e : a % ((cs.map V.int).length : Int) = ((a % ((cs.map V.int).length : Int)).toNat : Int) := (Int.toNat_of_nonneg hix.1).symm
        rw [e]
        exact atI_nat hx), ?_⟩
      -- at += 1
      refine ⟨_, rfl, d, _, rfl, (by have g := DGet.k (k := .inr "at") hd; rw [dr_at] at g; exact g), _, _, rfl, rfl, _, rfl, d, _, rfl, DPut.k (k := .inr "at") hd (sz _ _ _ _), ?_⟩
      rw [dr_pat]
      have hd1 : (upd H d (.dK (drK c (a + 1) l u))) d = some (.dK (drK c (a + 1) l u)) := upd_same
      have hc1 : (upd H d (.dK (drK c (a + 1) l u))) c = some (.lst (cs.map V.int)) := by rw [upd_ne ndc.symm]; exact hc
      have bu1 : But d H (upd H d (.dK (drK c (a + 1) l u))) := But.upd
      revert hd1 hc1 bu1
      generalize upd H d (.dK (drK c (a + 1) l u)) = H1
      intro hd1 hc1 bu1
      refine ⟨_, rfl, _, _, rfl, rfl, ⟨by decide, by decide, by decide⟩, _, _, rfl, rfl, _, rfl, ?_⟩
      refine ite2 (fun h18 => ?_) (fun h18 => ?_)
      · refine ⟨_, rfl, d, _, rfl, (by have g := DGet.k (k := .inr "at") hd1; rw [dr_at] at g; exact g), _, rfl, c, _, rfl, .inl (SqL.of hc1), _, _, rfl, rfl, _, rfl, ?_⟩
        refine ite2 (fun hat => ?_) (fun hat => ?_)
        · have x0 : 0 ≤ x := by
            have h2 := of_decide_eq_true h18
            have h3 : (0 : Int) ≤ 10 ^ (18 : Int).toNat := by decide
            omega
          refine ⟨_, rfl, _, rfl, _, _, rfl, rfl, ⟨b0, b1⟩, _, rfl, d, _, rfl, DPut.k (k := .inr "left") hd1 (sz _ _ _ _), ?_⟩
          refine ⟨_, rfl, _, rfl, _, _, rfl, rfl, b0, ?_⟩
          refine q _ _ (Int.emod_nonneg _ (by omega)) (Int.emod_lt_of_pos _ b0) ⟨cs, a + 1, x / b, u, ?_, ?_, c0, c64, by omega, by omega, Int.ediv_nonneg x0 (by omega), u0, by omega⟩ (bu1.trans But.upd)
          · rw [upd_same, dr_pleft]
          · rw [upd_ne ndc.symm]; exact hc1
        ·
          refine ⟨_, rfl, d, _, rfl, (by have g := DGet.k (k := .inr "used") hd1; rw [dr_used] at g; exact g), _, _, rfl, rfl, _, rfl, d, _, rfl, DPut.k (k := .inr "used") hd1 (sz _ _ _ _), ?_⟩
          rw [dr_pused]
          have hd2 : (upd H1 d (.dK (drK c (a + 1) l (u + 1)))) d = some (.dK (drK c (a + 1) l (u + 1))) := upd_same
          have hc2 : (upd H1 d (.dK (drK c (a + 1) l (u + 1)))) c = some (.lst (cs.map V.int)) := by rw [upd_ne ndc.symm]; exact hc1
          refine ⟨_, rfl, _, rfl, d, _, rfl, (by have g := DGet.k (k := .inr "at") hd2; rw [dr_at] at g; exact g), x, a + 1, rfl, by omega, by omega, fun v1 => ?_⟩
          refine ⟨_, rfl, d, _, rfl, (by have g := DGet.k (k := .inr "used") hd2; rw [dr_used] at g; exact g), v1, u + 1, rfl, by omega, by omega, fun v2 => ?_⟩
          refine ⟨_, rfl, _, _, rfl, rfl, b0, ?_⟩
          exact q _ _ (Int.emod_nonneg _ (by omega)) (Int.emod_lt_of_pos _ b0) ⟨cs, a + 1, l, u + 1, hd2, hc2, c0, c64, by omega, by omega, l0, by omega, by omega⟩ (bu1.trans But.upd)
      ·
        refine ⟨_, rfl, d, _, rfl, (by have g := DGet.k (k := .inr "used") hd1; rw [dr_used] at g; exact g), _, _, rfl, rfl, _, rfl, d, _, rfl, DPut.k (k := .inr "used") hd1 (sz _ _ _ _), ?_⟩
        rw [dr_pused]
        have hd2 : (upd H1 d (.dK (drK c (a + 1) l (u + 1)))) d = some (.dK (drK c (a + 1) l (u + 1))) := upd_same
        have hc2 : (upd H1 d (.dK (drK c (a + 1) l (u + 1)))) c = some (.lst (cs.map V.int)) := by rw [upd_ne ndc.symm]; exact hc1
        refine ⟨_, rfl, _, rfl, d, _, rfl, (by have g := DGet.k (k := .inr "at") hd2; rw [dr_at] at g; exact g), x, a + 1, rfl, by omega, by omega, fun v1 => ?_⟩
        refine ⟨_, rfl, d, _, rfl, (by have g := DGet.k (k := .inr "used") hd2; rw [dr_used] at g; exact g), v1, u + 1, rfl, by omega, by omega, fun v2 => ?_⟩
        refine ⟨_, rfl, _, _, rfl, rfl, b0, ?_⟩
        exact q _ _ (Int.emod_nonneg _ (by omega)) (Int.emod_lt_of_pos _ b0) ⟨cs, a + 1, l, u + 1, hd2, hc2, c0, c64, by omega, by omega, l0, by omega, by omega⟩ (bu1.trans But.upd)
end

/-! ## The draws begin -/
section
variable {P : Program} {w : World} {K : PySem.W.Frag} {mg : Str → Option Value} {base : Heap} {D : Ad}
theorem len_app (a b : Str) : (a ++ b).length = a.length + b.length := PySem.strLen_append a b

theorem at_in {α : Type} {xs : List α} {v : Int} (h0 : 0 ≤ v) (h1 : v < (xs.length : Int)) : ∃ x, atI xs v = some x ∧ x ∈ xs := by
  obtain ⟨j, rfl⟩ := Int.eq_ofNat_of_zero_le h0
  have hj : j < xs.length := by omega
  exact ⟨xs[j], atI_nat (List.getElem?_eq_getElem hj), List.getElem_mem hj⟩

/-! ### begin -/
theorem merge_dr (c : Addr) (a l u : Int) : mergeK [] (drK c a l u) = drK c a l u := by simp [mergeK, putK, drK, ne_ca, ne_cl, ne_cu, ne_al, ne_au, ne_lu]
def spBegin (K : PySem.W.Frag) : Sp := fun vs H Q _ => ∃ (a : Addr) (ns : List Int), vs = [.ref a] ∧ Bare K H a (ns.map V.int) ∧ ns.length ≤ 63 ∧ ∀ d c H', H d = none → Same H H' → Dr H' d c 0 → Q (.ref d) H'
theorem ok_begin (T : Tex K mg D) : FnOk P w K mg base CX0 1 D.a_begin D.d_begin P_begin (spBegin K) := by
  refine T.begin_F.ok S_begin (fun vs H Q E h => ?_) (fun cdv A outer s H vs Q E hr h => ?_)
  · obtain ⟨a, ns, rfl, _⟩ := h
    rfl
  · obtain ⟨a, ns, rfl, hb, hl, q⟩ := h
    refine ⟨_, (pss_one (ps_ret (pe_disp (pps_cons pe_str (pe_op op_catS (pv 0) (pe_lst (pa_cons pe_int pa_nil))) (pps_cons pe_str pe_int (pps_cons pe_str pe_int (pps_cons pe_str pe_int pps_nil)))) (by rfl) (by rfl) (fun z => by cases z) (by decide)))), ?_⟩
    intro p hp
    have s1 : Same H (upd H p (.dK [])) := same_new hp
    refine ⟨_, rfl, (by show 1 ≤ sizeLine; decide), fun l hl1 => ⟨a, l, _, _, rfl, rfl, (hb.keep s1).keep (same_new hl1), upd_same, Nat.le_trans (show _ ≤ 1000 by simp; omega) (by decide), fun c hc => ?_⟩⟩
    have s2 := s1.trans (same_new (o := .lst [.int 0]) hl1)
    have s3 := s2.trans (same_new (o := .lst (ns.map V.int ++ [.int 0])) hc)
    have npl : p ≠ l := ne_of_none upd_same hl1
    have npc : p ≠ c := by
      have e : (upd (upd H p (.dK [])) l (.lst [.int 0])) p = some (.dK []) := by rw [upd_ne npl, upd_same]
      exact ne_of_none e hc
    refine ⟨by rw [upd_ne npc, upd_ne npl, upd_same], drK c 0 0 0, rfl, (by show 4 ≤ 15; decide), ?_⟩
    rw [merge_dr]
    refine q p c _ hp (same_upd s3 hp) ⟨ns ++ [0], 0, 0, 0, upd_same, ?_, by simp, by simp; omega, by decide, by decide, by decide, by decide, by decide⟩
    rw [upd_ne npc.symm, upd_same]
    simp

end

/-! ## Questions about objects of every kind -/
section
variable {P : Program} {w : World} {K : PySem.W.Frag} {mg : Str → Option Value} {base : Heap} {D : Ad}
open TL SX
/-- a plain object that is no whole number -/
def Plain (K : PySem.W.Frag) (H : Hp) (x : V) : Prop := ∃ S ∈ (["NoneType", "bool", "str", "tuple", "list", "dict"] : List String), TyX K H x (.type S)
def spWholeA (K : PySem.W.Frag) : Sp := fun vs H Q _ => ∃ (x : V) (b : Bool), vs = [x] ∧ ((∃ i, x = .int i ∧ b = true) ∨ (Plain K H x ∧ b = false)) ∧ Q (.bl b) H
theorem ok_is_whole (T : Tex K mg D) : FnOk P w K mg base CX0 1 D.a_is_whole D.d_is_whole P_is_whole (spWholeA K) := by
  refine T.is_whole_F.ok S_is_whole (fun vs H Q E h => ?_) (fun cdv A outer s H vs Q E hr h => ?_)
  · obtain ⟨x, b, rfl, _⟩ := h
    rfl
  · obtain ⟨x, b, rfl, h, q⟩ := h
    refine ⟨_, (pss_one (ps_ret (pe_and (pe_callB call_isi (by rfl) T.b_isinstance (by decide +kernel) (pa_cons (pv 0) (pa_cons (pe_bltn (v := .ty "int") (u := .type "int") (by rfl) T.b_int (by decide +kernel) rfl) pa_nil))) (pe_one (pe_not (pe_callB call_isi (by rfl) T.b_isinstance (by decide +kernel) (pa_cons (pv 0) (pa_cons (pe_bltn (v := .ty "bool") (u := .type "bool") (by rfl) T.b_bool (by decide +kernel) rfl) pa_nil)))))))), ?_⟩
    rcases h with ⟨i, rfl, rfl⟩ | ⟨⟨St, hS, ty⟩, rfl⟩
    · refine ⟨_, rfl, .int i, .ty "int", .type "int", .type "int", true, rfl, .ty _, .base (.int i), kit_ty (by decide +kernel), true, rfl, iteT ?_⟩
      exact ⟨_, rfl, .int i, .ty "bool", .type "int", .type "bool", false, rfl, .ty _, .base (.int i), kit_ty (by decide +kernel), false, rfl, q⟩
    · simp only [List.mem_cons, List.not_mem_nil, or_false] at hS
      rcases hS with rfl | rfl | rfl | rfl | rfl | rfl
      · exact ⟨_, rfl, x, .ty "int", _, .type "int", false, rfl, .ty _, ty, kit_ty (by decide +kernel), false, rfl, iteF q⟩
      · refine ⟨_, rfl, x, .ty "int", _, .type "int", true, rfl, .ty _, ty, kit_ty (by decide +kernel), true, rfl, iteT ?_⟩
        exact ⟨_, rfl, x, .ty "bool", _, .type "bool", true, rfl, .ty _, ty, kit_ty (by decide +kernel), true, rfl, q⟩
      · exact ⟨_, rfl, x, .ty "int", _, .type "int", false, rfl, .ty _, ty, kit_ty (by decide +kernel), false, rfl, iteF q⟩
      · exact ⟨_, rfl, x, .ty "int", _, .type "int", false, rfl, .ty _, ty, kit_ty (by decide +kernel), false, rfl, iteF q⟩
      · exact ⟨_, rfl, x, .ty "int", _, .type "int", false, rfl, .ty _, ty, kit_ty (by decide +kernel), false, rfl, iteF q⟩
      · exact ⟨_, rfl, x, .ty "int", _, .type "int", false, rfl, .ty _, ty, kit_ty (by decide +kernel), false, rfl, iteF q⟩
def spCntA (K : PySem.W.Frag) : Sp := fun vs H Q _ => ∃ (x : V) (b : Bool), vs = [x] ∧ ((∃ i, x = .int i ∧ b = decide (0 ≤ i)) ∨ (Plain K H x ∧ b = false)) ∧ Q (.bl b) H
theorem ok_is_count (T : Tex K mg D) : FnOk P w K mg base CX0 2 D.a_is_count D.d_is_count P_is_count (spCntA K) := by
  have G_is_whole : FnOk P w K mg base CX0 1 D.a_is_whole D.d_is_whole P_is_whole (spWholeA K) := ok_is_whole T
  refine T.is_count_F.ok S_is_count (fun vs H Q E h => ?_) (fun cdv A outer s H vs Q E hr h => ?_)
  · obtain ⟨x, b, rfl, _⟩ := h
    rfl
  · obtain ⟨x, b, rfl, h, q⟩ := h
    refine ⟨_, (pss_one (ps_ret (pe_and (pe_call G_is_whole (hr.mono (by decide)) (by rfl) T.is_whole_g T.is_whole_F.kp T.is_whole_b .nil pass0 (pa_cons (pv 0) pa_nil)) (pe_one (pe_cmpR op_ge (pv 0) pe_int (nomark _)))))), ?_⟩
    rcases h with ⟨i, rfl, rfl⟩ | ⟨pl, rfl⟩
    · exact ⟨_, rfl, _, true, rfl, .inl ⟨i, rfl, rfl⟩, true, rfl, iteT ⟨_, rfl, _, _, rfl, rfl, q⟩⟩
    · exact ⟨_, rfl, _, false, rfl, .inr ⟨pl, rfl⟩, false, rfl, iteF q⟩
def spWToA (K : PySem.W.Frag) : Sp := fun vs H Q _ => ∃ (x : V) (l : Int) (b : Bool), vs = [x, .int l] ∧ ((∃ i, x = .int i ∧ b = (decide (0 ≤ i) && decide (i ≤ l))) ∨ (Plain K H x ∧ b = false)) ∧ Q (.bl b) H
theorem ok_is_whole_toA (T : Tex K mg D) : FnOk P w K mg base CX0 3 D.a_is_whole_to D.d_is_whole_to P_is_whole_to (spWToA K) := by
  have G_is_count : FnOk P w K mg base CX0 2 D.a_is_count D.d_is_count P_is_count (spCntA K) := ok_is_count T
  refine T.is_whole_to_F.ok S_is_whole_to (fun vs H Q E h => ?_) (fun cdv A outer s H vs Q E hr h => ?_)
  · obtain ⟨x, l, b, rfl, _⟩ := h
    rfl
  · obtain ⟨x, l, b, rfl, h, q⟩ := h
    refine ⟨_, (pss_one (ps_ret (pe_and (pe_call G_is_count (hr.mono (by decide)) (by rfl) T.is_count_g T.is_count_F.kp T.is_count_b .nil pass0 (pa_cons (pv 0) pa_nil)) (pe_one (pe_cmpR op_le (pv 0) (pv 1) (nomark _)))))), ?_⟩
    rcases h with ⟨i, rfl, rfl⟩ | ⟨pl, rfl⟩
    · refine ⟨_, rfl, _, _, rfl, .inl ⟨i, rfl, rfl⟩, _, rfl, ?_⟩
      by_cases h0 : 0 ≤ i
      · rw [decide_eq_true h0] at q ⊢
        exact iteT ⟨_, rfl, _, rfl, _, _, rfl, rfl, by simpa using q⟩
      · rw [decide_eq_false h0] at q ⊢
        exact iteF (by simpa using q)
    · exact ⟨_, rfl, _, false, rfl, .inr ⟨pl, rfl⟩, false, rfl, iteF q⟩
def spWTo : Sp := fun vs H Q _ => ∃ i l : Int, vs = [.int i, .int l] ∧ 0 ≤ i ∧ i ≤ l ∧ Q (.bl true) H
theorem ok_is_whole_to (T : Tex K mg D) : FnOk P w K mg base CX0 3 D.a_is_whole_to D.d_is_whole_to P_is_whole_to spWTo :=
  (ok_is_whole_toA T).imp fun vs H Q E h => by
    obtain ⟨i, l, rfl, h0, h1, q⟩ := h
    exact ⟨_, l, true, rfl, .inl ⟨i, rfl, by rw [decide_eq_true h0, decide_eq_true h1]; rfl⟩, q⟩
end

/-! ## Versions: the program's defs -/
section
variable {P : Program} {w : World} {K : PySem.W.Frag} {mg : Str → Option Value} {base : Heap} {D : Ad}
open TL SX
theorem szl {n : Nat} (h : n ≤ 1000) : n ≤ sizeLine := Nat.le_trans h (by decide)
theorem szt {n : Nat} (h : n ≤ 1000) : n < sizeLine := Nat.lt_of_le_of_lt h (by decide)
theorem szL {n : Nat} (h : n ≤ 100000) : n ≤ sizeLine := Nat.le_trans h (by decide)
theorem szT {n : Nat} (h : n ≤ 100000) : n < sizeLine := Nat.lt_of_le_of_lt h (by decide)
theorem kit_self {C : Addr} : PySem.W.kitOne K (.ref C) (.ref C) = some true := by
  unfold PySem.W.kitOne
  simp
def inS (sg : Str) (c : Nat) : Bool := decide (c ∈ sg.cps.toList)
theorem filt1 {α : Type} {xs : List α} : xs.filter (fun _ => true) = xs := List.filter_eq_self.mpr (by simp)
def spConsistsOf : Sp := fun vs H Q _ => ∃ t sg : Str, vs = [.str t, .str sg] ∧ t.length ≤ 200 ∧ ∀ H', Same H H' → Q (.bl (t.cps.toList.all (inS sg))) H'
theorem ok_consists_of (T : Tex K mg D) : FnOk P w K mg base CX0 1 D.a_consists_of D.d_consists_of P_consists_of spConsistsOf := by
  refine T.consists_of_F.ok S_consists_of (fun vs H Q E h => ?_) (fun cdv A outer s H vs Q E hr h => ?_)
  · obtain ⟨t, sg, rfl, _⟩ := h
    rfl
  · obtain ⟨t, sg, rfl, hl, q⟩ := h
    refine ⟨_, (pss_one (ps_ret (pe_callB (cr_all rfl) (by rfl) T.b_all (by decide +kernel) (pa_cons (pe_lc (own := [(("sign" : Str), 2)]) (g := gName 2) (tt := tYes) rfl S_consists_of.nd (pi_str (pv 0)) (blkOk_by (N := N_consists_of) (sc := defScope s_consists_of) (by decide +kernel)) (fun _ _ _ _ _ => pg_name (i := 2) S_consists_of.nd rfl (Or.inl rfl)) (fun _ _ _ _ _ => pts_nil) (fun _ _ _ _ _ => (pe_cmpR op_in_sign (pv 2) (pv 1) rfl))) pa_nil)))), ?_⟩
    refine ⟨_, rfl, t, rfl, fun D hD => lc_txt (fun _ => true) (fun c => .bl (inS sg c)) hD (szt (by omega)) (fun c hc H2 R S s2 h1 h2 => ?_) (fun H2 s2 h2 => ?_)⟩
    · exact ⟨rfl, ⟨_, rfl, _, rfl, c, sg, rfl, rfl, h1 rfl _ (Same.refl _)⟩⟩
    · refine ⟨D, t.cps.toList.map (inS sg), rfl, SqL.of (by rw [h2, filt1, List.map_map]; rfl), ?_⟩
      rw [List.all_map]
      exact q _ s2
def goodT (t sg : Str) (m : Int) : Bool := decide (1 ≤ (t.length : Int)) && (decide ((t.length : Int) ≤ m) && t.cps.toList.all (inS sg))
def spStrT : Sp := fun vs H Q _ => ∃ (t sg : Str) (m : Int), vs = [.str t, .str sg, .int m] ∧ t.length ≤ 100000 ∧ m ≤ 100 ∧ ∀ H', Same H H' → Q (.bl (goodT t sg m)) H'
theorem ok_is_string_of (T : Tex K mg D) : FnOk P w K mg base CX0 2 D.a_is_string_of D.d_is_string_of P_is_string_of spStrT := by
  have G_consists_of : FnOk P w K mg base CX0 1 D.a_consists_of D.d_consists_of P_consists_of spConsistsOf := ok_consists_of T
  refine T.is_string_of_F.ok S_is_string_of (fun vs H Q E h => ?_) (fun cdv A outer s H vs Q E hr h => ?_)
  · obtain ⟨x, sg, m, rfl, _⟩ := h
    rfl
  · obtain ⟨t, sg, m, rfl, hl, hm, q⟩ := h
    refine ⟨_, (pss_one (ps_ret (pe_and (pe_callB call_isi (by rfl) T.b_isinstance (by decide +kernel) (pa_cons (pv 0) (pa_cons (pe_bltn (v := .ty "str") (u := .type "str") (by rfl) T.b_str (by decide +kernel) rfl) pa_nil))) (pe_and (pe_chain op_le op_le pe_int (pe_callB call_len_str (by rfl) T.b_len (by decide +kernel) (pa_cons (pv 0) pa_nil)) (pv 2)) (pe_one (pe_call G_consists_of (hr.mono (by decide)) (by rfl) T.consists_of_g T.consists_of_F.kp T.consists_of_b .nil pass0 (pa_cons (pv 0) (pa_cons (pv 1) pa_nil)))))))), ?_⟩
    refine ⟨_, rfl, .str t, .ty "str", .type "str", .type "str", true, rfl, .ty _, .base (.str t), kit_ty (by decide +kernel), true, rfl, iteT ?_⟩
    refine ⟨_, rfl, t, rfl, szL (by omega), _, _, rfl, rfl, _, rfl, ?_⟩
    unfold goodT at q
    refine ite2 (fun h1 => ?_) (fun h1 => ?_)
    · refine ⟨_, rfl, _, _, rfl, rfl, _, rfl, ite2 (fun h2 => ?_) (fun h2 => ?_)⟩
      · have h2' := of_decide_eq_true h2
        refine ⟨_, rfl, _, rfl, t, sg, rfl, by omega, fun H' s' => ?_⟩
        have q2 := q H' s'
        rw [h1, h2] at q2
        exact q2
      · have q2 := q H (Same.refl H)
        rw [h1, Bool.eq_false_iff.mpr h2] at q2
        exact q2
    · refine ⟨_, rfl, iteF ?_⟩
      have q2 := q H (Same.refl H)
      rw [Bool.eq_false_iff.mpr h1] at q2
      exact q2
def oV : Option Nat → V
  | none => .non
  | some n => .int (n : Int)
theorem inS_dig (c : Nat) : inS (("0123456789" : String) : Str) c = isDig c := by
  unfold inS isDig
  have e : ((("0123456789" : String) : Str)).cps.toList = [48, 49, 50, 51, 52, 53, 54, 55, 56, 57] := by decide +kernel
  rw [e, Bool.eq_iff_iff, decide_eq_true_eq, decide_eq_true_eq]
  simp only [List.mem_cons, List.not_mem_nil, or_false]
  omega
theorem good_nT (l : List Nat) (k : Nat) : goodT (S l) (("0123456789" : String) : Str) (k : Int) = (decide (1 ≤ l.length) && (decide (l.length ≤ k) && l.all isDig)) := by
  unfold goodT
  have e1 : decide (1 ≤ ((S l).length : Int)) = decide (1 ≤ l.length) := by rw [S_len]; exact decide_eq_decide.mpr (by omega)
  have e2 : decide (((S l).length : Int) ≤ (k : Int)) = decide (l.length ≤ k) := by rw [S_len]; exact decide_eq_decide.mpr (by omega)
  have e3 : (S l).cps.toList.all (inS (("0123456789" : String) : Str)) = l.all isDig := by
    show l.all _ = _
    congr 1
    funext c
    exact inS_dig c
  rw [e1, e2, e3]
theorem str_num (n : Nat) : Str.ofString (toString ((n : Nat) : Int)) = S (numL n) := ext_tl (tl_num n)
theorem log_num {n : Nat} (h : n < 100000) : ((n : Nat) : Int).natAbs.log2 < 1920 := by
  rw [Int.natAbs_natCast]
  by_cases h0 : n = 0
  · rw [h0]
    decide
  · exact Nat.lt_trans ((Nat.log2_lt h0).mpr (Nat.lt_of_lt_of_le h (by decide : 100000 ≤ 2 ^ 17))) (by decide)
theorem dv_lt : ∀ (l : List Nat), NumText.AllDigits l → NumText.digitsVal l < 10 ^ l.length := by
  intro l
  induction h : l.length generalizing l with
  | zero =>
    intro _
    have : l = [] := List.length_eq_zero_iff.mp h
    subst this
    decide
  | succ n ih =>
    intro hd
    obtain ⟨r, c, rfl⟩ : ∃ r c, l = r ++ [c] := ⟨l.dropLast, l.getLast (by intro e; rw [e] at h; cases h), (List.dropLast_concat_getLast _).symm⟩
    have hr : r.length = n := by simpa using h
    have h1 := ih r hr (fun x hx => hd x (List.mem_append_left _ hx))
    have h2 := hd c (by simp)
    rw [NumText.digitsVal_snoc, Nat.pow_succ]
    omega
/-- number_in, with the last number -/
def nTL (L : Nat) (l : List Nat) : Option Nat :=
  if (decide (1 ≤ l.length) && (decide (l.length ≤ (numL L).length) && l.all isDig)) = true then (if l.head? = some 48 ∧ l ≠ [48] then none else if NumText.digitsVal l ≤ L then some (NumText.digitsVal l) else none) else none
theorem allD {l : List Nat} (h : l.all isDig = true) : NumText.AllDigits l := by
  intro c hc
  have := List.all_eq_true.mp h c hc
  simp only [isDig, decide_eq_true_eq] at this
  omega
theorem nTL_999 (l : List Nat) : nTL 999 l = nT l := by
  unfold nTL nT
  have e : (numL 999).length = 3 := by decide +kernel
  rw [e]
  by_cases h : (decide (1 ≤ l.length) && (decide (l.length ≤ 3) && l.all isDig)) = true
  · rw [if_pos h, if_pos h]
    simp only [Bool.and_eq_true, decide_eq_true_eq] at h
    have hv := dv_lt l (allD h.2.2)
    have : NumText.digitsVal l ≤ 999 := by
      have h3 : (10 : Nat) ^ l.length ≤ 10 ^ 3 := Nat.pow_le_pow_right (by decide) h.2.1
      have : (10 : Nat) ^ 3 = 1000 := rfl
      omega
    rw [if_pos this]
  · rw [if_neg h, if_neg h]
def spNumL : Sp := fun vs H Q _ => ∃ (l : List Nat) (L : Nat), vs = [.str (S l), .int (L : Int)] ∧ l.length ≤ 100000 ∧ L < 100000 ∧ ∀ H', Same H H' → Q (oV (nTL L l)) H'
theorem zero_txt : (("0" : String) : Str) = S [48] := by decide +kernel
theorem ok_number_in (T : Tex K mg D) : FnOk P w K mg base CX0 3 D.a_number_in D.d_number_in P_number_in spNumL := by
  have G_is_string_of : FnOk P w K mg base CX0 2 D.a_is_string_of D.d_is_string_of P_is_string_of spStrT := ok_is_string_of T
  refine T.number_in_F.ok S_number_in (fun vs H Q E h => ?_) (fun cdv A outer s H vs Q E hr h => ?_)
  · obtain ⟨l, L, rfl, _⟩ := h
    rfl
  · obtain ⟨l, L, rfl, hl, hL, q⟩ := h
    have hLl : (numL L).length ≤ 5 := numL_len (by decide) hL
    refine ⟨_, (pss_cons (ps_if (pt_not (pt_val (pe_call G_is_string_of (hr.mono (by decide)) (by rfl) T.is_string_of_g T.is_string_of_F.kp T.is_string_of_b .nil pass0 (pa_cons (pv 0) (pa_cons (pe_glob (v := .str "0123456789") rfl T.c_DIGITS ⟨_, rfl⟩) (pa_cons (pe_callB call_len_str (by rfl) T.b_len (by decide +kernel) (pa_cons (pe_callTy call_str_int (by rfl) T.b_str (by decide +kernel) (pa_cons (pv 1) pa_nil)) pa_nil)) pa_nil)))))) (pss_one (ps_ret pe_non)) pss_nil)
      (pss_cons (ps_if (PW.pt (pw_and (pt_cmpR op_eq (pe_ix ix_str (pv 0) pe_int (fun _ _ => rfl)) pe_str (nomark _)) (pw_and1 (pt_cmpR op_ne (pv 0) pe_str (nomark _))))) (pss_one (ps_ret pe_non)) pss_nil)
      (pss_cons (ps_set (i := 2) S_number_in.nd rfl (Or.inl rfl) (pe_callTy call_int_str (by rfl) T.b_int (by decide +kernel) (pa_cons (pv 0) pa_nil)))
      (pss_one (ps_ret (pe_ifExp (pt_cmpR op_le (pv 2) (pv 1) (nomark _)) (pv 2) pe_non)))))), ?_⟩
    refine ⟨_, rfl, _, rfl, _, rfl, log_num hL, ?_⟩
    rw [str_num]
    refine ⟨_, rfl, by rw [S_len]; exact szl (by omega), S l, (("0123456789" : String) : Str), ((numL L).length : Int), by rw [S_len]; rfl, by rw [S_len]; exact hl, by omega, fun H1 s1 => ⟨_, rfl, ?_⟩⟩
    rw [good_nT]
    unfold nTL at q
    cases hg : (decide (1 ≤ l.length) && (decide (l.length ≤ (numL L).length) && l.all isDig)) with
    | false =>
      rw [hg] at q
      exact iteT (q H1 s1)
    | true =>
      rw [hg, if_pos rfl] at q
      refine iteF ?_
      simp only [Bool.and_eq_true, decide_eq_true_eq] at hg
      obtain ⟨hg1, hg3, hgd⟩ := hg
      have hdig : NumText.AllDigits l := allD hgd
      have hne : l ≠ [] := fun e => by
        rw [e] at hg1
        simp at hg1
      have hin : PySem.intText? (S l) = some ((NumText.digitsVal l : Nat) : Int) := intText_digits (x := S l) hdig hne (by rw [S_len]; omega)
      obtain ⟨c, r, rfl⟩ : ∃ c r, l = c :: r := by
        cases l with
        | nil => exact absurd rfl hne
        | cons c r => exact ⟨c, r, rfl⟩
      have h64 : (S (c :: r)).length ≤ 640 := by rw [S_len]; omega
      refine ⟨_, rfl, S (c :: r), 0, c, rfl, rfl, by rw [S_len]; exact szL (by omega), atI_nat (j := 0) rfl, rfl, _, rfl, ?_⟩
      rw [zero_txt]
      by_cases h0 : c = 48
      · subst h0
        rw [decide_eq_true rfl]
        refine iteT ⟨_, rfl, rfl, _, rfl, ?_⟩
        by_cases h1 : r = []
        · subst h1
          rw [decide_eq_true rfl]
          rw [if_neg (by simp)] at q
          refine iteF ⟨_, rfl, S [48], _, rfl, hin, h64, _, rfl, _, rfl, _, _, rfl, rfl, ?_⟩
          refine ⟨_, rfl, ite2 (fun h2 => ?_) (fun h2 => ?_)⟩
          · have h2' := of_decide_eq_true h2
            rw [if_pos (by omega)] at q
            exact ⟨_, rfl, q H1 s1⟩
          · have h2' := of_decide_eq_false (Bool.eq_false_iff.mpr h2)
            rw [if_neg (by omega)] at q
            exact q H1 s1
        · have hd : decide (V.str (S (48 :: r)) = V.str (S [48])) = false := decide_eq_false (by
            intro e
            injection e with e
            have e2 := S_inj e
            injection e2 with _ e3
            exact h1 e3)
          rw [hd]
          rw [if_pos (by simp [h1])] at q
          exact iteT (q H1 s1)
      · have hd : decide (V.str (S [c]) = V.str (S [48])) = false := decide_eq_false (by
          intro e
          injection e with e
          have e2 := S_inj e
          injection e2 with e3
          exact h0 e3)
        rw [hd]
        rw [if_neg (by simp [h0])] at q
        refine iteF (iteF ⟨_, rfl, S (c :: r), _, rfl, hin, h64, _, rfl, _, rfl, _, _, rfl, rfl, ?_⟩)
        refine ⟨_, rfl, ite2 (fun h2 => ?_) (fun h2 => ?_)⟩
        · have h2' := of_decide_eq_true h2
          rw [if_pos (by omega)] at q
          exact ⟨_, rfl, q H1 s1⟩
        · have h2' := of_decide_eq_false (Bool.eq_false_iff.mpr h2)
          rw [if_neg (by omega)] at q
          exact q H1 s1

/-! ### stage_of_text -/
/-! ### parts_of_text -/
theorem spl_len {b : List Nat} : ∀ {k : Nat} {acc l : List Nat}, (spl b k acc l).length ≤ l.length + 1 ∧ ∀ x ∈ spl b k acc l, x.length ≤ acc.length + l.length
  | k, acc, [] => by
    rw [spl_nil]
    simp
  | 0, acc, c :: r => by
    by_cases h : pre b (c :: r) = true
    · rw [spl_hit h]
      have ih := spl_len (b := b) (k := b.length - 1) (acc := []) (l := r)
      refine ⟨by simp only [List.length_cons]; omega, ?_⟩
      intro x hx
      rcases List.mem_cons.mp hx with rfl | hx
      · simp
      · have := ih.2 x hx
        simp only [List.length_nil, List.length_cons] at this ⊢
        omega
    · rw [spl_miss (Bool.eq_false_iff.mpr h)]
      have ih := spl_len (b := b) (k := 0) (acc := acc ++ [c]) (l := r)
      refine ⟨by simp only [List.length_cons]; omega, ?_⟩
      intro x hx
      have := ih.2 x hx
      simp only [List.length_append, List.length_cons, List.length_nil] at this ⊢
      omega
  | k + 1, acc, c :: r => by
    have ih := spl_len (b := b) (k := k) (acc := acc) (l := r)
    refine ⟨by show (spl b k acc r).length ≤ _; simp only [List.length_cons]; omega, ?_⟩
    intro x hx
    have := ih.2 x hx
    simp only [List.length_cons]
    omega
/-! ### ranks -/
end

/-! ## Environments as mathematics: words, their places, texts read -/
section
open TL SX
def isLow (c : Nat) : Bool := decide (97 ≤ c ∧ c ≤ 122)
def wordT (l : List Nat) : Bool := decide (1 ≤ l.length) && (decide (l.length ≤ 12) && l.all isLow)
def pw (l : List Nat) : Nat := l.foldl (fun p c => p * 26 + (c - 97) + 1) 0
def plc (s m : List Nat) (v : Nat) : Nat := (pw s * 100000000000000000 + pw m) * 100 + v
/-- an environment's text -/
def eW (s m : List Nat) (v : Nat) : List Nat := s ++ ([32] ++ (m ++ ([32] ++ numL v)))
theorem join_spl1 (s : Nat) : ∀ (l acc : List Nat), joinL [s] (spl [s] 0 acc l) = acc ++ l := by
  intro l
  induction l with
  | nil =>
    intro acc
    rw [spl_nil]
    simp [joinL]
  | cons c r ih =>
    intro acc
    have hne : ∀ (k : Nat) (a m : List Nat), spl [s] k a m ≠ [] := by
      intro k a m
      induction m generalizing k a with
      | nil => rw [spl_nil]; simp
      | cons x y ihm =>
        rw [spl_pass]
        cases hd : (x :: y).drop k with
        | nil => rw [spl_nil]; simp
        | cons u v =>
          by_cases h : pre [s] (u :: v) = true
          · rw [spl_hit h]; simp
          · rw [spl_miss (Bool.eq_false_iff.mpr h)]
            cases k with
            | zero =>
              obtain ⟨rfl, rfl⟩ := List.cons.inj hd
              exact ihm 0 _
            | succ k =>
              have e : y = y.take k ++ (u :: v) := by
                have := (List.take_append_drop k y).symm
                rw [show y.drop k = u :: v from hd] at this
                exact this
              have e2 : spl [s] (k + 1) (a ++ [u]) y = spl [s] 0 (a ++ [u]) v := by
                rw [spl_pass, show y.drop (k + 1) = v from by
                  have h0 : y.drop k = u :: v := hd
                  rw [← List.drop_drop, h0]
                  rfl]
              rw [← e2]
              exact ihm (k + 1) (a ++ [u])
    by_cases h : pre [s] (c :: r) = true
    · have hc : c = s := by
        simp only [pre, List.length_cons, List.length_nil, List.take_succ_cons, List.take_zero] at h
        simpa using h
      rw [spl_hit h]
      have e := ih []
      have hn := hne 0 [] r
      show joinL [s] (acc :: spl [s] 0 [] r) = _
      cases hs : spl [s] 0 [] r with
      | nil => exact absurd hs hn
      | cons p ps =>
        rw [hs] at e
        show acc ++ ([s] ++ joinL [s] (p :: ps)) = acc ++ c :: r
        rw [e, hc]
        rfl
    · rw [spl_miss (Bool.eq_false_iff.mpr h), ih]
      simp
/-- a text of an environment, read: the words and the level's text -/
def eT (l : List Nat) : Option (List Nat × List Nat × Nat) := match spl [32] 0 [] l with
  | [a, b, c] => match nTL 99 c with
    | some n => if wordT a = true ∧ wordT b = true then some (a, b, n) else none
    | none => none
  | _ => none
theorem dig_two : ∀ i j : Fin 10, (nTL 99 [48 + i.val] = some i.val ∧ numL i.val = [48 + i.val]) ∧ (nTL 99 [48 + i.val, 48 + j.val] = none ∨ (nTL 99 [48 + i.val, 48 + j.val] = some (10 * i.val + j.val) ∧ numL (10 * i.val + j.val) = [48 + i.val, 48 + j.val])) := by decide +kernel
theorem nTL99 {l : List Nat} {n : Nat} (h : nTL 99 l = some n) : l = numL n ∧ n ≤ 99 := by
  have h0 := h
  unfold nTL at h
  split at h
  · rename_i hc
    simp only [Bool.and_eq_true, decide_eq_true_eq] at hc
    obtain ⟨h1, h2, h3⟩ := hc
    have e : (numL 99).length = 2 := by decide +kernel
    rw [e] at h2
    have fin : n ≤ 99 := by
      split at h
      · cases h
      · split at h
        · obtain rfl := Option.some.inj h
          assumption
        · cases h
    have dg : ∀ c ∈ l, ∃ i : Fin 10, c = 48 + i.val := fun c hc => by
      have := List.all_eq_true.mp h3 c hc
      simp only [isDig, decide_eq_true_eq] at this
      exact ⟨⟨c - 48, by omega⟩, by show c = 48 + (c - 48); omega⟩
    match l, h1, h2, dg with
    | [c], _, _, dg =>
      obtain ⟨i, rfl⟩ := dg c (by simp)
      obtain ⟨⟨q1, q2⟩, _⟩ := dig_two i i
      rw [q1] at h0
      obtain rfl := Option.some.inj h0
      exact ⟨q2.symm, fin⟩
    | [c, d], _, _, dg =>
      obtain ⟨i, rfl⟩ := dg c (by simp)
      obtain ⟨j, rfl⟩ := dg d (by simp)
      rcases (dig_two i j).2 with q | ⟨q1, q2⟩
      · rw [q] at h0
        cases h0
      · rw [q1] at h0
        obtain rfl := Option.some.inj h0
        exact ⟨q2.symm, fin⟩
    | _ :: _ :: _ :: _, _, h2, _ => simp at h2
  · cases h
theorem num99 : ∀ n : Fin 100, nTL 99 (numL n.val) = some n.val := by decide +kernel
theorem nTL_num99 {n : Nat} (h : n ≤ 99) : nTL 99 (numL n) = some n := num99 ⟨n, by omega⟩
theorem word_free {l : List Nat} (h : wordT l = true) : 32 ∉ l := fun hm => by
  simp only [wordT, Bool.and_eq_true] at h
  have := List.all_eq_true.mp h.2.2 32 hm
  simp [isLow] at this
theorem spl_eW {s m : List Nat} {v : Nat} (hs : wordT s = true) (hm : wordT m = true) : spl [32] 0 [] (eW s m v) = [s, m, numL v] := by
  have h := spl_join (s := 32) (S := []) (parts := [s, m, numL v]) (by simp) (by
    intro p hp
    simp only [List.mem_cons, List.not_mem_nil, or_false] at hp
    rcases hp with rfl | rfl | rfl
    · exact word_free hs
    · exact word_free hm
    · exact numL_free (.inl (by decide)))
  exact h
theorem eT_eW {s m : List Nat} {v : Nat} (hs : wordT s = true) (hm : wordT m = true) (hv : v ≤ 99) : eT (eW s m v) = some (s, m, v) := by
  unfold eT
  rw [spl_eW hs hm]
  simp only [nTL_num99 hv]
  rw [if_pos ⟨hs, hm⟩]
theorem eT_some {l a b : List Nat} {n : Nat} (h : eT l = some (a, b, n)) : l = eW a b n ∧ wordT a = true ∧ wordT b = true ∧ n ≤ 99 := by
  unfold eT at h
  split at h
  · rename_i a' b' c hs
    split at h
    · rename_i n' hn
      split at h
      · rename_i hw
        obtain ⟨rfl, rfl, rfl⟩ : a' = a ∧ b' = b ∧ n' = n := by
          injection h with h
          injection h with h1 h2
          injection h2 with h2 h3
          exact ⟨h1, h2, h3⟩
        obtain ⟨rfl, hn99⟩ := nTL99 hn
        have e := join_spl1 32 l []
        rw [hs] at e
        exact ⟨e.symm, hw.1, hw.2, hn99⟩
      · cases h
    · cases h
  · cases h
/-- the words of the draws -/
def w8 : Nat → List Nat
  | 0 => [97]
  | 1 => [98]
  | 2 => [99]
  | 3 => [97, 97]
  | 4 => [110, 111, 116]
  | 5 => [110, 111, 114, 116, 104]
  | 6 => [122]
  | _ => [98, 98]
def lessW (l m : List Nat) : Bool := decide (l.length < m.length) || (decide (l.length = m.length) && decide (l < m))
theorem w8_facts : ∀ i j : Fin 8, wordT (w8 i.val) = true ∧ pw (w8 i.val) < 100000000000000000 ∧ (decide (pw (w8 i.val) < pw (w8 j.val)) = lessW (w8 i.val) (w8 j.val)) ∧ (pw (w8 i.val) = pw (w8 j.val) ↔ w8 i.val = w8 j.val) := by decide +kernel
theorem w8_word {i : Nat} (h : i < 8) : wordT (w8 i) = true := (w8_facts ⟨i, h⟩ ⟨i, h⟩).1
end

/-! ## Texts of given signs, asked of objects of every kind -/
section
variable {P : Program} {w : World} {K : PySem.W.Frag} {mg : Str → Option Value} {base : Heap} {D : Ad}
open TL SX
theorem tyx_keep {H H' : Hp} {x : V} {t : Value} (h : TyX K H x t) (s : Same H H') : TyX K H' x t := by
  cases h with
  | base h =>
    cases h with
    | non => exact .base .non
    | bl b => exact .base (.bl b)
    | int i => exact .base (.int i)
    | str i => exact .base (.str i)
    | flt i => exact .base (.flt i)
    | lst e => exact .base (.lst (s _ _ e))
    | frz e => exact .base (.frz (s _ _ e))
    | tup e => exact .base (.tup (s _ _ e))
    | dK e => exact .base (.dK (s _ _ e))
    | dT e => exact .base (.dT (s _ _ e))
    | ins e a b c d f => exact .base (.ins (s _ _ e) a b c d f)
  | byt b => exact .byt b
  | set e => exact .set (s _ _ e)
  | kList e c => exact .kList e c
  | kTuple e c => exact .kTuple e c
  | kDict e c => exact .kDict e c
  | fTuple e => exact .fTuple (s _ _ e)
  | fDict e => exact .fDict (s _ _ e)
theorem sqT_of {H : Hp} {b : Addr} {xs : List V} (h : H b = some (.tup xs)) : SqT K H b xs := .inl (.inl h)
theorem sqT_keep {H1 H2 : Hp} {b : Addr} {xs : List V} (e : Same H1 H2) (h : SqT K H1 b xs) : SqT K H2 b xs := by
  rcases h with (h | ⟨o, h⟩) | h
  · exact .inl (.inl (e _ _ h))
  · exact .inl (.inr ⟨o, e _ _ h⟩)
  · exact .inr h
/-- no text -/
def NoTxt (K : PySem.W.Frag) (H : Hp) (x : V) : Prop := ∃ t, TyX K H x t ∧ PySem.W.kitOne K t (.type "str") = some false
theorem NoTxt.keep {H H' : Hp} {x : V} (h : NoTxt K H x) (s : Same H H') : NoTxt K H' x := let ⟨t, a, b⟩ := h; ⟨t, tyx_keep a s, b⟩
theorem Plain.keep {H H' : Hp} {x : V} (h : Plain K H x) (s : Same H H') : Plain K H' x := let ⟨S, hS, a⟩ := h; ⟨S, hS, tyx_keep a s⟩
def spStrG (K : PySem.W.Frag) : Sp := fun vs H Q _ => ∃ (x : V) (sg : Str) (m : Int) (b : Bool), vs = [x, .str sg, .int m] ∧ m ≤ 100 ∧ ((∃ t : Str, x = .str t ∧ t.length ≤ 100000 ∧ b = goodT t sg m) ∨ (NoTxt K H x ∧ b = false)) ∧ ∀ H', Same H H' → Q (.bl b) H'
theorem ok_is_string_ofG (T : Tex K mg D) : FnOk P w K mg base CX0 2 D.a_is_string_of D.d_is_string_of P_is_string_of (spStrG K) := by
  have G_consists_of : FnOk P w K mg base CX0 1 D.a_consists_of D.d_consists_of P_consists_of spConsistsOf := ok_consists_of T
  refine T.is_string_of_F.ok S_is_string_of (fun vs H Q E h => ?_) (fun cdv A outer s H vs Q E hr h => ?_)
  · obtain ⟨x, sg, m, b, rfl, _⟩ := h
    rfl
  · obtain ⟨x, sg, m, b, rfl, hm, hx, q⟩ := h
    refine ⟨_, (pss_one (ps_ret (pe_and (pe_callB call_isi (by rfl) T.b_isinstance (by decide +kernel) (pa_cons (pv 0) (pa_cons (pe_bltn (v := .ty "str") (u := .type "str") (by rfl) T.b_str (by decide +kernel) rfl) pa_nil))) (pe_and (pe_chain op_le op_le pe_int (pe_callB call_len_str (by rfl) T.b_len (by decide +kernel) (pa_cons (pv 0) pa_nil)) (pv 2)) (pe_one (pe_call G_consists_of (hr.mono (by decide)) (by rfl) T.consists_of_g T.consists_of_F.kp T.consists_of_b .nil pass0 (pa_cons (pv 0) (pa_cons (pv 1) pa_nil)))))))), ?_⟩
    rcases hx with ⟨t, rfl, hl, rfl⟩ | ⟨⟨ty, hty, hk⟩, rfl⟩
    · refine ⟨_, rfl, .str t, .ty "str", .type "str", .type "str", true, rfl, .ty _, .base (.str t), kit_ty (by decide +kernel), true, rfl, iteT ?_⟩
      refine ⟨_, rfl, t, rfl, szL hl, _, _, rfl, rfl, _, rfl, ?_⟩
      have eg : goodT t sg m = (decide (1 ≤ (t.length : Int)) && (decide ((t.length : Int) ≤ m) && t.cps.toList.all (inS sg))) := rfl
      rw [eg] at q
      refine ite2 (fun h1 => ?_) (fun h1 => ?_)
      · refine ⟨_, rfl, _, _, rfl, rfl, _, rfl, ite2 (fun h2 => ?_) (fun h2 => ?_)⟩
        · have h2' := of_decide_eq_true h2
          refine ⟨_, rfl, _, rfl, t, sg, rfl, by omega, fun H' s' => ?_⟩
          have q2 := q H' s'
          rw [h1, h2] at q2
          exact q2
        · have q2 := q H (Same.refl H)
          rw [h1, Bool.eq_false_iff.mpr h2] at q2
          exact q2
      · refine ⟨_, rfl, iteF ?_⟩
        have q2 := q H (Same.refl H)
        rw [Bool.eq_false_iff.mpr h1] at q2
        exact q2
    · exact ⟨_, rfl, x, .ty "str", _, .type "str", false, rfl, .ty _, hty, hk, false, rfl, iteF (q H (Same.refl H))⟩
theorem inS_low (c : Nat) : inS (("abcdefghijklmnopqrstuvwxyz" : String) : Str) c = isLow c := by
  unfold inS isLow
  have e : ((("abcdefghijklmnopqrstuvwxyz" : String) : Str)).cps.toList = (List.range 26).map (· + 97) := by decide +kernel
  rw [e, Bool.eq_iff_iff, decide_eq_true_eq, decide_eq_true_eq]
  simp only [List.mem_map, List.mem_range]
  constructor
  · rintro ⟨i, hi, rfl⟩
    omega
  · intro h
    exact ⟨c - 97, by omega, by omega⟩
theorem good_word (l : List Nat) : goodT (S l) (("abcdefghijklmnopqrstuvwxyz" : String) : Str) 12 = wordT l := by
  unfold goodT wordT
  have e1 : decide (1 ≤ ((S l).length : Int)) = decide (1 ≤ l.length) := by rw [S_len]; exact decide_eq_decide.mpr (by omega)
  have e2 : decide (((S l).length : Int) ≤ 12) = decide (l.length ≤ 12) := by rw [S_len]; exact decide_eq_decide.mpr (by omega)
  have e3 : (S l).cps.toList.all (inS (("abcdefghijklmnopqrstuvwxyz" : String) : Str)) = l.all isLow := by
    show l.all _ = _
    congr 1
    funext c
    exact inS_low c
  rw [e1, e2, e3]
/-- a word, or not -/
def WordQ (K : PySem.W.Frag) (H : Hp) (x : V) (b : Bool) : Prop := (∃ l : List Nat, x = .str (S l) ∧ l.length ≤ 100000 ∧ b = wordT l) ∨ (NoTxt K H x ∧ b = false)
theorem WordQ.keep {H H' : Hp} {x : V} {b : Bool} (h : WordQ K H x b) (s : Same H H') : WordQ K H' x b := h.imp id fun ⟨a, e⟩ => ⟨a.keep s, e⟩
def spIsWord (K : PySem.W.Frag) : Sp := fun vs H Q _ => ∃ (x : V) (b : Bool), vs = [x] ∧ WordQ K H x b ∧ ∀ H', Same H H' → Q (.bl b) H'
theorem ok_is_word (T : Tex K mg D) : FnOk P w K mg base CX0 3 D.a_is_word D.d_is_word P_is_word (spIsWord K) := by
  have G_is_string_of : FnOk P w K mg base CX0 2 D.a_is_string_of D.d_is_string_of P_is_string_of (spStrG K) := ok_is_string_ofG T
  refine T.is_word_F.ok S_is_word (fun vs H Q E h => ?_) (fun cdv A outer s H vs Q E hr h => ?_)
  · obtain ⟨x, b, rfl, _⟩ := h
    rfl
  · obtain ⟨x, b, rfl, hx, q⟩ := h
    refine ⟨_, (pss_one (ps_ret (pe_call G_is_string_of (hr.mono (by decide)) (by rfl) T.is_string_of_g T.is_string_of_F.kp T.is_string_of_b .nil pass0 (pa_cons (pv 0) (pa_cons (pe_glob (v := .str "abcdefghijklmnopqrstuvwxyz") rfl T.c_LETTERS ⟨_, rfl⟩) (pa_cons pe_int pa_nil)))))), ?_⟩
    refine ⟨_, rfl, x, _, 12, b, rfl, by decide, ?_, q⟩
    rcases hx with ⟨l, rfl, hl, rfl⟩ | hx
    · exact .inl ⟨S l, rfl, by rw [S_len]; exact hl, (good_word l).symm⟩
    · exact .inr hx
end

/-! ## Environments: places, the class -/
section
variable {P : Program} {w : World} {K : PySem.W.Frag} {mg : Str → Option Value} {base : Heap} {D : Ad}
open TL SX
theorem idx_low {c : Nat} (h : isLow c = true) : ∃ rest, Builtin.Str.occurrences (("abcdefghijklmnopqrstuvwxyz" : String) : Str) ⟨#[c]⟩ 0 (("abcdefghijklmnopqrstuvwxyz" : String) : Str).length 1 = (c - 97) :: rest := by
  have all : ∀ i : Fin 26, Builtin.Str.occurrences (("abcdefghijklmnopqrstuvwxyz" : String) : Str) ⟨#[97 + i.val]⟩ 0 (("abcdefghijklmnopqrstuvwxyz" : String) : Str).length 1 = [i.val] := by decide +kernel
  simp only [isLow, decide_eq_true_eq] at h
  have e := all ⟨c - 97, by omega⟩
  have e2 : 97 + (c - 97) = c := by omega
  simp only [e2] at e
  exact ⟨[], e⟩
def spPw : Sp := fun vs H Q _ => ∃ l : List Nat, vs = [.str (S l)] ∧ l.all isLow = true ∧ Q (.int (pw l : Nat)) H
theorem ok_place_of_word (T : Tex K mg D) : FnOk P w K mg base CX0 1 D.a_place_of_word D.d_place_of_word P_place_of_word spPw := by
  refine T.place_of_word_F.ok S_place_of_word (fun vs H Q E h => ?_) (fun cdv A outer s H vs Q E hr h => ?_)
  · obtain ⟨l, rfl, _⟩ := h
    rfl
  · obtain ⟨l, rfl, hl, q⟩ := h
    refine ⟨_, (pss_cons (ps_set (i := 1) S_place_of_word.nd rfl (Or.inl rfl) pe_int)
      (pss_cons (ps_for PassesOwn.never rfl (pi_str (pv 0)) (pg_name (i := 2) S_place_of_word.nd rfl (Or.inl rfl)) (pss_one (ps_set (i := 1) S_place_of_word.nd rfl (Or.inl rfl) (pe_op op_add (pe_op op_add (pe_op op_mul (pv 1) pe_int) (pe_bm PySem.F.plainAttrs_str PySem.F.slot_str_index PySem.F.type_str_index mt_sindex (pe_glob (v := .str "abcdefghijklmnopqrstuvwxyz") rfl T.c_LETTERS ⟨_, rfl⟩) (pa_cons (pv 2) pa_nil))) pe_int))))
      (pss_one (ps_ret (pv 1))))), ?_⟩
    refine ⟨_, rfl, S l, rfl, for_it (walk_str (z := S l)) (fun i σ H' => H' = H ∧ ∃ o, σ = [some (.str (S l)), some (.int (pw (l.take i) : Nat)), o]) ⟨rfl, _, rfl⟩ (fun _ _ _ _ _ => trivial) ?_ ?_⟩
    · rintro i x σ H1 H2 hi ⟨rfl, o, rfl⟩ ⟨rfl, c, hc, rfl⟩
      have hc' : l[i]? = some c := by simpa using hc
      have hlow : isLow c = true := List.all_eq_true.mp hl c (List.mem_of_getElem? hc')
      obtain ⟨rest, hrest⟩ := idx_low hlow
      refine ⟨_, rfl, _, _, rfl, rfl, .inr ⟨by decide, by decide⟩, rfl, _, rfl, _, _, _, rest, rfl, rfl, hrest, ?_⟩
      refine ⟨_, _, rfl, rfl, _, _, rfl, rfl, rfl, some (.str ⟨#[c]⟩), ?_⟩
      rw [one_more hc']
      have e : pw (l.take i ++ [c]) = pw (l.take i) * 26 + (c - 97) + 1 := by
        unfold pw
        rw [List.foldl_append]
        rfl
      rw [e]
      have e2 : ((pw (l.take i) : Nat) : Int) * 26 + ((c - 97 : Nat) : Int) + 1 = ((pw (l.take i) * 26 + (c - 97) + 1 : Nat) : Int) := by
        rw [Int.natCast_add, Int.natCast_add, Int.natCast_mul]
        rfl
      rw [← e2]
      rfl
    · rintro σ H1 ⟨rfl, o, rfl⟩
      have e : l.take (S l).cps.size = l := by simp
      rw [e]
      exact ⟨_, rfl, q⟩
theorem word_low {l : List Nat} (h : wordT l = true) : l.all isLow = true := by
  simp only [wordT, Bool.and_eq_true] at h
  exact h.2.2
def spPl : Sp := fun vs H Q _ => ∃ (s m : List Nat) (v : Nat), vs = [.str (S s), .str (S m), .int (v : Int)] ∧ s.all isLow = true ∧ m.all isLow = true ∧ Q (.int (plc s m v : Nat)) H
theorem ok_place_of (T : Tex K mg D) : FnOk P w K mg base CX0 2 D.a_place_of D.d_place_of P_place_of spPl := by
  have G_place_of_word : FnOk P w K mg base CX0 1 D.a_place_of_word D.d_place_of_word P_place_of_word spPw := ok_place_of_word T
  refine T.place_of_F.ok S_place_of (fun vs H Q E h => ?_) (fun cdv A outer s H vs Q E hr h => ?_)
  · obtain ⟨s, m, v, rfl, _⟩ := h
    rfl
  · obtain ⟨s, m, v, rfl, h1, h2, q⟩ := h
    refine ⟨_, (pss_one (ps_ret (pe_op op_add (pe_op op_mul (pe_op op_add (pe_op op_mul (pe_call G_place_of_word (hr.mono (by decide)) (by rfl) T.place_of_word_g T.place_of_word_F.kp T.place_of_word_b .nil pass0 (pa_cons (pv 0) pa_nil)) (pe_glob (v := .int 100000000000000000) rfl T.c_WORDS ⟨_, rfl⟩)) (pe_call G_place_of_word (hr.mono (by decide)) (by rfl) T.place_of_word_g T.place_of_word_F.kp T.place_of_word_b .nil pass0 (pa_cons (pv 1) pa_nil))) pe_int) (pv 2)))), ?_⟩
    refine ⟨_, rfl, s, rfl, h1, _, _, rfl, rfl, .inr ⟨by decide, by decide⟩, _, rfl, m, rfl, h2, _, _, rfl, rfl, _, _, rfl, rfl, .inr ⟨by decide, by decide⟩, _, rfl, _, _, rfl, rfl, ?_⟩
    have e : ((plc s m v : Nat) : Int) = (((pw s : Nat) : Int) * 100000000000000000 + ((pw m : Nat) : Int)) * 100 + (v : Int) := by
      unfold plc
      omega
    show Q (.int ((((pw s : Nat) : Int) * 100000000000000000 + ((pw m : Nat) : Int)) * 100 + (v : Int))) H
    rw [← e]
    exact q
theorem ne_sm : ¬ (("_system" : Str) = "_machine") := by decide +kernel
theorem ne_sl : ¬ (("_system" : Str) = "_level") := by decide +kernel
theorem ne_sp : ¬ (("_system" : Str) = "_place") := by decide +kernel
theorem ne_ml : ¬ (("_machine" : Str) = "_level") := by decide +kernel
theorem ne_mp : ¬ (("_machine" : Str) = "_place") := by decide +kernel
theorem ne_lp : ¬ (("_level" : Str) = "_place") := by decide +kernel
def en1 (x : V) : List (Str × V) := [("_system", x)]
def en2 (x y : V) : List (Str × V) := [("_system", x), ("_machine", y)]
def en3 (x y z : V) : List (Str × V) := [("_system", x), ("_machine", y), ("_level", z)]
def en4 (x y z p : V) : List (Str × V) := [("_system", x), ("_machine", y), ("_level", z), ("_place", p)]
theorem put1 (x : V) : putF ("_system" : Str) x [] = en1 x := rfl
theorem put2 (x y : V) : putF ("_machine" : Str) y (en1 x) = en2 x y := by simp [putF, ne_sm, en1, en2]
theorem put3 (x y z : V) : putF ("_level" : Str) z (en2 x y) = en3 x y z := by simp [putF, ne_sl, ne_ml, en2, en3]
theorem put4 (x y z p : V) : putF ("_place" : Str) p (en3 x y z) = en4 x y z p := by simp [putF, ne_sp, ne_mp, ne_lp, en3, en4]
/-- an environment stands at a -/
def EnF (s m : List Nat) (v : Nat) : List (Str × V) := en4 (.str (S s)) (.str (S m)) (.int (v : Int)) (.int (plc s m v : Nat))
def Env (C : Addr) (H : Hp) (a : Addr) (s m : List Nat) (v : Nat) : Prop := ∃ dx, H a = some (.ins C dx (EnF s m v))
theorem Env.keep {C a : Addr} {H H' : Hp} {s m : List Nat} {v : Nat} (h : Env C H a s m v) (e : Same H H') : Env C H' a s m v := let ⟨dx, h⟩ := h; ⟨dx, e _ _ h⟩
theorem en_sys (s m : List Nat) (v : Nat) : (EnF s m v).lookup ("_system" : Str) = some (.str (S s)) := by simp [EnF, en4, List.lookup]
theorem en_mac (s m : List Nat) (v : Nat) : (EnF s m v).lookup ("_machine" : Str) = some (.str (S m)) := by
  simp [EnF, en4, List.lookup, show (("_machine" : Str) == "_system") = false from by decide +kernel]
theorem en_lev (s m : List Nat) (v : Nat) : (EnF s m v).lookup ("_level" : Str) = some (.int (v : Int)) := by
  simp [EnF, en4, List.lookup, show (("_level" : Str) == "_system") = false from by decide +kernel, show (("_level" : Str) == "_machine") = false from by decide +kernel]
theorem en_pla (s m : List Nat) (v : Nat) : (EnF s m v).lookup ("_place" : Str) = some (.int (plc s m v : Nat)) := by
  simp [EnF, en4, List.lookup, show (("_place" : Str) == "_system") = false from by decide +kernel, show (("_place" : Str) == "_machine") = false from by decide +kernel, show (("_place" : Str) == "_level") = false from by decide +kernel]
def spXI (C : Addr) (f : Str) : Sp := fun vs H Q _ => ∃ (a : Addr) (y : V), vs = [.ref a, y] ∧ H a = some (exo a C none) ∧ ∀ dx, H dx = none → dx ≠ a → Q .non (upd (upd H dx (exd dx [(f, y)])) a (exo a C (some dx)))
theorem ok_BadEnvironment_init (T : Tex K mg D) : FnOk P w K mg base CX0 1 D.a_BadEnvironment_init D.d_BadEnvironment_init P_BadEnvironment_init (spXI D.a_BadEnvironment "given") := by
  refine T.BadEnvironment_init_F.ok S_BadEnvironment_init (fun vs H Q E h => ?_) (fun cdv A outer s H vs Q E hr h => ?_)
  · obtain ⟨a, y, rfl, _⟩ := h
    rfl
  · obtain ⟨a, y, rfl, ha, q⟩ := h
    exact ⟨_, (pss_one (ps_ost (pv 0) (pv 1))), _, rfl, _, rfl, a, _, rfl, T.BadEnvironment_xa.o, T.BadEnvironment_xf, .inl ⟨ha, fun dx h1 h2 => q dx h1 h2⟩⟩
theorem raised_same {H : Hp} {a dx C : Addr} {fs : List (Str × V)} (ha : H a = none) (hd : (upd H a (exo a C none)) dx = none) :
    Same H (upd (del (upd (upd (upd H a (exo a C none)) dx (exd dx fs)) a (exo a C (some dx))) a) dx (.xd fs)) := by
  intro b o e
  have n1 : b ≠ a := ne_of_none e ha
  have n2 : b ≠ dx := by
    rintro rfl
    rw [upd_ne n1, e] at hd
    cases hd
  rw [upd_ne n2, del_ne n1, upd_ne n1, upd_ne n2, upd_ne n1]
  exact e
theorem made_same {H H1 : Hp} {C x dx : Addr} {fs : List (Str × V)} (hx : H x = none) (hd : H dx = none) (s : Same (upd (upd H dx (.own x)) x (.ins C dx [])) H1) : Same H (upd H1 x (.ins C dx fs)) := by
  intro b o e
  have n1 : b ≠ x := ne_of_none e hx
  have n2 : b ≠ dx := ne_of_none e hd
  rw [upd_ne n1]
  refine s b o ?_
  rw [upd_ne n1, upd_ne n2]
  exact e
/-- what is asked of the level -/
def LevQ (K : PySem.W.Frag) (H : Hp) (x : V) (b : Bool) : Prop := (∃ i : Int, x = .int i ∧ b = (decide (0 ≤ i) && decide (i ≤ 99))) ∨ (Plain K H x ∧ b = false)
theorem LevQ.keep {H H' : Hp} {x : V} {b : Bool} (h : LevQ K H x b) (s : Same H H') : LevQ K H' x b := h.imp id fun ⟨a, e⟩ => ⟨a.keep s, e⟩
def spEInit (K : PySem.W.Frag) (C B : Addr) : Sp := fun vs H Q E => ∃ (x dx : Addr) (sy ma le : V), vs = [.ref x, sy, ma, le] ∧ H x = some (.ins C dx []) ∧
  ((∃ (s m : List Nat) (v : Nat), sy = .str (S s) ∧ ma = .str (S m) ∧ le = .int (v : Int) ∧ wordT s = true ∧ wordT m = true ∧ v ≤ 99 ∧ ∀ H', Same H H' → Q .non (upd H' x (.ins C dx (EnF s m v)))) ∨
    ∃ z : V, (∀ d H', Same H H' → H' d = some (.xd [("given", z)]) → E (.ref B) (some d) H') ∧
      ((z = sy ∧ WordQ K H sy false) ∨ (z = ma ∧ WordQ K H sy true ∧ WordQ K H ma false) ∨ (z = le ∧ WordQ K H sy true ∧ WordQ K H ma true ∧ LevQ K H le false)))
theorem word_q {H : Hp} {l : List Nat} (h : wordT l = true) : WordQ K H (.str (S l)) true := .inl ⟨l, rfl, by
  simp only [wordT, Bool.and_eq_true, decide_eq_true_eq] at h
  omega, h.symm⟩
theorem ok_Environment_init (T : Tex K mg D) : FnOk P w K mg base (L2.CX P w) 5 D.a_Environment_init D.d_Environment_init P_Environment_init (spEInit K D.a_Environment D.a_BadEnvironment) := by
  have G_is_word : FnOk P w K mg base CX0 3 D.a_is_word D.d_is_word P_is_word (spIsWord K) := ok_is_word T
  have G_is_whole_to : FnOk P w K mg base CX0 3 D.a_is_whole_to D.d_is_whole_to P_is_whole_to (spWToA K) := ok_is_whole_toA T
  have G_place_of : FnOk P w K mg base CX0 2 D.a_place_of D.d_place_of P_place_of spPl := ok_place_of T
  have G_BadEnvironment_init : FnOk P w K mg base CX0 1 D.a_BadEnvironment_init D.d_BadEnvironment_init P_BadEnvironment_init (spXI D.a_BadEnvironment "given") := ok_BadEnvironment_init T
  refine T.Environment_init_F.ok S_Environment_init (fun vs H Q E h => ?_) (fun cdv A outer s H vs Q E hr h => ?_)
  · obtain ⟨x, dx, sy, ma, le, rfl, _⟩ := h
    rfl
  · obtain ⟨x, dx, sy, ma, le, rfl, hx, h⟩ := h
    refine ⟨_, (pss_cons (ps_if (pt_not (pt_val (pe_call G_is_word (hr.mono (by decide)) (by rfl) T.is_word_g T.is_word_F.kp T.is_word_b .nil pass0 (pa_cons (pv 1) pa_nil)))) (pss_one (ps_raise rfl (takes_of rfl rfl rfl rfl) (pmk_oex T.BadEnvironment_xa.o T.BadEnvironment_xi T.BadEnvironment_xt G_BadEnvironment_init (hr.mono (by decide)) T.BadEnvironment_init_b .nil pass0 rfl T.BadEnvironment_g (pa_cons (pv 1) pa_nil)))) pss_nil)
      (pss_cons (ps_if (pt_not (pt_val (pe_call G_is_word (hr.mono (by decide)) (by rfl) T.is_word_g T.is_word_F.kp T.is_word_b .nil pass0 (pa_cons (pv 2) pa_nil)))) (pss_one (ps_raise rfl (takes_of rfl rfl rfl rfl) (pmk_oex T.BadEnvironment_xa.o T.BadEnvironment_xi T.BadEnvironment_xt G_BadEnvironment_init (hr.mono (by decide)) T.BadEnvironment_init_b .nil pass0 rfl T.BadEnvironment_g (pa_cons (pv 2) pa_nil)))) pss_nil)
      (pss_cons (ps_if (pt_not (pt_val (pe_call G_is_whole_to (hr.mono (by decide)) (by rfl) T.is_whole_to_g T.is_whole_to_F.kp T.is_whole_to_b .nil pass0 (pa_cons (pv 3) (pa_cons (pe_glob (v := .int 99) rfl T.c_HIGHEST ⟨_, rfl⟩) pa_nil))))) (pss_one (ps_raise rfl (takes_of rfl rfl rfl rfl) (pmk_oex T.BadEnvironment_xa.o T.BadEnvironment_xi T.BadEnvironment_xt G_BadEnvironment_init (hr.mono (by decide)) T.BadEnvironment_init_b .nil pass0 rfl T.BadEnvironment_g (pa_cons (pv 3) pa_nil)))) pss_nil)
      (pss_cons (ps_fld (pv 0) (pv 1) rfl)
      (pss_cons (ps_fld (pv 0) (pv 2) rfl)
      (pss_cons (ps_fld (pv 0) (pv 3) rfl)
      (pss_one (ps_fld (pv 0) (pe_call G_place_of (hr.mono (by decide)) (by rfl) T.place_of_g T.place_of_F.kp T.place_of_b .nil pass0 (pa_cons (pv 1) (pa_cons (pv 2) (pa_cons (pv 3) pa_nil)))) rfl)))))))), ?_⟩
    have raise : ∀ (H1 : Hp) (z : V), Same H H1 → (∀ d H', Same H H' → H' d = some (.xd [("given", z)]) → E (.ref D.a_BadEnvironment) (some d) H') →
        (1 : Nat) ≤ 1000 ∧ ∀ a, H1 a = none → spXI D.a_BadEnvironment "given" (.ref a :: ([z] ++ [])) (upd H1 a (exo a D.a_BadEnvironment none))
          (fun v H2 => v = .non ∧ ∃ (d : Addr) (fs : List (Str × V)), H2 a = some (exo a D.a_BadEnvironment (some d)) ∧ H2 d = some (exd d fs) ∧ H1 d = none ∧ E (.ref D.a_BadEnvironment) (some d) (upd (del H2 a) d (.xd fs))) (fun _ _ _ => False) := by
      intro H1 z s1 q
      refine ⟨by decide, fun e he => ⟨e, _, rfl, upd_same, fun dx hd hne => ⟨rfl, dx, _, upd_same, by rw [upd_ne hne, upd_same], ?_, ?_⟩⟩⟩
      · rw [upd_ne hne] at hd
        exact hd
      · exact q dx _ (s1.trans (raised_same he hd)) upd_same
    rcases h with ⟨s', m, v, rfl, rfl, rfl, hs, hm, hv, q⟩ | ⟨z, q, hz⟩
    · refine ⟨_, rfl, _, true, rfl, word_q hs, fun H1 s1 => ⟨_, rfl, iteF ?_⟩⟩
      refine ⟨_, rfl, _, true, rfl, word_q hm, fun H2 s2 => ⟨_, rfl, iteF ?_⟩⟩
      refine ⟨_, rfl, _, _, true, rfl, .inl ⟨(v : Int), rfl, by
        rw [decide_eq_true (show (0 : Int) ≤ (v : Int) by omega), decide_eq_true (show (v : Int) ≤ 99 by omega)]
        rfl⟩, _, rfl, iteF ?_⟩
      have s12 := s1.trans s2
      refine ⟨_, rfl, _, rfl, x, _, dx, [], rfl, s12 _ _ hx, T.Environment_cl, T.Environment_n_system, by decide, ?_⟩
      rw [put1]
      refine ⟨_, rfl, _, rfl, x, _, dx, _, rfl, upd_same, T.Environment_cl, T.Environment_n_machine, by show 1 < 1000; decide, ?_⟩
      rw [put2]
      refine ⟨_, rfl, _, rfl, x, _, dx, _, rfl, upd_same, T.Environment_cl, T.Environment_n_level, by show 2 < 1000; decide, ?_⟩
      rw [put3]
      refine ⟨_, rfl, _, rfl, _, rfl, s', m, v, rfl, word_low hs, word_low hm, _, rfl, x, _, dx, _, rfl, upd_same, T.Environment_cl, T.Environment_n_place, by show 3 < 1000; decide, ?_⟩
      rw [put4, upd_upd, upd_upd, upd_upd]
      exact q H2 s12
    · rcases hz with ⟨rfl, h1⟩ | ⟨rfl, h1, h2⟩ | ⟨rfl, h1, h2, h3⟩
      · refine ⟨_, rfl, _, false, rfl, h1, fun H1 s1 => ⟨_, rfl, iteT ?_⟩⟩
        exact ⟨_, rfl, raise H1 _ s1 q⟩
      · refine ⟨_, rfl, _, true, rfl, h1, fun H1 s1 => ⟨_, rfl, iteF ?_⟩⟩
        refine ⟨_, rfl, _, false, rfl, h2.keep s1, fun H2 s2 => ⟨_, rfl, iteT ?_⟩⟩
        exact ⟨_, rfl, raise H2 _ (s1.trans s2) q⟩
      · refine ⟨_, rfl, _, true, rfl, h1, fun H1 s1 => ⟨_, rfl, iteF ?_⟩⟩
        refine ⟨_, rfl, _, true, rfl, h2.keep s1, fun H2 s2 => ⟨_, rfl, iteF ?_⟩⟩
        refine ⟨_, rfl, _, _, false, rfl, h3.keep (s1.trans s2), _, rfl, iteT ?_⟩
        exact ⟨_, rfl, raise H2 _ (s1.trans s2) q⟩
/-! ### what is read off an environment -/
def spESys (C : Addr) : Sp := fun vs H Q _ => ∃ (a : Addr) (s m : List Nat) (v : Nat), vs = [.ref a] ∧ Env C H a s m v ∧ Q (.str (S s)) H
theorem ok_Environment_system (T : Tex K mg D) : FnOk P w K mg base CX0 1 D.a_Environment_system D.d_Environment_system P_Environment_system (spESys D.a_Environment) := by
  refine T.Environment_system_F.ok S_Environment_system (fun vs H Q E h => ?_) (fun cdv A outer s H vs Q E hr h => ?_)
  · obtain ⟨a, s, m, v, rfl, _⟩ := h
    rfl
  · obtain ⟨a, s, m, v, rfl, ⟨dx, ha⟩, q⟩ := h
    exact ⟨_, (pss_one (ps_ret (pe_fld (pv 0) rfl))), _, rfl, a, _, dx, _, _, rfl, ha, T.Environment_cl, T.Environment_n_system, en_sys _ _ _, q⟩
def spEMac (C : Addr) : Sp := fun vs H Q _ => ∃ (a : Addr) (s m : List Nat) (v : Nat), vs = [.ref a] ∧ Env C H a s m v ∧ Q (.str (S m)) H
theorem ok_Environment_machine (T : Tex K mg D) : FnOk P w K mg base CX0 1 D.a_Environment_machine D.d_Environment_machine P_Environment_machine (spEMac D.a_Environment) := by
  refine T.Environment_machine_F.ok S_Environment_machine (fun vs H Q E h => ?_) (fun cdv A outer s H vs Q E hr h => ?_)
  · obtain ⟨a, s, m, v, rfl, _⟩ := h
    rfl
  · obtain ⟨a, s, m, v, rfl, ⟨dx, ha⟩, q⟩ := h
    exact ⟨_, (pss_one (ps_ret (pe_fld (pv 0) rfl))), _, rfl, a, _, dx, _, _, rfl, ha, T.Environment_cl, T.Environment_n_machine, en_mac _ _ _, q⟩
def spELev (C : Addr) : Sp := fun vs H Q _ => ∃ (a : Addr) (s m : List Nat) (v : Nat), vs = [.ref a] ∧ Env C H a s m v ∧ Q (.int (v : Int)) H
theorem ok_Environment_level (T : Tex K mg D) : FnOk P w K mg base CX0 1 D.a_Environment_level D.d_Environment_level P_Environment_level (spELev D.a_Environment) := by
  refine T.Environment_level_F.ok S_Environment_level (fun vs H Q E h => ?_) (fun cdv A outer s H vs Q E hr h => ?_)
  · obtain ⟨a, s, m, v, rfl, _⟩ := h
    rfl
  · obtain ⟨a, s, m, v, rfl, ⟨dx, ha⟩, q⟩ := h
    exact ⟨_, (pss_one (ps_ret (pe_fld (pv 0) rfl))), _, rfl, a, _, dx, _, _, rfl, ha, T.Environment_cl, T.Environment_n_level, en_lev _ _ _, q⟩
def spEEq (K : PySem.W.Frag) (C : Addr) : Sp := fun vs H Q _ => ∃ (a : Addr) (s m : List Nat) (v : Nat) (y : V), vs = [.ref a, y] ∧ Env C H a s m v ∧
  ((∃ b s' m' v', y = .ref b ∧ Env C H b s' m' v' ∧ Q (.bl (decide (plc s m v = plc s' m' v'))) H) ∨ ∃ t, TyX K H y t ∧ PySem.W.kitOne K t (.ref C) = some false ∧ Q (.bl false) H)
theorem int_eq (r s : Nat) : decide (V.int ((r : Nat) : Int) = V.int ((s : Nat) : Int)) = decide (r = s) := decide_eq_decide.mpr ⟨fun e => by
  injection e with e
  omega, fun e => by rw [e]⟩
theorem ok_Environment_eq (T : Tex K mg D) : FnOk P w K mg base CX0 1 D.a_Environment_eq D.d_Environment_eq P_Environment_eq (spEEq K D.a_Environment) := by
  refine T.Environment_eq_F.ok S_Environment_eq (fun vs H Q E h => ?_) (fun cdv A outer s H vs Q E hr h => ?_)
  · obtain ⟨a, s, m, v, y, rfl, _⟩ := h
    rfl
  · obtain ⟨a, s, m, v, y, rfl, ⟨dx, ha⟩, q⟩ := h
    refine ⟨_, (pss_one (ps_ret (pe_and (pe_callB call_isi (by rfl) T.b_isinstance (by decide +kernel) (pa_cons (pv 1) (pa_cons (pe_glob (v := .ref D.a_Environment) rfl T.Environment_g rfl) pa_nil))) (pe_one (pe_cmpR op_eq (pe_fld (pv 0) rfl) (pe_fld (pv 1) rfl) (nomark _)))))), ?_⟩
    rcases q with ⟨b, s', m', v', rfl, ⟨dy, hb⟩, q⟩ | ⟨t, ty, hk, q⟩
    · refine ⟨_, rfl, _, _, _, _, true, rfl, .own _, .base (.ins hb T.Environment_cl T.Environment_si.ca T.Environment_si.cn T.Environment_si.ct T.Environment_si.cm), kit_self, true, rfl, iteT ?_⟩
      refine ⟨_, rfl, a, _, dx, _, _, rfl, ha, T.Environment_cl, T.Environment_n_place, en_pla _ _ _, _, rfl, b, _, dy, _, _, rfl, hb, T.Environment_cl, T.Environment_n_place, en_pla _ _ _, rfl, ?_⟩
      rw [int_eq]
      exact q
    · exact ⟨_, rfl, _, _, _, _, false, rfl, .own _, ty, hk, false, rfl, iteF q⟩
def spELt (C : Addr) : Sp := fun vs H Q _ => ∃ (a b : Addr) (s m s' m' : List Nat) (v v' : Nat), vs = [.ref a, .ref b] ∧ Env C H a s m v ∧ Env C H b s' m' v' ∧ Q (.bl (decide (plc s m v < plc s' m' v'))) H
theorem ok_Environment_lt (T : Tex K mg D) : FnOk P w K mg base CX0 1 D.a_Environment_lt D.d_Environment_lt P_Environment_lt (spELt D.a_Environment) := by
  refine T.Environment_lt_F.ok S_Environment_lt (fun vs H Q E h => ?_) (fun cdv A outer s H vs Q E hr h => ?_)
  · obtain ⟨a, b, s, m, s', m', v, v', rfl, _⟩ := h
    rfl
  · obtain ⟨a, b, s, m, s', m', v, v', rfl, ⟨dx, ha⟩, ⟨dy, hb⟩, q⟩ := h
    refine ⟨_, (pss_cons (ps_if (pt_not (pt_val (pe_callB call_isi (by rfl) T.b_isinstance (by decide +kernel) (pa_cons (pv 1) (pa_cons (pe_glob (v := .ref D.a_Environment) rfl T.Environment_g rfl) pa_nil))))) (pss_one ps_never) pss_nil)
      (pss_one (ps_ret (pe_cmpR op_lt (pe_fld (pv 0) rfl) (pe_fld (pv 1) rfl) (nomark _))))), ?_⟩
    refine ⟨_, rfl, _, _, _, _, true, rfl, .own _, .base (.ins hb T.Environment_cl T.Environment_si.ca T.Environment_si.cn T.Environment_si.ct T.Environment_si.cm), kit_self, _, rfl, iteF ?_⟩
    refine ⟨_, rfl, a, _, dx, _, _, rfl, ha, T.Environment_cl, T.Environment_n_place, en_pla _ _ _, _, rfl, b, _, dy, _, _, rfl, hb, T.Environment_cl, T.Environment_n_place, en_pla _ _ _, _, _, rfl, rfl, ?_⟩
    have e : decide (((plc s m v : Nat) : Int) < ((plc s' m' v' : Nat) : Int)) = decide (plc s m v < plc s' m' v') := decide_eq_decide.mpr (by omega)
    show Q (.bl (decide (((plc s m v : Nat) : Int) < ((plc s' m' v' : Nat) : Int)))) H
    rw [e]
    exact q
end

/-! ## Texts of environments read -/
section
variable {P : Program} {w : World} {K : PySem.W.Frag} {mg : Str → Option Value} {base : Heap} {D : Ad}
open TL SX
theorem sp_txt : ((" " : String) : Str) = S [32] := by decide +kernel
def spEParts (K : PySem.W.Frag) : Sp := fun vs H Q _ => ∃ x : V, vs = [x] ∧
  ((∃ l : List Nat, x = .str (S l) ∧ l.length ≤ 80000 ∧ (eT l = none → ∀ H', Same H H' → Q .non H') ∧
      (∀ a b n, eT l = some (a, b, n) → ∀ p H', Same H H' → H' p = some (.tup [.str (S a), .str (S b), .int (n : Int)]) → Q (.ref p) H')) ∨
    (NoTxt K H x ∧ ∀ H', Same H H' → Q .non H'))
theorem len3 (n k : Nat) : decide (V.int (n : Int) = V.int (k : Int)) = decide (n = k) := int_eq n k
theorem eT_def {l a b c : List Nat} (h : spl [32] 0 [] l = [a, b, c]) : eT l = match nTL 99 c with
    | some n => if wordT a = true ∧ wordT b = true then some (a, b, n) else none
    | none => none := by
  unfold eT
  rw [h]
  all_goals (cases hn : nTL 99 c <;> simp only [hn])
theorem eT_len {l : List Nat} (h : (spl [32] 0 [] l).length ≠ 3) : eT l = none := by
  unfold eT
  split
  · rename_i hs
    rw [hs] at h
    exact absurd rfl h
  · rfl
theorem ok_parts_of_environment (T : Tex K mg D) : FnOk P w K mg base CX0 4 D.a_parts_of_environment D.d_parts_of_environment P_parts_of_environment (spEParts K) := by
  have G_number_in : FnOk P w K mg base CX0 3 D.a_number_in D.d_number_in P_number_in spNumL := ok_number_in T
  have G_is_word : FnOk P w K mg base CX0 3 D.a_is_word D.d_is_word P_is_word (spIsWord K) := ok_is_word T
  refine T.parts_of_environment_F.ok S_parts_of_environment (fun vs H Q E h => ?_) (fun cdv A outer s H vs Q E hr h => ?_)
  · obtain ⟨x, rfl, _⟩ := h
    rfl
  · obtain ⟨x, rfl, h⟩ := h
    refine ⟨_, (pss_cons (ps_set (i := 1) S_parts_of_environment.nd rfl (Or.inl rfl) (pe_ifExp (pt_val (pe_callB call_isi (by rfl) T.b_isinstance (by decide +kernel) (pa_cons (pv 0) (pa_cons (pe_bltn (v := .ty "str") (u := .type "str") (by rfl) T.b_str (by decide +kernel) rfl) pa_nil)))) (pe_split (pv 0) pe_str) (pe_lst pa_nil)))
      (pss_cons (ps_if (pt_cmpR op_ne (pe_callB call_len_seq (by rfl) T.b_len (by decide +kernel) (pa_cons (pv 1) pa_nil)) pe_int (nomark _)) (pss_one (ps_ret pe_non)) pss_nil)
      (pss_cons (ps_asg (pv 1) (pg_unl (by rfl) (pgs_cons (pg_name (i := 2) S_parts_of_environment.nd rfl (Or.inl rfl)) (pgs_cons (pg_name (i := 3) S_parts_of_environment.nd rfl (Or.inl rfl)) (pgs_cons (pg_name (i := 4) S_parts_of_environment.nd rfl (Or.inl rfl)) pgs_nil)))))
      (pss_cons (ps_set (i := 5) S_parts_of_environment.nd rfl (Or.inl rfl) (pe_call G_number_in (hr.mono (by decide)) (by rfl) T.number_in_g T.number_in_F.kp T.number_in_b .nil pass0 (pa_cons (pv 4) (pa_cons (pe_glob (v := .int 99) rfl T.c_HIGHEST ⟨_, rfl⟩) pa_nil))))
      (pss_cons (ps_if (PW.pt (pw_or (pt_not (pt_val (pe_call G_is_word (hr.mono (by decide)) (by rfl) T.is_word_g T.is_word_F.kp T.is_word_b .nil pass0 (pa_cons (pv 2) pa_nil)))) (pw_or (pt_not (pt_val (pe_call G_is_word (hr.mono (by decide)) (by rfl) T.is_word_g T.is_word_F.kp T.is_word_b .nil pass0 (pa_cons (pv 3) pa_nil)))) (pw_or1 (pt_cmpR op_isN (pv 5) pe_non (nomark _)))))) (pss_one (ps_ret pe_non)) pss_nil)
      (pss_one (ps_ret (pe_tup (pa_cons (pv 2) (pa_cons (pv 3) (pa_cons (pv 5) pa_nil))))))))))), ?_⟩
    rcases h with ⟨l, rfl, hl, q0, q1⟩ | ⟨⟨t, ty, hk⟩, q⟩
    · refine ⟨_, rfl, .str (S l), .ty "str", .type "str", .type "str", true, rfl, .ty _, .base (.str _), kit_ty (by decide +kernel), _, rfl, iteT ?_⟩
      have esp : Txt.split (S l) (S [32]) = (spl [32] 0 [] l).map S := split_S (by simp) (by decide)
      have hsl := spl_len (b := [32]) (k := 0) (acc := []) (l := l)
      refine ⟨_, rfl, ⟨_, rfl⟩, _, _, rfl, rfl, by rw [sp_txt]; rfl, by rw [S_len]; exact szL (by omega), fun t2 ht2 => ?_⟩
      rw [sp_txt, esp]
      have s1 : Same H (upd H t2 (.lst (((spl [32] 0 [] l).map S).map V.str))) := same_new ht2
      have e1 : (upd H t2 (.lst (((spl [32] 0 [] l).map S).map V.str))) t2 = some (.lst ((spl [32] 0 [] l).map fun x => V.str (S x))) := by
        rw [upd_same, List.map_map]
        rfl
      revert s1 e1
      generalize upd H t2 (.lst (((spl [32] 0 [] l).map S).map V.str)) = H1
      intro s1 e1
      refine ⟨_, rfl, t2, _, rfl, .inl (SqL.of e1), rfl, _, rfl, ?_⟩
      rw [List.length_map, show (V.int 3) = V.int ((3 : Nat) : Int) from rfl, int_eq]
      by_cases h3 : (spl [32] 0 [] l).length = 3
      · rw [decide_eq_true h3]
        refine iteF ?_
        obtain ⟨a, b, c, hs⟩ : ∃ a b c, spl [32] 0 [] l = [a, b, c] := by
          match hm : spl [32] 0 [] l, h3 with
          | [a, b, c], _ => exact ⟨a, b, c, rfl⟩
        have la := hsl.2 a (by rw [hs]; simp)
        have lb := hsl.2 b (by rw [hs]; simp)
        have lc := hsl.2 c (by rw [hs]; simp)
        simp only [List.length_nil] at la lb lc
        rw [hs] at e1
        have e := eT_def hs
        refine ⟨_, rfl, t2, _, rfl, SqL.of e1, rfl, _, _, rfl, _, _, rfl, _, _, rfl, rfl, ?_⟩
        refine ⟨_, rfl, c, 99, rfl, by omega, by decide, fun H2 s2 => ?_⟩
        refine ⟨_, rfl, .str (S a), wordT a, rfl, .inl ⟨a, rfl, by omega, rfl⟩, fun H3 s3 => ⟨_, rfl, ?_⟩⟩
        have s13 := (s1.trans s2).trans s3
        cases wa : wordT a with
        | false =>
          refine iteT (q0 ?_ H3 s13)
          rw [e]
          cases nTL 99 c with
          | none => rfl
          | some n => exact if_neg (by rw [wa]; simp)
        | true =>
          refine iteF ⟨_, rfl, .str (S b), wordT b, rfl, .inl ⟨b, rfl, by omega, rfl⟩, fun H4 s4 => ⟨_, rfl, ?_⟩⟩
          have s14 := s13.trans s4
          cases wb : wordT b with
          | false =>
            refine iteT (q0 ?_ H4 s14)
            rw [e]
            cases nTL 99 c with
            | none => rfl
            | some n => exact if_neg (by rw [wb]; simp)
          | true =>
            refine iteF ?_
            cases hn : nTL 99 c with
            | none =>
              refine ⟨_, rfl, rfl, _, rfl, iteT (q0 ?_ H4 s14)⟩
              rw [e, hn]
            | some n =>
              refine ⟨_, rfl, rfl, _, rfl, iteF ?_⟩
              refine ⟨_, rfl, _, rfl, _, rfl, by show 3 ≤ sizeLine; decide, fun p hp => ?_⟩
              refine q1 a b n ?_ p _ (s14.trans (same_new hp)) upd_same
              rw [e, hn]
              exact if_pos ⟨wa, wb⟩
      · rw [decide_eq_false h3]
        exact iteT (q0 (eT_len h3) H1 s1)
    · refine ⟨_, rfl, x, .ty "str", _, .type "str", false, rfl, .ty _, ty, hk, _, rfl, iteF ?_⟩
      refine ⟨by show 0 ≤ sizeLine; decide, fun p hp => ?_⟩
      refine ⟨_, rfl, p, _, rfl, .inl (SqL.of upd_same), rfl, _, rfl, iteT (q _ (same_new hp))⟩
/-- an environment read, or None -/
def spEWr (K : PySem.W.Frag) (C : Addr) : Sp := fun vs H Q _ => ∃ x : V, vs = [x] ∧
  ((∃ l : List Nat, x = .str (S l) ∧ l.length ≤ 80000 ∧ (eT l = none → ∀ H', Same H H' → Q .non H') ∧
      (∀ a b n, eT l = some (a, b, n) → ∀ p H', Same H H' → H p = none → Env C H' p a b n → Q (.ref p) H')) ∨
    (NoTxt K H x ∧ ∀ H', Same H H' → Q .non H'))
theorem ok_written_environment (T : Tex K mg D) : FnOk P w K mg base CX0 8 D.a_written_environment D.d_written_environment P_written_environment (spEWr K D.a_Environment) := by
  have G_parts_of_environment : FnOk P w K mg base CX0 4 D.a_parts_of_environment D.d_parts_of_environment P_parts_of_environment (spEParts K) := ok_parts_of_environment T
  have G_Environment_init : FnOk P w K mg base (L2.CX P w) 5 D.a_Environment_init D.d_Environment_init P_Environment_init (spEInit K D.a_Environment D.a_BadEnvironment) := ok_Environment_init T
  refine T.written_environment_F.ok S_written_environment (fun vs H Q E h => ?_) (fun cdv A outer s H vs Q E hr h => ?_)
  · obtain ⟨x, rfl, _⟩ := h
    rfl
  · obtain ⟨x, rfl, h⟩ := h
    refine ⟨_, (pss_cons (ps_set (i := 1) S_written_environment.nd rfl (Or.inl rfl) (pe_call G_parts_of_environment (hr.mono (by decide)) (by rfl) T.parts_of_environment_g T.parts_of_environment_F.kp T.parts_of_environment_b .nil pass0 (pa_cons (pv 0) pa_nil)))
      (pss_cons (ps_if (pt_cmpR op_isN (pv 1) pe_non (nomark _)) (pss_one (ps_ret pe_non)) pss_nil)
      (pss_cons (ps_asg (pv 1) (pg_tup (by rfl) (pgs_cons (pg_name (i := 2) S_written_environment.nd rfl (Or.inl rfl)) (pgs_cons (pg_name (i := 3) S_written_environment.nd rfl (Or.inl rfl)) (pgs_cons (pg_name (i := 4) S_written_environment.nd rfl (Or.inl rfl)) pgs_nil)))))
      (pss_one (ps_ret (pe_makeKS T.Environment_mk G_Environment_init (hr.mono (by decide)) rfl T.Environment_g (T.Environment_init_km_system_machine_level).choose_spec (fun σ pins H s e s' => passL pins σ H s e s') (pk_cons (pv 2) (pk_cons (pv 3) (pk_cons (pv 4) pk_nil))))))))), ?_⟩
    rcases h with ⟨l, rfl, hl, q0, q1⟩ | ⟨nt, q⟩
    · refine ⟨_, rfl, _, rfl, .inl ⟨l, rfl, hl, fun e H1 s1 => ?_, fun a b n e p H1 s1 hp => ?_⟩⟩
      · exact ⟨_, rfl, rfl, _, rfl, iteT (q0 e H1 s1)⟩
      · obtain ⟨_, wa, wb, hn⟩ := eT_some e
        refine ⟨_, rfl, rfl, _, rfl, iteF ?_⟩
        refine ⟨_, rfl, p, _, rfl, sqT_of hp, rfl, _, _, rfl, _, _, rfl, _, _, rfl, rfl, ?_⟩
        refine ⟨_, rfl, _, rfl, _, rfl, rfl, fun x dx hx hdx hne => ?_⟩
        exact ⟨x, dx, _, _, _, rfl, upd_same, .inl ⟨a, b, n, rfl, rfl, rfl, wa, wb, hn, fun H2 s2 => ⟨rfl, q1 a b n e x _ (s1.trans (made_same hx hdx s2)) (s1.free hx) ⟨dx, upd_same⟩⟩⟩⟩
    · refine ⟨_, rfl, _, rfl, .inr ⟨nt, fun H1 s1 => ?_⟩⟩
      exact ⟨_, rfl, rfl, _, rfl, iteT (q H1 s1)⟩
/-- Environment.read: an environment, or BadEnvironment with the very thing -/
def spERead (K : PySem.W.Frag) (C B : Addr) : Sp := fun vs H Q E => ∃ x : V, vs = [x] ∧
  ((∃ (l a b : List Nat) (n : Nat), x = .str (S l) ∧ l.length ≤ 80000 ∧ eT l = some (a, b, n) ∧ ∀ p H', Same H H' → H p = none → Env C H' p a b n → Q (.ref p) H') ∨
    (((∃ l : List Nat, x = .str (S l) ∧ l.length ≤ 80000 ∧ eT l = none) ∨ NoTxt K H x) ∧ ∀ d H', Same H H' → H' d = some (.xd [("given", x)]) → E (.ref B) (some d) H'))
theorem ok_Environment_read (T : Tex K mg D) : FnOk P w K mg base (L2.CX P w) 9 D.a_Environment_read D.d_Environment_read P_Environment_read (spERead K D.a_Environment D.a_BadEnvironment) := by
  have G_written_environment : FnOk P w K mg base CX0 8 D.a_written_environment D.d_written_environment P_written_environment (spEWr K D.a_Environment) := ok_written_environment T
  have G_BadEnvironment_init : FnOk P w K mg base CX0 1 D.a_BadEnvironment_init D.d_BadEnvironment_init P_BadEnvironment_init (spXI D.a_BadEnvironment "given") := ok_BadEnvironment_init T
  refine T.Environment_read_F.okX S_Environment_read (fun vs H Q E h => ?_) (fun cdv A outer s H vs Q E hr h => ?_)
  · obtain ⟨x, rfl, _⟩ := h
    rfl
  · obtain ⟨x, rfl, h⟩ := h
    refine ⟨_, (pss_cons (ps_set (i := 1) S_Environment_read.nd rfl (Or.inl rfl) (pe_call G_written_environment (hr.mono (by decide)) (by rfl) T.written_environment_g T.written_environment_F.kp T.written_environment_b .nil pass0 (pa_cons (pv 0) pa_nil)))
      (pss_cons (ps_if (pt_cmpR op_isN (pv 1) pe_non (nomark _)) (pss_one (ps_raise rfl (takes_of rfl rfl rfl rfl) (pmk_oex T.BadEnvironment_xa.o T.BadEnvironment_xi T.BadEnvironment_xt G_BadEnvironment_init (hr.mono (by decide)) T.BadEnvironment_init_b .nil pass0 rfl T.BadEnvironment_g (pa_cons (pv 0) pa_nil)))) pss_nil)
      (pss_one (ps_ret (pv 1))))), ?_⟩
    rcases h with ⟨l, a, b, n, rfl, hl, e, q⟩ | ⟨hx, q⟩
    · refine ⟨_, rfl, _, rfl, .inl ⟨l, rfl, hl, fun e' => (by rw [e] at e'; cases e'), fun a' b' n' e' p H1 s1 hp en => ?_⟩⟩
      rw [e] at e'
      obtain ⟨rfl, rfl, rfl⟩ : a = a' ∧ b = b' ∧ n = n' := by
        injection e' with e'
        injection e' with h1 h2
        injection h2 with h2 h3
        exact ⟨h1, h2, h3⟩
      exact ⟨_, rfl, rfl, _, rfl, iteF ⟨_, rfl, q p H1 s1 hp en⟩⟩
    · have raise : ∀ H1, Same H H1 → (1 : Nat) ≤ 1000 ∧ ∀ a, H1 a = none → spXI D.a_BadEnvironment "given" (.ref a :: ([x] ++ [])) (upd H1 a (exo a D.a_BadEnvironment none))
          (fun v H2 => v = .non ∧ ∃ (d : Addr) (fs : List (Str × V)), H2 a = some (exo a D.a_BadEnvironment (some d)) ∧ H2 d = some (exd d fs) ∧ H1 d = none ∧ E (.ref D.a_BadEnvironment) (some d) (upd (del H2 a) d (.xd fs))) (fun _ _ _ => False) := by
        intro H1 s1
        refine ⟨by decide, fun e he => ⟨e, _, rfl, upd_same, fun dx hd hne => ⟨rfl, dx, _, upd_same, by rw [upd_ne hne, upd_same], ?_, ?_⟩⟩⟩
        · rw [upd_ne hne] at hd
          exact hd
        · exact q dx _ (s1.trans (raised_same he hd)) upd_same
      rcases hx with ⟨l, rfl, hl, e⟩ | nt
      · refine ⟨_, rfl, _, rfl, .inl ⟨l, rfl, hl, fun _ H1 s1 => ?_, fun a' b' n' e' => (by rw [e] at e'; cases e')⟩⟩
        exact ⟨_, rfl, rfl, _, rfl, iteT ⟨_, rfl, raise H1 s1⟩⟩
      · refine ⟨_, rfl, _, rfl, .inr ⟨nt, fun H1 s1 => ?_⟩⟩
        exact ⟨_, rfl, rfl, _, rfl, iteT ⟨_, rfl, raise H1 s1⟩⟩
def spEStr (C : Addr) : Sp := fun vs H Q _ => ∃ (a : Addr) (s m : List Nat) (v : Nat), vs = [.ref a] ∧ Env C H a s m v ∧ s.length ≤ 1000 ∧ m.length ≤ 1000 ∧ v ≤ 99 ∧ Q (.str (S (eW s m v))) H
theorem ok_Environment_str (T : Tex K mg D) : FnOk P w K mg base CX0 1 D.a_Environment_str D.d_Environment_str P_Environment_str (spEStr D.a_Environment) := by
  refine T.Environment_str_F.ok S_Environment_str (fun vs H Q E h => ?_) (fun cdv A outer s H vs Q E hr h => ?_)
  · obtain ⟨a, s, m, v, rfl, _⟩ := h
    rfl
  · obtain ⟨a, s, m, v, rfl, ⟨dx, ha⟩, ls, lm, lv, q⟩ := h
    refine ⟨_, (pss_one (ps_ret (pe_joined (.cons (pe_fmt (pe_fld (pv 0) rfl)) (.cons pe_str (.cons (pe_fmt (pe_fld (pv 0) rfl)) (.cons pe_str (.cons (pe_fmt (pe_fld (pv 0) rfl)) .nil)))))))), ?_⟩
    have hn : (numL v).length ≤ 2 := numL_len (by decide) (by omega)
    have e1 : Str.empty ++ S s = S s := S_cat [] _
    refine ⟨_, rfl, a, _, dx, _, _, rfl, ha, T.Environment_cl, T.Environment_n_system, en_sys _ _ _, .inl ⟨_, rfl, by rw [S_len]; exact szl ls, _, rfl, by rw [e1, S_len]; exact szl ls, ?_⟩⟩
    refine ⟨_, rfl, by rw [e1, sp_txt, S_cat, S_len, List.length_append]; exact szL (by simp; omega), ?_⟩
    rw [e1, sp_txt, S_cat]
    refine ⟨_, rfl, a, _, dx, _, _, rfl, ha, T.Environment_cl, T.Environment_n_machine, en_mac _ _ _, .inl ⟨_, rfl, by rw [S_len]; exact szl lm, _, rfl, by rw [S_cat, S_len, List.length_append, List.length_append]; exact szL (by simp; omega), ?_⟩⟩
    rw [S_cat]
    refine ⟨_, rfl, by rw [S_cat, S_len, List.length_append, List.length_append, List.length_append]; exact szL (by simp; omega), ?_⟩
    rw [S_cat]
    refine ⟨_, rfl, a, _, dx, _, _, rfl, ha, T.Environment_cl, T.Environment_n_level, en_lev _ _ _, .inr ⟨_, rfl, log_num (by omega), ?_⟩⟩
    rw [str_num]
    refine ⟨_, rfl, by rw [S_cat, S_len, List.length_append, List.length_append, List.length_append, List.length_append]; exact szL (by simp; omega), ?_⟩
    rw [S_cat]
    have e : s ++ [32] ++ m ++ [32] ++ numL v = eW s m v := by simp [eW]
    rw [e]
    exact q
end

/-! ## k13: the law's helpers -/
section
variable {P : Program} {w : World} {K : PySem.W.Frag} {mg : Str → Option Value} {base : Heap} {D : Ad}
open TL SX
theorem w8_of {x : V} (h : x ∈ [V.str "a", .str "b", .str "c", .str "aa", .str "not", .str "north", .str "z", .str "bb"]) : ∃ i, i < 8 ∧ x = .str (S (w8 i)) := by
  simp only [List.mem_cons, List.not_mem_nil, or_false] at h
  rcases h with rfl | rfl | rfl | rfl | rfl | rfl | rfl | rfl
  · exact ⟨0, by decide, congrArg V.str (by decide +kernel)⟩
  · exact ⟨1, by decide, congrArg V.str (by decide +kernel)⟩
  · exact ⟨2, by decide, congrArg V.str (by decide +kernel)⟩
  · exact ⟨3, by decide, congrArg V.str (by decide +kernel)⟩
  · exact ⟨4, by decide, congrArg V.str (by decide +kernel)⟩
  · exact ⟨5, by decide, congrArg V.str (by decide +kernel)⟩
  · exact ⟨6, by decide, congrArg V.str (by decide +kernel)⟩
  · exact ⟨7, by decide, congrArg V.str (by decide +kernel)⟩
theorem lev_of {x : V} (h : x ∈ [V.int 0, .int 1, .int 2, .int 3, .int 4, .int 5, .int 50, .int 98, .int 99]) : ∃ v : Nat, v ≤ 99 ∧ x = .int (v : Int) := by
  simp only [List.mem_cons, List.not_mem_nil, or_false] at h
  rcases h with rfl | rfl | rfl | rfl | rfl | rfl | rfl | rfl | rfl
  · exact ⟨0, by decide, rfl⟩
  · exact ⟨1, by decide, rfl⟩
  · exact ⟨2, by decide, rfl⟩
  · exact ⟨3, by decide, rfl⟩
  · exact ⟨4, by decide, rfl⟩
  · exact ⟨5, by decide, rfl⟩
  · exact ⟨50, by decide, rfl⟩
  · exact ⟨98, by decide, rfl⟩
  · exact ⟨99, by decide, rfl⟩
/-- a spot: two words of the draws and a level -/
def Spot (H : Hp) (p : Addr) (i j v : Nat) : Prop := H p = some (.tup [.str (S (w8 i)), .str (S (w8 j)), .int (v : Int)]) ∧ i < 8 ∧ j < 8 ∧ v ≤ 99
theorem Spot.keep {H H' : Hp} {p : Addr} {i j v : Nat} (h : Spot H p i j v) (s : Same H H') : Spot H' p i j v := ⟨s _ _ h.1, h.2⟩
def spSpot : Sp := fun vs H Q _ => ∃ (d c : Addr) (n : Nat), vs = [.ref d] ∧ Dr H d c n ∧ n ≤ 10 ^ 10 ∧ ∀ (p : Addr) (i j v : Nat) H', Spot H' p i j v → H p = none → Dr H' d c (n + 3) → But d H H' → Q (.ref p) H'
theorem ok_spot (T : Tex K mg D) : FnOk P w K mg base CX0 3 D.a_spot D.d_spot P_spot spSpot := by
  have G_next : FnOk P w K mg base CX0 2 D.a_next D.d_next P_next spNext := ok_next T
  refine T.spot_F.ok S_spot (fun vs H Q E h => ?_) (fun cdv A outer s H vs Q E hr h => ?_)
  · obtain ⟨d, c, n, rfl, _⟩ := h
    rfl
  · obtain ⟨d, c, n, rfl, hd, hn, q⟩ := h
    refine ⟨_, (pss_cons (ps_set (i := 1) S_spot.nd rfl (Or.inl rfl) (pe_lst (pa_cons pe_str (pa_cons pe_str (pa_cons pe_str (pa_cons pe_str (pa_cons pe_str (pa_cons pe_str (pa_cons pe_str (pa_cons pe_str pa_nil))))))))))
      (pss_cons (ps_par (i := 2) (j := 3) (by rfl) S_spot.nd rfl rfl (by decide) rfl rfl (pa_cons (pe_ix ix_list (pv 1) (pe_call G_next (hr.mono (by decide)) (by rfl) T.next_g T.next_F.kp T.next_b .nil pass0 (pa_cons (pv 0) (pa_cons pe_int pa_nil))) (fun _ _ => rfl)) (pa_cons (pe_ix ix_list (pv 1) (pe_call G_next (hr.mono (by decide)) (by rfl) T.next_g T.next_F.kp T.next_b .nil pass0 (pa_cons (pv 0) (pa_cons pe_int pa_nil))) (fun _ _ => rfl)) pa_nil)) (by rfl))
      (pss_one (ps_ret (pe_tup (pa_cons (pv 2) (pa_cons (pv 3) (pa_cons (pe_ix ix_list (pe_lst (pa_cons pe_int (pa_cons pe_int (pa_cons pe_int (pa_cons pe_int (pa_cons pe_int (pa_cons pe_int (pa_cons pe_int (pa_cons pe_int (pa_cons pe_int pa_nil)))))))))) (pe_call G_next (hr.mono (by decide)) (by rfl) T.next_g T.next_F.kp T.next_b .nil pass0 (pa_cons (pv 0) (pa_cons pe_int pa_nil))) (fun _ _ => rfl)) pa_nil)))))))), ?_⟩
    refine ⟨by show 8 ≤ sizeLine; decide, fun l hl => ?_⟩
    have ndl := hd.ne_new hl
    have bl : But d H (upd H l (.lst [V.str "a", .str "b", .str "c", .str "aa", .str "not", .str "north", .str "z", .str "bb"])) := But.refl.new hl
    refine ⟨_, rfl, _, rfl, d, c, 8, _, rfl, hd.new hl, by omega, by decide, by decide, fun v1 H1 a1 b1 d1 u1 => ?_⟩
    have h1 := u1 l _ upd_same ndl.symm
    obtain ⟨x1, e1, m1⟩ := at_in (xs := [V.str "a", .str "b", .str "c", .str "aa", .str "not", .str "north", .str "z", .str "bb"]) a1 b1
    obtain ⟨i, hi, rfl⟩ := w8_of m1
    refine ⟨l, _, _, _, rfl, rfl, SqL.of h1, e1, ?_⟩
    refine ⟨_, rfl, _, rfl, d, c, 8, _, rfl, d1, by omega, by decide, by decide, fun v2 H2 a2 b2 d2 u2 => ?_⟩
    have h2 := u2 l _ h1 ndl.symm
    obtain ⟨x2, e2, m2⟩ := at_in (xs := [V.str "a", .str "b", .str "c", .str "aa", .str "not", .str "north", .str "z", .str "bb"]) a2 b2
    obtain ⟨j, hj, rfl⟩ := w8_of m2
    refine ⟨l, _, _, _, rfl, rfl, SqL.of h2, e2, _, _, rfl, ?_⟩
    refine ⟨_, rfl, _, rfl, by show 9 ≤ sizeLine; decide, fun l3 hl3 => ?_⟩
    have ndl3 := d2.ne_new hl3
    refine ⟨_, rfl, d, c, 9, _, rfl, d2.new hl3, by omega, by decide, by decide, fun v3 H3 a3 b3 d3 u3 => ?_⟩
    have h3 := u3 l3 _ upd_same ndl3.symm
    obtain ⟨x3, e3, m3⟩ := at_in (xs := [V.int 0, .int 1, .int 2, .int 3, .int 4, .int 5, .int 50, .int 98, .int 99]) a3 b3
    obtain ⟨v, hv, rfl⟩ := lev_of m3
    refine ⟨l3, _, _, _, rfl, rfl, SqL.of h3, e3, by show 3 ≤ sizeLine; decide, fun p hp => ?_⟩
    have bt : But d H H3 := ((bl.trans u1).trans u2).trans ((But.refl.new hl3).trans u3)
    exact q p i j v _ ⟨upd_same, hi, hj, hv⟩ (bt.free (d3.ne_new hp) hp) (d3.new hp) (bt.new hp)
theorem spot_at {a b : Str} {v : Int} : atI [V.str a, .str b, .int v] 0 = some (.str a) ∧ atI [V.str a, .str b, .int v] 1 = some (.str b) ∧ atI [V.str a, .str b, .int v] 2 = some (.int v) := ⟨rfl, rfl, rfl⟩
def spEnvOf (C : Addr) : Sp := fun vs H Q _ => ∃ (p : Addr) (i j v : Nat), vs = [.ref p] ∧ Spot H p i j v ∧ ∀ a H', Same H H' → H a = none → Env C H' a (w8 i) (w8 j) v → Q (.ref a) H'
theorem ok_environment (T : Tex K mg D) : FnOk P w K mg base CX0 8 D.a_environment D.d_environment P_environment (spEnvOf D.a_Environment) := by
  have G_Environment_init : FnOk P w K mg base (L2.CX P w) 5 D.a_Environment_init D.d_Environment_init P_Environment_init (spEInit K D.a_Environment D.a_BadEnvironment) := ok_Environment_init T
  refine T.environment_F.ok S_environment (fun vs H Q E h => ?_) (fun cdv A outer s H vs Q E hr h => ?_)
  · obtain ⟨p, i, j, v, rfl, _⟩ := h
    rfl
  · obtain ⟨p, i, j, v, rfl, ⟨hp, hi, hj, hv⟩, q⟩ := h
    refine ⟨_, (pss_one (ps_ret (pe_makeKS T.Environment_mk G_Environment_init (hr.mono (by decide)) rfl T.Environment_g (T.Environment_init_km_system_machine_level).choose_spec (fun σ pins H s e s' => passL pins σ H s e s') (pk_cons (pe_ix ix_tup (pv 0) pe_int (fun _ _ => rfl)) (pk_cons (pe_ix ix_tup (pv 0) pe_int (fun _ _ => rfl)) (pk_cons (pe_ix ix_tup (pv 0) pe_int (fun _ _ => rfl)) pk_nil)))))), ?_⟩
    refine ⟨_, rfl, p, _, _, _, rfl, rfl, sqT_of hp, rfl, _, rfl, p, _, _, _, rfl, rfl, sqT_of hp, rfl, _, rfl, p, _, _, _, rfl, rfl, sqT_of hp, rfl, rfl, fun x dx hx hdx hne => ?_⟩
    exact ⟨x, dx, _, _, _, rfl, upd_same, .inl ⟨w8 i, w8 j, v, rfl, rfl, rfl, w8_word hi, w8_word hj, hv, fun H2 s2 => ⟨rfl, q x _ (made_same hx hdx s2) hx ⟨dx, upd_same⟩⟩⟩⟩
/-! ### told -/
/-- what the law's word makes of a lambda's reading: a list of what it gave, or a tuple of the field of BadEnvironment -/
def TTold (B : Addr) : (XK → Hp → VK → Prop) → Hp → VK → Prop := fun tl H Q => ∀ (H0 : Hp) (E : XK) (Q' : VK), Same H H0 →
  (∀ dd z H', H' dd = some (.xd [("given", z)]) → (∀ p H'', Same H' H'' → H' p = none → H'' p = some (.tup [z]) → Q (.ref p) H'') → E (.ref B) (some dd) H') →
  (∀ v H', (∀ p, H' p = none → Q (.ref p) (upd H' p (.lst [v]))) → Q' v H') → tl E H0 Q'
theorem told_gives (T : Tex K mg D) {X : Cx} (hK : X.K = K) (hM : X.mg = mg) {q : Str} : Gives X N_told "_law_told" s_told D.a_told "_law_deed" q (TTold D.a_BadEnvironment) := by
  obtain ⟨_, _, K0, mg0, _, _, _, _, _, _, _, _, _, _, _, _, _⟩ := X
  obtain rfl : K0 = K := hK
  obtain rfl : mg0 = mg := hM
  intro cdg f c' s H Q tl act hc h
  refine ⟨_, (pss_cons (ps_par (i := 1) (j := 2) (by rfl) S_told.nd rfl rfl (by decide) rfl rfl (pa_cons pe_non (pa_cons (pe_lst pa_nil) pa_nil)) (by rfl))
      (pss_cons (ps_try_asT (i := 3) rfl rfl rfl S_told.nd rfl rfl (ht_one ⟨by rfl, by decide, .inl T.BadEnvironment_g⟩) takes0 (fun W pn xe tkB poB => (pss_one (ps_set (i := 2) S_told.nd rfl (Or.inl rfl) (pe_lst (pa_cons (act W pn xe _ _ tkB) pa_nil))))) (fun a oe cls d pn hz hf => (pss_one (ps_set (i := 1) S_told.nd rfl (Or.inl rfl) (pv 3)))))
      (pss_one (ps_ret (pe_ifExp (pt_cmpR op_isN (pv 1) pe_non (nomark _)) (pv 2) (pe_tup (pa_cons (pe_xfV (pv 1)) pa_nil))))))), ?_⟩
  refine ⟨by show 0 ≤ sizeLine; decide, fun p0 hp0 => ⟨_, _, rfl, ?_⟩⟩
  refine ⟨rfl, ?_, ?_⟩
  · show (upd H p0 (.lst [])) c' = _
    rw [upd_ne (ne_of_none hc hp0)]
    exact hc
  refine h _ _ _ (same_new hp0) (fun dd z H1 hd hq => ?_) (fun v H1 hq => ?_)
  · refine ⟨true, exm_sub T.BadEnvironment_nm T.BadEnvironment_BadEnvironment_s, fun _ e he => ?_, fun g => nomatch g⟩
    refine ⟨_, rfl, fun _ => ?_⟩
    have ned : dd ≠ e := ne_of_none hd he
    have hE : (upd H1 e (ExK (.ref D.a_BadEnvironment) (some dd) e)) e = some (ExK (.ref D.a_BadEnvironment) (some dd) e) := upd_same
    have hd2 : (upd H1 e (ExK (.ref D.a_BadEnvironment) (some dd) e)) dd = some (.xd [("given", z)]) := by
      rw [upd_ne ned]
      exact hd
    have s2 : Same H1 (upd H1 e (ExK (.ref D.a_BadEnvironment) (some dd) e)) := same_new he
    revert hE hd2 s2
    generalize upd H1 e (ExK (.ref D.a_BadEnvironment) (some dd) e) = H2
    intro hE hd2 s2
    refine ⟨_, rfl, rfl, _, rfl, iteF ?_⟩
    refine ⟨_, rfl, e, dd, D.a_BadEnvironment, _, z, rfl, T.BadEnvironment_xa.x, T.BadEnvironment_xf, hE, hd2, rfl, by show 1 ≤ sizeLine; decide, fun l hl => ?_⟩
    exact hq l _ (s2.trans (same_new hl)) (s2.free hl) upd_same
  · refine ⟨by show 1 ≤ sizeLine; decide, fun p hp => ?_⟩
    exact ⟨_, rfl, rfl, _, rfl, iteT ⟨_, rfl, hq p hp⟩⟩
/-! ### the law's own reading -/
theorem lt_sign (a c : Nat) : decide ([a] < [c]) = decide (a < c) := decide_eq_decide.mpr (by
  constructor
  · intro h
    rcases List.cons_lt_cons_iff.mp h with h | ⟨_, h⟩
    · exact h
    · cases h
  · intro h
    exact List.cons_lt_cons_iff.mpr (.inl h))
def spLWord : Sp := fun vs H Q _ => ∃ l : List Nat, vs = [.str (S l)] ∧ l.length ≤ 90000 ∧ ∀ H', Same H H' → Q (.bl (wordT l)) H'
theorem az_txt : (("a" : String) : Str).cps.toList = [97] ∧ (("z" : String) : Str).cps.toList = [122] := by decide +kernel
theorem empty_filter (l : List Nat) : ((l.filter fun c => !isLow c).map fun c => V.str ⟨#[c]⟩).isEmpty = l.all isLow := by
  induction l with
  | nil => rfl
  | cons c r ih =>
    cases h : isLow c with
    | true =>
      rw [List.all_cons, h, Bool.true_and, ← ih]
      simp [h]
    | false => simp [h]
theorem ok_l_is_word (T : Tex K mg D) : FnOk P w K mg base CX0 1 D.a_l_is_word D.d_l_is_word P_l_is_word spLWord := by
  refine T.l_is_word_F.ok S_l_is_word (fun vs H Q E h => ?_) (fun cdv A outer s H vs Q E hr h => ?_)
  · obtain ⟨l, rfl, _⟩ := h
    rfl
  · obtain ⟨l, rfl, hl, q⟩ := h
    refine ⟨_, (pss_cons (ps_if (PW.pt (pw_or (pt_not (pt_val (pe_callB call_isi (by rfl) T.b_isinstance (by decide +kernel) (pa_cons (pv 0) (pa_cons (pe_bltn (v := .ty "str") (u := .type "str") (by rfl) T.b_str (by decide +kernel) rfl) pa_nil))))) (pw_or1 (pt_not (pt_chain op_le op_le pe_int (pe_callB call_len_str (by rfl) T.b_len (by decide +kernel) (pa_cons (pv 0) pa_nil)) pe_int))))) (pss_one (ps_ret pe_bl)) pss_nil)
      (pss_one (ps_ret (pe_cmpR (op_eqNil hr.units) (pe_lc (own := [(("_law_sign" : Str), 1)]) (g := gName 1) rfl S_l_is_word.nd (pi_str (pv 0)) (blkOk_by (N := N_l_is_word) (sc := defScope s_l_is_word) (by decide +kernel)) (fun _ _ _ _ _ => pg_name (i := 1) S_l_is_word.nd rfl (Or.inl rfl)) (fun _ _ _ _ _ => (pts_one (pt_not (pt_chain op_le_str op_le_str pe_str (pv 1) pe_str)))) (fun _ _ _ _ _ => (pv 1))) (pe_lst pa_nil) (nomark _))))), ?_⟩
    refine ⟨_, rfl, .str (S l), .ty "str", .type "str", .type "str", true, rfl, .ty _, .base (.str _), kit_ty (by decide +kernel), _, rfl, iteF ?_⟩
    have eq : wordT l = (decide (1 ≤ l.length) && (decide (l.length ≤ 12) && l.all isLow)) := rfl
    rw [eq] at q
    refine ⟨_, rfl, S l, rfl, by rw [S_len]; exact szL (by omega), _, _, rfl, rfl, _, rfl, ?_⟩
    have i1 : decide ((1 : Int) ≤ ((S l).length : Int)) = decide (1 ≤ l.length) := by rw [S_len]; exact decide_eq_decide.mpr (by omega)
    have i2 : decide (((S l).length : Int) ≤ (12 : Int)) = decide (l.length ≤ 12) := by rw [S_len]; exact decide_eq_decide.mpr (by omega)
    rw [i1]
    by_cases h1 : 1 ≤ l.length
    · rw [decide_eq_true h1] at q ⊢
      refine iteT ⟨_, _, rfl, rfl, _, rfl, ?_⟩
      rw [i2]
      by_cases h2 : l.length ≤ 12
      · rw [decide_eq_true h2] at q ⊢
        refine iteF ?_
        refine ⟨_, rfl, S l, rfl, fun D' hD' => lc_txt (fun c => !isLow c) (fun c => .str ⟨#[c]⟩) hD' (szt (by rw [S_len]; omega)) (fun c hc H2 R S' s2 g1 g2 => ?_) (fun H2 s2 g2 => ?_)⟩
        · have a1 : (!decide ((⟨#[c]⟩ : Str).cps.toList < (("a" : String) : Str).cps.toList)) = decide (97 ≤ c) := by
            rw [az_txt.1, show (⟨#[c]⟩ : Str).cps.toList = [c] from rfl, lt_sign]
            by_cases e : 97 ≤ c
            · rw [decide_eq_true e, decide_eq_false (by omega)]
              rfl
            · rw [decide_eq_false e, decide_eq_true (by omega)]
              rfl
          have a2 : (!decide ((("z" : String) : Str).cps.toList < (⟨#[c]⟩ : Str).cps.toList)) = decide (c ≤ 122) := by
            rw [az_txt.2, show (⟨#[c]⟩ : Str).cps.toList = [c] from rfl, lt_sign]
            by_cases e : c ≤ 122
            · rw [decide_eq_true e, decide_eq_false (by omega)]
              rfl
            · rw [decide_eq_false e, decide_eq_true (by omega)]
              rfl
          have el : isLow c = (decide (97 ≤ c) && decide (c ≤ 122)) := by
            unfold isLow
            exact Bool.decide_and _ _
          rw [el] at g1 g2
          refine ⟨rfl, ⟨_, rfl, _, _, rfl, rfl, _, rfl, ?_⟩⟩
          rw [a1]
          by_cases e1 : 97 ≤ c
          · rw [decide_eq_true e1] at g1 g2 ⊢
            refine iteT ⟨_, _, rfl, rfl, _, rfl, ?_⟩
            rw [a2]
            by_cases e2 : c ≤ 122
            · rw [decide_eq_true e2] at g1 g2 ⊢
              exact iteF (g2 rfl _ (Same.refl _))
            · rw [decide_eq_false e2] at g1 g2 ⊢
              exact iteT ⟨_, rfl, g1 rfl _ (Same.refl _)⟩
          · rw [decide_eq_false e1] at g1 g2 ⊢
            exact iteF ⟨_, rfl, iteT ⟨_, rfl, g1 rfl _ (Same.refl _)⟩⟩
        · refine ⟨by show 0 ≤ sizeLine; decide, fun p hp => ?_⟩
          have g3 : (upd H2 p (.lst [])) D' = some (.lst ((l.filter fun c => !isLow c).map fun c => V.str ⟨#[c]⟩)) := by
            rw [upd_ne (ne_of_none g2 hp)]
            exact g2
          refine ⟨D', p, _, rfl, rfl, SqL.of g3, SqL.of upd_same, ?_⟩
          rw [empty_filter]
          exact q _ (s2.trans (same_new hp))
      · rw [decide_eq_false h2] at q ⊢
        exact iteT (q H (Same.refl H))
    · rw [decide_eq_false h1] at q ⊢
      exact iteF ⟨_, rfl, iteT (q H (Same.refl H))⟩
theorem in100 (c : List Nat) : inV (.str (S c)) (((List.range 100).map fun n => S (numL n)).map V.str) = (nTL 99 c).isSome := by
  unfold inV
  rw [Bool.eq_iff_iff, List.any_eq_true]
  constructor
  · rintro ⟨x, hx, e⟩
    simp only [List.mem_map, List.mem_range] at hx
    obtain ⟨_, ⟨n, hn, rfl⟩, rfl⟩ := hx
    have e1 : S (numL n) = S c := by simpa [eqV] using e
    have e2 := S_inj e1
    rw [← e2, nTL_num99 (by omega)]
    rfl
  · intro h
    obtain ⟨n, hn⟩ := Option.isSome_iff_exists.mp h
    obtain ⟨rfl, h99⟩ := nTL99 hn
    exact ⟨.str (S (numL n)), List.mem_map.mpr ⟨_, List.mem_map.mpr ⟨n, List.mem_range.mpr (by omega), rfl⟩, rfl⟩, by simp [eqV]⟩
def spIsRight : Sp := fun vs H Q _ => ∃ l : List Nat, vs = [.str (S l)] ∧ l.length ≤ 80000 ∧ ∀ H', Same H H' → Q (.bl (eT l).isSome) H'
theorem at3 {a b c : V} : atI [a, b, c] 0 = some a ∧ atI [a, b, c] 1 = some b ∧ atI [a, b, c] 2 = some c := ⟨rfl, rfl, rfl⟩
theorem ok_is_right (T : Tex K mg D) : FnOk P w K mg base CX0 2 D.a_is_right D.d_is_right P_is_right spIsRight := by
  have G_l_is_word : FnOk P w K mg base CX0 1 D.a_l_is_word D.d_l_is_word P_l_is_word spLWord := ok_l_is_word T
  refine T.is_right_F.ok S_is_right (fun vs H Q E h => ?_) (fun cdv A outer s H vs Q E hr h => ?_)
  · obtain ⟨l, rfl, _⟩ := h
    rfl
  · obtain ⟨l, rfl, hl, q⟩ := h
    refine ⟨_, (pss_cons (ps_set (i := 1) S_is_right.nd rfl (Or.inl rfl) (pe_split (pv 0) pe_str))
      (pss_cons (ps_if (PW.pt (pw_or (pt_cmpR op_ne (pe_callB call_len_seq (by rfl) T.b_len (by decide +kernel) (pa_cons (pv 1) pa_nil)) pe_int (nomark _)) (pw_or (pt_not (pt_val (pe_call G_l_is_word (hr.mono (by decide)) (by rfl) T.l_is_word_g T.l_is_word_F.kp T.l_is_word_b .nil pass0 (pa_cons (pe_ix ix_list (pv 1) pe_int (fun _ _ => rfl)) pa_nil)))) (pw_or1 (pt_not (pt_val (pe_call G_l_is_word (hr.mono (by decide)) (by rfl) T.l_is_word_g T.l_is_word_F.kp T.l_is_word_b .nil pass0 (pa_cons (pe_ix ix_list (pv 1) pe_int (fun _ _ => rfl)) pa_nil)))))))) (pss_one (ps_ret pe_bl)) pss_nil)
      (pss_one (ps_ret (pe_cmpR op_in_seq (pe_ix ix_list (pv 1) pe_int (fun _ _ => rfl)) (pe_lc (own := [(("_law_number" : Str), 2)]) (g := gName 2) (tt := tYes) rfl S_is_right.nd (pi_range1 rfl T.b_range (pa_cons pe_int pa_nil)) (blkOk_by (N := N_is_right) (sc := defScope s_is_right) (by decide +kernel)) (fun _ _ _ _ _ => pg_name (i := 2) S_is_right.nd rfl (Or.inl rfl)) (fun _ _ _ _ _ => pts_nil) (fun _ _ _ _ _ => (pe_callTy call_str_int (by rfl) T.b_str (by decide +kernel) (pa_cons (pv 2) pa_nil)))) rfl))))), ?_⟩
    have esp : Txt.split (S l) (S [32]) = (spl [32] 0 [] l).map S := split_S (by simp) (by decide)
    have hsl := spl_len (b := [32]) (k := 0) (acc := []) (l := l)
    refine ⟨_, rfl, ⟨_, rfl⟩, _, _, rfl, rfl, by rw [sp_txt]; rfl, by rw [S_len]; exact szL (by omega), fun t2 ht2 => ?_⟩
    rw [sp_txt, esp]
    have s1 : Same H (upd H t2 (.lst (((spl [32] 0 [] l).map S).map V.str))) := same_new ht2
    have e1 : (upd H t2 (.lst (((spl [32] 0 [] l).map S).map V.str))) t2 = some (.lst ((spl [32] 0 [] l).map fun x => V.str (S x))) := by
      rw [upd_same, List.map_map]
      rfl
    revert s1 e1
    generalize upd H t2 (.lst (((spl [32] 0 [] l).map S).map V.str)) = H1
    intro s1 e1
    refine ⟨_, rfl, t2, _, rfl, .inl (SqL.of e1), rfl, _, rfl, ?_⟩
    rw [List.length_map, show (V.int 3) = V.int ((3 : Nat) : Int) from rfl, int_eq]
    by_cases h3 : (spl [32] 0 [] l).length = 3
    · rw [decide_eq_true h3]
      refine iteF ?_
      obtain ⟨a, b, c, hs⟩ : ∃ a b c, spl [32] 0 [] l = [a, b, c] := by
        match hm : spl [32] 0 [] l, h3 with
        | [a, b, c], _ => exact ⟨a, b, c, rfl⟩
      have la := hsl.2 a (by rw [hs]; simp)
      have lb := hsl.2 b (by rw [hs]; simp)
      simp only [List.length_nil] at la lb
      rw [hs] at e1
      have e := eT_def hs
      have ei : (eT l).isSome = ((nTL 99 c).isSome && (wordT a && wordT b)) := by
        rw [e]
        cases nTL 99 c with
        | none => rfl
        | some n => cases wordT a <;> cases wordT b <;> rfl
      rw [ei] at q
      refine ⟨_, rfl, t2, _, _, _, rfl, rfl, SqL.of e1, at3.1, a, rfl, by omega, fun H2 s2 => ⟨_, rfl, ?_⟩⟩
      have s12 := s1.trans s2
      cases wa : wordT a with
      | false =>
        rw [wa, Bool.false_and, Bool.and_false] at q
        exact iteT (q H2 s12)
      | true =>
        rw [wa, Bool.true_and] at q
        refine iteF ⟨_, rfl, t2, _, _, _, rfl, rfl, SqL.of (s2 _ _ e1), at3.2.1, b, rfl, by omega, fun H3 s3 => ⟨_, rfl, ?_⟩⟩
        have s13 := s12.trans s3
        have e3 := s3 _ _ (s2 _ _ e1)
        cases wb : wordT b with
        | false =>
          rw [wb, Bool.and_false] at q
          exact iteT (q H3 s13)
        | true =>
          rw [wb, Bool.and_true] at q
          refine iteF ⟨_, rfl, t2, _, _, _, rfl, rfl, SqL.of e3, at3.2.2, ?_⟩
          refine ⟨100, rfl, by decide, by decide, fun D' hD' => ?_⟩
          refine lc_range (lo := 0) (n := 100) (fun i H' => Same H3 H' ∧ H' D' = some (.lst (((List.range i).map fun n => S (numL n)).map V.str))) ⟨same_new hD', upd_same⟩ ?_ ?_
          · rintro i H4 hi ⟨s4, h4⟩
            refine ⟨rfl, _, rfl, _, rfl, by rw [Int.zero_add]; exact log_num (by omega), ?_⟩
            refine ⟨_, h4, by rw [List.length_map, List.length_map, List.length_range]; exact szt (by omega), same_upd s4 hD', ?_⟩
            rw [upd_same, List.range_succ, List.map_append, List.map_append, Int.zero_add, str_num]
            rfl
          · rintro H4 ⟨s4, h4⟩
            refine ⟨D', _, rfl, .inl (SqL.of h4), rfl, ?_, ?_⟩
            · rw [List.all_eq_true]
              intro x hx
              obtain ⟨_, _, rfl⟩ := List.mem_map.mp hx
              rfl
            · rw [in100]
              exact q H4 (s13.trans s4)
    · rw [decide_eq_false h3]
      rw [eT_len h3] at q
      exact iteT (q H1 s1)
end

/-! ## k13: order -/
section
variable {P : Program} {w : World} {K : PySem.W.Frag} {mg : Str → Option Value} {base : Heap} {D : Ad}
open TL SX
def lessE (i j v i' j' v' : Nat) : Bool := if w8 i ≠ w8 i' then lessW (w8 i) (w8 i') else if w8 j ≠ w8 j' then lessW (w8 j) (w8 j') else decide (v < v')
theorem str_eq (a b : List Nat) : decide (V.str (S a) = V.str (S b)) = decide (a = b) := decide_eq_decide.mpr ⟨fun e => by
  injection e with e
  exact S_inj e, fun e => by rw [e]⟩
theorem str_lt (a b : List Nat) : decide ((S a).cps.toList < (S b).cps.toList) = decide (a < b) := rfl
theorem w8_len (i : Nat) : (w8 i).length ≤ 5 := by
  unfold w8
  split <;> simp
theorem plc_less {i j v i' j' v' : Nat} (hi : i < 8) (hj : j < 8) (hi' : i' < 8) (hj' : j' < 8) (hv : v ≤ 99) (hv' : v' ≤ 99) : decide (plc (w8 i) (w8 j) v < plc (w8 i') (w8 j') v') = lessE i j v i' j' v' := by
  obtain ⟨_, _, l1, e1⟩ := w8_facts ⟨i, hi⟩ ⟨i', hi'⟩
  obtain ⟨_, b1, l2, e2⟩ := w8_facts ⟨j, hj⟩ ⟨j', hj'⟩
  obtain ⟨_, b2, _⟩ := w8_facts ⟨j', hj'⟩ ⟨j', hj'⟩
  simp only at l1 e1 b1 l2 e2 b2
  unfold lessE plc
  rw [← l1, ← l2]
  by_cases h1 : w8 i = w8 i'
  · rw [if_neg (by simp [h1])]
    have q1 := e1.mpr h1
    by_cases h2 : w8 j = w8 j'
    · rw [if_neg (by simp [h2])]
      have q2 := e2.mpr h2
      exact decide_eq_decide.mpr (by omega)
    · rw [if_pos h2]
      have q2 : pw (w8 j) ≠ pw (w8 j') := fun z => h2 (e2.mp z)
      exact decide_eq_decide.mpr (by omega)
  · rw [if_pos h1]
    have q1 : pw (w8 i) ≠ pw (w8 i') := fun z => h1 (e1.mp z)
    exact decide_eq_decide.mpr (by omega)
theorem plc_eq {i j v i' j' v' : Nat} (hi : i < 8) (hj : j < 8) (hi' : i' < 8) (hj' : j' < 8) (hv : v ≤ 99) (hv' : v' ≤ 99) : decide (plc (w8 i) (w8 j) v = plc (w8 i') (w8 j') v') = decide (w8 i = w8 i' ∧ w8 j = w8 j' ∧ v = v') := by
  obtain ⟨_, _, l1, e1⟩ := w8_facts ⟨i, hi⟩ ⟨i', hi'⟩
  obtain ⟨_, b1, l2, e2⟩ := w8_facts ⟨j, hj⟩ ⟨j', hj'⟩
  obtain ⟨_, b2, _⟩ := w8_facts ⟨j', hj'⟩ ⟨j', hj'⟩
  simp only at l1 e1 b1 l2 e2 b2
  unfold plc
  refine decide_eq_decide.mpr ⟨fun h => ⟨e1.mp (by omega), e2.mp (by omega), by omega⟩, fun ⟨h1, h2, h3⟩ => ?_⟩
  rw [h1, h2, h3]
def spLess : Sp := fun vs H Q _ => ∃ (p q : Addr) (i j v i' j' v' : Nat), vs = [.ref p, .ref q] ∧ Spot H p i j v ∧ Spot H q i' j' v' ∧ ∀ H', Same H H' → Q (.bl (lessE i j v i' j' v')) H'
theorem ok_is_less (T : Tex K mg D) : FnOk P w K mg base CX0 1 D.a_is_less D.d_is_less P_is_less spLess := by
  refine T.is_less_F.ok S_is_less (fun vs H Q E h => ?_) (fun cdv A outer s H vs Q E hr h => ?_)
  · obtain ⟨p, q, i, j, v, i', j', v', rfl, _⟩ := h
    rfl
  · obtain ⟨p, q, i, j, v, i', j', v', rfl, hp, hq, k⟩ := h
    refine ⟨_, (pss_cons (ps_for PassesOwn.never rfl (RZ.pi_zipA (by rfl) T.b_zip (pa_cons (pe_slice sl_tupA (pv 0) po_none (po_some pe_int)) (pa_cons (pe_slice sl_tupA (pv 1) po_none (po_some pe_int)) pa_nil))) (pg_tup (by rfl) (pgs_cons (pg_name (i := 2) S_is_less.nd rfl (Or.inl rfl)) (pgs_cons (pg_name (i := 3) S_is_less.nd rfl (Or.inl rfl)) pgs_nil))) (pss_one (ps_if (pt_cmpR op_ne (pv 2) (pv 3) (nomark _)) (pss_one (ps_ret (pe_or (pe_cmpR op_lt (pe_callB call_len_str (by rfl) T.b_len (by decide +kernel) (pa_cons (pv 2) pa_nil)) (pe_callB call_len_str (by rfl) T.b_len (by decide +kernel) (pa_cons (pv 3) pa_nil)) (nomark _)) (pe_one (pe_and (pe_cmpR op_eq (pe_callB call_len_str (by rfl) T.b_len (by decide +kernel) (pa_cons (pv 2) pa_nil)) (pe_callB call_len_str (by rfl) T.b_len (by decide +kernel) (pa_cons (pv 3) pa_nil)) (nomark _)) (pe_one (pe_cmpR op_lt_str (pv 2) (pv 3) (nomark _)))))))) pss_nil)))
      (pss_one (ps_ret (pe_cmpR op_lt (pe_ix ix_tup (pv 0) pe_int (fun _ _ => rfl)) (pe_ix ix_tup (pv 1) pe_int (fun _ _ => rfl)) (nomark _))))), ?_⟩
    refine ⟨_, rfl, _, rfl, p, _, rfl, sqT_of hp.1, fun z => absurd z.2 (by show ¬ (HT.sIx 3 3 (some 2) = 3); decide), fun _ p1 hp1 => ?_⟩
    refine ⟨_, rfl, _, rfl, q, _, rfl, sqT_of (hq.keep (same_new hp1)).1, fun z => absurd z.2 (by show ¬ (HT.sIx 3 3 (some 2) = 3); decide), fun _ p2 hp2 => ?_⟩
    have c1 : cutV [V.str (S (w8 i)), .str (S (w8 j)), .int (v : Int)] none (some 2) = [.str (S (w8 i)), .str (S (w8 j))] := rfl
    have c2 : cutV [V.str (S (w8 i')), .str (S (w8 j')), .int (v' : Int)] none (some 2) = [.str (S (w8 i')), .str (S (w8 j'))] := rfl
    rw [c1, c2]
    have f1 : (upd (upd H p1 (.tup [V.str (S (w8 i)), .str (S (w8 j))])) p2 (.tup [V.str (S (w8 i')), .str (S (w8 j'))])) p1 = some (.tup [V.str (S (w8 i)), .str (S (w8 j))]) := by
      rw [c1] at hp2
      rw [upd_ne (ne_of_none upd_same hp2), upd_same]
    have f2 : (upd (upd H p1 (.tup [V.str (S (w8 i)), .str (S (w8 j))])) p2 (.tup [V.str (S (w8 i')), .str (S (w8 j'))])) p2 = some (.tup [V.str (S (w8 i')), .str (S (w8 j'))]) := upd_same
    have s0 : Same H (upd (upd H p1 (.tup [V.str (S (w8 i)), .str (S (w8 j))])) p2 (.tup [V.str (S (w8 i')), .str (S (w8 j'))])) := by
      rw [c1] at hp2
      exact (same_new hp1).trans (same_new hp2)
    revert f1 f2 s0
    generalize upd (upd H p1 (.tup [V.str (S (w8 i)), .str (S (w8 j))])) p2 (.tup [V.str (S (w8 i')), .str (S (w8 j'))]) = H1
    intro f1 f2 s0
    refine ⟨p1, p2, _, _, rfl, .inr ⟨sqT_of f1, sqT_of f2, RZ.for_zipT (K := K) (xs := [V.str (S (w8 i)), .str (S (w8 j))]) (ys := [V.str (S (w8 i')), .str (S (w8 j'))]) rfl (fun n σ H' => Same H1 H' ∧ (∃ o2 o3 : Option V, σ = [some (.ref p), some (.ref q), o2, o3]) ∧ (1 ≤ n → w8 i = w8 i') ∧ (2 ≤ n → w8 j = w8 j'))
      ⟨Same.refl _, ⟨_, _, rfl⟩, by omega, by omega⟩ (fun n σ H' h => ⟨sqT_of (h.1 _ _ f1), sqT_of (h.1 _ _ f2)⟩) ?_ ?_⟩⟩
    · rintro n x y T' σ H2 hx hy ⟨s2, ⟨o2, o3, rfl⟩, g1, g2⟩ hT
      have s3 := s2.trans (same_new (o := .tup [x, y]) hT)
      match n, hx, hy, g1, g2 with
      | 0, hx, hy, g1, g2 =>
        obtain rfl : V.str (S (w8 i)) = x := Option.some.inj hx
        obtain rfl : V.str (S (w8 i')) = y := Option.some.inj hy
        refine ⟨T', _, rfl, sqT_of upd_same, rfl, _, _, rfl, _, _, rfl, rfl, ?_⟩
        refine ⟨_, rfl, _, rfl, rfl, _, rfl, ?_⟩
        rw [str_eq]
        by_cases hab : w8 i = w8 i'
        · rw [decide_eq_true hab]
          exact iteF ⟨s3, ⟨_, _, rfl⟩, fun _ => hab, by omega⟩
        · rw [decide_eq_false hab]
          have hle : lessE i j v i' j' v' = lessW (w8 i) (w8 i') := by
            unfold lessE
            rw [if_pos hab]
          have k2 := k _ (s0.trans s3)
          rw [hle] at k2
          have lA := w8_len i
          have lB := w8_len i'
          refine iteT ⟨_, rfl, S (w8 i), rfl, by rw [S_len]; exact szl (by omega), _, rfl, S (w8 i'), rfl, by rw [S_len]; exact szl (by omega), _, _, rfl, rfl, _, rfl, ?_⟩
          have d1 : decide (((S (w8 i)).length : Int) < ((S (w8 i')).length : Int)) = decide ((w8 i).length < (w8 i').length) := by rw [S_len, S_len]; exact decide_eq_decide.mpr (by omega)
          have d2 : decide (V.int ((S (w8 i)).length : Int) = V.int ((S (w8 i')).length : Int)) = decide ((w8 i).length = (w8 i').length) := by rw [S_len, S_len]; exact int_eq _ _
          rw [d1]
          unfold lessW at k2
          cases hc : decide ((w8 i).length < (w8 i').length) with
          | true =>
            rw [hc] at k2
            exact iteT k2
          | false =>
            rw [hc] at k2
            refine iteF ⟨_, rfl, S (w8 i), rfl, by rw [S_len]; exact szl (by omega), _, rfl, S (w8 i'), rfl, by rw [S_len]; exact szl (by omega), rfl, _, rfl, ?_⟩
            rw [d2]
            cases hd : decide ((w8 i).length = (w8 i').length) with
            | false =>
              rw [hd] at k2
              exact iteF k2
            | true =>
              rw [hd] at k2
              exact iteT ⟨_, rfl, _, rfl, _, _, rfl, rfl, k2⟩
      | 1, hx, hy, g1, g2 =>
        obtain rfl : V.str (S (w8 j)) = x := Option.some.inj hx
        obtain rfl : V.str (S (w8 j')) = y := Option.some.inj hy
        refine ⟨T', _, rfl, sqT_of upd_same, rfl, _, _, rfl, _, _, rfl, rfl, ?_⟩
        refine ⟨_, rfl, _, rfl, rfl, _, rfl, ?_⟩
        rw [str_eq]
        by_cases hab : w8 j = w8 j'
        · rw [decide_eq_true hab]
          exact iteF ⟨s3, ⟨_, _, rfl⟩, fun _ => g1 (Nat.le_refl _), fun _ => hab⟩
        · rw [decide_eq_false hab]
          have hle : lessE i j v i' j' v' = lessW (w8 j) (w8 j') := by
            unfold lessE
            rw [if_neg (by simp [g1 (Nat.le_refl _)]), if_pos hab]
          have k2 := k _ (s0.trans s3)
          rw [hle] at k2
          have lA := w8_len j
          have lB := w8_len j'
          refine iteT ⟨_, rfl, S (w8 j), rfl, by rw [S_len]; exact szl (by omega), _, rfl, S (w8 j'), rfl, by rw [S_len]; exact szl (by omega), _, _, rfl, rfl, _, rfl, ?_⟩
          have d1 : decide (((S (w8 j)).length : Int) < ((S (w8 j')).length : Int)) = decide ((w8 j).length < (w8 j').length) := by rw [S_len, S_len]; exact decide_eq_decide.mpr (by omega)
          have d2 : decide (V.int ((S (w8 j)).length : Int) = V.int ((S (w8 j')).length : Int)) = decide ((w8 j).length = (w8 j').length) := by rw [S_len, S_len]; exact int_eq _ _
          rw [d1]
          unfold lessW at k2
          cases hc : decide ((w8 j).length < (w8 j').length) with
          | true =>
            rw [hc] at k2
            exact iteT k2
          | false =>
            rw [hc] at k2
            refine iteF ⟨_, rfl, S (w8 j), rfl, by rw [S_len]; exact szl (by omega), _, rfl, S (w8 j'), rfl, by rw [S_len]; exact szl (by omega), rfl, _, rfl, ?_⟩
            rw [d2]
            cases hd : decide ((w8 j).length = (w8 j').length) with
            | false =>
              rw [hd] at k2
              exact iteF k2
            | true =>
              rw [hd] at k2
              exact iteT ⟨_, rfl, _, rfl, _, _, rfl, rfl, k2⟩
      | n + 2, hx, _, _, _ => simp at hx
    · rintro σ H2 ⟨s2, ⟨o2, o3, rfl⟩, g1, g2⟩
      have e : lessE i j v i' j' v' = decide (v < v') := by
        unfold lessE
        rw [if_neg (by simp [g1 (show 1 ≤ 2 by decide)]), if_neg (by simp [g2 (show 2 ≤ 2 by decide)])]
      rw [e] at k
      refine ⟨_, rfl, p, _, _, _, rfl, rfl, sqT_of ((s0.trans s2) _ _ hp.1), at3.2.2, _, rfl, q, _, _, _, rfl, rfl, sqT_of ((s0.trans s2) _ _ hq.1), at3.2.2, _, _, rfl, rfl, ?_⟩
      have e2 : decide (((v : Nat) : Int) < ((v' : Nat) : Int)) = decide (v < v') := decide_eq_decide.mpr (by omega)
      show Q (.bl (decide (((v : Nat) : Int) < ((v' : Nat) : Int)))) H2
      rw [e2]
      exact k _ (s0.trans s2)
end

/-! ## What stays where lambdas are made: all but the draw and the tables -/
section
open LamX
def ButN (d : Addr) (H H' : Hp) : Prop := ∀ b o, H b = some o → b ≠ d → (∀ ps, o ≠ .tbl ps) → H' b = some o
theorem ButN.refl {d : Addr} {H : Hp} : ButN d H H := fun _ _ e _ _ => e
theorem ButN.trans {d : Addr} {H H1 H2 : Hp} (x : ButN d H H1) (y : ButN d H1 H2) : ButN d H H2 := fun b o e n t => y b o (x b o e n t) n t
theorem But.toN {d : Addr} {H H' : Hp} (x : But d H H') : ButN d H H' := fun b o e n _ => x b o e n
theorem ButN.of_same {d : Addr} {H H' : Hp} (x : Same H H') : ButN d H H' := fun b o e _ _ => x b o e
theorem ButN.of_ext {d : Addr} {H H' : Hp} (x : ExtN H H') : ButN d H H' := fun b o e _ t => x b o e t
theorem Dr.ext {H H' : Hp} {d c : Addr} {n : Nat} (h : Dr H d c n) (e : ExtN H H') : Dr H' d c n := by
  obtain ⟨cs, a, l, u, h1, h2, r⟩ := h
  exact ⟨cs, a, l, u, e _ _ h1 (fun _ z => nomatch z), e _ _ h2 (fun _ z => nomatch z), r⟩
theorem Tabs.same {T : List (Addr × Str)} {H H' : Hp} (t : Tabs T H) (e : Same H H') : Tabs T H' := t.ext e
theorem Tabs.but {T : List (Addr × Str)} {H H' : Hp} {d c : Addr} {n : Nat} (t : Tabs T H) (hd : Dr H d c n) (e : But d H H') : Tabs T H' := by
  intro p hp
  obtain ⟨ps, h1, h2, h3⟩ := t p hp
  obtain ⟨o, ho⟩ := hd.dict
  refine ⟨ps, e _ _ h1 (ne_of h1 ho (by intro z; cases z)), h2, fun pos cv hc => ?_⟩
  obtain ⟨c0, e1, e2⟩ := h3 pos cv hc
  exact ⟨c0, e1, e _ _ e2 (ne_of e2 ho (by unfold CodeO; intro z; cases z))⟩
theorem tup_n {xs : List V} : ∀ ps, HO.tup xs ≠ .tbl ps := fun _ z => nomatch z
theorem lst_n {xs : List V} : ∀ ps, HO.lst xs ≠ .tbl ps := fun _ z => nomatch z
theorem ins_n {C dx : Addr} {fs : List (Str × V)} : ∀ ps, HO.ins C dx fs ≠ .tbl ps := fun _ z => nomatch z
end

/-! ## k13: texts read -/
section
variable {P : Program} {w : World} {K : PySem.W.Frag} {mg : Str → Option Value} {base : Heap} {D : Ad}
open TL SX LamX
theorem Spot.butN {H H' : Hp} {p d c : Addr} {i j v n : Nat} (h : Spot H p i j v) (hd : Dr H d c n) (e : ButN d H H') : Spot H' p i j v := by
  obtain ⟨o, ho⟩ := hd.dict
  exact ⟨e _ _ h.1 (ne_of h.1 ho (by intro z; cases z)) tup_n, h.2⟩
theorem Env.butN {C a d c : Addr} {H H' : Hp} {s m : List Nat} {v n : Nat} (h : Env C H a s m v) (hd : Dr H d c n) (e : ButN d H H') : Env C H' a s m v := by
  obtain ⟨o, ho⟩ := hd.dict
  obtain ⟨dx, h⟩ := h
  exact ⟨dx, e _ _ h (ne_of h ho (by intro z; cases z)) ins_n⟩
def Asc (l : List Nat) : Prop := ∀ c ∈ l, c < 128
theorem asc_ok {l : List Nat} (h : Asc l) : PyData.strOk (S l) = true := by
  unfold PyData.strOk
  rw [List.all_toArray, List.all_eq_true]
  intro c hc
  have := h c hc
  exact decide_eq_true (by omega)
theorem w8_asc (i : Nat) : Asc (w8 i) := by
  unfold w8
  split <;> (intro c hc; simp only [List.mem_cons, List.not_mem_nil, or_false] at hc; omega)
theorem eW_asc {i j v : Nat} : Asc (eW (w8 i) (w8 j) v) := by
  intro c hc
  unfold eW at hc
  simp only [List.mem_append, List.mem_cons, List.not_mem_nil, or_false] at hc
  rcases hc with h | h | h | h | h
  · exact w8_asc i c h
  · omega
  · exact w8_asc j c h
  · omega
  · have := numL_digits v c h
    omega
theorem new_of {x : V} (h : x ∈ [V.str "", .str " ", .str "0", .str "9", .str "a", .str "Z", .str "-", .str "\n", .str "  ", .str "5 "]) : ∃ l : List Nat, l.length ≤ 2 ∧ Asc l ∧ x = .str (S l) := by
  simp only [List.mem_cons, List.not_mem_nil, or_false] at h
  rcases h with rfl | rfl | rfl | rfl | rfl | rfl | rfl | rfl | rfl | rfl
  · exact ⟨[], by decide, (by unfold Asc; decide), congrArg V.str (by decide +kernel)⟩
  · exact ⟨[32], by decide, (by unfold Asc; decide), congrArg V.str (by decide +kernel)⟩
  · exact ⟨[48], by decide, (by unfold Asc; decide), congrArg V.str (by decide +kernel)⟩
  · exact ⟨[57], by decide, (by unfold Asc; decide), congrArg V.str (by decide +kernel)⟩
  · exact ⟨[97], by decide, (by unfold Asc; decide), congrArg V.str (by decide +kernel)⟩
  · exact ⟨[90], by decide, (by unfold Asc; decide), congrArg V.str (by decide +kernel)⟩
  · exact ⟨[45], by decide, (by unfold Asc; decide), congrArg V.str (by decide +kernel)⟩
  · exact ⟨[10], by decide, (by unfold Asc; decide), congrArg V.str (by decide +kernel)⟩
  · exact ⟨[32, 32], by decide, (by unfold Asc; decide), congrArg V.str (by decide +kernel)⟩
  · exact ⟨[53, 32], by decide, (by unfold Asc; decide), congrArg V.str (by decide +kernel)⟩
theorem eW_len {i j v : Nat} (hv : v ≤ 99) : (eW (w8 i) (w8 j) v).length ≤ 14 := by
  have h1 := w8_len i
  have h2 := w8_len j
  have h3 : (numL v).length ≤ 2 := numL_len (by decide) (by omega)
  unfold eW
  simp only [List.length_append, List.length_cons, List.length_nil]
  omega
theorem one_list {x : Str} (h : PyData.strOk x = true) : PyData.eqv (.list [.str x]) (.list [.str x]) = true ∧ SeqAt.shaped (.list [.str x]) = true := ⟨SeqAt.eqv_refl _ (by simp [PyData.canLay0, PyData.canLayAll0, h]), by simp [SeqAt.shaped, PyData.canLay0, PyData.canLayAll0, PyData.depth, PyData.depthAll, h]⟩
theorem one_tup {x : Str} (h : PyData.strOk x = true) : PyData.eqv (.tuple [.str x]) (.tuple [.str x]) = true ∧ SeqAt.shaped (.tuple [.str x]) = true := ⟨SeqAt.eqv_refl _ (by simp [PyData.canLay0, PyData.canLayAll0, h]), by simp [SeqAt.shaped, PyData.canLay0, PyData.canLayAll0, PyData.depth, PyData.depthAll, h]⟩
theorem word_len {l : List Nat} (h : wordT l = true) : l.length ≤ 12 := by
  simp only [wordT, Bool.and_eq_true, decide_eq_true_eq] at h
  exact h.2.1
def spReadR (D : Ad) : Sp := fun vs H Q _ => ∃ (d c p : Addr) (n i j v : Nat), vs = [.ref d, .ref p] ∧ Dr H d c n ∧ n ≤ 10 ^ 9 ∧ Spot H p i j v ∧ Tabs D.tabs H ∧
  ∀ H', Dr H' d c (n + 12) → ButN d H H' → Tabs D.tabs H' → Q (.bl true) H'
theorem ok_read_right (T : Tex K mg D) (TB_read_right : TabB base mg D.c_read_right D.P_read_right) : FnOk P w K mg base CX0 14 D.a_read_right D.d_read_right P_read_right (spReadR D) := by
  have G_next : FnOk P w K mg base CX0 2 D.a_next D.d_next P_next spNext := ok_next T
  have G_Environment_str : FnOk P w K mg base CX0 1 D.a_Environment_str D.d_Environment_str P_Environment_str (spEStr D.a_Environment) := ok_Environment_str T
  have G_Environment_eq : FnOk P w K mg base CX0 1 D.a_Environment_eq D.d_Environment_eq P_Environment_eq (spEEq K D.a_Environment) := ok_Environment_eq T
  have G_Environment_read : FnOk P w K mg base (L2.CX P w) 9 D.a_Environment_read D.d_Environment_read P_Environment_read (spERead K D.a_Environment D.a_BadEnvironment) := ok_Environment_read T
  have G_is_right : FnOk P w K mg base CX0 2 D.a_is_right D.d_is_right P_is_right spIsRight := ok_is_right T
  have G_environment : FnOk P w K mg base CX0 8 D.a_environment D.d_environment P_environment (spEnvOf D.a_Environment) := ok_environment T
  refine T.read_right_F.okC S_read_right (fun vs H Q E h => ?_) (fun A outer s H vs Q E hr h => ?_)
  · obtain ⟨d, c, p, n, i, j, v, rfl, _⟩ := h
    rfl
  · obtain ⟨d, c, p, n, i, j, v, rfl, hd, hn, hp, ht, q⟩ := h
    refine ⟨_, (pss_cons (ps_set (i := 2) S_read_right.nd rfl (Or.inl rfl) (pe_op op_add_str (pe_op op_add_str (pe_op op_add_str (pe_op op_add_str (pe_ix ix_tup (pv 1) pe_int (fun _ _ => rfl)) pe_str) (pe_ix ix_tup (pv 1) pe_int (fun _ _ => rfl))) pe_str) (pe_callTy call_str_int (by rfl) T.b_str (by decide +kernel) (pa_cons (pe_ix ix_tup (pv 1) pe_int (fun _ _ => rfl)) pa_nil))))
      (pss_cons (ps_for PassesOwn.never rfl (pi_range1 rfl T.b_range (pa_cons pe_int pa_nil)) (pg_name (i := 3) S_read_right.nd rfl (Or.inl rfl)) (pss_cons (ps_par (i := 4) (j := 5) (by rfl) S_read_right.nd rfl rfl (by decide) rfl rfl (pa_cons (pe_call G_next (hr.mono (by decide)) (by rfl) T.next_g T.next_F.kp T.next_b .nil pass0 (pa_cons (pv 0) (pa_cons (pe_op op_add (pe_callB call_len_str (by rfl) T.b_len (by decide +kernel) (pa_cons (pv 2) pa_nil)) pe_int) pa_nil))) (pa_cons (pe_call G_next (hr.mono (by decide)) (by rfl) T.next_g T.next_F.kp T.next_b .nil pass0 (pa_cons (pv 0) (pa_cons pe_int pa_nil))) pa_nil)) (by rfl))
      (pss_cons (ps_set (i := 6) S_read_right.nd rfl (Or.inl rfl) (pe_ix ix_list (pe_lst (pa_cons pe_str (pa_cons pe_str (pa_cons pe_str (pa_cons pe_str (pa_cons pe_str (pa_cons pe_str (pa_cons pe_str (pa_cons pe_str (pa_cons pe_str (pa_cons pe_str pa_nil))))))))))) (pe_call G_next (hr.mono (by decide)) (by rfl) T.next_g T.next_F.kp T.next_b .nil pass0 (pa_cons (pv 0) (pa_cons pe_int pa_nil))) (fun _ _ => rfl)))
      (pss_cons (ps_set (i := 7) S_read_right.nd rfl (Or.inr rfl) (pe_op op_add_str (pe_op op_add_str (pe_slice sl_str (pv 2) po_none (po_some (pv 4))) (pv 6)) (pe_slice sl_str (pv 2) (po_some (pe_op op_add (pv 4) (pe_op op_mod (pv 5) pe_int))) po_none)))
      (pss_cons (ps_set (i := 8) S_read_right.nd rfl (Or.inl rfl) (pe_lam (T := D.tabs) (k := 11) T.told_F T.told_b S_told (.inl rfl) rfl rfl T.told_g (told_gives T rfl rfl) TB_read_right rfl (by unfold Ad.tabs; exact List.mem_cons_self) T.read_right_hu (hr.mono (by decide)) (LamX.lamS_by (sc := defScope s_read_right) (by decide +kernel)) rfl (fun _ _ _ _ _ => by rfl) (fun A outer s H E f c' hr => (pe_callTy (call_strD T.Environment_str_at T.Environment_str_fn (G_Environment_str.raw T.Environment_str_b .nil) (hr.mono (by decide)) pass0) (by rfl) T.b_str (by decide +kernel) (pa_cons (pe_smethS (pe_glob (v := .ref D.a_Environment) rfl T.Environment_g rfl) T.Environment_rd T.Environment_read_s G_Environment_read T.Environment_read_F.kp T.Environment_read_b (hr.mono (by decide)) (fun σ pins H s e s' => passLam pins σ H s e s') (pa_cons (pv 7) pa_nil)) pa_nil)))))
      (pss_one (ps_if (pt_cmpR (op_neD hr.units) (pv 8) (pe_ifExp (pt_val (pe_call G_is_right (hr.mono (by decide)) (by rfl) T.is_right_g T.is_right_F.kp T.is_right_b .nil pass0 (pa_cons (pv 7) pa_nil))) (pe_lst (pa_cons (pv 7) pa_nil)) (pe_tup (pa_cons (pv 7) pa_nil))) (nomark _)) (pss_one (ps_ret pe_bl)) pss_nil)))))))
      (pss_one (ps_ret (pe_and (pe_cmpR op_eq (pe_callTy (call_strD T.Environment_str_at T.Environment_str_fn (G_Environment_str.raw T.Environment_str_b .nil) (hr.mono (by decide)) pass0) (by rfl) T.b_str (by decide +kernel) (pa_cons (pe_smethK (pe_glob (v := .ref D.a_Environment) rfl T.Environment_g rfl) T.Environment_rd T.Environment_read_s G_Environment_read T.Environment_read_F.kp T.Environment_read_kb rfl (hr.mono (by decide)) (fun σ pins H s e s' => passL pins σ H s e s') (pk_cons (pv 2) pk_nil)) pa_nil)) (pv 2) (nomark _)) (pe_one (pe_cmpR (op_ownD (fun _ _ => rfl) T.Environment_eq_at T.Environment_eq_fn T.Environment_nf (G_Environment_eq.raw T.Environment_eq_b .nil) (hr.mono (by decide)) pass0) (pe_smethS (pe_glob (v := .ref D.a_Environment) rfl T.Environment_g rfl) T.Environment_rd T.Environment_read_s G_Environment_read T.Environment_read_F.kp T.Environment_read_b (hr.mono (by decide)) (fun σ pins H s e s' => passL pins σ H s e s') (pa_cons (pv 2) pa_nil)) (pe_call G_environment (hr.mono (by decide)) (by rfl) T.environment_g T.environment_F.kp T.environment_b .nil pass0 (pa_cons (pv 1) pa_nil)) (nomark _)))))))), ?_⟩
    have ha := at3 (a := V.str (S (w8 i))) (b := .str (S (w8 j))) (c := .int (v : Int))
    have l1 := w8_len i
    have l2 := w8_len j
    have hv := hp.2.2.2
    have l3 : (numL v).length ≤ 2 := numL_len (by decide) (by omega)
    have he : S (w8 i) ++ S [32] ++ S (w8 j) ++ S [32] ++ S (numL v) = S (eW (w8 i) (w8 j) v) := by
      rw [S_cat, S_cat, S_cat, S_cat]
      simp [eW]
    refine ⟨_, rfl, p, _, _, _, rfl, rfl, sqT_of hp.1, ha.1, _, _, rfl, rfl, by rw [sp_txt]; simp only [len_app, S_len, List.length_cons, List.length_nil]; exact szl (by omega), ?_⟩
    rw [sp_txt]
    refine ⟨_, rfl, p, _, _, _, rfl, rfl, sqT_of hp.1, ha.2.1, _, _, rfl, rfl, by simp only [len_app, S_len, List.length_cons, List.length_nil]; exact szl (by omega), ?_⟩
    refine ⟨_, _, rfl, rfl, by simp only [len_app, S_len, List.length_cons, List.length_nil]; exact szl (by omega), ?_⟩
    refine ⟨_, rfl, p, _, _, _, rfl, rfl, sqT_of hp.1, ha.2.2, _, rfl, log_num (by omega), ?_⟩
    rw [str_num]
    refine ⟨_, _, rfl, rfl, by simp only [len_app, S_len, List.length_cons, List.length_nil]; exact szl (by omega), ?_⟩
    rw [he]
    generalize hl : eW (w8 i) (w8 j) v = l
    have hll : l.length ≤ 14 := by rw [← hl]; exact eW_len hv
    have hal : Asc l := by rw [← hl]; exact eW_asc
    have hok : eT l = some (w8 i, w8 j, v) := by rw [← hl]; exact eT_eW (w8_word hp.2.1) (w8_word hp.2.2.1) hv
    refine ⟨4, rfl, by decide, by decide, ?_⟩
    refine for_range (lo := 0) (n := 4) (fun k σ H' => ∃ o3 o4 o5 o6 o7 o8 : Option V, σ = [some (.ref d), some (.ref p), some (.str (S l)), o3, o4, o5, o6, o7, o8] ∧ Dr H' d c (n + 3 * k) ∧ ButN d H H' ∧ Tabs D.tabs H') ⟨_, _, _, _, _, _, rfl, hd, ButN.refl, ht⟩ ?_ ?_
    · rintro k σ H1 hk ⟨o3, o4, o5, o6, o7, o8, rfl, d1, b1, t1⟩
      refine ⟨_, rfl, _, rfl, S l, rfl, by rw [S_len]; exact szl (by omega), _, _, rfl, rfl, d, c, _, _, rfl, d1, by omega, by rw [S_len]; omega, by rw [S_len]; omega, fun v2 H2 a2 c2 d2 u2 => ?_⟩
      refine ⟨_, rfl, d, c, 3, _, rfl, d2, by omega, by decide, by decide, fun v3 H3 a3 c3 d3 u3 => ?_⟩
      refine ⟨_, _, rfl, ?_⟩
      refine ⟨by show 10 ≤ sizeLine; decide, fun l4 hl4 => ?_⟩
      have ndl := d3.ne_new hl4
      refine ⟨_, rfl, d, c, 10, _, rfl, d3.new hl4, by omega, by decide, by decide, fun v4 H4 a4 c4 d4 u4 => ?_⟩
      have h4 := u4 l4 _ upd_same ndl.symm
      obtain ⟨x, e4, m4⟩ := at_in (xs := [V.str "", .str " ", .str "0", .str "9", .str "a", .str "Z", .str "-", .str "\n", .str "  ", .str "5 "]) a4 c4
      obtain ⟨nl, hnl, anl, rfl⟩ := new_of m4
      refine ⟨l4, _, _, _, rfl, rfl, SqL.of h4, e4, ?_⟩
      have t4 : Tabs D.tabs H4 := Tabs.but (Tabs.same (Tabs.but (Tabs.but t1 d1 u2) d2 u3) (same_new hl4)) (d3.new hl4) u4
      have b4 : ButN d H H4 := ((b1.trans u2.toN).trans u3.toN).trans ((But.refl.new hl4).toN.trans u4.toN)
      have d4' := d4
      clear u2 u3 u4 h4 hl4 ndl d1 d2 d3 b1 t1
      -- the bent text
      obtain ⟨m2, rfl⟩ := Int.eq_ofNat_of_zero_le a2
      have hbent : cutS (S l) none (some (m2 : Int)) ++ S nl ++ cutS (S l) (some ((m2 : Int) + v3 % 2)) none = S (l.take m2 ++ nl ++ l.drop (m2 + (v3 % 2).toNat)) := by
        rw [C8.cutS_slice, C8.cutS_slice, slice_to (by omega), slice_from (by omega), S_cat, S_cat, Int.toNat_natCast]
        have e : ((m2 : Int) + v3 % 2).toNat = m2 + (v3 % 2).toNat := by omega
        rw [e]
      have hbl : (l.take m2 ++ nl ++ l.drop (m2 + (v3 % 2).toNat)).length ≤ 40 := by
        simp only [List.length_append, List.length_take, List.length_drop]
        omega
      have hba : PyData.strOk (S (l.take m2 ++ nl ++ l.drop (m2 + (v3 % 2).toNat))) = true := asc_ok fun c hc => by
        simp only [List.mem_append] at hc
        rcases hc with (h | h) | h
        · exact hal c (List.mem_of_mem_take h)
        · exact anl c h
        · exact hal c (List.mem_of_mem_drop h)
      have hb1 : cutS (S l) none (some (m2 : Int)) ++ S nl = S (l.take m2 ++ nl) := by rw [C8.cutS_slice, slice_to (by omega), S_cat, Int.toNat_natCast]
      refine ⟨_, rfl, _, rfl, _, rfl, S l, rfl, by rw [S_len]; exact szl (by omega), _, rfl, _, _, rfl, rfl, by rw [C8.cutS_slice, slice_to (by omega), S_len, S_len, List.length_take]; exact szl (by omega), ?_⟩
      refine ⟨_, rfl, _, rfl, _, rfl, _, _, rfl, rfl, (posI rfl), _, _, rfl, rfl, _, rfl, S l, rfl, by rw [S_len]; exact szl (by omega), _, _, rfl, rfl, by rw [hb1, C8.cutS_slice, slice_from (by omega), S_len, S_len, List.length_append, List.length_take, List.length_drop]; exact szl (by omega), ?_⟩
      rw [hbent]
      generalize l.take m2 ++ nl ++ l.drop (m2 + (v3 % 2).toNat) = bt at hbl hba
      refine ⟨t4, fun H5 e5 t5 => ?_⟩
      have b5 := b4.trans (ButN.of_ext e5)
      have d5 := d4.ext e5
      intro H6 E6 Q6 s6 hE hQ
      refine ⟨rfl, _, rfl, .str (S bt), rfl, ?_⟩
      cases hs : eT bt with
      | some abn =>
        obtain ⟨a, b, m⟩ := abn
        obtain ⟨ebt, wa, wb, hm⟩ := eT_some hs
        refine .inl ⟨bt, a, b, m, rfl, by omega, hs, fun p7 H7 s7 hp7 en => ?_⟩
        obtain ⟨dx, en'⟩ := id en
        refine ⟨p7, dx, _, rfl, en', p7, a, b, m, rfl, en, by have := word_len wa; omega, by have := word_len wb; omega, hm, _, rfl, hQ _ H7 fun p8 hp8 => ?_⟩
        rw [← ebt]
        have s8 : Same H6 (upd H7 p8 (.lst [.str (S bt)])) := s7.trans (same_new hp8)
        have f8 : (upd H7 p8 (.lst [.str (S bt)])) p8 = some (.lst [.str (S bt)]) := upd_same
        revert s8 f8
        generalize upd H7 p8 (.lst [.str (S bt)]) = H8
        intro s8 f8
        refine ⟨_, rfl, _, rfl, bt, rfl, by omega, fun H9 s9 => ⟨_, rfl, ?_⟩⟩
        rw [hs]
        refine iteT ⟨_, rfl, by show 1 ≤ sizeLine; decide, fun l9 hl9 => ⟨.list [.str (S bt)], .list [.str (S bt)], ?_, ?_, (one_list hba).2, (one_list hba).2, _, rfl, ?_⟩⟩
        · exact .lst (SqL.of (same_new hl9 _ _ (s9 _ _ f8))) (.cons (.str _) .nil)
        · exact .lst (SqL.of upd_same) (.cons (.str _) .nil)
        · rw [(one_list hba).1]
          have sz := (s6.trans s8).trans (s9.trans (same_new (o := .lst [.str (S bt)]) hl9))
          exact iteF ⟨_, _, _, _, _, _, rfl, (d5.keep sz).mono (by omega), b5.trans (ButN.of_same sz), Tabs.same t5 sz⟩
      | none =>
        refine .inr ⟨.inl ⟨bt, rfl, by omega, hs⟩, fun dd H7 s7 hdd => hE dd _ H7 hdd fun p8 H8 s8 _ hp8 => ?_⟩
        refine ⟨_, rfl, _, rfl, bt, rfl, by omega, fun H9 s9 => ⟨_, rfl, ?_⟩⟩
        rw [hs]
        refine iteF ⟨_, rfl, by show 1 ≤ sizeLine; decide, fun l9 hl9 => ⟨.tuple [.str (S bt)], .tuple [.str (S bt)], ?_, ?_, (one_tup hba).2, (one_tup hba).2, _, rfl, ?_⟩⟩
        · exact .tup (sqT_of (same_new hl9 _ _ (s9 _ _ hp8))) (.cons (.str _) .nil)
        · exact .tup (sqT_of upd_same) (.cons (.str _) .nil)
        · rw [(one_tup hba).1]
          have sz := (s6.trans (s7.trans s8)).trans (s9.trans (same_new (o := .tup [.str (S bt)]) hl9))
          exact iteF ⟨_, _, _, _, _, _, rfl, (d5.keep sz).mono (by omega), b5.trans (ButN.of_same sz), Tabs.same t5 sz⟩
    · rintro σ H1 ⟨o3, o4, o5, o6, o7, o8, rfl, d1, b1, t1⟩
      have hp1 := hp.butN hd b1
      refine ⟨rfl, _, rfl, rfl, .str (S l), rfl, .inl ⟨l, _, _, _, rfl, by omega, hok, fun p7 H7 s7 hp7 en => ?_⟩⟩
      obtain ⟨dx, en'⟩ := id en
      refine ⟨p7, dx, _, rfl, en', p7, _, _, _, rfl, en, by omega, by omega, hv, _, rfl, _, rfl, rfl, ?_⟩
      rw [hl, decide_eq_true rfl]
      refine ⟨_, rfl, iteT ?_⟩
      refine ⟨rfl, _, rfl, .str (S l), rfl, .inl ⟨l, _, _, _, rfl, by omega, hok, fun p8 H8 s8 hp8 en8 => ?_⟩⟩
      refine ⟨_, rfl, p, i, j, v, rfl, (hp1.keep s7).keep s8, fun p9 H9 s9 hp9 en9 => ?_⟩
      obtain ⟨dy, en8'⟩ := en8.keep s9
      obtain ⟨dz, en9'⟩ := id en9
      refine ⟨p8, dy, _, p9, dz, _, rfl, rfl, en8', en9', p8, _, _, _, _, rfl, ⟨dy, en8'⟩, .inl ⟨p9, _, _, _, rfl, en9, ?_⟩⟩
      rw [decide_eq_true rfl]
      have sz := (s7.trans s8).trans s9
      exact q H9 ((d1.keep sz).mono (by omega)) (b1.trans (ButN.of_same sz)) (Tabs.same t1 sz)
end

/-! ## k13: what is refused -/
section
variable {P : Program} {w : World} {K : PySem.W.Frag} {mg : Str → Option Value} {base : Heap} {D : Ad}
open TL SX LamX
/-- no word -/
inductive BadO (d : Addr) (H : Hp) : V → Prop
  | txt (l : List Nat) : wordT l = false → l.length ≤ 13 → BadO d H (.str (S l))
  | non : BadO d H .non
  | int (i : Int) : BadO d H (.int i)
  | tup (a : Addr) (xs : List V) : a ≠ d → H a = some (.tup xs) → BadO d H (.ref a)
  | lst (a : Addr) (xs : List V) : a ≠ d → H a = some (.lst xs) → BadO d H (.ref a)
  | dct (a : Addr) : a ≠ d → H a = some (.dK []) → BadO d H (.ref a)
theorem BadO.butN {d : Addr} {H H' : Hp} {x : V} (h : BadO d H x) (e : ButN d H H') : BadO d H' x := by
  cases h with
  | txt l a b => exact .txt l a b
  | non => exact .non
  | int i => exact .int i
  | tup a xs n h => exact .tup a xs n (e _ _ h n tup_n)
  | lst a xs n h => exact .lst a xs n (e _ _ h n lst_n)
  | dct a n h => exact .dct a n (e _ _ h n fun _ z => nomatch z)
theorem BadO.q {d : Addr} {H : Hp} {x : V} (h : BadO d H x) : WordQ K H x false := by
  cases h with
  | txt l a b => exact .inl ⟨l, rfl, by omega, a.symm⟩
  | non => exact .inr ⟨⟨_, .base .non, kit_ty (by decide +kernel)⟩, rfl⟩
  | int i => exact .inr ⟨⟨_, .base (.int i), kit_ty (by decide +kernel)⟩, rfl⟩
  | tup a xs n h => exact .inr ⟨⟨_, .base (.tup h), kit_ty (by decide +kernel)⟩, rfl⟩
  | lst a xs n h => exact .inr ⟨⟨_, .base (.lst h), kit_ty (by decide +kernel)⟩, rfl⟩
  | dct a n h => exact .inr ⟨⟨_, .base (.dK h), kit_ty (by decide +kernel)⟩, rfl⟩
theorem BadO.one {d : Addr} {H : Hp} {x : V} (h : BadO d H x) : flatB x = true ∨ ∃ a, x = .ref a := by
  cases h with
  | txt l a b => exact .inl rfl
  | non => exact .inl rfl
  | int i => exact .inl rfl
  | tup a xs n h => exact .inr ⟨a, rfl⟩
  | lst a xs n h => exact .inr ⟨a, rfl⟩
  | dct a n h => exact .inr ⟨a, rfl⟩
/-- no level; is it a truth? -/
inductive BadL (d : Addr) (H : Hp) : V → Bool → Prop
  | int (i : Int) : (i < 0 ∨ 99 < i) → BadL d H (.int i) false
  | non : BadL d H .non false
  | bl : BadL d H (.bl true) true
  | txt (x : Str) : BadL d H (.str x) false
  | tup (a : Addr) (xs : List V) : a ≠ d → H a = some (.tup xs) → BadL d H (.ref a) false
theorem BadL.butN {d : Addr} {H H' : Hp} {x : V} {b : Bool} (h : BadL d H x b) (e : ButN d H H') : BadL d H' x b := by
  cases h with
  | int i g => exact .int i g
  | non => exact .non
  | bl => exact .bl
  | txt l => exact .txt l
  | tup a xs n h => exact .tup a xs n (e _ _ h n tup_n)
theorem BadL.q {d : Addr} {H : Hp} {x : V} {b : Bool} (h : BadL d H x b) : LevQ K H x false := by
  cases h with
  | int i g =>
    refine .inl ⟨i, rfl, ?_⟩
    rcases g with g | g
    · rw [decide_eq_false (show ¬ (0 ≤ i) by omega)]
      rfl
    · rw [decide_eq_false (show ¬ (i ≤ 99) by omega), Bool.and_false]
  | non => exact .inr ⟨⟨"NoneType", by simp, .base .non⟩, rfl⟩
  | bl => exact .inr ⟨⟨"bool", by simp, .base (.bl _)⟩, rfl⟩
  | txt x => exact .inr ⟨⟨"str", by simp, .base (.str _)⟩, rfl⟩
  | tup a xs n h => exact .inr ⟨⟨"tuple", by simp, .base (.tup h)⟩, rfl⟩
theorem BadL.ty {d : Addr} {H : Hp} {x : V} {b : Bool} (h : BadL d H x b) : ∃ t, TyX K H x t ∧ PySem.W.kitOne K t (.type "bool") = some b := by
  cases h with
  | int i g => exact ⟨_, .base (.int i), kit_ty (by decide +kernel)⟩
  | non => exact ⟨_, .base .non, kit_ty (by decide +kernel)⟩
  | bl => exact ⟨_, .base (.bl _), kit_ty (by decide +kernel)⟩
  | txt x => exact ⟨_, .base (.str _), kit_ty (by decide +kernel)⟩
  | tup a xs n h => exact ⟨_, .base (.tup h), kit_ty (by decide +kernel)⟩
theorem BadL.one {d : Addr} {H : Hp} {x : V} {b : Bool} (h : BadL d H x b) : flatB x = true ∨ ∃ a, x = .ref a := by
  cases h with
  | int i g => exact .inl rfl
  | non => exact .inl rfl
  | bl => exact .inl rfl
  | txt x => exact .inl rfl
  | tup a xs n h => exact .inr ⟨a, rfl⟩
theorem two_new {H : Hp} {x dx : Addr} {o u : HO} (hx : H x = none) (hd : H dx = none) : Same H (upd (upd H dx o) x u) := fun b e h => by
  rw [upd_ne (ne_of_none h hx), upd_ne (ne_of_none h hd)]
  exact h
/-- the things that are read in a row -/
inductive RowT (H : Hp) : V → PyData → Prop
  | non : RowT H .non .none
  | int (i : Int) : RowT H (.int i) (.int i)
  | bl (b : Bool) : RowT H (.bl b) (.bool b)
  | tup (a : Addr) (x : Str) : H a = some (.tup [.str x]) → PyData.strOk x = true → RowT H (.ref a) (.tuple [.str x])
  | lst (a : Addr) (x : Str) : H a = some (.lst [.str x]) → PyData.strOk x = true → RowT H (.ref a) (.list [.str x])
theorem RowT.keep {H H' : Hp} {x : V} {e : PyData} (h : RowT H x e) (s : Same H H') : RowT H' x e := by
  cases h with
  | non => exact .non
  | int i => exact .int i
  | bl b => exact .bl b
  | tup a x h g => exact .tup a x (s _ _ h) g
  | lst a x h g => exact .lst a x (s _ _ h) g
theorem RowT.butN {H H' : Hp} {d c : Addr} {n : Nat} {x : V} {e : PyData} (h : RowT H x e) (hd : Dr H d c n) (s : ButN d H H') : RowT H' x e := by
  obtain ⟨o, ho⟩ := hd.dict
  cases h with
  | non => exact .non
  | int i => exact .int i
  | bl b => exact .bl b
  | tup a x h g => exact .tup a x (s _ _ h (ne_of h ho (by intro z; cases z)) tup_n) g
  | lst a x h g => exact .lst a x (s _ _ h (ne_of h ho (by intro z; cases z)) lst_n) g
theorem RowT.dp {H : Hp} {x : V} {e : PyData} (h : RowT H x e) : Dp K H x e := by
  cases h with
  | non => exact .non
  | int i => exact .int i
  | bl b => exact .bl b
  | tup a x h g => exact .tup (sqT_of h) (.cons (.str _) .nil)
  | lst a x h g => exact .lst (SqL.of h) (.cons (.str _) .nil)
theorem RowT.no {H : Hp} {x : V} {e : PyData} (h : RowT H x e) : NoTxt K H x := by
  cases h with
  | non => exact ⟨_, .base .non, kit_ty (by decide +kernel)⟩
  | int i => exact ⟨_, .base (.int i), kit_ty (by decide +kernel)⟩
  | bl b => exact ⟨_, .base (.bl b), kit_ty (by decide +kernel)⟩
  | tup a x h g => exact ⟨_, .base (.tup h), kit_ty (by decide +kernel)⟩
  | lst a x h g => exact ⟨_, .base (.lst h), kit_ty (by decide +kernel)⟩
theorem RowT.ok {H : Hp} {x : V} {e : PyData} (h : RowT H x e) : PyData.eqv (.tuple [e]) (.tuple [e]) = true ∧ SeqAt.shaped (.tuple [e]) = true := by
  cases h with
  | non => exact ⟨SeqAt.eqv_refl _ (by simp [PyData.canLay0, PyData.canLayAll0]), by simp [SeqAt.shaped, PyData.canLay0, PyData.canLayAll0, PyData.depth, PyData.depthAll]⟩
  | int i => exact ⟨SeqAt.eqv_refl _ (by simp [PyData.canLay0, PyData.canLayAll0]), by simp [SeqAt.shaped, PyData.canLay0, PyData.canLayAll0, PyData.depth, PyData.depthAll]⟩
  | bl b => exact ⟨SeqAt.eqv_refl _ (by simp [PyData.canLay0, PyData.canLayAll0]), by simp [SeqAt.shaped, PyData.canLay0, PyData.canLayAll0, PyData.depth, PyData.depthAll]⟩
  | tup a x h g => exact ⟨SeqAt.eqv_refl _ (by simp [PyData.canLay0, PyData.canLayAll0, g]), by simp [SeqAt.shaped, PyData.canLay0, PyData.canLayAll0, PyData.depth, PyData.depthAll, g]⟩
  | lst a x h g => exact ⟨SeqAt.eqv_refl _ (by simp [PyData.canLay0, PyData.canLayAll0, g]), by simp [SeqAt.shaped, PyData.canLay0, PyData.canLayAll0, PyData.depth, PyData.depthAll, g]⟩
/-- what is known while a row is refused -/
def Frm (T : List (Addr × Str)) (d c : Addr) (n : Nat) (H0 : Hp) (one far last : V) (b : Bool) (H : Hp) : Prop := Dr H d c n ∧ ButN d H0 H ∧ Tabs T H ∧ BadO d H one ∧ BadO d H far ∧ BadL d H last b
theorem Frm.keep {T : List (Addr × Str)} {d c : Addr} {n : Nat} {H0 H H' : Hp} {one far last : V} {b : Bool} (h : Frm T d c n H0 one far last b H) (s : Same H H') : Frm T d c n H0 one far last b H' :=
  let ⟨h1, h2, h3, h4, h5, h6⟩ := h
  ⟨h1.keep s, h2.trans (ButN.of_same s), Tabs.same h3 s, h4.butN (ButN.of_same s), h5.butN (ButN.of_same s), h6.butN (ButN.of_same s)⟩
theorem Frm.ext {T : List (Addr × Str)} {d c : Addr} {n : Nat} {H0 H H' : Hp} {one far last : V} {b : Bool} (h : Frm T d c n H0 one far last b H) (s : ExtN H H') (t : Tabs T H') : Frm T d c n H0 one far last b H' :=
  let ⟨h1, h2, _, h4, h5, h6⟩ := h
  ⟨h1.ext s, h2.trans (ButN.of_ext s), t, h4.butN (ButN.of_ext s), h5.butN (ButN.of_ext s), h6.butN (ButN.of_ext s)⟩
/-- a place that nothing of it stands at -/
def Off (d c : Addr) (H0 : Hp) (one far last : V) (l : Addr) : Prop := d ≠ l ∧ c ≠ l ∧ (∀ b o, H0 b = some o → b ≠ d → (∀ ps, o ≠ .tbl ps) → b ≠ l) ∧ ∀ a, (one = .ref a ∨ far = .ref a ∨ last = .ref a) → a ≠ l
theorem BadO.off {d : Addr} {H : Hp} {a l : Addr} (h : BadO d H (.ref a)) (hl : H l = none) : a ≠ l := by
  cases h with
  | tup _ _ _ h => exact ne_of_none h hl
  | lst _ _ _ h => exact ne_of_none h hl
  | dct _ _ h => exact ne_of_none h hl
theorem BadL.off {d : Addr} {H : Hp} {a l : Addr} {b : Bool} (h : BadL d H (.ref a) b) (hl : H l = none) : a ≠ l := by
  cases h with
  | tup _ _ _ h => exact ne_of_none h hl
theorem Frm.clear {T : List (Addr × Str)} {d c : Addr} {n : Nat} {H0 H : Hp} {one far last : V} {b : Bool} {l : Addr} (h : Frm T d c n H0 one far last b H) (hl : H l = none) : Off d c H0 one far last l := by
  obtain ⟨h1, h2, _, h4, h5, h6⟩ := h
  refine ⟨h1.ne_new hl, h1.nc_new hl, fun b o e n t => ne_of_none (h2 b o e n t) hl, fun a ha => ?_⟩
  rcases ha with rfl | rfl | rfl
  · exact h4.off hl
  · exact h5.off hl
  · exact h6.off hl
theorem BadO.at {d : Addr} {H : Hp} {x : V} {l : Addr} {o : HO} (h : BadO d H x) (hl : ∀ a, x = .ref a → a ≠ l) : BadO d (upd H l o) x := by
  cases h with
  | txt l a b => exact .txt l a b
  | non => exact .non
  | int i => exact .int i
  | tup a xs n h => exact .tup a xs n (by rw [upd_ne (hl a rfl)]; exact h)
  | lst a xs n h => exact .lst a xs n (by rw [upd_ne (hl a rfl)]; exact h)
  | dct a n h => exact .dct a n (by rw [upd_ne (hl a rfl)]; exact h)
theorem BadL.at {d : Addr} {H : Hp} {x : V} {b : Bool} {l : Addr} {o : HO} (h : BadL d H x b) (hl : ∀ a, x = .ref a → a ≠ l) : BadL d (upd H l o) x b := by
  cases h with
  | int i g => exact .int i g
  | non => exact .non
  | bl => exact .bl
  | txt x => exact .txt x
  | tup a xs n h => exact .tup a xs n (by rw [upd_ne (hl a rfl)]; exact h)
theorem Tabs.off {T : List (Addr × Str)} {H : Hp} {l : Addr} {xs : List V} {o : HO} (t : Tabs T H) (hl : H l = some (.lst xs)) : Tabs T (upd H l o) := by
  intro p hp
  obtain ⟨ps, h1, h2, h3⟩ := t p hp
  refine ⟨ps, by rw [upd_ne (ne_of h1 hl (by intro z; cases z))]; exact h1, h2, fun pos cv hc => ?_⟩
  obtain ⟨c0, e1, e2⟩ := h3 pos cv hc
  exact ⟨c0, e1, by rw [upd_ne (ne_of e2 hl (by unfold CodeO; intro z; cases z))]; exact e2⟩
theorem Frm.put {T : List (Addr × Str)} {d c : Addr} {n : Nat} {H0 H : Hp} {one far last : V} {b : Bool} {l : Addr} {xs ys : List V} (h : Frm T d c n H0 one far last b H) (k : Off d c H0 one far last l) (hl : H l = some (.lst xs)) :
    Frm T d c n H0 one far last b (upd H l (.lst ys)) := by
  obtain ⟨h1, h2, h3, h4, h5, h6⟩ := h
  obtain ⟨k1, k2, k3, k4⟩ := k
  refine ⟨h1.off k1 k2, fun b o e n t => ?_, Tabs.off h3 hl, h4.at fun a e => k4 a (.inl e), h5.at fun a e => k4 a (.inr (.inl e)), h6.at fun a e => k4 a (.inr (.inr e))⟩
  rw [upd_ne (k3 b o e n t)]
  exact h2 b o e n t
def spRefR (D : Ad) : Sp := fun vs H Q _ => ∃ (d c : Addr) (n : Nat), vs = [.ref d] ∧ Dr H d c n ∧ n ≤ 10 ^ 9 ∧ Tabs D.tabs H ∧
  ∀ H', Dr H' d c (n + 3) → ButN d H H' → Tabs D.tabs H' → Q (.bl true) H'
theorem aa0_ok : PyData.strOk (("a a 0" : String) : Str) = true := by decide +kernel
theorem ok_refused_right (T : Tex K mg D) (TB_refused_right : TabB base mg D.c_refused_right D.P_refused_right) : FnOk P w K mg base CX0 14 D.a_refused_right D.d_refused_right P_refused_right (spRefR D) := by
  have G_next : FnOk P w K mg base CX0 2 D.a_next D.d_next P_next spNext := ok_next T
  have G_Environment_init : FnOk P w K mg base (L2.CX P w) 5 D.a_Environment_init D.d_Environment_init P_Environment_init (spEInit K D.a_Environment D.a_BadEnvironment) := ok_Environment_init T
  have G_Environment_read : FnOk P w K mg base (L2.CX P w) 9 D.a_Environment_read D.d_Environment_read P_Environment_read (spERead K D.a_Environment D.a_BadEnvironment) := ok_Environment_read T
  refine T.refused_right_F.okC S_refused_right (fun vs H Q E h => ?_) (fun A outer s H vs Q E hr h => ?_)
  · obtain ⟨d, c, n, rfl, _⟩ := h
    rfl
  · obtain ⟨d, c, n, rfl, hd, hn, ht, q⟩ := h
    refine ⟨_, (pss_cons (ps_set (i := 1) S_refused_right.nd rfl (Or.inl rfl) (pe_lst (pa_cons pe_str (pa_cons pe_str (pa_cons pe_str (pa_cons pe_str (pa_cons pe_non (pa_cons pe_int (pa_cons (pe_tup (pa_cons pe_str pa_nil)) (pa_cons (pe_lst (pa_cons pe_str pa_nil)) (pa_cons pe_dnewK (pa_cons pe_str pa_nil))))))))))))
      (pss_cons (ps_asg (pe_tup (pa_cons (pe_ix ix_list (pv 1) (pe_call G_next (hr.mono (by decide)) (by rfl) T.next_g T.next_F.kp T.next_b .nil pass0 (pa_cons (pv 0) (pa_cons pe_int pa_nil))) (fun _ _ => rfl)) (pa_cons (pe_ix ix_list (pv 1) (pe_call G_next (hr.mono (by decide)) (by rfl) T.next_g T.next_F.kp T.next_b .nil pass0 (pa_cons (pv 0) (pa_cons pe_int pa_nil))) (fun _ _ => rfl)) pa_nil))) (pg_tup (by rfl) (pgs_cons (pg_name (i := 2) S_refused_right.nd rfl (Or.inr rfl)) (pgs_cons (pg_name (i := 3) S_refused_right.nd rfl (Or.inr rfl)) pgs_nil))))
      (pss_cons (ps_set (i := 4) S_refused_right.nd rfl (Or.inr rfl) (pe_ix ix_list (pe_lst (pa_cons (pe_un un_neg pe_int) (pa_cons pe_int (pa_cons pe_non (pa_cons pe_bl (pa_cons pe_str (pa_cons (pe_tup (pa_cons pe_int pa_nil)) (pa_cons (pe_op op_pow pe_int pe_int) pa_nil)))))))) (pe_call G_next (hr.mono (by decide)) (by rfl) T.next_g T.next_F.kp T.next_b .nil pass0 (pa_cons (pv 0) (pa_cons pe_int pa_nil))) (fun _ _ => rfl)))
      (pss_cons (ps_set (i := 5) S_refused_right.nd rfl (Or.inl rfl) (pe_lst (pa_cons (pe_lam (T := D.tabs) (k := 11) T.told_F T.told_b S_told (.inl rfl) rfl rfl T.told_g (told_gives T rfl rfl) TB_refused_right rfl (by unfold Ad.tabs; exact (List.mem_cons_of_mem _ List.mem_cons_self)) T.refused_right_hu (hr.mono (by decide)) (LamX.lamS_by (sc := defScope s_refused_right) (by decide +kernel)) rfl (fun _ _ _ _ _ => by rfl) (fun A outer s H E f c' hr => (pe_makeKS T.Environment_mk G_Environment_init (hr.mono (by decide)) rfl T.Environment_g (T.Environment_init_km_machine_level_system).choose_spec (fun σ pins H s e s' => passLam pins σ H s e s') (pk_cons (pv 3) (pk_cons (pv 4) (pk_cons (pv 2) pk_nil)))))) pa_nil)))
      (pss_cons (ps_expr (pe_bm PySem.F.plainAttrs_list PySem.F.slot_list_append PySem.F.type_list_append mt_append (pv 5) (pa_cons (pe_lam (T := D.tabs) (k := 11) T.told_F T.told_b S_told (.inl rfl) rfl rfl T.told_g (told_gives T rfl rfl) TB_refused_right rfl (by unfold Ad.tabs; exact (List.mem_cons_of_mem _ List.mem_cons_self)) T.refused_right_hu (hr.mono (by decide)) (LamX.lamS_by (sc := defScope s_refused_right) (by decide +kernel)) rfl (fun _ _ _ _ _ => by rfl) (fun A outer s H E f c' hr => (pe_makeKS T.Environment_mk G_Environment_init (hr.mono (by decide)) rfl T.Environment_g (T.Environment_init_km_level_machine).choose_spec (fun σ pins H s e s' => passLam pins σ H s e s') (pk_cons (pv 4) (pk_cons (pv 3) pk_nil))))) pa_nil)))
      (pss_cons (ps_expr (pe_bm PySem.F.plainAttrs_list PySem.F.slot_list_append PySem.F.type_list_append mt_append (pv 5) (pa_cons (pe_lam (T := D.tabs) (k := 11) T.told_F T.told_b S_told (.inl rfl) rfl rfl T.told_g (told_gives T rfl rfl) TB_refused_right rfl (by unfold Ad.tabs; exact (List.mem_cons_of_mem _ List.mem_cons_self)) T.refused_right_hu (hr.mono (by decide)) (LamX.lamS_by (sc := defScope s_refused_right) (by decide +kernel)) rfl (fun _ _ _ _ _ => by rfl) (fun A outer s H E f c' hr => (pe_makeKS T.Environment_mk G_Environment_init (hr.mono (by decide)) rfl T.Environment_g (T.Environment_init_km_level).choose_spec (fun σ pins H s e s' => passLam pins σ H s e s') (pk_cons (pv 4) pk_nil)))) pa_nil)))
      (pss_cons (ps_for PassesOwn.never rfl (pi_tup (pe_tup (pa_cons pe_non (pa_cons pe_int (pa_cons (pe_tup (pa_cons pe_str pa_nil)) (pa_cons (pe_lst (pa_cons pe_str pa_nil)) (pa_cons pe_bl pa_nil))))))) (pg_name (i := 6) S_refused_right.nd rfl (Or.inr rfl)) (pss_one (ps_if (pt_cmpR (op_neD hr.units) (pe_lam (T := D.tabs) (k := 11) T.told_F T.told_b S_told (.inl rfl) rfl rfl T.told_g (told_gives T rfl rfl) TB_refused_right rfl (by unfold Ad.tabs; exact (List.mem_cons_of_mem _ List.mem_cons_self)) T.refused_right_hu (hr.mono (by decide)) (LamX.lamS_by (sc := defScope s_refused_right) (by decide +kernel)) rfl (fun _ _ _ _ _ => by rfl) (fun A outer s H E f c' hr => (pe_smethS (pe_glob (v := .ref D.a_Environment) rfl T.Environment_g rfl) T.Environment_rd T.Environment_read_s G_Environment_read T.Environment_read_F.kp T.Environment_read_b (hr.mono (by decide)) (fun σ pins H s e s' => passLam pins σ H s e s') (pa_cons (pv 6) pa_nil)))) (pe_tup (pa_cons (pv 6) pa_nil)) (nomark _)) (pss_one (ps_ret pe_bl)) pss_nil)))
      (pss_one (ps_ret (pe_and (pe_cmpR (opR_or (op_eqD hr.units) (op_eqAl hr.units)) (pv 5) (pe_lst (pa_cons (pe_tup (pa_cons (pv 2) pa_nil)) (pa_cons (pe_tup (pa_cons (pv 3) pa_nil)) (pa_cons (pe_tup (pa_cons (pv 4) pa_nil)) pa_nil)))) (nomark _)) (pe_one (pe_cmpR op_eq (pe_callB call_isi (by rfl) T.b_isinstance (by decide +kernel) (pa_cons (pv 4) (pa_cons (pe_bltn (v := .ty "bool") (u := .type "bool") (by rfl) T.b_bool (by decide +kernel) rfl) pa_nil))) (pe_callB call_isi (by rfl) T.b_isinstance (by decide +kernel) (pa_cons (pe_ix ix_tup (pe_ix ix_list (pv 5) pe_int (fun _ _ => rfl)) pe_int (fun _ _ => rfl)) (pa_cons (pe_bltn (v := .ty "bool") (u := .type "bool") (by rfl) T.b_bool (by decide +kernel) rfl) pa_nil))) (nomark _))))))))))))), ?_⟩
    refine ⟨by show 1 ≤ sizeLine; decide, fun pt hpt => ⟨by show 1 ≤ sizeLine; decide, fun pl hpl => fun pd hpd => ⟨by show 10 ≤ sizeLine; decide, fun lb hlb => ?_⟩⟩⟩
    -- what stands now
    have D1 := ((hd.new (o := .tup [.str "a"]) hpt).new (o := .lst [.str "a"]) hpl).new (o := .dK []) hpd
    have nt : pt ≠ d := (hd.ne_new hpt).symm
    have nl : pl ≠ d := ((hd.new (o := .tup [.str "a"]) hpt).ne_new hpl).symm
    have nd : pd ≠ d := (((hd.new (o := .tup [.str "a"]) hpt).new (o := .lst [.str "a"]) hpl).ne_new hpd).symm
    have nb : lb ≠ d := (D1.ne_new hlb).symm
    have D2 := D1.new (o := .lst [.str "", .str "A", .str "a1", .str "abcdefghijklm", .non, .int 5, .ref pt, .ref pl, .ref pd, .str "a b"]) hlb
    have s0 : Same H (upd (upd (upd (upd H pt (.tup [.str "a"])) pl (.lst [.str "a"])) pd (.dK [])) lb (.lst [.str "", .str "A", .str "a1", .str "abcdefghijklm", .non, .int 5, .ref pt, .ref pl, .ref pd, .str "a b"])) :=
      (((same_new hpt).trans (same_new hpl)).trans (same_new hpd)).trans (same_new hlb)
    have e1 : (upd (upd (upd (upd H pt (.tup [.str "a"])) pl (.lst [.str "a"])) pd (.dK [])) lb (.lst [.str "", .str "A", .str "a1", .str "abcdefghijklm", .non, .int 5, .ref pt, .ref pl, .ref pd, .str "a b"])) pt = some (.tup [.str "a"]) :=
      same_new hlb _ _ (same_new hpd _ _ (same_new hpl _ _ upd_same))
    have e2 : (upd (upd (upd (upd H pt (.tup [.str "a"])) pl (.lst [.str "a"])) pd (.dK [])) lb (.lst [.str "", .str "A", .str "a1", .str "abcdefghijklm", .non, .int 5, .ref pt, .ref pl, .ref pd, .str "a b"])) pl = some (.lst [.str "a"]) :=
      same_new hlb _ _ (same_new hpd _ _ upd_same)
    have e3 : (upd (upd (upd (upd H pt (.tup [.str "a"])) pl (.lst [.str "a"])) pd (.dK [])) lb (.lst [.str "", .str "A", .str "a1", .str "abcdefghijklm", .non, .int 5, .ref pt, .ref pl, .ref pd, .str "a b"])) pd = some (.dK []) :=
      same_new hlb _ _ upd_same
    have e4 : (upd (upd (upd (upd H pt (.tup [.str "a"])) pl (.lst [.str "a"])) pd (.dK [])) lb (.lst [.str "", .str "A", .str "a1", .str "abcdefghijklm", .non, .int 5, .ref pt, .ref pl, .ref pd, .str "a b"])) lb = some (.lst [.str "", .str "A", .str "a1", .str "abcdefghijklm", .non, .int 5, .ref pt, .ref pl, .ref pd, .str "a b"]) := upd_same
    clear hpt hpl hpd hlb D1
    revert D2 s0 e1 e2 e3 e4
    generalize upd (upd (upd (upd H pt (.tup [.str "a"])) pl (.lst [.str "a"])) pd (.dK [])) lb (.lst [.str "", .str "A", .str "a1", .str "abcdefghijklm", .non, .int 5, .ref pt, .ref pl, .ref pd, .str "a b"]) = H1
    intro D2 s0 e1 e2 e3 e4
    have bad : ∀ H', ButN d H1 H' → ∀ x ∈ [V.str "", .str "A", .str "a1", .str "abcdefghijklm", .non, .int 5, .ref pt, .ref pl, .ref pd, .str "a b"], BadO d H' x := by
      intro H' b x hx
      simp only [List.mem_cons, List.not_mem_nil, or_false] at hx
      rcases hx with rfl | rfl | rfl | rfl | rfl | rfl | rfl | rfl | rfl | rfl
      · rw [show V.str "" = V.str (S []) from congrArg V.str (by decide +kernel)]
        exact .txt [] (by decide) (by decide)
      · rw [show V.str "A" = V.str (S [65]) from congrArg V.str (by decide +kernel)]
        exact .txt [65] (by decide) (by decide)
      · rw [show V.str "a1" = V.str (S [97, 49]) from congrArg V.str (by decide +kernel)]
        exact .txt [97, 49] (by decide) (by decide)
      · rw [show V.str "abcdefghijklm" = V.str (S [97, 98, 99, 100, 101, 102, 103, 104, 105, 106, 107, 108, 109]) from congrArg V.str (by decide +kernel)]
        exact .txt _ (by decide) (by decide)
      · exact .non
      · exact .int 5
      · exact .tup pt _ nt (b _ _ e1 nt tup_n)
      · exact .lst pl _ nl (b _ _ e2 nl lst_n)
      · exact .dct pd nd (b _ _ e3 nd fun _ z => nomatch z)
      · rw [show V.str "a b" = V.str (S [97, 32, 98]) from congrArg V.str (by decide +kernel)]
        exact .txt [97, 32, 98] (by decide) (by decide)
    refine ⟨_, rfl, _, rfl, d, c, 10, _, rfl, D2, by omega, by decide, by decide, fun v2 H2 a2 c2 d2 u2 => ?_⟩
    obtain ⟨one, f2, m2⟩ := at_in (xs := [V.str "", .str "A", .str "a1", .str "abcdefghijklm", .non, .int 5, .ref pt, .ref pl, .ref pd, .str "a b"]) a2 c2
    refine ⟨lb, _, _, _, rfl, rfl, SqL.of (u2 _ _ e4 nb), f2, ?_⟩
    refine ⟨_, rfl, _, rfl, d, c, 10, _, rfl, d2, by omega, by decide, by decide, fun v3 H3 a3 c3 d3 u3 => ?_⟩
    obtain ⟨far, f3, m3⟩ := at_in (xs := [V.str "", .str "A", .str "a1", .str "abcdefghijklm", .non, .int 5, .ref pt, .ref pl, .ref pd, .str "a b"]) a3 c3
    refine ⟨lb, _, _, _, rfl, rfl, SqL.of (u3 _ _ (u2 _ _ e4 nb) nb), f3, by show 2 ≤ sizeLine; decide, fun p3 hp3 => ?_⟩
    refine ⟨p3, _, rfl, sqT_of upd_same, rfl, _, _, rfl, _, _, rfl, rfl, ?_⟩
    have t3 : Tabs D.tabs (upd H3 p3 (.tup [one, far])) := Tabs.same (Tabs.but (Tabs.but (Tabs.same ht s0) D2 u2) d2 u3) (same_new hp3)
    have b3 : ButN d H1 (upd H3 p3 (.tup [one, far])) := (u2.toN.trans u3.toN).trans (ButN.of_same (same_new hp3))
    have d3' := d3.new (o := .tup [one, far]) hp3
    have o3 := bad _ b3 one m2
    have r3 := bad _ b3 far m3
    clear bad e1 e2 e3 e4 u2 u3 d2 D2 f2 f3 d3 hp3
    revert t3 b3 d3' o3 r3
    generalize upd H3 p3 (.tup [one, far]) = H4
    intro t4 b4 d4 o4 r4
    have b4 := (ButN.of_same (d := d) s0).trans b4
    clear s0
    -- the level
    refine ⟨_, rfl, by show 1 ≤ sizeLine; decide, fun p5 hp5 => ⟨_, _, rfl, rfl, ⟨by decide, by decide, by decide⟩, by show 7 ≤ sizeLine; decide, fun l5 hl5 => ?_⟩⟩
    have n5 : p5 ≠ d := (d4.ne_new hp5).symm
    have s5 : Same H4 (upd (upd H4 p5 (.tup [.int 5])) l5 (.lst [.int (-1), .int 100, .non, .bl true, .str "5", .ref p5, .int (10 ^ (20 : Int).toNat)])) := (same_new hp5).trans (same_new hl5)
    have g5 : (upd (upd H4 p5 (.tup [.int 5])) l5 (.lst [.int (-1), .int 100, .non, .bl true, .str "5", .ref p5, .int (10 ^ (20 : Int).toNat)])) p5 = some (.tup [.int 5]) := same_new hl5 _ _ upd_same
    have k5 : (upd (upd H4 p5 (.tup [.int 5])) l5 (.lst [.int (-1), .int 100, .non, .bl true, .str "5", .ref p5, .int (10 ^ (20 : Int).toNat)])) l5 = some (.lst [.int (-1), .int 100, .non, .bl true, .str "5", .ref p5, .int (10 ^ (20 : Int).toNat)]) := upd_same
    have m5 : l5 ≠ d := ((d4.new (o := .tup [.int 5]) hp5).ne_new hl5).symm
    have d5 := d4.keep s5
    refine ⟨_, rfl, d, c, 7, _, rfl, d5, by omega, by decide, by decide, fun v6 H6 a6 c6 d6 u6 => ?_⟩
    obtain ⟨last, f6, m6⟩ := at_in (xs := [V.int (-1), .int 100, .non, .bl true, .str "5", .ref p5, .int (10 ^ (20 : Int).toNat)]) a6 c6
    refine ⟨l5, _, _, _, rfl, rfl, SqL.of (u6 _ _ k5 m5), f6, ?_⟩
    obtain ⟨bb, hb⟩ : ∃ bb, BadL d H6 last bb := by
      simp only [List.mem_cons, List.not_mem_nil, or_false] at m6
      rcases m6 with rfl | rfl | rfl | rfl | rfl | rfl | rfl
      · exact ⟨_, .int _ (.inl (by decide))⟩
      · exact ⟨_, .int _ (.inr (by decide))⟩
      · exact ⟨_, .non⟩
      · exact ⟨_, .bl⟩
      · exact ⟨_, .txt _⟩
      · exact ⟨_, .tup p5 _ n5 (u6 _ _ g5 n5)⟩
      · exact ⟨_, .int _ (.inr (by decide))⟩
    have F6 : Frm D.tabs d c (n + 3) H one far last bb H6 :=
      ⟨d6, (b4.trans (ButN.of_same s5)).trans u6.toN, Tabs.but (Tabs.same t4 s5) d5 u6, (o4.butN (ButN.of_same s5)).butN u6.toN, (r4.butN (ButN.of_same s5)).butN u6.toN, hb⟩
    clear hb m6 f6 u6 d6 k5 g5 d5 s5 hp5 hl5 b4 t4 o4 r4 d4
    -- the three calls
    refine ⟨F6.2.2.1, fun H7 x7 t7 => fun H8 E8 Q8 s8 hE8 _ => ?_⟩
    have F8 := (F6.ext x7 t7).keep s8
    clear F6 x7 t7 s8
    refine ⟨_, rfl, _, rfl, _, rfl, rfl, fun x dx hx hdx _ => ?_⟩
    have F9 := F8.keep (two_new (o := .own x) (u := .ins D.a_Environment dx []) hx hdx)
    refine ⟨x, dx, _, _, _, rfl, upd_same, .inr ⟨one, fun e9 H9 s9 he9 => hE8 e9 _ H9 he9 fun q1 H10 s10 _ hq1 => ?_, .inl ⟨rfl, F9.2.2.2.1.q⟩⟩⟩
    have F10 := (F9.keep s9).keep s10
    clear F8 F9 s9 s10 hx hdx he9 hE8
    refine ⟨by show 1 ≤ sizeLine; decide, fun lt hlt => ?_⟩
    have F11 := F10.keep (same_new (o := .lst [.ref q1]) hlt)
    have OFF := F10.clear hlt
    have g1 : (upd H10 lt (.lst [.ref q1])) q1 = some (.tup [one]) := same_new hlt _ _ hq1
    have k1 : (upd H10 lt (.lst [.ref q1])) lt = some (.lst [.ref q1]) := upd_same
    clear F10 hq1 hlt
    revert F11 g1 k1
    generalize upd H10 lt (.lst [.ref q1]) = H11
    intro F11 g1 k1
    -- 2
    refine ⟨_, rfl, .inl ⟨rfl, _, SqL.of k1⟩, F11.2.2.1, fun H12 x12 t12 => fun H13 E13 Q13 s13 hE13 _ => ?_⟩
    have F13 := (F11.ext x12 t12).keep s13
    have g13 := s13 _ _ (x12 _ _ g1 tup_n)
    have k13 := s13 _ _ (x12 _ _ k1 lst_n)
    clear F11 x12 t12 s13 g1 k1
    refine ⟨_, rfl, _, rfl, rfl, fun x dx hx hdx _ => ?_⟩
    have w2 := two_new (o := .own x) (u := .ins D.a_Environment dx []) hx hdx
    have F14 := F13.keep w2
    refine ⟨x, dx, _, _, _, rfl, upd_same, .inr ⟨far, fun e15 H15 s15 he15 => hE13 e15 _ H15 he15 fun q2 H16 s16 _ hq2 => ?_, .inr (.inl ⟨rfl, ?_, F14.2.2.2.2.1.q⟩)⟩⟩
    · have ss := (w2.trans s15).trans s16
      have F16 := F13.keep ss
      have g16 := ss _ _ g13
      have k16 := ss _ _ k13
      clear F13 F14 w2 ss s15 s16 g13 k13 hx hdx he15 hE13
      refine ⟨lt, _, _, rfl, rfl, k16, by show 1 < sizeLine; decide, ?_⟩
      rw [List.singleton_append]
      have F17 := F16.put (ys := [.ref q1, .ref q2]) OFF k16
      have g17 : (upd H16 lt (.lst [.ref q1, .ref q2])) q1 = some (.tup [one]) := by rw [upd_ne (ne_of g16 k16 (by intro z; cases z))]; exact g16
      have i17 : (upd H16 lt (.lst [.ref q1, .ref q2])) q2 = some (.tup [far]) := by rw [upd_ne (ne_of hq2 k16 (by intro z; cases z))]; exact hq2
      have k17 : (upd H16 lt (.lst [.ref q1, .ref q2])) lt = some (.lst [.ref q1, .ref q2]) := upd_same
      clear F16 g16 k16 hq2
      revert F17 g17 i17 k17
      generalize upd H16 lt (.lst [.ref q1, .ref q2]) = H17
      intro F17 g17 i17 k17
      -- 3
      refine ⟨_, rfl, .inl ⟨rfl, _, SqL.of k17⟩, F17.2.2.1, fun H18 x18 t18 => fun H19 E19 Q19 s19 hE19 _ => ?_⟩
      have F19 := (F17.ext x18 t18).keep s19
      have g19 := s19 _ _ (x18 _ _ g17 tup_n)
      have i19 := s19 _ _ (x18 _ _ i17 tup_n)
      have k19 := s19 _ _ (x18 _ _ k17 lst_n)
      clear F17 x18 t18 s19 g17 k17 i17
      refine ⟨_, rfl, rfl, fun x dx hx hdx _ => ?_⟩
      have w3 := two_new (o := .own x) (u := .ins D.a_Environment dx []) hx hdx
      have F20 := F19.keep w3
      refine ⟨x, dx, _, _, _, rfl, upd_same, .inr ⟨last, fun e21 H21 s21 he21 => hE19 e21 _ H21 he21 fun q3 H22 s22 _ hq3 => ?_, .inr (.inr ⟨rfl, ?_, ?_, F20.2.2.2.2.2.q⟩)⟩⟩
      · have ss := (w3.trans s21).trans s22
        have F22 := F19.keep ss
        have g22 := ss _ _ g19
        have i22 := ss _ _ i19
        have k22 := ss _ _ k19
        clear F19 F20 w3 ss s21 s22 g19 i19 k19 hx hdx he21 hE19
        refine ⟨lt, _, _, rfl, rfl, k22, by show 2 < sizeLine; decide, ?_⟩
        rw [List.cons_append, List.singleton_append]
        have F23 := F22.put (ys := [.ref q1, .ref q2, .ref q3]) OFF k22
        have g23 : (upd H22 lt (.lst [.ref q1, .ref q2, .ref q3])) q1 = some (.tup [one]) := by rw [upd_ne (ne_of g22 k22 (by intro z; cases z))]; exact g22
        have i23 : (upd H22 lt (.lst [.ref q1, .ref q2, .ref q3])) q2 = some (.tup [far]) := by rw [upd_ne (ne_of i22 k22 (by intro z; cases z))]; exact i22
        have j23 : (upd H22 lt (.lst [.ref q1, .ref q2, .ref q3])) q3 = some (.tup [last]) := by rw [upd_ne (ne_of hq3 k22 (by intro z; cases z))]; exact hq3
        have k23 : (upd H22 lt (.lst [.ref q1, .ref q2, .ref q3])) lt = some (.lst [.ref q1, .ref q2, .ref q3]) := upd_same
        clear F22 g22 i22 k22 hq3
        revert F23 g23 i23 j23 k23
        generalize upd H22 lt (.lst [.ref q1, .ref q2, .ref q3]) = H23
        intro F23 g23 i23 j23 k23
        -- what is no text
        refine ⟨by show 1 ≤ sizeLine; decide, fun pa hpa => ⟨by show 1 ≤ sizeLine; decide, fun pb hpb => ⟨by show 5 ≤ sizeLine; decide, fun pr hpr => ?_⟩⟩⟩
        have s24 : Same H23 (upd (upd (upd H23 pa (.tup [.str "a a 0"])) pb (.lst [.str "a a 0"])) pr (.tup [.non, .int 5, .ref pa, .ref pb, .bl true])) := ((same_new hpa).trans (same_new hpb)).trans (same_new hpr)
        have a24 : (upd (upd (upd H23 pa (.tup [.str "a a 0"])) pb (.lst [.str "a a 0"])) pr (.tup [.non, .int 5, .ref pa, .ref pb, .bl true])) pa = some (.tup [.str "a a 0"]) := same_new hpr _ _ (same_new hpb _ _ upd_same)
        have b24 : (upd (upd (upd H23 pa (.tup [.str "a a 0"])) pb (.lst [.str "a a 0"])) pr (.tup [.non, .int 5, .ref pa, .ref pb, .bl true])) pb = some (.lst [.str "a a 0"]) := same_new hpr _ _ upd_same
        have r24 : (upd (upd (upd H23 pa (.tup [.str "a a 0"])) pb (.lst [.str "a a 0"])) pr (.tup [.non, .int 5, .ref pa, .ref pb, .bl true])) pr = some (.tup [.non, .int 5, .ref pa, .ref pb, .bl true]) := upd_same
        have F24 := F23.keep s24
        have g24 := s24 _ _ g23
        have i24 := s24 _ _ i23
        have j24 := s24 _ _ j23
        have k24 := s24 _ _ k23
        clear hpa hpb hpr s24 F23 g23 i23 j23 k23
        revert a24 b24 r24 F24 g24 i24 j24 k24
        generalize upd (upd (upd H23 pa (.tup [.str "a a 0"])) pb (.lst [.str "a a 0"])) pr (.tup [.non, .int 5, .ref pa, .ref pb, .bl true]) = H24
        intro a24 b24 r24 F24 g24 i24 j24 k24
        refine ⟨pr, rfl, ⟨_, sqT_of r24⟩, for_tup (K := K) (xs := [.non, .int 5, .ref pa, .ref pb, .bl true]) (fun _ σ H' => (∃ o6 : Option V, σ = [some (.ref d), some (.ref lb), some one, some far, some last, some (.ref lt), o6]) ∧ Frm D.tabs d c (n + 3) H one far last bb H' ∧
            H' q1 = some (.tup [one]) ∧ H' q2 = some (.tup [far]) ∧ H' q3 = some (.tup [last]) ∧ H' lt = some (.lst [.ref q1, .ref q2, .ref q3]) ∧ H' pa = some (.tup [.str "a a 0"]) ∧ H' pb = some (.lst [.str "a a 0"]) ∧ H' pr = some (.tup [.non, .int 5, .ref pa, .ref pb, .bl true]))
          ⟨⟨_, rfl⟩, F24, g24, i24, j24, k24, a24, b24, r24⟩ (fun _ _ _ _ h => sqT_of h.2.2.2.2.2.2.2.2) ?_ ?_⟩
        · rintro k x σ H25 hx ⟨⟨o6, rfl⟩, F25, g25, i25, j25, k25, a25, b25, r25⟩
          obtain ⟨dd, hrow⟩ : ∃ dd, ∀ H', H' pa = some (.tup [.str "a a 0"]) → H' pb = some (.lst [.str "a a 0"]) → RowT H' x dd := by
            have mx := List.mem_of_getElem? hx
            simp only [List.mem_cons, List.not_mem_nil, or_false] at mx
            rcases mx with rfl | rfl | rfl | rfl | rfl
            · exact ⟨_, fun _ _ _ => .non⟩
            · exact ⟨_, fun _ _ _ => .int 5⟩
            · exact ⟨_, fun _ h _ => .tup pa _ h aa0_ok⟩
            · exact ⟨_, fun _ _ h => .lst pb _ h aa0_ok⟩
            · exact ⟨_, fun _ _ _ => .bl true⟩
          refine ⟨F25.2.2.1, fun H26 x26 t26 => fun H27 E27 Q27 s27 hE27 _ => ?_⟩
          have st : ∀ (b : Addr) (o : HO), (∀ ps, o ≠ .tbl ps) → H25 b = some o → H27 b = some o := fun b o n e => s27 _ _ (x26 _ _ e n)
          have F27 := (F25.ext x26 t26).keep s27
          have a27 := st _ _ tup_n a25
          have b27 := st _ _ lst_n b25
          refine ⟨rfl, _, rfl, x, rfl, .inr ⟨.inr (hrow H27 a27 b27).no, fun e28 H28 s28 he28 => hE27 e28 _ H28 he28 fun q4 H29 s29 _ hq4 => ?_⟩⟩
          have s30 := s28.trans s29
          refine ⟨_, rfl, by show 1 ≤ sizeLine; decide, fun q5 hq5 => ?_⟩
          have s31 := s30.trans (same_new (o := .tup [x]) hq5)
          have row := hrow _ (s31 _ _ a27) (s31 _ _ b27)
          refine ⟨.tuple [dd], .tuple [dd], .tup (sqT_of (same_new hq5 _ _ hq4)) (.cons row.dp .nil), .tup (sqT_of upd_same) (.cons row.dp .nil), row.ok.2, row.ok.2, _, rfl, ?_⟩
          rw [row.ok.1]
          exact iteF ⟨⟨_, rfl⟩, F27.keep s31, s31 _ _ (st _ _ tup_n g25), s31 _ _ (st _ _ tup_n i25), s31 _ _ (st _ _ tup_n j25), s31 _ _ (st _ _ lst_n k25), s31 _ _ a27, s31 _ _ b27, s31 _ _ (st _ _ tup_n r25)⟩
        · rintro σ H25 ⟨⟨o6, rfl⟩, F25, g25, i25, j25, k25, a25, b25, r25⟩
          refine ⟨_, rfl, _, rfl, by show 1 ≤ sizeLine; decide, fun z1 hz1 => ⟨_, rfl, by show 1 ≤ sizeLine; decide, fun z2 hz2 => ⟨_, rfl, by show 1 ≤ sizeLine; decide, fun z3 hz3 => ⟨by show 3 ≤ sizeLine; decide, fun z4 hz4 => ?_⟩⟩⟩⟩
          have s1 := same_new (o := .tup [one]) hz1
          have s2 := same_new (o := .tup [far]) hz2
          have s3 := same_new (o := .tup [last]) hz3
          have s4 := same_new (o := .lst [.ref z1, .ref z2, .ref z3]) hz4
          have ss := ((s1.trans s2).trans s3).trans s4
          have F26 := F25.keep ss
          refine .inr ⟨3, lt, z4, [.ref q1, .ref q2, .ref q3], [.ref z1, .ref z2, .ref z3], rfl, rfl, by decide, .inl ⟨SqL.of (ss _ _ k25), SqL.of upd_same⟩, ?_, _, rfl, iteT ?_⟩
          · refine .cons (.tup (sqT_of (ss _ _ g25)) (sqT_of (s4 _ _ (s3 _ _ (s2 _ _ upd_same)))) (.cons (.same F26.2.2.2.1.one) .nil)) ?_
            refine .cons (.tup (sqT_of (ss _ _ i25)) (sqT_of (s4 _ _ (s3 _ _ upd_same))) (.cons (.same F26.2.2.2.2.1.one) .nil)) ?_
            exact .cons (.tup (sqT_of (ss _ _ j25)) (sqT_of (s4 _ _ upd_same)) (.cons (.same F26.2.2.2.2.2.one) .nil)) .nil
          · obtain ⟨ty, hty, hk⟩ := F26.2.2.2.2.2.ty (K := K)
            refine ⟨_, rfl, last, .ty "bool", ty, .type "bool", bb, rfl, .ty _, hty, hk, ?_⟩
            refine ⟨_, rfl, lt, _, _, _, rfl, rfl, SqL.of (ss _ _ k25), at3.2.2, q3, _, _, _, rfl, rfl, sqT_of (ss _ _ j25), rfl, last, .ty "bool", ty, .type "bool", bb, rfl, .ty _, hty, hk, rfl, ?_⟩
            rw [decide_eq_true rfl]
            exact q _ F26.1 F26.2.1 F26.2.2.1
      · rw [show V.str "a" = V.str (S [97]) from congrArg V.str (by decide +kernel)]
        exact word_q (by decide)
      · rw [show V.str "a" = V.str (S [97]) from congrArg V.str (by decide +kernel)]
        exact word_q (by decide)
    · rw [show V.str "a" = V.str (S [97]) from congrArg V.str (by decide +kernel)]
      exact word_q (by decide)
end

/-! ## The law of k13 -/
section
variable {P : Program} {w : World} {K : PySem.W.Frag} {mg : Str → Option Value} {base : Heap} {D : Ad}
open TL SX LamX
def spD (i j v : Nat) : PyData := .tuple [.str (S (w8 i)), .str (S (w8 j)), .int (v : Int)]
theorem spD_shaped (i j v : Nat) : SeqAt.shaped (spD i j v) = true := by
  simp [spD, SeqAt.shaped, PyData.canLay0, PyData.canLayAll0, PyData.depth, PyData.depthAll, asc_ok (w8_asc i), asc_ok (w8_asc j)]
theorem spD_eqv (i j v i' j' v' : Nat) : PyData.eqv (spD i j v) (spD i' j' v') = decide (w8 i = w8 i' ∧ w8 j = w8 j' ∧ v = v') := by
  unfold spD
  have e1 : ∀ a b : List Nat, (S a == S b) = decide (a = b) := fun a b => S_beq_eq
  have e2 : ((v : Int) == (v' : Int)) = decide (v = v') := by
    rw [Bool.eq_iff_iff]
    simp only [beq_iff_eq, decide_eq_true_eq]
    omega
  simp only [PyData.eqv, PyData.eqvAll, e1, e2, Bool.and_true]
  rw [Bool.eq_iff_iff]
  simp only [Bool.and_eq_true, decide_eq_true_eq]
theorem Spot.dp {H : Hp} {p : Addr} {i j v : Nat} (h : Spot H p i j v) : Dp K H (.ref p) (spD i j v) := .tup (sqT_of h.1) (.cons (.str _) (.cons (.str _) (.cons (.int _) .nil)))
theorem long1 : eT ([97, 32, 97, 32] ++ List.replicate 5000 57) = none := by
  have h := spl_join (s := 32) (S := []) (parts := [[97], [97], List.replicate 5000 57]) (by simp) (by
    intro p hp
    simp only [List.mem_cons, List.not_mem_nil, or_false] at hp
    rcases hp with rfl | rfl | rfl
    · decide
    · decide
    · intro z
      have := List.eq_of_mem_replicate z
      omega)
  rw [eT_def (show spl [32] 0 [] ([97, 32, 97, 32] ++ List.replicate 5000 57) = [[97], [97], List.replicate 5000 57] from h)]
  have e : nTL 99 (List.replicate 5000 57) = none := by
    unfold nTL
    rw [if_neg]
    rw [show (numL 99).length = 2 from by decide +kernel, List.length_replicate]
    simp
  rw [e]
theorem long2 : eT ([97, 32, 97, 32] ++ List.replicate 5000 48 ++ [49]) = none := by
  have h := spl_join (s := 32) (S := []) (parts := [[97], [97], List.replicate 5000 48 ++ [49]]) (by simp) (by
    intro p hp
    simp only [List.mem_cons, List.not_mem_nil, or_false] at hp
    rcases hp with rfl | rfl | rfl
    · decide
    · decide
    · intro z
      rcases List.mem_append.mp z with z | z
      · have := List.eq_of_mem_replicate z
        omega
      · simp at z)
  rw [eT_def (show spl [32] 0 [] ([97, 32, 97, 32] ++ List.replicate 5000 48 ++ [49]) = [[97], [97], List.replicate 5000 48 ++ [49]] from by rw [List.append_assoc]; exact h)]
  have e : nTL 99 (List.replicate 5000 48 ++ [49]) = none := by
    unfold nTL
    rw [if_neg]
    rw [show (numL 99).length = 2 from by decide +kernel, List.length_append, List.length_replicate]
    simp
  rw [e]
theorem long3 : eT (List.replicate 5000 97 ++ [32, 97, 32, 48]) = none := by
  have h := spl_join (s := 32) (S := []) (parts := [List.replicate 5000 97, [97], [48]]) (by simp) (by
    intro p hp
    simp only [List.mem_cons, List.not_mem_nil, or_false] at hp
    rcases hp with rfl | rfl | rfl
    · intro z
      have := List.eq_of_mem_replicate z
      omega
    · decide
    · decide)
  rw [eT_def (show spl [32] 0 [] (List.replicate 5000 97 ++ [32, 97, 32, 48]) = [List.replicate 5000 97, [97], [48]] from h)]
  have e : wordT (List.replicate 5000 97) = false := by
    unfold wordT
    rw [List.length_replicate]
    simp
  rw [e]
  cases nTL 99 [48] <;> simp
theorem flat1 (c n : Nat) : (List.replicate n [c]).flatten = List.replicate n c := by
  induction n with
  | zero => rfl
  | succ n ih => rw [List.replicate_succ, List.flatten_cons, ih]; rfl
def spLaw (K : PySem.W.Frag) (cs : List (Addr × Addr)) : Sp := fun vs H Q _ => ∃ (a : Addr) (ns : List Int), vs = [.ref a] ∧ Bare K H a (ns.map V.int) ∧ ns.length ≤ 63 ∧ (∀ p ∈ cs, H p.2 = some (.tbl #[])) ∧ ∀ H', Q (.bl true) H'
theorem ok_law (T : Tex K mg D) (tb : ∀ p ∈ D.cs, TabB base mg p.1 p.2) : FnG P w K mg base 17 D.a_law D.d_law P_law (spLaw K D.cs) := by
  have TB_read_right : TabB base mg D.c_read_right D.P_read_right := tb (D.c_read_right, D.P_read_right) (by unfold Ad.cs; simp)
  have TB_refused_right : TabB base mg D.c_refused_right D.P_refused_right := tb (D.c_refused_right, D.P_refused_right) (by unfold Ad.cs; simp)
  have TB_law : TabB base mg D.c_law D.P_law := tb (D.c_law, D.P_law) (by unfold Ad.cs; simp)
  have G_begin : FnOk P w K mg base CX0 1 D.a_begin D.d_begin P_begin (spBegin K) := ok_begin T
  have G_spot : FnOk P w K mg base CX0 3 D.a_spot D.d_spot P_spot spSpot := ok_spot T
  have G_environment : FnOk P w K mg base CX0 8 D.a_environment D.d_environment P_environment (spEnvOf D.a_Environment) := ok_environment T
  have G_Environment_system : FnOk P w K mg base CX0 1 D.a_Environment_system D.d_Environment_system P_Environment_system (spESys D.a_Environment) := ok_Environment_system T
  have G_Environment_machine : FnOk P w K mg base CX0 1 D.a_Environment_machine D.d_Environment_machine P_Environment_machine (spEMac D.a_Environment) := ok_Environment_machine T
  have G_Environment_level : FnOk P w K mg base CX0 1 D.a_Environment_level D.d_Environment_level P_Environment_level (spELev D.a_Environment) := ok_Environment_level T
  have G_Environment_str : FnOk P w K mg base CX0 1 D.a_Environment_str D.d_Environment_str P_Environment_str (spEStr D.a_Environment) := ok_Environment_str T
  have G_Environment_eq : FnOk P w K mg base CX0 1 D.a_Environment_eq D.d_Environment_eq P_Environment_eq (spEEq K D.a_Environment) := ok_Environment_eq T
  have G_Environment_lt : FnOk P w K mg base CX0 1 D.a_Environment_lt D.d_Environment_lt P_Environment_lt (spELt D.a_Environment) := ok_Environment_lt T
  have G_Environment_read : FnOk P w K mg base (L2.CX P w) 9 D.a_Environment_read D.d_Environment_read P_Environment_read (spERead K D.a_Environment D.a_BadEnvironment) := ok_Environment_read T
  have G_Environment_init : FnOk P w K mg base (L2.CX P w) 5 D.a_Environment_init D.d_Environment_init P_Environment_init (spEInit K D.a_Environment D.a_BadEnvironment) := ok_Environment_init T
  have G_is_less : FnOk P w K mg base CX0 1 D.a_is_less D.d_is_less P_is_less spLess := ok_is_less T
  have G_read_right : FnOk P w K mg base CX0 14 D.a_read_right D.d_read_right P_read_right (spReadR D) := ok_read_right T TB_read_right
  have G_refused_right : FnOk P w K mg base CX0 14 D.a_refused_right D.d_refused_right P_refused_right (spRefR D) := ok_refused_right T TB_refused_right
  refine T.law_F.okG S_law (fun vs H Q E h => ?_) (fun A outer s H vs Q hg hr h => ?_)
  · obtain ⟨a, ns, rfl, _⟩ := h
    rfl
  · obtain ⟨a, ns, rfl, hb, hl, ht, q⟩ := h
    refine ⟨_, (pss_cons (ps_set (i := 1) S_law.nd rfl (Or.inl rfl) (pe_call G_begin (hr.mono (by decide)) (by rfl) T.begin_g T.begin_F.kp T.begin_b .nil pass0 (pa_cons (pv 0) pa_nil)))
      (pss_cons (ps_for PassesOwn.never rfl (pi_range1 rfl T.b_range (pa_cons pe_int pa_nil)) (pg_name (i := 2) S_law.nd rfl (Or.inl rfl)) (pss_cons (ps_par (i := 3) (j := 4) (by rfl) S_law.nd rfl rfl (by decide) rfl rfl (pa_cons (pe_call G_spot (hr.mono (by decide)) (by rfl) T.spot_g T.spot_F.kp T.spot_b .nil pass0 (pa_cons (pv 1) pa_nil)) (pa_cons (pe_call G_spot (hr.mono (by decide)) (by rfl) T.spot_g T.spot_F.kp T.spot_b .nil pass0 (pa_cons (pv 1) pa_nil)) pa_nil)) (by rfl))
      (pss_cons (ps_par (i := 5) (j := 6) (by rfl) S_law.nd rfl rfl (by decide) rfl rfl (pa_cons (pe_call G_environment (hr.mono (by decide)) (by rfl) T.environment_g T.environment_F.kp T.environment_b .nil pass0 (pa_cons (pv 3) pa_nil)) (pa_cons (pe_call G_environment (hr.mono (by decide)) (by rfl) T.environment_g T.environment_F.kp T.environment_b .nil pass0 (pa_cons (pv 4) pa_nil)) pa_nil)) (by rfl))
      (pss_cons (ps_if (PW.pt (pw_or (pt_cmpR (op_neD hr.units) (pe_tup (pa_cons (pe_prop (pv 5) T.Environment_cl T.Environment_system_p G_Environment_system (hr.mono (by decide)) T.Environment_system_b .nil pass0 rfl) (pa_cons (pe_prop (pv 5) T.Environment_cl T.Environment_machine_p G_Environment_machine (hr.mono (by decide)) T.Environment_machine_b .nil pass0 rfl) (pa_cons (pe_prop (pv 5) T.Environment_cl T.Environment_level_p G_Environment_level (hr.mono (by decide)) T.Environment_level_b .nil pass0 rfl) pa_nil)))) (pv 3) (nomark _)) (pw_or1 (pt_cmpR op_ne (pe_callTy (call_strD T.Environment_str_at T.Environment_str_fn (G_Environment_str.raw T.Environment_str_b .nil) (hr.mono (by decide)) pass0) (by rfl) T.b_str (by decide +kernel) (pa_cons (pv 5) pa_nil)) (pe_op op_add_str (pe_op op_add_str (pe_op op_add_str (pe_op op_add_str (pe_ix ix_tup (pv 3) pe_int (fun _ _ => rfl)) pe_str) (pe_ix ix_tup (pv 3) pe_int (fun _ _ => rfl))) pe_str) (pe_callTy call_str_int (by rfl) T.b_str (by decide +kernel) (pa_cons (pe_ix ix_tup (pv 3) pe_int (fun _ _ => rfl)) pa_nil))) (nomark _))))) (pss_one (ps_ret pe_bl)) pss_nil)
      (pss_cons (ps_if (PW.pt (pw_or (pt_cmpR op_ne (pe_cmpR (op_ownD (fun _ _ => rfl) T.Environment_eq_at T.Environment_eq_fn T.Environment_nf (G_Environment_eq.raw T.Environment_eq_b .nil) (hr.mono (by decide)) pass0) (pv 5) (pv 6) (nomark _)) (pe_cmpR (op_eqD hr.units) (pv 3) (pv 4) (nomark _)) (nomark _)) (pw_or (pt_cmpR op_ne (pe_cmpR (op_neOwn T.Environment_ne_b T.Environment_si.cm T.Environment_eq_at T.Environment_eq_fn (G_Environment_eq.raw T.Environment_eq_b .nil) (hr.mono (by decide)) pass0) (pv 5) (pv 6) (nomark _)) (pe_cmpR (op_neD hr.units) (pv 3) (pv 4) (nomark _)) (nomark _)) (pw_or (pt_cmpR (op_ownA (fun _ _ => rfl) T.Environment_eq_at T.Environment_eq_fn (G_Environment_eq.raw T.Environment_eq_b .nil) (hr.mono (by decide)) pass0) (pv 5) (pv 3) (nomark _)) (pw_or1 (pt_cmpR (op_ownA (fun _ _ => rfl) T.Environment_eq_at T.Environment_eq_fn (G_Environment_eq.raw T.Environment_eq_b .nil) (hr.mono (by decide)) pass0) (pv 5) (pe_callTy (call_strD T.Environment_str_at T.Environment_str_fn (G_Environment_str.raw T.Environment_str_b .nil) (hr.mono (by decide)) pass0) (by rfl) T.b_str (by decide +kernel) (pa_cons (pv 5) pa_nil)) (nomark _))))))) (pss_one (ps_ret pe_bl)) pss_nil)
      (pss_cons (ps_if (PW.pt (pw_or (pt_cmpR op_ne (pe_cmpR (op_ownD (fun _ _ => rfl) T.Environment_lt_at T.Environment_lt_fn T.Environment_nf (G_Environment_lt.raw T.Environment_lt_b .nil) (hr.mono (by decide)) pass0) (pv 5) (pv 6) (nomark _)) (pe_call G_is_less (hr.mono (by decide)) (by rfl) T.is_less_g T.is_less_F.kp T.is_less_b .nil pass0 (pa_cons (pv 3) (pa_cons (pv 4) pa_nil))) (nomark _)) (pw_or1 (pt_cmpR op_ne (pe_cmpR (op_ownD (fun _ _ => rfl) T.Environment_lt_at T.Environment_lt_fn T.Environment_nf (G_Environment_lt.raw T.Environment_lt_b .nil) (hr.mono (by decide)) pass0) (pv 6) (pv 5) (nomark _)) (pe_call G_is_less (hr.mono (by decide)) (by rfl) T.is_less_g T.is_less_F.kp T.is_less_b .nil pass0 (pa_cons (pv 4) (pa_cons (pv 3) pa_nil))) (nomark _))))) (pss_one (ps_ret pe_bl)) pss_nil)
      (pss_one (ps_if (PW.pt (pw_or (pt_not (pt_val (pe_call G_read_right (hr.mono (by decide)) (by rfl) T.read_right_g T.read_right_F.kp T.read_right_b .nil pass0 (pa_cons (pv 1) (pa_cons (pv 3) pa_nil))))) (pw_or1 (pt_not (pt_val (pe_call G_refused_right (hr.mono (by decide)) (by rfl) T.refused_right_g T.refused_right_F.kp T.refused_right_b .nil pass0 (pa_cons (pv 1) pa_nil))))))) (pss_one (ps_ret pe_bl)) pss_nil))))))))
      (pss_cons (ps_for PassesOwn.never rfl (pi_tup (pe_tup (pa_cons (pe_op op_add_str pe_str (pe_op op_mulS pe_str pe_int)) (pa_cons (pe_op op_add_str (pe_op op_add_str pe_str (pe_op op_mulS pe_str pe_int)) pe_str) (pa_cons (pe_op op_add_str (pe_op op_mulS pe_str pe_int) pe_str) pa_nil))))) (pg_name (i := 7) S_law.nd rfl (Or.inr rfl)) (pss_one (ps_if (pt_cmpR (op_neD hr.units) (pe_lam (T := D.tabs) (k := 14) T.told_F T.told_b S_told (.inl rfl) rfl rfl T.told_g (told_gives T rfl rfl) TB_law rfl (by unfold Ad.tabs; exact (List.mem_cons_of_mem _ (List.mem_cons_of_mem _ List.mem_cons_self))) T.law_hu (hr.mono (by decide)) (LamX.lamS_by (sc := defScope s_law) (by decide +kernel)) rfl (fun _ _ _ _ _ => by rfl) (fun A outer s H E f c' hr => (pe_smethS (pe_glob (v := .ref D.a_Environment) rfl T.Environment_g rfl) T.Environment_rd T.Environment_read_s G_Environment_read T.Environment_read_F.kp T.Environment_read_b (hr.mono (by decide)) (fun σ pins H s e s' => passLam pins σ H s e s') (pa_cons (pv 7) pa_nil)))) (pe_tup (pa_cons (pv 7) pa_nil)) (nomark _)) (pss_one (ps_ret pe_bl)) pss_nil)))
      (pss_one (ps_ret (pe_and (pe_cmpR op_eq (pe_callTy (call_strD T.Environment_str_at T.Environment_str_fn (G_Environment_str.raw T.Environment_str_b .nil) (hr.mono (by decide)) pass0) (by rfl) T.b_str (by decide +kernel) (pa_cons (pe_make0 T.Environment_mk G_Environment_init (hr.mono (by decide)) rfl T.Environment_g T.Environment_init_b0.choose_spec.2 T.Environment_init_b0.choose_spec.1 passL) pa_nil)) pe_str (nomark _)) (pe_one (pe_cmpR (op_ownD (fun _ _ => rfl) T.Environment_lt_at T.Environment_lt_fn T.Environment_nf (G_Environment_lt.raw T.Environment_lt_b .nil) (hr.mono (by decide)) pass0) (pe_makeKS T.Environment_mk G_Environment_init (hr.mono (by decide)) rfl T.Environment_g (T.Environment_init_km_level).choose_spec (fun σ pins H s e s' => passL pins σ H s e s') (pk_cons pe_int pk_nil)) (pe_makeKS T.Environment_mk G_Environment_init (hr.mono (by decide)) rfl T.Environment_g (T.Environment_init_km_machine).choose_spec (fun σ pins H s e s' => passL pins σ H s e s') (pk_cons pe_str pk_nil)) (nomark _))))))))), ?_⟩
    have t0 : Tabs D.tabs H := by
      intro p hp
      unfold Ad.tabs at hp
      simp only [List.mem_cons, List.not_mem_nil, or_false] at hp
      rcases hp with rfl | rfl | rfl
      · exact TabS.nil (ht (D.c_read_right, D.P_read_right) (by unfold Ad.cs; simp))
      · exact TabS.nil (ht (D.c_refused_right, D.P_refused_right) (by unfold Ad.cs; simp))
      · exact TabS.nil (ht (D.c_law, D.P_law) (by unfold Ad.cs; simp))
    refine ⟨_, rfl, a, ns, rfl, hb, hl, fun d c H1 hd s1 D1 => ?_⟩
    have t1 := Tabs.same t0 s1
    clear s1 t0 ht
    refine ⟨8, rfl, by decide, by decide, ?_⟩
    refine for_range (lo := 0) (n := 8) (fun k σ H' => ∃ o2 o3 o4 o5 o6 o7 : Option V, σ = [some (.ref a), some (.ref d), o2, o3, o4, o5, o6, o7] ∧ Dr H' d c (100 * k) ∧ Tabs D.tabs H') ⟨_, _, _, _, _, _, rfl, D1, t1⟩ ?_ ?_
    · rintro k σ H2 hk ⟨o2, o3, o4, o5, o6, o7, rfl, D2, t2⟩
      refine ⟨_, rfl, d, c, _, rfl, D2, by omega, fun p i j v H3 hp hpn D3 b3 => ?_⟩
      refine ⟨_, rfl, d, c, _, rfl, D3, by omega, fun p' i' j' v' H4 hp' hpn' D4 b4 => ?_⟩
      have t4 := Tabs.but (Tabs.but t2 D2 b3) D3 b4
      have hp4 := hp.butN D3 b4.toN
      clear D2 D3 b3 b4 hp hpn hpn' t2
      refine ⟨_, _, rfl, ?_⟩
      refine ⟨_, rfl, p, i, j, v, rfl, hp4, fun e H5 s5 he en => ?_⟩
      refine ⟨_, rfl, p', i', j', v', rfl, hp'.keep s5, fun e' H6 s6 he' en' => ?_⟩
      have s56 := s5.trans s6
      have hp6 := hp4.keep s56
      have hp6' := hp'.keep s56
      have en6 := en.keep s6
      have D6 := D4.keep s56
      have t6 := Tabs.same t4 s56
      clear s5 s6 s56 hp4 hp' he he' en D4 t4
      refine ⟨_, _, rfl, ?_⟩
      obtain ⟨_, hi, hj, hv⟩ := id hp6
      obtain ⟨_, hi', hj', hv'⟩ := id hp6'
      obtain ⟨dx, ea⟩ := id en6
      obtain ⟨dx', ea'⟩ := id en'
      have l1 := w8_len i
      have l2 := w8_len j
      have l3 : (numL v).length ≤ 2 := numL_len (by decide) (by omega)
      -- the properties
      refine ⟨_, rfl, e, dx, _, rfl, ea, e, _, _, _, rfl, en6, _, rfl, e, dx, _, rfl, ea, e, _, _, _, rfl, en6, _, rfl, e, dx, _, rfl, ea, e, _, _, _, rfl, en6, by show 3 ≤ sizeLine; decide, fun p7 hp7 => ?_⟩
      have s7 := same_new (o := .tup [.str (S (w8 i)), .str (S (w8 j)), .int (v : Int)]) hp7
      have hp7' : Spot (upd H6 p7 (.tup [.str (S (w8 i)), .str (S (w8 j)), .int (v : Int)])) p7 i j v := ⟨upd_same, hi, hj, hv⟩
      have hp8 := hp6.keep s7
      have hp8' := hp6'.keep s7
      have en8 := en6.keep s7
      have en8' := en'.keep s7
      have D8 := D6.keep s7
      have t8 := Tabs.same t6 s7
      clear hp6 hp6' en6 en' D6 t6 s7 hp7 ea ea'
      revert hp7' hp8 hp8' en8 en8' D8 t8
      generalize upd H6 p7 (.tup [.str (S (w8 i)), .str (S (w8 j)), .int (v : Int)]) = H7
      intro hp7' hp8 hp8' en8 en8' D8 t8
      obtain ⟨dx, ea⟩ := id en8
      obtain ⟨dx', ea'⟩ := id en8'
      refine ⟨_, rfl, spD i j v, spD i j v, hp7'.dp, hp8.dp, spD_shaped _ _ _, spD_shaped _ _ _, _, rfl, ?_⟩
      rw [spD_eqv, decide_eq_true ⟨rfl, rfl, rfl⟩]
      refine iteF ?_
      have ha := at3 (a := V.str (S (w8 i))) (b := .str (S (w8 j))) (c := .int (v : Int))
      have he : S (w8 i) ++ S [32] ++ S (w8 j) ++ S [32] ++ S (numL v) = S (eW (w8 i) (w8 j) v) := by
        rw [S_cat, S_cat, S_cat, S_cat]
        simp [eW]
      refine ⟨_, rfl, e, dx, _, rfl, ea, e, _, _, _, rfl, en8, by omega, by omega, hv, _, rfl, ?_⟩
      refine ⟨_, rfl, p, _, _, _, rfl, rfl, sqT_of hp8.1, ha.1, _, _, rfl, rfl, by rw [sp_txt]; simp only [len_app, S_len, List.length_cons, List.length_nil]; exact szl (by omega), ?_⟩
      rw [sp_txt]
      refine ⟨_, rfl, p, _, _, _, rfl, rfl, sqT_of hp8.1, ha.2.1, _, _, rfl, rfl, by simp only [len_app, S_len, List.length_cons, List.length_nil]; exact szl (by omega), ?_⟩
      refine ⟨_, _, rfl, rfl, by simp only [len_app, S_len, List.length_cons, List.length_nil]; exact szl (by omega), ?_⟩
      refine ⟨_, rfl, p, _, _, _, rfl, rfl, sqT_of hp8.1, ha.2.2, _, rfl, log_num (by omega), ?_⟩
      rw [str_num]
      refine ⟨_, _, rfl, rfl, by simp only [len_app, S_len, List.length_cons, List.length_nil]; exact szl (by omega), ?_⟩
      rw [he]
      refine ⟨rfl, _, rfl, ?_⟩
      rw [decide_eq_true rfl]
      refine iteF ?_
      -- equality
      have same : ∀ z : Bool, (!decide (V.bl z = V.bl z)) = false := fun z => by rw [decide_eq_true rfl]; rfl
      have pe := plc_eq hi hj hi' hj' hv hv'
      have nt := kit_not (K := K) T.Environment_cl T.Environment_rd (T := "tuple") (by decide +kernel)
      have ns := kit_not (K := K) T.Environment_cl T.Environment_rd (T := "str") (by decide +kernel)
      refine ⟨_, rfl, _, rfl, e, dx, _, e', dx', _, rfl, rfl, ea, ea', e, _, _, _, _, rfl, en8, .inl ⟨e', _, _, _, rfl, en8', ?_⟩⟩
      refine ⟨_, rfl, _, rfl, spD i j v, spD i' j' v', hp8.dp, hp8'.dp, spD_shaped _ _ _, spD_shaped _ _ _, rfl, _, rfl, ?_⟩
      rw [spD_eqv, pe, same]
      refine iteF ?_
      refine ⟨_, rfl, _, rfl, e, dx, _, e', dx', _, rfl, rfl, ea, ea', e, _, _, _, _, rfl, en8, .inl ⟨e', _, _, _, rfl, en8', _, rfl, ?_⟩⟩
      refine ⟨_, rfl, _, rfl, spD i j v, spD i' j' v', hp8.dp, hp8'.dp, spD_shaped _ _ _, spD_shaped _ _ _, rfl, _, rfl, ?_⟩
      rw [spD_eqv, pe, same]
      refine iteF ?_
      refine ⟨_, rfl, _, rfl, e, dx, _, _, rfl, ea, .base (.tup hp8.1), nt.2, e, _, _, _, _, rfl, en8, .inr ⟨_, .base (.tup hp8.1), nt.1, _, rfl, iteF ?_⟩⟩
      refine ⟨_, rfl, _, rfl, e, dx, _, rfl, ea, e, _, _, _, rfl, en8, by omega, by omega, hv, _, rfl, e, dx, _, _, rfl, ea, .base (.str _), ns.2, e, _, _, _, _, rfl, en8, .inr ⟨_, .base (.str _), ns.1, _, rfl, iteF ?_⟩⟩
      -- order
      refine ⟨_, rfl, _, rfl, e, dx, _, e', dx', _, rfl, rfl, ea, ea', e, e', _, _, _, _, _, _, rfl, en8, en8', ?_⟩
      refine ⟨_, rfl, _, rfl, p, p', i, j, v, i', j', v', rfl, hp8, hp8', fun H8 s8 => ⟨rfl, _, rfl, ?_⟩⟩
      rw [plc_less hi hj hi' hj' hv hv', same]
      refine iteF ?_
      refine ⟨_, rfl, _, rfl, e', dx', _, e, dx, _, rfl, rfl, s8 _ _ ea', s8 _ _ ea, e', e, _, _, _, _, _, _, rfl, en8'.keep s8, en8.keep s8, ?_⟩
      refine ⟨_, rfl, _, rfl, p', p, i', j', v', i, j, v, rfl, hp8'.keep s8, hp8.keep s8, fun H9 s9 => ⟨rfl, _, rfl, ?_⟩⟩
      rw [plc_less hi' hj' hi hj hv' hv, same]
      refine iteF ?_
      have s89 := s8.trans s9
      have D9 := D8.keep s89
      have t9 := Tabs.same t8 s89
      have hp9 := hp8.keep s89
      clear s8 s9 s89 D8 t8 hp8 hp8' hp7' en8 en8' ea ea'
      refine ⟨_, rfl, _, rfl, d, c, p, _, i, j, v, rfl, D9, by omega, hp9, t9, fun H10 D10 _ t10 => ⟨_, rfl, iteF ?_⟩⟩
      exact ⟨_, rfl, d, c, _, rfl, D10, by omega, t10, fun H11 D11 _ t11 => ⟨_, rfl, iteF ⟨_, _, _, _, _, _, rfl, D11.mono (by omega), t11⟩⟩⟩
    · rintro σ H2 ⟨o2, o3, o4, o5, o6, o7, rfl, D2, t2⟩
      have x9 : V.str "9" = V.str (S [57]) := congrArg V.str (by decide +kernel)
      have x0 : V.str "0" = V.str (S [48]) := congrArg V.str (by decide +kernel)
      have xa : V.str "a" = V.str (S [97]) := congrArg V.str (by decide +kernel)
      have xb : V.str "b" = V.str (S [98]) := congrArg V.str (by decide +kernel)
      have yaa : (("a a " : String) : Str) = S [97, 32, 97, 32] := by decide +kernel
      have y1 : (("1" : String) : Str) = S [49] := by decide +kernel
      have ya0 : ((" a 0" : String) : Str) = S [32, 97, 32, 48] := by decide +kernel
      have yaa0 : (("a a 0" : String) : Str) = S (eW [97] [97] 0) := by decide +kernel
      have fl : ∀ c : Nat, (List.replicate 5000 c).length = 5000 := fun c => List.length_replicate
      have aR : ∀ c : Nat, c < 128 → Asc (List.replicate 5000 c) := fun c hc z hz => by
        rw [List.eq_of_mem_replicate hz]
        exact hc
      have aA : ∀ l m : List Nat, Asc l → Asc m → Asc (l ++ m) := fun l m h1 h2 z hz => (List.mem_append.mp hz).elim (h1 z) (h2 z)
      have a4 : Asc [97, 32, 97, 32] := by unfold Asc; decide
      have a1 : Asc [49] := by unfold Asc; decide
      have a3 : Asc [32, 97, 32, 48] := by unfold Asc; decide
      rw [yaa, y1, ya0]
      refine ⟨[57], 5000, x9, rfl, by simp, by decide, by decide, _, _, rfl, rfl, by rw [flat1, S_len, S_len, fl]; exact szL (by simp), ?_⟩
      refine ⟨[48], 5000, x0, rfl, by simp, by decide, by decide, _, _, rfl, rfl, by rw [flat1, S_len, S_len, fl]; exact szL (by simp), ?_⟩
      refine ⟨_, _, rfl, rfl, by rw [flat1, S_cat, S_len, S_len, List.length_append, fl]; exact szL (by simp), ?_⟩
      refine ⟨[97], 5000, xa, rfl, by simp, by decide, by decide, _, _, rfl, rfl, by rw [flat1, S_len, S_len, fl]; exact szL (by simp), ?_⟩
      rw [flat1, flat1, flat1, S_cat, S_cat, S_cat, S_cat]
      refine ⟨by show 3 ≤ sizeLine; decide, fun pr hpr => ?_⟩
      have q3 : (upd H2 pr (.tup [.str (S ([97, 32, 97, 32] ++ List.replicate 5000 57)), .str (S ([97, 32, 97, 32] ++ List.replicate 5000 48 ++ [49])), .str (S (List.replicate 5000 97 ++ [32, 97, 32, 48]))])) pr = some (.tup [.str (S ([97, 32, 97, 32] ++ List.replicate 5000 57)), .str (S ([97, 32, 97, 32] ++ List.replicate 5000 48 ++ [49])), .str (S (List.replicate 5000 97 ++ [32, 97, 32, 48]))]) := upd_same
      have t3 : Tabs D.tabs (upd H2 pr (.tup [.str (S ([97, 32, 97, 32] ++ List.replicate 5000 57)), .str (S ([97, 32, 97, 32] ++ List.replicate 5000 48 ++ [49])), .str (S (List.replicate 5000 97 ++ [32, 97, 32, 48]))])) := Tabs.same t2 (same_new hpr)
      have good : ∀ x ∈ [V.str (S ([97, 32, 97, 32] ++ List.replicate 5000 57)), .str (S ([97, 32, 97, 32] ++ List.replicate 5000 48 ++ [49])), .str (S (List.replicate 5000 97 ++ [32, 97, 32, 48]))], ∃ l : List Nat, x = .str (S l) ∧ l.length ≤ 80000 ∧ eT l = none ∧ Asc l := by
        intro x hx
        simp only [List.mem_cons, List.not_mem_nil, or_false] at hx
        rcases hx with rfl | rfl | rfl
        · exact ⟨_, rfl, by rw [List.length_append, fl]; simp, long1, aA _ _ a4 (aR 57 (by decide))⟩
        · exact ⟨_, rfl, by rw [List.length_append, List.length_append, fl]; simp, long2, aA _ _ (aA _ _ a4 (aR 48 (by decide))) a1⟩
        · exact ⟨_, rfl, by rw [List.length_append, fl]; simp, long3, aA _ _ (aR 97 (by decide)) a3⟩
      revert q3 t3 good
      generalize [V.str (S ([97, 32, 97, 32] ++ List.replicate 5000 57)), .str (S ([97, 32, 97, 32] ++ List.replicate 5000 48 ++ [49])), .str (S (List.replicate 5000 97 ++ [32, 97, 32, 48]))] = rows
      generalize upd H2 pr (.tup rows) = H3
      intro q3 t3 good
      refine ⟨pr, rfl, ⟨_, sqT_of q3⟩, for_tup (K := K) (xs := rows) (fun _ σ H' => (∃ o2 o3 o4 o5 o6 o7 : Option V, σ = [some (.ref a), some (.ref d), o2, o3, o4, o5, o6, o7]) ∧ H' pr = some (.tup rows) ∧ Tabs D.tabs H')
        ⟨⟨_, _, _, _, _, _, rfl⟩, q3, t3⟩ (fun _ _ _ _ h => sqT_of h.2.1) ?_ ?_⟩
      · rintro k x σ H4 hx ⟨⟨o2, o3, o4, o5, o6, o7, rfl⟩, q4, t4⟩
        obtain ⟨l, rfl, hl, hn, ha⟩ := good x (List.mem_of_getElem? hx)
        refine ⟨t4, fun H5 x5 t5 => fun H6 E6 Q6 s6 hE6 _ => ?_⟩
        refine ⟨rfl, _, rfl, .str (S l), rfl, .inr ⟨.inl ⟨l, rfl, hl, hn⟩, fun e7 H7 s7 he7 => hE6 e7 _ H7 he7 fun q4' H8 s8 _ hq4 => ?_⟩⟩
        refine ⟨_, rfl, by show 1 ≤ sizeLine; decide, fun q5 hq5 => ?_⟩
        have ok := asc_ok ha
        refine ⟨.tuple [.str (S l)], .tuple [.str (S l)], .tup (sqT_of (same_new hq5 _ _ hq4)) (.cons (.str _) .nil), .tup (sqT_of upd_same) (.cons (.str _) .nil), (one_tup ok).2, (one_tup ok).2, _, rfl, ?_⟩
        rw [(one_tup ok).1]
        have s9 := (s6.trans (s7.trans s8)).trans (same_new (o := .tup [.str (S l)]) hq5)
        exact iteF ⟨⟨_, _, _, _, _, _, rfl⟩, s9 _ _ (x5 _ _ q4 tup_n), Tabs.same t5 s9⟩
      · rintro σ H4 ⟨⟨o2, o3, o4, o5, o6, o7, rfl⟩, q4, t4⟩
        have wa : wordT [97] = true := by decide
        have wb : wordT [98] = true := by decide
        refine fun x dx hx hdx _ => ⟨x, dx, _, _, _, rfl, upd_same, .inl ⟨[97], [97], 0, xa, xa, rfl, wa, wa, by decide, fun H5 s5 => ⟨rfl, ?_⟩⟩⟩
        have en : Env D.a_Environment (upd H5 x (.ins D.a_Environment dx (EnF [97] [97] 0))) x [97] [97] 0 := ⟨dx, upd_same⟩
        obtain ⟨_, ea⟩ := id en
        refine ⟨x, _, _, rfl, ea, x, [97], [97], 0, rfl, en, by decide, by decide, by decide, _, rfl, rfl, ?_⟩
        rw [yaa0, decide_eq_true rfl]
        refine ⟨_, rfl, iteT ?_⟩
        refine ⟨rfl, fun y dy hy hdy _ => ⟨y, dy, _, _, _, rfl, upd_same, .inl ⟨[97], [97], 99, xa, xa, rfl, wa, wa, by decide, fun H6 s6 => ⟨rfl, ?_⟩⟩⟩⟩
        have en1 : Env D.a_Environment (upd H6 y (.ins D.a_Environment dy (EnF [97] [97] 99))) y [97] [97] 99 := ⟨dy, upd_same⟩
        refine ⟨rfl, fun z dz hz hdz _ => ⟨z, dz, _, _, _, rfl, upd_same, .inl ⟨[97], [98], 0, xa, xb, rfl, wa, wb, by decide, fun H7 s7 => ⟨rfl, ?_⟩⟩⟩⟩
        have en2 : Env D.a_Environment (upd H7 z (.ins D.a_Environment dz (EnF [97] [98] 0))) z [97] [98] 0 := ⟨dz, upd_same⟩
        have en3 := en1.keep (made_same (fs := EnF [97] [98] 0) hz hdz s7)
        obtain ⟨_, ea3⟩ := id en3
        refine ⟨y, _, _, z, dz, _, rfl, rfl, ea3, upd_same, y, z, _, _, _, _, _, _, rfl, en3, en2, ?_⟩
        rw [decide_eq_true (show plc [97] [97] 99 < plc [97] [98] 0 by decide +kernel)]
        exact q _
end

theorem all_mk {l : PySem.W.OpenLaw} {w : World} {K : PySem.W.Frag} {h : Heap} {mg : Str → Option Value} {fa : Addr} (X : K.In h) (G : h.Ns mainGlobals mg) (hfa : mg "law" = some (.ref fa))
    {f_is_whole : Addr} {od_is_whole an_is_whole : Option Addr} {sl_is_whole : Array (Option Value)} {oc_is_whole kV_is_whole dc_is_whole pm_is_whole cd_is_whole ct_is_whole : Value}
    (n_is_whole : PySem.W.nsIn K mainGlobals "is_whole" = some (some (.ref f_is_whole)))
    (l_is_whole : K.lookup f_is_whole = some ⟨oc_is_whole, od_is_whole, .func (PySem.W.fnOf "is_whole" "is_whole" (defArgs s_is_whole) (defBody s_is_whole) (defScope s_is_whole) .none kV_is_whole dc_is_whole pm_is_whole an_is_whole cd_is_whole ct_is_whole), sl_is_whole⟩)
    (c_is_whole : PySem.W.codeIn K cd_is_whole "is_whole" = true)
    (k_is_whole : PySem.W.keepIn K (.ref f_is_whole) = true)
    {f_is_count : Addr} {od_is_count an_is_count : Option Addr} {sl_is_count : Array (Option Value)} {oc_is_count kV_is_count dc_is_count pm_is_count cd_is_count ct_is_count : Value}
    (n_is_count : PySem.W.nsIn K mainGlobals "is_count" = some (some (.ref f_is_count)))
    (l_is_count : K.lookup f_is_count = some ⟨oc_is_count, od_is_count, .func (PySem.W.fnOf "is_count" "is_count" (defArgs s_is_count) (defBody s_is_count) (defScope s_is_count) .none kV_is_count dc_is_count pm_is_count an_is_count cd_is_count ct_is_count), sl_is_count⟩)
    (c_is_count : PySem.W.codeIn K cd_is_count "is_count" = true)
    (k_is_count : PySem.W.keepIn K (.ref f_is_count) = true)
    {f_is_whole_to : Addr} {od_is_whole_to an_is_whole_to : Option Addr} {sl_is_whole_to : Array (Option Value)} {oc_is_whole_to kV_is_whole_to dc_is_whole_to pm_is_whole_to cd_is_whole_to ct_is_whole_to : Value}
    (n_is_whole_to : PySem.W.nsIn K mainGlobals "is_whole_to" = some (some (.ref f_is_whole_to)))
    (l_is_whole_to : K.lookup f_is_whole_to = some ⟨oc_is_whole_to, od_is_whole_to, .func (PySem.W.fnOf "is_whole_to" "is_whole_to" (defArgs s_is_whole_to) (defBody s_is_whole_to) (defScope s_is_whole_to) .none kV_is_whole_to dc_is_whole_to pm_is_whole_to an_is_whole_to cd_is_whole_to ct_is_whole_to), sl_is_whole_to⟩)
    (c_is_whole_to : PySem.W.codeIn K cd_is_whole_to "is_whole_to" = true)
    (k_is_whole_to : PySem.W.keepIn K (.ref f_is_whole_to) = true)
    {f_consists_of : Addr} {od_consists_of an_consists_of : Option Addr} {sl_consists_of : Array (Option Value)} {oc_consists_of kV_consists_of dc_consists_of pm_consists_of cd_consists_of ct_consists_of : Value}
    (n_consists_of : PySem.W.nsIn K mainGlobals "consists_of" = some (some (.ref f_consists_of)))
    (l_consists_of : K.lookup f_consists_of = some ⟨oc_consists_of, od_consists_of, .func (PySem.W.fnOf "consists_of" "consists_of" (defArgs s_consists_of) (defBody s_consists_of) (defScope s_consists_of) .none kV_consists_of dc_consists_of pm_consists_of an_consists_of cd_consists_of ct_consists_of), sl_consists_of⟩)
    (c_consists_of : PySem.W.codeIn K cd_consists_of "consists_of" = true)
    (k_consists_of : PySem.W.keepIn K (.ref f_consists_of) = true)
    {f_is_string_of : Addr} {od_is_string_of an_is_string_of : Option Addr} {sl_is_string_of : Array (Option Value)} {oc_is_string_of kV_is_string_of dc_is_string_of pm_is_string_of cd_is_string_of ct_is_string_of : Value}
    (n_is_string_of : PySem.W.nsIn K mainGlobals "is_string_of" = some (some (.ref f_is_string_of)))
    (l_is_string_of : K.lookup f_is_string_of = some ⟨oc_is_string_of, od_is_string_of, .func (PySem.W.fnOf "is_string_of" "is_string_of" (defArgs s_is_string_of) (defBody s_is_string_of) (defScope s_is_string_of) .none kV_is_string_of dc_is_string_of pm_is_string_of an_is_string_of cd_is_string_of ct_is_string_of), sl_is_string_of⟩)
    (c_is_string_of : PySem.W.codeIn K cd_is_string_of "is_string_of" = true)
    (k_is_string_of : PySem.W.keepIn K (.ref f_is_string_of) = true)
    {f_number_in : Addr} {od_number_in an_number_in : Option Addr} {sl_number_in : Array (Option Value)} {oc_number_in kV_number_in dc_number_in pm_number_in cd_number_in ct_number_in : Value}
    (n_number_in : PySem.W.nsIn K mainGlobals "number_in" = some (some (.ref f_number_in)))
    (l_number_in : K.lookup f_number_in = some ⟨oc_number_in, od_number_in, .func (PySem.W.fnOf "number_in" "number_in" (defArgs s_number_in) (defBody s_number_in) (defScope s_number_in) .none kV_number_in dc_number_in pm_number_in an_number_in cd_number_in ct_number_in), sl_number_in⟩)
    (c_number_in : PySem.W.codeIn K cd_number_in "number_in" = true)
    (k_number_in : PySem.W.keepIn K (.ref f_number_in) = true)
    {f_is_word : Addr} {od_is_word an_is_word : Option Addr} {sl_is_word : Array (Option Value)} {oc_is_word kV_is_word dc_is_word pm_is_word cd_is_word ct_is_word : Value}
    (n_is_word : PySem.W.nsIn K mainGlobals "is_word" = some (some (.ref f_is_word)))
    (l_is_word : K.lookup f_is_word = some ⟨oc_is_word, od_is_word, .func (PySem.W.fnOf "is_word" "is_word" (defArgs s_is_word) (defBody s_is_word) (defScope s_is_word) .none kV_is_word dc_is_word pm_is_word an_is_word cd_is_word ct_is_word), sl_is_word⟩)
    (c_is_word : PySem.W.codeIn K cd_is_word "is_word" = true)
    (k_is_word : PySem.W.keepIn K (.ref f_is_word) = true)
    {f_place_of_word : Addr} {od_place_of_word an_place_of_word : Option Addr} {sl_place_of_word : Array (Option Value)} {oc_place_of_word kV_place_of_word dc_place_of_word pm_place_of_word cd_place_of_word ct_place_of_word : Value}
    (n_place_of_word : PySem.W.nsIn K mainGlobals "place_of_word" = some (some (.ref f_place_of_word)))
    (l_place_of_word : K.lookup f_place_of_word = some ⟨oc_place_of_word, od_place_of_word, .func (PySem.W.fnOf "place_of_word" "place_of_word" (defArgs s_place_of_word) (defBody s_place_of_word) (defScope s_place_of_word) .none kV_place_of_word dc_place_of_word pm_place_of_word an_place_of_word cd_place_of_word ct_place_of_word), sl_place_of_word⟩)
    (c_place_of_word : PySem.W.codeIn K cd_place_of_word "place_of_word" = true)
    (k_place_of_word : PySem.W.keepIn K (.ref f_place_of_word) = true)
    {f_place_of : Addr} {od_place_of an_place_of : Option Addr} {sl_place_of : Array (Option Value)} {oc_place_of kV_place_of dc_place_of pm_place_of cd_place_of ct_place_of : Value}
    (n_place_of : PySem.W.nsIn K mainGlobals "place_of" = some (some (.ref f_place_of)))
    (l_place_of : K.lookup f_place_of = some ⟨oc_place_of, od_place_of, .func (PySem.W.fnOf "place_of" "place_of" (defArgs s_place_of) (defBody s_place_of) (defScope s_place_of) .none kV_place_of dc_place_of pm_place_of an_place_of cd_place_of ct_place_of), sl_place_of⟩)
    (c_place_of : PySem.W.codeIn K cd_place_of "place_of" = true)
    (k_place_of : PySem.W.keepIn K (.ref f_place_of) = true)
    {f_parts_of_environment : Addr} {od_parts_of_environment an_parts_of_environment : Option Addr} {sl_parts_of_environment : Array (Option Value)} {oc_parts_of_environment kV_parts_of_environment dc_parts_of_environment pm_parts_of_environment cd_parts_of_environment ct_parts_of_environment : Value}
    (n_parts_of_environment : PySem.W.nsIn K mainGlobals "parts_of_environment" = some (some (.ref f_parts_of_environment)))
    (l_parts_of_environment : K.lookup f_parts_of_environment = some ⟨oc_parts_of_environment, od_parts_of_environment, .func (PySem.W.fnOf "parts_of_environment" "parts_of_environment" (defArgs s_parts_of_environment) (defBody s_parts_of_environment) (defScope s_parts_of_environment) .none kV_parts_of_environment dc_parts_of_environment pm_parts_of_environment an_parts_of_environment cd_parts_of_environment ct_parts_of_environment), sl_parts_of_environment⟩)
    (c_parts_of_environment : PySem.W.codeIn K cd_parts_of_environment "parts_of_environment" = true)
    (k_parts_of_environment : PySem.W.keepIn K (.ref f_parts_of_environment) = true)
    {f_written_environment : Addr} {od_written_environment an_written_environment : Option Addr} {sl_written_environment : Array (Option Value)} {oc_written_environment kV_written_environment dc_written_environment pm_written_environment cd_written_environment ct_written_environment : Value}
    (n_written_environment : PySem.W.nsIn K mainGlobals "written_environment" = some (some (.ref f_written_environment)))
    (l_written_environment : K.lookup f_written_environment = some ⟨oc_written_environment, od_written_environment, .func (PySem.W.fnOf "written_environment" "written_environment" (defArgs s_written_environment) (defBody s_written_environment) (defScope s_written_environment) .none kV_written_environment dc_written_environment pm_written_environment an_written_environment cd_written_environment ct_written_environment), sl_written_environment⟩)
    (c_written_environment : PySem.W.codeIn K cd_written_environment "written_environment" = true)
    (k_written_environment : PySem.W.keepIn K (.ref f_written_environment) = true)
    {f_Environment : Addr}
    {f_Environment_init : Addr} {od_Environment_init an_Environment_init : Option Addr} {sl_Environment_init : Array (Option Value)} {oc_Environment_init dc_Environment_init pm_Environment_init cd_Environment_init ct_Environment_init : Value}
    (n_Environment : PySem.W.nsIn K mainGlobals "Environment" = some (some (.ref f_Environment)))
    (at_Environment_init : PySem.W.findIn K (.ref f_Environment) "__init__" = some (some (.ref f_Environment_init)))
    {kD_Environment_init : Addr} {kt_Environment_init_system : Tok} {kt_Environment_init_machine : Tok} {kt_Environment_init_level : Tok}
    (l_Environment_init : K.lookup f_Environment_init = some ⟨oc_Environment_init, od_Environment_init, .func (PySem.W.fnOf "__init__" "Environment.__init__" (defArgs s_Environment_init) (defBody s_Environment_init) (defScope s_Environment_init) .none (.ref kD_Environment_init) dc_Environment_init pm_Environment_init an_Environment_init cd_Environment_init ct_Environment_init), sl_Environment_init⟩)
    (kd_Environment_init_system : PySem.W.nsIn K kD_Environment_init "system" = some (some (.str "a" kt_Environment_init_system)))
    (kd_Environment_init_machine : PySem.W.nsIn K kD_Environment_init "machine" = some (some (.str "a" kt_Environment_init_machine)))
    (kd_Environment_init_level : PySem.W.nsIn K kD_Environment_init "level" = some (some (.int 0 kt_Environment_init_level)))
    (c_Environment_init : PySem.W.codeIn K cd_Environment_init "Environment.__init__" = true)
    (k_Environment_init : PySem.W.keepIn K (.ref f_Environment_init) = true)
    {f_Environment_read : Addr} {od_Environment_read an_Environment_read : Option Addr} {sl_Environment_read : Array (Option Value)} {oc_Environment_read kV_Environment_read dc_Environment_read pm_Environment_read cd_Environment_read ct_Environment_read : Value}
    {p_Environment_read : Addr} {r_Environment_read : List Value}
    (at_Environment_read : PySem.W.findCls K (.ref f_Environment) (.type "type") "read" = some (.get (.builtin "staticmethod.__get__") (.ref p_Environment_read) .none (.ref f_Environment)))
    (rc_Environment_read : PySem.W.recIn K p_Environment_read "staticmethod" = some (.ref f_Environment_read :: r_Environment_read))
    (l_Environment_read : K.lookup f_Environment_read = some ⟨oc_Environment_read, od_Environment_read, .func (PySem.W.fnOf "read" "Environment.read" (defArgs s_Environment_read) (defBody s_Environment_read) (defScope s_Environment_read) .none kV_Environment_read dc_Environment_read pm_Environment_read an_Environment_read cd_Environment_read ct_Environment_read), sl_Environment_read⟩)
    (c_Environment_read : PySem.W.codeIn K cd_Environment_read "Environment.read" = true)
    (k_Environment_read : PySem.W.keepIn K (.ref f_Environment_read) = true)
    {f_Environment_system : Addr} {od_Environment_system an_Environment_system : Option Addr} {sl_Environment_system : Array (Option Value)} {oc_Environment_system kV_Environment_system dc_Environment_system pm_Environment_system cd_Environment_system ct_Environment_system : Value}
    {p_Environment_system : Addr} {r_Environment_system : List Value}
    (at_Environment_system : PySem.W.findIn K (.ref f_Environment) "system" = some (some (.ref p_Environment_system)))
    (rc_Environment_system : PySem.W.recIn K p_Environment_system "property" = some (.ref f_Environment_system :: r_Environment_system))
    (l_Environment_system : K.lookup f_Environment_system = some ⟨oc_Environment_system, od_Environment_system, .func (PySem.W.fnOf "system" "Environment.system" (defArgs s_Environment_system) (defBody s_Environment_system) (defScope s_Environment_system) .none kV_Environment_system dc_Environment_system pm_Environment_system an_Environment_system cd_Environment_system ct_Environment_system), sl_Environment_system⟩)
    (c_Environment_system : PySem.W.codeIn K cd_Environment_system "Environment.system" = true)
    (k_Environment_system : PySem.W.keepIn K (.ref f_Environment_system) = true)
    {f_Environment_machine : Addr} {od_Environment_machine an_Environment_machine : Option Addr} {sl_Environment_machine : Array (Option Value)} {oc_Environment_machine kV_Environment_machine dc_Environment_machine pm_Environment_machine cd_Environment_machine ct_Environment_machine : Value}
    {p_Environment_machine : Addr} {r_Environment_machine : List Value}
    (at_Environment_machine : PySem.W.findIn K (.ref f_Environment) "machine" = some (some (.ref p_Environment_machine)))
    (rc_Environment_machine : PySem.W.recIn K p_Environment_machine "property" = some (.ref f_Environment_machine :: r_Environment_machine))
    (l_Environment_machine : K.lookup f_Environment_machine = some ⟨oc_Environment_machine, od_Environment_machine, .func (PySem.W.fnOf "machine" "Environment.machine" (defArgs s_Environment_machine) (defBody s_Environment_machine) (defScope s_Environment_machine) .none kV_Environment_machine dc_Environment_machine pm_Environment_machine an_Environment_machine cd_Environment_machine ct_Environment_machine), sl_Environment_machine⟩)
    (c_Environment_machine : PySem.W.codeIn K cd_Environment_machine "Environment.machine" = true)
    (k_Environment_machine : PySem.W.keepIn K (.ref f_Environment_machine) = true)
    {f_Environment_level : Addr} {od_Environment_level an_Environment_level : Option Addr} {sl_Environment_level : Array (Option Value)} {oc_Environment_level kV_Environment_level dc_Environment_level pm_Environment_level cd_Environment_level ct_Environment_level : Value}
    {p_Environment_level : Addr} {r_Environment_level : List Value}
    (at_Environment_level : PySem.W.findIn K (.ref f_Environment) "level" = some (some (.ref p_Environment_level)))
    (rc_Environment_level : PySem.W.recIn K p_Environment_level "property" = some (.ref f_Environment_level :: r_Environment_level))
    (l_Environment_level : K.lookup f_Environment_level = some ⟨oc_Environment_level, od_Environment_level, .func (PySem.W.fnOf "level" "Environment.level" (defArgs s_Environment_level) (defBody s_Environment_level) (defScope s_Environment_level) .none kV_Environment_level dc_Environment_level pm_Environment_level an_Environment_level cd_Environment_level ct_Environment_level), sl_Environment_level⟩)
    (c_Environment_level : PySem.W.codeIn K cd_Environment_level "Environment.level" = true)
    (k_Environment_level : PySem.W.keepIn K (.ref f_Environment_level) = true)
    {f_Environment_eq : Addr} {od_Environment_eq an_Environment_eq : Option Addr} {sl_Environment_eq : Array (Option Value)} {oc_Environment_eq kV_Environment_eq dc_Environment_eq pm_Environment_eq cd_Environment_eq ct_Environment_eq : Value}
    (at_Environment_eq : PySem.W.findIn K (.ref f_Environment) "__eq__" = some (some (.ref f_Environment_eq)))
    (l_Environment_eq : K.lookup f_Environment_eq = some ⟨oc_Environment_eq, od_Environment_eq, .func (PySem.W.fnOf "__eq__" "Environment.__eq__" (defArgs s_Environment_eq) (defBody s_Environment_eq) (defScope s_Environment_eq) .none kV_Environment_eq dc_Environment_eq pm_Environment_eq an_Environment_eq cd_Environment_eq ct_Environment_eq), sl_Environment_eq⟩)
    (c_Environment_eq : PySem.W.codeIn K cd_Environment_eq "Environment.__eq__" = true)
    (k_Environment_eq : PySem.W.keepIn K (.ref f_Environment_eq) = true)
    {f_Environment_lt : Addr} {od_Environment_lt an_Environment_lt : Option Addr} {sl_Environment_lt : Array (Option Value)} {oc_Environment_lt kV_Environment_lt dc_Environment_lt pm_Environment_lt cd_Environment_lt ct_Environment_lt : Value}
    (at_Environment_lt : PySem.W.findIn K (.ref f_Environment) "__lt__" = some (some (.ref f_Environment_lt)))
    (l_Environment_lt : K.lookup f_Environment_lt = some ⟨oc_Environment_lt, od_Environment_lt, .func (PySem.W.fnOf "__lt__" "Environment.__lt__" (defArgs s_Environment_lt) (defBody s_Environment_lt) (defScope s_Environment_lt) .none kV_Environment_lt dc_Environment_lt pm_Environment_lt an_Environment_lt cd_Environment_lt ct_Environment_lt), sl_Environment_lt⟩)
    (c_Environment_lt : PySem.W.codeIn K cd_Environment_lt "Environment.__lt__" = true)
    (k_Environment_lt : PySem.W.keepIn K (.ref f_Environment_lt) = true)
    {f_Environment_str : Addr} {od_Environment_str an_Environment_str : Option Addr} {sl_Environment_str : Array (Option Value)} {oc_Environment_str kV_Environment_str dc_Environment_str pm_Environment_str cd_Environment_str ct_Environment_str : Value}
    (at_Environment_str : PySem.W.findIn K (.ref f_Environment) "__str__" = some (some (.ref f_Environment_str)))
    (l_Environment_str : K.lookup f_Environment_str = some ⟨oc_Environment_str, od_Environment_str, .func (PySem.W.fnOf "__str__" "Environment.__str__" (defArgs s_Environment_str) (defBody s_Environment_str) (defScope s_Environment_str) .none kV_Environment_str dc_Environment_str pm_Environment_str an_Environment_str cd_Environment_str ct_Environment_str), sl_Environment_str⟩)
    (c_Environment_str : PySem.W.codeIn K cd_Environment_str "Environment.__str__" = true)
    (k_Environment_str : PySem.W.keepIn K (.ref f_Environment_str) = true)
    {f_begin : Addr} {od_begin an_begin : Option Addr} {sl_begin : Array (Option Value)} {oc_begin kV_begin dc_begin pm_begin cd_begin ct_begin : Value}
    (n_begin : PySem.W.nsIn K mainGlobals "_law_begin" = some (some (.ref f_begin)))
    (l_begin : K.lookup f_begin = some ⟨oc_begin, od_begin, .func (PySem.W.fnOf "_law_begin" "_law_begin" (defArgs s_begin) (defBody s_begin) (defScope s_begin) .none kV_begin dc_begin pm_begin an_begin cd_begin ct_begin), sl_begin⟩)
    (c_begin : PySem.W.codeIn K cd_begin "_law_begin" = true)
    (k_begin : PySem.W.keepIn K (.ref f_begin) = true)
    {f_mixed : Addr} {od_mixed an_mixed : Option Addr} {sl_mixed : Array (Option Value)} {oc_mixed kV_mixed dc_mixed pm_mixed cd_mixed ct_mixed : Value}
    (n_mixed : PySem.W.nsIn K mainGlobals "_law_mixed" = some (some (.ref f_mixed)))
    (l_mixed : K.lookup f_mixed = some ⟨oc_mixed, od_mixed, .func (PySem.W.fnOf "_law_mixed" "_law_mixed" (defArgs s_mixed) (defBody s_mixed) (defScope s_mixed) .none kV_mixed dc_mixed pm_mixed an_mixed cd_mixed ct_mixed), sl_mixed⟩)
    (c_mixed : PySem.W.codeIn K cd_mixed "_law_mixed" = true)
    (k_mixed : PySem.W.keepIn K (.ref f_mixed) = true)
    {f_next : Addr} {od_next an_next : Option Addr} {sl_next : Array (Option Value)} {oc_next kV_next dc_next pm_next cd_next ct_next : Value}
    (n_next : PySem.W.nsIn K mainGlobals "_law_next" = some (some (.ref f_next)))
    (l_next : K.lookup f_next = some ⟨oc_next, od_next, .func (PySem.W.fnOf "_law_next" "_law_next" (defArgs s_next) (defBody s_next) (defScope s_next) .none kV_next dc_next pm_next an_next cd_next ct_next), sl_next⟩)
    (c_next : PySem.W.codeIn K cd_next "_law_next" = true)
    (k_next : PySem.W.keepIn K (.ref f_next) = true)
    {f_spot : Addr} {od_spot an_spot : Option Addr} {sl_spot : Array (Option Value)} {oc_spot kV_spot dc_spot pm_spot cd_spot ct_spot : Value}
    (n_spot : PySem.W.nsIn K mainGlobals "_law_spot" = some (some (.ref f_spot)))
    (l_spot : K.lookup f_spot = some ⟨oc_spot, od_spot, .func (PySem.W.fnOf "_law_spot" "_law_spot" (defArgs s_spot) (defBody s_spot) (defScope s_spot) .none kV_spot dc_spot pm_spot an_spot cd_spot ct_spot), sl_spot⟩)
    (c_spot : PySem.W.codeIn K cd_spot "_law_spot" = true)
    (k_spot : PySem.W.keepIn K (.ref f_spot) = true)
    {f_environment : Addr} {od_environment an_environment : Option Addr} {sl_environment : Array (Option Value)} {oc_environment kV_environment dc_environment pm_environment cd_environment ct_environment : Value}
    (n_environment : PySem.W.nsIn K mainGlobals "_law_environment" = some (some (.ref f_environment)))
    (l_environment : K.lookup f_environment = some ⟨oc_environment, od_environment, .func (PySem.W.fnOf "_law_environment" "_law_environment" (defArgs s_environment) (defBody s_environment) (defScope s_environment) .none kV_environment dc_environment pm_environment an_environment cd_environment ct_environment), sl_environment⟩)
    (c_environment : PySem.W.codeIn K cd_environment "_law_environment" = true)
    (k_environment : PySem.W.keepIn K (.ref f_environment) = true)
    {f_told : Addr} {od_told an_told : Option Addr} {sl_told : Array (Option Value)} {oc_told kV_told dc_told pm_told cd_told ct_told : Value}
    (n_told : PySem.W.nsIn K mainGlobals "_law_told" = some (some (.ref f_told)))
    (l_told : K.lookup f_told = some ⟨oc_told, od_told, .func (PySem.W.fnOf "_law_told" "_law_told" (defArgs s_told) (defBody s_told) (defScope s_told) .none kV_told dc_told pm_told an_told cd_told ct_told), sl_told⟩)
    (c_told : PySem.W.codeIn K cd_told "_law_told" = true)
    (k_told : PySem.W.keepIn K (.ref f_told) = true)
    {f_l_is_word : Addr} {od_l_is_word an_l_is_word : Option Addr} {sl_l_is_word : Array (Option Value)} {oc_l_is_word kV_l_is_word dc_l_is_word pm_l_is_word cd_l_is_word ct_l_is_word : Value}
    (n_l_is_word : PySem.W.nsIn K mainGlobals "_law_is_word" = some (some (.ref f_l_is_word)))
    (l_l_is_word : K.lookup f_l_is_word = some ⟨oc_l_is_word, od_l_is_word, .func (PySem.W.fnOf "_law_is_word" "_law_is_word" (defArgs s_l_is_word) (defBody s_l_is_word) (defScope s_l_is_word) .none kV_l_is_word dc_l_is_word pm_l_is_word an_l_is_word cd_l_is_word ct_l_is_word), sl_l_is_word⟩)
    (c_l_is_word : PySem.W.codeIn K cd_l_is_word "_law_is_word" = true)
    (k_l_is_word : PySem.W.keepIn K (.ref f_l_is_word) = true)
    {f_is_right : Addr} {od_is_right an_is_right : Option Addr} {sl_is_right : Array (Option Value)} {oc_is_right kV_is_right dc_is_right pm_is_right cd_is_right ct_is_right : Value}
    (n_is_right : PySem.W.nsIn K mainGlobals "_law_is_right" = some (some (.ref f_is_right)))
    (l_is_right : K.lookup f_is_right = some ⟨oc_is_right, od_is_right, .func (PySem.W.fnOf "_law_is_right" "_law_is_right" (defArgs s_is_right) (defBody s_is_right) (defScope s_is_right) .none kV_is_right dc_is_right pm_is_right an_is_right cd_is_right ct_is_right), sl_is_right⟩)
    (c_is_right : PySem.W.codeIn K cd_is_right "_law_is_right" = true)
    (k_is_right : PySem.W.keepIn K (.ref f_is_right) = true)
    {f_is_less : Addr} {od_is_less an_is_less : Option Addr} {sl_is_less : Array (Option Value)} {oc_is_less kV_is_less dc_is_less pm_is_less cd_is_less ct_is_less : Value}
    (n_is_less : PySem.W.nsIn K mainGlobals "_law_is_less" = some (some (.ref f_is_less)))
    (l_is_less : K.lookup f_is_less = some ⟨oc_is_less, od_is_less, .func (PySem.W.fnOf "_law_is_less" "_law_is_less" (defArgs s_is_less) (defBody s_is_less) (defScope s_is_less) .none kV_is_less dc_is_less pm_is_less an_is_less cd_is_less ct_is_less), sl_is_less⟩)
    (c_is_less : PySem.W.codeIn K cd_is_less "_law_is_less" = true)
    (k_is_less : PySem.W.keepIn K (.ref f_is_less) = true)
    {f_read_right : Addr} {od_read_right an_read_right : Option Addr} {sl_read_right : Array (Option Value)} {oc_read_right kV_read_right dc_read_right pm_read_right ct_read_right : Value}
    (n_read_right : PySem.W.nsIn K mainGlobals "_law_read_right" = some (some (.ref f_read_right)))
    {cc_read_right cP_read_right : Addr} {cy_read_right : Option Addr} {cv_read_right : Array Value} {cz_read_right : Array (Option Value)}
    (l_read_right : K.lookup f_read_right = some ⟨oc_read_right, od_read_right, .func (PySem.W.fnOf "_law_read_right" "_law_read_right" (defArgs s_read_right) (defBody s_read_right) (defScope s_read_right) .none kV_read_right dc_read_right pm_read_right an_read_right (.ref cc_read_right) ct_read_right), sl_read_right⟩)
    (lc_read_right : K.lookup cc_read_right = some ⟨.type "code", cy_read_right, .fields cv_read_right, cz_read_right⟩)
    (tp_read_right : (cv_read_right[11]? : Option Value) = some (.ref cP_read_right))
    (ch_read_right : PySem.W.codeHdIn K cc_read_right cP_read_right = true)
    (ol_read_right : K.lookup cP_read_right = none)
    (mt_read_right : h.get? cP_read_right = some { cls := .none, data := .fields #[] })
    (c_read_right : PySem.W.codeIn K (.ref cc_read_right) "_law_read_right" = true)
    (k_read_right : PySem.W.keepIn K (.ref f_read_right) = true)
    {f_refused_right : Addr} {od_refused_right an_refused_right : Option Addr} {sl_refused_right : Array (Option Value)} {oc_refused_right kV_refused_right dc_refused_right pm_refused_right ct_refused_right : Value}
    (n_refused_right : PySem.W.nsIn K mainGlobals "_law_refused_right" = some (some (.ref f_refused_right)))
    {cc_refused_right cP_refused_right : Addr} {cy_refused_right : Option Addr} {cv_refused_right : Array Value} {cz_refused_right : Array (Option Value)}
    (l_refused_right : K.lookup f_refused_right = some ⟨oc_refused_right, od_refused_right, .func (PySem.W.fnOf "_law_refused_right" "_law_refused_right" (defArgs s_refused_right) (defBody s_refused_right) (defScope s_refused_right) .none kV_refused_right dc_refused_right pm_refused_right an_refused_right (.ref cc_refused_right) ct_refused_right), sl_refused_right⟩)
    (lc_refused_right : K.lookup cc_refused_right = some ⟨.type "code", cy_refused_right, .fields cv_refused_right, cz_refused_right⟩)
    (tp_refused_right : (cv_refused_right[11]? : Option Value) = some (.ref cP_refused_right))
    (ch_refused_right : PySem.W.codeHdIn K cc_refused_right cP_refused_right = true)
    (ol_refused_right : K.lookup cP_refused_right = none)
    (mt_refused_right : h.get? cP_refused_right = some { cls := .none, data := .fields #[] })
    (c_refused_right : PySem.W.codeIn K (.ref cc_refused_right) "_law_refused_right" = true)
    (k_refused_right : PySem.W.keepIn K (.ref f_refused_right) = true)
    {f_law : Addr} {od_law an_law : Option Addr} {sl_law : Array (Option Value)} {oc_law kV_law dc_law pm_law ct_law : Value}
    (n_law : PySem.W.nsIn K mainGlobals "law" = some (some (.ref f_law)))
    {cc_law cP_law : Addr} {cy_law : Option Addr} {cv_law : Array Value} {cz_law : Array (Option Value)}
    (l_law : K.lookup f_law = some ⟨oc_law, od_law, .func (PySem.W.fnOf "law" "law" (defArgs s_law) (defBody s_law) (defScope s_law) .none kV_law dc_law pm_law an_law (.ref cc_law) ct_law), sl_law⟩)
    (lc_law : K.lookup cc_law = some ⟨.type "code", cy_law, .fields cv_law, cz_law⟩)
    (tp_law : (cv_law[11]? : Option Value) = some (.ref cP_law))
    (ch_law : PySem.W.codeHdIn K cc_law cP_law = true)
    (ol_law : K.lookup cP_law = none)
    (mt_law : h.get? cP_law = some { cls := .none, data := .fields #[] })
    (c_law : PySem.W.codeIn K (.ref cc_law) "law" = true)
    (k_law : PySem.W.keepIn K (.ref f_law) = true)
    {f_BadEnvironment : Addr}
    {f_BadEnvironment_init : Addr} {od_BadEnvironment_init an_BadEnvironment_init : Option Addr} {sl_BadEnvironment_init : Array (Option Value)} {oc_BadEnvironment_init kV_BadEnvironment_init dc_BadEnvironment_init pm_BadEnvironment_init cd_BadEnvironment_init ct_BadEnvironment_init : Value}
    (n_BadEnvironment : PySem.W.nsIn K mainGlobals "BadEnvironment" = some (some (.ref f_BadEnvironment)))
    (at_BadEnvironment_init : PySem.W.findIn K (.ref f_BadEnvironment) "__init__" = some (some (.ref f_BadEnvironment_init)))
    (l_BadEnvironment_init : K.lookup f_BadEnvironment_init = some ⟨oc_BadEnvironment_init, od_BadEnvironment_init, .func (PySem.W.fnOf "__init__" "BadEnvironment.__init__" (defArgs s_BadEnvironment_init) (defBody s_BadEnvironment_init) (defScope s_BadEnvironment_init) .none kV_BadEnvironment_init dc_BadEnvironment_init pm_BadEnvironment_init an_BadEnvironment_init cd_BadEnvironment_init ct_BadEnvironment_init), sl_BadEnvironment_init⟩)
    (c_BadEnvironment_init : PySem.W.codeIn K cd_BadEnvironment_init "BadEnvironment.__init__" = true)
    (k_BadEnvironment_init : PySem.W.keepIn K (.ref f_BadEnvironment_init) = true)
    (hu_read_right : ∀ p ∈ ([(cP_read_right, ("_law_read_right" ++ ".<locals>.") ++ "<lambda>"), (cP_refused_right, ("_law_refused_right" ++ ".<locals>.") ++ "<lambda>"), (cP_law, ("law" ++ ".<locals>.") ++ "<lambda>")] : List (Addr × Str)), p.1 = cP_read_right → p.2 = ("_law_read_right" ++ ".<locals>.") ++ "<lambda>")
    (hu_refused_right : ∀ p ∈ ([(cP_read_right, ("_law_read_right" ++ ".<locals>.") ++ "<lambda>"), (cP_refused_right, ("_law_refused_right" ++ ".<locals>.") ++ "<lambda>"), (cP_law, ("law" ++ ".<locals>.") ++ "<lambda>")] : List (Addr × Str)), p.1 = cP_refused_right → p.2 = ("_law_refused_right" ++ ".<locals>.") ++ "<lambda>")
    (hu_law : ∀ p ∈ ([(cP_read_right, ("_law_read_right" ++ ".<locals>.") ++ "<lambda>"), (cP_refused_right, ("_law_refused_right" ++ ".<locals>.") ++ "<lambda>"), (cP_law, ("law" ++ ".<locals>.") ++ "<lambda>")] : List (Addr × Str)), p.1 = cP_law → p.2 = ("law" ++ ".<locals>.") ++ "<lambda>")
    {nm_BadEnvironment qn_BadEnvironment : Str} {N_BadEnvironment : Addr} {bs_BadEnvironment bm_BadEnvironment : List Value} {sn_BadEnvironment : List Str} {sub_BadEnvironment : List Value} {ab_BadEnvironment : Bool} {col_BadEnvironment : Option Bool} {dd_BadEnvironment : Option Addr} {k0_BadEnvironment k1_BadEnvironment k2_BadEnvironment k3_BadEnvironment k5_BadEnvironment : Option Value}
    (xl_BadEnvironment : K.lookup f_BadEnvironment = some (excClassObj nm_BadEnvironment qn_BadEnvironment f_BadEnvironment N_BadEnvironment bs_BadEnvironment bm_BadEnvironment true sn_BadEnvironment sub_BadEnvironment ab_BadEnvironment col_BadEnvironment dd_BadEnvironment k0_BadEnvironment k1_BadEnvironment k2_BadEnvironment k3_BadEnvironment k5_BadEnvironment "ValueError.__new__"))
    (xr_BadEnvironment : PySem.HandSPX.refsVE bm_BadEnvironment = true)
    (xsa_BadEnvironment : PySem.W.findIn K (.ref f_BadEnvironment) "__setattr__" = some (some (.builtin "object.__setattr__")))
    (xb_BadEnvironment : PySem.W.subIn K (.ref f_BadEnvironment) (.type "BaseException") = some true)
    (xd_BadEnvironment : PySem.W.hasDictIn K f_BadEnvironment = true)
    (xy_BadEnvironment : PySem.W.typeIn K (.ref f_BadEnvironment) = some (.type "type"))
    (xk_BadEnvironment : PySem.W.keepIn K (.ref f_BadEnvironment) = true)
    (xg_BadEnvironment : PySem.W.findIn K (.ref f_BadEnvironment) "__getattribute__" = some (some (.builtin "BaseException.__getattribute__")))
    (xh_BadEnvironment : PySem.W.findIn K (.ref f_BadEnvironment) "__getattr__" = some none)
    (xc_BadEnvironment : PySem.W.findIn K (.ref f_BadEnvironment) "__class__" = some (some (.builtin "object.__class__")))
    (xn_BadEnvironment : PySem.W.specialIn K (.builtin "object.__class__") "__get__" = some (some (.builtin "getset_descriptor.__get__")))
    (xq_BadEnvironment : PySem.W.takesIn K (.builtin "object.__class__") = some true)
    (xm_BadEnvironment : PySem.W.mroIn K f_BadEnvironment (.type "object") = some true)
    (xt_BadEnvironment : PySem.W.typeIn K (.ref f_BadEnvironment_init) = some (.type "function"))
    (xf_BadEnvironment : PySem.W.findIn K (.ref f_BadEnvironment) "given" = some none)
    (xz_BadEnvironment : PySem.W.subIn K (.ref f_BadEnvironment) (.ref f_BadEnvironment) = some true)
    (xs_BadEnvironment_BadEnvironment : PySem.W.subIn K (.ref f_BadEnvironment) (.ref f_BadEnvironment) = some true)
    (on_Environment : PySem.W.findIn K (.ref f_Environment) "__ne__" = some (some (.builtin "object.__ne__")))
    (pg_Environment : PySem.W.plainGet K f_Environment Str.empty = true)
    (hd_Environment : PySem.W.hasDictIn K f_Environment = true)
    (po_Environment : PySem.W.plainOver K f_Environment = true)
    (sa_Environment : PySem.W.findIn K (.ref f_Environment) "__setattr__" = some (some (.builtin "object.__setattr__")))
    (mk_Environment : PySem.W.makesIn K f_Environment = true)
    (kc_Environment : PySem.W.keepIn K (.ref f_Environment) = true)
    (rd_Environment : PySem.W.readsIn K f_Environment (.type "type") = true)
    (ga_Environment : PySem.W.specialIn K (.ref f_Environment) "__getattribute__" = some (some (.builtin "type.__getattribute__")))
    (ca_Environment : PySem.W.findIn K (.ref f_Environment) "__class__" = some (some (.builtin "object.__class__")))
    (cn_Environment : PySem.W.specialIn K (.builtin "object.__class__") "__get__" = some (some (.builtin "getset_descriptor.__get__")))
    (ct_Environment : PySem.W.takesIn K (.builtin "object.__class__") = some true)
    (cm_Environment : PySem.W.mroIn K f_Environment (.type "object") = some true)
    (nf_Environment : PySem.W.notFirst K f_Environment (.ref f_Environment) = true)
    (fn_Environment_init : PySem.W.isFn K (.ref f_Environment_init) = true)
    (na_Environment_system : PySem.W.findIn K (.ref f_Environment) "_system" = some none)
    (na_Environment_machine : PySem.W.findIn K (.ref f_Environment) "_machine" = some none)
    (na_Environment_level : PySem.W.findIn K (.ref f_Environment) "_level" = some none)
    (na_Environment_place : PySem.W.findIn K (.ref f_Environment) "_place" = some none)
    (ge_Environment_system : PySem.W.specialIn K (.ref p_Environment_system) "__get__" = some (some (.builtin "property.__get__")))
    (tk_Environment_system : PySem.W.takesIn K (.ref p_Environment_system) = some true)
    (ge_Environment_machine : PySem.W.specialIn K (.ref p_Environment_machine) "__get__" = some (some (.builtin "property.__get__")))
    (tk_Environment_machine : PySem.W.takesIn K (.ref p_Environment_machine) = some true)
    (ge_Environment_level : PySem.W.specialIn K (.ref p_Environment_level) "__get__" = some (some (.builtin "property.__get__")))
    (tk_Environment_level : PySem.W.takesIn K (.ref p_Environment_level) = some true)
    (fn_Environment_eq : PySem.W.isFn K (.ref f_Environment_eq) = true)
    (fn_Environment_lt : PySem.W.isFn K (.ref f_Environment_lt) = true)
    (fn_Environment_str : PySem.W.isFn K (.ref f_Environment_str) = true)
    {t_LETTERS : Tok}
    (g_LETTERS : PySem.W.nsIn K mainGlobals "LETTERS" = some (some (.str "abcdefghijklmnopqrstuvwxyz" t_LETTERS)))
    {t_DIGITS : Tok}
    (g_DIGITS : PySem.W.nsIn K mainGlobals "DIGITS" = some (some (.str "0123456789" t_DIGITS)))
    {t_HIGHEST : Tok}
    (g_HIGHEST : PySem.W.nsIn K mainGlobals "HIGHEST" = some (some (.int 99 t_HIGHEST)))
    {t_WORDS : Tok}
    (g_WORDS : PySem.W.nsIn K mainGlobals "WORDS" = some (some (.int 100000000000000000 t_WORDS)))
    (z_all : PySem.W.nsIn K mainGlobals "all" = some none)
    (z_bool : PySem.W.nsIn K mainGlobals "bool" = some none)
    (z_int : PySem.W.nsIn K mainGlobals "int" = some none)
    (z_isinstance : PySem.W.nsIn K mainGlobals "isinstance" = some none)
    (z_len : PySem.W.nsIn K mainGlobals "len" = some none)
    (z_range : PySem.W.nsIn K mainGlobals "range" = some none)
    (z_str : PySem.W.nsIn K mainGlobals "str" = some none)
    (z_zip : PySem.W.nsIn K mainGlobals "zip" = some none) :
    ∃ (fd : FuncData) (cs : List (Addr × Addr)), Makers K h cs ∧ (∀ (s : Shared) (v : Value), BindsTo s fd ⟨[v], []⟩ [("_law_script", v)]) ∧ ∀ base : Heap, K.In base → base.Ns mainGlobals mg → (∀ p ∈ cs, LamX.TabB base mg p.1 p.2) → FnG l.prog w K mg base 17 fa fd ["_law_script"] (spLaw K cs) := by
  have e0 := hfa.symm.trans (PySem.W.mg_of X G n_law)
  have e : f_law = fa := by
    cases e0
    rfl
  subst e
  have F_is_whole := fun_mk (st := s_is_whole) l_is_whole c_is_whole k_is_whole
  have B_is_whole := F_is_whole.binds (ps := P_is_whole) fun _ _ _ _ _ _ us hl => match us, hl with | [_], _ => rfl
  have F_is_count := fun_mk (st := s_is_count) l_is_count c_is_count k_is_count
  have B_is_count := F_is_count.binds (ps := P_is_count) fun _ _ _ _ _ _ us hl => match us, hl with | [_], _ => rfl
  have F_is_whole_to := fun_mk (st := s_is_whole_to) l_is_whole_to c_is_whole_to k_is_whole_to
  have B_is_whole_to := F_is_whole_to.binds (ps := P_is_whole_to) fun _ _ _ _ _ _ us hl => match us, hl with | [_, _], _ => rfl
  have F_consists_of := fun_mk (st := s_consists_of) l_consists_of c_consists_of k_consists_of
  have B_consists_of := F_consists_of.binds (ps := P_consists_of) fun _ _ _ _ _ _ us hl => match us, hl with | [_, _], _ => rfl
  have F_is_string_of := fun_mk (st := s_is_string_of) l_is_string_of c_is_string_of k_is_string_of
  have B_is_string_of := F_is_string_of.binds (ps := P_is_string_of) fun _ _ _ _ _ _ us hl => match us, hl with | [_, _, _], _ => rfl
  have F_number_in := fun_mk (st := s_number_in) l_number_in c_number_in k_number_in
  have B_number_in := F_number_in.binds (ps := P_number_in) fun _ _ _ _ _ _ us hl => match us, hl with | [_, _], _ => rfl
  have F_is_word := fun_mk (st := s_is_word) l_is_word c_is_word k_is_word
  have B_is_word := F_is_word.binds (ps := P_is_word) fun _ _ _ _ _ _ us hl => match us, hl with | [_], _ => rfl
  have F_place_of_word := fun_mk (st := s_place_of_word) l_place_of_word c_place_of_word k_place_of_word
  have B_place_of_word := F_place_of_word.binds (ps := P_place_of_word) fun _ _ _ _ _ _ us hl => match us, hl with | [_], _ => rfl
  have F_place_of := fun_mk (st := s_place_of) l_place_of c_place_of k_place_of
  have B_place_of := F_place_of.binds (ps := P_place_of) fun _ _ _ _ _ _ us hl => match us, hl with | [_, _, _], _ => rfl
  have F_parts_of_environment := fun_mk (st := s_parts_of_environment) l_parts_of_environment c_parts_of_environment k_parts_of_environment
  have B_parts_of_environment := F_parts_of_environment.binds (ps := P_parts_of_environment) fun _ _ _ _ _ _ us hl => match us, hl with | [_], _ => rfl
  have F_written_environment := fun_mk (st := s_written_environment) l_written_environment c_written_environment k_written_environment
  have B_written_environment := F_written_environment.binds (ps := P_written_environment) fun _ _ _ _ _ _ us hl => match us, hl with | [_], _ => rfl
  have F_Environment_init : FunD K "__init__" "Environment.__init__" (defArgs s_Environment_init) (defBody s_Environment_init) (defScope s_Environment_init) [] [("system", .str "a"), ("machine", .str "a"), ("level", .int 0)] f_Environment_init (PySem.W.fnOf "__init__" "Environment.__init__" (defArgs s_Environment_init) (defBody s_Environment_init) (defScope s_Environment_init) .none (.ref kD_Environment_init) dc_Environment_init pm_Environment_init an_Environment_init cd_Environment_init ct_Environment_init) := ⟨⟨_, _, _, _, _, _, _, _, _, _, rfl, l_Environment_init, c_Environment_init, .inl ⟨rfl, rfl⟩, .inr ⟨kD_Environment_init, rfl, (List.forall_mem_cons.mpr ⟨⟨_, kd_Environment_init_system, ⟨_, rfl⟩⟩, (List.forall_mem_cons.mpr ⟨⟨_, kd_Environment_init_machine, ⟨_, rfl⟩⟩, (List.forall_mem_cons.mpr ⟨⟨_, kd_Environment_init_level, ⟨_, rfl⟩⟩, (fun q hq => nomatch hq)⟩)⟩)⟩)⟩⟩, k_Environment_init⟩
  have B0_Environment_init : ∃ ds : List Value, Vals [.str "a", .str "a", .int 0] ds ∧ Binds K (PySem.W.fnOf "__init__" "Environment.__init__" (defArgs s_Environment_init) (defBody s_Environment_init) (defScope s_Environment_init) .none (.ref kD_Environment_init) dc_Environment_init pm_Environment_init an_Environment_init cd_Environment_init ct_Environment_init) P_Environment_init ds := F_Environment_init.binds0 (ps := P_Environment_init) 1 (by simp) rfl fun _ _ _ _ _ _ us its h1 h2 => match us, its, h1, h2 with | [_], [_, _, _], _, _ => ⟨_, _, _, _, _, _, rfl, rfl, ⟨_, _, _, _, _, _, rfl, rfl, ⟨_, _, _, _, _, _, rfl, rfl, rfl⟩⟩⟩
  have F_Environment_read := fun_mk (st := s_Environment_read) l_Environment_read c_Environment_read k_Environment_read
  have B_Environment_read := F_Environment_read.binds (ps := P_Environment_read) fun _ _ _ _ _ _ us hl => match us, hl with | [_], _ => rfl
  have KB_Environment_read : KB K (PySem.W.fnOf "read" "Environment.read" (defArgs s_Environment_read) (defBody s_Environment_read) (defScope s_Environment_read) .none kV_Environment_read dc_Environment_read pm_Environment_read an_Environment_read cd_Environment_read ct_Environment_read) P_Environment_read ["text"] := ⟨fun _ ws _ hl => match ws, hl with | [_], _ => .of_eq rfl⟩
  have F_Environment_system := fun_mk (st := s_Environment_system) l_Environment_system c_Environment_system k_Environment_system
  have B_Environment_system := F_Environment_system.binds (ps := P_Environment_system) fun _ _ _ _ _ _ us hl => match us, hl with | [_], _ => rfl
  have F_Environment_machine := fun_mk (st := s_Environment_machine) l_Environment_machine c_Environment_machine k_Environment_machine
  have B_Environment_machine := F_Environment_machine.binds (ps := P_Environment_machine) fun _ _ _ _ _ _ us hl => match us, hl with | [_], _ => rfl
  have F_Environment_level := fun_mk (st := s_Environment_level) l_Environment_level c_Environment_level k_Environment_level
  have B_Environment_level := F_Environment_level.binds (ps := P_Environment_level) fun _ _ _ _ _ _ us hl => match us, hl with | [_], _ => rfl
  have F_Environment_eq := fun_mk (st := s_Environment_eq) l_Environment_eq c_Environment_eq k_Environment_eq
  have B_Environment_eq := F_Environment_eq.binds (ps := P_Environment_eq) fun _ _ _ _ _ _ us hl => match us, hl with | [_, _], _ => rfl
  have F_Environment_lt := fun_mk (st := s_Environment_lt) l_Environment_lt c_Environment_lt k_Environment_lt
  have B_Environment_lt := F_Environment_lt.binds (ps := P_Environment_lt) fun _ _ _ _ _ _ us hl => match us, hl with | [_, _], _ => rfl
  have F_Environment_str := fun_mk (st := s_Environment_str) l_Environment_str c_Environment_str k_Environment_str
  have B_Environment_str := F_Environment_str.binds (ps := P_Environment_str) fun _ _ _ _ _ _ us hl => match us, hl with | [_], _ => rfl
  have F_begin := fun_mk (st := s_begin) l_begin c_begin k_begin
  have B_begin := F_begin.binds (ps := P_begin) fun _ _ _ _ _ _ us hl => match us, hl with | [_], _ => rfl
  have F_mixed := fun_mk (st := s_mixed) l_mixed c_mixed k_mixed
  have B_mixed := F_mixed.binds (ps := P_mixed) fun _ _ _ _ _ _ us hl => match us, hl with | [_, _], _ => rfl
  have F_next := fun_mk (st := s_next) l_next c_next k_next
  have B_next := F_next.binds (ps := P_next) fun _ _ _ _ _ _ us hl => match us, hl with | [_, _], _ => rfl
  have F_spot := fun_mk (st := s_spot) l_spot c_spot k_spot
  have B_spot := F_spot.binds (ps := P_spot) fun _ _ _ _ _ _ us hl => match us, hl with | [_], _ => rfl
  have F_environment := fun_mk (st := s_environment) l_environment c_environment k_environment
  have B_environment := F_environment.binds (ps := P_environment) fun _ _ _ _ _ _ us hl => match us, hl with | [_], _ => rfl
  have F_told := fun_mk (st := s_told) l_told c_told k_told
  have B_told := F_told.binds (ps := P_told) fun _ _ _ _ _ _ us hl => match us, hl with | [_], _ => rfl
  have F_l_is_word := fun_mk (st := s_l_is_word) l_l_is_word c_l_is_word k_l_is_word
  have B_l_is_word := F_l_is_word.binds (ps := P_l_is_word) fun _ _ _ _ _ _ us hl => match us, hl with | [_], _ => rfl
  have F_is_right := fun_mk (st := s_is_right) l_is_right c_is_right k_is_right
  have B_is_right := F_is_right.binds (ps := P_is_right) fun _ _ _ _ _ _ us hl => match us, hl with | [_], _ => rfl
  have F_is_less := fun_mk (st := s_is_less) l_is_less c_is_less k_is_less
  have B_is_less := F_is_less.binds (ps := P_is_less) fun _ _ _ _ _ _ us hl => match us, hl with | [_, _], _ => rfl
  have F_read_right : FunC K "_law_read_right" "_law_read_right" s_read_right f_read_right (PySem.W.fnOf "_law_read_right" "_law_read_right" (defArgs s_read_right) (defBody s_read_right) (defScope s_read_right) .none kV_read_right dc_read_right pm_read_right an_read_right (.ref cc_read_right) ct_read_right) cc_read_right := ⟨⟨_, _, _, _, _, _, _, _, rfl, l_read_right, c_read_right⟩, k_read_right⟩
  have B_read_right := F_read_right.toFun.binds (ps := P_read_right) fun _ _ _ _ _ _ us hl => match us, hl with | [_, _], _ => rfl
  have F_refused_right : FunC K "_law_refused_right" "_law_refused_right" s_refused_right f_refused_right (PySem.W.fnOf "_law_refused_right" "_law_refused_right" (defArgs s_refused_right) (defBody s_refused_right) (defScope s_refused_right) .none kV_refused_right dc_refused_right pm_refused_right an_refused_right (.ref cc_refused_right) ct_refused_right) cc_refused_right := ⟨⟨_, _, _, _, _, _, _, _, rfl, l_refused_right, c_refused_right⟩, k_refused_right⟩
  have B_refused_right := F_refused_right.toFun.binds (ps := P_refused_right) fun _ _ _ _ _ _ us hl => match us, hl with | [_], _ => rfl
  have F_law : FunC K "law" "law" s_law f_law (PySem.W.fnOf "law" "law" (defArgs s_law) (defBody s_law) (defScope s_law) .none kV_law dc_law pm_law an_law (.ref cc_law) ct_law) cc_law := ⟨⟨_, _, _, _, _, _, _, _, rfl, l_law, c_law⟩, k_law⟩
  have B_law := F_law.toFun.binds (ps := P_law) fun _ _ _ _ _ _ us hl => match us, hl with | [_], _ => rfl
  have F_BadEnvironment_init := fun_mk (st := s_BadEnvironment_init) l_BadEnvironment_init c_BadEnvironment_init k_BadEnvironment_init
  have B_BadEnvironment_init := F_BadEnvironment_init.binds (ps := P_BadEnvironment_init) fun _ _ _ _ _ _ us hl => match us, hl with | [_, _], _ => rfl
  have KM_Environment_init_km_system_machine_level : ∃ g, KM K (PySem.W.fnOf "__init__" "Environment.__init__" (defArgs s_Environment_init) (defBody s_Environment_init) (defScope s_Environment_init) .none (.ref kD_Environment_init) dc_Environment_init pm_Environment_init an_Environment_init cd_Environment_init ct_Environment_init) P_Environment_init ["system", "machine", "level"] g (fun us => match us with | [x0, x1, x2] => [x0, x1, x2] | _ => []) := km_of (FunD_km F_Environment_init (ps := P_Environment_init) ["system", "machine", "level"] [] (fun mv ws => match mv, ws with | [], [z0, z1, z2] => [z0, z1, z2] | _, _ => []) (by simp) (by simp) (fun mz zs mv ws l1 l2 r2 r3 => match mz, mv, zs, ws, l1, l2, r2, r3 with | [], _, [_, _, _], _, _, _, .nil, .cons z0 (.cons z1 (.cons z2 (.nil))) => .cons z0 (.cons z1 (.cons z2 (.nil)))) (fun _ _ _ _ _ _ c mv ws h2 h3 => match mv, ws, h2, h3 with | [], [_, _, _], _, _ => rfl)) (fun zs hl => match zs, hl with | [_, _, _], _ => rfl)
  have KM_Environment_init_km_machine_level_system : ∃ g, KM K (PySem.W.fnOf "__init__" "Environment.__init__" (defArgs s_Environment_init) (defBody s_Environment_init) (defScope s_Environment_init) .none (.ref kD_Environment_init) dc_Environment_init pm_Environment_init an_Environment_init cd_Environment_init ct_Environment_init) P_Environment_init ["machine", "level", "system"] g (fun us => match us with | [x0, x1, x2] => [x2, x0, x1] | _ => []) := km_of (FunD_km F_Environment_init (ps := P_Environment_init) ["machine", "level", "system"] [] (fun mv ws => match mv, ws with | [], [z0, z1, z2] => [z2, z0, z1] | _, _ => []) (by simp) (by simp) (fun mz zs mv ws l1 l2 r2 r3 => match mz, mv, zs, ws, l1, l2, r2, r3 with | [], _, [_, _, _], _, _, _, .nil, .cons z0 (.cons z1 (.cons z2 (.nil))) => .cons z2 (.cons z0 (.cons z1 (.nil)))) (fun _ _ _ _ _ _ c mv ws h2 h3 => match mv, ws, h2, h3 with | [], [_, _, _], _, _ => rfl)) (fun zs hl => match zs, hl with | [_, _, _], _ => rfl)
  have KM_Environment_init_km_level_machine : ∃ g, KM K (PySem.W.fnOf "__init__" "Environment.__init__" (defArgs s_Environment_init) (defBody s_Environment_init) (defScope s_Environment_init) .none (.ref kD_Environment_init) dc_Environment_init pm_Environment_init an_Environment_init cd_Environment_init ct_Environment_init) P_Environment_init ["level", "machine"] g (fun us => match us with | [x0, x1] => [.str "a", x1, x0] | _ => []) := km_of (FunD_km F_Environment_init (ps := P_Environment_init) ["level", "machine"] [("system", .str "a")] (fun mv ws => match mv, ws with | [m0], [z0, z1] => [m0, z1, z0] | _, _ => []) (by simp) (by simp) (fun mz zs mv ws l1 l2 r2 r3 => match mz, mv, zs, ws, l1, l2, r2, r3 with | [_], _, [_, _], _, _, _, .cons m0 (.nil), .cons z0 (.cons z1 (.nil)) => .cons m0 (.cons z1 (.cons z0 (.nil)))) (fun _ _ _ _ _ _ c mv ws h2 h3 => match mv, ws, h2, h3 with | [_], [_, _], _, _ => ⟨_, _, _, _, _, _, rfl, rfl, rfl⟩)) (fun zs hl => match zs, hl with | [_, _], _ => rfl)
  have KM_Environment_init_km_level : ∃ g, KM K (PySem.W.fnOf "__init__" "Environment.__init__" (defArgs s_Environment_init) (defBody s_Environment_init) (defScope s_Environment_init) .none (.ref kD_Environment_init) dc_Environment_init pm_Environment_init an_Environment_init cd_Environment_init ct_Environment_init) P_Environment_init ["level"] g (fun us => match us with | [x0] => [.str "a", .str "a", x0] | _ => []) := km_of (FunD_km F_Environment_init (ps := P_Environment_init) ["level"] [("system", .str "a"), ("machine", .str "a")] (fun mv ws => match mv, ws with | [m0, m1], [z0] => [m0, m1, z0] | _, _ => []) (by simp) (by simp) (fun mz zs mv ws l1 l2 r2 r3 => match mz, mv, zs, ws, l1, l2, r2, r3 with | [_, _], _, [_], _, _, _, .cons m0 (.cons m1 (.nil)), .cons z0 (.nil) => .cons m0 (.cons m1 (.cons z0 (.nil)))) (fun _ _ _ _ _ _ c mv ws h2 h3 => match mv, ws, h2, h3 with | [_, _], [_], _, _ => ⟨_, _, _, _, _, _, rfl, rfl, ⟨_, _, _, _, _, _, rfl, rfl, rfl⟩⟩)) (fun zs hl => match zs, hl with | [_], _ => rfl)
  have KM_Environment_init_km_machine : ∃ g, KM K (PySem.W.fnOf "__init__" "Environment.__init__" (defArgs s_Environment_init) (defBody s_Environment_init) (defScope s_Environment_init) .none (.ref kD_Environment_init) dc_Environment_init pm_Environment_init an_Environment_init cd_Environment_init ct_Environment_init) P_Environment_init ["machine"] g (fun us => match us with | [x0] => [.str "a", x0, .int 0] | _ => []) := km_of (FunD_km F_Environment_init (ps := P_Environment_init) ["machine"] [("system", .str "a"), ("level", .int 0)] (fun mv ws => match mv, ws with | [m0, m1], [z0] => [m0, z0, m1] | _, _ => []) (by simp) (by simp) (fun mz zs mv ws l1 l2 r2 r3 => match mz, mv, zs, ws, l1, l2, r2, r3 with | [_, _], _, [_], _, _, _, .cons m0 (.cons m1 (.nil)), .cons z0 (.nil) => .cons m0 (.cons z0 (.cons m1 (.nil)))) (fun _ _ _ _ _ _ c mv ws h2 h3 => match mv, ws, h2, h3 with | [_, _], [_], _, _ => ⟨_, _, _, _, _, _, rfl, rfl, ⟨_, _, _, _, _, _, rfl, rfl, rfl⟩⟩)) (fun zs hl => match zs, hl with | [_], _ => rfl)
  have T : Tex K mg { a_is_whole := f_is_whole, d_is_whole := (PySem.W.fnOf "is_whole" "is_whole" (defArgs s_is_whole) (defBody s_is_whole) (defScope s_is_whole) .none kV_is_whole dc_is_whole pm_is_whole an_is_whole cd_is_whole ct_is_whole), a_is_count := f_is_count, d_is_count := (PySem.W.fnOf "is_count" "is_count" (defArgs s_is_count) (defBody s_is_count) (defScope s_is_count) .none kV_is_count dc_is_count pm_is_count an_is_count cd_is_count ct_is_count), a_is_whole_to := f_is_whole_to, d_is_whole_to := (PySem.W.fnOf "is_whole_to" "is_whole_to" (defArgs s_is_whole_to) (defBody s_is_whole_to) (defScope s_is_whole_to) .none kV_is_whole_to dc_is_whole_to pm_is_whole_to an_is_whole_to cd_is_whole_to ct_is_whole_to), a_consists_of := f_consists_of, d_consists_of := (PySem.W.fnOf "consists_of" "consists_of" (defArgs s_consists_of) (defBody s_consists_of) (defScope s_consists_of) .none kV_consists_of dc_consists_of pm_consists_of an_consists_of cd_consists_of ct_consists_of), a_is_string_of := f_is_string_of, d_is_string_of := (PySem.W.fnOf "is_string_of" "is_string_of" (defArgs s_is_string_of) (defBody s_is_string_of) (defScope s_is_string_of) .none kV_is_string_of dc_is_string_of pm_is_string_of an_is_string_of cd_is_string_of ct_is_string_of), a_number_in := f_number_in, d_number_in := (PySem.W.fnOf "number_in" "number_in" (defArgs s_number_in) (defBody s_number_in) (defScope s_number_in) .none kV_number_in dc_number_in pm_number_in an_number_in cd_number_in ct_number_in), a_is_word := f_is_word, d_is_word := (PySem.W.fnOf "is_word" "is_word" (defArgs s_is_word) (defBody s_is_word) (defScope s_is_word) .none kV_is_word dc_is_word pm_is_word an_is_word cd_is_word ct_is_word), a_place_of_word := f_place_of_word, d_place_of_word := (PySem.W.fnOf "place_of_word" "place_of_word" (defArgs s_place_of_word) (defBody s_place_of_word) (defScope s_place_of_word) .none kV_place_of_word dc_place_of_word pm_place_of_word an_place_of_word cd_place_of_word ct_place_of_word), a_place_of := f_place_of, d_place_of := (PySem.W.fnOf "place_of" "place_of" (defArgs s_place_of) (defBody s_place_of) (defScope s_place_of) .none kV_place_of dc_place_of pm_place_of an_place_of cd_place_of ct_place_of), a_parts_of_environment := f_parts_of_environment, d_parts_of_environment := (PySem.W.fnOf "parts_of_environment" "parts_of_environment" (defArgs s_parts_of_environment) (defBody s_parts_of_environment) (defScope s_parts_of_environment) .none kV_parts_of_environment dc_parts_of_environment pm_parts_of_environment an_parts_of_environment cd_parts_of_environment ct_parts_of_environment), a_written_environment := f_written_environment, d_written_environment := (PySem.W.fnOf "written_environment" "written_environment" (defArgs s_written_environment) (defBody s_written_environment) (defScope s_written_environment) .none kV_written_environment dc_written_environment pm_written_environment an_written_environment cd_written_environment ct_written_environment), a_Environment_init := f_Environment_init, d_Environment_init := (PySem.W.fnOf "__init__" "Environment.__init__" (defArgs s_Environment_init) (defBody s_Environment_init) (defScope s_Environment_init) .none (.ref kD_Environment_init) dc_Environment_init pm_Environment_init an_Environment_init cd_Environment_init ct_Environment_init), a_Environment_read := f_Environment_read, d_Environment_read := (PySem.W.fnOf "read" "Environment.read" (defArgs s_Environment_read) (defBody s_Environment_read) (defScope s_Environment_read) .none kV_Environment_read dc_Environment_read pm_Environment_read an_Environment_read cd_Environment_read ct_Environment_read), a_Environment_system := f_Environment_system, d_Environment_system := (PySem.W.fnOf "system" "Environment.system" (defArgs s_Environment_system) (defBody s_Environment_system) (defScope s_Environment_system) .none kV_Environment_system dc_Environment_system pm_Environment_system an_Environment_system cd_Environment_system ct_Environment_system), a_Environment_machine := f_Environment_machine, d_Environment_machine := (PySem.W.fnOf "machine" "Environment.machine" (defArgs s_Environment_machine) (defBody s_Environment_machine) (defScope s_Environment_machine) .none kV_Environment_machine dc_Environment_machine pm_Environment_machine an_Environment_machine cd_Environment_machine ct_Environment_machine), a_Environment_level := f_Environment_level, d_Environment_level := (PySem.W.fnOf "level" "Environment.level" (defArgs s_Environment_level) (defBody s_Environment_level) (defScope s_Environment_level) .none kV_Environment_level dc_Environment_level pm_Environment_level an_Environment_level cd_Environment_level ct_Environment_level), a_Environment_eq := f_Environment_eq, d_Environment_eq := (PySem.W.fnOf "__eq__" "Environment.__eq__" (defArgs s_Environment_eq) (defBody s_Environment_eq) (defScope s_Environment_eq) .none kV_Environment_eq dc_Environment_eq pm_Environment_eq an_Environment_eq cd_Environment_eq ct_Environment_eq), a_Environment_lt := f_Environment_lt, d_Environment_lt := (PySem.W.fnOf "__lt__" "Environment.__lt__" (defArgs s_Environment_lt) (defBody s_Environment_lt) (defScope s_Environment_lt) .none kV_Environment_lt dc_Environment_lt pm_Environment_lt an_Environment_lt cd_Environment_lt ct_Environment_lt), a_Environment_str := f_Environment_str, d_Environment_str := (PySem.W.fnOf "__str__" "Environment.__str__" (defArgs s_Environment_str) (defBody s_Environment_str) (defScope s_Environment_str) .none kV_Environment_str dc_Environment_str pm_Environment_str an_Environment_str cd_Environment_str ct_Environment_str), a_begin := f_begin, d_begin := (PySem.W.fnOf "_law_begin" "_law_begin" (defArgs s_begin) (defBody s_begin) (defScope s_begin) .none kV_begin dc_begin pm_begin an_begin cd_begin ct_begin), a_mixed := f_mixed, d_mixed := (PySem.W.fnOf "_law_mixed" "_law_mixed" (defArgs s_mixed) (defBody s_mixed) (defScope s_mixed) .none kV_mixed dc_mixed pm_mixed an_mixed cd_mixed ct_mixed), a_next := f_next, d_next := (PySem.W.fnOf "_law_next" "_law_next" (defArgs s_next) (defBody s_next) (defScope s_next) .none kV_next dc_next pm_next an_next cd_next ct_next), a_spot := f_spot, d_spot := (PySem.W.fnOf "_law_spot" "_law_spot" (defArgs s_spot) (defBody s_spot) (defScope s_spot) .none kV_spot dc_spot pm_spot an_spot cd_spot ct_spot), a_environment := f_environment, d_environment := (PySem.W.fnOf "_law_environment" "_law_environment" (defArgs s_environment) (defBody s_environment) (defScope s_environment) .none kV_environment dc_environment pm_environment an_environment cd_environment ct_environment), a_told := f_told, d_told := (PySem.W.fnOf "_law_told" "_law_told" (defArgs s_told) (defBody s_told) (defScope s_told) .none kV_told dc_told pm_told an_told cd_told ct_told), a_l_is_word := f_l_is_word, d_l_is_word := (PySem.W.fnOf "_law_is_word" "_law_is_word" (defArgs s_l_is_word) (defBody s_l_is_word) (defScope s_l_is_word) .none kV_l_is_word dc_l_is_word pm_l_is_word an_l_is_word cd_l_is_word ct_l_is_word), a_is_right := f_is_right, d_is_right := (PySem.W.fnOf "_law_is_right" "_law_is_right" (defArgs s_is_right) (defBody s_is_right) (defScope s_is_right) .none kV_is_right dc_is_right pm_is_right an_is_right cd_is_right ct_is_right), a_is_less := f_is_less, d_is_less := (PySem.W.fnOf "_law_is_less" "_law_is_less" (defArgs s_is_less) (defBody s_is_less) (defScope s_is_less) .none kV_is_less dc_is_less pm_is_less an_is_less cd_is_less ct_is_less), a_read_right := f_read_right, d_read_right := (PySem.W.fnOf "_law_read_right" "_law_read_right" (defArgs s_read_right) (defBody s_read_right) (defScope s_read_right) .none kV_read_right dc_read_right pm_read_right an_read_right (.ref cc_read_right) ct_read_right), a_refused_right := f_refused_right, d_refused_right := (PySem.W.fnOf "_law_refused_right" "_law_refused_right" (defArgs s_refused_right) (defBody s_refused_right) (defScope s_refused_right) .none kV_refused_right dc_refused_right pm_refused_right an_refused_right (.ref cc_refused_right) ct_refused_right), a_law := f_law, d_law := (PySem.W.fnOf "law" "law" (defArgs s_law) (defBody s_law) (defScope s_law) .none kV_law dc_law pm_law an_law (.ref cc_law) ct_law), a_BadEnvironment_init := f_BadEnvironment_init, d_BadEnvironment_init := (PySem.W.fnOf "__init__" "BadEnvironment.__init__" (defArgs s_BadEnvironment_init) (defBody s_BadEnvironment_init) (defScope s_BadEnvironment_init) .none kV_BadEnvironment_init dc_BadEnvironment_init pm_BadEnvironment_init an_BadEnvironment_init cd_BadEnvironment_init ct_BadEnvironment_init), c_read_right := cc_read_right, P_read_right := cP_read_right, c_refused_right := cc_refused_right, P_refused_right := cP_refused_right, c_law := cc_law, P_law := cP_law, a_BadEnvironment := f_BadEnvironment, a_Environment := f_Environment, p_Environment_read := p_Environment_read, p_Environment_system := p_Environment_system, p_Environment_machine := p_Environment_machine, p_Environment_level := p_Environment_level, t_LETTERS := t_LETTERS, t_DIGITS := t_DIGITS, t_HIGHEST := t_HIGHEST, t_WORDS := t_WORDS } := { is_whole_F := F_is_whole, is_whole_g := PySem.W.mg_of X G n_is_whole, is_whole_b := B_is_whole, is_count_F := F_is_count, is_count_g := PySem.W.mg_of X G n_is_count, is_count_b := B_is_count, is_whole_to_F := F_is_whole_to, is_whole_to_g := PySem.W.mg_of X G n_is_whole_to, is_whole_to_b := B_is_whole_to, consists_of_F := F_consists_of, consists_of_g := PySem.W.mg_of X G n_consists_of, consists_of_b := B_consists_of, is_string_of_F := F_is_string_of, is_string_of_g := PySem.W.mg_of X G n_is_string_of, is_string_of_b := B_is_string_of, number_in_F := F_number_in, number_in_g := PySem.W.mg_of X G n_number_in, number_in_b := B_number_in, is_word_F := F_is_word, is_word_g := PySem.W.mg_of X G n_is_word, is_word_b := B_is_word, place_of_word_F := F_place_of_word, place_of_word_g := PySem.W.mg_of X G n_place_of_word, place_of_word_b := B_place_of_word, place_of_F := F_place_of, place_of_g := PySem.W.mg_of X G n_place_of, place_of_b := B_place_of, parts_of_environment_F := F_parts_of_environment, parts_of_environment_g := PySem.W.mg_of X G n_parts_of_environment, parts_of_environment_b := B_parts_of_environment, written_environment_F := F_written_environment, written_environment_g := PySem.W.mg_of X G n_written_environment, written_environment_b := B_written_environment, Environment_init_b0 := B0_Environment_init, Environment_init_F := F_Environment_init, Environment_read_F := F_Environment_read, Environment_read_b := B_Environment_read, Environment_read_kb := KB_Environment_read, Environment_system_F := F_Environment_system, Environment_system_b := B_Environment_system, Environment_machine_F := F_Environment_machine, Environment_machine_b := B_Environment_machine, Environment_level_F := F_Environment_level, Environment_level_b := B_Environment_level, Environment_eq_F := F_Environment_eq, Environment_eq_b := B_Environment_eq, Environment_lt_F := F_Environment_lt, Environment_lt_b := B_Environment_lt, Environment_str_F := F_Environment_str, Environment_str_b := B_Environment_str, begin_F := F_begin, begin_g := PySem.W.mg_of X G n_begin, begin_b := B_begin, mixed_F := F_mixed, mixed_g := PySem.W.mg_of X G n_mixed, mixed_b := B_mixed, next_F := F_next, next_g := PySem.W.mg_of X G n_next, next_b := B_next, spot_F := F_spot, spot_g := PySem.W.mg_of X G n_spot, spot_b := B_spot, environment_F := F_environment, environment_g := PySem.W.mg_of X G n_environment, environment_b := B_environment, told_F := F_told, told_g := PySem.W.mg_of X G n_told, told_b := B_told, l_is_word_F := F_l_is_word, l_is_word_g := PySem.W.mg_of X G n_l_is_word, l_is_word_b := B_l_is_word, is_right_F := F_is_right, is_right_g := PySem.W.mg_of X G n_is_right, is_right_b := B_is_right, is_less_F := F_is_less, is_less_g := PySem.W.mg_of X G n_is_less, is_less_b := B_is_less, read_right_F := F_read_right, read_right_g := PySem.W.mg_of X G n_read_right, read_right_b := B_read_right, refused_right_F := F_refused_right, refused_right_g := PySem.W.mg_of X G n_refused_right, refused_right_b := B_refused_right, law_F := F_law, law_g := PySem.W.mg_of X G n_law, law_b := B_law, BadEnvironment_init_F := F_BadEnvironment_init, BadEnvironment_init_b := B_BadEnvironment_init, read_right_hu := hu_read_right, refused_right_hu := hu_refused_right, law_hu := hu_law, BadEnvironment_g := PySem.W.mg_of X G n_BadEnvironment, BadEnvironment_xa := ⟨⟨⟨_, _, _, _, _, _, _, _, _, _, _, _, _, _, _, xl_BadEnvironment, xr_BadEnvironment⟩, xsa_BadEnvironment, xb_BadEnvironment, xy_BadEnvironment, xk_BadEnvironment⟩, ⟨xg_BadEnvironment, xh_BadEnvironment, xb_BadEnvironment, xd_BadEnvironment⟩, ⟨xg_BadEnvironment, xh_BadEnvironment, xb_BadEnvironment, xd_BadEnvironment, xc_BadEnvironment, xn_BadEnvironment, xq_BadEnvironment, xm_BadEnvironment⟩⟩, BadEnvironment_xt := xt_BadEnvironment, BadEnvironment_xf := xf_BadEnvironment, BadEnvironment_xi := at_BadEnvironment_init, BadEnvironment_nm := ⟨xb_BadEnvironment, xd_BadEnvironment, xy_BadEnvironment, xz_BadEnvironment⟩, BadEnvironment_BadEnvironment_s := xs_BadEnvironment_BadEnvironment, Environment_ne_b := on_Environment, Environment_init_km_system_machine_level := KM_Environment_init_km_system_machine_level, Environment_init_km_machine_level_system := KM_Environment_init_km_machine_level_system, Environment_init_km_level_machine := KM_Environment_init_km_level_machine, Environment_init_km_level := KM_Environment_init_km_level, Environment_init_km_machine := KM_Environment_init_km_machine, Environment_g := PySem.W.mg_of X G n_Environment, Environment_cl := ⟨pg_Environment, hd_Environment, po_Environment, sa_Environment⟩, Environment_mk := ⟨mk_Environment, at_Environment_init, fn_Environment_init, kc_Environment⟩, Environment_rd := ⟨rd_Environment, ga_Environment⟩, Environment_si := ⟨ca_Environment, cn_Environment, ct_Environment, cm_Environment⟩, Environment_nf := nf_Environment, Environment_n_system := na_Environment_system, Environment_n_machine := na_Environment_machine, Environment_n_level := na_Environment_level, Environment_n_place := na_Environment_place, Environment_init_at := at_Environment_init, Environment_init_fn := fn_Environment_init, Environment_read_s := ⟨at_Environment_read, ⟨_, rc_Environment_read⟩⟩, Environment_system_p := ⟨at_Environment_system, ge_Environment_system, tk_Environment_system, _, rc_Environment_system⟩, Environment_machine_p := ⟨at_Environment_machine, ge_Environment_machine, tk_Environment_machine, _, rc_Environment_machine⟩, Environment_level_p := ⟨at_Environment_level, ge_Environment_level, tk_Environment_level, _, rc_Environment_level⟩, Environment_eq_at := at_Environment_eq, Environment_eq_fn := fn_Environment_eq, Environment_lt_at := at_Environment_lt, Environment_lt_fn := fn_Environment_lt, Environment_str_at := at_Environment_str, Environment_str_fn := fn_Environment_str, c_LETTERS := PySem.W.mg_of X G g_LETTERS, c_DIGITS := PySem.W.mg_of X G g_DIGITS, c_HIGHEST := PySem.W.mg_of X G g_HIGHEST, c_WORDS := PySem.W.mg_of X G g_WORDS, b_all := PySem.W.mg_none_of X G z_all, b_bool := PySem.W.mg_none_of X G z_bool, b_int := PySem.W.mg_none_of X G z_int, b_isinstance := PySem.W.mg_none_of X G z_isinstance, b_len := PySem.W.mg_none_of X G z_len, b_range := PySem.W.mg_none_of X G z_range, b_str := PySem.W.mg_none_of X G z_str, b_zip := PySem.W.mg_none_of X G z_zip }
  have M : Makers K h [(cc_read_right, cP_read_right), (cc_refused_right, cP_refused_right), (cc_law, cP_law)] := ⟨(List.forall_mem_cons.mpr ⟨mt_read_right, (List.forall_mem_cons.mpr ⟨mt_refused_right, (List.forall_mem_cons.mpr ⟨mt_law, (fun q hq => nomatch hq)⟩)⟩)⟩), (List.forall_mem_cons.mpr ⟨ol_read_right, (List.forall_mem_cons.mpr ⟨ol_refused_right, (List.forall_mem_cons.mpr ⟨ol_law, (fun q hq => nomatch hq)⟩)⟩)⟩), (List.forall_mem_cons.mpr ⟨PySem.W.codeHd_of_K X ch_read_right, (List.forall_mem_cons.mpr ⟨PySem.W.codeHd_of_K X ch_refused_right, (List.forall_mem_cons.mpr ⟨PySem.W.codeHd_of_K X ch_law, (fun q hq => nomatch hq)⟩)⟩)⟩)⟩
  exact ⟨_, _, M, fun s v => .of_eq rfl, fun base _ _ tb => ok_law T tb⟩
end Pk
open PySem PySem.W PyProof.Rows
set_option maxRecDepth 100000 in
set_option maxHeartbeats 0 in
theorem PySem.Challenge.cw_parcelindex_k13_environments_holds : PySem.Challenge.rw_parcelindex_k13_environments.Holds := by
  w_on; o_law; k_head; (case hw => w_witness2)
  k_fill
  refine Pk.walkGT (l := PySem.Challenge.rw_parcelindex_k13_environments) (k := 17) (x := "_law_script") (sp := Pk.spLaw) rfl rfl ⟨rfl, by decide, by decide⟩ (fun w h Y => PySem.W.km_in_of Y) ?F (fun K cs H a ns hl hT hS => ⟨a, ns, rfl, hS, hl, hT, fun _ => rfl⟩)
  case F =>
    intro w mg fa h Y KX G hmg
    refine' Pk.all_mk KX G hmg ?n_is_whole ?l_is_whole ?c_is_whole ?k_is_whole ?n_is_count ?l_is_count ?c_is_count ?k_is_count ?n_is_whole_to ?l_is_whole_to ?c_is_whole_to ?k_is_whole_to ?n_consists_of ?l_consists_of ?c_consists_of ?k_consists_of ?n_is_string_of ?l_is_string_of ?c_is_string_of ?k_is_string_of ?n_number_in ?l_number_in ?c_number_in ?k_number_in ?n_is_word ?l_is_word ?c_is_word ?k_is_word ?n_place_of_word ?l_place_of_word ?c_place_of_word ?k_place_of_word ?n_place_of ?l_place_of ?c_place_of ?k_place_of ?n_parts_of_environment ?l_parts_of_environment ?c_parts_of_environment ?k_parts_of_environment ?n_written_environment ?l_written_environment ?c_written_environment ?k_written_environment ?n_Environment ?at_Environment_init ?l_Environment_init ?kd_Environment_init_system ?kd_Environment_init_machine ?kd_Environment_init_level ?c_Environment_init ?k_Environment_init ?at_Environment_read ?rc_Environment_read ?l_Environment_read ?c_Environment_read ?k_Environment_read ?at_Environment_system ?rc_Environment_system ?l_Environment_system ?c_Environment_system ?k_Environment_system ?at_Environment_machine ?rc_Environment_machine ?l_Environment_machine ?c_Environment_machine ?k_Environment_machine ?at_Environment_level ?rc_Environment_level ?l_Environment_level ?c_Environment_level ?k_Environment_level ?at_Environment_eq ?l_Environment_eq ?c_Environment_eq ?k_Environment_eq ?at_Environment_lt ?l_Environment_lt ?c_Environment_lt ?k_Environment_lt ?at_Environment_str ?l_Environment_str ?c_Environment_str ?k_Environment_str ?n_begin ?l_begin ?c_begin ?k_begin ?n_mixed ?l_mixed ?c_mixed ?k_mixed ?n_next ?l_next ?c_next ?k_next ?n_spot ?l_spot ?c_spot ?k_spot ?n_environment ?l_environment ?c_environment ?k_environment ?n_told ?l_told ?c_told ?k_told ?n_l_is_word ?l_l_is_word ?c_l_is_word ?k_l_is_word ?n_is_right ?l_is_right ?c_is_right ?k_is_right ?n_is_less ?l_is_less ?c_is_less ?k_is_less ?n_read_right ?l_read_right ?lc_read_right ?tp_read_right ?ch_read_right ?ol_read_right ?mt_read_right ?c_read_right ?k_read_right ?n_refused_right ?l_refused_right ?lc_refused_right ?tp_refused_right ?ch_refused_right ?ol_refused_right ?mt_refused_right ?c_refused_right ?k_refused_right ?n_law ?l_law ?lc_law ?tp_law ?ch_law ?ol_law ?mt_law ?c_law ?k_law ?n_BadEnvironment ?at_BadEnvironment_init ?l_BadEnvironment_init ?c_BadEnvironment_init ?k_BadEnvironment_init ?hu_read_right ?hu_refused_right ?hu_law ?xl_BadEnvironment ?xr_BadEnvironment ?xsa_BadEnvironment ?xb_BadEnvironment ?xd_BadEnvironment ?xy_BadEnvironment ?xk_BadEnvironment ?xg_BadEnvironment ?xh_BadEnvironment ?xc_BadEnvironment ?xn_BadEnvironment ?xq_BadEnvironment ?xm_BadEnvironment ?xt_BadEnvironment ?xf_BadEnvironment ?xz_BadEnvironment ?xs_BadEnvironment_BadEnvironment ?on_Environment ?pg_Environment ?hd_Environment ?po_Environment ?sa_Environment ?mk_Environment ?kc_Environment ?rd_Environment ?ga_Environment ?ca_Environment ?cn_Environment ?ct_Environment ?cm_Environment ?nf_Environment ?fn_Environment_init ?na_Environment_system ?na_Environment_machine ?na_Environment_level ?na_Environment_place ?ge_Environment_system ?tk_Environment_system ?ge_Environment_machine ?tk_Environment_machine ?ge_Environment_level ?tk_Environment_level ?fn_Environment_eq ?fn_Environment_lt ?fn_Environment_str ?g_LETTERS ?g_DIGITS ?g_HIGHEST ?g_WORDS ?z_all ?z_bool ?z_int ?z_isinstance ?z_len ?z_range ?z_str ?z_zip
    (case n_is_whole => k_is)
    (case l_is_whole => k_is)
    (case c_is_whole => k_is)
    (case k_is_whole => k_is)
    (case n_is_count => k_is)
    (case l_is_count => k_is)
    (case c_is_count => k_is)
    (case k_is_count => k_is)
    (case n_is_whole_to => k_is)
    (case l_is_whole_to => k_is)
    (case c_is_whole_to => k_is)
    (case k_is_whole_to => k_is)
    (case n_consists_of => k_is)
    (case l_consists_of => k_is)
    (case c_consists_of => k_is)
    (case k_consists_of => k_is)
    (case n_is_string_of => k_is)
    (case l_is_string_of => k_is)
    (case c_is_string_of => k_is)
    (case k_is_string_of => k_is)
    (case n_number_in => k_is)
    (case l_number_in => k_is)
    (case c_number_in => k_is)
    (case k_number_in => k_is)
    (case n_is_word => k_is)
    (case l_is_word => k_is)
    (case c_is_word => k_is)
    (case k_is_word => k_is)
    (case n_place_of_word => k_is)
    (case l_place_of_word => k_is)
    (case c_place_of_word => k_is)
    (case k_place_of_word => k_is)
    (case n_place_of => k_is)
    (case l_place_of => k_is)
    (case c_place_of => k_is)
    (case k_place_of => k_is)
    (case n_parts_of_environment => k_is)
    (case l_parts_of_environment => k_is)
    (case c_parts_of_environment => k_is)
    (case k_parts_of_environment => k_is)
    (case n_written_environment => k_is)
    (case l_written_environment => k_is)
    (case c_written_environment => k_is)
    (case k_written_environment => k_is)
    (case n_Environment => k_is)
    (case at_Environment_init => k_is)
    (case l_Environment_init => k_is)
    (case kd_Environment_init_system => k_is)
    (case kd_Environment_init_machine => k_is)
    (case kd_Environment_init_level => k_is)
    (case c_Environment_init => k_is)
    (case k_Environment_init => k_is)
    (case at_Environment_read => k_is)
    (case rc_Environment_read => k_is)
    (case l_Environment_read => k_is)
    (case c_Environment_read => k_is)
    (case k_Environment_read => k_is)
    (case at_Environment_system => k_is)
    (case rc_Environment_system => k_is)
    (case l_Environment_system => k_is)
    (case c_Environment_system => k_is)
    (case k_Environment_system => k_is)
    (case at_Environment_machine => k_is)
    (case rc_Environment_machine => k_is)
    (case l_Environment_machine => k_is)
    (case c_Environment_machine => k_is)
    (case k_Environment_machine => k_is)
    (case at_Environment_level => k_is)
    (case rc_Environment_level => k_is)
    (case l_Environment_level => k_is)
    (case c_Environment_level => k_is)
    (case k_Environment_level => k_is)
    (case at_Environment_eq => k_is)
    (case l_Environment_eq => k_is)
    (case c_Environment_eq => k_is)
    (case k_Environment_eq => k_is)
    (case at_Environment_lt => k_is)
    (case l_Environment_lt => k_is)
    (case c_Environment_lt => k_is)
    (case k_Environment_lt => k_is)
    (case at_Environment_str => k_is)
    (case l_Environment_str => k_is)
    (case c_Environment_str => k_is)
    (case k_Environment_str => k_is)
    (case n_begin => k_is)
    (case l_begin => k_is)
    (case c_begin => k_is)
    (case k_begin => k_is)
    (case n_mixed => k_is)
    (case l_mixed => k_is)
    (case c_mixed => k_is)
    (case k_mixed => k_is)
    (case n_next => k_is)
    (case l_next => k_is)
    (case c_next => k_is)
    (case k_next => k_is)
    (case n_spot => k_is)
    (case l_spot => k_is)
    (case c_spot => k_is)
    (case k_spot => k_is)
    (case n_environment => k_is)
    (case l_environment => k_is)
    (case c_environment => k_is)
    (case k_environment => k_is)
    (case n_told => k_is)
    (case l_told => k_is)
    (case c_told => k_is)
    (case k_told => k_is)
    (case n_l_is_word => k_is)
    (case l_l_is_word => k_is)
    (case c_l_is_word => k_is)
    (case k_l_is_word => k_is)
    (case n_is_right => k_is)
    (case l_is_right => k_is)
    (case c_is_right => k_is)
    (case k_is_right => k_is)
    (case n_is_less => k_is)
    (case l_is_less => k_is)
    (case c_is_less => k_is)
    (case k_is_less => k_is)
    (case n_read_right => k_is)
    (case l_read_right => k_is)
    (case lc_read_right => k_is)
    (case tp_read_right => rfl)
    (case ch_read_right => kernel_rfl)
    (case ol_read_right => first | kernel_rfl | k_is)
    (case mt_read_right => exact PySem.W.km_tabs_of Y _ (by decide))
    (case c_read_right => k_is)
    (case k_read_right => k_is)
    (case n_refused_right => k_is)
    (case l_refused_right => k_is)
    (case lc_refused_right => k_is)
    (case tp_refused_right => rfl)
    (case ch_refused_right => kernel_rfl)
    (case ol_refused_right => first | kernel_rfl | k_is)
    (case mt_refused_right => exact PySem.W.km_tabs_of Y _ (by decide))
    (case c_refused_right => k_is)
    (case k_refused_right => k_is)
    (case n_law => k_is)
    (case l_law => k_is)
    (case lc_law => k_is)
    (case tp_law => rfl)
    (case ch_law => kernel_rfl)
    (case ol_law => first | kernel_rfl | k_is)
    (case mt_law => exact PySem.W.km_tabs_of Y _ (by decide))
    (case c_law => k_is)
    (case k_law => k_is)
    (case n_BadEnvironment => k_is)
    (case at_BadEnvironment_init => k_is)
    (case l_BadEnvironment_init => k_is)
    (case c_BadEnvironment_init => k_is)
    (case k_BadEnvironment_init => k_is)
    (case hu_read_right => decide +kernel)
    (case hu_refused_right => decide +kernel)
    (case hu_law => decide +kernel)
    (case xl_BadEnvironment => k_is)
    (case xr_BadEnvironment => first | rfl | decide +kernel | k_is)
    (case xsa_BadEnvironment => k_is)
    (case xb_BadEnvironment => k_is)
    (case xd_BadEnvironment => k_is)
    (case xy_BadEnvironment => k_is)
    (case xk_BadEnvironment => k_is)
    (case xg_BadEnvironment => k_is)
    (case xh_BadEnvironment => k_is)
    (case xc_BadEnvironment => k_is)
    (case xn_BadEnvironment => k_is)
    (case xq_BadEnvironment => k_is)
    (case xm_BadEnvironment => k_is)
    (case xt_BadEnvironment => k_is)
    (case xf_BadEnvironment => k_is)
    (case xz_BadEnvironment => k_is)
    (case xs_BadEnvironment_BadEnvironment => k_is)
    (case on_Environment => k_is)
    (case pg_Environment => k_is)
    (case hd_Environment => k_is)
    (case po_Environment => k_is)
    (case sa_Environment => k_is)
    (case mk_Environment => k_is)
    (case kc_Environment => k_is)
    (case rd_Environment => k_is)
    (case ga_Environment => k_is)
    (case ca_Environment => k_is)
    (case cn_Environment => k_is)
    (case ct_Environment => k_is)
    (case cm_Environment => k_is)
    (case nf_Environment => k_is)
    (case fn_Environment_init => k_is)
    (case na_Environment_system => k_is)
    (case na_Environment_machine => k_is)
    (case na_Environment_level => k_is)
    (case na_Environment_place => k_is)
    (case ge_Environment_system => k_is)
    (case tk_Environment_system => k_is)
    (case ge_Environment_machine => k_is)
    (case tk_Environment_machine => k_is)
    (case ge_Environment_level => k_is)
    (case tk_Environment_level => k_is)
    (case fn_Environment_eq => k_is)
    (case fn_Environment_lt => k_is)
    (case fn_Environment_str => k_is)
    (case g_LETTERS => k_is)
    (case g_DIGITS => k_is)
    (case g_HIGHEST => k_is)
    (case g_WORDS => k_is)
    (case z_all => k_is)
    (case z_bool => k_is)
    (case z_int => k_is)
    (case z_isinstance => k_is)
    (case z_len => k_is)
    (case z_range => k_is)
    (case z_str => k_is)
    (case z_zip => k_is)
