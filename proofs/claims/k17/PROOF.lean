import PyProof.Rows.All
import Wide.All
import OpenK.AllK
import Wide.FinOn
import PyProof.ReprRoads
import HandS.ForMost
import HandS.ForExc
import HandS.IsInst
import HandS.Walk
import HandS.Flow
import HandS.RaiseMore

import HandS.ClsMeth
import HandS.Property
import HandS.SlotsOwn
import HandS.FStr
import HandS.TupAny
import HandS.Codes
import KE.KCallOwn
import KE.GoesMore
import KE.GoesEnum
import KE.DatumOrd
import HandS.SortInts
import HandS.Defaults

import HandS.ExcInit
import HandS.ExcValue
import HandS.ExcField
import HandS.ExcIs
import HandS.TryMany

import HandS.Style
import HandS.Lambda
import HandS.Replace
import HandS.Zip
import HandS.NoneIn
import HandS.DeepEq
import HandS.DictComp
import HandS.More
import HandS.MakeKw
import HandS.MakeKwOnly
import HandS.Rev
import HandS.OwnEq
import HandS.Dict
import HandS.Star
import PyProof.IsRules
import HandS.Comp
import HandS.Deep
import HandS.Walk
import OpenK.KTop
import KE.KOpsOwn

import PySem.Challenge.RW_parcelindex_k17_whole_equal_markers
set_option Elab.async false
set_option maxRecDepth 100000
set_option maxHeartbeats 4000000

/-! ## Calls with the stack's repr marks known to be none: a def's promise, its body's rule, calls, the end -/
namespace Pk
open PySem PySem.Spec PyProof.Rows L2

/-- a def keeps its promise wherever no repr runs around it -/
structure FnG (P : Program) (w : World) (K : PySem.W.Frag) (mg : Str → Option Value) (base : Heap) (k : Nat) (f : Addr) (fd : FuncData) (ps : List Str) (sp : Sp) : Prop where
  lenG : ∀ vs H Q E, sp vs H Q E → vs.length = ps.length
  runG : ∀ (A : Around) (outer : List Env) (s : Shared) (H : Hp) (args : Args) (us : List Value) (vs : List V) (Q : VK),
    A.guards = some [] → Room k A → Env0 P w K mg base A outer s H →
    BindsTo s fd args (ps.zip us) → Vals vs us → sp vs H Q E0 →
    codeAny (model P w) A (.call (.ref f) args) (CR CX0 outer P w H s Q E0) s

section
variable {P : Program} {w : World} {K : PySem.W.Frag} {mg : Str → Option Value} {base : Heap}
theorem FnG.of {k : Nat} {f : Addr} {fd : FuncData} {ps : List Str} {sp : Sp} (F : FnOk P w K mg base CX0 k f fd ps sp) : FnG P w K mg base k f fd ps sp :=
  ⟨F.len, fun A outer s H args us vs Q _ h1 h2 h3 h4 h5 => F.run A outer s H args us vs Q E0 h1 h2 h3 h4 h5⟩

/-- the rule for a def's body, with the marks known -/
theorem fnG_of {x qual : Str} {st : Stmt} {f : Addr} {fd : FuncData} {N ps : List Str} {k : Nat} {sp : Sp} (F : Fun K x qual st f fd)
    (S : FnScope N ps (defScope st)) (len : ∀ vs H Q E, sp vs H Q E → vs.length = ps.length)
    (hbody : ∀ (cdv : Value) (A : Around) (outer : List Env) (s : Shared) (H : Hp) (vs : List V) (Q : VK),
      A.guards = some [] → Room k (A.deeper (envOfC qual (defScope st) s.heap.objs.size f cdv)) → sp vs H Q E0 →
      ∃ t, PSs (cxOf CX0 P w K mg base N qual (defScope st) f cdv A outer s H E0).nox (defBody st) t ∧
        t { nx := fun _ H' => Q .non H', rt := Q } (start N vs) H) :
    FnG P w K mg base (k + 1) f fd ps sp := by
  obtain ⟨oc, od, kV, doc, pm, an, cdv, ct, osl, rfl, lk, hcd⟩ := F.ex
  refine ⟨len, ?_⟩
  intro A outer s H args us vs Q hg hr e0 hb r hsp
  have hlen := len _ _ _ _ hsp
  have inK : K.In s.heap := e0.mod.kin.keeps (fun b o e => (e0.bs b o e).1)
  have nolim : s.heap.NoLimit := e0.mod.nolimit.keeps (fun b o e => (e0.bs b o e).1)
  have hk : ∀ y ∈ ps.zip us, (defScope st).names.lookup y.1 = some .local ∨ ((defScope st).names.lookup y.1 = some .cell ∧
      ((cellsFrom (s.heap.objs.size + 1) (defScope st).names []).lookup y.1).isSome = true) := by
    rintro ⟨n, v⟩ hy
    rcases S.par n (List.of_mem_zip hy).1 with q | q
    · exact Or.inl q
    · exact Or.inr ⟨q, PySem.W.cellsFrom_some _ _ _ (Or.inl q)⟩
  refine codeAny_call_function hr.depth (inK _ _ lk) rfl S.co S.gen rfl (PySem.W.codeRec_of inK hcd) (hb _ _ _ _ ?_)
  refine wpAny_newFunctionEnv_cells S.kind hk ?_
  intro env he s1 x
  subst he
  refine ⟨nolim.keeps x.toInCall.keep, codeAny_func ?_⟩
  obtain ⟨t, ht0, hq⟩ := hbody cdv A outer s H vs Q hg (hr.deeper _) hsp
  have ht := ht0.nox
  have J0 : Inv (cxOf CX0 P w K mg base N qual (defScope st) f cdv A outer s H E0) [] (start N vs) H s1 := inv_start S hr.hd e0 hlen r x
  have fin : ∀ {σ' : L2.St} {H' : Hp} {s' : Shared} {v : V} {u : Value},
      Inv (cxOf CX0 P w K mg base N qual (defScope st) f cdv A outer s H E0) [] σ' H' s' → RelV v u → Q v H' → CE outer P w H s Q u s' :=
    fun {σ' H' s' v u} J rv q => ⟨v, H', J.os, J.bare, J.base, J.hok, rv, q⟩
  refine wpAny_mono (ht.run [] s1 (start N vs) H _ J0 hq) ?_ (fun e s' hs => hs)
  rintro (_ | _ | _ | u) s' hs
  · obtain ⟨σ', H', J, q⟩ := hs
    exact fin (v := V.non) (u := Value.none) J rfl q
  · obtain ⟨_, _, _, q⟩ := hs
    exact q.elim
  · obtain ⟨_, _, _, q⟩ := hs
    exact q.elim
  · obtain ⟨v, σ', H', J, rv, q⟩ := hs
    exact fin J rv q
end

section
variable {X : Cx} {k : Nat} {f : Addr} {fd : FuncData} {ps ks : List Str} {sp : Sp} {x : Str} {p pos : Pos} {e : Expr} {es : List Expr} {t tk : TA} {kws : List Keyword}
theorem run_g {pins : List (Addr × Obj)} {σ : L2.St} {H : Hp} {s : Shared} {Q : VK} {args : Args} {us : List Value} {vs : List V}
    (F : FnG X.prog X.w X.K X.mg X.base k f fd ps sp) (hg : X.A.guards = some []) (hr : Room k X.A)
    (hb : BindsTo s fd args (ps.zip us)) (I : Inv X pins σ H s) (r : Vals vs us) (h : sp vs H Q E0) :
    codeAny (model X.prog X.w) X.A (.call (.ref f) args) (fun r s' => match r with | .ok (.ret v) => EP X pins σ Q v s' | .ok _ => False | .error e => X.xe e s') s := by
  refine codeAny_mono (F.runG X.A X.stack s H args us vs Q hg hr I.env0 hb r h) ?_
  rintro (e | fl) s' hq
  · exact (show False from hq).elim
  · cases fl with
    | ret u => exact I.after hq
    | next => exact (show False from hq).elim
    | brk => exact (show False from hq).elim
    | cont => exact (show False from hq).elim
/-- f(..), the parameters all given by position -/
theorem pe_callG (F : FnG X.prog X.w X.K X.mg X.base k f fd ps sp) (hgu : X.A.guards = some []) (hr : Room k X.A) (hg : Gl X x) (hm : X.mg x = some (.ref f))
    (hk : PySem.W.keepIn X.K (.ref f) = true) (hb : Binds X.K fd ps []) (ha : PA X (e :: es) t) (hdb : (x == ("__debug__" : Str)) = false := by decide)
    (he : starEach (e :: es) X.env = (false, eval e X.env) :: starEach es X.env := by rfl)
    (hpl : (backTo pos (starEach es X.env)).any (·.1) = false := by rfl) :
    PE X (.Call (.Name x p) (e :: es) [] pos) (tCall sp [] E0 t) := by
  constructor
  intro pins s σ H Q I h
  refine wpAny_Call_Name_kw (ld_glob I hg hm ?_ hdb)
  refine PySem.W.callWith_K (h₀ := X.base) I.ok.mod.kin hk (thn (ha.run pos pins s σ H _ I h) ?_) he hpl
  intro us s1 ⟨vs, H1, I1, r, q⟩
  have q' : sp vs H1 Q E0 := by
    have q0 : sp (vs ++ []) H1 Q E0 := q
    rw [List.append_nil] at q0
    exact q0
  have hl : (us ++ []).length = ps.length := by rw [List.append_nil, ← r.length]; exact F.lenG _ _ _ _ q'
  refine ⟨I1.kIn, wpAny_call (run_g F hgu hr ?_ I1 r q')⟩
  have hb1 := hb s1 us I1.kIn hl
  rw [List.append_nil] at hb1
  exact hb1
theorem pe_callG0 (F : FnG X.prog X.w X.K X.mg X.base k f fd ps sp) (hgu : X.A.guards = some []) (hr : Room k X.A) (hg : Gl X x) (hm : X.mg x = some (.ref f))
    (hk : PySem.W.keepIn X.K (.ref f) = true) (hb : Binds X.K fd ps []) (hdb : (x == ("__debug__" : Str)) = false := by decide) :
    PE X (.Call (.Name x p) [] [] pos) (tCall sp [] E0 tNil) := by
  constructor
  intro pins s σ H Q I h
  refine wpAny_Call_Name_kw (ld_glob I hg hm ?_ hdb)
  refine PySem.W.callWith_K0 I.kIn hk ?_
  have q' : sp [] H Q E0 := h
  have hl : (([] : List Value) ++ []).length = ps.length := by rw [List.append_nil]; exact F.lenG _ _ _ _ q'
  exact wpAny_call (run_g F hgu hr (hb s [] I.kIn hl) I .nil q')
/-- how keywords alone bind: the values are put in the parameters' order by pm -/
structure KB (K : PySem.W.Frag) (fd : FuncData) (ps ks : List Str) : Prop where
  toK : ∀ (s : Shared) (ws : List Value), K.In s.heap → ws.length = ps.length → BindsTo s fd ⟨[], ks.zip ws⟩ (ps.zip ws)
/-- f(k = v, ..), the keywords in the parameters' order -/
theorem pe_kwG (F : FnG X.prog X.w X.K X.mg X.base k f fd ps sp) (hgu : X.A.guards = some []) (hr : Room k X.A) (hg : Gl X x) (hm : X.mg x = some (.ref f))
    (hk : PySem.W.keepIn X.K (.ref f) = true) (hb : KB X.K fd ps ks) (hkw : PK X kws tk) (hall : (backToKw pos (keywordEach kws X.env)).all (·.1.isSome) = true := by rfl)
    (hks : (backToKw pos (keywordEach kws X.env)).filterMap (·.1) = ks := by rfl) (hdb : (x == ("__debug__" : Str)) = false := by decide)
    (hpl : ((backTo pos (starEach [] X.env)).any (·.1) || (backToKw pos (keywordEach kws X.env)).any (·.1.isNone)) = false := by rfl) :
    PE X (.Call (.Name x p) [] kws pos) (tCall sp [] E0 tk) := by
  constructor
  intro pins s σ H Q I h
  refine wpAny_Call_Name_kw (ld_glob I hg hm ?_ hdb)
  refine PySem.W.callWith_KW0 (h₀ := X.base) I.ok.mod.kin hk hall (thn (hkw.run pos pins s σ H _ I h) ?_) hpl
  intro ws s1 ⟨zs, H1, I1, r, q⟩
  have q' : sp zs H1 Q E0 := by
    have q0 : sp (zs ++ []) H1 Q E0 := q
    rw [List.append_nil] at q0
    exact q0
  rw [hks]
  exact ⟨I1.kIn, wpAny_call (run_g F hgu hr (hb.toK s1 ws I1.kIn (by rw [← r.length]; exact F.lenG _ _ _ _ q')) I1 r q')⟩
end

/-! ### repr of data -/
section
variable {X : Cx}
def rRepr (K : PySem.W.Frag) : List V → Hp → VK → Prop := fun xs H Q => ∃ x d, xs = [x] ∧ Dp K H x d ∧ d.showable = true ∧ d.hasDict = false ∧ d.depth ≤ 60 ∧ d.shown.length ≤ sizeLine ∧ Q (.str d.shown) H
theorem call_repr (hgu : X.A.guards = some []) (hu : X.A.units + 64 < cLine) : CallR X (.builtin "repr") (rRepr X.K) := by
  intro pins s σ H xs us Q I r h
  obtain ⟨x, d, rfl, hd, hs, hnd, hdp, hz, q⟩ := h
  obtain ⟨u, rfl, rx⟩ := vals1 r
  have hsm : ∀ as : List Addr, d.hasDict = true → sysModules ∉ as := fun as e => by
    rw [hnd] at e
    cases e
  obtain ⟨as, rd⟩ := Dp.reads I d x u hd rx
  cases hd with
  | non =>
    obtain rfl : u = Value.none := rx
    exact PySem.P.repr_of_none ⟨.str _, H, I.tok _, ⟨_, rfl⟩, q⟩
  | bl b =>
    obtain rfl : u = Value.bool b := rx
    exact PySem.P.repr_of_bool ⟨.str _, H, I.tok _, ⟨_, rfl⟩, by simpa only [PyData.shown] using q⟩
  | int i =>
    obtain ⟨t, rfl⟩ := rx
    exact PySem.P.repr_of_int (by simpa [PyData.showable] using hs) ⟨.str _, H, I.tok _, ⟨_, rfl⟩, by simpa only [PyData.shown] using q⟩
  | str y =>
    obtain ⟨t, rfl⟩ := rx
    exact PySem.P.repr_of_str ⟨.str _, H, I.tok _, ⟨_, rfl⟩, by simpa only [PyData.shown] using q⟩ (by simpa only [PyData.shown] using hz)
  | lst =>
    rename_i a _ _ _ _
    obtain rfl : u = Value.ref a := rx
    exact repr_of_reads' (h₀ := s.heap) rd hs (hsm as) hgu (by omega) (fun _ _ e => e) (fun h' v tk hk => ⟨.str _, H, I.kept hk, ⟨v, rfl⟩, q⟩) hz
  | tup =>
    rename_i a _ _ _ _
    obtain rfl : u = Value.ref a := rx
    exact repr_of_reads' (h₀ := s.heap) rd hs (hsm as) hgu (by omega) (fun _ _ e => e) (fun h' v tk hk => ⟨.str _, H, I.kept hk, ⟨v, rfl⟩, q⟩) hz
end

/-! ### the script + a list -/
/-- a list that stands with no dict and no slots of its own -/
def Bare (K : PySem.W.Frag) (H : Hp) (a : Addr) (xs : List V) : Prop :=
  (∃ (us : List Value) (n : Nat), H a = some (.frz { cls := .type "list", data := .seq us.toArray n } (.lst xs))) ∨
  (∃ (us : List Value) (n : Nat), K.lookup a = some { cls := .type "list", data := .seq us.toArray n } ∧ Vals xs us)
theorem Bare.seq {K : PySem.W.Frag} {H : Hp} {a : Addr} {xs : List V} (hz : xs.length ≤ sizeLine) (h : Bare K H a xs) : SqL K H a xs := by
  rcases h with ⟨us, n, e⟩ | ⟨us, n, e, r⟩
  · exact .inl (.inr ⟨_, e⟩)
  · refine .inr ⟨_, us.toArray, n, e, rfl, rfl, rfl, ?_, by simpa using r⟩
    rw [List.size_toArray, ← r.length]
    exact hz
theorem Bare.keep {K : PySem.W.Frag} {H H' : Hp} {a : Addr} {xs : List V} (h : Bare K H a xs) (e : Same H H') : Bare K H' a xs := by
  rcases h with ⟨us, n, q⟩ | h
  · exact .inl ⟨us, n, e _ _ q⟩
  · exact .inr h
section
variable {X : Cx}
def rCatS (K : PySem.W.Frag) : R2 := fun x y H Q => ∃ l b xs zs, x = .ref l ∧ y = .ref b ∧ Bare K H l xs ∧ H b = some (.lst zs) ∧ xs.length + zs.length ≤ sizeLine ∧
  ∀ p, H p = none → Q (.ref p) (upd H p (.lst (xs ++ zs)))
theorem op_catS : OpR X (binaryOp .Add) (rCatS X.K) := by
  intro pins s σ H x y v u Q I rx ry h
  obtain ⟨l, b, xs, zs, rfl, rfl, hl, hb, hz, q⟩ := h
  obtain rfl : v = Value.ref l := rx
  obtain rfl : u = Value.ref b := ry
  obtain ⟨z2, its2, n2, r2, hl2, e2⟩ := I.lstM hb
  have hfin : ∀ (its : List Value) (n : Nat), Vals xs its → s.heap.get? l = some { cls := .type "list", data := .seq its.toArray n } →
      wpAny (model X.prog X.w) X.A (binaryOp .Add (.ref l) (.ref b)) (EP X pins σ Q) X.xe s := by
    intro its n r e
    have hln := r.length
    refine PySem.P.add_list e e2 ?_ (by rw [List.size_toArray, List.size_toArray]; omega)
    rw [show its.toArray ++ its2.toArray = (its ++ its2).toArray by simp]
    exact ⟨.ref _, _, I.lnew (t' := s.toks) (r.append r2) (by rw [List.length_append]; exact hz), rfl, q _ I.fresh⟩
  rcases hl with ⟨us, n, e⟩ | ⟨us, n, e, r⟩
  · obtain ⟨e1, _, its, m, r, e3⟩ := I.hok l _ e
    rw [e1] at e3
    cases e3
    exact hfin _ _ r e1
  · exact hfin us n r (I.kIn l _ e)
end

/-! ### the end -/
/-- the law's own head, with the marks known and the script told to be bare -/
theorem enterG {P : Program} {w : World} {K : PySem.W.Frag} {mg mb : Str → Option Value} {k : Nat} {fa a : Addr} {fd : FuncData} {x : Str} {sp : Sp} {s₁ : Shared} {vs : List Value} {ns : List Int}
    (KX : K.In s₁.heap) (hns : s₁.heap.Ns mainGlobals mg) (hb : s₁.heap.Ns builtinsNs mb) (hbb : ∀ x : Str, x ≠ "__name__" → mb x = bootBuiltins x)
    (hlim : s₁.heap.NoLimit) (hg : s₁.gens = #[]) (ha : s₁.heap.get? a = some { cls := .type "list", data := .seq vs.toArray })
    (hi : IntsAre vs ns) (hl : ns.length ≤ sizeLine) (hr : Room k callerA)
    (F : ∀ base : Heap, K.In base → base.Ns mainGlobals mg → FnG P w K mg base k fa fd [x] sp)
    (hbind : ∀ (s : Shared) (u : Value), BindsTo s fd ⟨[u], []⟩ [(x, u)])
    (hsp : ∀ H : Hp, Bare K H a (ns.map V.int) → sp [.ref a] H (fun v _ => v = .bl true) E0) :
    codeAny (model P w) callerA (.call (.ref fa) ⟨[.ref a], []⟩)
      (fun r s' => r = .ok (.ret (.bool true)) ∧ OldK s₁.heap s'.heap ∧ s'.os = s₁.os ∧ AllBare s'.gens) s₁ := by
  have rv := vals_ints hi
  have nV := hi.length
  have core : ∀ H : Hp, Only H → Bare K H a (ns.map V.int) → HOk P w H s₁.heap → (∀ b, H b ≠ none → b = a) → (H a ≠ none → K.lookup a = none) →
      codeAny (model P w) callerA (.call (.ref fa) ⟨[.ref a], []⟩)
        (fun r s' => r = .ok (.ret (.bool true)) ∧ OldK s₁.heap s'.heap ∧ s'.os = s₁.os ∧ AllBare s'.gens) s₁ := by
    intro H hO hS hok hA hK
    have only_a : ∀ {b : Addr} {u : HO}, H b = some u → b = a := fun {b u} q => hA b (by rw [q]; simp)
    have un : ∀ {b : Addr} {o : Obj} {es : Array DictEntry} {ep : Nat}, s₁.heap.get? b = some o → o.data = .dict es ep → H b = none := by
      intro b o es ep e d
      cases q : H b with
      | none => rfl
      | some u =>
        have e' := only_a q
        rw [e', ha] at e
        cases e
        exact nomatch (show Data.seq vs.toArray _ = Data.dict es ep from d)
    have nsB : ∀ {b : Addr} {m : Str → Option Value}, s₁.heap.Ns b m → (hidT s₁.heap H).Ns b m :=
      fun {b m} ⟨o, es, ep, e, d, r⟩ => ⟨o, es, ep, hidT_get e (un e d), d, r⟩
    have inB : K.In (hidT s₁.heap H) := by
      intro b o e
      refine hidT_get (KX b o e) ?_
      cases q : H b with
      | none => rfl
      | some u =>
        have e' := only_a q
        rw [e', hK (by rw [← e', q]; simp)] at e
        cases e
    have md : Mod K mg (hidT s₁.heap H) := ⟨inB, nsB hns, ⟨mb, nsB hb, hbb⟩, let ⟨mc, h1, h2⟩ := hlim; ⟨mc, nsB h1, h2⟩⟩
    have e0 : Env0 P w K mg (hidT s₁.heap H) callerA [] s₁ H :=
      ⟨rfl, md, fun b o e => of_hidT e, Nat.le_of_eq (hidT_size _ _), trivial, fun b z => absurd (show b ∈ ([] : List Addr) from z) (by simp), hok, .of_eq hg⟩
    refine codeAny_mono ((F _ inB (nsB hns)).runG callerA [] s₁ H ⟨[.ref a], []⟩ [.ref a] [.ref a] _ rfl hr e0 (hbind s₁ (.ref a)) (.cons rfl .nil) (hsp H hS)) ?_
    rintro (e | fl) s' h
    · exact (show False from h).elim
    · cases fl with
      | next => exact (show False from h).elim
      | brk => exact (show False from h).elim
      | cont => exact (show False from h).elim
      | ret u =>
        obtain ⟨v, H', os, bare, uu, hok', r', q⟩ := h
        obtain rfl : v = .bl true := q
        obtain rfl : u = Value.bool true := r'
        refine ⟨rfl, OldK.of_keep ?_, os, bare⟩
        intro b o e
        cases q : H b with
        | none => exact uu.keep b o e q (fun z => absurd (show b ∈ ([] : List Addr) from z) (by simp)) (by simp)
        | some u =>
          rcases hO b with z | ⟨ob, xs, z⟩
          · rw [q] at z
            cases z
          · obtain ⟨e1, _⟩ := hok b _ z
            obtain ⟨e2, _⟩ := hok' b _ (uu.frzs b ob _ z)
            rw [e] at e1
            cases e1
            exact e2
  cases hk : K.lookup a with
  | some o =>
    have e := KX a o hk
    rw [ha] at e
    cases e
    exact core (fun _ => none) (fun _ => .inl rfl) (.inr ⟨vs, 0, hk, rv⟩) (fun b u z => nomatch (show (none : Option HO) = some u from z)) (fun b z => absurd rfl z) (fun z => absurd rfl z)
  | none =>
    have hat : ∀ b u, (if b = a then some (HO.frz { cls := .type "list", data := .seq vs.toArray } (.lst (ns.map V.int))) else none) = some u →
        b = a ∧ u = HO.frz { cls := .type "list", data := .seq vs.toArray } (.lst (ns.map V.int)) := by
      intro b u z
      by_cases hb : b = a
      · rw [if_pos hb] at z
        exact ⟨hb, (Option.some.inj z).symm⟩
      · rw [if_neg hb] at z
        cases z
    refine core (fun b => if b = a then some (.frz { cls := .type "list", data := .seq vs.toArray } (.lst (ns.map V.int))) else none) ?_ (.inl ⟨vs, 0, if_pos rfl⟩) ?_ ?_ (fun _ => hk)
    · intro b
      by_cases hb : b = a
      · exact .inr ⟨_, _, if_pos hb⟩
      · exact .inl (if_neg hb)
    · intro b u z
      obtain ⟨rfl, rfl⟩ := hat b u z
      exact ⟨ha, by rw [List.length_map]; exact hl, vs, _, rv, ha⟩
    · intro b z
      cases q : (if b = a then some (HO.frz { cls := .type "list", data := .seq vs.toArray } (.lst (ns.map V.int))) else none) with
      | none => exact absurd q z
      | some u => exact (hat b u q).1

/-- what the last theorem takes -/
theorem walkG {l : PySem.W.OpenLaw} {k : Nat} {q : Program} {loose : List Str} {XP : (Str → Option Value) → Heap → Prop} {YP : World → Heap → Prop} {d : DefRec} {K : Params → PySem.W.Frag} {sp : PySem.W.Frag → Sp} {x : Str}
    (hn : l.most = some 63) (hdf : d.params.defaults = []) (hr : Room k callerA) (hY : ∀ (w : World) (h : Heap), YP w h → (K w.params).In h)
    (F : ∀ (w : World) (mg : Str → Option Value) (fa : Addr) (h : Heap), (K w.params).In h → h.Ns mainGlobals mg → mg d.name = some (.ref fa) →
      ∃ fd : FuncData, (∀ (s : Shared) (u : Value), BindsTo s fd ⟨[u], []⟩ [(x, u)]) ∧
        ∀ base : Heap, (K w.params).In base → base.Ns mainGlobals mg → FnG l.prog w (K w.params) mg base k fa fd [x] (sp (K w.params)))
    (hsp : ∀ (K : PySem.W.Frag) (H : Hp) (a : Addr) (ns : List Int), ns.length ≤ 63 → Bare K H a (ns.map V.int) → sp K [.ref a] H (fun v _ => v = .bl true) E0) :
    PySem.W.WalkO q loose XP YP l.row.toRowW d [] (fun f vs => PySem.call f vs) := by
  refine Att.attach_call hn hdf ?_
  intro w s₀ s₁ mg mb fa o pm cd doc a vs ns G Y ho hd hcd hmg hobj hints hlen hg
  have KX := hY w _ Y
  obtain ⟨fd, hb, hF⟩ := F w mg fa _ KX G.T.g hmg
  exact enterG KX G.T.g G.T.b G.T.builtins G.T.nolimit hg hobj hints (Nat.le_trans hlen (by decide)) hr hF hb (fun H hS => hsp (K w.params) H a ns hlen hS)
end Pk

/-! ## Comprehensions whose element has a value that the heap does not change -/
namespace Pk
open PySem PySem.Spec PyProof.Rows L2
theorem posI {j : Int} (h : decide (0 < j) = true) : 0 < j := of_decide_eq_true h
theorem one_more {α : Type} {xs : List α} {i : Nat} {a : α} (h : xs[i]? = some a) : xs.take (i + 1) = xs.take i ++ [a] := by
  rw [List.take_add_one, h]
  rfl
theorem same_upd {H1 H : Hp} {D : Addr} {o : HO} (s : Same H1 H) (hD : H1 D = none) : Same H1 (upd H D o) := fun b u e => by
  rw [upd_ne (ne_of_none e hD)]
  exact s b u e
theorem same_new {H : Hp} {p : Addr} {o : HO} (h : H p = none) : Same H (upd H p o) := same_upd (Same.refl H) h
theorem lc_map {α : Type} {J : It} {n : Nat} {G : Hp → Prop} {Y : Nat → Hp → V → Hp → Prop} (w : Walk J n G Y) (xs : List α) (emb : α → V) (hn : n = xs.length)
    (hY : ∀ i H x H', Y i H x H' → H' = H ∧ ∃ a, xs[i]? = some a ∧ x = emb a)
    {g : TG} {tt : TT} {te : TE} {vs : List Nat} {σ : L2.St} {H1 : Hp} {D : Addr} {Qd : Hp → Prop} (p : α → Bool) (f : α → V) (hD : H1 D = none) (hz : n < sizeLine) (hG : ∀ H, Same H1 H → G H)
    (hs : ∀ a, a ∈ xs → ∀ (H : Hp) (R : VK) (S : Hp → Prop), Same H1 H → (p a = true → ∀ H', Same H H' → R (f a) H') → (p a = false → ∀ H', Same H H' → S H') →
      g (emb a) (wipe σ vs) H fun σ2 H2 => wipe σ2 vs = wipe σ vs ∧ tt σ2 H2 fun b H3 => if b = true then te σ2 H3 R else S H3)
    (hd : ∀ H, Same H1 H → H D = some (.lst ((xs.filter p).map f)) → Qd H) :
    ∃ W : Nat → Nat → Hp → Prop, (∃ m, W 0 m (upd H1 D (.lst []))) ∧ ∀ i m H, W i m H →
      (J.stop i H ∧ Qd H) ∨ (J.go i H ∧ ∃ Nx : Hp → Prop, (∀ H', Nx H' → ∃ m', m' < m ∧ W (i + 1) m' H') ∧
        ∀ x H', J.yld i H x H' → g x (wipe σ vs) H' fun σ2 H2 => wipe σ2 vs = wipe σ vs ∧ tt σ2 H2 fun b H3 =>
          if b = true then te σ2 H3 fun y H4 => ∃ acc, H4 D = some (.lst acc) ∧ acc.length < sizeLine ∧ Nx (upd H4 D (.lst (acc ++ [y]))) else Nx H3) := by
  refine lc_it w (fun i H => Same H1 H ∧ H D = some (.lst (((xs.take i).filter p).map f))) ⟨same_new hD, by rw [upd_same]; rfl⟩ (fun i H _ h => hG H h.1) ?_ ?_
  · rintro i x H H' hi ⟨s, hl⟩ y
    obtain ⟨rfl, a, ha, rfl⟩ := hY _ _ _ _ y
    have hlen : (((xs.take i).filter p).map f).length < sizeLine := by
      refine Nat.lt_of_le_of_lt ?_ hz
      rw [List.length_map]
      refine Nat.le_trans (List.length_filter_le _ _) ?_
      rw [List.length_take]
      omega
    refine hs a (List.mem_of_getElem? ha) H' _ _ s (fun hp H4 s4 => ?_) (fun hp H4 s4 => ?_)
    · refine ⟨_, s4 _ _ hl, hlen, same_upd (s.trans s4) hD, ?_⟩
      rw [upd_same, one_more ha, List.filter_append, List.map_append]
      simp [hp]
    · refine ⟨s.trans s4, ?_⟩
      rw [s4 _ _ hl, one_more ha, List.filter_append, List.map_append]
      simp [hp]
  · rintro H ⟨s, hl⟩
    refine hd H s ?_
    rw [hl, hn, List.take_length]
/-- over a text -/
theorem lc_txt {z : Str} {g : TG} {tt : TT} {te : TE} {vs : List Nat} {σ : L2.St} {H1 : Hp} {D : Addr} {Qd : Hp → Prop} (p : Nat → Bool) (f : Nat → V) (hD : H1 D = none) (hz : z.length < sizeLine)
    (hs : ∀ c, c ∈ z.cps.toList → ∀ (H : Hp) (R : VK) (S : Hp → Prop), Same H1 H → (p c = true → ∀ H', Same H H' → R (f c) H') → (p c = false → ∀ H', Same H H' → S H') →
      g (.str ⟨#[c]⟩) (wipe σ vs) H fun σ2 H2 => wipe σ2 vs = wipe σ vs ∧ tt σ2 H2 fun b H3 => if b = true then te σ2 H3 R else S H3)
    (hd : ∀ H, Same H1 H → H D = some (.lst ((z.cps.toList.filter p).map f)) → Qd H) :
    ∃ W : Nat → Nat → Hp → Prop, (∃ m, W 0 m (upd H1 D (.lst []))) ∧ ∀ i m H, W i m H →
      ((Its z).stop i H ∧ Qd H) ∨ ((Its z).go i H ∧ ∃ Nx : Hp → Prop, (∀ H', Nx H' → ∃ m', m' < m ∧ W (i + 1) m' H') ∧
        ∀ x H', (Its z).yld i H x H' → g x (wipe σ vs) H' fun σ2 H2 => wipe σ2 vs = wipe σ vs ∧ tt σ2 H2 fun b H3 =>
          if b = true then te σ2 H3 fun y H4 => ∃ acc, H4 D = some (.lst acc) ∧ acc.length < sizeLine ∧ Nx (upd H4 D (.lst (acc ++ [y]))) else Nx H3) :=
  lc_map (walk_str (z := z)) z.cps.toList (fun c => .str ⟨#[c]⟩) (by simp) (fun i H x H' ⟨e, c, h1, h2⟩ => ⟨e, c, by simpa using h1, h2⟩) p f hD hz (fun _ _ => trivial) hs hd
/-- over a list -/
theorem lc_lst {α : Type} {K : PySem.W.Frag} {a : Addr} (xs : List α) (emb : α → V) {g : TG} {tt : TT} {te : TE} {vs : List Nat} {σ : L2.St} {H1 : Hp} {D : Addr} {Qd : Hp → Prop} (p : α → Bool) (f : α → V) (hD : H1 D = none) (hz : xs.length < sizeLine)
    (ha : SqL K H1 a (xs.map emb))
    (hs : ∀ c, c ∈ xs → ∀ (H : Hp) (R : VK) (S : Hp → Prop), Same H1 H → (p c = true → ∀ H', Same H H' → R (f c) H') → (p c = false → ∀ H', Same H H' → S H') →
      g (emb c) (wipe σ vs) H fun σ2 H2 => wipe σ2 vs = wipe σ vs ∧ tt σ2 H2 fun b H3 => if b = true then te σ2 H3 R else S H3)
    (hd : ∀ H, Same H1 H → H D = some (.lst ((xs.filter p).map f)) → Qd H) :
    ∃ W : Nat → Nat → Hp → Prop, (∃ m, W 0 m (upd H1 D (.lst []))) ∧ ∀ i m H, W i m H →
      ((Itl K a).stop i H ∧ Qd H) ∨ ((Itl K a).go i H ∧ ∃ Nx : Hp → Prop, (∀ H', Nx H' → ∃ m', m' < m ∧ W (i + 1) m' H') ∧
        ∀ x H', (Itl K a).yld i H x H' → g x (wipe σ vs) H' fun σ2 H2 => wipe σ2 vs = wipe σ vs ∧ tt σ2 H2 fun b H3 =>
          if b = true then te σ2 H3 fun y H4 => ∃ acc, H4 D = some (.lst acc) ∧ acc.length < sizeLine ∧ Nx (upd H4 D (.lst (acc ++ [y]))) else Nx H3) :=
  lc_map (walk_list (K := K) (a := a) (xs := xs.map emb)) xs emb (by simp)
    (fun i H x H' ⟨e, h⟩ => ⟨e, by
      rw [List.getElem?_map] at h
      cases q : xs[i]? with
      | none =>
        rw [q] at h
        cases h
      | some c =>
        rw [q] at h
        exact ⟨c, rfl, (Option.some.inj h).symm⟩⟩) p f hD (by simpa using hz) (fun H s => s.seq ha) hs hd
end Pk

/-! ## Operators, str and construction of instances with a dict; enumerate over a tuple -/
namespace Pk
open PySem PySem.Spec PyProof.Rows L2
open SlX (cmpback)
section
variable {X : Cx} {k n : Nat} {f C g : Addr} {fd : FuncData} {ps : List Str} {sp : Sp} {E : XK} {CX : CXT}
/-- x op y, both instances of the class at C, whose def for op is at g -/
def rOwnD (C : Addr) (sp : Sp) (E : XK) : R2 := fun x y H Q => ∃ a dx fs b dy gs, x = .ref a ∧ y = .ref b ∧ H a = some (.ins C dx fs) ∧ H b = some (.ins C dy gs) ∧ sp [x, y] H Q E
theorem op_ownD {op : CmpOp} (hop : ∀ a b, compareOp op a b = richCompare op a b) (hs : PySem.W.findIn X.K (.ref C) (cmpInfo op).2.1 = some (some (.ref g)))
    (hf : PySem.W.isFn X.K (.ref g) = true) (hn : PySem.W.notFirst X.K C (.ref C) = true) (F : FnR X.prog X.w X.K X.mg X.base CX n g sp) (hr : Room n X.A) (hx : Passes CX X E) : OpR X (compareOp op) (rOwnD C sp E) := by
  intro pins s σ H x y v u Q I rx ry h
  obtain ⟨a, dx, fs, b, dy, gs, rfl, rfl, ha, hb, q⟩ := h
  obtain rfl : v = Value.ref a := rx
  obtain rfl : u = Value.ref b := ry
  obtain ⟨mA, O, _⟩ := ins_get I.hok ha
  obtain ⟨od, J, _⟩ := O.look
  obtain ⟨mB, O', _⟩ := ins_get I.hok hb
  obtain ⟨od', J', _⟩ := O'.look
  obtain ⟨m, hF⟩ := I.fr
  rw [hop]
  refine PySem.W.cmp_K (op := op) (tb := .ref C) hr.units0 hF I.ok.mod.kin J J'.type hn hs hf (wpAny_mono (wpAny_call (run_fnR (us := [.ref a, .ref b]) (vs := [.ref a, .ref b]) F hr hx I (.cons rfl (.cons rfl .nil)) q)) ?_ (fun _ _ x => x))
  rintro w s' ⟨z', H', I', rz, qz⟩
  exact cmpback rz ⟨z', H', I', rz, qz⟩
/-- str(x) of an instance -/
def rStrD (C : Addr) (sp : Sp) (E : XK) : List V → Hp → VK → Prop := fun xs H Q => ∃ a dx fs, xs = [.ref a] ∧ H a = some (.ins C dx fs) ∧ sp [.ref a] H (fun z H' => ∃ t, z = .str t ∧ Q z H') E
theorem call_strD (hs : PySem.W.findIn X.K (.ref C) "__str__" = some (some (.ref g))) (hf : PySem.W.isFn X.K (.ref g) = true) (F : FnR X.prog X.w X.K X.mg X.base CX n g sp) (hr : Room (n + 2) X.A) (hx : Passes CX X E) :
    CallR X (.type "str") (rStrD C sp E) := by
  intro pins s σ H xs us Q I r h
  obtain ⟨a, dx, fs, rfl, ha, q⟩ := h
  obtain ⟨u, rfl, ru⟩ := vals1 r
  obtain rfl : u = Value.ref a := ru
  obtain ⟨mA, O, _⟩ := ins_get I.hok ha
  obtain ⟨od, J, _⟩ := O.look
  have hr1 : Room (n + 1) X.A.in1 := Room.in1 hr
  have hr2 : Room n X.A.in1.in1 := hr1.in1
  refine PySem.W.kso_call hr2.units0 I.kIn J hs hf (wpAny_mono (wpAny_call (SlX.run_at (us := [.ref a]) (ws := [.ref a]) F hr2 I.env0.in1.in1 hx I (.cons rfl .nil) q)) ?_ (fun _ _ x => x))
  rintro w s' ⟨z', H', I', rz, t, rfl, qz⟩
  obtain ⟨tk, rfl⟩ := (show ∃ t', w = Value.str t t' from rz)
  exact ⟨.str t, H', I', ⟨tk, rfl⟩, qz⟩
/-- c(..), c a local name that holds the class at C -/
theorem pe_makeL {i : Nat} {x : Str} {p pos : Pos} {e : Expr} {es : List Expr} {t : TA} (M : Mk X.K C f) (F : FnOk X.prog X.w X.K X.mg X.base CX k f fd ps sp) (hr : Room (k + 1) X.A) (hN : X.N[i]? = some x) (hv : Vis X.env.scope x)
    (hb : Binds X.K fd ps []) (hx : Passes CX X E) (ha : PA X (e :: es) t) (hd : (x == ("__debug__" : Str)) = false := by decide) (hcd : (x == ("__classdict__" : Str)) = false := by decide)
    (he : starEach (e :: es) X.env = (false, eval e X.env) :: starEach es X.env := by rfl) (hpl : (backTo pos (starEach es X.env)).any (·.1) = false := by rfl) :
    PE X (.Call (.Name x p) (e :: es) [] pos) (fun σ H Q => σ[i]? = some (some (.ref C)) ∧ tMake C sp [] E t σ H Q) := by
  constructor
  intro pins s σ H Q I h
  obtain ⟨h1, h2⟩ := h
  refine wpAny_Call_Name_kw (thn ((pe_var hN hv hd hcd).run pins s σ H (fun v H' => v = .ref C ∧ H' = H) I ⟨.ref C, h1, rfl, rfl⟩) ?_)
  rintro u s1 ⟨v, H1, I1, rv, rfl, rfl⟩
  obtain rfl : u = Value.ref C := rv
  refine PySem.W.callWith_K (h₀ := X.base) I1.ok.mod.kin M.kp (thn (ha.run pos pins s1 σ H1 _ I1 h2) ?_) he hpl
  intro us s2 ⟨vs, H2, I2, r, q⟩
  exact ⟨I2.kIn, run_make M F hr hb .nil hx I2 r q⟩
end

/-! ### enumerate over a tuple -/
/-- the tuple at a, each item in a new pair -/
def ItT (K : PySem.W.Frag) (a : Addr) : It :=
  ⟨fun i H => ∃ (xs : List V) (x : V), SqT K H a xs ∧ xs[i]? = some x,
   fun i H v H' => ∃ T x, v = .ref T ∧ H T = none ∧ H' = upd H T (.tup [.int (i : Nat), x]) ∧ ∀ xs, SqT K H a xs → xs[i]? = some x,
   fun i H => ∃ xs : List V, SqT K H a xs ∧ xs.length = i⟩
theorem turn_enT {P : Program} {w : World} {K : PySem.W.Frag} {elts : List Expr} {kk : Nat} {tpos : Pos} (a e it : Addr) :
    Turn P w K (.Tuple elts kk tpos) (ItT K a) [e, it] e (fun i h => (∃ old, IsEnum h e it ((i : Nat) : Int) old) ∧ h.IsTupleIter it a i ∧ e ≠ it ∧ a ≠ it ∧ e ≠ a) where
  mem := by simp
  obj := by
    rintro i h ⟨⟨old, he⟩, ⟨o, ho, hc, hd⟩, _⟩ b hb
    rcases (show b = e ∨ b = it by simpa using hb) with rfl | rfl
    · exact ⟨_, he, fun v q => nomatch q⟩
    · exact ⟨o, ho, fun v q => by rw [hd] at q; cases q⟩
  keep := by
    rintro i h h' ⟨⟨old, he⟩, hi, hne⟩ k
    exact ⟨⟨old, k e (by simp) _ he⟩, hi.at fun o q => k it (by simp) o q, hne⟩
  item := by
    intro X hP hw hK hc i pins s σ H E I hf st hg
    subst hP hw hK
    obtain ⟨⟨old, he⟩, hit, hne, hai, hea⟩ := st
    obtain ⟨xs, x, hq, hx⟩ := hg
    obtain ⟨its, rv, ht, hz⟩ := I.tuple hq
    obtain ⟨u, hu, ru⟩ := rv.get hx
    have hlt : i < its.toArray.size := by
      have h1 := (List.getElem?_eq_some_iff.mp hu).1
      simpa using h1
    have hel : e < s.heap.objs.size := Heap.lt_size he
    have hil : it < s.heap.objs.size := by
      obtain ⟨_, q, _⟩ := hit
      exact Heap.lt_size q
    have D := Draws.tuple (prog := X.prog) (w := X.w) (A := X.A.in1) (I.ok.hd hc) it a hai its.toArray
    refine wpAny_pyNext_enum_itemD D he ⟨hit, ht⟩ hlt hne (by simp [hne, hea]) ?_
    intro y h' tk hy ho hst hT hsz hk
    obtain rfl : u = y := by
      have h1 : its[i]? = some y := by simpa using hy
      rw [hu] at h1
      exact Option.some.inj h1
    refine ⟨_, rfl, wpAny_letOwnedTupleGo_enum (s := { s with heap := h', toks := tk + 1 }) ho ?_⟩
    intro h'' he' sb
    have hT2 := (sb.2 _ (Nat.ne_of_gt hel)).trans hT
    have new : ObjOk X.prog X.w (upd H s.heap.objs.size (.tup [.int (i : Nat), x])) h'' s.heap.objs.size (.tup [.int (i : Nat), x]) :=
      ⟨by show 2 ≤ sizeLine; decide, [.int i tk, u], .cons ⟨_, rfl⟩ (.cons ru .nil), ⟨_, hT2, rfl, _, rfl⟩⟩
    have hk2 : ∀ b ob, b ∉ [e, it] → s.heap.get? b = some ob → h''.get? b = some ob := by
      intro b ob hb q
      have n1 : b ≠ e := fun z => hb (by simp [z])
      have n2 : b ≠ it := fun z => hb (by simp [z])
      exact (sb.2 b n1).trans (hk b ob n1 n2 q)
    have I1 : Inv X pins σ (upd H s.heap.objs.size (.tup [.int (i : Nat), x])) { s with heap := h'', toks := tk + 1 } :=
      I.turnedNew (ch := [e, it]) hk2 hf (Nat.le_refl _) new
    refine ⟨.ref s.heap.objs.size, _, I1, rfl, ⟨_, x, rfl, I.fresh, rfl, ?_⟩, ⟨⟨u, ?_⟩, hst.1.at (fun o q => (sb.2 it (Ne.symm hne)).trans q), hne, hai, hea⟩, ?_⟩
    · intro ys hys
      rw [I.tuple_inj hys hq]
      exact hx
    · rw [show ((i + 1 : Nat) : Int) = (i : Int) + 1 by omega]
      exact he'
    · intro b hb
      have hb' : b < s.heap.objs.size := by
        rcases (show b = e ∨ b = it by simpa using hb) with rfl | rfl
        · exact hel
        · exact hil
      rw [upd_ne (Nat.ne_of_lt hb')]
      exact (hf b hb).1
  done := by
    intro X hP hw hK hc i pins s σ H E I hf st hg
    subst hP hw hK
    obtain ⟨⟨old, he⟩, hit, hne, hai, hea⟩ := st
    obtain ⟨xs, hq, hx⟩ := hg
    obtain ⟨its, rv, ht, hz⟩ := I.tuple hq
    obtain ⟨f0, f1, f2, f3, f4, f5⟩ := hf it (by simp)
    have hln := rv.length
    have D := Draws.tuple (prog := X.prog) (w := X.w) (A := X.A.in1) (I.ok.hd hc) it a hai its.toArray
    have ei : i = its.toArray.size := by
      rw [List.size_toArray, ← hln]
      exact hx.symm
    rw [ei] at hit
    refine wpAny_pyNext_enum_endD D he ⟨hit, ht⟩ ?_
    intro h' eb
    exact ⟨rfl, I.turned (t' := s.toks) (fun b o hb q => eb b o hb q) f0 f1 f3 f4 f5⟩
  self := by
    rintro A i s Q E ⟨⟨_, he⟩, _⟩ h
    exact wpAny_pyIter_enum he h
/-- the making of enumerate(v), v told by what its iterator is -/
theorem new_enum {v : Value} {o : Obj} {W : Heap → Prop} (B : Begins v o W) :
    Meets (Builtin.«enumerate.__new__» ⟨[.type "enumerate", v], []⟩) (fun _ R s => W s.heap ∧ R (.ok (.ret (.ref (s.heap.push o).objs.size)))
      { s with heap := (s.heap.push o).push { cls := .type "enumerate", data := .fields #[.none, .bool false, .ref s.heap.objs.size, rawInt 0, .none, .none] } }) := by
  refine .of_wp ?_
  rintro prog w A R ⟨hp, g, d, tk, os⟩ ⟨h1, h⟩
  have hsub := sub_enumerate
  have q1 : ∀ {A' : Around} {E : Value → Shared → Prop} {Q : Value → Shared → Prop}, Q (.ref hp.objs.size) ⟨hp.push o, g, d, tk, os⟩ → wpAny (model prog w) A' (pyIter v) Q E ⟨hp, g, d, tk, os⟩ := by
    intro A' E Q q
    exact B.iter prog w _ _ ⟨hp, g, d, tk, os⟩ _ h1 q
  wp_walk using q1
  refine wpAny_stack_any (fun st => wpAny_pure ?_)
  split
  · rename_i c _ _ _ _ _
    cases (c == Value.type "enumerate") <;> (wp_walk using q1; exact ⟨_, rfl, h⟩)
  · wp_walk using q1
    exact ⟨_, rfl, h⟩
theorem call_enum {prog : Program} {w : World} {A : Around} {E : Value → Shared → Prop} {s : Shared} {v : Value} {o : Obj} {W : Heap → Prop} {Q : Value → Shared → Prop} (B : Begins v o W) (h1 : W s.heap)
    (h : ∀ h', IsEnum h' (s.heap.objs.size + 1) s.heap.objs.size 0 .none → h'.get? s.heap.objs.size = some o → (∀ b o, s.heap.get? b = some o → h'.get? b = some o) →
      Q (.ref (s.heap.objs.size + 1)) { s with heap := h' }) : wpAny (model prog w) A (call (.type "enumerate") [v]) Q E s := by
  refine callType_new F.called_enumerate (by decide) (F.typeCall_enumerate_1 _) (F.newCall_enumerate_1 _) (fun obj => F.args_object_init_2 obj _) F.entry_enumerate_new (new_enum B) ⟨h1, ?_⟩
  have hz : (s.heap.push o).objs.size = s.heap.objs.size + 1 := Heap.size_push ..
  show _ ∧ _
  rw [hz]
  have he : IsEnum ((s.heap.push o).push { cls := .type "enumerate", data := .fields #[.none, .bool false, .ref s.heap.objs.size, rawInt 0, .none, .none] }) (s.heap.objs.size + 1) s.heap.objs.size 0 .none := by
    have e1 := Heap.get?_push_size (s.heap.push o) (o := { cls := .type "enumerate", data := .fields #[.none, .bool false, .ref s.heap.objs.size, rawInt 0, .none, .none] }) rfl
    rw [hz] at e1
    exact e1
  exact ⟨⟨_, he, rfl⟩, h _ he (Heap.get?_push_of_some _ (Heap.get?_push_size _ B.free)) (fun b o x => Heap.get?_push_of_some _ (Heap.get?_push_of_some _ x))⟩
def iEnT (K : PySem.W.Frag) (ta : TA) : TI := fun σ H R => ta σ H fun vs H1 => ∃ a xs, vs = [.ref a] ∧ SqT K H1 a xs ∧ R (ItT K a) H1
/-- for i, x in enumerate(a tuple) -/
theorem pi_enT {X : Cx} {e : Expr} {ta : TA} {p pos tpos : Pos} {elts : List Expr} {kk : Nat} (hg : Gl X "enumerate") (hm : X.mg "enumerate" = none) (ha : PA X [e] ta)
    (hs : starEach [e] X.env = [(false, eval e X.env)] := by rfl) : PI X (.Tuple elts kk tpos) (.Call (.Name "enumerate" p) [e] [] pos) (iEnT X.K ta) := by
  constructor
  intro pins s σ H R I h
  refine Call_ (ld_blt I hg hm boot_enumerate (PyProof.Rows.callWith_type1 (thn (ha.run pos pins s σ H _ I h) ?_) hs rfl))
  rintro us s1 ⟨vs, H1, I1, r1, a, xs, rfl, hq, q⟩
  obtain ⟨u, rfl, rx⟩ := vals1 r1
  obtain rfl : u = Value.ref a := rx
  obtain ⟨its, rv, ht, hz⟩ := I1.tuple hq
  refine call_enum (begins_tuple a its.toArray) ht ?_
  intro h' he hit hk
  refine wpAny_pyIter_enum he ?_
  have I2 : Inv X pins σ H1 { s1 with heap := h' } := I1.kept (t' := s1.toks) hk
  have la : a < s1.heap.objs.size := ht.lt
  refine ⟨s1.heap.objs.size + 1, [s1.heap.objs.size + 1, s1.heap.objs.size], _, _, H1, rfl, I2, turn_enT a (s1.heap.objs.size + 1) s1.heap.objs.size,
    ⟨⟨.none, he⟩, ⟨_, hit, rfl, rfl⟩, Nat.succ_ne_self _, Nat.ne_of_lt la, Nat.ne_of_gt (Nat.lt_succ_of_lt la)⟩, ?_, q⟩
  intro b hb
  have hle : s1.heap.objs.size ≤ b := by
    rcases (show b = s1.heap.objs.size + 1 ∨ b = s1.heap.objs.size by simpa using hb) with rfl | rfl
    · exact Nat.le_succ _
    · exact Nat.le_refl _
  exact I1.fpOk hle (I1.hok.fresh hle)
theorem walk_enT {K : PySem.W.Frag} {a : Addr} {xs : List V} : Walk (ItT K a) xs.length (fun H => SqT K H a xs) (YPair (fun i => some (.int (i : Nat))) (fun i => xs[i]?)) := by
  refine ⟨fun i _ hi q => ⟨xs, xs[i], q, by simp [hi]⟩, fun _ q => ⟨xs, q, rfl⟩, ?_⟩
  rintro i H v H' _ q ⟨T, x, h1, h2, h3, h4⟩
  exact ⟨T, .int (i : Nat), x, h1, h2, h3, rfl, h4 xs q⟩
end Pk

/-! ## Versions: the mathematics of their texts -/
namespace Pk
open PySem L2 TL SX
def isDig (c : Nat) : Bool := decide (48 ≤ c ∧ c ≤ 57)
/-- number_of_text -/
def nT (l : List Nat) : Option Nat :=
  if (decide (1 ≤ l.length) && (decide (l.length ≤ 3) && l.all isDig)) = true then (if l.head? = some 48 ∧ l ≠ [48] then none else some (NumText.digitsVal l)) else none
def wd : Nat → List Nat
  | 0 => [97]
  | 1 => [98]
  | _ => [114, 99]
/-- stage_of_text, from the i-th word on -/
def sTn (l : List Nat) : Nat → Nat → List Nat × Option Nat
  | 0, _ => (l, some 3000)
  | k + 1, i => match par (wd i) [] l with
    | some (p, q) => (p, (nT q).map (fun n => i * 1000 + n))
    | none => sTn l k (i + 1)
def sT (l : List Nat) : List Nat × Option Nat := sTn l 3 0
def allSome : List (Option Nat) → Option (List Nat)
  | [] => some []
  | none :: _ => none
  | some n :: r => (allSome r).map (n :: ·)
/-- parts_of_text -/
def pT (l : List Nat) : Option (List Nat × Nat) :=
  match (sT l).2, allSome ((spl [46] 0 [] (sT l).1).map nT) with
  | some st, some ns => if ns.length > 4 then none else some (ns, st)
  | _, _ => none
def rk (ns : List Nat) (st : Nat) : Nat := ((ns ++ [0, 0, 0]).take 4).foldl (fun r n => r * 1000 + n) 0 * 3001 + st
def stg (st : Nat) : List Nat := if st = 3000 then [] else wd (st / 1000) ++ numL (st % 1000)
def wrt (figs : List Nat) (st : Nat) : List Nat := joinL [46] (figs.map numL) ++ stg st
theorem nT_num : ∀ n : Nat, n < 1000 → nT (numL n) = some n := by
  intro n hn
  have hd := numL_digits n
  have h1 : (numL n).length ≤ 3 := numL_len (by decide) hn
  have h2 : 1 ≤ (numL n).length := by
    have := numL_ne n
    cases e : numL n with
    | nil => exact absurd e this
    | cons c r => simp
  have h3 : (numL n).all isDig = true := by
    rw [List.all_eq_true]
    intro c hc
    have := hd c hc
    simp only [isDig, decide_eq_true_eq]
    omega
  have h4 : ¬ ((numL n).head? = some 48 ∧ numL n ≠ [48]) := by
    have key : ∀ n : Nat, n < 1000 → decide ((numL n).head? = some 48 ∧ numL n ≠ [48]) = false := by decide +kernel
    exact of_decide_eq_false (key n hn)
  unfold nT
  rw [decide_eq_true h1, decide_eq_true h2, h3]
  simp only [Bool.and_self, if_true]
  rw [if_neg h4, numL_val]
theorem join_chars : ∀ {figs : List Nat} {c : Nat}, c ∈ joinL [46] (figs.map numL) → c = 46 ∨ (48 ≤ c ∧ c ≤ 57)
  | [], c, h => by cases h
  | [n], c, h => by
    have := numL_digits n c h
    omega
  | n :: m :: r, c, h => by
    have h' : c ∈ numL n ++ ([46] ++ joinL [46] ((m :: r).map numL)) := h
    rcases List.mem_append.mp h' with h | h
    · have := numL_digits n c h
      omega
    · rcases List.mem_append.mp h with h | h
      · exact .inl (by simpa using h)
      · exact join_chars h
theorem allSome_map : ∀ figs : List Nat, allSome (figs.map some) = some figs
  | [] => rfl
  | n :: r => by
    show (allSome (r.map some)).map (n :: ·) = some (n :: r)
    rw [allSome_map r]
    rfl
theorem sT_wrt {figs : List Nat} {st : Nat} (hs : st ≤ 3000) : sT (wrt figs st) = (joinL [46] (figs.map numL), some st) := by
  have noc : ∀ c : Nat, 57 < c → c ∉ joinL [46] (figs.map numL) := fun c hc h => by
    have := join_chars h
    omega
  have nod : ∀ c n : Nat, 57 < c → c ∉ numL n := fun c n hc => numL_free (.inr hc)
  unfold wrt
  generalize joinL [46] (figs.map numL) = A at noc
  by_cases h3 : st = 3000
  · subst h3
    have e1 : par [97] [] A = none := par_none1 (noc 97 (by decide))
    have e2 : par [98] [] A = none := par_none1 (noc 98 (by decide))
    have e3 : par [114, 99] [] A = none := par_none1 (noc 114 (by decide))
    simp only [stg, if_true, List.append_nil, sT, sTn, wd, e1, e2, e3]
  · have hs0 : stg st = wd (st / 1000) ++ numL (st % 1000) := if_neg h3
    have hn : nT (numL (st % 1000)) = some (st % 1000) := nT_num _ (Nat.mod_lt _ (by decide))
    have hlt : st / 1000 < 3 := by omega
    rw [hs0]
    have hc : st / 1000 = 0 ∨ st / 1000 = 1 ∨ st / 1000 = 2 := by omega
    rcases hc with h | h | h
    · rw [h]
      have e1 : par [97] [] (A ++ ([97] ++ numL (st % 1000))) = some (A, numL (st % 1000)) := by
        have := par_part1 (s := 97) (S := []) (p := A) (rest := numL (st % 1000)) (acc := []) (noc 97 (by decide))
        simpa using this
      simp only [sT, sTn, wd, e1, hn, Option.map_some]
      congr 2
      omega
    · rw [h]
      have m1 : 97 ∉ A ++ ([98] ++ numL (st % 1000)) := by
        simp only [List.mem_append, List.mem_singleton]
        rintro (q | q | q)
        · exact noc 97 (by decide) q
        · exact absurd q (by decide)
        · exact nod 97 _ (by decide) q
      have e1 : par [97] [] (A ++ ([98] ++ numL (st % 1000))) = none := par_none1 m1
      have e2 : par [98] [] (A ++ ([98] ++ numL (st % 1000))) = some (A, numL (st % 1000)) := by
        have := par_part1 (s := 98) (S := []) (p := A) (rest := numL (st % 1000)) (acc := []) (noc 98 (by decide))
        simpa using this
      simp only [sT, sTn, wd, e1, e2, hn, Option.map_some]
      congr 2
      omega
    · rw [h]
      have m1 : 97 ∉ A ++ ([114, 99] ++ numL (st % 1000)) := by
        simp only [List.mem_append, List.mem_cons, List.not_mem_nil, or_false]
        rintro (q | (q | q) | q)
        · exact noc 97 (by decide) q
        · exact absurd q (by decide)
        · exact absurd q (by decide)
        · exact nod 97 _ (by decide) q
      have m2 : 98 ∉ A ++ ([114, 99] ++ numL (st % 1000)) := by
        simp only [List.mem_append, List.mem_cons, List.not_mem_nil, or_false]
        rintro (q | (q | q) | q)
        · exact noc 98 (by decide) q
        · exact absurd q (by decide)
        · exact absurd q (by decide)
        · exact nod 98 _ (by decide) q
      have e1 : par [97] [] (A ++ ([114, 99] ++ numL (st % 1000))) = none := par_none1 m1
      have e2 : par [98] [] (A ++ ([114, 99] ++ numL (st % 1000))) = none := par_none1 m2
      have e3 : par [114, 99] [] (A ++ ([114, 99] ++ numL (st % 1000))) = some (A, numL (st % 1000)) := by
        have := par_part1 (s := 114) (S := [99]) (p := A) (rest := numL (st % 1000)) (acc := []) (noc 114 (by decide))
        simpa using this
      simp only [sT, sTn, wd, e1, e2, e3, hn, Option.map_some]
      congr 2
      omega
theorem pT_wrt {figs : List Nat} {st : Nat} (hf : figs ≠ []) (h4 : figs.length ≤ 4) (hb : ∀ n ∈ figs, n < 1000) (hs : st ≤ 3000) : pT (wrt figs st) = some (figs, st) := by
  have e : (spl [46] 0 [] (joinL [46] (figs.map numL))).map nT = figs.map some := by
    rw [TL.spl_join (s := 46) (S := []) (by simpa using hf) (fun p hp => by
      obtain ⟨n, _, rfl⟩ := List.mem_map.mp hp
      exact numL_free (.inl (by decide))), List.map_map]
    exact List.map_congr_left fun n hn => nT_num n (hb n hn)
  unfold pT
  rw [sT_wrt hs, e, allSome_map]
  simp only
  rw [if_neg (by omega)]
/-- how many numbers are written -/
def many (ns : List Nat) : Nat → Nat
  | 0 => 0
  | 1 => 1
  | m + 2 => if ns[m + 1]? = some 0 then many ns (m + 1) else m + 2
theorem many_le (ns : List Nat) : ∀ m, many ns m ≤ m
  | 0 => Nat.le_refl _
  | 1 => Nat.le_refl _
  | m + 2 => by
    unfold many
    split
    · exact Nat.le_succ_of_le (many_le ns (m + 1))
    · exact Nat.le_refl _
theorem many_pos (ns : List Nat) : ∀ m, 0 < m → 0 < many ns m
  | 1, _ => Nat.one_pos
  | m + 2, _ => by
    unfold many
    split
    · exact many_pos ns (m + 1) (by omega)
    · omega
def trim (ns : List Nat) : List Nat := ns.take (many ns ns.length)
/-- text_at -/
def n4 (r : Nat) : List Nat := [r / 3001 / 1000000000, r / 3001 / 1000000 % 1000, r / 3001 / 1000 % 1000, r / 3001 % 1000]
def tA (r : Nat) : List Nat := wrt (trim (n4 r)) (r % 3001)
theorem n4_lt {r : Nat} (h : r ≤ 3000999999999999) : ∀ n ∈ n4 r, n < 1000 := by
  intro n hn
  simp only [n4, List.mem_cons, List.not_mem_nil, or_false] at hn
  rcases hn with rfl | rfl | rfl | rfl <;> omega
theorem trim_len (ns : List Nat) : (trim ns).length = many ns ns.length := by
  unfold trim
  rw [List.length_take]
  have := many_le ns ns.length
  omega
theorem pT_tA {r : Nat} (h : r ≤ 3000999999999999) : pT (tA r) = some (trim (n4 r), r % 3001) := by
  have hl : (n4 r).length = 4 := rfl
  refine pT_wrt ?_ ?_ (fun n hn => n4_lt h n (List.mem_of_mem_take hn)) (by omega)
  · intro e
    have h1 := trim_len (n4 r)
    rw [e, hl] at h1
    have := many_pos (n4 r) 4 (by decide)
    simp at h1
    omega
  · have h1 := trim_len (n4 r)
    have := many_le (n4 r) (n4 r).length
    omega
/-- what is left out is zero -/
theorem many_zero (ns : List Nat) : ∀ m i, many ns m ≤ i → i < m → ns[i]? = some 0 ∨ m = 0
  | 0, _, _, h => absurd h (Nat.not_lt_zero _)
  | 1, i, h1, h2 => by
    have : many ns 1 = 1 := rfl
    omega
  | m + 2, i, h1, h2 => by
    unfold many at h1
    split at h1
    · rename_i h0
      by_cases hi : i = m + 1
      · subst hi
        exact .inl h0
      · exact .inl ((many_zero ns (m + 1) i h1 (by omega)).resolve_right (by omega))
    · omega
theorem rk_n4 {r : Nat} (h : r ≤ 3000999999999999) : rk (n4 r) (r % 3001) = r := by
  simp only [rk, n4, List.cons_append, List.nil_append, List.take_succ_cons, List.take_zero, List.foldl_cons, List.foldl_nil]
  omega
theorem take4 {ns : List Nat} (h : ns.length = 4) : ((trim ns) ++ [0, 0, 0]).take 4 = (ns ++ [0, 0, 0]).take 4 := by
  have hz := many_zero ns 4
  have hp := many_pos ns 4 (by decide)
  have hl := many_le ns 4
  unfold trim
  rw [h]
  generalize many ns 4 = m at hz hp hl
  match ns, h with
  | [a, b, c, d], _ =>
    have hm : m = 1 ∨ m = 2 ∨ m = 3 ∨ m = 4 := by omega
    rcases hm with rfl | rfl | rfl | rfl
    · have h1 := (hz 1 (by decide) (by decide)).resolve_right (by decide)
      have h2 := (hz 2 (by decide) (by decide)).resolve_right (by decide)
      have h3 := (hz 3 (by decide) (by decide)).resolve_right (by decide)
      simp at h1 h2 h3
      subst h1 h2 h3
      rfl
    · have h2 := (hz 2 (by decide) (by decide)).resolve_right (by decide)
      have h3 := (hz 3 (by decide) (by decide)).resolve_right (by decide)
      simp at h2 h3
      subst h2 h3
      rfl
    · have h3 := (hz 3 (by decide) (by decide)).resolve_right (by decide)
      simp at h3
      subst h3
      rfl
    · rfl
theorem rk_trim {r : Nat} (h : r ≤ 3000999999999999) : rk (trim (n4 r)) (r % 3001) = r := by
  have e : rk (trim (n4 r)) (r % 3001) = rk (n4 r) (r % 3001) := by
    unfold rk
    rw [take4 rfl]
  rw [e, rk_n4 h]
end Pk

/-! ## An instance compared with any other object -/
namespace Pk
open PySem PySem.Spec PyProof.Rows L2
open SlX (cmpback)
section
variable {X : Cx} {k n : Nat} {f C g : Addr} {fd : FuncData} {ps : List Str} {sp : Sp} {E : XK} {CX : CXT}
/-- x op y, x an instance of the class at C, whose def for op is at g; y of a type that is not below C -/
def rOwnA (K : PySem.W.Frag) (C : Addr) (sp : Sp) (E : XK) : R2 := fun x y H Q => ∃ a dx fs t, x = .ref a ∧ H a = some (.ins C dx fs) ∧ TyX K H y t ∧ PySem.W.notFirst K C t = true ∧ sp [x, y] H Q E
theorem op_ownA {op : CmpOp} (hop : ∀ a b, compareOp op a b = richCompare op a b) (hs : PySem.W.findIn X.K (.ref C) (cmpInfo op).2.1 = some (some (.ref g)))
    (hf : PySem.W.isFn X.K (.ref g) = true) (F : FnR X.prog X.w X.K X.mg X.base CX n g sp) (hr : Room n X.A) (hx : Passes CX X E) : OpR X (compareOp op) (rOwnA X.K C sp E) := by
  intro pins s σ H x y v u Q I rx ry h
  obtain ⟨a, dx, fs, t, rfl, ha, ty, hn, q⟩ := h
  obtain rfl : v = Value.ref a := rx
  obtain ⟨mA, O, _⟩ := ins_get I.hok ha
  obtain ⟨od, J, _⟩ := O.look
  obtain ⟨m, hF⟩ := I.fr
  obtain ⟨P, Z, p, _⟩ := kit_of I ry ty
  rw [hop]
  refine PySem.W.cmp_K (op := op) (tb := t) hr.units0 hF I.ok.mod.kin J (Z.ty _ _ I.kIn p) hn hs hf (wpAny_mono (wpAny_call (run_fnR (us := [.ref a, u]) (vs := [.ref a, y]) F hr hx I (.cons rfl (.cons ry .nil)) q)) ?_ (fun _ _ x => x))
  rintro w s' ⟨z', H', I', rz, qz⟩
  exact cmpback rz ⟨z', H', I', rz, qz⟩
end
/-- no built-in type is an own class -/
theorem kit_not {K : PySem.W.Frag} {C : Addr} (cl : Cls K C) (rd : ClX.CRead K C (.type "type")) {T : String} (hT : (PySem.fastFind? T).isSome = true := by decide +kernel) :
    PySem.W.kitOne K (.type T) (.ref C) = some false ∧ PySem.W.notFirst K C (.type T) = true := by
  have hs : PySem.W.subIn K (.type T) (.ref C) = some false := by
    obtain ⟨d, hd⟩ := Option.isSome_iff_exists.mp hT
    show ((PySem.fastFind? T).map _).map _ = _
    rw [hd]
    show some (List.contains (d.mro.map Value.type) (.ref C)) = some false
    congr 1
    generalize d.mro = ts
    induction ts with
    | nil => rfl
    | cons t r ih =>
      rw [List.map_cons, List.contains_cons, ih]
      rfl
  have h1 : (PySem.W.clsIn K C).isSome = true := by
    have h := cl.hd
    unfold PySem.W.hasDictIn at h
    cases e : PySem.W.clsIn K C with
    | none =>
      rw [e] at h
      cases h
    | some c => rfl
  have h2 : PySem.W.typeIn K (.ref C) = some (.type "type") := by
    have h := rd.rd
    simp only [PySem.W.readsIn, Bool.and_eq_true, beq_iff_eq] at h
    exact h.1.1.1.2
  constructor
  · unfold PySem.W.kitOne
    rw [if_neg (by intro h; cases h)]
    show (if ((PySem.W.clsIn K C).isSome && PySem.W.typeIn K (.ref C) == some (.type "type")) = true then _ else _) = _
    rw [h1, h2, if_pos (by decide), hs]
  · unfold PySem.W.notFirst
    rw [hs]
    rfl
/-! ## Tuples of whole numbers: order -/
theorem dp_ints {K : PySem.W.Frag} {H : Hp} : ∀ {ns : List Int}, DpAll K H (ns.map V.int) (ns.map .int)
  | [] => .nil
  | n :: r => .cons (.int n) (dp_ints (ns := r))
theorem ints_lay : ∀ ns : List Int, PyData.canLayAll0 (ns.map .int) = true
  | [] => rfl
  | n :: r => by
    show (PyData.canLay0 (.int n) && PyData.canLayAll0 (r.map .int)) = true
    rw [ints_lay r]
    simp [PyData.canLay0]
theorem ints_depth : ∀ ns : List Int, PyData.depthAll (ns.map .int) = 0
  | [] => rfl
  | n :: r => by
    show max (PyData.depth (.int n)) (PyData.depthAll (r.map .int)) = 0
    rw [ints_depth r]
    rfl
theorem ints_shaped (ns : List Int) : SeqAt.shaped (.tuple (ns.map .int)) = true := by
  unfold SeqAt.shaped
  have e : PyData.canLay0 (.tuple (ns.map .int)) = true := by
    simp only [PyData.canLay0]
    exact ints_lay ns
  rw [e]
  simp only [PyData.depth, ints_depth]
  rfl
theorem ints_eqv (ns ms : List Int) : PyData.eqv (.tuple (ns.map .int)) (.tuple (ms.map .int)) = decide (ns = ms) := by
  have h := PySem.W.Datum.eqv (α := PySem.W.Tup Int) ⟨ns⟩ ⟨ms⟩
  refine h.trans (decide_eq_decide.mpr ⟨fun e => congrArg PySem.W.Tup.items e, fun e => by rw [e]⟩)
def rTupI (K : PySem.W.Frag) (f : List Int → List Int → Bool) : R2 := fun x y H Q => ∃ (a b : Addr) (ns ms : List Int), x = .ref a ∧ y = .ref b ∧ SqT K H a (ns.map V.int) ∧ SqT K H b (ms.map V.int) ∧ Q (.bl (f ns ms)) H
section
variable {X : Cx}
theorem holds_ints {pins : List (Addr × Obj)} {σ : L2.St} {H : Hp} {s : Shared} {a : Addr} {ns : List Int} {v : Value} (I : Inv X pins σ H s) (h : SqT X.K H a (ns.map V.int)) (r : RelV (.ref a) v) : PySem.W.Holds s.heap v (⟨ns⟩ : PySem.W.Tup Int) :=
  Dp.reads I _ _ v (.tup h dp_ints) r
theorem op_ltTI (hu : X.A.units + 64 < cLine) : OpR X (compareOp .Lt) (rTupI X.K fun ns ms => PySem.W.listLt ns ms) := by
  intro pins s σ H x y v u Q I rx ry h
  obtain ⟨a, b, ns, ms, rfl, rfl, ha, hb, q⟩ := h
  exact PySem.W.lt_datum (holds_ints I ha rx) (holds_ints I hb ry) (Nat.lt_of_le_of_lt (Nat.add_le_add_left (show (1 : Nat) ≤ 64 by decide) _) hu) ⟨.bl _, H, I, rfl, q⟩
theorem op_gtTI (hu : X.A.units + 64 < cLine) : OpR X (compareOp .Gt) (rTupI X.K fun ns ms => PySem.W.listLt ms ns) := by
  intro pins s σ H x y v u Q I rx ry h
  obtain ⟨a, b, ns, ms, rfl, rfl, ha, hb, q⟩ := h
  exact PySem.W.gt_datum (holds_ints I ha rx) (holds_ints I hb ry) (Nat.lt_of_le_of_lt (Nat.add_le_add_left (show (1 : Nat) ≤ 64 by decide) _) hu) ⟨.bl _, H, I, rfl, q⟩
theorem op_leTI (hu : X.A.units + 64 < cLine) : OpR X (compareOp .LtE) (rTupI X.K fun ns ms => !PySem.W.listLt ms ns) := by
  intro pins s σ H x y v u Q I rx ry h
  obtain ⟨a, b, ns, ms, rfl, rfl, ha, hb, q⟩ := h
  exact PySem.W.le_datum (holds_ints I ha rx) (holds_ints I hb ry) (Nat.lt_of_le_of_lt (Nat.add_le_add_left (show (1 : Nat) ≤ 64 by decide) _) hu) ⟨.bl _, H, I, rfl, q⟩
theorem op_geTI (hu : X.A.units + 64 < cLine) : OpR X (compareOp .GtE) (rTupI X.K fun ns ms => !PySem.W.listLt ns ms) := by
  intro pins s σ H x y v u Q I rx ry h
  obtain ⟨a, b, ns, ms, rfl, rfl, ha, hb, q⟩ := h
  exact PySem.W.ge_datum (holds_ints I ha rx) (holds_ints I hb ry) (Nat.lt_of_le_of_lt (Nat.add_le_add_left (show (1 : Nat) ≤ 64 by decide) _) hu) ⟨.bl _, H, I, rfl, q⟩
end
end Pk

/-! ## Exceptions that are kept as values: made, caught under a name, their fields read -/
namespace Pk
open PySem PySem.Spec PyProof.Rows L2
/-- at a: an exception of the class cls that is in nobody's flight, its dict at d -/
def ExK (cls : Value) (d : Option Addr) (a : Addr) : HO := .ext fun h => ∃ (oe : Obj) (vs : Array Value), h.get? a = some oe ∧ Zc cls d oe ∧ oe.data = .fields vs
theorem exK_ok {P : Program} {w : World} {H : Hp} {h : Heap} {a : Addr} {cls : Value} {d : Option Addr} {oe : Obj} {vs : Array Value} (e : h.get? a = some oe) (z : Zc cls d oe) (q : oe.data = .fields vs) : ObjOk P w H h a (ExK cls d a) :=
  ⟨⟨oe, vs, e, z, q⟩, ⟨oe, e⟩, fun _ _ ⟨o1, v1, e1, z1, q1⟩ k => ⟨o1, v1, k _ e1, z1, q1⟩⟩
theorem exK_at {P : Program} {w : World} {H : Hp} {h : Heap} {a : Addr} {cls : Value} {d : Option Addr} (k : HOk P w H h) (e : H a = some (ExK cls d a)) : ∃ (oe : Obj) (vs : Array Value), h.get? a = some oe ∧ Zc cls d oe ∧ oe.data = .fields vs :=
  (show ObjOk P w H h a (.ext fun h => ∃ (oe : Obj) (vs : Array Value), h.get? a = some oe ∧ Zc cls d oe ∧ oe.data = .fields vs) from k a _ e).1
theorem exK_ne {cls : Value} {d : Option Addr} {a : Addr} : (∀ xs, ExK cls d a ≠ .tup xs) ∧ (∀ o u, ExK cls d a ≠ .frz o u) ∧ (∀ ps, ExK cls d a ≠ .tbl ps) ∧ ∀ x, ExK cls d a ≠ .own x := by
  refine ⟨fun _ z => ?_, fun _ _ z => ?_, fun _ z => ?_, fun _ z => ?_⟩ <;> (unfold ExK at z; cases z)
section
variable {X : Cx} {pins : List (Addr × Obj)} {σ : L2.St} {H : Hp} {s : Shared}
/-- a thing of the heap that is younger than the def's call, told from now on -/
theorem track {a : Addr} {o : HO} (I : Inv X pins σ H s) (young : X.s_0.heap.get? a = none) (untold : H a = none) (nl : X.env.locals ≠ a) (nc : ∀ x c, X.env.cells.lookup x = some c → c ≠ a)
    (np : ∀ p ∈ X.pn ++ pins, p.1 ≠ a) (new : ObjOk X.prog X.w (upd H a o) s.heap a o) : Inv X pins σ (upd H a o) s := by
  have off : ∀ {b : Addr} {u : HO}, H b = some u → b ≠ a := fun {b u} e z => by
    rw [z, untold] at e
    cases e
  have old : ∀ {b : Addr} {u : Obj}, X.s_0.heap.get? b = some u → b ≠ a := fun {b u} e z => by
    rw [z, young] at e
    cases e
  have at_ : ∀ {b : Addr} {u : HO}, H b = some u → upd H a o b = some u := fun {b u} e => by
    rw [upd_ne (off e)]
    exact e
  refine { ok := I.ok, os := I.os, bare := I.bare, loc := I.loc, cell := I.cell, len := I.len, base := { keep := I.base.keep, slot := I.base.slot, there := I.base.there, free := ?_, tups := ?_, frzs := ?_, tbls := ?_ }, free := ?_, freeC := ?_, pin := ?_, hok := ?_ }
  · intro b u e n hx
    rw [upd_ne (old e)]
    exact I.base.free b u e n hx
  · exact fun b xs e => at_ (I.base.tups b xs e)
  · exact fun b u v e => at_ (I.base.frzs b u v e)
  · intro b ps e
    obtain ⟨m, q⟩ := I.base.tbls b ps e
    exact ⟨m, at_ q⟩
  · rw [upd_ne nl]
    exact I.free
  · intro x c e
    rw [upd_ne (nc x c e)]
    exact I.freeC x c e
  · intro p hp
    obtain ⟨q1, q2, q3, q4, q5⟩ := I.pin p hp
    exact ⟨q1, by rw [upd_ne (np p hp)]; exact q2, q3, q4, q5⟩
  · intro b u e
    by_cases hb : b = a
    · subst hb
      rw [upd_same] at e
      cases e
      exact new
    · rw [upd_ne hb] at e
      exact (I.hok b u e).stay (fun _ _ _ q => q) (fun _ q => at_ q) (fun _ _ q => at_ q)
theorem moved {s' : Shared} (I : Inv X pins σ H s) (hh : s'.heap = s.heap) (os : s'.os = s.os) (ag : AllBare s'.gens) : Inv X pins σ H s' := by
  obtain ⟨h1, g1, d1, t1, o1⟩ := s
  obtain ⟨h2, g2, d2, t2, o2⟩ := s'
  dsimp only at hh os ag
  subst hh os
  exact { ok := I.ok, os := I.os, bare := ag, base := I.base, loc := I.loc, cell := I.cell, free := I.free, freeC := I.freeC, pin := I.pin, hok := I.hok, len := I.len }
/-- what was not there before the call -/
theorem young_of (I : Inv X pins σ H s) (hex : X.ex = []) {a : Addr} (n : s.heap.get? a = none) : X.s_0.heap.get? a = none := by
  cases e : X.s_0.heap.get? a with
  | none => rfl
  | some o =>
    obtain ⟨o', q⟩ := I.base.there a o e (by rw [hex]; exact fun z => nomatch z)
    rw [n] at q
    cases q
theorem notcell (I : Inv X pins σ H s) {a : Addr} {oe : Obj} {vs : Array Value} (e : s.heap.get? a = some oe) (q : oe.data = .fields vs) : ∀ x c, X.env.cells.lookup x = some c → c ≠ a := fun x c hc z => by
  obtain ⟨v, o, ho, hd⟩ := I.cell x c hc
  rw [z, e] at ho
  cases ho
  rw [q] at hd
  cases hd
theorem notlocals (I : Inv X pins σ H s) {a : Addr} (n : s.heap.get? a = none) : X.env.locals ≠ a := fun z => by
  obtain ⟨m, ⟨o, es, ep, ho, _⟩, _⟩ := I.loc
  rw [z, n] at ho
  cases ho
end
/-! ### C(..) as a value -/
def tMkV (t : L2.St → Hp → XK → Prop) : TE := fun σ H Q => t σ H fun cls d H' => ∀ a, H' a = none → Q (.ref a) (upd H' a (ExK cls d a))
theorem pe_mkV {X : Cx} {e : Expr} {t : L2.St → Hp → XK → Prop} (hex : X.ex = []) (he : PMk X e t) : PE X e (tMkV t) := by
  refine ⟨fun pins s σ H Q I h => wpAny_mono (he pins s σ H _ I h) ?_ fun _ _ x => x⟩
  rintro u s' ⟨a, oe, vs, sI, H', cls, d, rfl, J, k, gone, there, hz, hd, _, na, os, ag, _, q⟩
  have J1 : Inv X pins σ H' s' := moved (s := { sI with heap := s'.heap, toks := sI.toks }) (J.kept k) rfl os ag
  refine ⟨.ref a, _, track J1 (young_of J hex gone) na (notlocals J gone) (notcell J1 there hd) (fun p hp z => ?_) (exK_ok there hz hd), rfl, q a na⟩
  have := (J.pin p hp).1
  rw [z, gone] at this
  cases this
/-! ### e.f -/
def tXfV (K : PySem.W.Frag) (f : Str) (te : TE) : TE := fun σ H Q => te σ H fun x H1 => ∃ (a dd C : Addr) (fs : List (Str × V)) (v : V), x = .ref a ∧ XfC K C ∧ PySem.W.findIn K (.ref C) f = some none ∧
  H1 a = some (ExK (.ref C) (some dd) a) ∧ H1 dd = some (.xd fs) ∧ fs.lookup f = some v ∧ Q v H1
theorem pe_xfV {X : Cx} {e : Expr} {te : TE} {pos : Pos} {n : Str} (he : PE X e te) (hb : attributeBase e n X.env (eval e X.env) = eval e X.env := by rfl) : PE X (.Attribute e n pos) (tXfV X.K n te) := by
  refine ⟨fun pins s σ H Q I h => attr_of hb (thn (he.run pins s σ H _ I h) ?_)⟩
  rintro u s1 ⟨x, H1, I1, rx, a, dd, C, fs, v, rfl, T, no, hx, hd, hl, q⟩
  obtain rfl : u = Value.ref a := rx
  obtain ⟨oe, vs, there, hz, hf⟩ := exK_at I1.hok hx
  obtain ⟨mA, hns, hr⟩ : ObjOk X.prog X.w H1 s1.heap dd (.xd fs) := I1.hok dd _ hd
  obtain ⟨od, ho, hlk⟩ := lookIn_ns hns
  obtain ⟨u, hu, ru⟩ := RelO.some_of (v := v) (o := mA n) (by rw [← hl]; exact hr n)
  have J : PySem.W.InstAt s1.heap a oe C (some od) := ⟨there, hz.1, by unfold PySem.W.notCls; rw [hf] <;> rfl, by rw [hz.2]; exact ho⟩
  exact HandSPX.exc_get I1.kIn J T.ga T.gg T.exC (PySem.W.findObj_own T.hdC no rfl (by rw [hlk, hu])) (handed_of ru) ⟨v, H1, I1.tok _, ru, q⟩
/-! ### try: body / except x as n: suite, the exception kept -/
/-- what follows the suite: the name is gone, the exception is told -/
def behindV (i : Nat) (a : Addr) (cls : Value) (d : Option Addr) (D : Ends) : Ends where
  nx := fun σ H => H a = none → D.nx (σ.set i none) (upd H a (ExK cls d a))
  rt := D.rt
  bk := fun σ H => D.bk (σ.set i none) H
  ct := fun σ H => D.ct (σ.set i none) H
def wAsV (K : PySem.W.Frag) (c : Value) (i : Nat) (ts : Addr → Value → Option Addr → TS) (Wout : WX) (D : Ends) : WX := fun cls d σ H =>
  ∃ b, PySem.W.exmOne K cls c = some b ∧ (b = true → ∀ a, H a = none → ts a cls d (behindV i a cls d D) (σ.set i (some (.ref a))) H) ∧ (b = false → Wout cls d σ H)
section
variable {X : Cx} {x n : Str} {c : Value} {i : Nat} {body suite : List Stmt} {b₀ : Stmt} {np pos pos' : Pos} {tb : WX → TS} {ts : Addr → Value → Option Addr → TS} {Wout : WX}
theorem unsuiteK {a : Addr} {q : Addr × Obj} {pins : List (Addr × Obj)} {σ : L2.St} {H : Hp} {s : Shared} (I : Inv (X.suite a (q :: (X.pn ++ pins))) [] σ H s) (ok : X.Ok) : Inv X (q :: pins) σ H s :=
  { ok := ok, os := I.os, bare := I.bare, base := I.base, loc := I.loc, cell := I.cell, free := I.free, freeC := I.freeC, hok := I.hok, len := I.len
    pin := fun p hp => I.pin p (by
      rcases List.mem_append.mp hp with h | h
      · exact List.mem_append_left _ (List.mem_cons_of_mem _ (List.mem_append_left _ h))
      · rcases List.mem_cons.mp h with h | h
        · rw [h]
          exact List.mem_append_left _ List.mem_cons_self
        · exact List.mem_append_left _ (List.mem_cons_of_mem _ (List.mem_append_right _ h))) }
theorem unpin {q : Addr × Obj} {pins : List (Addr × Obj)} {σ : L2.St} {H : Hp} {s : Shared} (I : Inv X (q :: pins) σ H s) : Inv X pins σ H s :=
  { ok := I.ok, os := I.os, bare := I.bare, base := I.base, loc := I.loc, cell := I.cell, free := I.free, freeC := I.freeC, hok := I.hok, len := I.len
    pin := fun p hp => I.pin p (by
      rcases List.mem_append.mp hp with h | h
      · exact List.mem_append_left _ h
      · exact List.mem_append_right _ (List.mem_cons_of_mem _ h)) }
theorem ps_try_asV (hex : X.ex = []) (hs : X.stack = X.env :: X.outer) (hf : X.env.frame = some X.env.locals) (hN : X.N.Nodup) (hi : X.N[i]? = some n) (hln : X.env.kindOf n = some .local) (hc : Names X x c) (tk : Takes X Wout)
    (hb : ∀ (W : WX) (pn : List (Addr × Obj)) (xe : Value → Shared → Prop), Takes (X.tr pn xe) W → PassesOwn (model X.prog X.w) X.A X.env xe → PSs (X.tr pn xe) body (tb W))
    (hsu : ∀ (a : Addr) (oe : Obj) (cls : Value) (d : Option Addr) (pn : List (Addr × Obj)), Zc cls d oe → (∃ vs, oe.data = .fields vs) → PSs (X.suite a ((a, oe) :: pn)) (b₀ :: suite) (ts a cls d)) :
    PS X (.Try body [.ExceptHandler (some (.Name x np)) (some n) (b₀ :: suite) pos'] [] [] pos) (fun D σ H => tb (wAsV X.K c i ts Wout D) D σ H) := by
  constructor
  intro pins s σ H D I h
  have okX := I.ok
  have frames : X.A.frames = some (X.env :: X.outer) := okX.frames.trans (by rw [hs])
  refine wpAny_Try_except ?_
  let XC : Value → Shared → Prop := fun e s₁ => wpAny (model X.prog X.w) X.A (noteFrame e X.env) (fun _ s₂ => wpAny (model X.prog X.w) X.A (setFlight e none) (fun _ s₃ =>
    wpAny (model X.prog X.w) X.A (handleBy e X.env [.ExceptHandler (some (.Name x np)) (some n) (b₀ :: suite) pos']) (SP X pins D) X.xe s₃) X.xe s₂) X.xe s₁
  have caught : Takes (X.tr (X.pn ++ pins) XC) (wAsV X.K c i ts Wout D) := by
    rintro u s' ⟨a, B, sI, pins', σ', H', cls, d, rfl, J', nb, up, sky, na, os, ag, b, hb1, hyes, hno⟩
    have J : Inv X pins σ' H' sI := J'.ofTry okX
    have sky' : Sky B (X.env :: X.outer) a (Zc cls d) X.env.locals s'.heap := by
      rw [← hs]
      exact sky
    show wpAny (model X.prog X.w) X.A (noteFrame (.ref a) X.env) _ _ _
    refine Sky.land Zc.steady frames hf sky' fun hA flA upA => ?_
    have JA : Inv X pins σ' H' { s' with heap := hA } := J.landed nb flA.1 (up.trans upA) os ag
    obtain ⟨oA, vA, eA, zA, dA⟩ := flA.there
    have nofr : a ∉ frs (X.env :: X.outer) := fun hm => by
      obtain ⟨_, o', e', hnf⟩ := flA.2.2.1.mem hm
      rw [eA] at e'
      cases e'
      exact hnf _ dA
    have goneI : sI.heap.get? a = none := by
      cases e : sI.heap.get? a with
      | none => rfl
      | some o =>
        have := nb a o e (by rw [show (X.tr (X.pn ++ pins) XC).stack = X.env :: X.outer from hs]; exact nofr)
        rw [flA.2.1] at this
        cases this
    have nLoc : a ≠ X.env.locals := fun z => nofr (List.mem_filterMap.mpr ⟨X.env, List.mem_cons_self, by rw [hf, z]⟩)
    have nFs : a ∉ X.fs := fun hm => by
      obtain ⟨e, he, q⟩ := List.mem_filterMap.mp hm
      exact nofr (List.mem_filterMap.mpr ⟨e, List.mem_cons_of_mem _ he, q⟩)
    have SA := JA.suite eA dA na nLoc nFs
    refine wpAny_handleBy_cons (codeAny_handlers_test ?_) (by intro q; cases q)
    have lookT : PySem.W.Looks (model X.prog X.w) hA (typeOf (.ref a)) cls := fun A Q E s k q => wpAny_typeOf_ref (k _ _ eA) (by rw [zA.1]; exact q)
    have lookM := PySem.W.exm_one (M := model X.prog X.w) JA.kIn lookT hb1
    have nameC : ∀ {Q : Value → Shared → Prop} {E : Value → Shared → Prop}, Q c { s' with heap := hA } → wpAny (model X.prog X.w) (X.A.mark (some (.ref a))) (eval (.Name x np) X.env) Q E { s' with heap := hA } := by
      intro Q E q
      obtain ⟨glo, dbg, m1 | ⟨m1, m2, m3⟩⟩ := hc
      · exact ld_glob (X := X.suite a ((a, oA) :: (X.pn ++ pins))) SA glo m1 q dbg
      · exact ld_blt (X := X.suite a ((a, oA) :: (X.pn ++ pins))) SA glo m1 m2 q m3 dbg
    refine nameC (lookM.here ?_)
    cases b with
    | true =>
      refine codeAny_handlers_suite_as (HandSPX.lands_againZ flA fun hB flB upB => ?_)
      have JB : Inv X pins σ' H' { s' with heap := hB } := J.landed nb flB.1 ((up.trans upA).trans upB) os ag
      obtain ⟨oB, vB, eB, zB, dB⟩ := flB.there
      refine store_ok (X := X.suite a ((a, oB) :: (X.pn ++ pins))) (v := .ref a) (JB.suite eB dB na nLoc nFs) hN hi (.inl hln) rfl (fun sS SS => ?_) (.inr hln)
      have inside := (hsu a oB cls d (X.pn ++ pins) zB ⟨_, dB⟩).run [] sS _ H' _ SS (hyes rfl a na)
      refine wpAny_mono inside (fun f sE hsp => ?_) (fun _ _ z => False.elim z)
      have close : ∀ {σE : L2.St} {HE : Hp} {Q : Shared → Prop}, Inv (X.suite a ((a, oB) :: (X.pn ++ pins))) [] σE HE sE → (∀ sZ, Inv X ((a, oB) :: pins) (σE.set i none) HE sZ → Q sZ) →
          wpAny (model X.prog X.w) X.A (do bindName X.env n .none; unbindBehindTheSuite X.env n pos') (fun _ sZ => Q sZ) X.xe sE := fun {σE HE Q} SE hq => gone_ok (unsuiteK SE okX) hN hi hln hq
      cases f with
      | next =>
        obtain ⟨σE, HE, SE, qE⟩ := hsp
        refine close SE fun sZ JZ => ?_
        obtain ⟨g1, g2, g3, _, _⟩ := JZ.pin (a, oB) (List.mem_append_right _ List.mem_cons_self)
        refine ⟨_, _, track (unpin JZ) (young_of J hex goneI) g2 (Ne.symm g3) (notcell (unpin JZ) g1 dB) (fun p hp z => ?_) (exK_ok g1 zB dB), qE g2⟩
        have := (J.pin p hp).1
        rw [z, goneI] at this
        cases this
      | brk =>
        obtain ⟨σE, HE, SE, qE⟩ := hsp
        exact close SE fun sZ JZ => ⟨_, _, unpin JZ, qE⟩
      | cont =>
        obtain ⟨σE, HE, SE, qE⟩ := hsp
        exact close SE fun sZ JZ => ⟨_, _, unpin JZ, qE⟩
      | ret u =>
        obtain ⟨vE, σE, HE, SE, rE, qE⟩ := hsp
        exact close SE fun sZ JZ => ⟨_, _, _, unpin JZ, rE, qE⟩
    | false =>
      show wpAny _ X.A (handleBy (.ref a) X.env []) _ _ _
      refine wpAny_handleBy_nil ?_
      obtain ⟨k1, k2, k3, oe, vs, T, oT, tt, eT, zT, dT, h1, hr⟩ := id flA
      unfold PySem.passOn
      refine wpAny_bind (wpAny_field eT dT h1 ?_)
      rw [if_neg (show ¬ ((Value.ref T == Value.none) = true) from by simp)]
      have away : wpAny (model X.prog X.w) X.A (setFlight (.ref a) X.env.frame) (fun _ s4 => wpAny (model X.prog X.w) X.A (throw (.ref a) : Sem Flow) (SP X pins D) X.xe s4) X.xe { s' with heap := hA } := by
        rw [hf]
        refine HandSPX.setFlight_upZ flA fun hB hhB upB => wpAny_throw (tk _ _ ?_)
        exact ⟨a, B, sI, pins, σ', H', cls, d, rfl, J, nb, (up.trans upA).trans upB, .inr (.inr (by rw [hs]; exact hhB)), na, os, ag, hno rfl⟩
      first
        | exact wpAny_bind (wpAny_pure (wpAny_bind away))
        | exact wpAny_bind away
  have through := (hb (wAsV X.K c i ts Wout D) (X.pn ++ pins) XC caught PassesOwn.looking).run [] s σ H D (I.toTry _) h
  refine wpAny_mono through (fun f s1 hsp => ?_) (fun _ _ he => he)
  cases f with
  | next =>
    obtain ⟨σ', H', JJ, q⟩ := hsp
    exact wpAny_execs_nil ⟨σ', H', JJ.ofTry okX, q⟩
  | brk =>
    obtain ⟨σ', H', JJ, q⟩ := hsp
    exact ⟨σ', H', JJ.ofTry okX, q⟩
  | cont =>
    obtain ⟨σ', H', JJ, q⟩ := hsp
    exact ⟨σ', H', JJ.ofTry okX, q⟩
  | ret u =>
    obtain ⟨v, σ', H', JJ, r, q⟩ := hsp
    exact ⟨v, σ', H', JJ.ofTry okX, r, q⟩
end
end Pk

/-! ## A clause of several classes: except (A, B, C) as e, the exception kept as a value -/
namespace Pk
open PySem PySem.Spec PyProof.Rows L2
/-- the test of a clause answers m for the class of what is caught; it may lay a tuple -/
def HT (X : Cx) (t : Expr) (m : Value → Option Bool) : Prop :=
  ∀ {a : Addr} {oe : Obj} {pn : List (Addr × Obj)} {σ : L2.St} {H : Hp} {s : Shared} {cls : Value} {b : Bool} {Q : Bool → Shared → Prop} {E : Value → Shared → Prop}, Inv (X.suite a ((a, oe) :: pn)) [] σ H s → s.heap.get? a = some oe → oe.cls = cls → m cls = some b →
    (∀ h', (∀ q o, s.heap.get? q = some o → h'.get? q = some o) → Q b { s with heap := h' }) →
    wpAny (model X.prog X.w) (X.A.mark (some (.ref a))) (eval t X.env) (fun c s₁ => wpAny (model X.prog X.w) (X.A.mark (some (.ref a))) (excMatches (.ref a) c) Q E s₁) E s
section
variable {X : Cx}
theorem ht_looks {a : Addr} {oe : Obj} {h : Heap} {cls : Value} (ha : h.get? a = some oe) (hc : oe.cls = cls) : PySem.W.Looks (model X.prog X.w) h (typeOf (.ref a)) cls := fun A Q E s k q => wpAny_typeOf_ref (k _ _ ha) (by rw [hc]; exact q)
theorem ht_name {x : Str} {c : Value} {np : Pos} {a : Addr} {oe : Obj} {pn : List (Addr × Obj)} {σ : L2.St} {H : Hp} {s : Shared} {Q : Value → Shared → Prop} {E : Value → Shared → Prop} (hc : Names X x c) (SA : Inv (X.suite a ((a, oe) :: pn)) [] σ H s) (q : Q c s) :
    wpAny (model X.prog X.w) (X.A.mark (some (.ref a))) (eval (.Name x np) X.env) Q E s := by
  obtain ⟨glo, dbg, m1 | ⟨m1, m2, m3⟩⟩ := hc
  · exact ld_glob (X := X.suite a ((a, oe) :: pn)) SA glo m1 q dbg
  · exact ld_blt (X := X.suite a ((a, oe) :: pn)) SA glo m1 m2 q m3 dbg
theorem ht_one {x : Str} {c : Value} {np : Pos} (hc : Names X x c) : HT X (.Name x np) (fun cls => PySem.W.exmOne X.K cls c) := by
  intro a oe pn σ H s cls b Q E SA ha hcl hb q
  exact ht_name hc SA ((PySem.W.exm_one (M := model X.prog X.w) SA.kIn (ht_looks ha hcl) hb).here (q _ fun _ _ z => z))
theorem ht_tup3 {x1 x2 x3 : Str} {c1 c2 c3 : Value} {p1 p2 p3 tpos : Pos} {kk : Nat} (n1 : Names X x1 c1) (n2 : Names X x2 c2) (n3 : Names X x3 c3) :
    HT X (.Tuple [.Name x1 p1, .Name x2 p2, .Name x3 p3] kk tpos) (fun cls => PySem.W.exmAny X.K cls [c1, c2, c3]) := by
  intro a oe pn σ H s cls b Q E SA ha hcl hb q
  refine wpAny_Tuple ?_
  refine wpAny_items_cons (ht_name n1 SA ?_)
  refine wpAny_items_cons (ht_name n2 SA ?_)
  refine wpAny_items_cons (ht_name n3 SA ?_)
  refine wpAny_items_nil ⟨by show (3 : Nat) ≤ sizeLine; rw [sizeLine_eq]; omega, ?_⟩
  have kp : ∀ q o, s.heap.get? q = some o → (s.heap.push { cls := .type "tuple", data := .seq [c1, c2, c3].toArray }).get? q = some o := fun _ _ z => Heap.get?_push_of_some _ z
  exact (PySem.W.exm_tup3 (SA.kIn.keeps kp) ((ht_looks ha hcl).keeps kp) (Heap.get?_push_size s.heap rfl) hb).here (q _ kp)
end
theorem flyingZ_keeps {B : Heap} {l : List Env} {a : Addr} {Z : Obj → Prop} {h h' : Heap} (f : HandSPX.FlyingZ B l a Z h) (k : ∀ b o, h.get? b = some o → h'.get? b = some o) : HandSPX.FlyingZ B l a Z h' := by
  obtain ⟨f1, f2, f3, oe, vs, T, oT, ts, he, hz, hd, h1, hnT, hTe, hT, hdT, h3⟩ := f
  exact ⟨fun b o q => k b o (f1 b o q), f2, f3.of_keeps fun b o q _ => ⟨o, k b o q, rfl⟩, oe, vs, T, oT, ts, k _ _ he, hz, hd, h1, hnT, hTe, k _ _ hT, hdT, h3⟩
def wAsT (m : Value → Option Bool) (i : Nat) (ts : Addr → Value → Option Addr → TS) (Wout : WX) (D : Ends) : WX := fun cls d σ H =>
  ∃ b, m cls = some b ∧ (b = true → ∀ a, H a = none → ts a cls d (behindV i a cls d D) (σ.set i (some (.ref a))) H) ∧ (b = false → Wout cls d σ H)
section
variable {X : Cx} {t : Expr} {n : Str} {m : Value → Option Bool} {i : Nat} {body suite : List Stmt} {b₀ : Stmt} {pos pos' : Pos} {tb : WX → TS} {ts : Addr → Value → Option Addr → TS} {Wout : WX}
theorem ps_try_asT (hex : X.ex = []) (hs : X.stack = X.env :: X.outer) (hf : X.env.frame = some X.env.locals) (hN : X.N.Nodup) (hi : X.N[i]? = some n) (hln : X.env.kindOf n = some .local) (ht : HT X t m) (tk : Takes X Wout)
    (hb : ∀ (W : WX) (pn : List (Addr × Obj)) (xe : Value → Shared → Prop), Takes (X.tr pn xe) W → PassesOwn (model X.prog X.w) X.A X.env xe → PSs (X.tr pn xe) body (tb W))
    (hsu : ∀ (a : Addr) (oe : Obj) (cls : Value) (d : Option Addr) (pn : List (Addr × Obj)), Zc cls d oe → (∃ vs, oe.data = .fields vs) → PSs (X.suite a ((a, oe) :: pn)) (b₀ :: suite) (ts a cls d)) :
    PS X (.Try body [.ExceptHandler (some t) (some n) (b₀ :: suite) pos'] [] [] pos) (fun D σ H => tb (wAsT m i ts Wout D) D σ H) := by
  constructor
  intro pins s σ H D I h
  have okX := I.ok
  have frames : X.A.frames = some (X.env :: X.outer) := okX.frames.trans (by rw [hs])
  refine wpAny_Try_except ?_
  let XC : Value → Shared → Prop := fun e s₁ => wpAny (model X.prog X.w) X.A (noteFrame e X.env) (fun _ s₂ => wpAny (model X.prog X.w) X.A (setFlight e none) (fun _ s₃ =>
    wpAny (model X.prog X.w) X.A (handleBy e X.env [.ExceptHandler (some t) (some n) (b₀ :: suite) pos']) (SP X pins D) X.xe s₃) X.xe s₂) X.xe s₁
  have caught : Takes (X.tr (X.pn ++ pins) XC) (wAsT m i ts Wout D) := by
    rintro u s' ⟨a, B, sI, pins', σ', H', cls, d, rfl, J', nb, up, sky, na, os, ag, b, hb1, hyes, hno⟩
    have J : Inv X pins σ' H' sI := J'.ofTry okX
    have sky' : Sky B (X.env :: X.outer) a (Zc cls d) X.env.locals s'.heap := by
      rw [← hs]
      exact sky
    show wpAny (model X.prog X.w) X.A (noteFrame (.ref a) X.env) _ _ _
    refine Sky.land Zc.steady frames hf sky' fun hA flA upA => ?_
    have JA : Inv X pins σ' H' { s' with heap := hA } := J.landed nb flA.1 (up.trans upA) os ag
    obtain ⟨oA, vA, eA, zA, dA⟩ := flA.there
    have nofr : a ∉ frs (X.env :: X.outer) := fun hm => by
      obtain ⟨_, o', e', hnf⟩ := flA.2.2.1.mem hm
      rw [eA] at e'
      cases e'
      exact hnf _ dA
    have goneI : sI.heap.get? a = none := by
      cases e : sI.heap.get? a with
      | none => rfl
      | some o =>
        have := nb a o e (by rw [show (X.tr (X.pn ++ pins) XC).stack = X.env :: X.outer from hs]; exact nofr)
        rw [flA.2.1] at this
        cases this
    have nLoc : a ≠ X.env.locals := fun z => nofr (List.mem_filterMap.mpr ⟨X.env, List.mem_cons_self, by rw [hf, z]⟩)
    have nFs : a ∉ X.fs := fun hm => by
      obtain ⟨e, he, q⟩ := List.mem_filterMap.mp hm
      exact nofr (List.mem_filterMap.mpr ⟨e, List.mem_cons_of_mem _ he, q⟩)
    have SA := JA.suite eA dA na nLoc nFs
    refine wpAny_handleBy_cons (codeAny_handlers_test ?_) (by intro q; cases q)
    refine ht (oe := oA) (pn := X.pn ++ pins) SA eA zA.1 hb1 fun hP kP => ?_
    have flP := flyingZ_keeps flA kP
    have upP : s'.heap.UpToSlots hP := upA.trans (Heap.UpToSlots.of_keeps kP)
    cases b with
    | true =>
      refine codeAny_handlers_suite_as (HandSPX.lands_againZ (s := { s' with heap := hP }) flP fun hB flB upB => ?_)
      have JB : Inv X pins σ' H' { s' with heap := hB } := J.landed nb flB.1 ((up.trans upP).trans upB) os ag
      obtain ⟨oB, vB, eB, zB, dB⟩ := flB.there
      refine store_ok (X := X.suite a ((a, oB) :: (X.pn ++ pins))) (v := .ref a) (JB.suite eB dB na nLoc nFs) hN hi (.inl hln) rfl (fun sS SS => ?_) (.inr hln)
      have inside := (hsu a oB cls d (X.pn ++ pins) zB ⟨_, dB⟩).run [] sS _ H' _ SS (hyes rfl a na)
      refine wpAny_mono inside (fun f sE hsp => ?_) (fun _ _ z => False.elim z)
      have close : ∀ {σE : L2.St} {HE : Hp} {Q : Shared → Prop}, Inv (X.suite a ((a, oB) :: (X.pn ++ pins))) [] σE HE sE → (∀ sZ, Inv X ((a, oB) :: pins) (σE.set i none) HE sZ → Q sZ) →
          wpAny (model X.prog X.w) X.A (do bindName X.env n .none; unbindBehindTheSuite X.env n pos') (fun _ sZ => Q sZ) X.xe sE := fun {σE HE Q} SE hq => gone_ok (unsuiteK SE okX) hN hi hln hq
      cases f with
      | next =>
        obtain ⟨σE, HE, SE, qE⟩ := hsp
        refine close SE fun sZ JZ => ?_
        obtain ⟨g1, g2, g3, _, _⟩ := JZ.pin (a, oB) (List.mem_append_right _ List.mem_cons_self)
        refine ⟨_, _, track (unpin JZ) (young_of J hex goneI) g2 (Ne.symm g3) (notcell (unpin JZ) g1 dB) (fun p hp z => ?_) (exK_ok g1 zB dB), qE g2⟩
        have := (J.pin p hp).1
        rw [z, goneI] at this
        cases this
      | brk =>
        obtain ⟨σE, HE, SE, qE⟩ := hsp
        exact close SE fun sZ JZ => ⟨_, _, unpin JZ, qE⟩
      | cont =>
        obtain ⟨σE, HE, SE, qE⟩ := hsp
        exact close SE fun sZ JZ => ⟨_, _, unpin JZ, qE⟩
      | ret u =>
        obtain ⟨vE, σE, HE, SE, rE, qE⟩ := hsp
        exact close SE fun sZ JZ => ⟨_, _, _, unpin JZ, rE, qE⟩
    | false =>
      show wpAny _ X.A (handleBy (.ref a) X.env []) _ _ _
      refine wpAny_handleBy_nil ?_
      obtain ⟨k1, k2, k3, oe, vs, T, oT, tt, eT, zT, dT, h1, hr⟩ := id flP
      unfold PySem.passOn
      refine wpAny_bind (wpAny_field eT dT h1 ?_)
      rw [if_neg (show ¬ ((Value.ref T == Value.none) = true) from by simp)]
      have away : wpAny (model X.prog X.w) X.A (setFlight (.ref a) X.env.frame) (fun _ s4 => wpAny (model X.prog X.w) X.A (throw (.ref a) : Sem Flow) (SP X pins D) X.xe s4) X.xe { s' with heap := hP } := by
        rw [hf]
        refine HandSPX.setFlight_upZ (s := { s' with heap := hP }) flP fun hB hhB upB => wpAny_throw (tk _ _ ?_)
        exact ⟨a, B, sI, pins, σ', H', cls, d, rfl, J, nb, (up.trans upP).trans upB, .inr (.inr (by rw [hs]; exact hhB)), na, os, ag, hno rfl⟩
      first
        | exact wpAny_bind (wpAny_pure (wpAny_bind away))
        | exact wpAny_bind away
  have through := (hb (wAsT m i ts Wout D) (X.pn ++ pins) XC caught PassesOwn.looking).run [] s σ H D (I.toTry _) h
  refine wpAny_mono through (fun f s1 hsp => ?_) (fun _ _ he => he)
  cases f with
  | next =>
    obtain ⟨σ', H', JJ, q⟩ := hsp
    exact wpAny_execs_nil ⟨σ', H', JJ.ofTry okX, q⟩
  | brk =>
    obtain ⟨σ', H', JJ, q⟩ := hsp
    exact ⟨σ', H', JJ.ofTry okX, q⟩
  | cont =>
    obtain ⟨σ', H', JJ, q⟩ := hsp
    exact ⟨σ', H', JJ.ofTry okX, q⟩
  | ret u =>
    obtain ⟨v, σ', H', JJ, r, q⟩ := hsp
    exact ⟨v, σ', H', JJ.ofTry okX, r, q⟩
end
end Pk

/-! ## Calls whose exceptions are told with the slots as they stand: classmethods and classes, by position and by name -/
namespace Pk
open PySem PySem.Spec PyProof.Rows L2
section
variable {X : Cx} {CX : CXT} {k : Nat} {σ : L2.St} {H : Hp} {s : Shared} {pins : List (Addr × Obj)} {E : L2.St → XK} {sp : Sp}
theorem run_fnRS {f : Addr} {Q : VK} {us : List Value} {vs : List V} (F : FnR X.prog X.w X.K X.mg X.base CX k f sp) (hr : Room k X.A) (hx : PassesAt CX X σ (E σ)) (I : Inv X pins σ H s) (r : Vals vs us) (h : sp vs H Q (E σ)) :
    codeAny (model X.prog X.w) X.A (.call (.ref f) ⟨us, []⟩) (fun r s' => match r with | .ok (.ret v) => EP X pins σ Q v s' | .ok _ => False | .error e => X.xe e s') s := by
  refine codeAny_mono (F X.A X.stack s H us vs Q (E σ) hr I.env0 r h) fun r s' hq => ?_
  cases r with
  | error e => exact hx pins H s e s' I hq
  | ok fl =>
    cases fl with
    | ret u => exact I.after hq
    | next => exact False.elim hq
    | brk => exact False.elim hq
    | cont => exact False.elim hq
/-- C.m(..), m a classmethod, by position -/
def tCMethS (C : Addr) (sp : Sp) (E : L2.St → XK) (ta : TE) (t : TA) : TE := fun σ H Q => ta σ H fun x H1 => x = .ref C ∧ t σ H1 fun vs H2 => sp (.ref C :: vs) H2 Q (E σ)
theorem pe_cmethS {C p g : Addr} {mc : Value} {o e : Expr} {es : List Expr} {m : Str} {pos apos : Pos} {ta : TE} {t : TA} {pl : Sem Bool} (he : PE X o ta) (r : ClX.CRead X.K C mc) (c : ClX.CMet X.K C mc m p g) (F : FnR X.prog X.w X.K X.mg X.base CX k g sp) (hr : Room k X.A)
    (hx : ∀ σ, PassesAt CX X σ (E σ)) (ha : PA X (e :: es) t)
    (hst : starEach (e :: es) X.env = (false, eval e X.env) :: starEach es X.env := by rfl) (hpl : (backTo pos (starEach es X.env)).any (·.1) = false := by rfl)
    (ht : eval (.Call (.Attribute o m apos) (e :: es) [] pos) X.env = (do
      let ov ← eval o X.env
      standAt apos.atName
      let (f, first) ← holding [ov] (getMethod ov m pl)
      callWith pos f first (backTo pos (starEach (e :: es) X.env)) (backToKw pos (keywordEach [] X.env))) := by rfl) :
    PE X (.Call (.Attribute o m apos) (e :: es) [] pos) (tCMethS C sp E ta t) := by
  refine ⟨fun pins s σ H Q I h => ?_⟩
  refine PySem.W.methodCall_KW (pl := pl) (thn (he.run pins s σ H _ I h) fun u s1 ⟨x, H1, I1, rx, ex, q⟩ => ?_) ht
  subst ex
  obtain rfl : u = Value.ref C := rx
  refine ClX.getmethcm_ok I1 r c fun s2 I2 => ?_
  refine ClX.callwith_cm I2 (ClX.base_none I1 (Nat.le_refl _)) c.fi (thn (ha.run pos _ s2 σ H1 _ I2 q) fun us s3 ⟨vs, H2, I3, rv, q2⟩ => ⟨⟨ClX.pin_at I3, I3.kIn⟩, ?_⟩) hst hpl
  have z := wpAny_call (PySem.W.method_call (ClX.pin_at I3) (run_fnRS (us := .ref C :: us) (vs := .ref C :: vs) F hr (hx σ) I3 (.cons rfl rv) q2))
  exact thn z fun _ _ y => ClX.unpinE y
/-- how the parameters behind the first one bind, all by name -/
structure KM (K : PySem.W.Frag) (fd : FuncData) (ps ks : List Str) (g : List Value → List Value) (gV : List V → List V) : Prop where
  to : ∀ (s : Shared) (c : Value) (ws : List Value), K.In s.heap → ws.length = ks.length → BindsTo s fd ⟨[c], ks.zip ws⟩ (ps.zip (c :: g ws))
  rel : ∀ {zs : List V} {ws : List Value}, zs.length = ks.length → Vals zs ws → Vals (gV zs) (g ws)
/-- C.m(k = v, ..), m a classmethod -/
def tCMethK (C : Addr) (n : Nat) (sp : Sp) (gV : List V → List V) (E : L2.St → XK) (ta : TE) (tk : TA) : TE := fun σ H Q => ta σ H fun x H1 => x = .ref C ∧ tk σ H1 fun zs H2 => zs.length = n ∧ sp (.ref C :: gV zs) H2 Q (E σ)
theorem pe_cmethK {C p f : Addr} {fd : FuncData} {ps ks : List Str} {g : List Value → List Value} {gV : List V → List V} {mc : Value} {o : Expr} {kws : List Keyword} {m : Str} {pos apos : Pos} {ta : TE} {tk : TA} {pl : Sem Bool}
    (he : PE X o ta) (r : ClX.CRead X.K C mc) (c : ClX.CMet X.K C mc m p f) (F : FnOk X.prog X.w X.K X.mg X.base CX k f fd ps sp) (hb : KM X.K fd ps ks g gV) (hr : Room k X.A)
    (hx : ∀ σ, PassesAt CX X σ (E σ)) (hkw : PK X kws tk)
    (hall : (backToKw pos (keywordEach kws X.env)).all (·.1.isSome) = true := by rfl) (hks : (backToKw pos (keywordEach kws X.env)).filterMap (·.1) = ks := by rfl)
    (hpl : ((backTo pos (starEach [] X.env)).any (·.1) || (backToKw pos (keywordEach kws X.env)).any (·.1.isNone)) = false := by rfl)
    (ht : eval (.Call (.Attribute o m apos) [] kws pos) X.env = (do
      let ov ← eval o X.env
      standAt apos.atName
      let (f, first) ← holding [ov] (getMethod ov m pl)
      callWith pos f first (backTo pos (starEach [] X.env)) (backToKw pos (keywordEach kws X.env))) := by rfl) :
    PE X (.Call (.Attribute o m apos) [] kws pos) (tCMethK C ks.length sp gV E ta tk) := by
  refine ⟨fun pins s σ H Q I h => ?_⟩
  refine PySem.W.methodCall_KW (pl := pl) (thn (he.run pins s σ H _ I h) fun u s1 ⟨x, H1, I1, rx, ex, q⟩ => ?_) ht
  subst ex
  obtain rfl : u = Value.ref C := rx
  refine ClX.getmethcm_ok I1 r c fun s2 I2 => ?_
  refine PySem.W.callWith_of hpl (PySem.W.keeps_M (self := Value.ref C) c.fi) (evalArgs_kw2_nil hall ?_)
  refine thn (hkw.run pos _ s2 σ H1 _ I2 q) fun ws s3 ⟨zs, H2, I3, rz, l2, q2⟩ => ⟨⟨ClX.pin_at I3, I3.kIn⟩, ?_⟩
  rw [hks]
  have r2 : Vals (V.ref C :: gV zs) (Value.ref C :: g ws) := .cons rfl (hb.rel l2 rz)
  have z : wpAny (model X.prog X.w) X.A (call (.ref s1.heap.objs.size) ([] ++ []) (ks.zip ws)) (EP X ((s1.heap.objs.size, PySem.W.methodObj (.ref f) (.ref C)) :: pins) σ Q) X.xe s3 := by
    refine wpAny_call (PySem.W.method_call (ClX.pin_at I3) (codeAny_mono (F.run X.A X.stack s3 H2 ⟨[Value.ref C], ks.zip ws⟩ (Value.ref C :: g ws) (V.ref C :: gV zs) Q (E σ) hr I3.env0 (hb.to s3 _ ws I3.kIn (rz.length.symm.trans l2)) r2 q2) fun r s' hq => ?_))
    cases r with
    | error e => exact hx σ _ H2 s3 e s' I3 hq
    | ok fl =>
      cases fl with
      | ret u => exact I3.after hq
      | next => exact False.elim hq
      | brk => exact False.elim hq
      | cont => exact False.elim hq
  exact thn z fun _ _ y => ClX.unpinE y
/-- C(k = v, ..) -/
def tMakeKS (C : Addr) (n : Nat) (sp : Sp) (gV : List V → List V) (E : L2.St → XK) (tk : TA) : TE := fun σ H Q => tk σ H fun zs H2 => zs.length = n ∧ ∀ x dx, H2 x = none → H2 dx = none → dx ≠ x →
  sp (.ref x :: gV zs) (upd (upd H2 dx (.own x)) x (.ins C dx [])) (fun v H3 => v = .non ∧ Q (.ref x) H3) (E σ)
theorem pe_makeKS {C f : Addr} {fd : FuncData} {ps ks : List Str} {g : List Value → List Value} {gV : List V → List V} {x : Str} {p pos : Pos} {kws : List Keyword} {tk : TA}
    (M : Mk X.K C f) (F : FnOk X.prog X.w X.K X.mg X.base CX k f fd ps sp) (hr : Room (k + 1) X.A) (hg : Gl X x) (hm : X.mg x = some (.ref C)) (hb : KM X.K fd ps ks g gV) (hx : ∀ σ, PassesAt CX X σ (E σ)) (hkw : PK X kws tk)
    (hall : (backToKw pos (keywordEach kws X.env)).all (·.1.isSome) = true := by rfl) (hks : (backToKw pos (keywordEach kws X.env)).filterMap (·.1) = ks := by rfl) (hdb : (x == ("__debug__" : Str)) = false := by decide)
    (hpl : ((backTo pos (starEach [] X.env)).any (·.1) || (backToKw pos (keywordEach kws X.env)).any (·.1.isNone)) = false := by rfl) :
    PE X (.Call (.Name x p) [] kws pos) (tMakeKS C ks.length sp gV E tk) := by
  refine ⟨fun pins s σ H Q I h => ?_⟩
  refine wpAny_Call_Name_kw (ld_glob I hg hm ?_ hdb)
  refine PySem.W.callWith_KW0 (h₀ := X.base) I.ok.mod.kin M.kp hall ?_ hpl
  refine thn (hkw.run pos pins s σ H _ I h) fun ws s2 ⟨zs, H2, I2, rz, l2, q2⟩ => ⟨I2.kIn, ?_⟩
  rw [hks]
  have hq := q2 (s2.heap.objs.size + 1) s2.heap.objs.size (I2.hok.fresh (Nat.le_succ _)) (I2.hok.fresh (Nat.le_refl _)) (Nat.ne_of_lt (Nat.lt_succ_self _))
  have I3 := Inv.made (C := C) I2
  have r2 : Vals (V.ref (s2.heap.objs.size + 1) :: gV zs) (Value.ref (s2.heap.objs.size + 1) :: g ws) := .cons rfl (hb.rel l2 rz)
  refine wpAny_call (make_map (f := f) I2.kIn M.makes M.init (beq_iff_eq.mp M.fn) (codeAny_mono (F.run _ X.stack _ _ ⟨[Value.ref (s2.heap.objs.size + 1)], ks.zip ws⟩ (Value.ref (s2.heap.objs.size + 1) :: g ws) _ _ (E σ) (hr.make C [] (ks.zip ws))
    (I3.env0.make C [] (ks.zip ws)) (hb.to _ _ ws I3.kIn (rz.length.symm.trans l2)) r2 hq) fun r s' hq' => ?_))
  cases r with
  | error e => exact hx σ pins _ _ e s' I3 hq'
  | ok fl =>
    cases fl with
    | ret u =>
      obtain ⟨v, H', I4, rv, ev, q3⟩ := I3.after hq'
      subst ev
      exact ⟨rv, ⟨V.ref (s2.heap.objs.size + 1), H', I4, rfl, q3⟩⟩
    | next => exact False.elim hq'
    | brk => exact False.elim hq'
    | cont => exact False.elim hq'
end
end Pk

/-! ## Own exceptions: their facts in one answer; isinstance of a kept one; lists of the same things -/
namespace PySem.W
open PySem PySem.Spec PySem.Calls PyProof.Rows
section
variable {prog : Program} {w : World} {A : Around} {E : Value → Shared → Prop} {s : Shared} {K : Frag} {x D : Addr} {ox od : Obj}
theorem pk_classE {Q : Option Value → Shared → Prop} (hga : findIn K (.ref D) "__getattribute__" = some (some (.builtin "BaseException.__getattribute__"))) (hgt : findIn K (.ref D) "__getattr__" = some none) (hsub : subIn K (.ref D) (.type "BaseException") = some true)
    (hdct : hasDictIn K D = true) (ha : findIn K (.ref D) "__class__" = some (some (.builtin "object.__class__")))
    (hn : specialIn K (.builtin "object.__class__") "__get__" = some (some (.builtin "getset_descriptor.__get__"))) (htk : takesIn K (.builtin "object.__class__") = some true) (hm : mroIn K D (.type "object") = some true)
    (X : K.In s.heap) (I : InstAt s.heap x ox D (some od)) (h : Q (some (.ref D)) { s with toks := s.toks + 1 }) : wpAny (model prog w) A (getAttr? (.ref x) "__class__") Q E s := by
  have hf : findObj K D (some od) "__class__" = some (.bind (.builtin "getset_descriptor.__get__") (.builtin "object.__class__")) := findObj_data (by obtain ⟨cd, hc, _⟩ := any_some hdct; rw [hc]; rfl) ha hn htk
  obtain ⟨hp, g, d, t, os⟩ := s
  have L0 := I.type (M := model prog w)
  have L1 := looks_findIn (M := model prog w) X hga
  have L2 := looks_findIn (M := model prog w) X hgt
  have L3 := looks_find (M := model prog w) X I hf
  have sub : Looks (model prog w) hp (isInstance (.ref x) (.type "BaseException")) true := L0.andThen (looks_subIn X hsub)
  have hx0 : (false && onTheHeap (Value.builtin "BaseException.__getattribute__")) = false := rfl
  have hx2 : (Value.builtin "BaseException.__getattribute__" == Value.builtin "object.__getattribute__") = false := by decide +kernel
  have hx1 : (onTheHeap (Value.ref D) && Value.builtin "BaseException.__getattribute__" == Value.builtin "object.__getattribute__") = false := by rw [hx2]; rfl
  unfold getAttr? getAttrBy? getAttrBy
  refine wpAny_bind (wpAny_mkText (wpAny_bind (wpAny_attempt (wpAny_holding (wpAny_bind (L0.at (wpAny_bind (L1.at ?_))))))))
  show wpAny _ _ (if (onTheHeap (Value.ref D) && Value.builtin "BaseException.__getattribute__" == Value.builtin "object.__getattribute__") = true then _ else _) _ _ _
  rw [hx1, if_neg Bool.false_ne_true]
  unfold getAttrByItsOwn hookBefore
  refine wpAny_bind ?_
  rw [if_pos (show onTheHeap (Value.ref D) = true from rfl)]
  refine L2.at ?_
  refine wpAny_bind (wpAny_attempt (wpAny_holding ?_))
  unfold callGetattribute
  rw [hx0, if_neg Bool.false_ne_true]
  unfold boundAndCalled
  rw [PySem.F.excAttr_ValueError.ga.bind (.ref x)]
  refine wpAny_bind (wpAny_pure ?_)
  show wpAny _ _ (call (.builtin "BaseException.__getattribute__") [.ref x, .str "__class__" t]) _ _ _
  refine wpAny_call (codeAny_call_builtin PySem.F.excAttr_ValueError.ga.plain PySem.F.entry_bexc_ga ?_)
  refine @check_slot (model prog w) _ _ ⟨hp, g, d, t + 1, os⟩ "BaseException.__getattribute__" "BaseException" "__getattribute__" (.ref x) [.str "__class__" t] [] _ (by decide +kernel) (by decide +kernel) sub (PySem.F.args_bexc_ga (.ref x) (.str "__class__" t)) ?_
  unfold Builtin.«object.__getattribute__»
  refine wpAny_bind (wpAny_of_eq (a := ((Value.ref x : Value), [Value.str "__class__" t])) (by first | rfl | (simp only [slotArgs]; rfl)) ?_)
  refine wpAny_bind (wpAny_pure (wpAny_bind (L0.at (wpAny_bind (L3.at ?_)))))
  show wpAny _ _ (holding [Value.builtin "object.__class__"] (call (.builtin "getset_descriptor.__get__") [.builtin "object.__class__", .ref x, .ref D]) >>= ret) _ _ _
  refine wpAny_bind (wpAny_holding (wpAny_call (class_get (s := ⟨hp, g, d, t + 1, os⟩) (ox := ox) (od := some od) X I hm ?_)))
  refine wpAny_pure ?_
  show wpAny _ _ (handedOut (.ref D)) _ _ _
  rw [handedOut_of (v := .ref D) rfl]
  first
    | exact wpAny_pure (wpAny_pure h)
    | exact wpAny_pure h
    | exact wpAny_pure (wpAny_bind (wpAny_pure (wpAny_pure h)))
theorem pk_kitxE (hga : findIn K (.ref D) "__getattribute__" = some (some (.builtin "BaseException.__getattribute__"))) (hgt : findIn K (.ref D) "__getattr__" = some none) (hsub : subIn K (.ref D) (.type "BaseException") = some true) (hdct : hasDictIn K D = true) (ha : findIn K (.ref D) "__class__" = some (some (.builtin "object.__class__")))
    (hn : specialIn K (.builtin "object.__class__") "__get__" = some (some (.builtin "getset_descriptor.__get__"))) (htk : takesIn K (.builtin "object.__class__") = some true) (hm : mroIn K D (.type "object") = some true) :
    KitX K (.ref x) (.ref D) (fun h => InstAt h x ox D (some od)) where
  ty := fun _ _ _ I => I.type
  it := fun _ _ X _ => by
    obtain ⟨cdD, hcD, _⟩ := any_some hdct
    unfold clsIn at hcD
    split at hcD
    · rename_i c' d' cd' sl' ho
      intro A' Q' E' s' k q
      unfold isType loadHead
      exact wpAny_bind (wpAny_loadPart (k _ _ (X _ _ ho)) (wpAny_pure q))
    · cases hcD
  ne := fun h tp dd its n sl X htp => by
    obtain ⟨cdD, hcD, _⟩ := any_some hdct
    refine Bool.eq_false_iff.mpr fun q => ?_
    have e : D = tp := Value.ref.inj (beq_iff_eq.mp q)
    subst e
    unfold clsIn at hcD
    split at hcD
    · rename_i c' d' cd' sl' ho
      have z := (X _ _ ho).symm.trans htp
      cases z
    · cases hcD
  ca := fun X I k => pk_classE hga hgt hsub hdct ha hn htk hm X I k
end
end PySem.W
namespace Pk
open PySem PySem.Spec PyProof.Rows L2
/-- the class object, as OexC asks it -/
def oexB (K : PySem.W.Frag) (C : Addr) : Bool := match K.lookup C with
  | some ⟨.type "type", _, .cls cd, sl⟩ => (match cd.mro, sl.toList with
    | .ref C' :: bm, [_, _, _, _, some (.builtin n), _] => C' == C && n == "ValueError.__new__" && cd.hasDict && !cd.hasDel && PySem.HandSPX.refsVE bm
    | _, _ => false)
  | _ => false
theorem oexB_ok {K : PySem.W.Frag} {C : Addr} (q : oexB K C = true) :
    ∃ nm qn N bs bm sn sub ab col dd k0 k1 k2 k3 k5, K.lookup C = some (excClassObj nm qn C N bs bm true sn sub ab col dd k0 k1 k2 k3 k5 "ValueError.__new__") ∧ PySem.HandSPX.refsVE bm = true := by
  unfold oexB at q
  split at q
  · rename_i dd cd sl ho
    split at q
    · rename_i C' bm k0 k1 k2 k3 n k5 hm hs
      simp only [Bool.and_eq_true, beq_iff_eq, Bool.not_eq_true'] at q
      obtain ⟨⟨⟨⟨rfl, rfl⟩, hd⟩, hdel⟩, hr⟩ := q
      obtain ⟨nm, bs, mro, ns, qn, hd', sn, sub, ab, col, del⟩ := cd
      dsimp only at hm hdel hd
      subst hm hdel hd
      have hsl : sl = #[k0, k1, k2, k3, some (.builtin "ValueError.__new__"), k5] := by
        obtain ⟨l⟩ := sl
        simp only at hs
        rw [hs]
      subst hsl
      exact ⟨nm, qn, ns, bs, bm, sn, sub, ab, col, dd, k0, k1, k2, k3, k5, ho, hr⟩
    · cases q
  · cases q
/-- a raised own exception class -/
structure ExA (K : PySem.W.Frag) (C : Addr) : Prop where
  o : OexC K C
  x : XfC K C
  e : ExcC K C
def exaB (K : PySem.W.Frag) (C : Addr) : Bool := oexB K C && (decide (PySem.W.findIn K (.ref C) "__setattr__" = some (some (.builtin "object.__setattr__"))) && (decide (PySem.W.typeIn K (.ref C) = some (.type "type")) && (PySem.W.keepIn K (.ref C) && (xfB K C &&
  (decide (PySem.W.findIn K (.ref C) "__class__" = some (some (.builtin "object.__class__"))) && (decide (PySem.W.specialIn K (.builtin "object.__class__") "__get__" = some (some (.builtin "getset_descriptor.__get__"))) &&
  (decide (PySem.W.takesIn K (.builtin "object.__class__") = some true) && decide (PySem.W.mroIn K C (.type "object") = some true))))))))
theorem exaB_ok {K : PySem.W.Frag} {C : Addr} (h : exaB K C = true) : ExA K C := by
  obtain ⟨h1, h⟩ := Bool.and_eq_true_iff.mp h
  obtain ⟨h2, h⟩ := Bool.and_eq_true_iff.mp h
  obtain ⟨h3, h⟩ := Bool.and_eq_true_iff.mp h
  obtain ⟨h4, h⟩ := Bool.and_eq_true_iff.mp h
  obtain ⟨h5, h⟩ := Bool.and_eq_true_iff.mp h
  obtain ⟨h6, h⟩ := Bool.and_eq_true_iff.mp h
  obtain ⟨h7, h⟩ := Bool.and_eq_true_iff.mp h
  obtain ⟨h8, h9⟩ := Bool.and_eq_true_iff.mp h
  have x := xfB_ok h5
  exact ⟨⟨oexB_ok h1, of_decide_eq_true h2, x.exC, of_decide_eq_true h3, h4⟩, x, ⟨x.ga, x.gg, x.exC, x.hdC, of_decide_eq_true h6, of_decide_eq_true h7, of_decide_eq_true h8, of_decide_eq_true h9⟩⟩
/-- a class that a clause or isinstance names -/
structure NmC (K : PySem.W.Frag) (C : Addr) : Prop where
  be : PySem.W.subIn K (.ref C) (.type "BaseException") = some true
  hd : PySem.W.hasDictIn K C = true
  ty : PySem.W.typeIn K (.ref C) = some (.type "type")
  se : PySem.W.subIn K (.ref C) (.ref C) = some true
def nmB (K : PySem.W.Frag) (C : Addr) : Bool := decide (PySem.W.subIn K (.ref C) (.type "BaseException") = some true) && (PySem.W.hasDictIn K C && (decide (PySem.W.typeIn K (.ref C) = some (.type "type")) && decide (PySem.W.subIn K (.ref C) (.ref C) = some true)))
theorem nmB_ok {K : PySem.W.Frag} {C : Addr} (h : nmB K C = true) : NmC K C := by
  obtain ⟨h1, h⟩ := Bool.and_eq_true_iff.mp h
  obtain ⟨h2, h⟩ := Bool.and_eq_true_iff.mp h
  obtain ⟨h3, h4⟩ := Bool.and_eq_true_iff.mp h
  exact ⟨of_decide_eq_true h1, h2, of_decide_eq_true h3, of_decide_eq_true h4⟩
theorem exm_sub {K : PySem.W.Frag} {C : Addr} {t : Value} {b : Bool} (N : NmC K C) (h : PySem.W.subIn K t (.ref C) = some b) : PySem.W.exmOne K t (.ref C) = some b := PySem.W.exm_ref N.be N.hd N.ty h
theorem exm_any3 {K : PySem.W.Frag} {t c1 c2 c3 : Value} {b1 b2 b3 : Bool} (h1 : PySem.W.exmOne K t c1 = some b1) (h2 : PySem.W.exmOne K t c2 = some b2) (h3 : PySem.W.exmOne K t c3 = some b3) : PySem.W.exmAny K t [c1, c2, c3] = some (b1 || (b2 || (b3 || false))) := by
  unfold PySem.W.exmAny PySem.W.exmAny PySem.W.exmAny PySem.W.exmAny
  rw [h1, h2, h3]
theorem kit_sub {K : PySem.W.Frag} {C D : Addr} {b : Bool} (N : NmC K C) (h : PySem.W.subIn K (.ref D) (.ref C) = some b) : PySem.W.kitOne K (.ref D) (.ref C) = some b := by
  unfold PySem.W.kitOne
  by_cases e : D = C
  · subst e
    rw [if_pos (by simp)]
    rw [N.se] at h
    exact h
  · rw [if_neg (by simp [e])]
    obtain ⟨cd, hc, _⟩ := PySem.W.any_some N.hd
    have e2 : ((PySem.W.clsIn K C).isSome && PySem.W.typeIn K (.ref C) == some (.type "type")) = true := by rw [hc, N.ty] <;> rfl
    show (if ((PySem.W.clsIn K C).isSome && PySem.W.typeIn K (.ref C) == some (.type "type")) = true then PySem.W.subIn K (.ref D) (.ref C) else none) = some b
    rw [if_pos e2]
    exact h
/-- isinstance(e, C), e a kept exception -/
def rIsEV (K : PySem.W.Frag) : List V → Hp → VK → Prop := fun xs H Q => ∃ (a D dd : Addr) (fs : List (Str × V)) (c : V) (cv : Value) (b : Bool), xs = [.ref a, c] ∧ ExcC K D ∧ H a = some (ExK (.ref D) (some dd) a) ∧ H dd = some (.xd fs) ∧ (∀ u, RelV c u → u = cv) ∧ PySem.W.kitOne K (.ref D) cv = some b ∧ Q (.bl b) H
theorem call_isEV {X : Cx} : CallR X (.builtin "isinstance") (rIsEV X.K) := by
  intro pins s σ H xs us Q I r h
  obtain ⟨a, D, dd, fs, c, cv, b, rfl, C, hx, hd, hcv, e, q⟩ := h
  obtain ⟨u1, u2, rfl, r1, r2⟩ := vals2 r
  obtain rfl : u1 = Value.ref a := r1
  have ec := hcv _ r2
  subst ec
  obtain ⟨oe, vs, there, hz, hf⟩ := exK_at I.hok hx
  obtain ⟨mA, hns, _⟩ : ObjOk X.prog X.w H s.heap dd (.xd fs) := I.hok dd _ hd
  obtain ⟨od, ho, _⟩ := lookIn_ns hns
  have J : PySem.W.InstAt s.heap a oe D (some od) := ⟨there, hz.1, by unfold PySem.W.notCls; rw [hf] <;> rfl, by rw [hz.2]; exact ho⟩
  exact PySem.W.kia_one (PySem.W.pk_kitxE C.hg C.hk C.hs C.hd C.ha C.hn C.ht C.hm) I.kIn J e (fun z => nomatch z) fun tk => ⟨.bl b, H, I.kept (t' := tk) fun _ _ z => z, rfl, q⟩
/-- lists of the same things: each pair one plain value, or one object -/
def SameV (x y : V) : Prop := x = y ∧ (flatB x = true ∨ ∃ a, x = .ref a)
def rNeSm (K : PySem.W.Frag) : R2 := fun x y H Q => ∃ a b xs, x = .ref a ∧ y = .ref b ∧ SqL K H a xs ∧ SqL K H b xs ∧ (∀ v ∈ xs, flatB v = true ∨ ∃ p, v = .ref p) ∧ Q (.bl false) H
theorem sm_run {A : Around} {s : Shared} : ∀ {xs : List V} {us ws : List Value}, (∀ v ∈ xs, flatB v = true ∨ ∃ p, v = .ref p) → Vals xs us → Vals xs ws → ∀ j (h1 : j < us.length) (h2 : j < ws.length), SeqAt.EqAt A s us[j] ws[j] true
  | [], _, _, _, r1, _, j, h1, _ => by
    cases r1
    exact absurd h1 (Nat.not_lt_zero j)
  | x :: xs, _, _, hx, .cons a1 b1, .cons a2 b2, j, h1, h2 => by
    cases j with
    | zero =>
      rcases hx x List.mem_cons_self with f | ⟨p, rfl⟩
      · exact eqAt_same a1 a2 f
      · cases (show _ = Value.ref p from a1)
        cases (show _ = Value.ref p from a2)
        exact SeqAt.EqAt.same _
    | succ j => exact sm_run (fun v hv => hx v (List.mem_cons_of_mem _ hv)) b1 b2 j (Nat.lt_of_succ_lt_succ h1) (Nat.lt_of_succ_lt_succ h2)
theorem op_neSm {X : Cx} (hu : X.A.units + 64 < cLine) : OpR X (compareOp .NotEq) (rNeSm X.K) := by
  intro pins s σ H x y v u Q I rx ry h
  obtain ⟨a, b, xs, rfl, rfl, ha, hb, hp, q⟩ := h
  cases (show v = Value.ref a from rx)
  cases (show u = Value.ref b from ry)
  obtain ⟨us, r1, p1, _⟩ := I.list ha
  obtain ⟨ws, r2, p2, _⟩ := I.list hb
  have hsz : us.toArray.size = ws.toArray.size := by
    rw [List.size_toArray, List.size_toArray, ← r1.length, ← r2.length]
  refine SeqAt.RcNeAt.lists (e := fun _ => true) p1.isList p2.isList hsz (by omega) (fun j h1 h2 => ?_) X.prog X.w _ _ ?_
  · have k := sm_run (A := X.A.in1) (s := s) hp r1 r2 j (by simpa using h1) (by simpa using h2)
    simpa using k
  · rw [show ((List.range us.toArray.size).all fun _ => true) = true from List.all_eq_true.mpr fun _ _ => rfl]
    exact ⟨.bl false, H, I, rfl, q⟩
end Pk

/-! ## More rules: a classmethod without arguments, texts times numbers, repr of a list with an empty dict, find -/
namespace Pk
open PySem PySem.Spec PyProof.Rows L2 TL SX
section
variable {X : Cx} {CX : CXT} {k : Nat} {E : L2.St → XK} {sp : Sp}
/-- C.m(), m a classmethod -/
theorem pe_cmeth0S {C p g : Addr} {mc : Value} {o : Expr} {m : Str} {pos apos : Pos} {ta : TE} {pl : Sem Bool} (he : PE X o ta) (r : ClX.CRead X.K C mc) (c : ClX.CMet X.K C mc m p g) (F : FnR X.prog X.w X.K X.mg X.base CX k g sp) (hr : Room k X.A)
    (hx : ∀ σ, PassesAt CX X σ (E σ))
    (ht : eval (.Call (.Attribute o m apos) [] [] pos) X.env = (do
      let ov ← eval o X.env
      standAt apos.atName
      let (f, first) ← holding [ov] (getMethod ov m pl)
      callWith pos f first (backTo pos (starEach [] X.env)) (backToKw pos (keywordEach [] X.env))) := by rfl) :
    PE X (.Call (.Attribute o m apos) [] [] pos) (tCMethS C sp E ta tNil) := by
  refine ⟨fun pins s σ H Q I h => ?_⟩
  refine PySem.W.methodCall_KW (pl := pl) (thn (he.run pins s σ H _ I h) fun u s1 ⟨x, H1, I1, rx, ex, q⟩ => ?_) ht
  subst ex
  obtain rfl : u = Value.ref C := rx
  refine ClX.getmethcm_ok I1 r c fun s2 I2 => ?_
  refine PySem.W.callWith_M0 (K := X.K) (self := Value.ref C) (g := g) ⟨ClX.pin_at I2, I2.kIn⟩ c.fi ?_
  have z := wpAny_call (PySem.W.method_call (ClX.pin_at I2) (run_fnRS (us := [Value.ref C]) (vs := [V.ref C]) F hr (hx σ) I2 (.cons rfl .nil) q))
  exact thn z fun _ _ y => ClX.unpinE y
end
/-! ### a text times a number -/
theorem fold_reps (a : Array Nat) : ∀ (n : Nat) (b : Array Nat), ((List.replicate n a).foldl (· ++ ·) b).toList = b.toList ++ (List.replicate n a.toList).flatten
  | 0, b => by simp
  | n + 1, b => by
    rw [List.replicate_succ, List.foldl_cons, fold_reps a n, List.replicate_succ, List.flatten_cons, Array.toList_append, List.append_assoc]
theorem len_reps (l : List Nat) : ∀ n, (List.replicate n l).flatten.length = l.length * n
  | 0 => by simp
  | n + 1 => by
    rw [List.replicate_succ, List.flatten_cons, List.length_append, len_reps l n, Nat.mul_succ]
    omega
def rMulS : R2 := fun x y H Q => ∃ (l : List Nat) (n : Nat), x = .str (S l) ∧ y = .int (n : Int) ∧ l ≠ [] ∧ 2 ≤ n ∧ l.length * n ≤ 100000 ∧ Q (.str (S (List.replicate n l).flatten)) H
theorem op_mulS {X : Cx} : OpR X (binaryOp .Mult) rMulS := by
  intro pins s σ H x y v u Q I rx ry h
  obtain ⟨l, n, rfl, rfl, hne, h2, hz, q⟩ := h
  obtain ⟨t, rfl⟩ := rx
  obtain ⟨t', rfl⟩ := ry
  have hl : (S l).length = l.length := S_len l
  have hn : n ≤ 100000 := Nat.le_trans (Nat.le_mul_of_pos_left n (List.length_pos_iff.mpr hne)) hz
  have h0 : ((n : Int) == 1 || (S l).length == 0) = false := by
    have h1 : l.length ≠ 0 := fun e => hne (List.length_eq_zero_iff.mp e)
    rw [hl]
    rw [Bool.or_eq_false_iff]
    exact ⟨beq_eq_false_iff_ne.mpr (by omega), beq_eq_false_iff_ne.mpr h1⟩
  have et : (⟨(List.replicate ((n : Int)).toNat (S l).cps).foldl (· ++ ·) #[]⟩ : Str) = S (List.replicate n l).flatten := by
    refine ext_tl ?_
    show ((List.replicate ((n : Int)).toNat (S l).cps).foldl (· ++ ·) #[]).toList = (S (List.replicate n l).flatten).cps.toList
    rw [fold_reps, Int.toNat_natCast]
    show [] ++ (List.replicate n (S l).cps.toList).flatten = _
    rw [List.nil_append]
  have hz2 : l.length * n ≤ sizeLine := by
    rw [sizeLine_eq]
    omega
  refine PySem.P.mul_str (x := S l) (n := (n : Int)) ?_ ?_ ?_ ?_
  · rw [Bool.or_eq_false_iff]
    exact ⟨decide_eq_false (by omega), decide_eq_false (by omega)⟩
  · intro _ _
    rw [hl]
    have h1 : l.length ≤ 100000 := Nat.le_trans (Nat.le_mul_of_pos_right _ (by omega)) hz
    have : (2 ^ 63 - 1 : Int) / (n : Int) ≥ 100000 := by
      refine (Int.le_ediv_iff_mul_le (by omega)).mpr ?_
      omega
    omega
  · intro _ _
    rw [hl, Int.toNat_natCast]
    show decide (l.length * n > sizeLine) = false
    exact decide_eq_false (by omega)
  · rw [if_neg (by omega), if_neg (by rw [h0]; exact Bool.false_ne_true), et]
    have hlen : (S (List.replicate n l).flatten).length ≤ sizeLine := by
      rw [S_len, len_reps]
      exact hz2
    exact ⟨hlen, ⟨.str _, H, I.tok _, ⟨_, rfl⟩, q⟩⟩
/-! ### repr of a list of a text and an empty dict -/
def rReprD : List V → Hp → VK → Prop := fun xs H Q => ∃ (a dd : Addr), xs = [.ref a] ∧ a ≠ sysModules ∧ H a = some (.lst [.str "version", .ref dd]) ∧ H dd = some (.dK []) ∧ Q (.str (PyData.shown (.list [.str "version", .dict []]))) H
theorem call_reprD {X : Cx} (hgu : X.A.guards = some []) (hu : X.A.units + 64 < cLine) : CallR X (.builtin "repr") rReprD := by
  intro pins s σ H xs us Q I r h
  obtain ⟨a, dd, rfl, na, ha, hd, q⟩ := h
  obtain ⟨u, rfl, rx⟩ := vals1 r
  obtain rfl : u = Value.ref a := rx
  obtain ⟨us, rv, ⟨o, n, ho, hc, _, hdt⟩, _⟩ := I.list (.inl (.inl ha))
  obtain ⟨hz, hS, vs, r, m⟩ : ([] : List (Key × V)).length ≤ sizeLine ∧ (dd == sysModules) = false ∧ ∃ vs, KV [] vs ∧ s.heap.DictOf (mixKind X.prog X.w) dd vs := I.hok dd _ hd
  cases r
  obtain ⟨o2, es, ep, ho2, hx, hd2, _, hp, _⟩ := m
  have he : es.toList = [] := by
    cases h : es.toList with
    | nil => rfl
    | cons e r =>
      rw [h] at hp
      cases hp
  cases rv with
  | cons r1 rr =>
    cases rr with
    | cons r2 rr =>
      cases rr
      obtain ⟨tk, rfl⟩ := r1
      have r2' : _ = Value.ref dd := r2
      subst r2'
      have rd : Reads s.heap (.ref dd) (.dict []) _ := Reads.dict ho2 hx.1 hd2 (by rw [he]; exact ReadsAll.nil) (by rw [he]; exact ReadsAll.nil)
      have rl := Reads.list ho hc hdt (ReadsAll.cons (Reads.str _ tk) (ReadsAll.cons rd ReadsAll.nil))
      refine repr_of_reads' (h₀ := s.heap) rl (by decide +kernel) (fun _ => ?_) hgu (by show X.A.units + (2 + 1) < cLine; omega) (fun _ _ e => e) (fun h' v tk hk => ⟨.str _, H, I.kept hk, ⟨v, rfl⟩, q⟩) (by decide +kernel)
      have nd : dd ≠ sysModules := by
        rintro rfl
        simp at hS
      simp [Ne.symm na, Ne.symm nd]
/-- either rule -/
theorem callR_or {X : Cx} {f : Value} {r1 r2 : List V → Hp → VK → Prop} (h1 : CallR X f r1) (h2 : CallR X f r2) : CallR X f (fun xs H Q => r1 xs H Q ∨ r2 xs H Q) := by
  intro pins s σ H xs us Q I r h
  rcases h with h | h
  · exact h1 pins s σ H xs us Q I r h
  · exact h2 pins s σ H xs us Q I r h
/-- a list whose place is none of the first ones -/
def tLstN (t : TA) : TE := fun σ H Q => t σ H fun xs H1 => xs.length ≤ sizeLine ∧ ∀ p, H1 p = none → p ≠ sysModules → Q (.ref p) (upd H1 p (.lst xs))
theorem pe_lstN {X : Cx} {es : List Expr} {pos : Pos} {t : TA} (h : PA X es t) : PE X (.List es pos) (tLstN t) := by
  refine ⟨fun pins s σ H Q I hq => ?_⟩
  refine wpAny_List_spliced (thn (h.run pos pins s σ H _ I hq) fun us s1 ⟨xs, H1, I1, r, z, q⟩ => ⟨by rw [← r.length]; exact z, ?_⟩)
  have hf : H1 s1.heap.objs.size = none := I1.hok.fresh (Nat.le_refl _)
  have hb : s1.heap.objs.size ≠ sysModules := by
    have lt : mainGlobals < s1.heap.objs.size := by
      obtain ⟨o, es, ep, e, _⟩ := I1.ok.mod.glob
      exact Heap.lt_size (I1.bk _ _ e)
    intro e
    rw [e] at lt
    exact absurd lt (by decide)
  refine ⟨.ref s1.heap.objs.size, upd H1 s1.heap.objs.size (.lst xs), I1.laid (t' := s1.toks) (fun b u e => Heap.get?_push_of_some _ e) (Nat.le_refl _) ?_, rfl, q _ hf hb⟩
  exact ⟨z, us, 0, r, Heap.get?_push_size _ rfl⟩
/-! ### find -/
theorem find_par (x y : Str) (hy : tl y ≠ []) : (∃ p q, par (tl y) [] (tl x) = some (p, q) ∧ Txt.find x y = (p.length : Int) ∧ tl x = p ++ (tl y ++ q)) ∨ (par (tl y) [] (tl x) = none ∧ Txt.find x y = -1) := by
  have hl := len_tl y
  have hx := len_tl x
  unfold Txt.find
  rcases StrLaws.occ_head x y 1 (Nat.le_refl 1) with ⟨e, hn⟩ | ⟨i, r, e, hi, hn⟩
  · have run := par_run (tl y) (tl x) (tl x).length 0 [] (by omega) (fun k _ _ => no_at hy (hn k))
    rw [List.drop_zero, Nat.zero_add, List.drop_length] at run
    rw [e, run]
    exact .inr ⟨rfl, rfl⟩
  · have hb : i + y.length ≤ x.length := hi.1
    have run := par_run (tl y) (tl x) i 0 [] (by omega) (fun k _ k2 => no_at hy (hn k (by omega)))
    rw [List.drop_zero, Nat.zero_add, List.nil_append, par_at hy ((at_iff hy i).mp hi)] at run
    rw [e, run]
    refine .inl ⟨_, _, rfl, ?_, ?_⟩
    · show (i : Int) = _
      rw [List.length_take]
      omega
    · have hp := (at_iff hy i).mp hi
      have e3 : ((tl x).drop i).take (tl y).length = tl y := by
        unfold pre at hp
        simpa using hp
      conv => lhs; rw [← List.take_append_drop i (tl x), ← List.take_append_drop (tl y).length ((tl x).drop i), e3, List.drop_drop]
/-! ### a list compared with the empty one -/
def rEqNil (K : PySem.W.Frag) : R2 := fun x y H Q => ∃ a b xs, x = .ref a ∧ y = .ref b ∧ SqL K H a xs ∧ SqL K H b [] ∧ Q (.bl xs.isEmpty) H
def rNeNil (K : PySem.W.Frag) : R2 := fun x y H Q => ∃ a b xs, x = .ref a ∧ y = .ref b ∧ SqL K H a xs ∧ SqL K H b [] ∧ Q (.bl (!xs.isEmpty)) H
theorem op_neNil {X : Cx} (hu : X.A.units + 64 < cLine) : OpR X (compareOp .NotEq) (rNeNil X.K) := by
  intro pins s σ H x y v u Q I rx ry h
  obtain ⟨a, b, xs, rfl, rfl, ha, hb, q⟩ := h
  cases (show v = Value.ref a from rx)
  cases (show u = Value.ref b from ry)
  obtain ⟨us, r1, p1, _⟩ := I.list ha
  obtain ⟨ws, r2, p2, _⟩ := I.list hb
  cases r2
  cases xs with
  | nil =>
    cases r1
    refine SeqAt.RcNeAt.lists (e := fun _ => true) p1.isList p2.isList rfl (by omega) (fun j h1 _ => absurd h1 (by simp)) X.prog X.w _ _ ?_
    exact ⟨.bl false, H, I, rfl, q⟩
  | cons x xs =>
    cases r1 with
    | cons ra rb => exact SeqAt.RcNeAt.lists_lengths p1.isList p2.isList (by simp [bne]) (by omega) X.prog X.w _ _ ⟨.bl true, H, I, rfl, q⟩
theorem op_eqNil {X : Cx} (hu : X.A.units + 64 < cLine) : OpR X (compareOp .Eq) (rEqNil X.K) := by
  intro pins s σ H x y v u Q I rx ry h
  obtain ⟨a, b, xs, rfl, rfl, ha, hb, q⟩ := h
  cases (show v = Value.ref a from rx)
  cases (show u = Value.ref b from ry)
  obtain ⟨us, r1, p1, _⟩ := I.list ha
  obtain ⟨ws, r2, p2, _⟩ := I.list hb
  cases r2
  cases xs with
  | nil =>
    cases r1
    refine SeqAt.RcAt.lists (e := fun _ => true) p1.isList p2.isList rfl (by omega) (fun j h1 _ => absurd h1 (by simp)) X.prog X.w _ _ ?_
    exact ⟨.bl true, H, I, rfl, q⟩
  | cons x xs =>
    cases r1 with
    | cons ra rb => exact SeqAt.RcAt.lists_lengths p1.isList p2.isList (by simp [bne]) (by omega) X.prog X.w _ _ ⟨.bl false, H, I, rfl, q⟩
end Pk

/-! ## Rules inside a try, the table of classes named -/
namespace Pk
open PySem PySem.Spec PyProof.Rows L2
section
variable {X : Cx} {KK : PySem.W.Frag}
theorem call_len_seqK (hK : X.K = KK) : CallR X (.builtin "len") (fun xs H Q => ∃ p ys, xs = [.ref p] ∧ (SqL KK H p ys ∨ SqT KK H p ys) ∧ Q (.int ys.length) H) := by
  subst hK
  exact call_len_seq
theorem op_eqNilK (hK : X.K = KK) (hu : X.A.units + 64 < cLine) : OpR X (compareOp .Eq) (rEqNil KK) := by
  subst hK
  exact op_eqNil hu
end
end Pk
namespace Pk
open PySem L2
theorem units65 {k : Nat} {A : Around} (r : Room k A) : A.units + 65 < cLine := by
  have := r.un
  omega
end Pk

/-! ## != of an instance with an own ==, by the default __ne__ -/
namespace Pk
open PySem PySem.Spec PyProof.Rows L2 PySem.SeqAt
section
variable {M : Model} {prog : Program} {w : World} {A : Around} {E : Value → Shared → Prop} {s : Shared} {K : PySem.W.Frag} {x C L g : Addr} {ox : Obj} {od : Option Obj} {b : Value} {h₀ : Heap} {m : Str → Option Value}
theorem ifBound_objNe {args : List Value} {Q : Option Value → Shared → Prop} (X : K.In s.heap) (I : PySem.W.InstAt s.heap x ox C od) (hs : PySem.W.findIn K (.ref C) "__ne__" = some (some (.builtin "object.__ne__")))
    (h : wpAny M A (call (.builtin "object.__ne__") (.ref x :: args)) (fun v => Q (some v)) E s) : wpAny M A (callSpecialIfBound? (.ref x) "__ne__" args) Q E s := by
  simp only [callSpecialIfBound?, bindSpecialIfBound?]
  refine wpAny_holding (wpAny_bind (wpAny_bind (wpAny_bind (I.type.here ((PySem.W.looks_findIn X hs).here ?_)))))
  refine wpAny_bind (wpAny_askSetting (wpAny_ite ?_))
  have fin : wpAny M A (call (.builtin "object.__ne__") ([.ref x] ++ args) >>= fun v => pure (some v)) Q E s := wpAny_bind (wpAny_mono h (fun v s' h' => wpAny_pure h') fun _ _ h' => h')
  split
  · exact wpAny_bind (wpAny_of_eq (F.cmp_object.ne.bind _) (wpAny_pure (by exact fin)))
  · exact wpAny_tryCatch (wpAny_bind (wpAny_of_eq (F.cmp_object.ne.bind _) (wpAny_pure (by exact fin))))
theorem call_objNe {Q : Value → Shared → Prop} (hu : A.in1.units < cLine) (X : K.In s.heap) (I : PySem.W.InstAt s.heap x ox C od) (hm : PySem.W.mroIn K C (.type "object") = some true)
    (hs : PySem.W.findIn K (.ref C) "__eq__" = some (some (.ref g))) (hf : PySem.W.isFn K (.ref g) = true)
    (h : wpAny (model prog w) A.in1 (call (.ref g) [.ref x, b]) (fun v s' => ∃ c, v = .bool c ∧ Q (.bool (!c)) s') E s) :
    wpAny (model prog w) A (call (.builtin "object.__ne__") [.ref x, b]) Q E s := by
  refine wpAny_call (codeAny_call_builtin F.cmp_object.ne.plain F.cmpEntry_ne (PySem.W.check_slot F.cmpKind_ne F.cmpSplit_ne (I.type.andThen (PySem.W.looks_mroIn X hm)) (F.cmpArgs_ne _ _) ?_))
  unfold Builtin.«object.__ne__»
  refine wpAny_bind (wpAny_pure ?_)
  refine wpAny_bind (m := cRoomFor _ _) (wpAny_cRoomFor hu ?_)
  refine wpAny_bind (m := callSpecialIfBound? (.ref x) (Str.ofString "__eq__") _) (PySem.W.ifBound_K X I hs hf (wpAny_mono h (fun r s' hr => ?_) fun _ _ e => e))
  obtain ⟨c, rfl, hq⟩ := hr
  refine wpAny_bind (m := truthy (.bool c)) (wpAny_truthy_bool ?_)
  exact wpAny_pure hq
theorem cmp_ne {Q : Value → Shared → Prop} (hu : A.units < cLine) (hu1 : A.in1.units < cLine) (X : K.In s.heap) (I : PySem.W.InstAt s.heap x ox C od) (hb : PySem.W.Looks (model prog w) s.heap (typeOf b) (.ref C))
    (hn : PySem.W.findIn K (.ref C) "__ne__" = some (some (.builtin "object.__ne__"))) (hm : PySem.W.mroIn K C (.type "object") = some true)
    (hs : PySem.W.findIn K (.ref C) "__eq__" = some (some (.ref g))) (hf : PySem.W.isFn K (.ref g) = true)
    (h : wpAny (model prog w) A.in1 (call (.ref g) [.ref x, b]) (fun v s' => ∃ c, v = .bool c ∧ Q (.bool (!c)) s') E s) : wpAny (model prog w) A (richCompare .NotEq (.ref x) b) Q E s := by
  have one : wpAny (model prog w) A (tryCompare (.ref x) "__ne__" b) (fun r s' => ∃ v, r = some v ∧ Q v s') E s := by
    unfold tryCompare
    refine wpAny_bind (ifBound_objNe X I hn (call_objNe hu1 X I hm hs hf (wpAny_mono h (fun v s' hv => ?_) fun _ _ e => e)))
    obtain ⟨c, rfl, hq⟩ := hv
    exact ⟨c, rfl, wpAny_pure ⟨_, rfl, hq⟩⟩
  unfold richCompare
  simp only [oneThing_ref]
  refine wpAny_holding (wpAny_bind (wpAny_cRoomFor hu ?_))
  rw [cmpInfo_NotEq]
  refine wpAny_bind (I.type.here (wpAny_bind (hb.here ?_)))
  rw [show (Value.ref C != Value.ref C) = false from by simp]
  simp only [Bool.false_eq_true, if_false]
  refine wpAny_bind (wpAny_pure ?_)
  simp only [Bool.false_eq_true, if_false]
  refine wpAny_bind (wpAny_mono one (fun r s' z => ?_) fun _ _ e => e)
  obtain ⟨v, rfl, hq⟩ := z
  exact wpAny_pure hq
end
section
variable {X : Cx} {n : Nat} {C g : Addr} {sp : Sp} {E : XK} {CX : CXT}
/-- x != y, both instances of the class at C, whose == is at g -/
def rNeOwn (C : Addr) (sp : Sp) (E : XK) : R2 := fun x y H Q => ∃ a dx fs b dy gs, x = .ref a ∧ y = .ref b ∧ H a = some (.ins C dx fs) ∧ H b = some (.ins C dy gs) ∧ sp [x, y] H (fun z H' => ∃ c, z = .bl c ∧ Q (.bl (!c)) H') E
theorem op_neOwn (hn : PySem.W.findIn X.K (.ref C) "__ne__" = some (some (.builtin "object.__ne__"))) (hm : PySem.W.mroIn X.K C (.type "object") = some true) (hs : PySem.W.findIn X.K (.ref C) "__eq__" = some (some (.ref g)))
    (hf : PySem.W.isFn X.K (.ref g) = true) (F : FnR X.prog X.w X.K X.mg X.base CX n g sp) (hr : Room (n + 1) X.A) (hx : Passes CX X E) : OpR X (compareOp .NotEq) (rNeOwn C sp E) := by
  intro pins s σ H x y v u Q I rx ry h
  obtain ⟨a, dx, fs, b, dy, gs, rfl, rfl, ha, hb, q⟩ := h
  obtain rfl : v = Value.ref a := rx
  obtain rfl : u = Value.ref b := ry
  obtain ⟨mA, O, _⟩ := ins_get I.hok ha
  obtain ⟨od, J, _⟩ := O.look
  obtain ⟨mB, O', _⟩ := ins_get I.hok hb
  obtain ⟨od', J', _⟩ := O'.look
  have hr1 : Room n X.A.in1 := Room.in1 hr
  refine cmp_ne hr.units0 hr1.units0 I.kIn J J'.type hn hm hs hf (wpAny_mono (wpAny_call (SlX.run_at (us := [.ref a, .ref b]) (ws := [.ref a, .ref b]) F hr1 I.env0.in1 hx I (.cons rfl (.cons rfl .nil)) q)) ?_ (fun _ _ x => x))
  rintro w s' ⟨z', H', I', rz, c, rfl, qz⟩
  obtain rfl : w = Value.bool c := rz
  exact ⟨c, rfl, .bl (!c), H', I', rfl, qz⟩
/-- one rule or another -/
theorem opR_or {f : Value → Value → Sem Value} {r1 r2 : R2} (h1 : OpR X f r1) (h2 : OpR X f r2) : OpR X f (fun x y H Q => r1 x y H Q ∨ r2 x y H Q) := by
  intro pins s σ H x y v u Q I rx ry h
  rcases h with h | h
  · exact h1 pins s σ H x y v u Q I rx ry h
  · exact h2 pins s σ H x y v u Q I rx ry h
end
end Pk

/-! ## Static methods read off their class; nested things that are alike -/
namespace Pk
open PySem PySem.Spec PyProof.Rows L2
/-- C.m is a staticmethod: its record at p, its def at g -/
structure SMet (K : PySem.W.Frag) (C : Addr) (mc : Value) (m : Str) (p g : Addr) : Prop where
  at_ : PySem.W.findCls K (.ref C) mc m = some (.get (.builtin "staticmethod.__get__") (.ref p) .none (.ref C))
  rc : ∃ rest, PySem.W.recIn K p "staticmethod" = some (.ref g :: rest)
section
variable {X : Cx} {CX : CXT} {k : Nat} {σ : L2.St} {H : Hp} {s : Shared} {pins : List (Addr × Obj)} {E : L2.St → XK} {sp : Sp}
theorem getsm_ok {C p g : Addr} {mc : Value} {m : Str} {A : Around} {Ex : Value → Shared → Prop} {pl : Sem Bool} {Q : Value × List Value → Shared → Prop} (I : Inv X pins σ H s) (r : ClX.CRead X.K C mc) (c : SMet X.K C mc m p g)
    (h : ∀ s', Inv X pins σ H s' → Q (.ref g, []) s') : wpAny (model X.prog X.w) A (getMethod (.ref C) m pl) Q Ex s := by
  obtain ⟨rest, hp⟩ := c.rc
  refine PySem.W.method_cls I.kIn r.ga (PySem.W.cls_bind I.kIn r.rd c.at_ ?_)
  exact wpAny_call (PySem.W.sm_get (s := { s with toks := s.toks + 1 }) I.kIn hp (PySem.W.handed_on rfl (h _ (I.tok _))))
/-- C.m(..), m a staticmethod, by position -/
def tSMethS (C : Addr) (sp : Sp) (E : L2.St → XK) (ta : TE) (t : TA) : TE := fun σ H Q => ta σ H fun x H1 => x = .ref C ∧ t σ H1 fun vs H2 => sp vs H2 Q (E σ)
theorem pe_smethS {C p g : Addr} {fd : FuncData} {ps : List Str} {mc : Value} {o e : Expr} {es : List Expr} {m : Str} {pos apos : Pos} {ta : TE} {t : TA} {pl : Sem Bool} (he : PE X o ta) (r : ClX.CRead X.K C mc) (c : SMet X.K C mc m p g)
    (F : FnOk X.prog X.w X.K X.mg X.base CX k g fd ps sp) (hk : PySem.W.keepIn X.K (.ref g) = true) (hb : Binds X.K fd ps []) (hr : Room k X.A) (hx : ∀ σ, PassesAt CX X σ (E σ)) (ha : PA X (e :: es) t)
    (hst : starEach (e :: es) X.env = (false, eval e X.env) :: starEach es X.env := by rfl) (hpl : (backTo pos (starEach es X.env)).any (·.1) = false := by rfl)
    (ht : eval (.Call (.Attribute o m apos) (e :: es) [] pos) X.env = (do
      let cv ← eval o X.env
      standAt apos.atName
      let (fv, fst) ← holding [cv] (getMethod cv m pl)
      callWith pos fv fst (backTo pos (starEach (e :: es) X.env)) (backToKw pos (keywordEach [] X.env))) := by rfl) :
    PE X (.Call (.Attribute o m apos) (e :: es) [] pos) (tSMethS C sp E ta t) := by
  refine ⟨fun pins s σ H Q I h => ?_⟩
  refine PySem.W.methodCall_KW (pl := pl) (thn (he.run pins s σ H _ I h) fun u s1 ⟨x, H1, I1, rx, ex, q⟩ => ?_) ht
  subst ex
  obtain rfl : u = Value.ref C := rx
  refine getsm_ok I1 r c fun s2 I2 => ?_
  refine PySem.W.callWith_K (h₀ := X.base) I2.ok.mod.kin hk (thn (ha.run pos _ s2 σ H1 _ I2 q) fun us s3 ⟨vs, H2, I3, rv, q2⟩ => ⟨I3.kIn, ?_⟩) hst hpl
  exact wpAny_call (run_fnRS (F.raw hb .nil) hr (hx σ) I3 rv (by rw [List.append_nil]; exact q2))
/-- C.m(k = v), m a staticmethod, by name, in the parameters' order -/
def tSMethK (C : Addr) (n : Nat) (sp : Sp) (E : L2.St → XK) (ta : TE) (tk : TA) : TE := fun σ H Q => ta σ H fun x H1 => x = .ref C ∧ tk σ H1 fun zs H2 => zs.length = n ∧ sp zs H2 Q (E σ)
theorem pe_smethK {C p g : Addr} {fd : FuncData} {ps ks : List Str} {mc : Value} {o : Expr} {kws : List Keyword} {m : Str} {pos apos : Pos} {ta : TE} {tk : TA} {pl : Sem Bool} (he : PE X o ta) (r : ClX.CRead X.K C mc) (c : SMet X.K C mc m p g)
    (F : FnOk X.prog X.w X.K X.mg X.base CX k g fd ps sp) (hk : PySem.W.keepIn X.K (.ref g) = true) (hb : KB X.K fd ps ks) (hl : ps.length = ks.length) (hr : Room k X.A) (hx : ∀ σ, PassesAt CX X σ (E σ)) (hkw : PK X kws tk)
    (hall : (backToKw pos (keywordEach kws X.env)).all (·.1.isSome) = true := by rfl) (hks : (backToKw pos (keywordEach kws X.env)).filterMap (·.1) = ks := by rfl)
    (hpl : ((backTo pos (starEach [] X.env)).any (·.1) || (backToKw pos (keywordEach kws X.env)).any (·.1.isNone)) = false := by rfl)
    (ht : eval (.Call (.Attribute o m apos) [] kws pos) X.env = (do
      let cv ← eval o X.env
      standAt apos.atName
      let (fv, fst) ← holding [cv] (getMethod cv m pl)
      callWith pos fv fst (backTo pos (starEach [] X.env)) (backToKw pos (keywordEach kws X.env))) := by rfl) :
    PE X (.Call (.Attribute o m apos) [] kws pos) (tSMethK C ks.length sp E ta tk) := by
  refine ⟨fun pins s σ H Q I h => ?_⟩
  refine PySem.W.methodCall_KW (pl := pl) (thn (he.run pins s σ H _ I h) fun u s1 ⟨x, H1, I1, rx, ex, q⟩ => ?_) ht
  subst ex
  obtain rfl : u = Value.ref C := rx
  refine getsm_ok I1 r c fun s2 I2 => ?_
  refine PySem.W.callWith_KW0 (h₀ := X.base) I2.ok.mod.kin hk hall ?_ hpl
  refine thn (hkw.run pos _ s2 σ H1 _ I2 q) fun ws s3 ⟨zs, H2, I3, rz, l2, q2⟩ => ⟨I3.kIn, ?_⟩
  rw [hks]
  refine wpAny_call (codeAny_mono (F.run X.A X.stack s3 H2 ⟨[], ks.zip ws⟩ ws zs Q (E σ) hr I3.env0 (hb.toK s3 ws I3.kIn ((rz.length.symm.trans l2).trans hl.symm)) rz q2) fun r s' hq => ?_)
  cases r with
  | error e => exact hx σ _ H2 s3 e s' I3 hq
  | ok fl =>
    cases fl with
    | ret u => exact I3.after hq
    | next => exact False.elim hq
    | brk => exact False.elim hq
    | cont => exact False.elim hq
end
/-! ### alike: the same thing, or lists or tuples of alike things -/
mutual
inductive Alike (K : PySem.W.Frag) (H : Hp) : Nat → V → V → Prop
  | same {n : Nat} {x : V} : (flatB x = true ∨ ∃ a, x = .ref a) → Alike K H n x x
  | lst {n : Nat} {a b : Addr} {xs ys : List V} : SqL K H a xs → SqL K H b ys → AlikeAll K H n xs ys → Alike K H (n + 1) (.ref a) (.ref b)
  | tup {n : Nat} {a b : Addr} {xs ys : List V} : SqT K H a xs → SqT K H b ys → AlikeAll K H n xs ys → Alike K H (n + 1) (.ref a) (.ref b)
inductive AlikeAll (K : PySem.W.Frag) (H : Hp) : Nat → List V → List V → Prop
  | nil {n : Nat} : AlikeAll K H n [] []
  | cons {n : Nat} {x y : V} {xs ys : List V} : Alike K H n x y → AlikeAll K H n xs ys → AlikeAll K H n (x :: xs) (y :: ys)
end
theorem AlikeAll.len {K : PySem.W.Frag} {H : Hp} {n : Nat} : ∀ {xs ys : List V}, AlikeAll K H n xs ys → xs.length = ys.length
  | _, _, .nil => rfl
  | _, _, .cons _ h => congrArg Nat.succ h.len
theorem all_yes (n : Nat) : ((List.range n).all fun _ => true) = true := List.all_eq_true.mpr fun _ _ => rfl
section
variable {X : Cx} {pins : List (Addr × Obj)} {σ : L2.St} {H : Hp} {s : Shared}
mutual
theorem Alike.eqAt (I : Inv X pins σ H s) : ∀ {n : Nat} {x y : V} {u v : Value} {A : Around}, Alike X.K H n x y → RelV x u → RelV y v → A.units + n + 1 < cLine → SeqAt.EqAt A s u v true
  | _, x, _, u, v, A, .same h, r1, r2, _ => by
    rcases h with f | ⟨p, rfl⟩
    · exact eqAt_same r1 r2 f
    · cases (show u = Value.ref p from r1)
      cases (show v = Value.ref p from r2)
      exact SeqAt.EqAt.same _
  | n + 1, .ref a, .ref b, u, v, A, .lst ha hb hall, r1, r2, hu => by
    cases (show u = Value.ref a from r1)
    cases (show v = Value.ref b from r2)
    by_cases e : a = b
    · subst e
      exact SeqAt.EqAt.same _
    · obtain ⟨us, q1, p1, _⟩ := I.list ha
      obtain ⟨ws, q2, p2, _⟩ := I.list hb
      have hl := hall.len
      have hsz : us.toArray.size = ws.toArray.size := by
        rw [List.size_toArray, List.size_toArray, ← q1.length, ← q2.length, hl]
      have k := SeqAt.RcAt.lists (A := A) (e := fun _ => true) p1.isList p2.isList hsz (by omega) (fun j h1 h2 => by
        have z := AlikeAll.eqAt I (A := A.in1) hall q1 q2 (by show A.units + 1 + n + 1 < cLine; omega) j (by simpa using h1) (by simpa using h2)
        simpa using z)
      rw [all_yes] at k
      exact SeqAt.EqAt.of_refs e k
  | n + 1, .ref a, .ref b, u, v, A, .tup ha hb hall, r1, r2, hu => by
    cases (show u = Value.ref a from r1)
    cases (show v = Value.ref b from r2)
    by_cases e : a = b
    · subst e
      exact SeqAt.EqAt.same _
    · obtain ⟨us, q1, p1, _⟩ := I.tuple ha
      obtain ⟨ws, q2, p2, _⟩ := I.tuple hb
      have hl := hall.len
      have hsz : us.toArray.size = ws.toArray.size := by
        rw [List.size_toArray, List.size_toArray, ← q1.length, ← q2.length, hl]
      have k := SeqAt.RcAt.tuples (A := A) (e := fun _ => true) p1 p2 (by omega) (fun j h1 h2 => by
        have z := AlikeAll.eqAt I (A := A.in1) hall q1 q2 (by show A.units + 1 + n + 1 < cLine; omega) j (by simpa using h1) (by simpa using h2)
        simpa using z)
      rw [all_yes, hsz] at k
      simp only [BEq.rfl, Bool.and_self] at k
      exact SeqAt.EqAt.of_refs e k
theorem AlikeAll.eqAt (I : Inv X pins σ H s) : ∀ {n : Nat} {xs ys : List V} {us ws : List Value} {A : Around}, AlikeAll X.K H n xs ys → Vals xs us → Vals ys ws → A.units + n + 1 < cLine → ∀ j (h1 : j < us.length) (h2 : j < ws.length), SeqAt.EqAt A s us[j] ws[j] true
  | _, _, _, _, _, _, .nil, r1, _, _, j, h1, _ => by
    cases r1
    exact absurd h1 (Nat.not_lt_zero j)
  | _, _, _, _, _, A, .cons a b, .cons r1 t1, .cons r2 t2, hu, j, h1, h2 => by
    cases j with
    | zero => exact Alike.eqAt I a r1 r2 hu
    | succ j => exact AlikeAll.eqAt I b t1 t2 hu j (Nat.lt_of_succ_lt_succ h1) (Nat.lt_of_succ_lt_succ h2)
end
end
/-- == and != of lists or tuples that are alike -/
def rEqAl (K : PySem.W.Frag) (b : Bool) : R2 := fun x y H Q => ∃ (n : Nat) (p q : Addr) (xs ys : List V), x = .ref p ∧ y = .ref q ∧ n ≤ 40 ∧ ((SqL K H p xs ∧ SqL K H q ys) ∨ (SqT K H p xs ∧ SqT K H q ys)) ∧ AlikeAll K H n xs ys ∧ Q (.bl b) H
theorem op_eqAl {X : Cx} (hu : X.A.units + 64 < cLine) : OpR X (compareOp .Eq) (rEqAl X.K true) := by
  intro pins s σ H x y v u Q I rx ry h
  obtain ⟨n, a, b, xs, ys, rfl, rfl, hn, hab, hall, q⟩ := h
  cases (show v = Value.ref a from rx)
  cases (show u = Value.ref b from ry)
  have hl := hall.len
  have fin : EP X pins σ Q (.bool true) s := ⟨.bl true, H, I, rfl, q⟩
  rcases hab with ⟨ha, hb⟩ | ⟨ha, hb⟩
  · obtain ⟨us, q1, p1, _⟩ := I.list ha
    obtain ⟨ws, q2, p2, _⟩ := I.list hb
    have hsz : us.toArray.size = ws.toArray.size := by
      rw [List.size_toArray, List.size_toArray, ← q1.length, ← q2.length, hl]
    refine SeqAt.eq_listAt (e := fun _ => true) p1.isList p2.isList hsz (by omega) (fun j h1 h2 => ?_) ?_
    · have z := AlikeAll.eqAt I (A := X.A.in1) hall q1 q2 (by show X.A.units + 1 + n + 1 < cLine; omega) j (by simpa using h1) (by simpa using h2)
      simpa using z
    · rw [all_yes]
      exact fin
  · obtain ⟨us, q1, p1, _⟩ := I.tuple ha
    obtain ⟨ws, q2, p2, _⟩ := I.tuple hb
    have hsz : us.toArray.size = ws.toArray.size := by
      rw [List.size_toArray, List.size_toArray, ← q1.length, ← q2.length, hl]
    refine SeqAt.eq_tupleAt (e := fun _ => true) p1 p2 (by omega) (fun j h1 h2 => ?_) ?_
    · have z := AlikeAll.eqAt I (A := X.A.in1) hall q1 q2 (by show X.A.units + 1 + n + 1 < cLine; omega) j (by simpa using h1) (by simpa using h2)
      simpa using z
    · rw [all_yes, hsz]
      simpa using fin
/-! ### keyword-only parameters with defaults, some of them named: how they bind behind the first one -/
theorem FunD_km {K : PySem.W.Frag} {x qual : Str} {params : Arguments} {body : List Stmt} {scope : Scope} {kws : List (Str × V)} {f : Addr} {fd : FuncData} {ps : List Str} (F : FunD K x qual params body scope [] kws f fd)
    (ks : List Str) (ms : List (Str × V)) (g : {α : Type} → List α → List α → List α) (hk : kws ≠ []) (hms : ∀ q ∈ ms, q ∈ kws)
    (rel : ∀ (mz zs : List V) (mv ws : List Value), mz.length = ms.length → zs.length = ks.length → Vals mz mv → Vals zs ws → Vals (g mz zs) (g mv ws))
    (h : ∀ (D : Addr) (doc pm : Value) (an : Option Addr) (cdv ct c : Value) (mv ws : List Value), mv.length = ms.length → ws.length = ks.length →
      KwChain D ((ms.map (·.1)).zip mv) (bindArgs (PySem.W.fnOf x qual params body scope .none (.ref D) doc pm an cdv ct) ⟨[c], ks.zip ws⟩) (ps.zip (c :: g mv ws))) :
    ∃ g', KM K fd ps ks g' (fun zs => g (ms.map (·.2)) zs) := by
  obtain ⟨_, _, dV, kV, _, _, _, _, _, _, rfl, _, _, hD, hK⟩ := F.ex
  obtain rfl : dV = .none := hD.elim (fun z => z.2) (fun z => absurd rfl z.1)
  obtain ⟨D, rfl, hq⟩ := hK.resolve_left hk
  obtain ⟨mv, lm, rm, at_⟩ := kwd_vals (ms := ms) fun q z => hq q (hms q z)
  refine ⟨fun ws => g mv ws, fun s c ws X l => ?_, fun lz r => rel _ _ _ _ (List.length_map _) lz rm r⟩
  exact BindsTo.of_looks fun _ => KwChain.looks X at_ (h D _ _ _ _ _ c mv ws lm l)
theorem km_of {K : PySem.W.Frag} {fd : FuncData} {ps ks : List Str} {gV gW : List V → List V} (h : ∃ g, KM K fd ps ks g gV) (e : ∀ zs : List V, zs.length = ks.length → gV zs = gW zs) : ∃ g, KM K fd ps ks g gW :=
  let ⟨g, k⟩ := h
  ⟨g, k.to, fun {zs ws} l r => by rw [← e zs l]; exact k.rel l r⟩
end Pk

/-! ## Lambdas without parameters, handed to a def that calls them within a try: what is raised is told with the caller's slots -/
namespace Pk
open PySem PySem.Spec PyProof.Rows L2 LamX
/-- a def whose code object stands at c -/
structure FunC (K : PySem.W.Frag) (x qual : Str) (st : Stmt) (f : Addr) (fd : FuncData) (c : Addr) : Prop where
  ex : ∃ (oc : Value) (od : Option Addr) (kV doc pm : Value) (an : Option Addr) (ct : Value) (osl : Array (Option Value)),
    fd = PySem.W.fnOf x qual (defArgs st) (defBody st) (defScope st) .none kV doc pm an (.ref c) ct ∧ K.lookup f = some ⟨oc, od, .func fd, osl⟩ ∧ PySem.W.codeIn K (.ref c) qual = true
  kp : PySem.W.keepIn K (.ref f) = true
theorem FunC.toFun {K : PySem.W.Frag} {x qual : Str} {st : Stmt} {f : Addr} {fd : FuncData} {c : Addr} (F : FunC K x qual st f fd c) : Fun K x qual st f fd :=
  let ⟨oc, od, kV, doc, pm, an, ct, osl, h⟩ := F.ex
  ⟨⟨oc, od, kV, doc, pm, an, .ref c, ct, osl, h⟩, F.kp⟩
section
variable {P : Program} {w : World} {K : PySem.W.Frag} {mg : Str → Option Value} {base : Heap}
/-- a def's body, its code object told -/
theorem FunC.okC {x qual : Str} {st : Stmt} {f : Addr} {fd : FuncData} {c : Addr} {N ps : List Str} {k : Nat} {sp : Sp} (F : FunC K x qual st f fd c) (S : FnScope N ps (defScope st)) (len : ∀ vs H Q E, sp vs H Q E → vs.length = ps.length)
    (body : ∀ (A : Around) (outer : List Env) (s : Shared) (H : Hp) (vs : List V) (Q : VK) (E : XK), Room k (A.deeper (envOfC qual (defScope st) s.heap.objs.size f (.ref c))) → sp vs H Q E →
      ∃ t, PSs (cxOf CX0 P w K mg base N qual (defScope st) f (.ref c) A outer s H E).nox (defBody st) t ∧ t { nx := fun _ H' => Q .non H', rt := Q } (start N vs) H) : FnOk P w K mg base CX0 (k + 1) f fd ps sp := by
  obtain ⟨oc, od, kV, doc, pm, an, ct, osl, rfl, lk, hcd⟩ := F.ex
  exact fn_of lk hcd S len fun A outer s H vs Q E hr h =>
    let ⟨t, h1, h2⟩ := body A outer s H vs Q E hr h
    ⟨t, h1.nox, h2⟩
/-- .. the marks known -/
theorem FunC.okG {x qual : Str} {st : Stmt} {f : Addr} {fd : FuncData} {c : Addr} {N ps : List Str} {k : Nat} {sp : Sp} (F : FunC K x qual st f fd c) (S : FnScope N ps (defScope st)) (len : ∀ vs H Q E, sp vs H Q E → vs.length = ps.length)
    (body : ∀ (A : Around) (outer : List Env) (s : Shared) (H : Hp) (vs : List V) (Q : VK), A.guards = some [] → Room k (A.deeper (envOfC qual (defScope st) s.heap.objs.size f (.ref c))) → sp vs H Q E0 →
      ∃ t, PSs (cxOf CX0 P w K mg base N qual (defScope st) f (.ref c) A outer s H E0).nox (defBody st) t ∧ t { nx := fun _ H' => Q .non H', rt := Q } (start N vs) H) : FnG P w K mg base (k + 1) f fd ps sp := by
  obtain ⟨oc, od, kV, doc, pm, an, ct, osl, rfl, lk, hcd⟩ := F.ex
  refine ⟨len, fun A outer s H args us vs Q hg hr e0 hb r h => ?_⟩
  exact run_ofS (N := N) (ps := ps) lk hcd S hr e0 hb r (len _ _ _ _ h) fun hr' =>
    let ⟨t, h1, h2⟩ := body A outer s H vs Q hg hr' h
    ⟨t, h1.nox, h2⟩
end
section
variable {X : Cx} {pins : List (Addr × Obj)} {σ : L2.St} {H : Hp} {s : Shared}
/-- x() in the def that got the lambda: what the lambda raises is taken where the caller stands -/
theorem pe_actS {CXg : CXT} {Eg : XK} {Ng : List Str} {qg : Str} {sg : Scope} {g f c' : Addr} {cdg pm ctv : Value} {params : Arguments} {body : Expr} {scope : Scope} {k i : Nat} {a : Str} {pn : List (Addr × Obj)} {xe : Value → Shared → Prop} {W : WX} {tb : XK → TE} {p1 p2 : Pos}
    (I : Inv X pins σ H s) (L : LamS X.env.scope scope)
    (hf : s.heap.get? f = some (PySem.W.kla_obj "<lambda>" (X.env.qual ++ "<lambda>") params body scope (cloFrom X.env.cells scope.names []) pm c' ctv)) (hfn : H f = none) (hfr : f ∉ frs X.stack)
    (hbind : bindArgs (PySem.W.kla_fn "<lambda>" (X.env.qual ++ "<lambda>") params body scope (cloFrom X.env.cells scope.names []) pm (.ref c') ctv) ⟨[], []⟩ = pure [])
    (tk : Takes ((cxOf CXg X.prog X.w X.K X.mg X.base Ng qg sg g cdg X.A X.stack s H Eg).tr pn xe) W) (hr : Room (k + 1) (X.A.deeper (envOfC qg sg s.heap.objs.size g cdg)))
    (hbody : ∀ (A : Around) (outer : List Env) (s : Shared) (H : Hp) (E : XK), Room k (A.deeper (lamEnv X scope s.heap.objs.size f c')) → PE (lamCx X A outer s H E scope f c') body (tb E))
    (hN : Ng[i]? = some a) (hv : Vis sg a) (hd : (a == ("__debug__" : Str)) = false := by decide) (hcd : (a == ("__classdict__" : Str)) = false := by decide) :
    PE ((cxOf CXg X.prog X.w X.K X.mg X.base Ng qg sg g cdg X.A X.stack s H Eg).tr pn xe) (.Call (.Name a p1) [] [] p2)
      (fun σZ HZ Q => σZ[i]? = some (some (.ref f)) ∧ HZ c' = some (CodeO c' (X.env.qual ++ "<lambda>")) ∧ tb (fun cls d H' => W cls d σZ H') σ HZ Q) := by
  refine ⟨fun pinsZ sZ σZ HZ Q IZ ⟨hs, hc, ht⟩ => ?_⟩
  have name := (pe_var (pos := p1) (i := i) hN hv hd hcd).run pinsZ sZ σZ HZ (fun v H1 => v = .ref f ∧ H1 = HZ) IZ ⟨.ref f, hs, rfl, rfl⟩
  refine wpAny_Call_Name_kw (thn name fun u s1 ⟨v, H1, I1, r1, ev, eH⟩ => ?_)
  subst ev eH
  obtain rfl : u = Value.ref f := r1
  have there := I1.base.keep f _ hf hfn hfr (fun z => nomatch (show f ∈ ([] : List Addr) from z))
  have un : Un (frs X.stack) [] H H1 s.heap s1.heap := I1.base
  obtain ⟨⟨oc, vs, t, hoc, hdc, hvc⟩, _, _⟩ := I1.hok c' _ hc
  refine PySem.W.callWith_F0 ⟨_, _, _, _, there⟩ (wpAny_call (codeAny_mono (R := CR (L2.CX X.prog X.w) (envOfC qg sg s.heap.objs.size g cdg :: X.stack) X.prog X.w H1 s1 Q (fun cls d H' => W cls d σZ H')) ?_ fun r s' hq => ?_))
  · show codeAny (model X.prog X.w) (X.A.deeper (envOfC qg sg s.heap.objs.size g cdg)) (.call (.ref f) ⟨[], []⟩) _ s1
    refine PySem.W.kla_callFunE hr.depth there rfl L.co L.gen rfl ⟨c', oc, vs, t, rfl, hoc, hdc, hvc⟩ ?_
    rw [hbind]
    refine wpAny_pure (wpAny_newFunctionEnv (fun y hy => (L.own y hy).2) (fun y hy => absurd hy (by simp)) (fun h₁ hns hsb => ⟨I1.nolimit.fresh _ hsb, ?_⟩) L.kind)
    have old : ∀ b o, s1.heap.get? b = some o → h₁.get? b = some o := fun b o e => hsb.extBut b o (Nat.ne_of_lt (Heap.lt_size e)) (Heap.get?_push_of_some _ e)
    have J := lam_start2 (f := f) (c' := c') (E := fun cls d H' => W cls d σZ H') (tk := s1.toks + ([] : List (Str × Value)).length) (A := X.A.deeper (envOfC qg sg s.heap.objs.size g cdg)) (outer := envOfC qg sg s.heap.objs.size g cdg :: X.stack) I L I1.env0 hr.hd un hns old
    refine PySem.W.kla_codeExpr (wpAny_mono ((hbody _ _ s1 H1 _ (hr.deeper _)).run [] _ _ H1 Q J ht) (fun v s' ⟨w', H', J', rv, q⟩ => ?_) fun e s' hq => hq)
    exact ⟨w', H', J'.os, J'.bare, J'.base, J'.hok, rv, q⟩
  · cases r with
    | error e => exact tk e s' (XE.of_call I1 (fun cls d H' h => h) hq)
    | ok fl =>
      cases fl with
      | ret u => exact I1.after hq
      | next => exact False.elim hq
      | brk => exact False.elim hq
      | cont => exact False.elim hq
end
/-- what the def that got the lambda makes of it: tl is the lambda's reading, the wish for what it raises first -/
def Gives (X : Cx) (Ng : List Str) (x : Str) (st : Stmt) (g : Addr) (a q : Str) (TT : (XK → Hp → VK → Prop) → Hp → VK → Prop) : Prop :=
  ∀ (cdg : Value) (f c' : Addr) (s : Shared) (H : Hp) (Q : VK) (tl : XK → Hp → VK → Prop),
    (∀ (W : WX) (pn : List (Addr × Obj)) (xe : Value → Shared → Prop) (p1 p2 : Pos), Takes ((cxOf CX0 X.prog X.w X.K X.mg X.base Ng x (defScope st) g cdg X.A X.stack s H E0).tr pn xe) W →
      PE ((cxOf CX0 X.prog X.w X.K X.mg X.base Ng x (defScope st) g cdg X.A X.stack s H E0).tr pn xe) (.Call (.Name a p1) [] [] p2)
        (fun σZ HZ Q => σZ[0]? = some (some (.ref f)) ∧ HZ c' = some (CodeO c' q) ∧ tl (fun cls d H' => W cls d σZ H') HZ Q)) →
    H c' = some (CodeO c' q) → TT tl H Q →
    ∃ t, PSs (cxOf CX0 X.prog X.w X.K X.mg X.base Ng x (defScope st) g cdg X.A X.stack s H E0).nox (defBody st) t ∧ t { nx := fun _ H' => Q .non H', rt := Q } (L2.start Ng [.ref f]) H
section
variable {X : Cx}
/-- x(lambda: body) -/
theorem pe_lam {T : List (Addr × Str)} {TT : (XK → Hp → VK → Prop) → Hp → VK → Prop} {x a : Str} {st : Stmt} {g c P : Addr} {k : Nat} {fd : FuncData} {Ng : List Str} {params : Arguments} {body : Expr} {scope : Scope} {t : XK → TE} {p lpos pos : Pos}
    (F : Fun X.K x x st g fd) (hb : L2.Binds X.K fd [a] []) (Sg : FnScope Ng [a] (defScope st)) (hva : Vis (defScope st) a) (hNg : Ng[0]? = some a) (hg : Gl X x) (hm : X.mg x = some (.ref g))
    (hG : Gives X Ng x st g a (X.env.qual ++ "<lambda>") TT) (TB : TabB X.base X.mg c P) (hcode : X.env.code = .ref c) (hmT : (P, X.env.qual ++ "<lambda>") ∈ T) (hu : ∀ p ∈ T, p.1 = P → p.2 = X.env.qual ++ "<lambda>")
    (hr : Room (k + 2) X.A) (L : LamS X.env.scope scope) (hdef : defaultsOf params X.env = ([], []))
    (hbind : ∀ (q : Str) (cl : List (Str × Addr)) (pm cv ctv : Value), bindArgs (PySem.W.kla_fn "<lambda>" q params body scope cl pm cv ctv) ⟨[], []⟩ = pure [])
    (hbody : ∀ (A : Around) (outer : List Env) (s : Shared) (H : Hp) (E : XK) (f c' : Addr), Room k (A.deeper (lamEnv X scope s.heap.objs.size f c')) → PE (lamCx X A outer s H E scope f c') body (t E))
    (hdb : (x == ("__debug__" : Str)) = false := by decide) (hd : (a == ("__debug__" : Str)) = false := by decide) (hcd : (a == ("__classdict__" : Str)) = false := by decide) :
    PE X (.Call (.Name x p) [.Lambda params body scope lpos] [] pos) (tLam T TT t) := by
  refine ⟨fun pins s σ H Q I ⟨hT, h⟩ => ?_⟩
  obtain ⟨oc, od, kV, doc, pm, an, cdv, ct, osl, rfl, lk, hcg⟩ := F.ex
  refine wpAny_Call_Name_kw (ld_glob I hg hm (PySem.W.callWith_K (h₀ := X.base) I.ok.mod.kin F.kp ?_ (by rfl) (by rfl)) hdb)
  refine Calls.spliced_cons (lam_make2 I TB hcode hmT hu hT hdef (L.has I.ok) fun f c' pm' ctv H1 s' I1 eN T1 hf hfn hfr hco => Calls.spliced_nil ⟨I1.kIn, ?_⟩)
  refine wpAny_call (codeAny_mono (R := CR CX0 X.stack X.prog X.w H1 s' Q E0) ?_ fun r s2 hq => ?_)
  · refine run_ofS (N := Ng) (ps := [a]) (us := [.ref f]) (vs := [.ref f]) lk hcg Sg hr I1.env0 (hb s' [.ref f] I1.kIn rfl) (.cons rfl .nil) rfl fun hr' => ?_
    obtain ⟨t', h1, h2⟩ := hG cdv f c' s' H1 Q (fun E H' Q' => t E σ H' Q') (fun W pn xe p1 p2 tk =>
      pe_actS (i := 0) I1 L hf hfn hfr (hbind _ _ _ _ _) tk hr' (fun A outer s H E hr2 => hbody A outer s H E f c' hr2) hNg hva hd hcd) hco (h H1 eN T1)
    exact ⟨t', h1.nox, h2⟩
  · cases r with
    | error e => exact (show False from hq).elim
    | ok fl =>
      cases fl with
      | ret u => exact I1.after hq
      | next => exact False.elim hq
      | brk => exact False.elim hq
      | cont => exact False.elim hq
/-- within a lambda: what a callee raises leaves the lambda -/
theorem passLam {A : Around} {outer : List Env} {s : Shared} {H : Hp} {E : XK} {scope : Scope} {f c' : Addr} : Passes (L2.CX X.prog X.w) (lamCx X A outer s H E scope f c') E :=
  passes_call (X := lamCx X A outer s H E scope f c') (W := fun cls d _ H => E cls d H) (takes_of rfl rfl rfl rfl) fun _ _ _ _ h => h
end
end Pk

/-! ## The end of a law that makes lambdas: the makers' tables are told, empty at first -/
namespace Pk
open PySem PySem.Spec PyProof.Rows L2 LamX
/-- the makers: code objects and their tables, in the heap in front of the law's call -/
structure Makers (K : PySem.W.Frag) (h : Heap) (cs : List (Addr × Addr)) : Prop where
  empty : ∀ p ∈ cs, h.get? p.2 = some { cls := .none, data := .fields #[] }
  out : ∀ p ∈ cs, K.lookup p.2 = none
  code : ∀ p ∈ cs, PySem.W.CodeHd h p.1 p.2
def hasTab (cs : List (Addr × Addr)) (b : Addr) : Prop := ∃ p ∈ cs, p.2 = b
theorem Makers.at {K : PySem.W.Frag} {h : Heap} {cs : List (Addr × Addr)} (M : Makers K h cs) {b : Addr} (hb : hasTab cs b) : h.get? b = some { cls := .none, data := .fields #[] } ∧ K.lookup b = none := by
  obtain ⟨p, hp, rfl⟩ := hb
  exact ⟨M.empty p hp, M.out p hp⟩
instance (cs : List (Addr × Addr)) (b : Addr) : Decidable (hasTab cs b) := by unfold hasTab; infer_instance
/-- what is told at the entry: the tables, and the script if the text does not hold it -/
def entryH (cs : List (Addr × Addr)) (u : Option (Addr × HO)) : Hp := fun b => match u with
  | some (a, o) => if b = a then some o else if hasTab cs b then some (.tbl #[]) else none
  | none => if hasTab cs b then some (.tbl #[]) else none
theorem enterGT {P : Program} {w : World} {K : PySem.W.Frag} {mg mb : Str → Option Value} {k : Nat} {fa a : Addr} {cs : List (Addr × Addr)} {fd : FuncData} {x : Str} {sp : Sp} {s₁ : Shared} {vs : List Value} {ns : List Int}
    (KX : K.In s₁.heap) (hns : s₁.heap.Ns mainGlobals mg) (hb : s₁.heap.Ns builtinsNs mb) (hbb : ∀ x : Str, x ≠ "__name__" → mb x = bootBuiltins x)
    (hlim : s₁.heap.NoLimit) (hg : s₁.gens = #[]) (M : Makers K s₁.heap cs)
    (hbm : ∃ (m : Addr) (om : Obj), mg "__builtins__" = some (.ref m) ∧ m ≠ builtinsNs ∧ s₁.heap.get? m = some om ∧ om.cls = .type "module" ∧ om.dict = some builtinsNs ∧ om.data = .plain)
    (ha : s₁.heap.get? a = some { cls := .type "list", data := .seq vs.toArray })
    (hi : IntsAre vs ns) (hl : ns.length ≤ sizeLine) (hr : Room k callerA)
    (F : ∀ base : Heap, K.In base → base.Ns mainGlobals mg → (∀ p ∈ cs, TabB base mg p.1 p.2) → FnG P w K mg base k fa fd [x] sp)
    (hbind : ∀ (s : Shared) (u : Value), BindsTo s fd ⟨[u], []⟩ [(x, u)])
    (hsp : ∀ H : Hp, (∀ p ∈ cs, H p.2 = some (.tbl #[])) → Bare K H a (ns.map V.int) → sp [.ref a] H (fun v _ => v = .bl true) E0) :
    codeAny (model P w) callerA (.call (.ref fa) ⟨[.ref a], []⟩)
      (fun r s' => r = .ok (.ret (.bool true)) ∧ OldK s₁.heap s'.heap ∧ s'.os = s₁.os ∧ AllBare s'.gens) s₁ := by
  have rv := vals_ints hi
  have notab : ¬ hasTab cs a := fun z => by
    have q := (M.at z).1
    rw [ha] at q
    exact nomatch (show Data.seq vs.toArray _ = Data.fields #[] from congrArg Obj.data (Option.some.inj q))
  have core : ∀ H : Hp, (∀ p ∈ cs, H p.2 = some (.tbl #[])) → (∀ b u, H b = some u → (hasTab cs b ∧ u = .tbl #[]) ∨ (b = a ∧ K.lookup a = none ∧ ∃ ob xs, u = .frz ob (.lst xs))) → Bare K H a (ns.map V.int) → HOk P w H s₁.heap →
      codeAny (model P w) callerA (.call (.ref fa) ⟨[.ref a], []⟩)
        (fun r s' => r = .ok (.ret (.bool true)) ∧ OldK s₁.heap s'.heap ∧ s'.os = s₁.os ∧ AllBare s'.gens) s₁ := by
    intro H hH hO hS hok
    have un : ∀ {b : Addr} {o : Obj}, s₁.heap.get? b = some o → (∀ z n, o.data ≠ .seq z n) → o.data ≠ .fields #[] → H b = none := by
      intro b o e d1 d2
      cases q : H b with
      | none => rfl
      | some u =>
        rcases hO b u q with ⟨ht, _⟩ | ⟨rfl, _⟩
        · rw [(M.at ht).1] at e
          cases e
          exact absurd rfl d2
        · rw [ha] at e
          cases e
          exact absurd rfl (d1 _ _)
    have unD : ∀ {b : Addr} {o : Obj} {es : Array DictEntry} {ep : Nat}, s₁.heap.get? b = some o → o.data = .dict es ep → H b = none := fun e d => un e (fun z n y => by rw [d] at y; cases y) (fun y => by rw [d] at y; cases y)
    have nsB : ∀ {b : Addr} {m : Str → Option Value}, s₁.heap.Ns b m → (hidT s₁.heap H).Ns b m :=
      fun {b m} ⟨o, es, ep, e, d, r⟩ => ⟨o, es, ep, hidT_get e (unD e d), d, r⟩
    have inB : K.In (hidT s₁.heap H) := by
      intro b o e
      refine hidT_get (KX b o e) ?_
      cases q : H b with
      | none => rfl
      | some u =>
        rcases hO b u q with ⟨ht, _⟩ | ⟨rfl, hk, _⟩
        · rw [(M.at ht).2] at e
          cases e
        · rw [hk] at e
          cases e
    have md : Mod K mg (hidT s₁.heap H) := ⟨inB, nsB hns, ⟨mb, nsB hb, hbb⟩, let ⟨mc, h1, h2⟩ := hlim; ⟨mc, nsB h1, h2⟩⟩
    have TB : ∀ p ∈ cs, TabB (hidT s₁.heap H) mg p.1 p.2 := by
      intro p hp
      have tp := M.empty p hp
      refine ⟨?_, ?_, fun z => ?_⟩
      · obtain ⟨o, us, f1, f2, f3, f4, f5, f6, f7, e1, r1, r2, r3, r⟩ := M.code p hp
        refine ⟨o, us, f1, f2, f3, f4, f5, f6, f7, hidT_get e1 (un e1 (fun z n y => ?_) fun y => ?_), r1, r2, r3, r⟩
        · rw [r2] at y
          cases y
        · rw [r2] at y
          injection y with y
          rw [y] at r3
          simp at r3
      · obtain ⟨m, om, b1, b2, b3, b4, b5, b6⟩ := hbm
        refine ⟨m, om, b1, b2, fun z => ?_, fun z => ?_, hidT_get b3 (un b3 (fun z n y => by rw [b6] at y; cases y) fun y => by rw [b6] at y; cases y), b4, b5, b6⟩
        · obtain ⟨o, es, ep, e, d, _⟩ := hns
          rw [z, e] at b3
          rw [← Option.some.inj b3, d] at b6
          cases b6
        · rw [z, tp] at b3
          rw [← Option.some.inj b3] at b6
          cases b6
      · obtain ⟨o, es, ep, e, d, _⟩ := hns
        rw [z, tp] at e
        rw [← Option.some.inj e] at d
        cases d
    have e0 : Env0 P w K mg (hidT s₁.heap H) callerA [] s₁ H :=
      ⟨rfl, md, fun b o e => of_hidT e, Nat.le_of_eq (hidT_size _ _), trivial, fun b z => absurd (show b ∈ ([] : List Addr) from z) (by simp), hok, .of_eq hg⟩
    refine codeAny_mono ((F _ inB (nsB hns) TB).runG callerA [] s₁ H ⟨[.ref a], []⟩ [.ref a] [.ref a] _ rfl hr e0 (hbind s₁ (.ref a)) (.cons rfl .nil) (hsp H hH hS)) ?_
    rintro (e | fl) s' h
    · exact (show False from h).elim
    · cases fl with
      | next => exact (show False from h).elim
      | brk => exact (show False from h).elim
      | cont => exact (show False from h).elim
      | ret u =>
        obtain ⟨v, H', os, bare, uu, hok', r', q⟩ := h
        obtain rfl : v = .bl true := q
        obtain rfl : u = Value.bool true := r'
        have still : ∀ b o, ¬ hasTab cs b → s₁.heap.get? b = some o → s'.heap.get? b = some o := by
          intro b o nt e
          cases q : H b with
          | none => exact uu.keep b o e q (fun z => absurd (show b ∈ ([] : List Addr) from z) (by simp)) (by simp)
          | some u =>
            rcases hO b u q with ⟨ht, _⟩ | ⟨_, _, ob, xs, rfl⟩
            · exact absurd ht nt
            · obtain ⟨e1, _⟩ := hok b _ q
              obtain ⟨e2, _⟩ := hok' b _ (uu.frzs b ob _ q)
              rw [e] at e1
              cases e1
              exact e2
        have more : ∀ p ∈ cs, ∃ ps : Array Value, s'.heap.get? p.2 = some { cls := .none, data := .fields ps } := fun p hp =>
          let ⟨_, z⟩ := uu.tbls p.2 #[] (hH p hp)
          ⟨_, hok' p.2 _ z⟩
        refine ⟨rfl, ⟨fun b o e => ?_, fun b o e => ?_⟩, os, bare⟩
        · by_cases ht : hasTab cs b
          · obtain ⟨p, hp, rfl⟩ := ht
            obtain ⟨ps, hm⟩ := more p hp
            rw [M.empty p hp] at e
            obtain rfl := Option.some.inj e
            exact .inr (.inl ⟨((M.code p hp).tab (M.empty p hp)).isCodeTable, rfl, #[], ps, rfl, by simpa using hm⟩)
          · exact .inl (still b o ht e)
        · by_cases ht : hasTab cs b
          · obtain ⟨p, hp, rfl⟩ := ht
            obtain ⟨ps, hm⟩ := more p hp
            exact ⟨_, hm⟩
          · exact ⟨o, still b o ht e⟩
  cases hk : K.lookup a with
  | some o =>
    have e := KX a o hk
    rw [ha] at e
    cases e
    have h0 : ∀ b, entryH cs none b = if hasTab cs b then some (.tbl #[]) else none := fun b => rfl
    refine core (entryH cs none) (fun p hp => by rw [h0, if_pos ⟨p, hp, rfl⟩]) (fun b u z => ?_) (.inr ⟨vs, 0, hk, rv⟩) (fun b u z => ?_)
    · rw [h0] at z
      split at z
      · exact .inl ⟨by assumption, (Option.some.inj z).symm⟩
      · cases z
    · rw [h0] at z
      split at z
      · rename_i ht
        obtain rfl := Option.some.inj z
        exact (M.at ht).1
      · cases z
  | none =>
    let fo : HO := .frz { cls := .type "list", data := .seq vs.toArray } (.lst (ns.map V.int))
    have ea : entryH cs (some (a, fo)) a = some fo := if_pos rfl
    have ne : ∀ b, b ≠ a → entryH cs (some (a, fo)) b = if hasTab cs b then some (.tbl #[]) else none := fun b hb => if_neg hb
    refine core (entryH cs (some (a, fo))) (fun p hp => ?_) (fun b u z => ?_) (.inl ⟨vs, 0, ea⟩) (fun b u z => ?_)
    · rw [ne p.2 (fun z => notab ⟨p, hp, z⟩), if_pos ⟨p, hp, rfl⟩]
    · by_cases hba : b = a
      · subst hba
        rw [ea] at z
        exact .inr ⟨rfl, hk, _, _, (Option.some.inj z).symm⟩
      · rw [ne b hba] at z
        split at z
        · exact .inl ⟨by assumption, (Option.some.inj z).symm⟩
        · cases z
    · by_cases hba : b = a
      · subst hba
        rw [ea] at z
        obtain rfl := Option.some.inj z
        exact ⟨ha, by rw [List.length_map]; exact hl, vs, _, rv, ha⟩
      · rw [ne b hba] at z
        split at z
        · rename_i ht
          obtain rfl := Option.some.inj z
          exact (M.at ht).1
        · cases z
/-- what the last theorem takes -/
theorem walkGT {l : PySem.W.OpenLaw} {k : Nat} {q : Program} {loose : List Str} {XP : (Str → Option Value) → Heap → Prop} {YP : World → Heap → Prop} {d : DefRec} {K : Params → PySem.W.Frag} {sp : PySem.W.Frag → List (Addr × Addr) → Sp} {x : Str}
    (hn : l.most = some 63) (hdf : d.params.defaults = []) (hr : Room k callerA) (hY : ∀ (w : World) (h : Heap), YP w h → (K w.params).In h)
    (F : ∀ (w : World) (mg : Str → Option Value) (fa : Addr) (h : Heap), YP w h → (K w.params).In h → h.Ns mainGlobals mg → mg d.name = some (.ref fa) →
      ∃ (fd : FuncData) (cs : List (Addr × Addr)), Makers (K w.params) h cs ∧ (∀ (s : Shared) (u : Value), BindsTo s fd ⟨[u], []⟩ [(x, u)]) ∧
        ∀ base : Heap, (K w.params).In base → base.Ns mainGlobals mg → (∀ p ∈ cs, TabB base mg p.1 p.2) → FnG l.prog w (K w.params) mg base k fa fd [x] (sp (K w.params) cs))
    (hsp : ∀ (K : PySem.W.Frag) (cs : List (Addr × Addr)) (H : Hp) (a : Addr) (ns : List Int), ns.length ≤ 63 → (∀ p ∈ cs, H p.2 = some (.tbl #[])) → Bare K H a (ns.map V.int) → sp K cs [.ref a] H (fun v _ => v = .bl true) E0) :
    PySem.W.WalkO q loose XP YP l.row.toRowW d [] (fun f vs => PySem.call f vs) := by
  refine Att.attach_call hn hdf ?_
  intro w s₀ s₁ mg mb fa o pm cd doc a vs ns G Y ho hd hcd hmg hobj hints hlen hg
  have KX := hY w _ Y
  obtain ⟨fd, cs, M, hb, hF⟩ := F w mg fa _ Y KX G.T.g hmg
  exact enterGT KX G.T.g G.T.b G.T.builtins G.T.nolimit hg M G.T.bmain hobj hints (Nat.le_trans hlen (by decide)) hr hF hb (fun H hH hS => hsp (K w.params) cs H a ns hlen hH hS)
end Pk

/-! ## Own operators, truth and membership of dict instances -/
namespace Pk
open PySem PySem.Spec PyProof.Rows L2
open SlX (cmpback)
section
variable {X : Cx} {k n : Nat} {f C g : Addr} {fd : FuncData} {ps : List Str} {sp : Sp} {E : XK} {CX : CXT}
/-- x op y, both instances of the class at C, whose def for op is at g -/
theorem op_binD {op : Operator} (hc : PySem.W.selfFirst X.K C = true) (hs : PySem.W.findIn X.K (.ref C) (PySem.dunder op.info.2) = some (some (.ref g)))
    (hf : PySem.W.isFn X.K (.ref g) = true) (F : FnR X.prog X.w X.K X.mg X.base CX n g sp) (hr : Room n X.A) (hx : Passes CX X E) : OpR X (binaryOp op) (rOwnD C sp E) := by
  intro pins s σ H x y v u Q I rx ry h
  obtain ⟨a, dx, fs, b, dy, gs, rfl, rfl, ha, hb, q⟩ := h
  obtain rfl : v = Value.ref a := rx
  obtain rfl : u = Value.ref b := ry
  obtain ⟨mA, O, _⟩ := ins_get I.hok ha
  obtain ⟨od, J, _⟩ := O.look
  obtain ⟨mB, O', _⟩ := ins_get I.hok hb
  obtain ⟨od', J', _⟩ := O'.look
  obtain ⟨m, hF⟩ := I.fr
  refine PySem.W.binop_K (op := op) hF I.ok.mod.kin J J'.type hc hs hf (wpAny_mono (wpAny_call (run_fnR (us := [.ref a, .ref b]) (vs := [.ref a, .ref b]) F hr hx I (.cons rfl (.cons rfl .nil)) q)) ?_ (fun _ _ x => x))
  rintro w s' ⟨z', H', I', rz, qz⟩
  exact cmpback rz ⟨z', H', I', rz, qz⟩
/-- the answer of a def is a truth -/
def spB (sp : Sp) (x : List V) (E : XK) (Q : Bool → Hp → Prop) : Hp → Prop := fun H => sp x H (fun z H' => ∃ c, z = .bl c ∧ Q c H') E
/-- y in x, x an instance of the class at C -/
def rInD (C : Addr) (sp : Sp) (E : XK) : R2 := fun y x H Q => ∃ a dx fs, x = .ref a ∧ H a = some (.ins C dx fs) ∧ sp [x, y] H (fun z H' => ∃ c, z = .bl c ∧ Q (.bl c) H') E
theorem op_inD (hs : PySem.W.findIn X.K (.ref C) "__contains__" = some (some (.ref g))) (hf : PySem.W.isFn X.K (.ref g) = true) (F : FnR X.prog X.w X.K X.mg X.base CX n g sp) (hr : Room n X.A) (hx : Passes CX X E) :
    OpR X (compareOp .In) (rInD C sp E) := by
  intro pins s σ H y x u v Q I ry rx h
  obtain ⟨a, dx, fs, rfl, ha, q⟩ := h
  obtain rfl : v = Value.ref a := rx
  obtain ⟨mA, O, _⟩ := ins_get I.hok ha
  obtain ⟨od, J, _⟩ := O.look
  obtain ⟨m, hF⟩ := I.fr
  refine PySem.W.in_K hF I.ok.mod.kin J hs hf (wpAny_mono (wpAny_call (run_fnR (us := [.ref a, u]) (vs := [.ref a, y]) F hr hx I (.cons rfl (.cons ry .nil)) q)) ?_ (fun _ _ x => x))
  rintro w s' ⟨z', H', I', rz, c, rfl, qz⟩
  obtain rfl : w = Value.bool c := rz
  exact wpAny_truthy_bool ⟨.bl c, H', I', rfl, qz⟩
theorem truthy_D {pins : List (Addr × Obj)} {s : Shared} {σ : L2.St} {H : Hp} {a dx : Addr} {fs : List (Str × V)} {A : Around} {Q : Bool → Shared → Prop} {Q' : Bool → Hp → Prop}
    (hs : PySem.W.findIn X.K (.ref C) "__bool__" = some (some (.ref g))) (hf : PySem.W.isFn X.K (.ref g) = true) (F : FnR X.prog X.w X.K X.mg X.base CX n g sp) (hr : Room n A) (e0 : Env0 X.prog X.w X.K X.mg X.base A X.stack s H) (hx : Passes CX X E)
    (I : Inv X pins σ H s) (ha : H a = some (.ins C dx fs)) (q : spB sp [.ref a] E Q' H) (h : ∀ c s' H', Inv X pins σ H' s' → Q' c H' → Q c s') : wpAny (model X.prog X.w) A (truthy (.ref a)) Q X.xe s := by
  obtain ⟨mA, O, _⟩ := ins_get I.hok ha
  obtain ⟨od, J, _⟩ := O.look
  obtain ⟨m, hF⟩ := I.fr
  refine PySem.W.truthy_K hF I.ok.mod.kin J hs hf (wpAny_mono (wpAny_call (SlX.run_at (us := [.ref a]) (ws := [.ref a]) F hr e0 hx I (.cons rfl .nil) q)) ?_ (fun _ _ x => x))
  rintro w s' ⟨z', H', I', rz, c, rfl, qz⟩
  obtain rfl : w = Value.bool c := rz
  exact h c s' H' I' qz
/-- not e, e an instance with its own truth -/
def tNotD (C : Addr) (sp : Sp) (E : XK) (ta : TE) : TE := fun σ H Q => ta σ H fun x H1 => ∃ a dx fs, x = .ref a ∧ H1 a = some (.ins C dx fs) ∧ spB sp [.ref a] E (fun c H' => Q (.bl (!c)) H') H1
theorem pe_notD {e : Expr} {ta : TE} {pos : Pos} (he : PE X e ta) (hs : PySem.W.findIn X.K (.ref C) "__bool__" = some (some (.ref g))) (hf : PySem.W.isFn X.K (.ref g) = true) (F : FnR X.prog X.w X.K X.mg X.base CX n g sp) (hr : Room n X.A) (hx : Passes CX X E) :
    PE X (.UnaryOp .Not e pos) (tNotD C sp E ta) := by
  refine ⟨fun pins s σ H Q I h => ?_⟩
  refine UnaryOp_ (thn (he.run pins s σ H _ I h) fun v s1 ⟨x, H1, I1, r1, a, dx, fs, ex, ha, q⟩ => ?_)
  subst ex
  obtain rfl : v = Value.ref a := r1
  exact not_of (truthy_D hs hf F hr I1.env0 hx I1 ha q fun c s' H' I' q' => ⟨.bl (!c), H', I', rfl, q'⟩)
/-- bool(e) -/
def rBoolD (C : Addr) (sp : Sp) (E : XK) : List V → Hp → VK → Prop := fun xs H Q => ∃ a dx fs, xs = [.ref a] ∧ H a = some (.ins C dx fs) ∧ spB sp [.ref a] E (fun c H' => Q (.bl c) H') H
theorem call_boolD (hs : PySem.W.findIn X.K (.ref C) "__bool__" = some (some (.ref g))) (hf : PySem.W.isFn X.K (.ref g) = true) (G : FnR X.prog X.w X.K X.mg X.base CX n g sp) (hr : Room (n + 2) X.A) (hx : Passes CX X E) :
    CallR X (.type "bool") (rBoolD C sp E) := by
  intro pins s σ H xs us Q I r h
  obtain ⟨a, dx, fs, rfl, ha, q⟩ := h
  obtain ⟨u, rfl, ru⟩ := vals1 r
  obtain rfl : u = Value.ref a := ru
  have hr1 : Room (n + 1) X.A.in1 := Room.in1 hr
  have hr2 : Room n X.A.in1.in1 := hr1.in1
  refine callType_codes (T := "bool") (Bi := Builtin.«object.__init__») (Q₁ := fun v s₁ => ∃ c, v = .bool c ∧ EP X pins σ Q v s₁) F.called_bool (F.typeCall_bool_1 _) PySem.F.entry_object_init ?_ ?_
  · refine codeAny_of_tree ?_
    show wpAny _ X.A.in1.in1 (do checkBuiltinCall "bool.__new__" ⟨[.type "bool", .ref a], []⟩; again (.builtin "bool.__new__" ⟨[.type "bool", .ref a], []⟩)) _ _ s
    refine wpAny_bind (wpAny_of_eq (F.newCall_bool_1 _) (wpAny_pure ⟨plainId_quiet (by decide +kernel) _, codeAny_builtin F.entry_bool_new ?_⟩))
    rw [Around.under_plainId (by decide +kernel) _]
    obtain ⟨hp, gn, d, tk, os⟩ := s
    have f1 := F.conv_sub_bool
    have key : ∀ {Q₂ : Bool → Shared → Prop}, (∀ c s' , EP X pins σ Q (.bool c) s' → Q₂ c s') → wpAny (model X.prog X.w) X.A.in1.in1 (truthy (.ref a)) Q₂ X.xe ⟨hp, gn, d, tk, os⟩ := fun {Q₂} hQ =>
      truthy_D hs hf G hr2 I.env0.in1.in1 hx I ha q fun c s' H' I' q' => hQ c s' ⟨.bl c, H', I', rfl, q'⟩
    show wpAny _ _ (Builtin.«bool.__new__» ⟨[.type "bool", .ref a], []⟩) _ _ _
    wp_walk using key
    intro c s' hq
    exact wpAny_pure ⟨_, rfl, hq⟩
  · rintro obj s₁ ⟨c, rfl, hq⟩
    exact ⟨PySem.typeIs_bool _ _, F.args_object_init_2 _ _, object_init_meets F.called_bool.init.lookup F.called_bool.made (by decide) X.prog X.w X.A.in1 _ s₁ ⟨PySem.typeIs_bool _ _, rfl, hq⟩⟩
end
/-- what a for walks is told in one of two ways -/
theorem pi_or {X : Cx} {tg e : Expr} {t u : TI} (h : PI X tg e t) (g : PI X tg e u) : PI X tg e (fun σ H R => t σ H R ∨ u σ H R) := by
  constructor
  rintro pins s σ H R I (q | q)
  · exact h.run pins s σ H R I q
  · exact g.run pins s σ H R I q
open AutoSeq1 in
theorem extend_tup (l b : Addr) (xs ys : Array Value) (n m : Nat) (dd : Option Addr) (sl : Array (Option Value))
    (h0 : ¬ (!xs.isEmpty && Builtin.List.listTooLong (xs.size + ys.size)) = true) (h1 : xs.size ≤ sizeLine) (h2 : (xs ++ ys).size ≤ sizeLine + 1) :
    Meets (Builtin.«list.extend» ⟨[.ref l, .ref b], []⟩) (fun _ R s => s.heap.get? l = some ⟨.type "list", none, .seq xs n, #[]⟩ ∧
      s.heap.get? b = some ⟨.type "tuple", dd, .seq ys m, sl⟩ ∧ R (.ok (.ret Value.none)) ⟨s.heap.update l (Obj.mapSeq fun x => x ++ ys), s.gens, s.drawn, s.toks, s.os⟩) := by
  refine .of_wp ?_
  rintro prog w A R ⟨hp, g, d, tk, os⟩ ⟨hl, hb, h⟩
  have f1 := idx_int
  have f2 := PySem.AutoSeq1.sub_tuple_tuple
  have f3 := PySem.AutoSeq1.sub_list_list
  have f4 := PySem.AutoSeq1.sub_tuple_list
  have f5 := PySem.AutoSeq1.sub_list_tuple
  wp_walk using (wpAny_updateSeq hl rfl (hz := h1) (_hz' := h2)), wpAny_loadPart' hl, wpAny_loadPart' hb
  exact ⟨_, rfl, h⟩
/-- l.extend(t), t a tuple -/
def rExtendT (K : PySem.W.Frag) : V → List V → Hp → VK → Prop := fun x vs H Q => ∃ l b xs zs, x = .ref l ∧ vs = [.ref b] ∧ H l = some (.lst xs) ∧ SqT K H b zs ∧ xs.length + zs.length ≤ sizeLine ∧ Q .non (upd H l (.lst (xs ++ zs)))
theorem mt_extendT {X : Cx} : MtM X "list.extend" (rExtendT X.K) := by
  intro pins s σ H x vs v us Q I rx rv h
  obtain ⟨l, b, xs, zs, rfl, rfl, hH, hB, hz, q⟩ := h
  cases rx
  obtain ⟨u, rfl, ru⟩ := rv.one
  cases ru
  obtain ⟨z, its, n, r, hl, e⟩ := I.lstM hH
  obtain ⟨its2, r2, ⟨⟨cls2, dd2, data2, sl2⟩, e2, hc2, n2, hd2⟩, hz2⟩ := I.tuple hB
  simp only at hc2 hd2
  subst hc2 hd2
  have hl2 := r2.length
  have hsz : its.toArray.size + its2.toArray.size ≤ sizeLine := by rw [List.size_toArray, List.size_toArray]; omega
  have hlong : ¬ (!its.toArray.isEmpty && Builtin.List.listTooLong (its.toArray.size + its2.toArray.size)) = true := by
    rw [notLongL hsz, Bool.and_false]
    exact Bool.false_ne_true
  refine call_meets F.slot_list_extend ⟨_, e, rfl⟩ F.entry_list_extend (F.args_list_extend_2 _ _)
    (extend_tup l b its.toArray its2.toArray n n2 dd2 sl2 hlong (by rw [List.size_toArray]; omega) (by rw [Array.size_append]; omega)) ⟨e, e2, ?_⟩
  refine ⟨.non, _, I.lset (its' := its ++ its2) hH e (by simp) (r.append r2) ?_, rfl, q⟩
  rw [List.length_append]
  omega
/-- bool(t), t a tuple -/
theorem call_boolTup {X : Cx} : CallR X (.type "bool") (fun xs H Q => ∃ (a : Addr) (zs : List V), xs = [.ref a] ∧ SqT X.K H a zs ∧ Q (.bl (!zs.isEmpty)) H) := by
  intro pins s σ H xs us Q I r h
  obtain ⟨a, zs, rfl, hq, q⟩ := h
  obtain rfl := Vals.ref1 r
  obtain ⟨its, rv, pl, hz⟩ := I.tuple hq
  have hl := line63
  have hlen := rv.length
  refine callType_codes (T := "bool") (Bi := Builtin.«object.__init__») (Q₁ := fun v s₁ => ∃ c, v = .bool c ∧ EP X pins σ Q v s₁) F.called_bool (F.typeCall_bool_1 _) PySem.F.entry_object_init ?_ ?_
  · refine codeAny_of_tree ?_
    show wpAny _ X.A.in1.in1 (do checkBuiltinCall "bool.__new__" ⟨[.type "bool", .ref a], []⟩; again (.builtin "bool.__new__" ⟨[.type "bool", .ref a], []⟩)) _ _ s
    refine wpAny_bind (wpAny_of_eq (F.newCall_bool_1 _) (wpAny_pure ⟨plainId_quiet (by decide +kernel) _, codeAny_builtin F.entry_bool_new ?_⟩))
    rw [Around.under_plainId (by decide +kernel) _]
    obtain ⟨hp, gn, d, tk, os⟩ := s
    have f1 := F.conv_sub_bool
    have key : ∀ {Q₂ : Bool → Shared → Prop}, (∀ s', EP X pins σ Q (.bool (!zs.isEmpty)) s' → Q₂ (!zs.isEmpty) s') → wpAny (model X.prog X.w) X.A.in1.in1 (truthy (.ref a)) Q₂ X.xe ⟨hp, gn, d, tk, os⟩ := fun {Q₂} hQ =>
      truthy_tuple pl (by simp only [List.size_toArray]; omega) (by rw [isEmpty_of rv]; exact hQ _ ⟨.bl (!zs.isEmpty), H, I.tok _, rfl, q⟩)
    show wpAny _ _ (Builtin.«bool.__new__» ⟨[.type "bool", .ref a], []⟩) _ _ _
    wp_walk using key
    intro s' hq
    exact wpAny_pure ⟨_, rfl, hq⟩
  · rintro obj s₁ ⟨c, rfl, hq⟩
    exact ⟨PySem.typeIs_bool _ _, F.args_object_init_2 _ _, object_init_meets F.called_bool.init.lookup F.called_bool.made (by decide) X.prog X.w X.A.in1 _ s₁ ⟨PySem.typeIs_bool _ _, rfl, hq⟩⟩
end Pk

/-! ## Rules inside comprehensions, the table of classes named -/
namespace Pk
open PySem PySem.Spec PyProof.Rows L2
section
variable {X : Cx} {tg o e l : Expr} {to te tl : TE} {KK : PySem.W.Frag}
theorem pi_listK (hK : X.K = KK) (hl : PE X l tl) : PI X tg l (iList KK tl) := by
  subst hK
  exact pi_list hl
theorem pi_tupK (hK : X.K = KK) (hl : PE X l tl) : PI X tg l (iTup KK tl) := by
  subst hK
  exact pi_tup hl
theorem ix_listK (hK : X.K = KK) : IxR X (rIxL KK) := by
  subst hK
  exact ix_list
theorem ix_tupK (hK : X.K = KK) : IxR X (rIxT KK) := by
  subst hK
  exact ix_tup
theorem pe_joinK {apos pos : Pos} (hK : X.K = KK) (ho : PE X o to) (he : PE X e te) (hs : starEach [e] X.env = [(false, eval e X.env)] := by rfl) (hbase : attributeBase o "join" X.env (eval o X.env) = eval o X.env := by rfl) (hline : (apos.endLine == pos.line) = true := by rfl) :
    PE X (.Call (.Attribute o "join" apos) [e] [] pos) (tM1 (fun x xs H Q => ∃ a p, ∃ ys : List Str, x = .str a ∧ xs = [.ref p] ∧ (SqL KK H p (ys.map V.str) ∨ SqT KK H p (ys.map V.str)) ∧
      (ys.map (·.length)).sum + ys.length * a.length ≤ 16777216 ∧ Q (.str (Txt.join a ys)) H) to te) := by
  subst hK
  exact pe_join ho he hs hbase hline
end
end Pk

/-! ## == with any other object inside comprehensions, the table of classes named -/
namespace Pk
open PySem PySem.Spec PyProof.Rows L2
section
variable {X : Cx} {n : Nat} {C g : Addr} {sp : Sp} {E : XK} {CX : CXT} {KK : PySem.W.Frag}
theorem op_ownAK {op : CmpOp} (hK : X.K = KK) (hop : ∀ a b, compareOp op a b = richCompare op a b) (hs : PySem.W.findIn X.K (.ref C) (cmpInfo op).2.1 = some (some (.ref g)))
    (hf : PySem.W.isFn X.K (.ref g) = true) (F : FnR X.prog X.w X.K X.mg X.base CX n g sp) (hr : Room n X.A) (hx : Passes CX X E) : OpR X (compareOp op) (rOwnA KK C sp E) := by
  subst hK
  exact op_ownA hop hs hf F hr hx
end
/-- an instance of one own class is none of another -/
theorem kit_own {K : PySem.W.Frag} {B C : Addr} (cl : Cls K C) (rd : ClX.CRead K C (.type "type")) (hs : PySem.W.subIn K (.ref B) (.ref C) = some false) (hse : PySem.W.subIn K (.ref C) (.ref C) = some true) : PySem.W.kitOne K (.ref B) (.ref C) = some false := by
  have h1 : (PySem.W.clsIn K C).isSome = true := by
    have h := cl.hd
    unfold PySem.W.hasDictIn at h
    cases e : PySem.W.clsIn K C with
    | none =>
      rw [e] at h
      cases h
    | some c => rfl
  have h2 : PySem.W.typeIn K (.ref C) = some (.type "type") := by
    have h := rd.rd
    simp only [PySem.W.readsIn, Bool.and_eq_true, beq_iff_eq] at h
    exact h.1.1.1.2
  have ne : B ≠ C := by
    rintro rfl
    rw [hse] at hs
    cases hs
  unfold PySem.W.kitOne
  rw [if_neg (by simp [ne])]
  show (if ((PySem.W.clsIn K C).isSome && PySem.W.typeIn K (.ref C) == some (.type "type")) = true then PySem.W.subIn K (.ref B) (.ref C) else none) = some false
  rw [if_pos (by rw [h1, h2]; rfl)]
  exact hs
end Pk

/-! ## More rules inside comprehensions, the table of classes named -/
namespace Pk
open PySem PySem.Spec PyProof.Rows L2
section
variable {X : Cx} {KK : PySem.W.Frag}
theorem call_isiN (hK : X.K = KK) : CallR X (.builtin "isinstance") (rIsi KK) := by
  subst hK
  exact call_isi
theorem op_in_seqN (hK : X.K = KK) : OpR X (compareOp .In) (rIn KK false) := by
  subst hK
  exact op_in_seq
theorem op_notIn_seqN (hK : X.K = KK) : OpR X (compareOp .NotIn) (rIn KK true) := by
  subst hK
  exact op_notIn_seq
theorem call_len_seqN (hK : X.K = KK) : CallR X (.builtin "len") (fun xs H Q => ∃ p ys, xs = [.ref p] ∧ (SqL KK H p ys ∨ SqT KK H p ys) ∧ Q (.int ys.length) H) := by
  subst hK
  exact call_len_seq
end
end Pk

/-! ## != of lists whose items have an own ==; != of an instance and anything; C(e, ..) in a try -/
namespace Pk
open PySem PySem.Spec PyProof.Rows L2 PySem.SeqAt
open AutoSeq1 (wpAny_loadPart')
open MeetsSeq MeetsSeq2 MeetsSeq3
section
variable {prog : Program} {w : World} {A : Around} {R : Result → Shared → Prop}
theorem nl_turns (la lb : Addr) (many : Nat) (J : Nat → Shared → Prop) (each : GQ.ListI prog w A (fun e s' => R (.error e) s') la lb many J) (done : ∀ z, J many z → R (.ok (.ret (.bool false))) z) :
    ∀ (left i : Nat), many - i = left → i ≤ many → ∀ z, J i z →
      wpAny (model prog w) A.in1 (Builtin.«list.__eq__.loop» ⟨[.ref la, .ref lb, rawInt i, rawInt 3], []⟩) (GQ.FinOf prog w A R) (fun e s' => R (.error e) s') z
  | 0, i, hk, hi, z, hJ => by
    obtain ⟨xs, ys, c1, c2, ga, gb, n1, n2, _⟩ := each _ _ hJ
    have same : i = many := by omega
    have good : R (.ok (.ret (.bool false))) z := done z (same ▸ hJ)
    obtain ⟨hp, g, d, tk, os⟩ := z
    wp_walk using wpAny_loadPart' ga, wpAny_loadPart' gb
    rw [show xs[((i : Nat) : Int).toNat]? = none from by simp; omega, show ys[((i : Nat) : Int).toNat]? = none from by simp; omega]
    wp_walk using wpAny_loadPart' ga, wpAny_loadPart' gb
    show R (.ok (.ret (.bool (xs.size != ys.size)))) _
    rw [n1, n2]
    simpa using good
  | left + 1, i, hk, hi, z, hJ => by
    obtain ⟨xs, ys, c1, c2, ga, gb, n1, n2, one⟩ := each _ _ hJ
    have k1 : i < xs.size := by omega
    have k2 : i < ys.size := by omega
    have one' := one k1 k2
    obtain ⟨hp, g, d, tk, os⟩ := z
    wp_walk using wpAny_loadPart' ga, wpAny_loadPart' gb
    rw [show xs[((i : Nat) : Int).toNat]? = some xs[i] from by simp [k1], show ys[((i : Nat) : Int).toNat]? = some ys[i] from by simp [k2]]
    refine wpAny_bind (wpAny_mono one' (fun yes z2 q2 => ?_) fun _ _ bad => bad)
    obtain ⟨rfl, q2⟩ := q2
    have more := nl_turns la lb many J each done left (i + 1) (by omega) (by omega) z2 q2
    obtain ⟨hp2, g2, d2, tk2, os2⟩ := z2
    wp_walk
    rw [show ((i : Int) + 1) = ((i + 1 : Nat) : Int) from by omega]
    exact ⟨plainId_quiet plain_eq_loop _, codeAny_builtin entry_eq_loop (by
      rw [Around.under_plainId plain_eq_loop _]
      exact more)⟩
theorem nl_all (la lb : Addr) (many : Nat) (J : Nat → Shared → Prop) (each : GQ.ListI prog w A (fun e s' => R (.error e) s') la lb many J) (done : ∀ z, J many z → R (.ok (.ret (.bool false))) z) {z : Shared} (h0 : J 0 z) :
    wpAny (model prog w) A.in1 (Builtin.«list.__ne__» ⟨[.ref la, .ref lb], []⟩) (GQ.FinOf prog w A R) (fun e s' => R (.error e) s') z := by
  obtain ⟨xs, ys, c1, c2, ga, gb, n1, n2, _⟩ := each _ _ h0
  have from0 := nl_turns (A := A) (R := R) la lb many J each done _ 0 rfl (Nat.zero_le _) z h0
  obtain ⟨hp, g, d, tk, os⟩ := z
  have isl := AutoSeq1.sub_list_list
  have alike : ¬ (xs.size != ys.size) = true := by simp [n1, n2]
  wp_walk using wpAny_loadPart' ga, wpAny_loadPart' gb
  exact ⟨plainId_quiet plain_eq_loop _, codeAny_builtin entry_eq_loop (by
    rw [Around.under_plainId plain_eq_loop _]
    exact from0)⟩
theorem rc_listNe {la lb : Addr} {many : Nat} {Q E : Value → Shared → Prop} {z : Shared} (hu : A.units < cLine) (J : Nat → Shared → Prop) (each : GQ.ListI prog w A E la lb many J) (done : ∀ z, J many z → Q (.bool false) z) (h0 : J 0 z) :
    wpAny (model prog w) A (richCompare .NotEq (.ref la) (.ref lb)) Q E z := by
  obtain ⟨xs, ys, c1, c2, ga, gb, _, _, _⟩ := each _ _ h0
  refine wpAny_richCompare_same_room (op := .NotEq) ⟨_, ga, rfl⟩ ⟨_, gb, rfl⟩ F.slot_list_ne (GQ.call_here F.slot_list_ne ⟨_, ga, rfl⟩ F.entry_list_ne (F.args_list_ne_2 _ _) ?_) hu
  exact nl_all (R := wants (fun v s' => v ≠ .notImplemented ∧ Q v s') E) la lb many J each (fun s' q => ⟨(fun x => nomatch x), done s' q⟩) h0
end
section
variable {X : Cx} {n : Nat} {D : Eqv}
/-- xs != ys, two lists whose items are equal one by one -/
def rNeG (D : Eqv) : R2 := fun x y H Q => DList D x y H ∧ ∀ H', Ext H H' → Q (.bl false) H'
theorem op_neG (hD : Mon D) (h : EqG X n D) (hr : Room (n + 1) X.A) : OpR X (compareOp .NotEq) (rNeG D) := by
  intro pins s σ H x y v u Q I rx ry hq
  obtain ⟨⟨a, b, xs, ys, rfl, rfl, ha, hb, p⟩, q⟩ := hq
  cases rx
  cases ry
  show wpAny (model X.prog X.w) X.A (richCompare .NotEq (.ref a) (.ref b)) (EP X pins σ Q) X.xe s
  refine rc_listNe (many := xs.length) hr.units0 (fun _ s' => LoopI X pins σ H s') (fun i s' L => ?_) (fun s' L => ?_) ⟨H, I, Ext.rfl'⟩
  · obtain ⟨H1, I1, e1⟩ := id L
    obtain ⟨z1, its, k1, r1, g1⟩ := I1.hok a _ (e1 _ _ ha)
    obtain ⟨z2, its2, k2, r2, g2⟩ := I1.hok b _ (e1 _ _ hb)
    exact ⟨its.toArray, its2.toArray, k1, k2, g1, g2, by rw [List.size_toArray, ← r1.length], by rw [List.size_toArray, ← r2.length, ← p.1], fun h1 h2 => turnG hD h ⟨hr, rfl⟩ p r1 r2 i h1 h2 s' L⟩
  · obtain ⟨H1, I1, e1⟩ := L
    exact ⟨.bl false, H1, I1, rfl, q H1 e1⟩
end
section
variable {M : Model} {prog : Program} {w : World} {A : Around} {E : Value → Shared → Prop} {s : Shared} {K : PySem.W.Frag} {x C g : Addr} {ox : Obj} {od : Option Obj} {b tb : Value}
theorem cmp_neA {Q : Value → Shared → Prop} (hu : A.units < cLine) (hu1 : A.in1.units < cLine) (X : K.In s.heap) (I : PySem.W.InstAt s.heap x ox C od) (hb : PySem.W.Looks (model prog w) s.heap (typeOf b) tb) (hnf : PySem.W.notFirst K C tb = true)
    (hn : PySem.W.findIn K (.ref C) "__ne__" = some (some (.builtin "object.__ne__"))) (hm : PySem.W.mroIn K C (.type "object") = some true)
    (hs : PySem.W.findIn K (.ref C) "__eq__" = some (some (.ref g))) (hf : PySem.W.isFn K (.ref g) = true)
    (h : wpAny (model prog w) A.in1 (call (.ref g) [.ref x, b]) (fun v s' => ∃ c, v = .bool c ∧ Q (.bool (!c)) s') E s) : wpAny (model prog w) A (richCompare .NotEq (.ref x) b) Q E s := by
  have mine : wpAny (model prog w) A (tryCompare (.ref x) "__ne__" b) (fun r s' => ∃ v, r = some v ∧ Q v s') E s := by
    unfold tryCompare
    refine wpAny_bind (ifBound_objNe X I hn (call_objNe hu1 X I hm hs hf (wpAny_mono h (fun v s' hv => ?_) fun _ _ e => e)))
    obtain ⟨c, rfl, hq⟩ := hv
    exact ⟨c, rfl, wpAny_pure ⟨_, rfl, hq⟩⟩
  unfold richCompare
  simp only [oneThing_ref]
  refine wpAny_holding (wpAny_bind (wpAny_cRoomFor hu ?_))
  rw [cmpInfo_NotEq]
  refine wpAny_bind (I.type.here (wpAny_bind (hb.here ?_)))
  split
  · rename_i away
    have no : PySem.W.subIn K tb (.ref C) = some false := by
      rcases Bool.or_eq_true_iff.mp hnf with same | no
      · rw [beq_iff_eq.mp same] at away
        simp at away
      · exact beq_iff_eq.mp no
    refine wpAny_bind ((PySem.W.looks_subIn X no).here ?_)
    simp only [Bool.false_eq_true, if_false]
    refine wpAny_bind (wpAny_mono mine (fun r s' got => ?_) fun _ _ e => e)
    obtain ⟨v, rfl, hq⟩ := got
    exact wpAny_pure hq
  · refine wpAny_bind (wpAny_pure ?_)
    simp only [Bool.false_eq_true, if_false]
    refine wpAny_bind (wpAny_mono mine (fun r s' got => ?_) fun _ _ e => e)
    obtain ⟨v, rfl, hq⟩ := got
    exact wpAny_pure hq
end
section
variable {X : Cx} {n : Nat} {C g : Addr} {sp : Sp} {E : XK} {CX : CXT}
/-- x != y, x an instance of the class at C, whose == is at g, y anything that does not come first -/
def rNeOwnA (K : PySem.W.Frag) (C : Addr) (sp : Sp) (E : XK) : R2 := fun x y H Q => ∃ a dx fs t, x = .ref a ∧ H a = some (.ins C dx fs) ∧ TyX K H y t ∧ PySem.W.notFirst K C t = true ∧ sp [x, y] H (fun z H' => ∃ c, z = .bl c ∧ Q (.bl (!c)) H') E
theorem op_neOwnA {KK : PySem.W.Frag} (hK : X.K = KK) (hn : PySem.W.findIn X.K (.ref C) "__ne__" = some (some (.builtin "object.__ne__"))) (hm : PySem.W.mroIn X.K C (.type "object") = some true) (hs : PySem.W.findIn X.K (.ref C) "__eq__" = some (some (.ref g)))
    (hf : PySem.W.isFn X.K (.ref g) = true) (F : FnR X.prog X.w X.K X.mg X.base CX n g sp) (hr : Room (n + 1) X.A) (hx : Passes CX X E) : OpR X (compareOp .NotEq) (rNeOwnA KK C sp E) := by
  subst hK
  intro pins s σ H x y v u Q I rx ry h
  obtain ⟨a, dx, fs, t, rfl, ha, ty, hnf, q⟩ := h
  obtain rfl : v = Value.ref a := rx
  obtain ⟨mA, O, _⟩ := ins_get I.hok ha
  obtain ⟨od, J, _⟩ := O.look
  obtain ⟨P, Z, p, _⟩ := kit_of I ry ty
  have hr1 : Room n X.A.in1 := Room.in1 hr
  refine cmp_neA hr.units0 hr1.units0 I.kIn J (Z.ty _ _ I.kIn p) hnf hn hm hs hf (wpAny_mono (wpAny_call (SlX.run_at (us := [.ref a, u]) (ws := [.ref a, y]) F hr1 I.env0.in1 hx I (.cons rfl (.cons ry .nil)) q)) ?_ (fun _ _ x => x))
  rintro w s' ⟨z', H', I', rz, c, rfl, qz⟩
  obtain rfl : w = Value.bool c := rz
  exact ⟨c, rfl, .bl (!c), H', I', rfl, qz⟩
end
section
variable {X : Cx}
/-- x != y of two lists, or two tuples, of the very same things -/
def rNeSmT (K : PySem.W.Frag) : R2 := fun x y H Q => ∃ a b xs, x = .ref a ∧ y = .ref b ∧ SqT K H a xs ∧ SqT K H b xs ∧ (∀ v ∈ xs, flatB v = true ∨ ∃ p, v = .ref p) ∧ Q (.bl false) H
theorem op_neSmT (hu : X.A.units + 64 < cLine) : OpR X (compareOp .NotEq) (rNeSmT X.K) := by
  intro pins s σ H x y v u Q I rx ry h
  obtain ⟨a, b, xs, rfl, rfl, ha, hb, hp, q⟩ := h
  cases (show v = Value.ref a from rx)
  cases (show u = Value.ref b from ry)
  obtain ⟨us, r1, p1, _⟩ := I.tuple ha
  obtain ⟨ws, r2, p2, _⟩ := I.tuple hb
  have hsz : us.toArray.size = ws.toArray.size := by
    rw [List.size_toArray, List.size_toArray, ← r1.length, ← r2.length]
  refine SeqAt.RcNeAt.tuples (e := fun _ => true) p1 p2 (by omega) (fun j h1 h2 => ?_) X.prog X.w _ _ ?_
  · have k := sm_run (A := X.A.in1) (s := s) hp r1 r2 j (by simpa using h1) (by simpa using h2)
    simpa using k
  · rw [show ((List.range (min us.toArray.size ws.toArray.size)).all fun _ => true) = true from List.all_eq_true.mpr fun _ _ => rfl, hsz]
    simp only [BEq.rfl, Bool.and_self, Bool.not_true]
    exact ⟨.bl false, H, I, rfl, q⟩
end
section
variable {X : Cx} {k : Nat} {CX : CXT} {sp : Sp}
/-- C(e, ..) where an exception may leave to a clause here -/
def tMakeS (C : Addr) (dvs : List V) (sp : Sp) (E : L2.St → XK) (t : TA) : TE := fun σ H Q => t σ H fun vs H2 => ∀ x dx, H2 x = none → H2 dx = none → dx ≠ x →
  sp (.ref x :: (vs ++ dvs)) (upd (upd H2 dx (.own x)) x (.ins C dx [])) (fun v H3 => v = .non ∧ Q (.ref x) H3) (E σ)
theorem pe_makeS {C f : Addr} {fd : FuncData} {ps : List Str} {dvs : List V} {ds : List Value} {E : L2.St → XK} {x : Str} {p pos : Pos} {e : Expr} {es : List Expr} {t : TA}
    (M : Mk X.K C f) (F : FnOk X.prog X.w X.K X.mg X.base CX k f fd ps sp) (hr : Room (k + 1) X.A) (hg : Gl X x) (hm : X.mg x = some (.ref C)) (hb : Binds X.K fd ps ds) (hd : Vals dvs ds) (hx : ∀ σ, PassesAt CX X σ (E σ)) (ha : PA X (e :: es) t)
    (hdb : (x == ("__debug__" : Str)) = false := by decide) (he : starEach (e :: es) X.env = (false, eval e X.env) :: starEach es X.env := by rfl) (hpl : (backTo pos (starEach es X.env)).any (·.1) = false := by rfl) :
    PE X (.Call (.Name x p) (e :: es) [] pos) (tMakeS C dvs sp E t) := by
  refine ⟨fun pins s σ H Q I h => ?_⟩
  refine wpAny_Call_Name_kw (ld_glob I hg hm ?_ hdb)
  refine PySem.W.callWith_K (h₀ := X.base) I.ok.mod.kin M.kp (thn (ha.run pos pins s σ H _ I h) fun us s1 ⟨vs, H1, I1, r, q⟩ => ⟨I1.kIn, ?_⟩) he hpl
  have hq := q (s1.heap.objs.size + 1) s1.heap.objs.size (I1.hok.fresh (Nat.le_succ _)) (I1.hok.fresh (Nat.le_refl _)) (Nat.ne_of_lt (Nat.lt_succ_self _))
  have I3 := Inv.made (C := C) I1
  have r2 : Vals (V.ref (s1.heap.objs.size + 1) :: (vs ++ dvs)) (Value.ref (s1.heap.objs.size + 1) :: (us ++ ds)) := .cons rfl (r.append hd)
  have hl : (Value.ref (s1.heap.objs.size + 1) :: us ++ ds).length = ps.length := by
    have e := r2.length
    rw [F.len _ _ _ _ hq] at e
    exact e.symm
  refine wpAny_call (make_map (f := f) I1.kIn M.makes M.init (beq_iff_eq.mp M.fn) (codeAny_mono (F.run _ X.stack _ _ ⟨Value.ref (s1.heap.objs.size + 1) :: us, []⟩ (Value.ref (s1.heap.objs.size + 1) :: (us ++ ds)) _ _ (E σ) (hr.make C us [])
    (I3.env0.make C us []) (hb _ (Value.ref (s1.heap.objs.size + 1) :: us) I3.kIn hl) r2 hq) fun r s' hq' => ?_))
  cases r with
  | error e => exact hx σ pins _ _ e s' I3 hq'
  | ok fl =>
    cases fl with
    | ret u =>
      obtain ⟨v, H', I4, rv, ev, q3⟩ := I3.after hq'
      subst ev
      exact ⟨rv, ⟨V.ref (s1.heap.objs.size + 1), H', I4, rfl, q3⟩⟩
    | next => exact False.elim hq'
    | brk => exact False.elim hq'
    | cont => exact False.elim hq'
end
end Pk

/-! ## Dicts of the top with texts as keys; an own minus -/
namespace Pk
open PySem PySem.Spec PyProof.Rows L2
/-- the dict at a of the top, never changed: its texts and what stands at them -/
def CDic (K : PySem.W.Frag) (P : Params) (a : Addr) (kvs : List (Str × V)) : Prop :=
  ∃ es n, K.lookup a = some ⟨.type "dict", none, .dict es n, #[]⟩ ∧ PySem.W.KeysLit P es.toList ∧ (a == sysModules) = false ∧ ∀ x, Option.Rel RelV (kvs.lookup x) (findBy Value.isStrOf es x)
theorem cdic_ints {K : PySem.W.Frag} {P : Params} {a : Addr} {n : Nat} (ents : List (Str × Tok × Int × Tok))
    (hl : K.lookup a = some ⟨.type "dict", none, .dict (ents.map fun e => (⟨PyData.keyHash P e.1, .str e.1 e.2.1, .int e.2.2.1 e.2.2.2⟩ : DictEntry)).toArray n, #[]⟩) (hs : (a == sysModules) = false) :
    CDic K P a (ents.map fun e => (e.1, V.int e.2.2.1)) := by
  refine ⟨_, n, hl, ?_, hs, fun x => ?_⟩
  · clear hl
    induction ents with
    | nil => trivial
    | cons e r ih => exact ⟨⟨_, _, rfl, rfl⟩, ih⟩
  · clear hl
    unfold findBy
    rw [List.find?_toArray]
    induction ents with
    | nil => exact .none
    | cons e r ih =>
      simp only [List.map_cons, List.find?_cons, List.lookup_cons]
      have q : Value.isStrOf x (Value.str e.1 e.2.1) = (x == e.1) := by
        show (e.1 == x) = _
        rw [Bool.eq_iff_iff, beq_iff_eq, beq_iff_eq]
        exact eq_comm
      rw [q]
      cases hx : x == e.1 with
      | true => exact .some ⟨_, rfl⟩
      | false => exact ih
section
variable {X : Cx}
def rIxDK (K : PySem.W.Frag) (P : Params) : R2 := fun x y H Q => ∃ (a : Addr) (t : Str) (kvs : List (Str × V)) (z : V), x = .ref a ∧ y = .str t ∧ CDic K P a kvs ∧ kvs.lookup t = some z ∧ Q z H
theorem ix_dictK : IxR X (rIxDK X.K X.w.params) := by
  intro value slice pins s σ H x y v u Q I rx ry h hs
  obtain ⟨a, t, kvs, z, rfl, rfl, ⟨es, n, hl, hk, _, r⟩, e, q⟩ := h
  cases rx
  obtain ⟨tk, rfl⟩ := ry
  obtain ⟨m, hF⟩ := I.fr
  have hm := PySem.W.mapOf_K (prog := X.prog) (I.ok.mod.kin.keeps hF.keep) hl hk
  have rr := r t
  rw [e] at rr
  cases hf : findBy Value.isStrOf es t with
  | none =>
    rw [hf] at rr
    cases rr
  | some w =>
    rw [hf] at rr
    cases rr with
    | some rv => exact tail_any hm.typeIs slot_dict_getitem.lookup (wpAny_getItem_of (strKind_is X.prog X.w t tk) hm hf ⟨z, H, I.tok _, rv, q⟩) hs
def tDGetK (K : PySem.W.Frag) (P : Params) (td ty tx : TE) : TE := fun σ H Q => td σ H fun x H1 => ∃ (a : Addr) (kvs : List (Str × V)), x = .ref a ∧ CDic K P a kvs ∧ ty σ H1 fun y H2 => tx σ H2 fun z H3 => ∃ t, y = .str t ∧ Q ((kvs.lookup t).getD z) H3
variable {o e f : Expr} {apos cpos : Pos} {td ty tx : TE}
theorem pe_dgetK (ho : PE X o td) (he : PE X e ty) (hf : PE X f tx) (m : M2 X o "get" apos e f cpos) : PE X (.Call (.Attribute o "get" apos) [e, f] [] cpos) (tDGetK X.K X.w.params td ty tx) := by
  refine ⟨fun pins s σ H Q I h => ?_⟩
  refine wpAny_Call_method m.base m.few m.line PySem.F.plainAttrs_dict PySem.F.slot_dict_get PySem.F.type_dict_get (thn (ho.run pins s σ H _ I h) fun u s1 ⟨x, H1, I1, rx, a, kvs, ex, ⟨es, n, hl, hk, hd, r⟩, q1⟩ => ?_)
  subst ex
  obtain rfl : u = Value.ref a := rx
  obtain ⟨m1, hF1⟩ := I1.fr
  have hm1 := PySem.W.mapOf_K (prog := X.prog) (I1.ok.mod.kin.keeps hF1.keep) hl hk
  refine ⟨hm1.typeIs, hm1.noDict, ?_⟩
  rw [m.trees]
  refine Calls.callWith_builtin rfl (Calls.evalArgs_plain (Calls.spliced_cons (thn (he.run pins s1 σ H1 _ I1 q1) fun iv s2 ⟨y, H2, I2, ry, q2⟩ =>
    Calls.spliced_cons (thn (hf.run pins s2 σ H2 _ I2 q2) fun fv s3 ⟨z, H3, I3, rz, t, ey, q3⟩ => Calls.spliced_nil ?_))))
  subst ey
  obtain ⟨tk, rfl⟩ := ry
  obtain ⟨m3, hF3⟩ := I3.fr
  have hm3 := PySem.W.mapOf_K (prog := X.prog) (I3.ok.mod.kin.keeps hF3.keep) hl hk
  refine call_meetsIn PySem.F.slot_dict_get hm3.typeIs PySem.F.entry_dict_get (PySem.F.args_dict_get_3 _ _ _) (meets_dict_get_default (strKind X.prog X.w) a (strKind_is X.prog X.w t tk) hd fv) ⟨_, hm3, ⟨_, H3, I3.tok _, ?_, q3⟩⟩
  have rr := r t
  revert rr
  generalize kvs.lookup t = o1
  generalize findBy Value.isStrOf es t = o2
  intro rr
  cases rr with
  | none => exact rz
  | some q => exact q
end
section
variable {X : Cx} {k n : Nat} {f C g : Addr} {fd : FuncData} {ps : List Str} {sp : Sp} {E : XK} {CX : CXT}
def rNegD (C : Addr) (sp : Sp) (E : XK) : V → Hp → VK → Prop := fun x H Q => ∃ a dx fs, x = .ref a ∧ H a = some (.ins C dx fs) ∧ sp [x] H Q E
theorem un_negD (hs : PySem.W.findIn X.K (.ref C) "__neg__" = some (some (.ref g))) (hf : PySem.W.isFn X.K (.ref g) = true) (F : FnR X.prog X.w X.K X.mg X.base CX n g sp) (hr : Room n X.A) (hx : Passes CX X E) :
    UnR X (unaryOp .USub) (rNegD C sp E) := by
  intro pins s σ H x v Q I rx h
  obtain ⟨a, dx, fs, rfl, ha, q⟩ := h
  obtain rfl : v = Value.ref a := rx
  obtain ⟨mA, O, _⟩ := ins_get I.hok ha
  obtain ⟨od, J, _⟩ := O.look
  obtain ⟨m, hF⟩ := I.fr
  exact PySem.W.ksp_neg hF I.ok.mod.kin J hs hf (wpAny_call (run_fnR (us := [.ref a]) (vs := [.ref a]) F hr hx I (.cons rfl .nil) q))
end
end Pk

namespace Pk
open PySem L2 TL SX
/-! ## Markers: mathematics of reading -/
abbrev Txt := List Nat
structure Tm where
  w : Txt
  s : Txt
  v : Txt ⊕ Nat
deriving DecidableEq
def wNot : Txt := [110, 111, 116]
def wAnd : Txt := [97, 110, 100]
def wOr : Txt := [111, 114]
def wOp (a : Bool) : Txt := if a then wAnd else wOr
def wAlways : Txt := [97, 108, 119, 97, 121, 115]
def wNever : Txt := [110, 101, 118, 101, 114]
def wSystem : Txt := [115, 121, 115, 116, 101, 109]
def wMachine : Txt := [109, 97, 99, 104, 105, 110, 101]
def wLevel : Txt := [108, 101, 118, 101, 108]
def fieldL : List Txt := [wSystem, wMachine, wLevel]
def operL : List Txt := [wAlways, wNever, wSystem, wMachine, wLevel]
def opT (w : Txt) : Tm := ⟨w, [], .inl []⟩
inductive Tr where
  | lf (t : Tm)
  | no (t : Tr)
  | bi (a : Bool) (t u : Tr)
def Tr.pfx : Tr → List Tm
  | .lf t => [t]
  | .no t => t.pfx ++ [opT wNot]
  | .bi a t u => t.pfx ++ u.pfx ++ [opT (wOp a)]
def bo (a : Bool) : Nat := if a then 2 else 1
def Tr.bd : Tr → Nat
  | .lf _ => 4
  | .no _ => 3
  | .bi a _ _ => bo a
def inP (b least : Nat) (x : Txt) : Txt := if b < least then [40] ++ x ++ [41] else x
def txV : Txt ⊕ Nat → Txt
  | .inl l => l
  | .inr n => numL n
def txTm (t : Tm) : Txt := if t.w ∈ fieldL then t.w ++ [32] ++ t.s ++ [32] ++ txV t.v else t.w
def Tr.wr : Tr → Txt
  | .lf t => txTm t
  | .no t => wNot ++ [32] ++ inP t.bd 3 t.wr
  | .bi a t u => inP t.bd (bo a) t.wr ++ [32] ++ wOp a ++ [32] ++ inP u.bd (bo a) u.wr
def Tr.val (ev : Tm → Bool) : Tr → Bool
  | .lf t => ev t
  | .no t => !t.val ev
  | .bi a t u => if a then t.val ev && u.val ev else t.val ev || u.val ev
def Tr.lvs : Tr → List Tm
  | .lf t => [t]
  | .no t => t.lvs
  | .bi _ t u => t.lvs ++ u.lvs
def Tr.sz : Tr → Nat
  | .lf _ => 1
  | .no t => t.sz + 1
  | .bi _ t u => t.sz + u.sz + 1
theorem pfx_sz : ∀ t : Tr, t.pfx.length = t.sz
  | .lf _ => rfl
  | .no t => by
    show (t.pfx ++ [opT wNot]).length = t.sz + 1
    rw [List.length_append, pfx_sz t]
    rfl
  | .bi a t u => by
    show (t.pfx ++ u.pfx ++ [opT (wOp a)]).length = t.sz + u.sz + 1
    rw [List.length_append, List.length_append, pfx_sz t, pfx_sz u]
    rfl
/-- same to whoever reads, asks or looks through -/
structure Eqv (t u : Tr) : Prop where
  wr : t.wr = u.wr
  bd : t.bd = u.bd
  val : ∀ ev, t.val ev = u.val ev
  lvs : t.lvs = u.lvs
  sz : t.sz = u.sz
theorem Eqv.rfl' (t : Tr) : Eqv t t := ⟨rfl, rfl, fun _ => rfl, rfl, rfl⟩
theorem Eqv.trans {t u v : Tr} (a : Eqv t u) (b : Eqv u v) : Eqv t v := ⟨a.wr.trans b.wr, a.bd.trans b.bd, fun ev => (a.val ev).trans (b.val ev), a.lvs.trans b.lvs, a.sz.trans b.sz⟩
theorem Eqv.no {t u : Tr} (a : Eqv t u) : Eqv (.no t) (.no u) := ⟨by simp [Tr.wr, a.wr, a.bd], rfl, fun ev => by simp [Tr.val, a.val], a.lvs, by simp [Tr.sz, a.sz]⟩
theorem Eqv.bi {o : Bool} {t u t' u' : Tr} (a : Eqv t u) (b : Eqv t' u') : Eqv (.bi o t t') (.bi o u u') :=
  ⟨by simp [Tr.wr, a.wr, a.bd, b.wr, b.bd], rfl, fun ev => by simp [Tr.val, a.val, b.val], by simp [Tr.lvs, a.lvs, b.lvs], by simp [Tr.sz, a.sz, b.sz]⟩
theorem Eqv.assoc (o : Bool) (x t u : Tr) : Eqv (.bi o (.bi o x t) u) (.bi o x (.bi o t u)) := by
  refine ⟨?_, rfl, fun ev => ?_, by simp [Tr.lvs], by simp [Tr.sz]; omega⟩
  · simp only [Tr.wr, Tr.bd, inP, Nat.lt_irrefl, if_false, List.append_assoc]
  · cases o
    · simp [Tr.val, Bool.or_assoc]
    · simp [Tr.val, Bool.and_assoc]
inductive Fr where
  | par
  | no
  | bi (a : Bool) (t : Tr)
def Fr.b : Fr → Nat
  | .par => 0
  | .no => 3
  | .bi a _ => bo a
def Fr.w : Fr → Txt
  | .par => [40]
  | .no => wNot
  | .bi a _ => wOp a
def Fr.red : Fr → Tr → Tr
  | .par, t => t
  | .no, t => .no t
  | .bi a u, t => .bi a u t
def Fr.st : Fr → List Tm
  | .bi _ u => u.pfx
  | _ => []
inductive EqF : Fr → Fr → Prop where
  | par : EqF .par .par
  | no : EqF .no .no
  | bi {a : Bool} {t u : Tr} (h : Eqv t u) : EqF (.bi a t) (.bi a u)
theorem EqF.rfl' : (f : Fr) → EqF f f
  | .par => .par
  | .no => .no
  | .bi _ t => .bi (Eqv.rfl' t)
theorem EqF.b {f g : Fr} (h : EqF f g) : f.b = g.b := by cases h <;> rfl
theorem EqF.red {f g : Fr} {t u : Tr} (h : EqF f g) (e : Eqv t u) : Eqv (f.red t) (g.red u) := by
  cases h with
  | par => exact e
  | no => exact e.no
  | bi h => exact h.bi e
inductive EqL : List Fr → List Fr → Prop where
  | nil : EqL [] []
  | cons {f g : Fr} {F G : List Fr} (h : EqF f g) (r : EqL F G) : EqL (f :: F) (g :: G)
theorem EqL.rfl' : (F : List Fr) → EqL F F
  | [] => .nil
  | f :: F => .cons (EqF.rfl' f) (EqL.rfl' F)
theorem EqF.trans {f g h : Fr} (a : EqF f g) (b : EqF g h) : EqF f h := by
  cases a with
  | par => exact b
  | no => exact b
  | bi x => cases b with | bi y => exact .bi (x.trans y)
theorem EqL.trans {F G H : List Fr} (a : EqL F G) : EqL G H → EqL F H := by
  induction a generalizing H with
  | nil => exact id
  | cons h _ ih => intro b; cases b with | cons k r => exact .cons (h.trans k) (ih r)
def shut (b : Nat) : List Fr → Tr → List Fr × Tr
  | [], t => ([], t)
  | f :: F, t => if b ≤ f.b then shut b F (f.red t) else (f :: F, t)
def EqS (x y : List Fr × Tr) : Prop := EqL x.1 y.1 ∧ Eqv x.2 y.2
theorem EqS.trans {x y z : List Fr × Tr} (a : EqS x y) (b : EqS y z) : EqS x z := ⟨a.1.trans b.1, a.2.trans b.2⟩
theorem shut_eq {b : Nat} {F G : List Fr} (h : EqL F G) : ∀ {t u : Tr}, Eqv t u → EqS (shut b F t) (shut b G u) := by
  induction h with
  | nil => exact fun e => ⟨.nil, e⟩
  | @cons f g F G k r ih =>
    intro t u e
    simp only [shut, k.b]
    by_cases hb : b ≤ g.b
    · rw [if_pos hb, if_pos hb]
      exact ih (k.red e)
    · rw [if_neg hb, if_neg hb]
      exact ⟨.cons k r, e⟩
def Pre (b : Nat) : List Fr → Prop
  | [] => True
  | f :: F => b ≤ f.b → f.b = b ∧ Pre b F
theorem pre4 : ∀ F, Pre 4 F
  | [] => trivial
  | f :: F => fun h => by cases f with
    | par => exact absurd h (by decide)
    | no => exact absurd h (by decide)
    | bi a _ => cases a <;> exact absurd h (by show ¬ 4 ≤ bo _; decide)
theorem pre_up {b c : Nat} (h : b ≤ c) : ∀ {F}, Pre b F → Pre c F
  | [], _ => trivial
  | f :: F, p => fun k => by
    obtain ⟨e, r⟩ := p (Nat.le_trans h k)
    have : b = c := by omega
    subst this
    exact ⟨e, r⟩
theorem shut_pre (b : Nat) : ∀ (F : List Fr) (t : Tr), Pre b (shut b F t).1
  | [], _ => trivial
  | f :: F, t => by
    unfold shut
    by_cases hb : b ≤ f.b
    · rw [if_pos hb]
      exact shut_pre b F _
    · rw [if_neg hb]
      exact fun k => absurd k hb
theorem bo_pos (a : Bool) : 1 ≤ bo a := by cases a <;> decide
theorem shut_assoc {a : Bool} {c : Nat} (hc : c ≤ bo a) (u : Tr) : ∀ (F : List Fr) (t : Tr), Pre (bo a) F → EqS (shut c (shut (bo a) F t).1 (.bi a (shut (bo a) F t).2 u)) (shut c F (.bi a t u))
  | [], t, _ => ⟨EqL.rfl' _, Eqv.rfl' _⟩
  | f :: F, t, p => by
    by_cases hb : bo a ≤ f.b
    · obtain ⟨e, r⟩ := p hb
      have e1 : shut (bo a) (f :: F) t = shut (bo a) F (f.red t) := by rw [shut, if_pos hb]
      have e2 : shut c (f :: F) (.bi a t u) = shut c F (f.red (.bi a t u)) := by rw [shut, if_pos (by omega)]
      rw [e1, e2]
      refine (shut_assoc hc u F _ r).trans (shut_eq (EqL.rfl' F) ?_)
      cases f with
      | par => cases a <;> exact absurd e (by decide)
      | no => cases a <;> exact absurd e (by decide)
      | bi o x =>
        have : o = a := by
          cases o <;> cases a <;> first | rfl | exact absurd e (by show ¬ bo _ = bo _; decide)
        subst this
        exact Eqv.assoc o x t u
    · have e1 : shut (bo a) (f :: F) t = (f :: F, t) := by rw [shut, if_neg hb]
      rw [e1]
      exact ⟨EqL.rfl' _, Eqv.rfl' _⟩
/-! ### the machine -/
def bnd (w : Txt) : Nat := if w = wNot then 3 else if w = wAnd then 2 else if w = [40] then 0 else 1
def popF (b : Nat) : List Txt → List Tm → List Txt × List Tm
  | [], s => ([], s)
  | h :: r, s => if b ≤ bnd h then popF b r (s ++ [opT h]) else (h :: r, s)
abbrev Ms := List Tm × List Txt × Bool
def stepM (m : Ms) (t : Tm) : Option Ms :=
  if m.2.2 then
    if t.w = [40] ∨ t.w = wNot then some (m.1, t.w :: m.2.1, true)
    else if t.w ∈ operL then some (m.1 ++ [t], m.2.1, false) else none
  else if t.w = wAnd ∨ t.w = wOr then some ((popF (bnd t.w) m.2.1 m.1).2, t.w :: (popF (bnd t.w) m.2.1 m.1).1, true)
  else if t.w = [41] then match (popF 1 m.2.1 m.1).1 with
    | _ :: r => some ((popF 1 m.2.1 m.1).2, r, false)
    | [] => none
  else none
def runM : Ms → List Tm → Option Ms
  | m, [] => some m
  | m, t :: ts => (stepM m t).bind fun m' => runM m' ts
theorem runM_append : ∀ (ts us : List Tm) (m : Ms), runM m (ts ++ us) = (runM m ts).bind fun m' => runM m' us
  | [], _, _ => rfl
  | t :: ts, us, m => by
    show (stepM m t).bind _ = ((stepM m t).bind _).bind _
    cases stepM m t with
    | none => rfl
    | some m' => exact runM_append ts us m'
def exprF (ts : List Tm) : Option (List Tm) := match runM ([], [], true) ts with
  | some (s, h, false) => if [40] ∈ h then none else some (s ++ h.map opT)
  | _ => none
def stL : List Fr → List Tm
  | [] => []
  | f :: F => stL F ++ f.st
theorem bnd_w (f : Fr) : bnd f.w = f.b := by
  cases f with
  | par => decide
  | no => decide
  | bi a _ => cases a <;> rfl
theorem pop_shut {b : Nat} (hb : 1 ≤ b) : ∀ (F : List Fr) (t : Tr), popF b (F.map Fr.w) (stL F ++ t.pfx) = ((shut b F t).1.map Fr.w, stL (shut b F t).1 ++ (shut b F t).2.pfx)
  | [], t => rfl
  | f :: F, t => by
    show (if b ≤ bnd f.w then _ else _) = _
    rw [bnd_w]
    by_cases h : b ≤ f.b
    · rw [if_pos h]
      have e1 : shut b (f :: F) t = shut b F (f.red t) := by rw [shut, if_pos h]
      rw [e1, ← pop_shut hb F (f.red t)]
      congr 1
      cases f with
      | par => exact absurd h (by show ¬ b ≤ 0; omega)
      | no => simp [stL, Fr.st, Fr.red, Tr.pfx, Fr.w]
      | bi a u => simp [stL, Fr.st, Fr.red, Tr.pfx, Fr.w]
    · rw [if_neg h]
      have e1 : shut b (f :: F) t = (f :: F, t) := by rw [shut, if_neg h]
      rw [e1]
      rfl
/-- the ways in which a tree may be laid out in terms; the number: how tight it holds -/
inductive Pcs : Tr → Nat → List Tm → Prop where
  | lf {t : Tm} (h : t.w ∈ operL) : Pcs (.lf t) 4 [t]
  | par {t : Tr} {b : Nat} {ts : List Tm} (h : Pcs t b ts) : Pcs t 4 (opT [40] :: (ts ++ [opT [41]]))
  | no {t : Tr} {b : Nat} {ts : List Tm} (h : Pcs t b ts) (hb : 3 ≤ b) : Pcs (.no t) 3 (opT wNot :: ts)
  | bi {a : Bool} {t u : Tr} {b c : Nat} {ts us : List Tm} (h : Pcs t b ts) (k : Pcs u c us) (hb : bo a ≤ b) (hc : bo a ≤ c) : Pcs (.bi a t u) (bo a) (ts ++ opT (wOp a) :: us)
theorem Pcs.pos {t : Tr} {b : Nat} {ts : List Tm} (h : Pcs t b ts) : 1 ≤ b := by
  cases h with
  | bi => exact bo_pos _
  | _ => decide
theorem step_op {s : List Tm} {h : List Txt} (a : Bool) : stepM (s, h, false) (opT (wOp a)) = some ((popF (bo a) h s).2, wOp a :: (popF (bo a) h s).1, true) := by
  cases a <;> rfl
theorem pcs_run {t : Tr} {b : Nat} {ts : List Tm} (h : Pcs t b ts) : ∀ F, Pre b F → ∃ G C, runM (stL F, F.map Fr.w, true) ts = some (stL G ++ C.pfx, G.map Fr.w, false) ∧ ∀ c, 1 ≤ c → c ≤ b → EqS (shut c G C) (shut c F t) := by
  induction h with
  | @lf t h =>
    intro F _
    refine ⟨F, .lf t, ?_, fun c _ _ => ⟨EqL.rfl' _, Eqv.rfl' _⟩⟩
    have h1 : ¬ (t.w = [40] ∨ t.w = wNot) := by
      intro e
      rcases e with e | e <;> rw [e] at h <;> exact absurd h (by decide)
    simp [runM, stepM, h1, h, Tr.pfx]
  | @par t b ts h ih =>
    intro F _
    obtain ⟨G, C, r, q⟩ := ih (.par :: F) (fun k => absurd k (by have := h.pos; show ¬ b ≤ 0; omega))
    have q1 := q 1 (by decide) h.pos
    have e1 : shut 1 (.par :: F) t = (.par :: F, t) := rfl
    rw [e1] at q1
    obtain ⟨ql, qe⟩ := q1
    cases hs : shut 1 G C with
    | mk G1 C1 =>
    rw [hs] at ql qe
    cases ql with
    | @cons f g F1 _ kf kr =>
    cases kf
    refine ⟨F1, C1, ?_, fun c h1 h2 => shut_eq kr qe⟩
    have r0 : stL (Fr.par :: F) = stL F := by simp [stL, Fr.st]
    rw [r0] at r
    show (stepM (stL F, F.map Fr.w, true) (opT [40])).bind _ = _
    have s0 : stepM (stL F, F.map Fr.w, true) (opT [40]) = some (stL F, (Fr.par :: F).map Fr.w, true) := rfl
    rw [s0]
    show runM _ (ts ++ [opT [41]]) = _
    rw [runM_append, r]
    show (stepM (stL G ++ C.pfx, G.map Fr.w, false) (opT [41])).bind _ = _
    have p := pop_shut (b := 1) (by decide) G C
    rw [hs] at p
    have s1 : stepM (stL G ++ C.pfx, G.map Fr.w, false) (opT [41]) = some (stL F1 ++ C1.pfx, F1.map Fr.w, false) := by
      show (match (popF 1 (G.map Fr.w) (stL G ++ C.pfx)).1 with
        | _ :: r => some ((popF 1 (G.map Fr.w) (stL G ++ C.pfx)).2, r, false)
        | [] => none) = _
      rw [p]
      simp [stL, Fr.st]
    rw [s1]
    rfl
  | @no t b ts h hb ih =>
    intro F p
    obtain ⟨G, C, r, q⟩ := ih (.no :: F) (fun k => by
      have : b = 3 := by
        have : b ≤ 3 := k
        omega
      subst this
      exact ⟨rfl, p⟩)
    refine ⟨G, C, ?_, fun c h1 h2 => ?_⟩
    · have r0 : stL (Fr.no :: F) = stL F := by simp [stL, Fr.st]
      rw [r0] at r
      exact r
    · have e1 : shut c (.no :: F) t = shut c F (.no t) := by
        rw [shut, if_pos (show c ≤ Fr.no.b from h2)]
        rfl
      rw [← e1]
      exact q c h1 (by omega)
  | @bi a t u b c ts us h k hb hc ih ik =>
    intro F p
    obtain ⟨G, C, r, q⟩ := ih F (pre_up hb p)
    have q1 := q (bo a) (bo_pos a) hb
    obtain ⟨G2, C2, r2, q2⟩ := ik (.bi a (shut (bo a) G C).2 :: (shut (bo a) G C).1) (fun kk => by
      have : c = bo a := by
        have : c ≤ bo a := kk
        omega
      subst this
      exact ⟨rfl, shut_pre _ _ _⟩)
    refine ⟨G2, C2, ?_, fun d h1 h2 => ?_⟩
    · rw [runM_append, r]
      show (stepM (stL G ++ C.pfx, G.map Fr.w, false) (opT (wOp a))).bind _ = _
      rw [step_op, pop_shut (bo_pos a)]
      exact r2
    · refine (q2 d h1 (by omega)).trans ?_
      have e1 : shut d (.bi a (shut (bo a) G C).2 :: (shut (bo a) G C).1) u = shut d (shut (bo a) G C).1 (.bi a (shut (bo a) G C).2 u) := by
        rw [shut, if_pos (show d ≤ (Fr.bi a _).b from h2)]
        rfl
      rw [e1]
      exact (shut_eq q1.1 (q1.2.bi (Eqv.rfl' u))).trans (shut_assoc h2 u F t p)
theorem shut_end : ∀ (F : List Fr) (t : Tr), (shut 1 F t).1 = [] → [40] ∉ F.map Fr.w ∧ stL F ++ t.pfx ++ (F.map Fr.w).map opT = (shut 1 F t).2.pfx
  | [], t, _ => ⟨by simp, by simp [stL, shut]⟩
  | f :: F, t, h => by
    by_cases hb : 1 ≤ f.b
    · have e1 : shut 1 (f :: F) t = shut 1 F (f.red t) := by rw [shut, if_pos hb]
      rw [e1] at h ⊢
      obtain ⟨n, e⟩ := shut_end F _ h
      rw [← e]
      cases f with
      | par => exact absurd hb (by decide)
      | no => exact ⟨fun m => by
          rcases List.mem_cons.mp m with m | m
          · exact absurd m (by decide)
          · exact n m, by simp [stL, Fr.st, Fr.red, Tr.pfx, Fr.w]⟩
      | bi a u => exact ⟨fun m => by
          rcases List.mem_cons.mp m with m | m
          · exact absurd m (by cases a <;> (show ¬ [40] = wOp _; decide))
          · exact n m, by simp [stL, Fr.st, Fr.red, Tr.pfx, Fr.w]⟩
    · rw [shut, if_neg hb] at h
      cases h
/-- what is laid out so is read as a tree that shows, answers and names the same -/
theorem pcs_expr {t : Tr} {b : Nat} {ts : List Tm} (h : Pcs t b ts) : ∃ u, Eqv u t ∧ exprF ts = some u.pfx := by
  have hp : Pre b [] := trivial
  obtain ⟨G, C, r, q⟩ := pcs_run h [] hp
  have q1 := q 1 (by decide) h.pos
  have e0 : (shut 1 G C).1 = [] := by
    have := q1.1
    cases hs : (shut 1 G C).1 with
    | nil => rfl
    | cons f F =>
      rw [hs] at this
      cases this
  obtain ⟨n, e⟩ := shut_end G C e0
  refine ⟨(shut 1 G C).2, q1.2, ?_⟩
  unfold exprF
  have r' : runM ([], [], true) ts = some (stL G ++ C.pfx, G.map Fr.w, false) := r
  rw [r']
  show (if [40] ∈ G.map Fr.w then none else some (stL G ++ C.pfx ++ (G.map Fr.w).map opT)) = _
  rw [if_neg n, e]
end Pk

/-! ## Calls of own instances whose exceptions are told with the slots, by position and by name -/
namespace Pk
open PySem PySem.Spec PyProof.Rows L2
section
variable {X : Cx} {CX : CXT} {k : Nat} {E : L2.St → XK} {sp : Sp} {C g : Addr}
theorem run_callOS {pins : List (Addr × Obj)} {σ : L2.St} {H : Hp} {s : Shared} {Q : VK} {a : Addr} {us : List Value} {vs : List V} (c : StX.CallO X.K C g) (F : FnR X.prog X.w X.K X.mg X.base CX k g sp) (hr : Room k X.A) (hx : PassesAt CX X σ (E σ)) (I : Inv X pins σ H s)
    (hi : StX.InsC X H a C) (r : Vals vs us) (h : sp (V.ref a :: vs) H Q (E σ)) : wpAny (model X.prog X.w) X.A (call (.ref a) us) (EP X pins σ Q) X.xe s := by
  obtain ⟨ox, od, J, hd⟩ := StX.insC_at I hi
  exact wpAny_call (PySem.W.kco_code I.kIn J hd c.at_ c.fn c.fi (run_fnRS (us := .ref a :: us) (vs := .ref a :: vs) F hr hx I (.cons rfl r) h))
/-- f(e, ..), f gives an instance of C -/
def tCallOS (C : Addr) (sp : Sp) (E : L2.St → XK) (tf : TE) (t : TA) : TE := fun σ H Q => tf σ H fun y H1 => ∃ a, y = V.ref a ∧ t σ H1 fun vs H2 => (∃ dx fs, H2 a = some (.ins C dx fs)) ∧ sp (V.ref a :: vs) H2 Q (E σ)
theorem pe_callOS {fe e : Expr} {es : List Expr} {pos : Pos} {tf : TE} {t : TA} (hf : PE X fe tf) (c : StX.CallO X.K C g) (F : FnR X.prog X.w X.K X.mg X.base CX k g sp) (hr : Room k X.A) (hx : ∀ σ, PassesAt CX X σ (E σ)) (ha : PA X (e :: es) t)
    (ht : eval (.Call fe (e :: es) [] pos) X.env = (do callWith pos (← eval fe X.env) [] (backTo pos (starEach (e :: es) X.env)) (backToKw pos (keywordEach [] X.env))) := by rfl)
    (he : starEach (e :: es) X.env = (false, eval e X.env) :: starEach es X.env := by rfl) (hpl : (backTo pos (starEach es X.env)).any (·.1) = false := by rfl) : PE X (.Call fe (e :: es) [] pos) (tCallOS C sp E tf t) := by
  refine ⟨fun pins s σ H Q I h => ?_⟩
  refine Call_ (thn (hf.run pins s σ H _ I h) fun u s1 ⟨y, H1, I1, ry, a, ey, q⟩ => ?_) ht
  subst ey
  obtain rfl : u = Value.ref a := ry
  refine StX.callO_with (thn (ha.run pos pins s1 σ H1 _ I1 q) fun us s2 ⟨vs, H2, I2, r, hi, q2⟩ => ?_) he hpl
  obtain ⟨ox, od, J, hd⟩ := StX.insC_at (C := C) I2 (.inr hi)
  exact ⟨⟨C, ox, od, J, hd⟩, run_callOS c F hr (hx σ) I2 (.inr hi) r q2⟩
theorem callO_ofK {M : Model} {A : Around} {E : Value → Shared → Prop} {s : Shared} {a : Addr} {pos : Pos} {Q : Value → Shared → Prop} {args : List (Bool × Sem Value)} {kws : List (Option Str × Sem Value)} (hplain : (args.any (·.1) || kws.any (·.1.isNone)) = false)
    (h : wpAny M A (evalArgs (.ref a) true args kws) (fun z s₁ => (∃ C ox od, PySem.W.InstAt s₁.heap a ox C od ∧ ox.data = .plain) ∧ wpAny M A (call (.ref a) ([] ++ z.pos) z.kw) Q E s₁) E s) : wpAny M A (callWith pos (.ref a) [] args kws) Q E s := by
  unfold callWith
  refine wpAny_bind (wpAny_holding (wpAny_mono h (fun z s₁ h₁ => wpAny_bind (wpAny_standAt ?_)) fun _ _ y => y))
  obtain ⟨⟨C, ox, od, J, hd⟩, h₁⟩ := h₁
  have L := PySem.W.kco_keeper (M := M) J hd
  simp only [hplain]
  refine wpAny_bind (L.here ?_)
  have tail : ∀ {t : Sem Value}, wpAny M A t Q E s₁ → wpAny M A (t >>= fun r => holding [r] point >>= fun _ => pure r) Q E s₁ :=
    fun ht => wpAny_bind (wpAny_mono ht (fun r s₂ hr => wpAny_bind (wpAny_holding (wpAny_point (wpAny_pure hr)))) fun _ _ y => y)
  exact tail (wpAny_operateT h₁)
/-- f(k = v, ..), f gives an instance of C -/
def tCallOK (C : Addr) (n : Nat) (sp : Sp) (gV : List V → List V) (E : L2.St → XK) (tf : TE) (tk : TA) : TE := fun σ H Q => tf σ H fun y H1 => ∃ a, y = V.ref a ∧ tk σ H1 fun zs H2 => zs.length = n ∧ (∃ dx fs, H2 a = some (.ins C dx fs)) ∧ sp (V.ref a :: gV zs) H2 Q (E σ)
theorem pe_callOK {fd : FuncData} {ps ks : List Str} {gU : List Value → List Value} {gV : List V → List V} {fe : Expr} {kws : List Keyword} {pos : Pos} {tf : TE} {tk : TA} (hf : PE X fe tf) (c : StX.CallO X.K C g)
    (F : FnOk X.prog X.w X.K X.mg X.base CX k g fd ps sp) (hr : Room k X.A) (hb : KM X.K fd ps ks gU gV) (hx : ∀ σ, PassesAt CX X σ (E σ)) (hkw : PK X kws tk)
    (hall : (backToKw pos (keywordEach kws X.env)).all (·.1.isSome) = true := by rfl) (hks : (backToKw pos (keywordEach kws X.env)).filterMap (·.1) = ks := by rfl)
    (hpl : ((backTo pos (starEach [] X.env)).any (·.1) || (backToKw pos (keywordEach kws X.env)).any (·.1.isNone)) = false := by rfl)
    (ht : eval (.Call fe [] kws pos) X.env = (do callWith pos (← eval fe X.env) [] (backTo pos (starEach [] X.env)) (backToKw pos (keywordEach kws X.env))) := by rfl) : PE X (.Call fe [] kws pos) (tCallOK C ks.length sp gV E tf tk) := by
  refine ⟨fun pins s σ H Q I h => ?_⟩
  rw [ht]
  refine wpAny_bind (thn (hf.run pins s σ H _ I h) fun u s1 ⟨y, H1, I1, ry, a, ey, q⟩ => ?_)
  subst ey
  obtain rfl : u = Value.ref a := ry
  refine callO_ofK hpl (evalArgs_kw2_nil hall ?_)
  refine thn (hkw.run pos pins s1 σ H1 _ I1 q) fun ws s2 ⟨zs, H2, I2, rz, l2, hi, q2⟩ => ?_
  obtain ⟨ox, od, J, hd⟩ := StX.insC_at (C := C) I2 (.inr hi)
  refine ⟨⟨C, ox, od, J, hd⟩, ?_⟩
  rw [hks]
  have r2 : Vals (V.ref a :: gV zs) (Value.ref a :: gU ws) := .cons rfl (hb.rel l2 rz)
  refine wpAny_call (PySem.W.kco_code I2.kIn J hd c.at_ c.fn c.fi (codeAny_mono (F.run X.A X.stack s2 H2 ⟨[Value.ref a], ks.zip ws⟩ (Value.ref a :: gU ws) (V.ref a :: gV zs) Q (E σ) hr I2.env0 (hb.to s2 _ ws I2.kIn (rz.length.symm.trans l2)) r2 q2) fun r s' hq => ?_))
  cases r with
  | error e => exact hx σ _ H2 s2 e s' I2 hq
  | ok fl =>
    cases fl with
    | ret u => exact I2.after hq
    | next => exact False.elim hq
    | brk => exact False.elim hq
    | cont => exact False.elim hq
end
end Pk
/-! ## x is True, x is not True -/
namespace Pk
open PySem PySem.Spec PyProof.Rows L2
def rIsB : R2 := fun x y H Q => ∃ a b : Bool, x = .bl a ∧ y = .bl b ∧ Q (.bl (decide (a = b))) H
def rNotB : R2 := fun x y H Q => ∃ a b : Bool, x = .bl a ∧ y = .bl b ∧ Q (.bl (!decide (a = b))) H
theorem op_isB {X : Cx} : OpR X (compareOp .Is) rIsB := by
  intro pins s σ H x y v u Q I rx ry h
  obtain ⟨a, b, rfl, rfl, q⟩ := h
  cases rx
  cases ry
  exact wpAny_is_plain rfl (fin_bl I q (by cases a <;> cases b <;> decide))
theorem op_notB {X : Cx} : OpR X (compareOp .IsNot) rNotB := by
  intro pins s σ H x y v u Q I rx ry h
  obtain ⟨a, b, rfl, rfl, q⟩ := h
  cases rx
  cases ry
  exact wpAny_isNot_plain rfl (fin_bl I q (by cases a <;> cases b <;> decide))
end Pk

/-! ## List comprehensions with any number of clauses -/
namespace Pk
open PySem PySem.Spec PyProof.Rows L2
section
variable {prog : Program} {w : World} {A : Around} {R : Result → Shared → Prop} {s : Shared} {elt : Expr} {gs : List Comprehension} {scope : Scope} {pos : Pos} {acc : Value} {env : Env}
abbrev nil1 : Value → Shared → Prop := fun _ _ => False
/-- what a turn of clause d does behind its tests, towards Z -/
def Inner (prog : Program) (w : World) (A : Around) (elt : Expr) (gs : List Comprehension) (scope : Scope) (pos : Pos) (acc : Value) (env : Env) (d : Nat) (Z : Shared → Prop) (s : Shared) : Prop :=
  match gs[d + 1]? with
  | some g => wpAny (model prog w) A (eval g.iter env) (fun x q1 => wpAny (model prog w) A (pyIter x) (fun jt q2 =>
      codeAny (model prog w) A (.compStart (.ListComp elt gs scope pos) (d + 1) jt acc env) (fun r q3 => match r with
        | .ok _ => Z q3
        | .error _ => False) q2) nil1 q1) nil1 s
  | none => wpAny (model prog w) A (eval elt env) (fun x q1 => wpAny (model prog w) A (call (.builtin "list.append") [acc, x]) (fun _ q2 => Z q2) nil1 q1) nil1 s
theorem un1 {α : Type} {t : Sem α} {Q : α → Shared → Prop} {M : Model} {B : Around} {E : Value → Shared → Prop} {s : Shared} (h : wpAny M B t Q nil1 s) : wpAny M B t Q E s := wpAny_mono h (fun _ _ q => q) fun _ _ z => False.elim z
abbrev tests (ifs : List Expr) (env : Env) : Sem Bool := forIn ifs true fun e k => if k = true then (do
  let b ← isTrue e env (eval e env)
  pure (ForInStep.yield b)) else pure (ForInStep.yield k)
theorem cl_loop {it : Value} {d : Nat} {t i : Expr} {ifs : List Expr} (hd : gs[d]? = some ⟨t, i, ifs, 0⟩) (hn : ∀ g, gs[d + 1]? = some g → g.is_async = 0 ∧ ∀ x, foldedSetIterable g.iter env x = pure x) (I : Nat → Shared → Prop)
    (turn : ∀ n q, I n q → wpAny (model prog w) A (pyNext it) (fun r q1 => match r with
      | none => R (.ok .next) q1
      | some v => wpAny (model prog w) A (letOwnedTupleGo t it v) (fun _ q2 => wpAny (model prog w) A (assign t env v) (fun _ q3 => wpAny (model prog w) A (tests ifs env) (fun b q4 =>
          if b = true then Inner prog w A elt gs scope pos acc env d (fun q5 => ∃ m, m < n ∧ I m q5) q4 else ∃ m, m < n ∧ I m q4) nil1 q3) nil1 q2) nil1 q1) nil1 q)
    (n : Nat) (h : I n s) : codeAny (model prog w) A (.compLoop (.ListComp elt gs scope pos) d it acc env) R s := by
  refine codeAny_loop rfl I (fun n q hI => ?_) n h
  show wpAny _ A ((compTurn (.ListComp elt gs scope pos) d it acc env).onRaise (fun e => do noteFrame e env; theTreesLotGoes e)) _ _ q
  refine wpAny_noted ?_
  unfold compTurn
  simp only [hd]
  refine wpAny_bind (wpAny_standAt ?_)
  show wpAny _ A (pyNext it >>= _) _ _ q
  refine wpAny_bind (wpAny_mono (turn n q hI) (fun r q1 h1 => ?_) fun _ _ z => False.elim z)
  cases r with
  | none => exact wpAny_pure h1
  | some v =>
    refine wpAny_bind (wpAny_mono h1 (fun _ q2 h2 => ?_) fun _ _ z => False.elim z)
    refine wpAny_bind (wpAny_mono h2 (fun _ q3 h3 => wpAny_bind (wpAny_mono h3 (fun b q4 h4 => ?_) fun _ _ z => False.elim z)) fun _ _ z => False.elim z)
    cases b with
    | false => exact wpAny_pure ⟨rfl, h4⟩
    | true =>
      simp only [if_true] at h4 ⊢
      unfold Inner at h4
      cases hg : gs[d + 1]? with
      | none =>
        rw [hg] at h4
        exact wpAny_bind (wpAny_bind (wpAny_mono h4 (fun x q5 h5 => wpAny_bind (wpAny_mono h5 (fun _ q6 h6 => wpAny_pure (wpAny_pure ⟨rfl, h6⟩)) fun _ _ z => False.elim z)) fun _ _ z => False.elim z))
      | some g =>
        rw [hg] at h4
        obtain ⟨ha, hf⟩ := hn g hg
        dsimp only at h4 ⊢
        refine wpAny_bind (wpAny_mono h4 (fun x q5 h5 => ?_) fun _ _ z => False.elim z)
        simp only [ha]
        refine wpAny_bind (wpAny_standAt ?_)
        show wpAny _ A (foldedSetIterable g.iter env x >>= _) _ _ q5
        refine wpAny_bind (wpAny_of_eq (hf x) (wpAny_bind (wpAny_holding (wpAny_mono h5 (fun jt q6 h6 => ?_) fun _ _ z => False.elim z))))
        refine wpAny_bind (wpAny_runOwn ?_)
        rw [Around.mark_none]
        refine codeAny_mono h6 fun r q7 hr => ?_
        cases r with
        | ok f =>
          first
            | exact wpAny_pure ⟨rfl, hr⟩
            | exact wpAny_bind (wpAny_pure (wpAny_pure ⟨rfl, hr⟩))
        | error e => exact hr.elim
/-- the start of a later clause -/
theorem cl_start {it : Value} {d : Nat} {g : Comprehension} (hd : gs[d]? = some g) (ha : g.is_async = 0) (h0 : codeAny (model prog w) A (.compLoop (.ListComp elt gs scope pos) d it acc env) R s)
    (h : wpAny (model prog w) A (pyIter it) (fun jt q => codeAny (model prog w) A (.compLoop (.ListComp elt gs scope pos) d jt acc env) R q) (notedBy (model prog w) A env fun e q => R (.error e) q) s) :
    codeAny (model prog w) A (.compStart (.ListComp elt gs scope pos) d it acc env) R s := by
  refine codeAny_of_tree ?_
  show wpAny _ _ ((compStart (.ListComp elt gs scope pos) d it acc env).onRaise (fun e => do noteFrame e env; standAt theWindowsPlace)) _ _ s
  refine wpAny_notedAt ?_
  unfold compStart
  have hc : (clausesOf (.ListComp elt gs scope pos))[d]? = some g := hd
  simp only [hc, Option.elim, ha]
  show wpAny _ _ (ask >>= _) _ _ s
  refine wpAny_bind (wpAny_askSetting (wpAny_ite ?_))
  split
  · first
      | exact wpAny_bind (wpAny_pure (wpAny_pure (And.intro rfl h0)))
      | exact wpAny_pure (And.intro rfl h0)
  · first
      | exact wpAny_bind (wpAny_rule (wpAny_bind (wpAny_standAt (wpAny_bind (wpAny_mono h (fun jt q k => wpAny_pure (And.intro rfl k)) fun _ _ z => z)))))
      | (refine wpAny_bind (wpAny_rule ?_); show wpAny _ _ (standAt g.iter.pos >>= _) _ _ s; exact wpAny_bind (wpAny_standAt (wpAny_bind (wpAny_mono h (fun jt q k => wpAny_pure (And.intro rfl k)) fun _ _ z => z))))
end
end Pk
namespace Pk
open PySem PySem.Spec PyProof.Rows L2
/-- a clause as it is read: what it walks, its store, its tests, the slots that it and the later ones store -/
structure Cla where
  wi : TI
  g : TG
  tt : TT
  vs : List Nat
/-- the clauses that are left, from the slots σ towards N -/
def tCla (te : TE) (D : Addr) : List Cla → L2.St → (Hp → Prop) → Hp → Prop
  | [], σ, N, H => te σ H fun y H1 => ∃ xs, H1 D = some (.lst xs) ∧ xs.length < sizeLine ∧ N (upd H1 D (.lst (xs ++ [y])))
  | c :: cs, σ, N, H => c.wi σ H fun J H1 => ∃ W : Nat → Nat → Hp → Prop, (∃ m, W 0 m H1) ∧ ∀ i m G, W i m G →
      (J.stop i G ∧ N G) ∨ (J.go i G ∧ ∃ N1 : Hp → Prop, (∀ G', N1 G' → ∃ m', m' < m ∧ W (i + 1) m' G') ∧ ∀ x G', J.yld i G x G' → c.g x (wipe σ c.vs) G' fun σ2 H2 => wipe σ2 c.vs = wipe σ c.vs ∧ c.tt σ2 H2 fun b H3 =>
        if b = true then tCla te D cs σ2 N1 H3 else N1 H3)
inductive ClaR (B : Cx) : List Comprehension → List Cla → Prop where
  | nil : ClaR B [] []
  | cons {g : Comprehension} {gs : List Comprehension} {c : Cla} {cs : List Cla} (hi : PI B g.target g.iter c.wi) (hg : PG B g.target c.g) (ht : PTs B g.ifs c.tt) (ha : g.is_async = 0) (hf : ∀ x, foldedSetIterable g.iter B.env x = pure x)
      (hv : ∀ c' ∈ cs, ∀ i ∈ c'.vs, i ∈ c.vs) (r : ClaR B gs cs) : ClaR B (g :: gs) (c :: cs)
section
variable {B : Cx} {elt : Expr} {gs : List Comprehension} {scope : Scope} {pos : Pos} {D : Addr} {te : TE}
def InnerAt (B : Cx) (elt : Expr) (gs : List Comprehension) (scope : Scope) (pos : Pos) (D : Addr) (te : TE) (cs : List Cla) (d : Nat) : Prop := ∀ (pins : List (Addr × Obj)) (σ : L2.St) (H : Hp) (q : Shared) (N : Hp → Prop) (Z : Shared → Prop), Inv B pins σ H q → tCla te D cs σ N H →
  (∀ (σ' : L2.St) (H' : Hp) (q' : Shared), Inv B pins σ' H' q' → σ'.length = σ.length → (∀ (j : Nat) (v : V), (∀ c ∈ cs, j ∉ c.vs) → σ[j]? = some (some v) → σ'[j]? = some (some v)) → N H' → Z q') →
  Inner B.prog B.w B.A elt gs scope pos (.ref D) B.env d Z q
theorem cla_loop (hcB : B.calm = true) (hxe : B.xe = nil1) {c : Cla} {cs : List Cla} {d : Nat} {g : Comprehension} (hd : gs[d]? = some g) (hn : ∀ g', gs[d + 1]? = some g' → g'.is_async = 0 ∧ ∀ x, foldedSetIterable g'.iter B.env x = pure x)
    (ha : g.is_async = 0) (hg : PG B g.target c.g) (ht : PTs B g.ifs c.tt) (hv : ∀ c' ∈ cs, ∀ i ∈ c'.vs, i ∈ c.vs) (inner : InnerAt B elt gs scope pos D te cs d)
    {J : It} {fp : List Addr} {it : Addr} {tn : Nat → Heap → Prop} (T : Turn B.prog B.w B.K g.target J fp it tn) {pins : List (Addr × Obj)} {σ : L2.St} {H0 : Hp} {q0 : Shared} (I0 : Inv B pins (wipe σ c.vs) H0 q0) (st0 : tn 0 q0.heap)
    (f0 : ∀ b ∈ fp, FpOk B pins H0 b) {W : Nat → Nat → Hp → Prop} {m0 : Nat} (w0 : W 0 m0 H0) {N : Hp → Prop} {R : Result → Shared → Prop}
    (turn : ∀ i m G, W i m G → (J.stop i G ∧ N G) ∨ (J.go i G ∧ ∃ N1 : Hp → Prop, (∀ G', N1 G' → ∃ m', m' < m ∧ W (i + 1) m' G') ∧ ∀ x G', J.yld i G x G' → c.g x (wipe σ c.vs) G' fun σ2 H2 => wipe σ2 c.vs = wipe σ c.vs ∧ c.tt σ2 H2 fun b H3 =>
        if b = true then tCla te D cs σ2 N1 H3 else N1 H3))
    (stop : ∀ H' q', Inv B pins (wipe σ c.vs) H' q' → N H' → R (.ok .next) q') :
    codeAny (model B.prog B.w) B.A (.compLoop (.ListComp elt gs scope pos) d (.ref it) (.ref D) B.env) R q0 := by
  obtain ⟨t, i, ifs, as⟩ := g
  dsimp only at ha hg ht T
  subst ha
  have fok : ∀ {H' : Hp}, (∀ b ∈ fp, H' b = none) → ∀ b ∈ fp, FpOk B pins H' b := fun hn b hb => ⟨hn b hb, (f0 b hb).2⟩
  refine cl_loop hd hn (fun k q => ∃ j H', Inv B pins (wipe σ c.vs) H' q ∧ tn j q.heap ∧ (∀ b ∈ fp, H' b = none) ∧ W j k H') ?_ m0 ⟨0, H0, I0, st0, fun b hb => (f0 b hb).1, w0⟩
  rintro k q ⟨j, G, I, st, fn, wk⟩
  rcases turn j k G wk with ⟨hs, nx⟩ | ⟨hgo, N1, hN1, step⟩
  · refine thnF (T.done B rfl rfl rfl hcB j _ q (wipe σ c.vs) G nil1 I (fok fn) st hs) fun r q1 ⟨hr, I1⟩ => ?_
    subst hr
    exact stop _ _ I1 nx
  · refine thnF (T.item B rfl rfl rfl hcB j _ q (wipe σ c.vs) G nil1 I (fok fn) st hgo) fun r q1 ⟨u, hr, h1⟩ => ?_
    subst hr
    refine thnF h1 fun _ q2 ⟨x, G2, I2, r2, y2, st2, fn2⟩ => ?_
    have I2' := I2.pinned (fok fn2) (T.obj _ _ st2)
    have pg := hg.run _ q2 (wipe σ c.vs) G2 x u _ I2' r2 (step x G2 y2)
    rw [hxe] at pg
    refine thnF pg fun _ q3 ⟨σ3, G3, I3, hw3, t3⟩ => ?_
    have pt := ht.run _ q3 σ3 G3 _ I3 t3
    rw [hxe] at pt
    refine thnF pt fun b q4 ⟨G4, I4, t4⟩ => ?_
    have len3 : (wipe σ c.vs).length = σ3.length := by rw [← hw3, wipe_length]
    have turned : ∀ {σ' : L2.St} {q' : Shared} {H' : Hp}, Inv B (pins ++ pinsAt fp q2.heap) σ' H' q' → σ'.length = σ3.length → (∀ (j : Nat) (v : V), (∀ c' ∈ cs, j ∉ c'.vs) → σ3[j]? = some (some v) → σ'[j]? = some (some v)) → N1 H' →
        ∃ m, m < k ∧ ∃ j H', Inv B pins (wipe σ c.vs) H' q' ∧ tn j q'.heap ∧ (∀ b ∈ fp, H' b = none) ∧ W j m H' := fun {σ' q' H'} I' hl hk nx => by
      obtain ⟨m', hm, w'⟩ := hN1 H' nx
      have pin : ∀ b ∈ fp, ∀ o, q2.heap.get? b = some o → q'.heap.get? b = some o ∧ H' b = none := fun b hb o e =>
        let z := I'.pin (b, o) (List.mem_append_right _ (List.mem_append_right _ (mem_pinsAt hb e)))
        ⟨z.1, z.2.1⟩
      refine ⟨m', hm, j + 1, H', (I'.unpinned (pins := pins)).weak (by rw [hl, len3]) (fun n v e => ?_), T.keep _ _ _ st2 fun b hb o e => (pin b hb o e).1, fun b hb => ?_, w'⟩
      · have e1 := e
        rw [← hw3] at e1
        refine hk n v (fun c' hc' hm' => (wipe_some e).2 (hv c' hc' n hm')) (wipe_some e1).1
      · obtain ⟨o, e, _⟩ := T.obj _ _ st2 b hb
        exact (pin b hb o e).2
    cases b with
    | false =>
      simp only [Bool.false_eq_true, if_false] at t4 ⊢
      exact turned I4 rfl (fun _ _ _ e => e) t4
    | true =>
      simp only [if_true] at t4 ⊢
      exact inner _ σ3 G4 q4 N1 _ I4 t4 fun σ' H' q' I' hl hk nx => turned I' hl hk nx
theorem cla_inner (hcB : B.calm = true) (hxe : B.xe = nil1) (he : PE B elt te) : ∀ (cs : List Cla) (d : Nat), ClaR B (gs.drop (d + 1)) cs → InnerAt B elt gs scope pos D te cs d := by
  intro cs
  induction cs with
  | nil =>
    intro d r pins σ H q N Z I h fin
    have hgs : gs[d + 1]? = none := by
      generalize hr : gs.drop (d + 1) = rest at r
      cases r
      exact List.getElem?_eq_none (List.drop_eq_nil_iff.mp hr)
    unfold Inner
    rw [hgs]
    have pe := he.run pins q σ H _ I h
    rw [hxe] at pe
    refine thnF pe fun z q1 ⟨yv, H1, I1, r1, xs, hD1, hz1, nx⟩ => ?_
    exact app_ok (X := B) I1 hD1 hz1 r1 fun q2 I2 => fin σ _ q2 I2 rfl (fun _ _ _ e => e) nx
  | cons c cs ih =>
    intro d r pins σ H q N Z I h fin
    generalize hr : gs.drop (d + 1) = rest at r
    cases r with
    | @cons g gs' _ _ hi hg ht ha hf hv r =>
    have hgs : gs[d + 1]? = some g := by
      rw [← List.head?_drop, hr]
      rfl
    have hdr : gs.drop (d + 1 + 1) = gs' := by
      rw [← List.tail_drop, hr]
      rfl
    unfold Inner
    rw [hgs]
    have pi := hi.run pins q σ H _ I h
    rw [hxe] at pi
    refine thnF pi fun xv q1 h1 => thnF h1 fun iv q2 h2 => ?_
    obtain ⟨it, fp, tn, J, H2, e, I2, T, st2, f2, W, ⟨m, w⟩, turn⟩ := h2
    subst e
    have hnx : ∀ g', gs[d + 1 + 1]? = some g' → g'.is_async = 0 ∧ ∀ x, foldedSetIterable g'.iter B.env x = pure x := by
      intro g' hg'
      rw [← List.head?_drop, hdr] at hg'
      cases r with
      | nil => cases hg'
      | cons _ _ _ ha' hf' _ _ =>
        cases hg'
        exact ⟨ha', hf'⟩
    have lp : codeAny (model B.prog B.w) B.A (.compLoop (.ListComp elt gs scope pos) (d + 1) (.ref it) (.ref D) B.env) (fun r q' => match r with
        | .ok _ => Z q'
        | .error _ => False) q2 :=
      cla_loop hcB hxe hgs hnx ha hg ht hv (ih (d + 1) (by rw [hdr]; exact r)) T (I2.weak (wipe_length _ _) (fun j v e => (wipe_some e).1)) st2 f2 w turn fun H' q' I' nx =>
        fin _ _ _ I' (wipe_length _ _) (fun j v hj e => by
          rw [wipe_out (hj c List.mem_cons_self)]
          exact e) nx
    exact cl_start hgs ha lp (T.self B.A 0 _ _ _ st2 lp)
end
end Pk
namespace Pk
open PySem PySem.Spec PyProof.Rows L2
/-- [elt for .. in .. for .. in ..], D the new list -/
def tLcN (te : TE) (c : Cla) (cs : List Cla) : TE := fun σ H Q => c.wi σ H fun J H1 => ∀ D, H1 D = none → ∃ W : Nat → Nat → Hp → Prop, (∃ m, W 0 m (upd H1 D (.lst []))) ∧ ∀ i m G, W i m G →
  (J.stop i G ∧ Q (.ref D) G) ∨ (J.go i G ∧ ∃ N1 : Hp → Prop, (∀ G', N1 G' → ∃ m', m' < m ∧ W (i + 1) m' G') ∧ ∀ x G', J.yld i G x G' → c.g x (wipe σ c.vs) G' fun σ2 H2 => wipe σ2 c.vs = wipe σ c.vs ∧ c.tt σ2 H2 fun b H3 =>
    if b = true then tCla te D cs σ2 N1 H3 else N1 H3)
section
variable {X : Cx}
theorem pe_lcN {elt tg iter : Expr} {ifs : List Expr} {gs : List Comprehension} {scope : Scope} {own : List (Str × Nat)} {pos : Pos} {c : Cla} {cs : List Cla} {te : TE} (hc : X.calm = true) (hN : X.N.Nodup) (hi : PI X tg iter c.wi) (ok : BlkOk X.N X.env.scope scope own)
    (hvs : c.vs = own.map (·.2)) (hg : ∀ (s : Shared) (H : Hp) (C : Addr) (cl : List (Str × Addr)) (fp : List Addr), PG (X.blk s H scope (compEnvC scope cl C X.env) fp) tg c.g)
    (ht : ∀ (s : Shared) (H : Hp) (C : Addr) (cl : List (Str × Addr)) (fp : List Addr), PTs (X.blk s H scope (compEnvC scope cl C X.env) fp) ifs c.tt)
    (hr : ∀ (s : Shared) (H : Hp) (C : Addr) (cl : List (Str × Addr)) (fp : List Addr), ClaR (X.blk s H scope (compEnvC scope cl C X.env) fp) gs cs) (hv : ∀ c' ∈ cs, ∀ i ∈ c'.vs, i ∈ c.vs)
    (he : ∀ (s : Shared) (H : Hp) (C : Addr) (cl : List (Str × Addr)) (fp : List Addr), PE (X.blk s H scope (compEnvC scope cl C X.env) fp) elt te) (hs : ∀ x, foldedSetIterable iter X.env x = pure x := by intro _; rfl) :
    PE X (.ListComp elt (⟨tg, iter, ifs, 0⟩ :: gs) scope pos) (tLcN te c cs) := by
  refine ⟨fun pins s σ H Q I h => ?_⟩
  rw [eval_ListComp]
  have free : ∀ y ∈ scope.names, y.2 = .free → ∃ a, X.env.cells.lookup y.1 = some a := fun y hy e =>
    (ok.free y hy e).elim (fun k => I.ok.has _ (.inl k)) (fun k => I.ok.has _ (.inr k))
  refine wpAny_comprehension_free (use := none) rfl hs (closure_ok free) ok.kind (fun y hy e => by rw [ok.uniq y hy, e])
    (thn (hi.run pins s σ H _ I h) fun xv q1 h1 => thn h1 fun iv q2 h2 => ?_)
  obtain ⟨it, fp, tn, J, H2, e, I2, T, st2, f2, rd⟩ := h2
  subst e
  refine wpAny_newObj_type (newEnv_comp ?_) (by show 0 ≤ sizeLine; decide)
  generalize hD : q2.heap.objs.size = D
  obtain ⟨W, ⟨m0, w0⟩, turn⟩ := rd D (I2.hok.fresh (Nat.le_of_eq hD))
  generalize h3 : ({ q2 with heap := q2.heap.push { cls := .type "list", data := .seq ([] : List Value).toArray } } : Shared) = q3
  have e3 : q3.heap = q2.heap.push { cls := .type "list", data := .seq ([] : List Value).toArray } := by rw [← h3]
  have I3 : Inv X pins σ (upd H2 D (.lst [])) q3 := by
    rw [← h3]
    refine I2.laid (t' := q2.toks) (fun b o e => Heap.get?_push_of_some _ e) (Nat.le_of_eq hD) ⟨Nat.zero_le _, [], 0, .nil, ?_⟩
    rw [← hD]
    exact Heap.get?_push_size _ rfl
  have old : ∀ b ∈ fp, b < q2.heap.objs.size := fun b hb => let ⟨o, e, _⟩ := T.obj _ _ st2 b hb; Heap.lt_size e
  have f3 : ∀ b ∈ fp, FpOk X pins (upd H2 D (.lst [])) b ∧ b < q3.heap.objs.size := fun b hb => by
    refine ⟨⟨?_, (f2 b hb).2⟩, by rw [e3, Heap.size_push]; exact Nat.lt_succ_of_lt (old b hb)⟩
    rw [upd_ne (by rw [← hD]; exact Nat.ne_of_lt (old b hb))]
    exact (f2 b hb).1
  have st3 : tn 0 q3.heap := T.keep _ _ _ st2 fun b _ o e => by rw [e3]; exact Heap.get?_push_of_some _ e
  have I4 := block_start I3 ok hN f3
  have pg := hg q3 (upd H2 D (.lst [])) q3.heap.objs.size (cellsFrom (q3.heap.objs.size + 1) scope.names (cloFrom X.env.cells scope.names [])) fp
  have pt := ht q3 (upd H2 D (.lst [])) q3.heap.objs.size (cellsFrom (q3.heap.objs.size + 1) scope.names (cloFrom X.env.cells scope.names [])) fp
  have pr := hr q3 (upd H2 D (.lst [])) q3.heap.objs.size (cellsFrom (q3.heap.objs.size + 1) scope.names (cloFrom X.env.cells scope.names [])) fp
  have pe := he q3 (upd H2 D (.lst [])) q3.heap.objs.size (cellsFrom (q3.heap.objs.size + 1) scope.names (cloFrom X.env.cells scope.names [])) fp
  show codeAny _ _ (.compStart (.ListComp elt (⟨tg, iter, ifs, 0⟩ :: gs) scope pos) 0 (.ref it) (.ref D) (compEnvC scope (cellsFrom (q3.heap.objs.size + 1) scope.names (cloFrom X.env.cells scope.names [])) q3.heap.objs.size X.env)) _ { q3 with heap := pushCells (q3.heap.push { cls := .type "dict", data := .dict #[] }) scope.names }
  generalize hce : compEnvC scope (cellsFrom (q3.heap.objs.size + 1) scope.names (cloFrom X.env.cells scope.names [])) q3.heap.objs.size X.env = ce at I4 pg pt pr pe ⊢
  have eL : ce.locals = q3.heap.objs.size := by subst hce; rfl
  generalize hH3 : upd H2 D (.lst []) = H3 at I3 I4 pg pt pr pe w0 f3
  generalize h4 : ({ q3 with heap := pushCells (q3.heap.push { cls := .type "dict", data := .dict #[] }) scope.names } : Shared) = q4 at I4 ⊢
  have st4 : tn 0 q4.heap := T.keep _ _ _ st3 fun b _ o e => by rw [← h4]; exact pushCells_keeps _ _ _ _ (Heap.get?_push_of_some _ e)
  have f4 : ∀ b ∈ fp, FpOk (X.blk q3 H3 scope ce fp) [] H3 b := fun b hb =>
    ⟨(f3 b hb).1.1, (I4.ok.exf b hb).1, I4.ok.exfs b hb, .inl hb, fun x a e => (I4.ok.exf b hb).2 x a e, fun p hp => absurd (show p ∈ ([] : List (Addr × Obj)) ++ [] from hp) (by simp)⟩
  have hnx : ∀ g', (⟨tg, iter, ifs, 0⟩ :: gs)[0 + 1]? = some g' → g'.is_async = 0 ∧ ∀ x, foldedSetIterable g'.iter ce x = pure x := by
    intro g' hg'
    cases pr with
    | nil => cases hg'
    | cons _ _ _ ha' hf' _ _ =>
      cases hg'
      exact ⟨ha', hf'⟩
  have lp := cla_loop (B := X.blk q3 H3 scope ce fp) (elt := elt) (gs := ⟨tg, iter, ifs, 0⟩ :: gs) (scope := scope) (pos := pos) (D := D) (te := te) (c := c) (cs := cs) (d := 0) (g := ⟨tg, iter, ifs, 0⟩) (pins := []) (σ := σ) (N := fun G => Q (.ref D) G)
    (R := compPost (model X.prog X.w) X.A X.xe none (EP X pins σ Q) (.ref D) q3.heap.objs.size) hc rfl rfl hnx rfl pg pt hv (cla_inner (B := X.blk q3 H3 scope ce fp) hc rfl pe cs 0 pr) T (by rw [hvs]; exact I4) st4 f4 w0 turn (fun H' q' I' nx => by
      have I5 : Inv X pins σ H' q' := I3.call' (ch := fp) I'.os I'.base I'.hok I'.bare fun b hb => ⟨(f3 b hb).1.2.2.2.1, (f3 b hb).1.2.1, (f3 b hb).1.2.2.2.2.1, (f3 b hb).1.2.2.2.2.2⟩
      have nC : H' q3.heap.objs.size = none := by
        have z : H' ce.locals = none := I'.free
        rw [eL] at z
        exact z
      obtain ⟨m, hn, _⟩ := I'.loc
      have hn : q'.heap.Ns ce.locals m := hn
      rw [eL] at hn
      obtain ⟨g0, g1, g2, g3, g4, g5⟩ := I3.fpOk (H' := H') (Nat.le_refl _) nC
      exact ⟨m, hn, fun h' sb => ⟨.ref D, H', I5.turned (t' := q'.toks) (fun b o hb e => (sb.2 b hb).trans e) g0 g1 g3 g4 g5, rfl, nx⟩⟩)
  exact codeAny_compStart_list lp (T.self X.A 0 _ _ _ st4 lp)
end
end Pk

/-! ## x in a tuple of data; rows of truths as data; clauses over things walked -/
namespace Pk
open PySem PySem.Spec PyProof.Rows L2
def rInT (K : PySem.W.Frag) : R2 := fun x y H Q => ∃ d ds, Dp K H x d ∧ Dp K H y (.tuple ds) ∧ SeqAt.shaped d = true ∧ SeqAt.shaped (.tuple ds) = true ∧ Q (.bl (ds.any fun z => PyData.eqv z d)) H
theorem op_inT {X : Cx} (hu : X.A.units + 65 < cLine) : OpR X (compareOp .In) (rInT X.K) := by
  intro pins s σ H x y v u Q I rx ry h
  obtain ⟨d, ds, hd, he, sd, se, q⟩ := h
  obtain ⟨as, r1⟩ := Dp.reads I d x v hd rx
  obtain ⟨bs, r2⟩ := Dp.reads I (.tuple ds) y u he ry
  exact SeqAt.in_tuple_reads r2 r1 (SeqAt.canLay_of_shaped se) (SeqAt.canLay_of_shaped sd) (room_in_shaped sd hu) ⟨.bl _, H, I, rfl, q⟩
def bD (bs : List Bool) : PyData := .tuple (bs.map PyData.bool)
theorem eqv_all : ∀ (a b : List Bool), PyData.eqvAll (a.map PyData.bool) (b.map PyData.bool) = decide (a = b)
  | [], [] => rfl
  | [], _ :: _ => by simp [PyData.eqvAll]
  | _ :: _, [] => by simp [PyData.eqvAll]
  | x :: a, y :: b => by
    simp only [List.map_cons, PyData.eqvAll, PyData.eqv, eqv_all a b]
    rw [Bool.eq_iff_iff]
    simp
theorem bD_eqv (a b : List Bool) : PyData.eqv (bD a) (bD b) = decide (a = b) := eqv_all a b
theorem bD_any (ws : List (List Bool)) (b : List Bool) : ((ws.map bD).any fun z => PyData.eqv z (bD b)) = decide (b ∈ ws) := by
  rw [Bool.eq_iff_iff, List.any_eq_true, decide_eq_true_eq]
  constructor
  · rintro ⟨z, hz, e⟩
    obtain ⟨w, hw, rfl⟩ := List.mem_map.mp hz
    rw [bD_eqv, decide_eq_true_eq] at e
    rw [← e]
    exact hw
  · intro h
    exact ⟨bD b, List.mem_map.mpr ⟨b, h, rfl⟩, by rw [bD_eqv]; simp⟩
theorem bools_lay : ∀ bs : List Bool, PyData.canLayAll0 (bs.map PyData.bool) = true
  | [] => rfl
  | _ :: bs => by simp [PyData.canLayAll0, PyData.canLay0, bools_lay bs]
theorem bools_dep : ∀ bs : List Bool, PyData.depthAll (bs.map PyData.bool) ≤ 1
  | [] => by simp [PyData.depthAll]
  | _ :: bs => by
    have := bools_dep bs
    simp only [List.map_cons, PyData.depthAll, PyData.depth]
    omega
theorem bD_shaped (bs : List Bool) : SeqAt.shaped (bD bs) = true := by
  have := bools_dep bs
  have h : (bD bs).depth ≤ 64 := by
    simp only [bD, PyData.depth]
    omega
  simp [SeqAt.shaped, bD, PyData.canLay0, bools_lay bs]
  exact decide_eq_true h
theorem rows_lay : ∀ ws : List (List Bool), PyData.canLayAll0 (ws.map bD) = true
  | [] => rfl
  | w :: ws => by simp [PyData.canLayAll0, bD, PyData.canLay0, bools_lay w, rows_lay ws]
theorem rows_dep : ∀ ws : List (List Bool), PyData.depthAll (ws.map bD) ≤ 3
  | [] => by simp [PyData.depthAll]
  | w :: ws => by
    have := rows_dep ws
    have := bools_dep w
    simp only [List.map_cons, PyData.depthAll, bD, PyData.depth]
    omega
theorem rows_shaped (ws : List (List Bool)) : SeqAt.shaped (.tuple (ws.map bD)) = true := by
  have := rows_dep ws
  have h : (PyData.tuple (ws.map bD)).depth ≤ 64 := by
    simp only [PyData.depth]
    omega
  simp [SeqAt.shaped, PyData.canLay0, rows_lay ws]
  exact h
theorem dp_bools {K : PySem.W.Frag} {H : Hp} : ∀ bs : List Bool, DpAll K H (bs.map V.bl) (bs.map PyData.bool)
  | [] => .nil
  | b :: bs => .cons (.bl b) (dp_bools bs)
/-- a tuple of rows of truths -/
def WsT (K : PySem.W.Frag) (H : Hp) : List Addr → List (List Bool) → Prop
  | [], [] => True
  | a :: as, w :: ws => SqT K H a (w.map V.bl) ∧ WsT K H as ws
  | _, _ => False
theorem dp_rows {K : PySem.W.Frag} {H : Hp} : ∀ {as : List Addr} {ws : List (List Bool)}, WsT K H as ws → DpAll K H (as.map V.ref) (ws.map bD)
  | [], [], _ => .nil
  | _ :: _, w :: _, h => .cons (.tup h.1 (dp_bools w)) (dp_rows h.2)
  | [], _ :: _, h => h.elim
  | _ :: _, [], h => h.elim
/-- a clause over what is walked -/
theorem cla_it {J : It} {n : Nat} {G : Hp → Prop} {Y : Nat → Hp → V → Hp → Prop} (w : Walk J n G Y) {c : Cla} {cs : List Cla} {te : TE} {D : Addr} {σ : L2.St} {H1 : Hp} {N : Hp → Prop} (Pv : Nat → Hp → Prop) (h0 : Pv 0 H1) (hG : ∀ i H, i ≤ n → Pv i H → G H)
    (hs : ∀ i x H H', i < n → Pv i H → Y i H x H' → c.g x (wipe σ c.vs) H' fun σ2 H2 => wipe σ2 c.vs = wipe σ c.vs ∧ c.tt σ2 H2 fun b H3 => if b = true then tCla te D cs σ2 (Pv (i + 1)) H3 else Pv (i + 1) H3) (hd : ∀ H, Pv n H → N H) :
    ∃ W : Nat → Nat → Hp → Prop, (∃ m, W 0 m H1) ∧ ∀ i m H, W i m H → (J.stop i H ∧ N H) ∨ (J.go i H ∧ ∃ N1 : Hp → Prop, (∀ H', N1 H' → ∃ m', m' < m ∧ W (i + 1) m' H') ∧
      ∀ x H', J.yld i H x H' → c.g x (wipe σ c.vs) H' fun σ2 H2 => wipe σ2 c.vs = wipe σ c.vs ∧ c.tt σ2 H2 fun b H3 => if b = true then tCla te D cs σ2 N1 H3 else N1 H3) := by
  refine ⟨fun i m H => n - i = m ∧ i ≤ n ∧ Pv i H, ⟨n, rfl, Nat.zero_le _, h0⟩, ?_⟩
  rintro i m H ⟨rfl, hi, p⟩
  have q := hG i H hi p
  by_cases hlt : i < n
  · exact .inr ⟨w.goes i H hlt q, Pv (i + 1), fun H' p' => ⟨n - (i + 1), by omega, rfl, hlt, p'⟩, fun x H' y => hs i x H H' hlt p (w.yields i H x H' hlt q y)⟩
  · obtain rfl : i = n := by omega
    exact .inl ⟨w.stops H q, hd H p⟩
/-- e.f within a block -/
theorem pe_fldN {X : Cx} {KK : PySem.W.Frag} {e : Expr} {f : Str} {pos : Pos} {ta : TE} (hK : X.K = KK) (he : PE X e ta) (hb : attributeBase e f X.env (eval e X.env) = eval e X.env := by rfl) : PE X (.Attribute e f pos) (tFld KK ta f) := by
  subst hK
  exact pe_fld he hb
end Pk

/-! ## f(k = v, ..), the keywords in any order -/
namespace Pk
open PySem PySem.Spec PyProof.Rows L2
/-- how keywords bind: the values are put in the parameters' order by g -/
structure KBP (K : PySem.W.Frag) (fd : FuncData) (ps ks : List Str) (gU : List Value → List Value) (gV : List V → List V) : Prop where
  to : ∀ (s : Shared) (ws : List Value), K.In s.heap → ws.length = ks.length → BindsTo s fd ⟨[], ks.zip ws⟩ (ps.zip (gU ws))
  rel : ∀ {zs : List V} {ws : List Value}, zs.length = ks.length → Vals zs ws → Vals (gV zs) (gU ws)
def tKwP (n : Nat) (sp : Sp) (gV : List V → List V) (E : XK) (tk : TA) : TE := fun σ H Q => tk σ H fun zs H1 => zs.length = n ∧ sp (gV zs) H1 Q E
section
variable {X : Cx} {CX : CXT} {k : Nat} {f : Addr} {fd : FuncData} {ps ks : List Str} {gU : List Value → List Value} {gV : List V → List V} {sp : Sp} {E : XK}
theorem pe_kwP {x : Str} {p pos : Pos} {kws : List Keyword} {tk : TA} (F : FnOk X.prog X.w X.K X.mg X.base CX k f fd ps sp) (hr : Room k X.A) (hg : Gl X x) (hm : X.mg x = some (.ref f)) (hk : PySem.W.keepIn X.K (.ref f) = true)
    (hb : KBP X.K fd ps ks gU gV) (hx : Passes CX X E) (hkw : PK X kws tk) (hall : (backToKw pos (keywordEach kws X.env)).all (·.1.isSome) = true := by rfl) (hks : (backToKw pos (keywordEach kws X.env)).filterMap (·.1) = ks := by rfl)
    (hdb : (x == ("__debug__" : Str)) = false := by decide) (hpl : ((backTo pos (starEach [] X.env)).any (·.1) || (backToKw pos (keywordEach kws X.env)).any (·.1.isNone)) = false := by rfl) :
    PE X (.Call (.Name x p) [] kws pos) (tKwP ks.length sp gV E tk) := by
  refine ⟨fun pins s σ H Q I h => ?_⟩
  refine wpAny_Call_Name_kw (ld_glob I hg hm ?_ hdb)
  refine PySem.W.callWith_KW0 (h₀ := X.base) I.ok.mod.kin hk hall (thn (hkw.run pos pins s σ H _ I h) fun ws s1 ⟨zs, H1, I1, r, l, q⟩ => ⟨I1.kIn, ?_⟩) hpl
  rw [hks]
  refine wpAny_call (codeAny_mono (F.run X.A X.stack s1 H1 ⟨[], ks.zip ws⟩ (gU ws) (gV zs) Q E hr I1.env0 (hb.to s1 ws I1.kIn (r.length.symm.trans l)) (hb.rel l r) q) fun r s' hq => ?_)
  cases r with
  | error e => exact hx pins σ H1 s1 e s' I1 hq
  | ok fl =>
    cases fl with
    | ret u => exact I1.after hq
    | next => exact False.elim hq
    | brk => exact False.elim hq
    | cont => exact False.elim hq
end
end Pk

namespace Pk
open PySem L2
open ClX (CRead CMet CVal)
def top (i : Nat) : Stmt := PySem.Challenge.pw_parcelindex_k17_whole_equal_markers.main.body.getD i (.Pass ⟨0, 0, 0, 0⟩)
abbrev s_is_whole : Stmt := top 3
abbrev N_is_whole : List Str := ["thing"]
abbrev P_is_whole : List Str := ["thing"]
theorem S_is_whole : FnScope N_is_whole P_is_whole (defScope s_is_whole) := ⟨rfl, rfl, rfl, by decide +kernel, rfl, by decide +kernel, by decide +kernel⟩
abbrev s_is_count : Stmt := top 4
abbrev N_is_count : List Str := ["thing"]
abbrev P_is_count : List Str := ["thing"]
theorem S_is_count : FnScope N_is_count P_is_count (defScope s_is_count) := ⟨rfl, rfl, rfl, by decide +kernel, rfl, by decide +kernel, by decide +kernel⟩
abbrev s_is_whole_to : Stmt := top 5
abbrev N_is_whole_to : List Str := ["thing", "last"]
abbrev P_is_whole_to : List Str := ["thing", "last"]
theorem S_is_whole_to : FnScope N_is_whole_to P_is_whole_to (defScope s_is_whole_to) := ⟨rfl, rfl, rfl, by decide +kernel, rfl, by decide +kernel, by decide +kernel⟩
abbrev s_consists_of : Stmt := top 6
abbrev N_consists_of : List Str := ["text", "signs", "sign"]
abbrev P_consists_of : List Str := ["text", "signs"]
theorem S_consists_of : FnScope N_consists_of P_consists_of (defScope s_consists_of) := ⟨rfl, rfl, rfl, by decide +kernel, rfl, by decide +kernel, by decide +kernel⟩
abbrev s_is_string_of : Stmt := top 7
abbrev N_is_string_of : List Str := ["thing", "signs", "most"]
abbrev P_is_string_of : List Str := ["thing", "signs", "most"]
theorem S_is_string_of : FnScope N_is_string_of P_is_string_of (defScope s_is_string_of) := ⟨rfl, rfl, rfl, by decide +kernel, rfl, by decide +kernel, by decide +kernel⟩
abbrev s_number_in : Stmt := top 8
abbrev N_number_in : List Str := ["text", "last", "number"]
abbrev P_number_in : List Str := ["text", "last"]
theorem S_number_in : FnScope N_number_in P_number_in (defScope s_number_in) := ⟨rfl, rfl, rfl, by decide +kernel, rfl, by decide +kernel, by decide +kernel⟩
abbrev s_is_word : Stmt := top 14
abbrev N_is_word : List Str := ["thing"]
abbrev P_is_word : List Str := ["thing"]
theorem S_is_word : FnScope N_is_word P_is_word (defScope s_is_word) := ⟨rfl, rfl, rfl, by decide +kernel, rfl, by decide +kernel, by decide +kernel⟩
abbrev s_place_of_word : Stmt := top 16
abbrev N_place_of_word : List Str := ["word", "place", "letter"]
abbrev P_place_of_word : List Str := ["word"]
theorem S_place_of_word : FnScope N_place_of_word P_place_of_word (defScope s_place_of_word) := ⟨rfl, rfl, rfl, by decide +kernel, rfl, by decide +kernel, by decide +kernel⟩
abbrev s_word_at : Stmt := top 17
abbrev N_word_at : List Str := ["place", "word", "letter"]
abbrev P_word_at : List Str := ["place"]
theorem S_word_at : FnScope N_word_at P_word_at (defScope s_word_at) := ⟨rfl, rfl, rfl, by decide +kernel, rfl, by decide +kernel, by decide +kernel⟩
abbrev s_place_of : Stmt := top 21
abbrev N_place_of : List Str := ["system", "machine", "level"]
abbrev P_place_of : List Str := ["system", "machine", "level"]
theorem S_place_of : FnScope N_place_of P_place_of (defScope s_place_of) := ⟨rfl, rfl, rfl, by decide +kernel, rfl, by decide +kernel, by decide +kernel⟩
abbrev s_Environment_init : Stmt := inClass (top 24) 0
abbrev N_Environment_init : List Str := ["self", "system", "machine", "level"]
abbrev P_Environment_init : List Str := ["self", "system", "machine", "level"]
theorem S_Environment_init : FnScope N_Environment_init P_Environment_init (defScope s_Environment_init) := ⟨rfl, rfl, rfl, by decide +kernel, rfl, by decide +kernel, by decide +kernel⟩
abbrev s_Environment_eq : Stmt := inClass (top 24) 5
abbrev N_Environment_eq : List Str := ["self", "other"]
abbrev P_Environment_eq : List Str := ["self", "other"]
theorem S_Environment_eq : FnScope N_Environment_eq P_Environment_eq (defScope s_Environment_eq) := ⟨rfl, rfl, rfl, by decide +kernel, rfl, by decide +kernel, by decide +kernel⟩
abbrev s_token_at : Stmt := top 32
abbrev N_token_at : List Str := ["text", "at", "signs", "end", "sign"]
abbrev P_token_at : List Str := ["text", "at"]
theorem S_token_at : FnScope N_token_at P_token_at (defScope s_token_at) := ⟨rfl, rfl, rfl, by decide +kernel, rfl, by decide +kernel, by decide +kernel⟩
abbrev s_tokens_of : Stmt := top 33
abbrev N_tokens_of : List Str := ["text", "tokens", "at", "token"]
abbrev P_tokens_of : List Str := ["text"]
theorem S_tokens_of : FnScope N_tokens_of P_tokens_of (defScope s_tokens_of) := ⟨rfl, rfl, rfl, by decide +kernel, rfl, by decide +kernel, by decide +kernel⟩
abbrev s_comparison_of : Stmt := top 34
abbrev N_comparison_of : List Str := ["tokens", "word", "sign", "worth", "number"]
abbrev P_comparison_of : List Str := ["tokens"]
theorem S_comparison_of : FnScope N_comparison_of P_comparison_of (defScope s_comparison_of) := ⟨rfl, rfl, rfl, by decide +kernel, rfl, by decide +kernel, by decide +kernel⟩
abbrev s_terms_of : Stmt := top 35
abbrev N_terms_of : List Str := ["tokens", "terms", "at", "term"]
abbrev P_terms_of : List Str := ["tokens"]
theorem S_terms_of : FnScope N_terms_of P_terms_of (defScope s_terms_of) := ⟨rfl, rfl, rfl, by decide +kernel, rfl, by decide +kernel, by decide +kernel⟩
abbrev s_expression_of : Stmt := top 36
abbrev N_expression_of : List Str := ["terms", "steps", "held", "wanted", "term", "word"]
abbrev P_expression_of : List Str := ["terms"]
theorem S_expression_of : FnScope N_expression_of P_expression_of (defScope s_expression_of) := ⟨rfl, rfl, rfl, by decide +kernel, rfl, by decide +kernel, by decide +kernel⟩
abbrev s_expression_in : Stmt := top 37
abbrev N_expression_in : List Str := ["thing", "tokens", "terms"]
abbrev P_expression_in : List Str := ["thing"]
theorem S_expression_in : FnScope N_expression_in P_expression_in (defScope s_expression_in) := ⟨rfl, rfl, rfl, by decide +kernel, rfl, by decide +kernel, by decide +kernel⟩
abbrev s_text_within : Stmt := top 38
abbrev N_text_within : List Str := ["text", "binding", "least"]
abbrev P_text_within : List Str := ["text", "binding", "least"]
theorem S_text_within : FnScope N_text_within P_text_within (defScope s_text_within) := ⟨rfl, rfl, rfl, by decide +kernel, rfl, by decide +kernel, by decide +kernel⟩
abbrev s_text_of_operand : Stmt := top 39
abbrev N_text_of_operand : List Str := ["word", "sign", "worth"]
abbrev P_text_of_operand : List Str := ["word", "sign", "worth"]
theorem S_text_of_operand : FnScope N_text_of_operand P_text_of_operand (defScope s_text_of_operand) := ⟨rfl, rfl, rfl, by decide +kernel, rfl, by decide +kernel, by decide +kernel⟩
abbrev s_text_of_expression : Stmt := top 40
abbrev N_text_of_expression : List Str := ["steps", "held", "word", "sign", "worth", "binding", "text", "inner", "last", "last_binding", "first", "first_binding", "before", "behind"]
abbrev P_text_of_expression : List Str := ["steps"]
theorem S_text_of_expression : FnScope N_text_of_expression P_text_of_expression (defScope s_text_of_expression) := ⟨rfl, rfl, rfl, by decide +kernel, rfl, by decide +kernel, by decide +kernel⟩
abbrev s_compares : Stmt := top 45
abbrev N_compares : List Str := ["sign", "one", "other"]
abbrev P_compares : List Str := ["sign", "one", "other"]
theorem S_compares : FnScope N_compares P_compares (defScope s_compares) := ⟨rfl, rfl, rfl, by decide +kernel, rfl, by decide +kernel, by decide +kernel⟩
abbrev s_holds_at : Stmt := top 46
abbrev N_holds_at : List Str := ["steps", "spot", "system", "machine", "level", "facts", "held", "word", "sign", "worth", "last", "first"]
abbrev P_holds_at : List Str := ["steps", "spot"]
theorem S_holds_at : FnScope N_holds_at P_holds_at (defScope s_holds_at) := ⟨rfl, rfl, rfl, by decide +kernel, rfl, by decide +kernel, by decide +kernel⟩
abbrev s_words_to_look_at : Stmt := top 47
abbrev N_words_to_look_at : List Str := ["rows", "field", "mentioned", "steps", "word", "_", "worth", "other", "places", "place"]
abbrev P_words_to_look_at : List Str := ["rows", "field"]
theorem S_words_to_look_at : FnScope N_words_to_look_at P_words_to_look_at (defScope s_words_to_look_at) := ⟨rfl, rfl, rfl, by decide +kernel, rfl, by decide +kernel, by decide +kernel⟩
abbrev s_levels_to_look_at : Stmt := top 48
abbrev N_levels_to_look_at : List Str := ["rows", "found", "steps", "word", "_", "worth", "level"]
abbrev P_levels_to_look_at : List Str := ["rows"]
theorem S_levels_to_look_at : FnScope N_levels_to_look_at P_levels_to_look_at (defScope s_levels_to_look_at) := ⟨rfl, rfl, rfl, by decide +kernel, rfl, by decide +kernel, by decide +kernel⟩
abbrev s_spots_to_look_at : Stmt := top 49
abbrev N_spots_to_look_at : List Str := ["rows", "systems", "machines", "levels", "system", "machine", "level"]
abbrev P_spots_to_look_at : List Str := ["rows"]
theorem S_spots_to_look_at : FnScope N_spots_to_look_at P_spots_to_look_at (defScope s_spots_to_look_at) := ⟨rfl, rfl, rfl, by decide +kernel, rfl, by decide +kernel, by decide +kernel⟩
abbrev s_answers_at : Stmt := top 50
abbrev N_answers_at : List Str := ["rows", "spot", "steps"]
abbrev P_answers_at : List Str := ["rows", "spot"]
theorem S_answers_at : FnScope N_answers_at P_answers_at (defScope s_answers_at) := ⟨rfl, rfl, rfl, by decide +kernel, rfl, by decide +kernel, by decide +kernel⟩
abbrev s_first_spot : Stmt := top 51
abbrev N_first_spot : List Str := ["rows", "wanted", "spot"]
abbrev P_first_spot : List Str := ["rows", "wanted"]
theorem S_first_spot : FnScope N_first_spot P_first_spot (defScope s_first_spot) := ⟨rfl, rfl, rfl, by decide +kernel, rfl, by decide +kernel, by decide +kernel⟩
abbrev s_environment_at : Stmt := top 52
abbrev N_environment_at : List Str := ["spot", "system", "machine", "level"]
abbrev P_environment_at : List Str := ["spot"]
theorem S_environment_at : FnScope N_environment_at P_environment_at (defScope s_environment_at) := ⟨rfl, rfl, rfl, by decide +kernel, rfl, by decide +kernel, by decide +kernel⟩
abbrev s_Marker_init : Stmt := inClass (top 54) 0
abbrev N_Marker_init : List Str := ["self", "text", "steps"]
abbrev P_Marker_init : List Str := ["self", "text"]
theorem S_Marker_init : FnScope N_Marker_init P_Marker_init (defScope s_Marker_init) := ⟨rfl, rfl, rfl, by decide +kernel, rfl, by decide +kernel, by decide +kernel⟩
abbrev s_Marker_eq : Stmt := inClass (top 54) 5
abbrev N_Marker_eq : List Str := ["self", "other"]
abbrev P_Marker_eq : List Str := ["self", "other"]
theorem S_Marker_eq : FnScope N_Marker_eq P_Marker_eq (defScope s_Marker_eq) := ⟨rfl, rfl, rfl, by decide +kernel, rfl, by decide +kernel, by decide +kernel⟩
abbrev s_Marker_le : Stmt := inClass (top 54) 6
abbrev N_Marker_le : List Str := ["self", "other"]
abbrev P_Marker_le : List Str := ["self", "other"]
theorem S_Marker_le : FnScope N_Marker_le P_Marker_le (defScope s_Marker_le) := ⟨rfl, rfl, rfl, by decide +kernel, rfl, by decide +kernel, by decide +kernel⟩
abbrev s_Marker_bool : Stmt := inClass (top 54) 7
abbrev N_Marker_bool : List Str := ["self"]
abbrev P_Marker_bool : List Str := ["self"]
theorem S_Marker_bool : FnScope N_Marker_bool P_Marker_bool (defScope s_Marker_bool) := ⟨rfl, rfl, rfl, by decide +kernel, rfl, by decide +kernel, by decide +kernel⟩
abbrev s_Marker_str : Stmt := inClass (top 54) 8
abbrev N_Marker_str : List Str := ["self"]
abbrev P_Marker_str : List Str := ["self"]
theorem S_Marker_str : FnScope N_Marker_str P_Marker_str (defScope s_Marker_str) := ⟨rfl, rfl, rfl, by decide +kernel, rfl, by decide +kernel, by decide +kernel⟩
abbrev s_check_markers : Stmt := top 55
abbrev N_check_markers : List Str := ["markers", "marker"]
abbrev P_check_markers : List Str := ["markers"]
theorem S_check_markers : FnScope N_check_markers P_check_markers (defScope s_check_markers) := ⟨rfl, rfl, rfl, by decide +kernel, rfl, by decide +kernel, by decide +kernel⟩
abbrev s_apart : Stmt := top 56
abbrev N_apart : List Str := ["one", "other"]
abbrev P_apart : List Str := ["one", "other"]
theorem S_apart : FnScope N_apart P_apart (defScope s_apart) := ⟨rfl, rfl, rfl, by decide +kernel, rfl, by decide +kernel, by decide +kernel⟩
abbrev s_begin : Stmt := top 58
abbrev N_begin : List Str := ["_law_script"]
abbrev P_begin : List Str := ["_law_script"]
theorem S_begin : FnScope N_begin P_begin (defScope s_begin) := ⟨rfl, rfl, rfl, by decide +kernel, rfl, by decide +kernel, by decide +kernel⟩
abbrev s_mixed : Stmt := top 59
abbrev N_mixed : List Str := ["_law_cell", "_law_k", "_law_mixed_here"]
abbrev P_mixed : List Str := ["_law_cell", "_law_k"]
theorem S_mixed : FnScope N_mixed P_mixed (defScope s_mixed) := ⟨rfl, rfl, rfl, by decide +kernel, rfl, by decide +kernel, by decide +kernel⟩
abbrev s_next : Stmt := top 60
abbrev N_next : List Str := ["_law_draw", "_law_bound", "_law_found", "_law_known", "_law_cell"]
abbrev P_next : List Str := ["_law_draw", "_law_bound"]
theorem S_next : FnScope N_next P_next (defScope s_next) := ⟨rfl, rfl, rfl, by decide +kernel, rfl, by decide +kernel, by decide +kernel⟩
abbrev s_tree : Stmt := top 61
abbrev N_tree : List Str := ["_law_draw", "_law_deep", "_law_way", "_law_names_here", "_law_signs"]
abbrev P_tree : List Str := ["_law_draw", "_law_deep"]
theorem S_tree : FnScope N_tree P_tree (defScope s_tree) := ⟨rfl, rfl, rfl, by decide +kernel, rfl, by decide +kernel, by decide +kernel⟩
abbrev s_written : Stmt := top 62
abbrev N_written : List Str := ["_law_tree_here", "_law_inner", "_law_found", "_law_part"]
abbrev P_written : List Str := ["_law_tree_here"]
theorem S_written : FnScope N_written P_written (defScope s_written) := ⟨rfl, rfl, rfl, by decide +kernel, rfl, by decide +kernel, by decide +kernel⟩
abbrev s_holds : Stmt := top 63
abbrev N_holds : List Str := ["_law_tree_here", "_law_spot", "_law_one", "_law_far", "_law_own", "_law_value"]
abbrev P_holds : List Str := ["_law_tree_here", "_law_spot"]
theorem S_holds : FnScope N_holds P_holds (defScope s_holds) := ⟨rfl, rfl, rfl, by decide +kernel, rfl, by decide +kernel, by decide +kernel⟩
abbrev s_values : Stmt := top 64
abbrev N_values : List Str := ["_law_tree_here", "_law_field", "_law_found", "_law_part"]
abbrev P_values : List Str := ["_law_tree_here", "_law_field"]
theorem S_values : FnScope N_values P_values (defScope s_values) := ⟨rfl, rfl, rfl, by decide +kernel, rfl, by decide +kernel, by decide +kernel⟩
abbrev s_in_order : Stmt := top 65
abbrev N_in_order : List Str := ["_law_names_here", "_law_known", "_law_found", "_law_one", "_law_size"]
abbrev P_in_order : List Str := ["_law_names_here"]
theorem S_in_order : FnScope N_in_order P_in_order (defScope s_in_order) := ⟨rfl, rfl, rfl, by decide +kernel, rfl, by decide +kernel, by decide +kernel⟩
abbrev s_grid : Stmt := top 66
abbrev N_grid : List Str := ["_law_trees", "_law_sides", "_law_field", "_law_known", "_law_tree_here", "_law_free", "_law_steps", "_law_value", "_law_near", "_law_found", "_law_one", "_law_far", "_law_sign", "_law_step"]
abbrev P_grid : List Str := ["_law_trees"]
theorem S_grid : FnScope N_grid P_grid (defScope s_grid) := ⟨rfl, rfl, rfl, by decide +kernel, rfl, by decide +kernel, by decide +kernel⟩
abbrev s_environment : Stmt := top 67
abbrev N_environment : List Str := ["_law_spot"]
abbrev P_environment : List Str := ["_law_spot"]
theorem S_environment : FnScope N_environment P_environment (defScope s_environment) := ⟨rfl, rfl, rfl, by decide +kernel, rfl, by decide +kernel, by decide +kernel⟩
abbrev s_same : Stmt := top 68
abbrev N_same : List Str := ["_law_draw", "_law_tree_here", "_law_way"]
abbrev P_same : List Str := ["_law_draw", "_law_tree_here"]
theorem S_same : FnScope N_same P_same (defScope s_same) := ⟨rfl, rfl, rfl, by decide +kernel, rfl, by decide +kernel, by decide +kernel⟩
abbrev s_right : Stmt := top 69
abbrev N_right : List Str := ["_law_one", "_law_far", "_law_near", "_law_other", "_law_grid_here", "_law_rows", "_law_parted", "_law_due", "_law_told", "_law_spot", "_law_first", "_law_last", "_law_place", "_law_thing"]
abbrev P_right : List Str := ["_law_one", "_law_far"]
theorem S_right : FnScope N_right P_right (defScope s_right) := ⟨rfl, rfl, rfl, by decide +kernel, rfl, by decide +kernel, by decide +kernel⟩
abbrev s_law : Stmt := top 70
abbrev N_law : List Str := ["_law_script", "_law_draw", "_law_bout", "_law_one", "_law_far"]
abbrev P_law : List Str := ["_law_script"]
theorem S_law : FnScope N_law P_law (defScope s_law) := ⟨rfl, rfl, rfl, by decide +kernel, rfl, by decide +kernel, by decide +kernel⟩
abbrev s_BadEnvironment_init : Stmt := inClass (top 11) 0
abbrev N_BadEnvironment_init : List Str := ["self", "given"]
abbrev P_BadEnvironment_init : List Str := ["self", "given"]
theorem S_BadEnvironment_init : FnScope N_BadEnvironment_init P_BadEnvironment_init (defScope s_BadEnvironment_init) := ⟨rfl, rfl, rfl, by decide +kernel, rfl, by decide +kernel, by decide +kernel⟩
abbrev s_BadMarker_init : Stmt := inClass (top 12) 0
abbrev N_BadMarker_init : List Str := ["self", "given"]
abbrev P_BadMarker_init : List Str := ["self", "given"]
theorem S_BadMarker_init : FnScope N_BadMarker_init P_BadMarker_init (defScope s_BadMarker_init) := ⟨rfl, rfl, rfl, by decide +kernel, rfl, by decide +kernel, by decide +kernel⟩
structure Ad where
  a_is_whole : Addr
  d_is_whole : FuncData
  a_is_count : Addr
  d_is_count : FuncData
  a_is_whole_to : Addr
  d_is_whole_to : FuncData
  a_consists_of : Addr
  d_consists_of : FuncData
  a_is_string_of : Addr
  d_is_string_of : FuncData
  a_number_in : Addr
  d_number_in : FuncData
  a_is_word : Addr
  d_is_word : FuncData
  a_place_of_word : Addr
  d_place_of_word : FuncData
  a_word_at : Addr
  d_word_at : FuncData
  a_place_of : Addr
  d_place_of : FuncData
  a_Environment_init : Addr
  d_Environment_init : FuncData
  a_Environment_eq : Addr
  d_Environment_eq : FuncData
  a_token_at : Addr
  d_token_at : FuncData
  a_tokens_of : Addr
  d_tokens_of : FuncData
  a_comparison_of : Addr
  d_comparison_of : FuncData
  a_terms_of : Addr
  d_terms_of : FuncData
  a_expression_of : Addr
  d_expression_of : FuncData
  a_expression_in : Addr
  d_expression_in : FuncData
  a_text_within : Addr
  d_text_within : FuncData
  a_text_of_operand : Addr
  d_text_of_operand : FuncData
  a_text_of_expression : Addr
  d_text_of_expression : FuncData
  a_compares : Addr
  d_compares : FuncData
  a_holds_at : Addr
  d_holds_at : FuncData
  a_words_to_look_at : Addr
  d_words_to_look_at : FuncData
  a_levels_to_look_at : Addr
  d_levels_to_look_at : FuncData
  a_spots_to_look_at : Addr
  d_spots_to_look_at : FuncData
  a_answers_at : Addr
  d_answers_at : FuncData
  a_first_spot : Addr
  d_first_spot : FuncData
  a_environment_at : Addr
  d_environment_at : FuncData
  a_Marker_init : Addr
  d_Marker_init : FuncData
  a_Marker_eq : Addr
  d_Marker_eq : FuncData
  a_Marker_le : Addr
  d_Marker_le : FuncData
  a_Marker_bool : Addr
  d_Marker_bool : FuncData
  a_Marker_str : Addr
  d_Marker_str : FuncData
  a_check_markers : Addr
  d_check_markers : FuncData
  a_apart : Addr
  d_apart : FuncData
  a_begin : Addr
  d_begin : FuncData
  a_mixed : Addr
  d_mixed : FuncData
  a_next : Addr
  d_next : FuncData
  a_tree : Addr
  d_tree : FuncData
  a_written : Addr
  d_written : FuncData
  a_holds : Addr
  d_holds : FuncData
  a_values : Addr
  d_values : FuncData
  a_in_order : Addr
  d_in_order : FuncData
  a_grid : Addr
  d_grid : FuncData
  a_environment : Addr
  d_environment : FuncData
  a_same : Addr
  d_same : FuncData
  a_right : Addr
  d_right : FuncData
  a_law : Addr
  d_law : FuncData
  a_BadEnvironment_init : Addr
  d_BadEnvironment_init : FuncData
  a_BadMarker_init : Addr
  d_BadMarker_init : FuncData
  a_Environment : Addr
  a_Marker : Addr
  a_BadMarker : Addr
  a_BadEnvironment : Addr
  k_BINDINGS : Addr
  k_SIGNS : Addr
  k_LEVEL_SIGNS : Addr
  k_FIELDS : Addr
  k_OPERANDS : Addr
  k_NOT : Addr
  k_NOT0 : Addr
  k_AND : Addr
  k_AND0 : Addr
  k_OR : Addr
  k_OR0 : Addr
  t_LETTERS : Tok
  t_DIGITS : Tok
  t_HIGHEST : Tok
  t_WORDS : Tok
  t_TIGHTEST : Tok
structure TexW (w : World) (K : PySem.W.Frag) (mg : Str → Option Value) (D : Ad) : Prop where
  is_whole_F : Fun K "is_whole" "is_whole" s_is_whole D.a_is_whole D.d_is_whole
  is_whole_g : mg "is_whole" = some (.ref D.a_is_whole)
  is_whole_b : Binds K D.d_is_whole P_is_whole []
  is_count_F : Fun K "is_count" "is_count" s_is_count D.a_is_count D.d_is_count
  is_count_g : mg "is_count" = some (.ref D.a_is_count)
  is_count_b : Binds K D.d_is_count P_is_count []
  is_whole_to_F : Fun K "is_whole_to" "is_whole_to" s_is_whole_to D.a_is_whole_to D.d_is_whole_to
  is_whole_to_g : mg "is_whole_to" = some (.ref D.a_is_whole_to)
  is_whole_to_b : Binds K D.d_is_whole_to P_is_whole_to []
  consists_of_F : Fun K "consists_of" "consists_of" s_consists_of D.a_consists_of D.d_consists_of
  consists_of_g : mg "consists_of" = some (.ref D.a_consists_of)
  consists_of_b : Binds K D.d_consists_of P_consists_of []
  is_string_of_F : Fun K "is_string_of" "is_string_of" s_is_string_of D.a_is_string_of D.d_is_string_of
  is_string_of_g : mg "is_string_of" = some (.ref D.a_is_string_of)
  is_string_of_b : Binds K D.d_is_string_of P_is_string_of []
  number_in_F : Fun K "number_in" "number_in" s_number_in D.a_number_in D.d_number_in
  number_in_g : mg "number_in" = some (.ref D.a_number_in)
  number_in_b : Binds K D.d_number_in P_number_in []
  is_word_F : Fun K "is_word" "is_word" s_is_word D.a_is_word D.d_is_word
  is_word_g : mg "is_word" = some (.ref D.a_is_word)
  is_word_b : Binds K D.d_is_word P_is_word []
  place_of_word_F : Fun K "place_of_word" "place_of_word" s_place_of_word D.a_place_of_word D.d_place_of_word
  place_of_word_g : mg "place_of_word" = some (.ref D.a_place_of_word)
  place_of_word_b : Binds K D.d_place_of_word P_place_of_word []
  word_at_F : Fun K "word_at" "word_at" s_word_at D.a_word_at D.d_word_at
  word_at_g : mg "word_at" = some (.ref D.a_word_at)
  word_at_b : Binds K D.d_word_at P_word_at []
  place_of_F : Fun K "place_of" "place_of" s_place_of D.a_place_of D.d_place_of
  place_of_g : mg "place_of" = some (.ref D.a_place_of)
  place_of_b : Binds K D.d_place_of P_place_of []
  Environment_init_F : FunD K "__init__" "Environment.__init__" (defArgs s_Environment_init) (defBody s_Environment_init) (defScope s_Environment_init) [] [("system", .str "a"), ("machine", .str "a"), ("level", .int 0)] D.a_Environment_init D.d_Environment_init
  Environment_init_b0 : ∃ ds : List Value, Vals [.str "a", .str "a", .int 0] ds ∧ Binds K D.d_Environment_init P_Environment_init ds
  Environment_eq_F : Fun K "__eq__" "Environment.__eq__" s_Environment_eq D.a_Environment_eq D.d_Environment_eq
  Environment_eq_b : Binds K D.d_Environment_eq P_Environment_eq []
  token_at_F : Fun K "token_at" "token_at" s_token_at D.a_token_at D.d_token_at
  token_at_g : mg "token_at" = some (.ref D.a_token_at)
  token_at_b : Binds K D.d_token_at P_token_at []
  tokens_of_F : Fun K "tokens_of" "tokens_of" s_tokens_of D.a_tokens_of D.d_tokens_of
  tokens_of_g : mg "tokens_of" = some (.ref D.a_tokens_of)
  tokens_of_b : Binds K D.d_tokens_of P_tokens_of []
  comparison_of_F : Fun K "comparison_of" "comparison_of" s_comparison_of D.a_comparison_of D.d_comparison_of
  comparison_of_g : mg "comparison_of" = some (.ref D.a_comparison_of)
  comparison_of_b : Binds K D.d_comparison_of P_comparison_of []
  terms_of_F : Fun K "terms_of" "terms_of" s_terms_of D.a_terms_of D.d_terms_of
  terms_of_g : mg "terms_of" = some (.ref D.a_terms_of)
  terms_of_b : Binds K D.d_terms_of P_terms_of []
  expression_of_F : Fun K "expression_of" "expression_of" s_expression_of D.a_expression_of D.d_expression_of
  expression_of_g : mg "expression_of" = some (.ref D.a_expression_of)
  expression_of_b : Binds K D.d_expression_of P_expression_of []
  expression_in_F : Fun K "expression_in" "expression_in" s_expression_in D.a_expression_in D.d_expression_in
  expression_in_g : mg "expression_in" = some (.ref D.a_expression_in)
  expression_in_b : Binds K D.d_expression_in P_expression_in []
  text_within_F : Fun K "text_within" "text_within" s_text_within D.a_text_within D.d_text_within
  text_within_g : mg "text_within" = some (.ref D.a_text_within)
  text_within_b : Binds K D.d_text_within P_text_within []
  text_of_operand_F : Fun K "text_of_operand" "text_of_operand" s_text_of_operand D.a_text_of_operand D.d_text_of_operand
  text_of_operand_g : mg "text_of_operand" = some (.ref D.a_text_of_operand)
  text_of_operand_b : Binds K D.d_text_of_operand P_text_of_operand []
  text_of_expression_F : Fun K "text_of_expression" "text_of_expression" s_text_of_expression D.a_text_of_expression D.d_text_of_expression
  text_of_expression_g : mg "text_of_expression" = some (.ref D.a_text_of_expression)
  text_of_expression_b : Binds K D.d_text_of_expression P_text_of_expression []
  compares_F : Fun K "compares" "compares" s_compares D.a_compares D.d_compares
  compares_g : mg "compares" = some (.ref D.a_compares)
  compares_b : Binds K D.d_compares P_compares []
  holds_at_F : Fun K "holds_at" "holds_at" s_holds_at D.a_holds_at D.d_holds_at
  holds_at_g : mg "holds_at" = some (.ref D.a_holds_at)
  holds_at_b : Binds K D.d_holds_at P_holds_at []
  words_to_look_at_F : Fun K "words_to_look_at" "words_to_look_at" s_words_to_look_at D.a_words_to_look_at D.d_words_to_look_at
  words_to_look_at_g : mg "words_to_look_at" = some (.ref D.a_words_to_look_at)
  words_to_look_at_b : Binds K D.d_words_to_look_at P_words_to_look_at []
  levels_to_look_at_F : Fun K "levels_to_look_at" "levels_to_look_at" s_levels_to_look_at D.a_levels_to_look_at D.d_levels_to_look_at
  levels_to_look_at_g : mg "levels_to_look_at" = some (.ref D.a_levels_to_look_at)
  levels_to_look_at_b : Binds K D.d_levels_to_look_at P_levels_to_look_at []
  spots_to_look_at_F : Fun K "spots_to_look_at" "spots_to_look_at" s_spots_to_look_at D.a_spots_to_look_at D.d_spots_to_look_at
  spots_to_look_at_g : mg "spots_to_look_at" = some (.ref D.a_spots_to_look_at)
  spots_to_look_at_b : Binds K D.d_spots_to_look_at P_spots_to_look_at []
  answers_at_F : Fun K "answers_at" "answers_at" s_answers_at D.a_answers_at D.d_answers_at
  answers_at_g : mg "answers_at" = some (.ref D.a_answers_at)
  answers_at_b : Binds K D.d_answers_at P_answers_at []
  first_spot_F : Fun K "first_spot" "first_spot" s_first_spot D.a_first_spot D.d_first_spot
  first_spot_g : mg "first_spot" = some (.ref D.a_first_spot)
  first_spot_b : Binds K D.d_first_spot P_first_spot []
  environment_at_F : Fun K "environment_at" "environment_at" s_environment_at D.a_environment_at D.d_environment_at
  environment_at_g : mg "environment_at" = some (.ref D.a_environment_at)
  environment_at_b : Binds K D.d_environment_at P_environment_at []
  Marker_init_F : FunD K "__init__" "Marker.__init__" (defArgs s_Marker_init) (defBody s_Marker_init) (defScope s_Marker_init) [.str "always"] [] D.a_Marker_init D.d_Marker_init
  Marker_init_b : Binds K D.d_Marker_init P_Marker_init []
  Marker_init_b0 : ∃ ds : List Value, Vals [.str "always"] ds ∧ Binds K D.d_Marker_init P_Marker_init ds
  Marker_eq_F : Fun K "__eq__" "Marker.__eq__" s_Marker_eq D.a_Marker_eq D.d_Marker_eq
  Marker_eq_b : Binds K D.d_Marker_eq P_Marker_eq []
  Marker_le_F : Fun K "__le__" "Marker.__le__" s_Marker_le D.a_Marker_le D.d_Marker_le
  Marker_le_b : Binds K D.d_Marker_le P_Marker_le []
  Marker_bool_F : Fun K "__bool__" "Marker.__bool__" s_Marker_bool D.a_Marker_bool D.d_Marker_bool
  Marker_bool_b : Binds K D.d_Marker_bool P_Marker_bool []
  Marker_str_F : Fun K "__str__" "Marker.__str__" s_Marker_str D.a_Marker_str D.d_Marker_str
  Marker_str_b : Binds K D.d_Marker_str P_Marker_str []
  check_markers_F : Fun K "check_markers" "check_markers" s_check_markers D.a_check_markers D.d_check_markers
  check_markers_g : mg "check_markers" = some (.ref D.a_check_markers)
  check_markers_b : Binds K D.d_check_markers P_check_markers []
  apart_F : Fun K "apart" "apart" s_apart D.a_apart D.d_apart
  apart_g : mg "apart" = some (.ref D.a_apart)
  apart_b : Binds K D.d_apart P_apart []
  begin_F : Fun K "_law_begin" "_law_begin" s_begin D.a_begin D.d_begin
  begin_g : mg "_law_begin" = some (.ref D.a_begin)
  begin_b : Binds K D.d_begin P_begin []
  mixed_F : Fun K "_law_mixed" "_law_mixed" s_mixed D.a_mixed D.d_mixed
  mixed_g : mg "_law_mixed" = some (.ref D.a_mixed)
  mixed_b : Binds K D.d_mixed P_mixed []
  next_F : Fun K "_law_next" "_law_next" s_next D.a_next D.d_next
  next_g : mg "_law_next" = some (.ref D.a_next)
  next_b : Binds K D.d_next P_next []
  tree_F : Fun K "_law_tree" "_law_tree" s_tree D.a_tree D.d_tree
  tree_g : mg "_law_tree" = some (.ref D.a_tree)
  tree_b : Binds K D.d_tree P_tree []
  written_F : Fun K "_law_written" "_law_written" s_written D.a_written D.d_written
  written_g : mg "_law_written" = some (.ref D.a_written)
  written_b : Binds K D.d_written P_written []
  holds_F : Fun K "_law_holds" "_law_holds" s_holds D.a_holds D.d_holds
  holds_g : mg "_law_holds" = some (.ref D.a_holds)
  holds_b : Binds K D.d_holds P_holds []
  values_F : Fun K "_law_values" "_law_values" s_values D.a_values D.d_values
  values_g : mg "_law_values" = some (.ref D.a_values)
  values_b : Binds K D.d_values P_values []
  in_order_F : Fun K "_law_in_order" "_law_in_order" s_in_order D.a_in_order D.d_in_order
  in_order_g : mg "_law_in_order" = some (.ref D.a_in_order)
  in_order_b : Binds K D.d_in_order P_in_order []
  grid_F : Fun K "_law_grid" "_law_grid" s_grid D.a_grid D.d_grid
  grid_g : mg "_law_grid" = some (.ref D.a_grid)
  grid_b : Binds K D.d_grid P_grid []
  environment_F : Fun K "_law_environment" "_law_environment" s_environment D.a_environment D.d_environment
  environment_g : mg "_law_environment" = some (.ref D.a_environment)
  environment_b : Binds K D.d_environment P_environment []
  same_F : Fun K "_law_same" "_law_same" s_same D.a_same D.d_same
  same_g : mg "_law_same" = some (.ref D.a_same)
  same_b : Binds K D.d_same P_same []
  right_F : Fun K "_law_right" "_law_right" s_right D.a_right D.d_right
  right_g : mg "_law_right" = some (.ref D.a_right)
  right_b : Binds K D.d_right P_right []
  law_F : Fun K "law" "law" s_law D.a_law D.d_law
  law_g : mg "law" = some (.ref D.a_law)
  law_b : Binds K D.d_law P_law []
  BadEnvironment_init_F : Fun K "__init__" "BadEnvironment.__init__" s_BadEnvironment_init D.a_BadEnvironment_init D.d_BadEnvironment_init
  BadEnvironment_init_b : Binds K D.d_BadEnvironment_init P_BadEnvironment_init []
  BadMarker_init_F : Fun K "__init__" "BadMarker.__init__" s_BadMarker_init D.a_BadMarker_init D.d_BadMarker_init
  BadMarker_init_b : Binds K D.d_BadMarker_init P_BadMarker_init []
  Environment_g : mg "Environment" = some (.ref D.a_Environment)
  Environment_cl : Cls K D.a_Environment
  Environment_mk : Mk K D.a_Environment D.a_Environment_init
  Environment_rd : CRead K D.a_Environment (.type "type")
  Environment_si : SlX.SIsi K D.a_Environment
  Environment_nf : PySem.W.notFirst K D.a_Environment (.ref D.a_Environment) = true
  Environment_n_system : NoAttr K D.a_Environment "_system"
  Environment_n_machine : NoAttr K D.a_Environment "_machine"
  Environment_n_level : NoAttr K D.a_Environment "_level"
  Environment_n_place : NoAttr K D.a_Environment "_place"
  Environment_init_at : PySem.W.findIn K (.ref D.a_Environment) "__init__" = some (some (.ref D.a_Environment_init))
  Environment_init_fn : PySem.W.isFn K (.ref D.a_Environment_init) = true
  Environment_eq_at : PySem.W.findIn K (.ref D.a_Environment) "__eq__" = some (some (.ref D.a_Environment_eq))
  Environment_eq_fn : PySem.W.isFn K (.ref D.a_Environment_eq) = true
  Marker_g : mg "Marker" = some (.ref D.a_Marker)
  Marker_cl : Cls K D.a_Marker
  Marker_mk : Mk K D.a_Marker D.a_Marker_init
  Marker_rd : CRead K D.a_Marker (.type "type")
  Marker_si : SlX.SIsi K D.a_Marker
  Marker_nf : PySem.W.notFirst K D.a_Marker (.ref D.a_Marker) = true
  Marker_sf : PySem.W.selfFirst K D.a_Marker = true
  Marker_n_steps : NoAttr K D.a_Marker "_steps"
  Marker_init_at : PySem.W.findIn K (.ref D.a_Marker) "__init__" = some (some (.ref D.a_Marker_init))
  Marker_init_fn : PySem.W.isFn K (.ref D.a_Marker_init) = true
  Marker_eq_at : PySem.W.findIn K (.ref D.a_Marker) "__eq__" = some (some (.ref D.a_Marker_eq))
  Marker_eq_fn : PySem.W.isFn K (.ref D.a_Marker_eq) = true
  Marker_le_at : PySem.W.findIn K (.ref D.a_Marker) "__le__" = some (some (.ref D.a_Marker_le))
  Marker_le_fn : PySem.W.isFn K (.ref D.a_Marker_le) = true
  Marker_bool_at : PySem.W.findIn K (.ref D.a_Marker) "__bool__" = some (some (.ref D.a_Marker_bool))
  Marker_bool_fn : PySem.W.isFn K (.ref D.a_Marker_bool) = true
  Marker_str_at : PySem.W.findIn K (.ref D.a_Marker) "__str__" = some (some (.ref D.a_Marker_str))
  Marker_str_fn : PySem.W.isFn K (.ref D.a_Marker_str) = true
  BadMarker_g : mg "BadMarker" = some (.ref D.a_BadMarker)
  BadMarker_xa : ExA K D.a_BadMarker
  BadMarker_xi : PySem.W.findIn K (.ref D.a_BadMarker) "__init__" = some (some (.ref D.a_BadMarker_init))
  BadMarker_xt : PySem.W.typeIn K (.ref D.a_BadMarker_init) = some (.type "function")
  BadMarker_xf : PySem.W.findIn K (.ref D.a_BadMarker) "given" = some none
  BadEnvironment_g : mg "BadEnvironment" = some (.ref D.a_BadEnvironment)
  BadEnvironment_xa : ExA K D.a_BadEnvironment
  BadEnvironment_xi : PySem.W.findIn K (.ref D.a_BadEnvironment) "__init__" = some (some (.ref D.a_BadEnvironment_init))
  BadEnvironment_xt : PySem.W.typeIn K (.ref D.a_BadEnvironment_init) = some (.type "function")
  BadEnvironment_xf : PySem.W.findIn K (.ref D.a_BadEnvironment) "given" = some none
  Marker_ne_b : PySem.W.findIn K (.ref D.a_Marker) "__ne__" = some (some (.builtin "object.__ne__"))
  Environment_ne_b : PySem.W.findIn K (.ref D.a_Environment) "__ne__" = some (some (.builtin "object.__ne__"))
  Environment_init_km_system_machine_level : ∃ g, KM K D.d_Environment_init P_Environment_init ["system", "machine", "level"] g (fun us => match us with | [x0, x1, x2] => [x0, x1, x2] | _ => [])
  Environment_init_km_level : ∃ g, KM K D.d_Environment_init P_Environment_init ["level"] g (fun us => match us with | [x0] => [.str "a", .str "a", x0] | _ => [])
  c_BINDINGS : mg "BINDINGS" = some (.ref D.k_BINDINGS)
  v_BINDINGS : CDic K w.params D.k_BINDINGS [("(", .int 0), (")", .int 1), ("or", .int 1), ("and", .int 2), ("not", .int 3)]
  c_SIGNS : mg "SIGNS" = some (.ref D.k_SIGNS)
  v_SIGNS : SqT K (fun _ => none) D.k_SIGNS [.str "==", .str "!=", .str "<=", .str ">=", .str "<", .str ">", .str "(", .str ")"]
  c_LEVEL_SIGNS : mg "LEVEL_SIGNS" = some (.ref D.k_LEVEL_SIGNS)
  v_LEVEL_SIGNS : SqT K (fun _ => none) D.k_LEVEL_SIGNS [.str "==", .str "!=", .str "<", .str "<=", .str ">", .str ">="]
  c_FIELDS : mg "FIELDS" = some (.ref D.k_FIELDS)
  v_FIELDS : SqT K (fun _ => none) D.k_FIELDS [.str "system", .str "machine", .str "level"]
  c_OPERANDS : mg "OPERANDS" = some (.ref D.k_OPERANDS)
  v_OPERANDS : SqT K (fun _ => none) D.k_OPERANDS [.str "always", .str "never", .str "system", .str "machine", .str "level"]
  v_NOT0 : SqT K (fun _ => none) D.k_NOT0 [.str "not", .str "", .str ""]
  c_NOT : mg "NOT" = some (.ref D.k_NOT)
  v_NOT : SqT K (fun _ => none) D.k_NOT [.ref D.k_NOT0]
  v_AND0 : SqT K (fun _ => none) D.k_AND0 [.str "and", .str "", .str ""]
  c_AND : mg "AND" = some (.ref D.k_AND)
  v_AND : SqT K (fun _ => none) D.k_AND [.ref D.k_AND0]
  v_OR0 : SqT K (fun _ => none) D.k_OR0 [.str "or", .str "", .str ""]
  c_OR : mg "OR" = some (.ref D.k_OR)
  v_OR : SqT K (fun _ => none) D.k_OR [.ref D.k_OR0]
  c_LETTERS : mg "LETTERS" = some (.str "abcdefghijklmnopqrstuvwxyz" D.t_LETTERS)
  c_DIGITS : mg "DIGITS" = some (.str "0123456789" D.t_DIGITS)
  c_HIGHEST : mg "HIGHEST" = some (.int 99 D.t_HIGHEST)
  c_WORDS : mg "WORDS" = some (.int 100000000000000000 D.t_WORDS)
  c_TIGHTEST : mg "TIGHTEST" = some (.int 4 D.t_TIGHTEST)
  b_all : mg "all" = none
  b_bool : mg "bool" = none
  b_divmod : mg "divmod" = none
  b_int : mg "int" = none
  b_isinstance : mg "isinstance" = none
  b_len : mg "len" = none
  b_max : mg "max" = none
  b_min : mg "min" = none
  b_range : mg "range" = none
  b_reversed : mg "reversed" = none
  b_sorted : mg "sorted" = none
  b_str : mg "str" = none
  b_tuple : mg "tuple" = none
/-! ## The draws -/
section
variable {P : Program} {w : World} {K : PySem.W.Frag} {mg : Str → Option Value} {base : Heap} {D : Ad}
def drK (c : Addr) (a l u : Int) : List (Key × V) := [(.inr "cells", .ref c), (.inr "at", .int a), (.inr "left", .int l), (.inr "used", .int u)]
theorem ne_ca : ¬ (("cells" : Str) = "at") := by decide +kernel
theorem ne_cl : ¬ (("cells" : Str) = "left") := by decide +kernel
theorem ne_cu : ¬ (("cells" : Str) = "used") := by decide +kernel
theorem ne_al : ¬ (("at" : Str) = "left") := by decide +kernel
theorem ne_au : ¬ (("at" : Str) = "used") := by decide +kernel
theorem ne_lu : ¬ (("left" : Str) = "used") := by decide +kernel
theorem ne_la : ¬ (("left" : Str) = "at") := by decide +kernel
theorem ne_ua : ¬ (("used" : Str) = "at") := by decide +kernel
theorem ne_ul : ¬ (("used" : Str) = "left") := by decide +kernel
theorem dr_cells (c : Addr) (a l u : Int) : valV (drK c a l u) (.inr "cells" : Key) = some (.ref c) := by simp [valV, drK]
theorem dr_at (c : Addr) (a l u : Int) : valV (drK c a l u) (.inr "at" : Key) = some (.int a) := by simp [valV, drK, ne_ca]
theorem dr_left (c : Addr) (a l u : Int) : valV (drK c a l u) (.inr "left" : Key) = some (.int l) := by simp [valV, drK, ne_cl, ne_al]
theorem dr_used (c : Addr) (a l u : Int) : valV (drK c a l u) (.inr "used" : Key) = some (.int u) := by simp [valV, drK, ne_cu, ne_au, ne_lu]
theorem dr_pat (c : Addr) (a l u x : Int) : putK (drK c a l u) (.inr "at" : Key) (.int x) = drK c x l u := by simp [putK, drK, ne_ca, ne_la, ne_ua]
theorem dr_pleft (c : Addr) (a l u x : Int) : putK (drK c a l u) (.inr "left" : Key) (.int x) = drK c a x u := by simp [putK, drK, ne_cl, ne_al, ne_ul]
theorem dr_pused (c : Addr) (a l u x : Int) : putK (drK c a l u) (.inr "used" : Key) (.int x) = drK c a l x := by simp [putK, drK, ne_cu, ne_au, ne_lu]

/-- a draw stands at d, its cells at c, at most n steps were made -/
def Dr (H : Hp) (d c : Addr) (n : Nat) : Prop := ∃ (cs : List Int) (a l u : Int), H d = some (.dK (drK c a l u)) ∧ H c = some (.lst (cs.map V.int)) ∧
  cs ≠ [] ∧ cs.length ≤ 64 ∧ 0 ≤ a ∧ a ≤ n ∧ 0 ≤ l ∧ 0 ≤ u ∧ u ≤ n
/-- all stands but what is at d -/
def But (d : Addr) (H H' : Hp) : Prop := ∀ b o, H b = some o → b ≠ d → H' b = some o
theorem But.refl {d : Addr} {H : Hp} : But d H H := fun _ _ e _ => e
theorem But.trans {d : Addr} {H H1 H2 : Hp} (x : But d H H1) (y : But d H1 H2) : But d H H2 := fun b o e n => y b o (x b o e n) n
theorem But.upd {d : Addr} {H : Hp} {o : HO} : But d H (upd H d o) := fun b u e n => by rw [upd_ne n]; exact e
theorem But.new {d p : Addr} {H H1 : Hp} {o : HO} (x : But d H H1) (h : H1 p = none) : But d H (L2.upd H1 p o) := fun b u e n => by
  have e1 := x b u e n
  rw [upd_ne (ne_of_none e1 h)]
  exact e1
theorem But.free {d p : Addr} {H H' : Hp} (x : But d H H') (hd : d ≠ p) (h : H' p = none) : H p = none := by
  cases q : H p with
  | none => rfl
  | some o =>
    rw [x p o q (Ne.symm hd)] at h
    cases h
theorem But.of_same {d : Addr} {H H' : Hp} (x : Same H H') : But d H H' := fun b o e _ => x b o e
theorem Dr.dict {H : Hp} {d c : Addr} {n : Nat} (h : Dr H d c n) : ∃ o, H d = some (.dK o) := let ⟨_, _, _, _, e, _⟩ := h; ⟨_, e⟩
theorem Dr.cells {H : Hp} {d c : Addr} {n : Nat} (h : Dr H d c n) : ∃ xs, H c = some (.lst xs) := let ⟨_, _, _, _, _, e, _⟩ := h; ⟨_, e⟩
theorem Dr.mono {H : Hp} {d c : Addr} {n m : Nat} (h : Dr H d c n) (q : n ≤ m) : Dr H d c m := by
  obtain ⟨cs, a, l, u, h1, h2, h3, h4, h5, h6, h7, h8, h9⟩ := h
  exact ⟨cs, a, l, u, h1, h2, h3, h4, h5, by omega, h7, h8, by omega⟩
theorem Dr.keep {H H' : Hp} {d c : Addr} {n : Nat} (h : Dr H d c n) (e : Same H H') : Dr H' d c n := by
  obtain ⟨cs, a, l, u, h1, h2, r⟩ := h
  exact ⟨cs, a, l, u, e _ _ h1, e _ _ h2, r⟩
theorem Dr.new {H : Hp} {d c p : Addr} {n : Nat} {o : HO} (h : Dr H d c n) (q : H p = none) : Dr (upd H p o) d c n :=
  h.keep fun b u e => by rw [upd_ne (ne_of_none e q)]; exact e
/-- what is at p changes -/
theorem Dr.off {H : Hp} {d c p : Addr} {n : Nat} {o : HO} (h : Dr H d c n) (hd : d ≠ p) (hc : c ≠ p) : Dr (upd H p o) d c n := by
  obtain ⟨cs, a, l, u, h1, h2, r⟩ := h
  exact ⟨cs, a, l, u, by rw [upd_ne hd]; exact h1, by rw [upd_ne hc]; exact h2, r⟩
theorem Dr.ne_new {H : Hp} {d c p : Addr} {n : Nat} (h : Dr H d c n) (q : H p = none) : d ≠ p := let ⟨_, e⟩ := h.dict; ne_of_none e q
theorem Dr.nc_new {H : Hp} {d c p : Addr} {n : Nat} (h : Dr H d c n) (q : H p = none) : c ≠ p := let ⟨_, e⟩ := h.cells; ne_of_none e q

def spMixed : Sp := fun vs H Q _ => ∃ c k : Int, vs = [.int c, .int k] ∧ 0 ≤ k ∧ k < 2 ^ 60 ∧ ∀ v, Q (.int v) H
theorem ok_mixed (T : TexW w K mg D) : FnOk P w K mg base CX0 1 D.a_mixed D.d_mixed P_mixed spMixed := by
  refine T.mixed_F.ok S_mixed (fun vs H Q E h => ?_) (fun cdv A outer s H vs Q E hr h => ?_)
  · obtain ⟨c, k, rfl, _⟩ := h
    rfl
  · obtain ⟨c, k, rfl, h0, h1, q⟩ := h
    refine ⟨_, (pss_cons (ps_set (i := 2) S_mixed.nd rfl (Or.inl rfl) (pe_op op_mod (pe_op op_add (pe_op op_add (pe_op op_add (pe_op op_mod (pv 0) pe_int) (pe_op op_mul (pe_op op_mul pe_int (pv 1)) (pv 1))) (pe_op op_mul pe_int (pv 1))) pe_int) pe_int))
      (pss_cons (ps_set (i := 2) S_mixed.nd rfl (Or.inl rfl) (pe_op op_mod (pe_op op_mul (pe_op op_mod (pe_op op_mul (pv 2) (pv 2)) pe_int) (pv 2)) pe_int))
      (pss_one (ps_ret (pe_op op_fdiv (pe_op op_mod (pe_op op_mul (pv 2) (pe_op op_add pe_int (pe_op op_mul pe_int (pe_op op_mod (pv 1) pe_int)))) pe_int) pe_int))))), ?_⟩
    refine ⟨_, rfl, _, _, rfl, rfl, (posI rfl), ?_⟩
    refine ⟨_, rfl, _, _, rfl, rfl, .inl ⟨by decide, by decide⟩, ?_⟩
    refine ⟨_, rfl, _, _, rfl, rfl, .inr ⟨by omega, by omega⟩, _, _, rfl, rfl, ?_⟩
    refine ⟨_, rfl, _, _, rfl, rfl, .inl ⟨by decide, by decide⟩, _, _, rfl, rfl, _, _, rfl, rfl, _, _, rfl, rfl, (posI rfl), ?_⟩
    generalize hm : (c % 1000000007 + 7919 * k * k + 31 * k + 7) % 2147483647 = m
    have m0 : 0 ≤ m := by rw [← hm]; exact Int.emod_nonneg _ (by decide)
    have m1 : m < 2147483647 := by rw [← hm]; exact Int.emod_lt_of_pos _ (by decide)
    refine ⟨_, rfl, _, rfl, _, _, rfl, rfl, .inl ⟨by omega, by omega⟩, _, _, rfl, rfl, (posI rfl), ?_⟩
    refine ⟨_, rfl, _, _, rfl, rfl, .inr ⟨by omega, by omega⟩, _, _, rfl, rfl, (posI rfl), ?_⟩
    generalize hn : m * m % 2147483647 * m % 2147483629 = n
    have n0 : 0 ≤ n := by rw [← hn]; exact Int.emod_nonneg _ (by decide)
    have n1 : n < 2147483629 := by rw [← hn]; exact Int.emod_lt_of_pos _ (by decide)
    refine ⟨_, rfl, _, rfl, _, _, rfl, rfl, (posI rfl), _, _, rfl, rfl, .inl ⟨by decide, by decide⟩, _, _, rfl, rfl, _, _, rfl, rfl, .inl ⟨by omega, by omega⟩, ?_⟩
    refine ⟨_, _, rfl, rfl, (posI rfl), _, _, rfl, rfl, ⟨by decide, by decide⟩, ?_⟩
    exact q _

def spNext : Sp := fun vs H Q _ => ∃ (d c : Addr) (b : Int) (n : Nat), vs = [.ref d, .int b] ∧ Dr H d c n ∧ n ≤ 10 ^ 12 ∧ 0 < b ∧ b < 2 ^ 30 ∧
  ∀ (v : Int) (H' : Hp), 0 ≤ v → v < b → Dr H' d c (n + 1) → But d H H' → Q (.int v) H'
theorem ok_next (T : TexW w K mg D) : FnOk P w K mg base CX0 2 D.a_next D.d_next P_next spNext := by
  have G_mixed : FnOk P w K mg base CX0 1 D.a_mixed D.d_mixed P_mixed spMixed := ok_mixed T
  refine T.next_F.ok S_next (fun vs H Q E h => ?_) (fun cdv A outer s H vs Q E hr h => ?_)
  · obtain ⟨d, c, b, n, rfl, _⟩ := h
    rfl
  · obtain ⟨d, c, b, n, rfl, ⟨cs, a, l, u, hd, hc, c0, c64, a0, an, l0, u0, un⟩, hn, b0, b1, q⟩ := h
    have hu := hu_of hr
    have ndc : d ≠ c := ne_of hd hc (by intro z; cases z)
    have sz : ∀ c' a' l' u', (drK c' a' l' u').length < sizeLine := fun _ _ _ _ => by show 4 < sizeLine; decide
    have cs0 : 0 < cs.length := List.length_pos_iff.mpr c0
    refine ⟨_, (pss_cons (ps_if (pt_cmpR op_gt (pe_dget hu (pv 0) pe_str (fun _ _ => rfl)) pe_int (nomark _)) (pss_cons (ps_set (i := 2) S_next.nd rfl (Or.inl rfl) (pe_op op_mod (pe_dget hu (pv 0) pe_str (fun _ _ => rfl)) (pv 1)))
      (pss_cons (ps_dput hu (pv 0) pe_str (pe_op op_fdiv (pe_dget hu (pv 0) pe_str (fun _ _ => rfl)) (pv 1)) rfl)
      (pss_one (ps_ret (pv 2))))) pss_nil)
      (pss_cons (ps_set (i := 3) S_next.nd rfl (Or.inl rfl) (pe_dget hu (pv 0) pe_str (fun _ _ => rfl)))
      (pss_cons (ps_set (i := 4) S_next.nd rfl (Or.inl rfl) (pe_ix ix_list (pv 3) (pe_op op_mod (pe_dget hu (pv 0) pe_str (fun _ _ => rfl)) (pe_callB call_len_seq (by rfl) T.b_len (by decide +kernel) (pa_cons (pv 3) pa_nil))) (fun _ _ => rfl)))
      (pss_cons (ps_dput hu (pv 0) pe_str (pe_op op_add (pe_dget hu (pv 0) pe_str (fun _ _ => rfl)) pe_int) rfl)
      (pss_cons (ps_if (PW.pt (pw_and (pt_cmpR op_ge (pv 4) (pe_op op_pow pe_int pe_int) (nomark _)) (pw_and1 (pt_cmpR op_le (pe_dget hu (pv 0) pe_str (fun _ _ => rfl)) (pe_callB call_len_seq (by rfl) T.b_len (by decide +kernel) (pa_cons (pv 3) pa_nil)) (nomark _))))) (pss_cons (ps_dput hu (pv 0) pe_str (pe_op op_fdiv (pv 4) (pv 1)) rfl)
      (pss_one (ps_ret (pe_op op_mod (pv 4) (pv 1))))) pss_nil)
      (pss_cons (ps_dput hu (pv 0) pe_str (pe_op op_add (pe_dget hu (pv 0) pe_str (fun _ _ => rfl)) pe_int) rfl)
      (pss_one (ps_ret (pe_op op_mod (pe_call G_mixed (hr.mono (by decide)) (by rfl) T.mixed_g T.mixed_F.kp T.mixed_b .nil pass0 (pa_cons (pe_call G_mixed (hr.mono (by decide)) (by rfl) T.mixed_g T.mixed_F.kp T.mixed_b .nil pass0 (pa_cons (pv 4) (pa_cons (pe_dget hu (pv 0) pe_str (fun _ _ => rfl)) pa_nil))) (pa_cons (pe_dget hu (pv 0) pe_str (fun _ _ => rfl)) pa_nil))) (pv 1)))))))))), ?_⟩
    refine ⟨_, rfl, d, _, rfl, (by have g := DGet.k (k := .inr "left") hd; rw [dr_left] at g; exact g), _, _, rfl, rfl, _, rfl, ?_⟩
    refine ite2 (fun hl => ?_) (fun hl => ?_)
    · refine ⟨_, rfl, d, _, rfl, (by have g := DGet.k (k := .inr "left") hd; rw [dr_left] at g; exact g), _, rfl, _, _, rfl, rfl, b0, ?_⟩
      refine ⟨_, rfl, d, _, rfl, (by have g := DGet.k (k := .inr "left") hd; rw [dr_left] at g; exact g), _, rfl, _, _, rfl, rfl, ⟨b0, b1⟩, _, rfl, d, _, rfl, DPut.k (k := .inr "left") hd (sz _ _ _ _), ?_⟩
      refine ⟨_, rfl, ?_⟩
      refine q _ _ (Int.emod_nonneg _ (by omega)) (Int.emod_lt_of_pos _ b0) ⟨cs, a, l / b, u, ?_, ?_, c0, c64, a0, by omega, Int.ediv_nonneg l0 (by omega), u0, by omega⟩ But.upd
      · rw [upd_same, dr_pleft]
      · rw [upd_ne ndc.symm]; exact hc
    · refine ⟨_, rfl, d, _, rfl, (by have g := DGet.k (k := .inr "cells") hd; rw [dr_cells] at g; exact g), ?_⟩
      refine ⟨_, rfl, _, rfl, d, _, rfl, (by have g := DGet.k (k := .inr "at") hd; rw [dr_at] at g; exact g), _, rfl, c, _, rfl, .inl (SqL.of hc), _, _, rfl, rfl, (by rw [List.length_map]; show (0 : Int) < (cs.length : Int); omega), ?_⟩
      have hix : 0 ≤ a % ((cs.map V.int).length : Int) ∧ a % ((cs.map V.int).length : Int) < ((cs.map V.int).length : Int) := by
        have e : ((cs.map V.int).length : Int) = (cs.length : Int) := by rw [List.length_map]
        rw [e]
        exact ⟨Int.emod_nonneg _ (by omega), Int.emod_lt_of_pos _ (by omega)⟩
      obtain ⟨x, hx⟩ : ∃ x, (cs.map V.int)[(a % ((cs.map V.int).length : Int)).toNat]? = some (V.int x) := by
        have hlt : (a % ((cs.map V.int).length : Int)).toNat < cs.length := by
          have e : ((cs.map V.int).length : Int) = (cs.length : Int) := by rw [List.length_map]
          omega
        exact ⟨cs[(a % ((cs.map V.int).length : Int)).toNat], by rw [List.getElem?_map, List.getElem?_eq_getElem hlt]; rfl⟩
      refine ⟨c, _, _, _, rfl, rfl, SqL.of hc, (by
        have e : a % ((cs.map V.int).length : Int) = ((a % ((cs.map V.int).length : Int)).toNat : Int) := (Int.toNat_of_nonneg hix.1).symm
        rw [e]
        exact atI_nat hx), ?_⟩
      -- at += 1
      refine ⟨_, rfl, d, _, rfl, (by have g := DGet.k (k := .inr "at") hd; rw [dr_at] at g; exact g), _, _, rfl, rfl, _, rfl, d, _, rfl, DPut.k (k := .inr "at") hd (sz _ _ _ _), ?_⟩
      rw [dr_pat]
      have hd1 : (upd H d (.dK (drK c (a + 1) l u))) d = some (.dK (drK c (a + 1) l u)) := upd_same
      have hc1 : (upd H d (.dK (drK c (a + 1) l u))) c = some (.lst (cs.map V.int)) := by rw [upd_ne ndc.symm]; exact hc
      have bu1 : But d H (upd H d (.dK (drK c (a + 1) l u))) := But.upd
      revert hd1 hc1 bu1
      generalize upd H d (.dK (drK c (a + 1) l u)) = H1
      intro hd1 hc1 bu1
      refine ⟨_, rfl, _, _, rfl, rfl, ⟨by decide, by decide, by decide⟩, _, _, rfl, rfl, _, rfl, ?_⟩
      refine ite2 (fun h18 => ?_) (fun h18 => ?_)
      · refine ⟨_, rfl, d, _, rfl, (by have g := DGet.k (k := .inr "at") hd1; rw [dr_at] at g; exact g), _, rfl, c, _, rfl, .inl (SqL.of hc1), _, _, rfl, rfl, _, rfl, ?_⟩
        refine ite2 (fun hat => ?_) (fun hat => ?_)
        · have x0 : 0 ≤ x := by
            have h2 := of_decide_eq_true h18
            have h3 : (0 : Int) ≤ 10 ^ (18 : Int).toNat := by decide
            omega
          refine ⟨_, rfl, _, rfl, _, _, rfl, rfl, ⟨b0, b1⟩, _, rfl, d, _, rfl, DPut.k (k := .inr "left") hd1 (sz _ _ _ _), ?_⟩
          refine ⟨_, rfl, _, rfl, _, _, rfl, rfl, b0, ?_⟩
          refine q _ _ (Int.emod_nonneg _ (by omega)) (Int.emod_lt_of_pos _ b0) ⟨cs, a + 1, x / b, u, ?_, ?_, c0, c64, by omega, by omega, Int.ediv_nonneg x0 (by omega), u0, by omega⟩ (bu1.trans But.upd)
          · rw [upd_same, dr_pleft]
          · rw [upd_ne ndc.symm]; exact hc1
        ·
          refine ⟨_, rfl, d, _, rfl, (by have g := DGet.k (k := .inr "used") hd1; rw [dr_used] at g; exact g), _, _, rfl, rfl, _, rfl, d, _, rfl, DPut.k (k := .inr "used") hd1 (sz _ _ _ _), ?_⟩
          rw [dr_pused]
          have hd2 : (upd H1 d (.dK (drK c (a + 1) l (u + 1)))) d = some (.dK (drK c (a + 1) l (u + 1))) := upd_same
          have hc2 : (upd H1 d (.dK (drK c (a + 1) l (u + 1)))) c = some (.lst (cs.map V.int)) := by rw [upd_ne ndc.symm]; exact hc1
          refine ⟨_, rfl, _, rfl, d, _, rfl, (by have g := DGet.k (k := .inr "at") hd2; rw [dr_at] at g; exact g), x, a + 1, rfl, by omega, by omega, fun v1 => ?_⟩
          refine ⟨_, rfl, d, _, rfl, (by have g := DGet.k (k := .inr "used") hd2; rw [dr_used] at g; exact g), v1, u + 1, rfl, by omega, by omega, fun v2 => ?_⟩
          refine ⟨_, rfl, _, _, rfl, rfl, b0, ?_⟩
          exact q _ _ (Int.emod_nonneg _ (by omega)) (Int.emod_lt_of_pos _ b0) ⟨cs, a + 1, l, u + 1, hd2, hc2, c0, c64, by omega, by omega, l0, by omega, by omega⟩ (bu1.trans But.upd)
      ·
        refine ⟨_, rfl, d, _, rfl, (by have g := DGet.k (k := .inr "used") hd1; rw [dr_used] at g; exact g), _, _, rfl, rfl, _, rfl, d, _, rfl, DPut.k (k := .inr "used") hd1 (sz _ _ _ _), ?_⟩
        rw [dr_pused]
        have hd2 : (upd H1 d (.dK (drK c (a + 1) l (u + 1)))) d = some (.dK (drK c (a + 1) l (u + 1))) := upd_same
        have hc2 : (upd H1 d (.dK (drK c (a + 1) l (u + 1)))) c = some (.lst (cs.map V.int)) := by rw [upd_ne ndc.symm]; exact hc1
        refine ⟨_, rfl, _, rfl, d, _, rfl, (by have g := DGet.k (k := .inr "at") hd2; rw [dr_at] at g; exact g), x, a + 1, rfl, by omega, by omega, fun v1 => ?_⟩
        refine ⟨_, rfl, d, _, rfl, (by have g := DGet.k (k := .inr "used") hd2; rw [dr_used] at g; exact g), v1, u + 1, rfl, by omega, by omega, fun v2 => ?_⟩
        refine ⟨_, rfl, _, _, rfl, rfl, b0, ?_⟩
        exact q _ _ (Int.emod_nonneg _ (by omega)) (Int.emod_lt_of_pos _ b0) ⟨cs, a + 1, l, u + 1, hd2, hc2, c0, c64, by omega, by omega, l0, by omega, by omega⟩ (bu1.trans But.upd)
end

/-! ## The draws begin -/
section
variable {P : Program} {w : World} {K : PySem.W.Frag} {mg : Str → Option Value} {base : Heap} {D : Ad}
theorem len_app (a b : Str) : (a ++ b).length = a.length + b.length := PySem.strLen_append a b

theorem at_in {α : Type} {xs : List α} {v : Int} (h0 : 0 ≤ v) (h1 : v < (xs.length : Int)) : ∃ x, atI xs v = some x ∧ x ∈ xs := by
  obtain ⟨j, rfl⟩ := Int.eq_ofNat_of_zero_le h0
  have hj : j < xs.length := by omega
  exact ⟨xs[j], atI_nat (List.getElem?_eq_getElem hj), List.getElem_mem hj⟩

/-! ### begin -/
theorem merge_dr (c : Addr) (a l u : Int) : mergeK [] (drK c a l u) = drK c a l u := by simp [mergeK, putK, drK, ne_ca, ne_cl, ne_cu, ne_al, ne_au, ne_lu]
def spBegin (K : PySem.W.Frag) : Sp := fun vs H Q _ => ∃ (a : Addr) (ns : List Int), vs = [.ref a] ∧ Bare K H a (ns.map V.int) ∧ ns.length ≤ 63 ∧ ∀ d c H', H d = none → Same H H' → Dr H' d c 0 → Q (.ref d) H'
theorem ok_begin (T : TexW w K mg D) : FnOk P w K mg base CX0 1 D.a_begin D.d_begin P_begin (spBegin K) := by
  refine T.begin_F.ok S_begin (fun vs H Q E h => ?_) (fun cdv A outer s H vs Q E hr h => ?_)
  · obtain ⟨a, ns, rfl, _⟩ := h
    rfl
  · obtain ⟨a, ns, rfl, hb, hl, q⟩ := h
    refine ⟨_, (pss_one (ps_ret (pe_disp (pps_cons pe_str (pe_op op_catS (pv 0) (pe_lst (pa_cons pe_int pa_nil))) (pps_cons pe_str pe_int (pps_cons pe_str pe_int (pps_cons pe_str pe_int pps_nil)))) (by rfl) (by rfl) (fun z => by cases z) (by decide)))), ?_⟩
    intro p hp
    have s1 : Same H (upd H p (.dK [])) := same_new hp
    refine ⟨_, rfl, (by show 1 ≤ sizeLine; decide), fun l hl1 => ⟨a, l, _, _, rfl, rfl, (hb.keep s1).keep (same_new hl1), upd_same, Nat.le_trans (show _ ≤ 1000 by simp; omega) (by decide), fun c hc => ?_⟩⟩
    have s2 := s1.trans (same_new (o := .lst [.int 0]) hl1)
    have s3 := s2.trans (same_new (o := .lst (ns.map V.int ++ [.int 0])) hc)
    have npl : p ≠ l := ne_of_none upd_same hl1
    have npc : p ≠ c := by
      have e : (upd (upd H p (.dK [])) l (.lst [.int 0])) p = some (.dK []) := by rw [upd_ne npl, upd_same]
      exact ne_of_none e hc
    refine ⟨by rw [upd_ne npc, upd_ne npl, upd_same], drK c 0 0 0, rfl, (by show 4 ≤ 15; decide), ?_⟩
    rw [merge_dr]
    refine q p c _ hp (same_upd s3 hp) ⟨ns ++ [0], 0, 0, 0, upd_same, ?_, by simp, by simp; omega, by decide, by decide, by decide, by decide, by decide⟩
    rw [upd_ne npc.symm, upd_same]
    simp

end

/-! ## Questions about objects of every kind -/
section
variable {P : Program} {w : World} {K : PySem.W.Frag} {mg : Str → Option Value} {base : Heap} {D : Ad}
open TL SX
/-- a plain object that is no whole number -/
def Plain (K : PySem.W.Frag) (H : Hp) (x : V) : Prop := ∃ S ∈ (["NoneType", "bool", "str", "tuple", "list", "dict"] : List String), TyX K H x (.type S)
def spWholeA (K : PySem.W.Frag) : Sp := fun vs H Q _ => ∃ (x : V) (b : Bool), vs = [x] ∧ ((∃ i, x = .int i ∧ b = true) ∨ (Plain K H x ∧ b = false)) ∧ Q (.bl b) H
theorem ok_is_whole (T : TexW w K mg D) : FnOk P w K mg base CX0 1 D.a_is_whole D.d_is_whole P_is_whole (spWholeA K) := by
  refine T.is_whole_F.ok S_is_whole (fun vs H Q E h => ?_) (fun cdv A outer s H vs Q E hr h => ?_)
  · obtain ⟨x, b, rfl, _⟩ := h
    rfl
  · obtain ⟨x, b, rfl, h, q⟩ := h
    refine ⟨_, (pss_one (ps_ret (pe_and (pe_callB call_isi (by rfl) T.b_isinstance (by decide +kernel) (pa_cons (pv 0) (pa_cons (pe_bltn (v := .ty "int") (u := .type "int") (by rfl) T.b_int (by decide +kernel) rfl) pa_nil))) (pe_one (pe_not (pe_callB call_isi (by rfl) T.b_isinstance (by decide +kernel) (pa_cons (pv 0) (pa_cons (pe_bltn (v := .ty "bool") (u := .type "bool") (by rfl) T.b_bool (by decide +kernel) rfl) pa_nil)))))))), ?_⟩
    rcases h with ⟨i, rfl, rfl⟩ | ⟨⟨St, hS, ty⟩, rfl⟩
    · refine ⟨_, rfl, .int i, .ty "int", .type "int", .type "int", true, rfl, .ty _, .base (.int i), kit_ty (by decide +kernel), true, rfl, iteT ?_⟩
      exact ⟨_, rfl, .int i, .ty "bool", .type "int", .type "bool", false, rfl, .ty _, .base (.int i), kit_ty (by decide +kernel), false, rfl, q⟩
    · simp only [List.mem_cons, List.not_mem_nil, or_false] at hS
      rcases hS with rfl | rfl | rfl | rfl | rfl | rfl
      · exact ⟨_, rfl, x, .ty "int", _, .type "int", false, rfl, .ty _, ty, kit_ty (by decide +kernel), false, rfl, iteF q⟩
      · refine ⟨_, rfl, x, .ty "int", _, .type "int", true, rfl, .ty _, ty, kit_ty (by decide +kernel), true, rfl, iteT ?_⟩
        exact ⟨_, rfl, x, .ty "bool", _, .type "bool", true, rfl, .ty _, ty, kit_ty (by decide +kernel), true, rfl, q⟩
      · exact ⟨_, rfl, x, .ty "int", _, .type "int", false, rfl, .ty _, ty, kit_ty (by decide +kernel), false, rfl, iteF q⟩
      · exact ⟨_, rfl, x, .ty "int", _, .type "int", false, rfl, .ty _, ty, kit_ty (by decide +kernel), false, rfl, iteF q⟩
      · exact ⟨_, rfl, x, .ty "int", _, .type "int", false, rfl, .ty _, ty, kit_ty (by decide +kernel), false, rfl, iteF q⟩
      · exact ⟨_, rfl, x, .ty "int", _, .type "int", false, rfl, .ty _, ty, kit_ty (by decide +kernel), false, rfl, iteF q⟩
def spCntA (K : PySem.W.Frag) : Sp := fun vs H Q _ => ∃ (x : V) (b : Bool), vs = [x] ∧ ((∃ i, x = .int i ∧ b = decide (0 ≤ i)) ∨ (Plain K H x ∧ b = false)) ∧ Q (.bl b) H
theorem ok_is_count (T : TexW w K mg D) : FnOk P w K mg base CX0 2 D.a_is_count D.d_is_count P_is_count (spCntA K) := by
  have G_is_whole : FnOk P w K mg base CX0 1 D.a_is_whole D.d_is_whole P_is_whole (spWholeA K) := ok_is_whole T
  refine T.is_count_F.ok S_is_count (fun vs H Q E h => ?_) (fun cdv A outer s H vs Q E hr h => ?_)
  · obtain ⟨x, b, rfl, _⟩ := h
    rfl
  · obtain ⟨x, b, rfl, h, q⟩ := h
    refine ⟨_, (pss_one (ps_ret (pe_and (pe_call G_is_whole (hr.mono (by decide)) (by rfl) T.is_whole_g T.is_whole_F.kp T.is_whole_b .nil pass0 (pa_cons (pv 0) pa_nil)) (pe_one (pe_cmpR op_ge (pv 0) pe_int (nomark _)))))), ?_⟩
    rcases h with ⟨i, rfl, rfl⟩ | ⟨pl, rfl⟩
    · exact ⟨_, rfl, _, true, rfl, .inl ⟨i, rfl, rfl⟩, true, rfl, iteT ⟨_, rfl, _, _, rfl, rfl, q⟩⟩
    · exact ⟨_, rfl, _, false, rfl, .inr ⟨pl, rfl⟩, false, rfl, iteF q⟩
def spWToA (K : PySem.W.Frag) : Sp := fun vs H Q _ => ∃ (x : V) (l : Int) (b : Bool), vs = [x, .int l] ∧ ((∃ i, x = .int i ∧ b = (decide (0 ≤ i) && decide (i ≤ l))) ∨ (Plain K H x ∧ b = false)) ∧ Q (.bl b) H
theorem ok_is_whole_toA (T : TexW w K mg D) : FnOk P w K mg base CX0 3 D.a_is_whole_to D.d_is_whole_to P_is_whole_to (spWToA K) := by
  have G_is_count : FnOk P w K mg base CX0 2 D.a_is_count D.d_is_count P_is_count (spCntA K) := ok_is_count T
  refine T.is_whole_to_F.ok S_is_whole_to (fun vs H Q E h => ?_) (fun cdv A outer s H vs Q E hr h => ?_)
  · obtain ⟨x, l, b, rfl, _⟩ := h
    rfl
  · obtain ⟨x, l, b, rfl, h, q⟩ := h
    refine ⟨_, (pss_one (ps_ret (pe_and (pe_call G_is_count (hr.mono (by decide)) (by rfl) T.is_count_g T.is_count_F.kp T.is_count_b .nil pass0 (pa_cons (pv 0) pa_nil)) (pe_one (pe_cmpR op_le (pv 0) (pv 1) (nomark _)))))), ?_⟩
    rcases h with ⟨i, rfl, rfl⟩ | ⟨pl, rfl⟩
    · refine ⟨_, rfl, _, _, rfl, .inl ⟨i, rfl, rfl⟩, _, rfl, ?_⟩
      by_cases h0 : 0 ≤ i
      · rw [decide_eq_true h0] at q ⊢
        exact iteT ⟨_, rfl, _, rfl, _, _, rfl, rfl, by simpa using q⟩
      · rw [decide_eq_false h0] at q ⊢
        exact iteF (by simpa using q)
    · exact ⟨_, rfl, _, false, rfl, .inr ⟨pl, rfl⟩, false, rfl, iteF q⟩
def spWTo : Sp := fun vs H Q _ => ∃ i l : Int, vs = [.int i, .int l] ∧ 0 ≤ i ∧ i ≤ l ∧ Q (.bl true) H
theorem ok_is_whole_to (T : TexW w K mg D) : FnOk P w K mg base CX0 3 D.a_is_whole_to D.d_is_whole_to P_is_whole_to spWTo :=
  (ok_is_whole_toA T).imp fun vs H Q E h => by
    obtain ⟨i, l, rfl, h0, h1, q⟩ := h
    exact ⟨_, l, true, rfl, .inl ⟨i, rfl, by rw [decide_eq_true h0, decide_eq_true h1]; rfl⟩, q⟩
end

/-! ## Versions: the program's defs -/
section
variable {P : Program} {w : World} {K : PySem.W.Frag} {mg : Str → Option Value} {base : Heap} {D : Ad}
open TL SX
theorem szl {n : Nat} (h : n ≤ 1000) : n ≤ sizeLine := Nat.le_trans h (by decide)
theorem szt {n : Nat} (h : n ≤ 1000) : n < sizeLine := Nat.lt_of_le_of_lt h (by decide)
theorem szL {n : Nat} (h : n ≤ 100000) : n ≤ sizeLine := Nat.le_trans h (by decide)
theorem szT {n : Nat} (h : n ≤ 100000) : n < sizeLine := Nat.lt_of_le_of_lt h (by decide)
theorem kit_self {C : Addr} : PySem.W.kitOne K (.ref C) (.ref C) = some true := by
  unfold PySem.W.kitOne
  simp
def inS (sg : Str) (c : Nat) : Bool := decide (c ∈ sg.cps.toList)
theorem filt1 {α : Type} {xs : List α} : xs.filter (fun _ => true) = xs := List.filter_eq_self.mpr (by simp)
def spConsistsOf : Sp := fun vs H Q _ => ∃ t sg : Str, vs = [.str t, .str sg] ∧ t.length ≤ 200 ∧ ∀ H', Same H H' → Q (.bl (t.cps.toList.all (inS sg))) H'
theorem ok_consists_of (T : TexW w K mg D) : FnOk P w K mg base CX0 1 D.a_consists_of D.d_consists_of P_consists_of spConsistsOf := by
  refine T.consists_of_F.ok S_consists_of (fun vs H Q E h => ?_) (fun cdv A outer s H vs Q E hr h => ?_)
  · obtain ⟨t, sg, rfl, _⟩ := h
    rfl
  · obtain ⟨t, sg, rfl, hl, q⟩ := h
    refine ⟨_, (pss_one (ps_ret (pe_callB (cr_all rfl) (by rfl) T.b_all (by decide +kernel) (pa_cons (pe_lc (own := [(("sign" : Str), 2)]) (g := gName 2) (tt := tYes) rfl S_consists_of.nd (pi_str (pv 0)) (blkOk_by (N := N_consists_of) (sc := defScope s_consists_of) (by decide +kernel)) (fun _ _ _ _ _ => pg_name (i := 2) S_consists_of.nd rfl (Or.inl rfl)) (fun _ _ _ _ _ => pts_nil) (fun _ _ _ _ _ => (pe_cmpR op_in_sign (pv 2) (pv 1) rfl))) pa_nil)))), ?_⟩
    refine ⟨_, rfl, t, rfl, fun D hD => lc_txt (fun _ => true) (fun c => .bl (inS sg c)) hD (szt (by omega)) (fun c hc H2 R S s2 h1 h2 => ?_) (fun H2 s2 h2 => ?_)⟩
    · exact ⟨rfl, ⟨_, rfl, _, rfl, c, sg, rfl, rfl, h1 rfl _ (Same.refl _)⟩⟩
    · refine ⟨D, t.cps.toList.map (inS sg), rfl, SqL.of (by rw [h2, filt1, List.map_map]; rfl), ?_⟩
      rw [List.all_map]
      exact q _ s2
def goodT (t sg : Str) (m : Int) : Bool := decide (1 ≤ (t.length : Int)) && (decide ((t.length : Int) ≤ m) && t.cps.toList.all (inS sg))
def spStrT : Sp := fun vs H Q _ => ∃ (t sg : Str) (m : Int), vs = [.str t, .str sg, .int m] ∧ t.length ≤ 100000 ∧ m ≤ 100 ∧ ∀ H', Same H H' → Q (.bl (goodT t sg m)) H'
theorem ok_is_string_of (T : TexW w K mg D) : FnOk P w K mg base CX0 2 D.a_is_string_of D.d_is_string_of P_is_string_of spStrT := by
  have G_consists_of : FnOk P w K mg base CX0 1 D.a_consists_of D.d_consists_of P_consists_of spConsistsOf := ok_consists_of T
  refine T.is_string_of_F.ok S_is_string_of (fun vs H Q E h => ?_) (fun cdv A outer s H vs Q E hr h => ?_)
  · obtain ⟨x, sg, m, rfl, _⟩ := h
    rfl
  · obtain ⟨t, sg, m, rfl, hl, hm, q⟩ := h
    refine ⟨_, (pss_one (ps_ret (pe_and (pe_callB call_isi (by rfl) T.b_isinstance (by decide +kernel) (pa_cons (pv 0) (pa_cons (pe_bltn (v := .ty "str") (u := .type "str") (by rfl) T.b_str (by decide +kernel) rfl) pa_nil))) (pe_and (pe_chain op_le op_le pe_int (pe_callB call_len_str (by rfl) T.b_len (by decide +kernel) (pa_cons (pv 0) pa_nil)) (pv 2)) (pe_one (pe_call G_consists_of (hr.mono (by decide)) (by rfl) T.consists_of_g T.consists_of_F.kp T.consists_of_b .nil pass0 (pa_cons (pv 0) (pa_cons (pv 1) pa_nil)))))))), ?_⟩
    refine ⟨_, rfl, .str t, .ty "str", .type "str", .type "str", true, rfl, .ty _, .base (.str t), kit_ty (by decide +kernel), true, rfl, iteT ?_⟩
    refine ⟨_, rfl, t, rfl, szL (by omega), _, _, rfl, rfl, _, rfl, ?_⟩
    unfold goodT at q
    refine ite2 (fun h1 => ?_) (fun h1 => ?_)
    · refine ⟨_, rfl, _, _, rfl, rfl, _, rfl, ite2 (fun h2 => ?_) (fun h2 => ?_)⟩
      · have h2' := of_decide_eq_true h2
        refine ⟨_, rfl, _, rfl, t, sg, rfl, by omega, fun H' s' => ?_⟩
        have q2 := q H' s'
        rw [h1, h2] at q2
        exact q2
      · have q2 := q H (Same.refl H)
        rw [h1, Bool.eq_false_iff.mpr h2] at q2
        exact q2
    · refine ⟨_, rfl, iteF ?_⟩
      have q2 := q H (Same.refl H)
      rw [Bool.eq_false_iff.mpr h1] at q2
      exact q2
def oV : Option Nat → V
  | none => .non
  | some n => .int (n : Int)
theorem inS_dig (c : Nat) : inS (("0123456789" : String) : Str) c = isDig c := by
  unfold inS isDig
  have e : ((("0123456789" : String) : Str)).cps.toList = [48, 49, 50, 51, 52, 53, 54, 55, 56, 57] := by decide +kernel
  rw [e, Bool.eq_iff_iff, decide_eq_true_eq, decide_eq_true_eq]
  simp only [List.mem_cons, List.not_mem_nil, or_false]
  omega
theorem good_nT (l : List Nat) (k : Nat) : goodT (S l) (("0123456789" : String) : Str) (k : Int) = (decide (1 ≤ l.length) && (decide (l.length ≤ k) && l.all isDig)) := by
  unfold goodT
  have e1 : decide (1 ≤ ((S l).length : Int)) = decide (1 ≤ l.length) := by rw [S_len]; exact decide_eq_decide.mpr (by omega)
  have e2 : decide (((S l).length : Int) ≤ (k : Int)) = decide (l.length ≤ k) := by rw [S_len]; exact decide_eq_decide.mpr (by omega)
  have e3 : (S l).cps.toList.all (inS (("0123456789" : String) : Str)) = l.all isDig := by
    show l.all _ = _
    congr 1
    funext c
    exact inS_dig c
  rw [e1, e2, e3]
theorem str_num (n : Nat) : Str.ofString (toString ((n : Nat) : Int)) = S (numL n) := ext_tl (tl_num n)
theorem log_num {n : Nat} (h : n < 100000) : ((n : Nat) : Int).natAbs.log2 < 1920 := by
  rw [Int.natAbs_natCast]
  by_cases h0 : n = 0
  · rw [h0]
    decide
  · exact Nat.lt_trans ((Nat.log2_lt h0).mpr (Nat.lt_of_lt_of_le h (by decide : 100000 ≤ 2 ^ 17))) (by decide)
theorem dv_lt : ∀ (l : List Nat), NumText.AllDigits l → NumText.digitsVal l < 10 ^ l.length := by
  intro l
  induction h : l.length generalizing l with
  | zero =>
    intro _
    have : l = [] := List.length_eq_zero_iff.mp h
    subst this
    decide
  | succ n ih =>
    intro hd
    obtain ⟨r, c, rfl⟩ : ∃ r c, l = r ++ [c] := ⟨l.dropLast, l.getLast (by intro e; rw [e] at h; cases h), (List.dropLast_concat_getLast _).symm⟩
    have hr : r.length = n := by simpa using h
    have h1 := ih r hr (fun x hx => hd x (List.mem_append_left _ hx))
    have h2 := hd c (by simp)
    rw [NumText.digitsVal_snoc, Nat.pow_succ]
    omega
/-- number_in, with the last number -/
def nTL (L : Nat) (l : List Nat) : Option Nat :=
  if (decide (1 ≤ l.length) && (decide (l.length ≤ (numL L).length) && l.all isDig)) = true then (if l.head? = some 48 ∧ l ≠ [48] then none else if NumText.digitsVal l ≤ L then some (NumText.digitsVal l) else none) else none
theorem allD {l : List Nat} (h : l.all isDig = true) : NumText.AllDigits l := by
  intro c hc
  have := List.all_eq_true.mp h c hc
  simp only [isDig, decide_eq_true_eq] at this
  omega
theorem nTL_999 (l : List Nat) : nTL 999 l = nT l := by
  unfold nTL nT
  have e : (numL 999).length = 3 := by decide +kernel
  rw [e]
  by_cases h : (decide (1 ≤ l.length) && (decide (l.length ≤ 3) && l.all isDig)) = true
  · rw [if_pos h, if_pos h]
    simp only [Bool.and_eq_true, decide_eq_true_eq] at h
    have hv := dv_lt l (allD h.2.2)
    have : NumText.digitsVal l ≤ 999 := by
      have h3 : (10 : Nat) ^ l.length ≤ 10 ^ 3 := Nat.pow_le_pow_right (by decide) h.2.1
      have : (10 : Nat) ^ 3 = 1000 := rfl
      omega
    rw [if_pos this]
  · rw [if_neg h, if_neg h]
def spNumL : Sp := fun vs H Q _ => ∃ (l : List Nat) (L : Nat), vs = [.str (S l), .int (L : Int)] ∧ l.length ≤ 100000 ∧ L < 100000 ∧ ∀ H', Same H H' → Q (oV (nTL L l)) H'
theorem zero_txt : (("0" : String) : Str) = S [48] := by decide +kernel
theorem ok_number_in (T : TexW w K mg D) : FnOk P w K mg base CX0 3 D.a_number_in D.d_number_in P_number_in spNumL := by
  have G_is_string_of : FnOk P w K mg base CX0 2 D.a_is_string_of D.d_is_string_of P_is_string_of spStrT := ok_is_string_of T
  refine T.number_in_F.ok S_number_in (fun vs H Q E h => ?_) (fun cdv A outer s H vs Q E hr h => ?_)
  · obtain ⟨l, L, rfl, _⟩ := h
    rfl
  · obtain ⟨l, L, rfl, hl, hL, q⟩ := h
    have hLl : (numL L).length ≤ 5 := numL_len (by decide) hL
    refine ⟨_, (pss_cons (ps_if (pt_not (pt_val (pe_call G_is_string_of (hr.mono (by decide)) (by rfl) T.is_string_of_g T.is_string_of_F.kp T.is_string_of_b .nil pass0 (pa_cons (pv 0) (pa_cons (pe_glob (v := .str "0123456789") rfl T.c_DIGITS ⟨_, rfl⟩) (pa_cons (pe_callB call_len_str (by rfl) T.b_len (by decide +kernel) (pa_cons (pe_callTy call_str_int (by rfl) T.b_str (by decide +kernel) (pa_cons (pv 1) pa_nil)) pa_nil)) pa_nil)))))) (pss_one (ps_ret pe_non)) pss_nil)
      (pss_cons (ps_if (PW.pt (pw_and (pt_cmpR op_eq (pe_ix ix_str (pv 0) pe_int (fun _ _ => rfl)) pe_str (nomark _)) (pw_and1 (pt_cmpR op_ne (pv 0) pe_str (nomark _))))) (pss_one (ps_ret pe_non)) pss_nil)
      (pss_cons (ps_set (i := 2) S_number_in.nd rfl (Or.inl rfl) (pe_callTy call_int_str (by rfl) T.b_int (by decide +kernel) (pa_cons (pv 0) pa_nil)))
      (pss_one (ps_ret (pe_ifExp (pt_cmpR op_le (pv 2) (pv 1) (nomark _)) (pv 2) pe_non)))))), ?_⟩
    refine ⟨_, rfl, _, rfl, _, rfl, log_num hL, ?_⟩
    rw [str_num]
    refine ⟨_, rfl, by rw [S_len]; exact szl (by omega), S l, (("0123456789" : String) : Str), ((numL L).length : Int), by rw [S_len]; rfl, by rw [S_len]; exact hl, by omega, fun H1 s1 => ⟨_, rfl, ?_⟩⟩
    rw [good_nT]
    unfold nTL at q
    cases hg : (decide (1 ≤ l.length) && (decide (l.length ≤ (numL L).length) && l.all isDig)) with
    | false =>
      rw [hg] at q
      exact iteT (q H1 s1)
    | true =>
      rw [hg, if_pos rfl] at q
      refine iteF ?_
      simp only [Bool.and_eq_true, decide_eq_true_eq] at hg
      obtain ⟨hg1, hg3, hgd⟩ := hg
      have hdig : NumText.AllDigits l := allD hgd
      have hne : l ≠ [] := fun e => by
        rw [e] at hg1
        simp at hg1
      have hin : PySem.intText? (S l) = some ((NumText.digitsVal l : Nat) : Int) := intText_digits (x := S l) hdig hne (by rw [S_len]; omega)
      obtain ⟨c, r, rfl⟩ : ∃ c r, l = c :: r := by
        cases l with
        | nil => exact absurd rfl hne
        | cons c r => exact ⟨c, r, rfl⟩
      have h64 : (S (c :: r)).length ≤ 640 := by rw [S_len]; omega
      refine ⟨_, rfl, S (c :: r), 0, c, rfl, rfl, by rw [S_len]; exact szL (by omega), atI_nat (j := 0) rfl, rfl, _, rfl, ?_⟩
      rw [zero_txt]
      by_cases h0 : c = 48
      · subst h0
        rw [decide_eq_true rfl]
        refine iteT ⟨_, rfl, rfl, _, rfl, ?_⟩
        by_cases h1 : r = []
        · subst h1
          rw [decide_eq_true rfl]
          rw [if_neg (by simp)] at q
          refine iteF ⟨_, rfl, S [48], _, rfl, hin, h64, _, rfl, _, rfl, _, _, rfl, rfl, ?_⟩
          refine ⟨_, rfl, ite2 (fun h2 => ?_) (fun h2 => ?_)⟩
          · have h2' := of_decide_eq_true h2
            rw [if_pos (by omega)] at q
            exact ⟨_, rfl, q H1 s1⟩
          · have h2' := of_decide_eq_false (Bool.eq_false_iff.mpr h2)
            rw [if_neg (by omega)] at q
            exact q H1 s1
        · have hd : decide (V.str (S (48 :: r)) = V.str (S [48])) = false := decide_eq_false (by
            intro e
            injection e with e
            have e2 := S_inj e
            injection e2 with _ e3
            exact h1 e3)
          rw [hd]
          rw [if_pos (by simp [h1])] at q
          exact iteT (q H1 s1)
      · have hd : decide (V.str (S [c]) = V.str (S [48])) = false := decide_eq_false (by
          intro e
          injection e with e
          have e2 := S_inj e
          injection e2 with e3
          exact h0 e3)
        rw [hd]
        rw [if_neg (by simp [h0])] at q
        refine iteF (iteF ⟨_, rfl, S (c :: r), _, rfl, hin, h64, _, rfl, _, rfl, _, _, rfl, rfl, ?_⟩)
        refine ⟨_, rfl, ite2 (fun h2 => ?_) (fun h2 => ?_)⟩
        · have h2' := of_decide_eq_true h2
          rw [if_pos (by omega)] at q
          exact ⟨_, rfl, q H1 s1⟩
        · have h2' := of_decide_eq_false (Bool.eq_false_iff.mpr h2)
          rw [if_neg (by omega)] at q
          exact q H1 s1

/-! ### stage_of_text -/
/-! ### parts_of_text -/
theorem spl_len {b : List Nat} : ∀ {k : Nat} {acc l : List Nat}, (spl b k acc l).length ≤ l.length + 1 ∧ ∀ x ∈ spl b k acc l, x.length ≤ acc.length + l.length
  | k, acc, [] => by
    rw [spl_nil]
    simp
  | 0, acc, c :: r => by
    by_cases h : pre b (c :: r) = true
    · rw [spl_hit h]
      have ih := spl_len (b := b) (k := b.length - 1) (acc := []) (l := r)
      refine ⟨by simp only [List.length_cons]; omega, ?_⟩
      intro x hx
      rcases List.mem_cons.mp hx with rfl | hx
      · simp
      · have := ih.2 x hx
        simp only [List.length_nil, List.length_cons] at this ⊢
        omega
    · rw [spl_miss (Bool.eq_false_iff.mpr h)]
      have ih := spl_len (b := b) (k := 0) (acc := acc ++ [c]) (l := r)
      refine ⟨by simp only [List.length_cons]; omega, ?_⟩
      intro x hx
      have := ih.2 x hx
      simp only [List.length_append, List.length_cons, List.length_nil] at this ⊢
      omega
  | k + 1, acc, c :: r => by
    have ih := spl_len (b := b) (k := k) (acc := acc) (l := r)
    refine ⟨by show (spl b k acc r).length ≤ _; simp only [List.length_cons]; omega, ?_⟩
    intro x hx
    have := ih.2 x hx
    simp only [List.length_cons]
    omega
/-! ### ranks -/
end

/-! ## Environments as mathematics: words, their places, texts read -/
section
open TL SX
def isLow (c : Nat) : Bool := decide (97 ≤ c ∧ c ≤ 122)
def wordT (l : List Nat) : Bool := decide (1 ≤ l.length) && (decide (l.length ≤ 12) && l.all isLow)
def pw (l : List Nat) : Nat := l.foldl (fun p c => p * 26 + (c - 97) + 1) 0
def plc (s m : List Nat) (v : Nat) : Nat := (pw s * 100000000000000000 + pw m) * 100 + v
/-- an environment's text -/
def eW (s m : List Nat) (v : Nat) : List Nat := s ++ ([32] ++ (m ++ ([32] ++ numL v)))
theorem join_spl1 (s : Nat) : ∀ (l acc : List Nat), joinL [s] (spl [s] 0 acc l) = acc ++ l := by
  intro l
  induction l with
  | nil =>
    intro acc
    rw [spl_nil]
    simp [joinL]
  | cons c r ih =>
    intro acc
    have hne : ∀ (k : Nat) (a m : List Nat), spl [s] k a m ≠ [] := by
      intro k a m
      induction m generalizing k a with
      | nil => rw [spl_nil]; simp
      | cons x y ihm =>
        rw [spl_pass]
        cases hd : (x :: y).drop k with
        | nil => rw [spl_nil]; simp
        | cons u v =>
          by_cases h : pre [s] (u :: v) = true
          · rw [spl_hit h]; simp
          · rw [spl_miss (Bool.eq_false_iff.mpr h)]
            cases k with
            | zero =>
              obtain ⟨rfl, rfl⟩ := List.cons.inj hd
              exact ihm 0 _
            | succ k =>
              have e : y = y.take k ++ (u :: v) := by
                have := (List.take_append_drop k y).symm
                rw [show y.drop k = u :: v from hd] at this
                exact this
              have e2 : spl [s] (k + 1) (a ++ [u]) y = spl [s] 0 (a ++ [u]) v := by
                rw [spl_pass, show y.drop (k + 1) = v from by
                  have h0 : y.drop k = u :: v := hd
                  rw [← List.drop_drop, h0]
                  rfl]
              rw [← e2]
              exact ihm (k + 1) (a ++ [u])
    by_cases h : pre [s] (c :: r) = true
    · have hc : c = s := by
        simp only [pre, List.length_cons, List.length_nil, List.take_succ_cons, List.take_zero] at h
        simpa using h
      rw [spl_hit h]
      have e := ih []
      have hn := hne 0 [] r
      show joinL [s] (acc :: spl [s] 0 [] r) = _
      cases hs : spl [s] 0 [] r with
      | nil => exact absurd hs hn
      | cons p ps =>
        rw [hs] at e
        show acc ++ ([s] ++ joinL [s] (p :: ps)) = acc ++ c :: r
        rw [e, hc]
        rfl
    · rw [spl_miss (Bool.eq_false_iff.mpr h), ih]
      simp
/-- a text of an environment, read: the words and the level's text -/
def eT (l : List Nat) : Option (List Nat × List Nat × Nat) := match spl [32] 0 [] l with
  | [a, b, c] => match nTL 99 c with
    | some n => if wordT a = true ∧ wordT b = true then some (a, b, n) else none
    | none => none
  | _ => none
theorem dig_two : ∀ i j : Fin 10, (nTL 99 [48 + i.val] = some i.val ∧ numL i.val = [48 + i.val]) ∧ (nTL 99 [48 + i.val, 48 + j.val] = none ∨ (nTL 99 [48 + i.val, 48 + j.val] = some (10 * i.val + j.val) ∧ numL (10 * i.val + j.val) = [48 + i.val, 48 + j.val])) := by decide +kernel
theorem nTL99 {l : List Nat} {n : Nat} (h : nTL 99 l = some n) : l = numL n ∧ n ≤ 99 := by
  have h0 := h
  unfold nTL at h
  split at h
  · rename_i hc
    simp only [Bool.and_eq_true, decide_eq_true_eq] at hc
    obtain ⟨h1, h2, h3⟩ := hc
    have e : (numL 99).length = 2 := by decide +kernel
    rw [e] at h2
    have fin : n ≤ 99 := by
      split at h
      · cases h
      · split at h
        · obtain rfl := Option.some.inj h
          assumption
        · cases h
    have dg : ∀ c ∈ l, ∃ i : Fin 10, c = 48 + i.val := fun c hc => by
      have := List.all_eq_true.mp h3 c hc
      simp only [isDig, decide_eq_true_eq] at this
      exact ⟨⟨c - 48, by omega⟩, by show c = 48 + (c - 48); omega⟩
    match l, h1, h2, dg with
    | [c], _, _, dg =>
      obtain ⟨i, rfl⟩ := dg c (by simp)
      obtain ⟨⟨q1, q2⟩, _⟩ := dig_two i i
      rw [q1] at h0
      obtain rfl := Option.some.inj h0
      exact ⟨q2.symm, fin⟩
    | [c, d], _, _, dg =>
      obtain ⟨i, rfl⟩ := dg c (by simp)
      obtain ⟨j, rfl⟩ := dg d (by simp)
      rcases (dig_two i j).2 with q | ⟨q1, q2⟩
      · rw [q] at h0
        cases h0
      · rw [q1] at h0
        obtain rfl := Option.some.inj h0
        exact ⟨q2.symm, fin⟩
    | _ :: _ :: _ :: _, _, h2, _ => simp at h2
  · cases h
theorem num99 : ∀ n : Fin 100, nTL 99 (numL n.val) = some n.val := by decide +kernel
theorem nTL_num99 {n : Nat} (h : n ≤ 99) : nTL 99 (numL n) = some n := num99 ⟨n, by omega⟩
theorem word_free {l : List Nat} (h : wordT l = true) : 32 ∉ l := fun hm => by
  simp only [wordT, Bool.and_eq_true] at h
  have := List.all_eq_true.mp h.2.2 32 hm
  simp [isLow] at this
theorem spl_eW {s m : List Nat} {v : Nat} (hs : wordT s = true) (hm : wordT m = true) : spl [32] 0 [] (eW s m v) = [s, m, numL v] := by
  have h := spl_join (s := 32) (S := []) (parts := [s, m, numL v]) (by simp) (by
    intro p hp
    simp only [List.mem_cons, List.not_mem_nil, or_false] at hp
    rcases hp with rfl | rfl | rfl
    · exact word_free hs
    · exact word_free hm
    · exact numL_free (.inl (by decide)))
  exact h
theorem eT_eW {s m : List Nat} {v : Nat} (hs : wordT s = true) (hm : wordT m = true) (hv : v ≤ 99) : eT (eW s m v) = some (s, m, v) := by
  unfold eT
  rw [spl_eW hs hm]
  simp only [nTL_num99 hv]
  rw [if_pos ⟨hs, hm⟩]
theorem eT_some {l a b : List Nat} {n : Nat} (h : eT l = some (a, b, n)) : l = eW a b n ∧ wordT a = true ∧ wordT b = true ∧ n ≤ 99 := by
  unfold eT at h
  split at h
  · rename_i a' b' c hs
    split at h
    · rename_i n' hn
      split at h
      · rename_i hw
        obtain ⟨rfl, rfl, rfl⟩ : a' = a ∧ b' = b ∧ n' = n := by
          injection h with h
          injection h with h1 h2
          injection h2 with h2 h3
          exact ⟨h1, h2, h3⟩
        obtain ⟨rfl, hn99⟩ := nTL99 hn
        have e := join_spl1 32 l []
        rw [hs] at e
        exact ⟨e.symm, hw.1, hw.2, hn99⟩
      · cases h
    · cases h
  · cases h
/-- the words of the draws -/
def w8 : Nat → List Nat
  | 0 => [97]
  | 1 => [98]
  | 2 => [99]
  | 3 => [97, 97]
  | 4 => [110, 111, 116]
  | 5 => [110, 111, 114, 116, 104]
  | 6 => [122]
  | _ => [98, 98]
def lessW (l m : List Nat) : Bool := decide (l.length < m.length) || (decide (l.length = m.length) && decide (l < m))
theorem w8_facts : ∀ i j : Fin 8, wordT (w8 i.val) = true ∧ pw (w8 i.val) < 100000000000000000 ∧ (decide (pw (w8 i.val) < pw (w8 j.val)) = lessW (w8 i.val) (w8 j.val)) ∧ (pw (w8 i.val) = pw (w8 j.val) ↔ w8 i.val = w8 j.val) := by decide +kernel
theorem w8_word {i : Nat} (h : i < 8) : wordT (w8 i) = true := (w8_facts ⟨i, h⟩ ⟨i, h⟩).1
end

/-! ## Markers: tokens, terms, texts -/
section
open TL SX
def isLD (c : Nat) : Bool := isLow c || isDig c
def sgn8 : List Txt := [[61, 61], [33, 61], [60, 61], [62, 61], [60], [62], [40], [41]]
def tokF (l : Txt) : Txt := if l.takeWhile isLD = [] then ((sgn8.find? fun s => s.isPrefixOf (l.take 2)).getD []) else l.takeWhile isLD
def toksG (l : Txt) : Option (List Txt) := match l with
  | [] => some []
  | c :: r => if h : tokF (c :: r) = [] then (if c = 32 then toksG r else none) else (toksG ((c :: r).drop (tokF (c :: r)).length)).map (tokF (c :: r) :: ·)
termination_by l.length
decreasing_by
  · simp
  · have : 0 < (tokF (c :: r)).length := List.length_pos_iff.mpr h
    simp only [List.length_drop, List.length_cons]
    omega
def toksF (l : Txt) : Option (List Txt) := if l.head? = some 32 ∨ l.getLast? = some 32 then none else toksG l
def TokOk (w : Txt) : Prop := (w ≠ [] ∧ ∀ c ∈ w, isLD c = true) ∨ w ∈ sgn8
def glue (w w' : Txt) : Prop := match w' with
  | [] => False
  | c :: _ => ((∀ x ∈ w, isLD x = true) → isLD c = false) ∧ (w = [60] ∨ w = [62] → c ≠ 61)
theorem tok_ne {w : Txt} (h : TokOk w) : w ≠ [] := by
  rcases h with h | h
  · exact h.1
  · intro e
    subst e
    exact absurd h (by decide)
theorem tokF_here {w rest : Txt} (h : TokOk w) (hr : ∀ c r, rest = c :: r → ((∀ x ∈ w, isLD x = true) → isLD c = false) ∧ (w = [60] ∨ w = [62] → c ≠ 61)) : tokF (w ++ rest) = w := by
  rcases h with ⟨hn, hw⟩ | hs
  · have e : (w ++ rest).takeWhile isLD = w := by
      rw [List.takeWhile_append_of_pos hw]
      cases rest with
      | nil => simp
      | cons c r => rw [List.takeWhile_cons, (hr c r rfl).1 hw]; simp
    unfold tokF
    rw [e, if_neg hn]
  · simp only [sgn8, List.mem_cons, List.not_mem_nil, or_false] at hs
    rcases hs with rfl | rfl | rfl | rfl | rfl | rfl | rfl | rfl
    · rfl
    · rfl
    · rfl
    · rfl
    · cases rest with
      | nil => rfl
      | cons c r =>
        have := (hr c r rfl).2 (.inl rfl)
        have e : (61 == c) = false := by rw [beq_eq_false_iff_ne]; exact Ne.symm this
        show ((sgn8.find? fun s => s.isPrefixOf [60, c]).getD []) = [60]
        simp [sgn8, List.find?, List.isPrefixOf, e]
    · cases rest with
      | nil => rfl
      | cons c r =>
        have := (hr c r rfl).2 (.inr rfl)
        have e : (61 == c) = false := by rw [beq_eq_false_iff_ne]; exact Ne.symm this
        show ((sgn8.find? fun s => s.isPrefixOf [62, c]).getD []) = [62]
        simp [sgn8, List.find?, List.isPrefixOf, e]
    · cases rest <;> rfl
    · cases rest <;> rfl
theorem tokF_space (r : Txt) : tokF (32 :: r) = [] := by
  cases r <;> rfl
/-- tokens, each behind its gap -/
def lay (ps : List (Nat × Txt)) : Txt := ps.flatMap fun p => List.replicate p.1 32 ++ p.2
inductive LayOk : List (Nat × Txt) → Prop where
  | nil : LayOk []
  | one {g : Nat} {w : Txt} (h : TokOk w) : LayOk [(g, w)]
  | cons {g g' : Nat} {w w' : Txt} {ps : List (Nat × Txt)} (h : TokOk w) (k : g' = 0 → glue w w') (r : LayOk ((g', w') :: ps)) : LayOk ((g, w) :: (g', w') :: ps)
theorem toksG_gap (l : Txt) : ∀ g, toksG (List.replicate g 32 ++ l) = toksG l
  | 0 => rfl
  | g + 1 => by
    have e : List.replicate (g + 1) 32 ++ l = 32 :: (List.replicate g 32 ++ l) := rfl
    rw [e, toksG]
    rw [dif_pos (tokF_space _), if_pos rfl]
    exact toksG_gap l g
theorem toksG_tok {w rest : Txt} (h : TokOk w) (hr : ∀ c r, rest = c :: r → ((∀ x ∈ w, isLD x = true) → isLD c = false) ∧ (w = [60] ∨ w = [62] → c ≠ 61)) : toksG (w ++ rest) = (toksG rest).map (w :: ·) := by
  have e := tokF_here h hr
  obtain ⟨c, r, hw⟩ := List.exists_cons_of_ne_nil (tok_ne h)
  have e2 : w ++ rest = c :: (r ++ rest) := by rw [hw]; rfl
  rw [e2] at e ⊢
  rw [toksG, dif_neg (by rw [e]; exact tok_ne h), e, ← e2, List.drop_left]
theorem toksG_lay {ps : List (Nat × Txt)} (h : LayOk ps) : toksG (lay ps) = some (ps.map (·.2)) := by
  induction h with
  | nil => rw [show lay [] = [] from rfl, toksG]; rfl
  | @one g w h =>
    have e : lay [(g, w)] = List.replicate g 32 ++ (w ++ []) := by simp [lay]
    rw [e, toksG_gap, toksG_tok h (fun c r e => by cases e), toksG]
    rfl
  | @cons g g' w w' ps h k r ih =>
    have e : lay ((g, w) :: (g', w') :: ps) = List.replicate g 32 ++ (w ++ lay ((g', w') :: ps)) := by simp [lay]
    rw [e, toksG_gap, toksG_tok h (fun c r e => ?_), ih]
    · rfl
    · cases g' with
      | zero =>
        have k' := k rfl
        cases w' with
        | nil => exact absurd k' (by simp [glue])
        | cons x y =>
          have : c = x := by
            simp [lay] at e
            exact e.1.symm
          subst this
          exact k'
      | succ n =>
        have : c = 32 := by
          simp [lay, List.replicate_succ] at e
          exact e.1.symm
        subst this
        exact ⟨fun _ => rfl, fun _ => by decide⟩
theorem lay_head {w : Txt} {ps : List (Nat × Txt)} (h : TokOk w) : (lay ((0, w) :: ps)).head? ≠ some 32 := by
  obtain ⟨c, r, hw⟩ := List.exists_cons_of_ne_nil (tok_ne h)
  subst hw
  simp only [lay, List.flatMap_cons, List.replicate_zero, List.nil_append, List.cons_append, List.head?_cons, ne_eq, Option.some.injEq]
  rintro rfl
  rcases h with h | h
  · exact absurd (h.2 32 (by simp)) (by decide)
  · simp [sgn8] at h
theorem tok_last {w : Txt} (h : TokOk w) : w.getLast? ≠ some 32 := by
  intro e
  rcases h with h | h
  · exact absurd (h.2 32 (List.mem_of_getLast? e)) (by decide)
  · simp only [sgn8, List.mem_cons, List.not_mem_nil, or_false] at h
    rcases h with rfl | rfl | rfl | rfl | rfl | rfl | rfl | rfl <;> exact absurd e (by decide)
theorem lay_last {ps : List (Nat × Txt)} (h : LayOk ps) : (lay ps).getLast? ≠ some 32 := by
  induction h with
  | nil => simp [lay]
  | @one g w h =>
    have e : lay [(g, w)] = List.replicate g 32 ++ w := by simp [lay]
    rw [e, List.getLast?_append]
    obtain ⟨x, hx⟩ : ∃ x, w.getLast? = some x := ⟨_, List.getLast?_eq_some_getLast (tok_ne h)⟩
    rw [hx]
    intro q
    exact tok_last h (by rw [hx]; simpa using q)
  | @cons g g' w w' ps h k r ih =>
    have e : lay ((g, w) :: (g', w') :: ps) = (List.replicate g 32 ++ w) ++ lay ((g', w') :: ps) := by simp [lay]
    have ne : lay ((g', w') :: ps) ≠ [] := by
      have : w' ≠ [] := by
        cases r with
        | one h => exact tok_ne h
        | cons h _ _ => exact tok_ne h
      simp [lay, this]
    rw [e, List.getLast?_append]
    obtain ⟨x, hx⟩ : ∃ x, (lay ((g', w') :: ps)).getLast? = some x := ⟨_, List.getLast?_eq_some_getLast ne⟩
    rw [hx] at ih ⊢
    simpa using ih
theorem toks_lay {w : Txt} {ps : List (Nat × Txt)} (h : LayOk ((0, w) :: ps)) : toksF (lay ((0, w) :: ps)) = some (w :: ps.map (·.2)) := by
  have ht : TokOk w := by
    cases h with
    | one h => exact h
    | cons h _ _ => exact h
  unfold toksF
  rw [if_neg (fun q => q.elim (lay_head ht) (lay_last h)), toksG_lay h]
  rfl
/-! ### terms -/
def lvSigns : List Txt := [[61, 61], [33, 61], [60], [60, 61], [62], [62, 61]]
def cmpF (w s x : Txt) : Option Tm :=
  if w = wLevel then match nTL 99 x with
    | some n => if s ∈ lvSigns then some ⟨w, s, .inr n⟩ else none
    | none => none
  else if (s = [61, 61] ∨ s = [33, 61]) ∧ wordT x = true then some ⟨w, s, .inl x⟩ else none
def cmp3 : List Txt → Option Tm
  | [w, s, x] => cmpF w s x
  | _ => none
def termsF (ws : List Txt) : Option (List Tm) := match ws with
  | [] => some []
  | w :: r => if w ∈ fieldL then (cmp3 ((w :: r).take 3)).bind fun t => (termsF (r.drop 2)).map (t :: ·) else (termsF r).map (opT w :: ·)
termination_by ws.length
decreasing_by
  all_goals simp only [List.length_drop, List.length_cons]
  all_goals omega
def tkT (t : Tm) : List Txt := if t.w ∈ fieldL then [t.w, t.s, txV t.v] else [t.w]
def TmOk (t : Tm) : Prop := if t.w ∈ fieldL then cmpF t.w t.s (txV t.v) = some t else t = opT t.w
theorem terms_tk : ∀ {ts : List Tm}, (∀ t ∈ ts, TmOk t) → termsF (ts.flatMap tkT) = some ts
  | [], _ => by rw [show ([] : List Tm).flatMap tkT = [] from rfl, termsF]
  | t :: ts, h => by
    have ih := terms_tk (ts := ts) fun x hx => h x (List.mem_cons_of_mem _ hx)
    have ht := h t (by simp)
    unfold TmOk at ht
    rw [List.flatMap_cons]
    by_cases hf : t.w ∈ fieldL
    · rw [if_pos hf] at ht
      have e : tkT t = [t.w, t.s, txV t.v] := if_pos hf
      rw [e]
      show termsF (t.w :: t.s :: txV t.v :: ts.flatMap tkT) = _
      rw [termsF, if_pos hf]
      show (cmpF t.w t.s (txV t.v)).bind (fun u => (termsF (ts.flatMap tkT)).map (u :: ·)) = _
      rw [ht, ih]
      rfl
    · rw [if_neg hf] at ht
      have e : tkT t = [t.w] := if_neg hf
      rw [e]
      show termsF (t.w :: ts.flatMap tkT) = _
      rw [termsF, if_neg hf, ih, ← ht]
      rfl
/-- a whole text: its terms in postfix, or none -/
def readF (l : Txt) : Option (List Tm) := (toksF l).bind fun ws => (termsF ws).bind exprF
/-! ### texts -/
def bndT (w : Txt) : Nat := if w = wNot then 3 else if w = wAnd then 2 else if w = wOr then 1 else if w = [40] then 0 else if w = [41] then 1 else 4
abbrev Hs := List (Txt × Nat)
def txM (h : Hs) (t : Tm) : Option Hs :=
  if t.w = wNot then match h with
    | (x, b) :: r => some ((wNot ++ [32] ++ inP b 3 x, 3) :: r)
    | [] => none
  else if t.w = wAnd ∨ t.w = wOr then match h with
    | (y, c) :: (x, b) :: r => some ((inP b (bndT t.w) x ++ [32] ++ t.w ++ [32] ++ inP c (bndT t.w) y, bndT t.w) :: r)
    | _ => none
  else some ((txTm t, bndT t.w) :: h)
def txR : Hs → List Tm → Option Hs
  | h, [] => some h
  | h, t :: ts => (txM h t).bind fun h' => txR h' ts
theorem txR_append : ∀ (ts us : List Tm) (h : Hs), txR h (ts ++ us) = (txR h ts).bind fun h' => txR h' us
  | [], _, _ => rfl
  | t :: ts, us, h => by
    show (txM h t).bind _ = ((txM h t).bind _).bind _
    cases txM h t with
    | none => rfl
    | some m' => exact txR_append ts us m'
theorem oper_bnd : ∀ w ∈ operL, w ≠ wNot ∧ w ≠ wAnd ∧ w ≠ wOr ∧ bndT w = 4 := by decide
theorem txR_pfx : ∀ (t : Tr), (∀ x ∈ t.lvs, x.w ∈ operL) → ∀ h, txR h t.pfx = some ((t.wr, t.bd) :: h)
  | .lf x, q, h => by
    obtain ⟨a, b, c, d⟩ := oper_bnd x.w (q x (by simp [Tr.lvs]))
    show (txM h x).bind _ = _
    have e : txM h x = some ((txTm x, 4) :: h) := by
      unfold txM
      rw [if_neg a, if_neg (fun e => e.elim b c), d]
    rw [e]
    rfl
  | .no t, q, h => by
    show txR h (t.pfx ++ [opT wNot]) = _
    rw [txR_append, txR_pfx t q h]
    rfl
  | .bi a t u, q, h => by
    show txR h (t.pfx ++ u.pfx ++ [opT (wOp a)]) = _
    rw [txR_append, txR_append, txR_pfx t (fun x hx => q x (by simp [Tr.lvs, hx])) h]
    show ((txR _ u.pfx).bind _) = _
    rw [txR_pfx u (fun x hx => q x (by simp [Tr.lvs, hx]))]
    cases a <;> rfl
end

/-! ## Markers: tokens -/
section
variable {P : Program} {w : World} {K : PySem.W.Frag} {mg : Str → Option Value} {base : Heap} {D : Ad}
open TL SX
theorem cut_mid {l : List Nat} {k m : Nat} (h : k ≤ l.length) : cutS (S l) (some ((k : Nat) : Int)) (some ((m : Nat) : Int)) = S ((l.drop k).take (m - k)) := by
  have e1 : HT.sIx (S l).length 0 (some ((k : Nat) : Int)) = k := by
    rw [S_len, HT.sIx_nat]
    omega
  have e2 : HT.sIx (S l).length (S l).length (some ((m : Nat) : Int)) = min m l.length := by
    rw [S_len, HT.sIx_nat]
  unfold cutS
  rw [e1, e2]
  show S _ = _
  congr 1
  show (l.drop k).take _ = _
  by_cases hm : m ≤ l.length
  · rw [Nat.min_eq_left hm]
  · rw [Nat.min_eq_right (by omega), List.take_of_length_le (by rw [List.length_drop]; omega), List.take_of_length_le (by rw [List.length_drop]; omega)]
theorem tw_at {p : Nat → Bool} : ∀ {l : List Nat} {j c : Nat}, j ≤ (l.takeWhile p).length → l[j]? = some c → p c = decide (j < (l.takeWhile p).length)
  | [], j, c, _, h => by simp at h
  | x :: r, j, c, hj, h => by
    rw [List.takeWhile_cons] at hj ⊢
    cases hp : p x with
    | true =>
      rw [hp] at hj
      cases j with
      | zero =>
        have : x = c := by simpa using h
        rw [← this, hp]
        simp
      | succ j =>
        have := tw_at (p := p) (l := r) (j := j) (c := c) (by simpa using hj) (by simpa using h)
        rw [this]
        simp
    | false =>
      rw [hp] at hj
      have : j = 0 := by simpa using hj
      subst this
      have : x = c := by simpa using h
      rw [← this, hp]
      simp
theorem ld_sign (c : Nat) : decide (c ∈ ((("abcdefghijklmnopqrstuvwxyz" : String) : Str) ++ (("0123456789" : String) : Str)).cps.toList) = isLD c := by
  have e : ((("abcdefghijklmnopqrstuvwxyz" : String) : Str) ++ (("0123456789" : String) : Str)).cps.toList = (List.range 26).map (· + 97) ++ (List.range 10).map (· + 48) := by decide +kernel
  rw [e, Bool.eq_iff_iff, decide_eq_true_eq]
  simp only [isLD, isLow, isDig, List.mem_append, List.mem_map, List.mem_range, Bool.or_eq_true, decide_eq_true_eq]
  constructor
  · rintro (⟨i, hi, rfl⟩ | ⟨i, hi, rfl⟩)
    · exact .inl (by omega)
    · exact .inr (by omega)
  · rintro (h | h)
    · exact .inl ⟨c - 97, by omega, by omega⟩
    · exact .inr ⟨c - 48, by omega, by omega⟩
theorem sgn8_v : ([.str "==", .str "!=", .str "<=", .str ">=", .str "<", .str ">", .str "(", .str ")"] : List V) = sgn8.map fun l => V.str (S l) := by decide +kernel
theorem sqK {a : Addr} {xs : List V} (h : SqT K (fun _ => none) a xs) (H : Hp) : SqT K H a xs := h.elim (fun h => by
  rcases h with h | ⟨o, h⟩
  · exact nomatch (show (none : Option HO) = some _ from h)
  · exact nomatch (show (none : Option HO) = some _ from h)) .inr
theorem pre_S (a b : List Nat) : Txt.startswith (S a) (S b) = b.isPrefixOf a := by
  unfold Txt.startswith
  rw [PySem.StrLaws.subAt_eq, S_len, S_len, Nat.zero_add]
  show (decide (b.length ≤ a.length) && (a.take b.length == b)) = _
  rw [Bool.eq_iff_iff]
  simp only [Bool.and_eq_true, decide_eq_true_eq, beq_iff_eq, List.isPrefixOf_iff_prefix]
  constructor
  · rintro ⟨_, h⟩
    have e := List.take_append_drop b.length a
    rw [h] at e
    exact ⟨_, e⟩
  · rintro ⟨t, rfl⟩
    simp
/-- while, by a measure, to a word that holds at the end -/
theorem while_to {c : TT} {tb : TS} {D : Ends} {σ : L2.St} {H : Hp} (W : Nat → L2.St → Hp → Prop) (Z : L2.St → Hp → Prop) (h0 : ∃ m, W m σ H) (hx : ∀ σ H, Z σ H → D.nx σ H)
    (hs : (∀ σ H, Z σ H → D.nx σ H) → ∀ m σ H, W m σ H → c σ H fun b H1 => if b = true then ∃ N : L2.St → Hp → Prop, (∀ σ' H', N σ' H' → ∃ m', m' < m ∧ W m' σ' H') ∧ tb { D with nx := N, ct := N, bk := D.nx } σ H1 else D.nx σ H1) :
    tWhile c tb D σ H := ⟨W, h0, hs hx⟩
abbrev ldS : Str := (("abcdefghijklmnopqrstuvwxyz" : String) : Str) ++ (("0123456789" : String) : Str)
def spTokA : Sp := fun vs H Q _ => ∃ (l : List Nat) (k : Nat), vs = [.str (S l), .int (k : Int)] ∧ k < l.length ∧ l.length ≤ 100000 ∧ Q (.str (S (tokF (l.drop k)))) H
theorem ok_token_at (T : TexW w K mg D) : FnOk P w K mg base CX0 1 D.a_token_at D.d_token_at P_token_at spTokA := by
  refine T.token_at_F.ok S_token_at (fun vs H Q E h => ?_) (fun cdv A outer s H vs Q E hr h => ?_)
  · obtain ⟨l, k, rfl, _⟩ := h
    rfl
  · obtain ⟨l, k, rfl, hk, hl, q⟩ := h
    refine ⟨_, (pss_cons (ps_set (i := 2) S_token_at.nd rfl (Or.inl rfl) (pe_op op_add_str (pe_glob (v := .str "abcdefghijklmnopqrstuvwxyz") rfl T.c_LETTERS ⟨_, rfl⟩) (pe_glob (v := .str "0123456789") rfl T.c_DIGITS ⟨_, rfl⟩)))
      (pss_cons (ps_set (i := 3) S_token_at.nd rfl (Or.inl rfl) (pv 1))
      (pss_cons (ps_while PassesOwn.never (PW.pt (pw_and (pt_cmpR op_lt (pv 3) (pe_callB call_len_str (by rfl) T.b_len (by decide +kernel) (pa_cons (pv 0) pa_nil)) (nomark _)) (pw_and1 (pt_cmpR op_in_sign (pe_ix ix_str (pv 0) (pv 3) (fun _ _ => rfl)) (pv 2) rfl)))) (pss_one (ps_aug (i := 3) S_token_at.nd rfl (Or.inl rfl) pe_int ip_add)))
      (pss_cons (ps_if (pt_cmpR op_gt (pv 3) (pv 1) (nomark _)) (pss_one (ps_ret (pe_slice sl_str (pv 0) (po_some (pv 1)) (po_some (pv 3))))) pss_nil)
      (pss_cons (ps_for PassesOwn.never rfl (pi_tup (pe_glob (v := .ref D.k_SIGNS) rfl T.c_SIGNS rfl)) (pg_name (i := 4) S_token_at.nd rfl (Or.inl rfl)) (pss_one (ps_if (pt_val (pe_bm PySem.F.plainAttrs_str PySem.F.slot_str_startswith PySem.F.type_str_startswith mt_startswith (pe_slice sl_str (pv 0) (po_some (pv 1)) (po_some (pe_op op_add (pv 1) pe_int))) (pa_cons (pv 4) pa_nil))) (pss_one (ps_ret (pv 4))) pss_nil)))
      (pss_one (ps_ret pe_str))))))), ?_⟩
    refine ⟨_, _, rfl, rfl, by decide +kernel, _, rfl, ?_⟩
    have sl : (S l).length ≤ sizeLine := by rw [S_len]; exact szL hl
    have hW : ((l.drop k).takeWhile isLD).length ≤ l.length - k := by
      have := (List.takeWhile_sublist isLD (l := l.drop k)).length_le
      rwa [List.length_drop] at this
    have ek : ((l.drop k).takeWhile isLD).length = ((l.drop k).takeWhile isLD).length := rfl
    revert ek
    generalize hw : ((l.drop k).takeWhile isLD).length = W at hW ⊢
    intro _
    refine while_to (fun m σ H' => H' = H ∧ ∃ j o, j ≤ W ∧ m = W - j ∧ σ = [some (.str (S l)), some (.int (k : Int)), some (.str ldS), some (.int ((k + j : Nat) : Int)), o])
      (fun σ H' => H' = H ∧ ∃ o, σ = [some (.str (S l)), some (.int (k : Int)), some (.str ldS), some (.int ((k + W : Nat) : Int)), o]) ⟨_, rfl, 0, _, Nat.zero_le _, rfl, rfl⟩ ?_ ?_
    · rintro σ H1 ⟨rfl, o, rfl⟩
      refine ⟨_, rfl, _, rfl, _, _, rfl, rfl, _, rfl, ite2 (fun h2 => ?_) (fun h2 => ?_)⟩
      · have hp : 0 < W := by
          have := of_decide_eq_true h2
          omega
        refine ⟨_, rfl, _, rfl, _, rfl, _, rfl, _, rfl, S l, rfl, sl, ?_⟩
        rw [cut_mid (by omega)]
        have e : ((l.drop k).take (k + W - k)) = tokF (l.drop k) := by
          have e1 : (l.drop k).takeWhile isLD ≠ [] := by
            intro e
            rw [e] at hw
            simp at hw
            omega
          unfold tokF
          rw [if_neg e1, show k + W - k = W by omega, ← hw]
          exact (List.prefix_iff_eq_take.mp (List.takeWhile_prefix isLD)).symm
        rw [e]
        exact q
      · have h0 : W = 0 := by
          have := of_decide_eq_false (Bool.eq_false_iff.mpr h2)
          omega
        subst h0
        have e0 : (l.drop k).takeWhile isLD = [] := List.length_eq_zero_iff.mp hw
        refine ⟨D.k_SIGNS, rfl, ⟨_, sqK T.v_SIGNS _⟩, for_tup (K := K) (xs := [.str "==", .str "!=", .str "<=", .str ">=", .str "<", .str ">", .str "(", .str ")"]) (fun i σ H' => H' = H1 ∧ (∀ j < i, ∀ s, sgn8[j]? = some s → s.isPrefixOf ((l.drop k).take 2) = false) ∧ ∃ x, σ = [some (.str (S l)), some (.int (k : Int)), some (.str ldS), some (.int ((k + 0 : Nat) : Int)), x]) ⟨rfl, (fun j hj => absurd hj (Nat.not_lt_zero _)), _, rfl⟩ (fun i σ H' _ h => sqK T.v_SIGNS _) ?_ ?_⟩
        · rintro i v σ H2 hi ⟨rfl, hij, x, rfl⟩
          rw [sgn8_v, List.getElem?_map] at hi
          cases hs : sgn8[i]? with
          | none =>
            rw [hs] at hi
            cases hi
          | some s =>
            rw [hs] at hi
            cases hi
            refine ⟨_, rfl, _, rfl, _, rfl, _, rfl, _, _, rfl, rfl, _, rfl, S l, rfl, sl, ?_⟩
            have ec : cutS (S l) (some ((k : Nat) : Int)) (some ((k : Int) + 2)) = S ((l.drop k).take 2) := by
              have := cut_mid (l := l) (k := k) (m := k + 2) (by omega)
              rw [show k + 2 - k = 2 by omega] at this
              exact this
            rw [ec]
            refine ⟨rfl, _, rfl, _, _, rfl, rfl, _, rfl, ?_⟩
            rw [pre_S]
            cases hp : s.isPrefixOf ((l.drop k).take 2) with
            | true =>
              refine iteT ⟨_, rfl, ?_⟩
              have e : tokF (l.drop k) = s := by
                unfold tokF
                rw [if_pos e0]
                have : (sgn8.find? fun s => s.isPrefixOf ((l.drop k).take 2)) = some s := by
                  rw [List.find?_eq_some_iff_getElem]
                  obtain ⟨hi8, es⟩ := List.getElem?_eq_some_iff.mp hs
                  refine ⟨hp, i, hi8, es, fun j hj => ?_⟩
                  rw [hij j hj _ (List.getElem?_eq_getElem (by omega))]
                  decide
                rw [this]
                rfl
              rw [e] at q
              exact q
            | false =>
              refine iteF ⟨rfl, fun j hj s' hs' => ?_, _, rfl⟩
              by_cases hji : j = i
              · subst hji
                rw [hs] at hs'
                cases hs'
                exact hp
              · exact hij j (by omega) s' hs'
        · rintro σ H2 ⟨rfl, hij, x, rfl⟩
          have e : tokF (l.drop k) = [] := by
            unfold tokF
            rw [if_pos e0]
            have : (sgn8.find? fun s => s.isPrefixOf ((l.drop k).take 2)) = none := by
              rw [List.find?_eq_none]
              intro s hs
              obtain ⟨j, hj⟩ := List.mem_iff_getElem?.mp hs
              have hl : j < 8 := (List.getElem?_eq_some_iff.mp hj).1
              rw [hij j hl s hj]
              decide
            rw [this]
            rfl
          rw [e] at q
          exact q
    · rintro ex m σ H1 ⟨rfl, j, o, hj, rfl, rfl⟩
      refine ⟨_, rfl, _, rfl, S l, rfl, sl, _, _, rfl, rfl, _, rfl, ite2 (fun h1 => ?_) (fun h1 => ?_)⟩
      · have h1' := of_decide_eq_true h1
        rw [S_len] at h1'
        have hlt : k + j < l.length := by omega
        obtain ⟨c, hc⟩ : ∃ c, l[k + j]? = some c := ⟨_, List.getElem?_eq_getElem hlt⟩
        refine ⟨_, rfl, _, rfl, S l, _, c, rfl, rfl, sl, atI_nat hc, _, rfl, c, ldS, rfl, rfl, ?_⟩
        rw [ld_sign]
        have e := tw_at (p := isLD) (l := l.drop k) (j := j) (c := c) (by rw [hw]; exact hj) (by rw [List.getElem?_drop]; exact hc)
        rw [e, hw]
        refine ⟨_, rfl, ite2 (fun h3 => ?_) (fun h3 => ?_)⟩
        · have h3' := of_decide_eq_true h3
          refine ⟨fun σ H' => H' = H1 ∧ ∃ o, σ = [some (.str (S l)), some (.int (k : Int)), some (.str ldS), some (.int ((k + (j + 1) : Nat) : Int)), o], ?_, ?_⟩
          · rintro σ' H' ⟨rfl, o, rfl⟩
            exact ⟨_, by show W - (j + 1) < W - j; omega, rfl, j + 1, o, h3', rfl, rfl⟩
          · exact ⟨_, rfl, _, _, rfl, rfl, rfl, _, rfl⟩
        · have : j = W := by
            have := of_decide_eq_false (Bool.eq_false_iff.mpr h3)
            omega
          subst this
          exact ex _ _ ⟨rfl, _, rfl⟩
      · have : j = W := by
          have := of_decide_eq_false (Bool.eq_false_iff.mpr h1)
          rw [S_len] at this
          omega
        subst this
        exact ex _ _ ⟨rfl, _, rfl⟩
end

/-! ## Markers: a text's tokens -/
section
variable {P : Program} {w : World} {K : PySem.W.Frag} {mg : Str → Option Value} {base : Heap} {D : Ad}
open TL SX
theorem spc : ((" " : String) : Str) = S [32] := by decide +kernel
theorem ends_S (a : List Nat) (c : Nat) : Txt.endswith (S a) (S [c]) = decide (a.getLast? = some c) := by
  unfold Txt.endswith
  rw [PySem.StrLaws.subAt_eq, S_len, S_len, Nat.zero_add]
  show (decide (1 ≤ a.length) && ((a.drop (a.length - 1)).take 1 == [c])) = _
  rcases List.eq_nil_or_concat a with rfl | ⟨r, x, rfl⟩
  · simp
  · rw [Bool.eq_iff_iff]
    simp
theorem head_S (a : List Nat) (c : Nat) : Txt.startswith (S a) (S [c]) = decide (a.head? = some c) := by
  rw [pre_S]
  cases a with
  | nil => rfl
  | cons x r =>
    rw [Bool.eq_iff_iff]
    show ((c == x) && List.isPrefixOf [] r) = true ↔ _
    simp only [List.isPrefixOf, Bool.and_true, beq_iff_eq, decide_eq_true_eq, List.head?_cons, Option.some.injEq]
    exact eq_comm
theorem toksG_one {c : Nat} {r : Txt} : toksG (c :: r) = if tokF (c :: r) = [] then (if c = 32 then toksG r else none) else (toksG ((c :: r).drop (tokF (c :: r)).length)).map (tokF (c :: r) :: ·) := by
  rw [toksG]
  by_cases h : tokF (c :: r) = []
  · rw [dif_pos h, if_pos h]
  · rw [dif_neg h, if_neg h]
theorem tokF_len (l : Txt) : (tokF l).length ≤ l.length := by
  unfold tokF
  by_cases h : l.takeWhile isLD = []
  · rw [if_pos h]
    cases e : sgn8.find? fun s => s.isPrefixOf (l.take 2) with
    | none => simp
    | some s =>
      have := List.find?_some e
      have h2 := (List.isPrefixOf_iff_prefix.mp this).length_le
      have : (l.take 2).length ≤ l.length := by rw [List.length_take]; exact Nat.min_le_right _ _
      show s.length ≤ _
      omega
  · rw [if_neg h]
    exact (List.takeWhile_sublist isLD).length_le
def vT (ws : List Txt) : List V := ws.map fun x => V.str (S x)
def spToks : Sp := fun vs H Q _ => ∃ l : List Nat, vs = [.str (S l)] ∧ l.length ≤ 50000 ∧ (toksF l = none → ∀ H', Same H H' → Q .non H') ∧
  ∀ ws p H', toksF l = some ws → H p = none → Same H H' → H' p = some (.lst (vT ws)) → Q (.ref p) H'
theorem ok_tokens_of (T : TexW w K mg D) : FnOk P w K mg base CX0 2 D.a_tokens_of D.d_tokens_of P_tokens_of spToks := by
  have G_token_at : FnOk P w K mg base CX0 1 D.a_token_at D.d_token_at P_token_at spTokA := ok_token_at T
  refine T.tokens_of_F.ok S_tokens_of (fun vs H Q E h => ?_) (fun cdv A outer s H vs Q E hr h => ?_)
  · obtain ⟨l, rfl, _⟩ := h
    rfl
  · obtain ⟨l, rfl, hl, q0, q1⟩ := h
    refine ⟨_, (pss_cons (ps_if (PW.pt (pw_or (pt_val (pe_bm PySem.F.plainAttrs_str PySem.F.slot_str_startswith PySem.F.type_str_startswith mt_startswith (pv 0) (pa_cons pe_str pa_nil))) (pw_or1 (pt_val (pe_bm PySem.F.plainAttrs_str PySem.F.slot_str_endswith PySem.F.type_str_endswith mt_endswith (pv 0) (pa_cons pe_str pa_nil)))))) (pss_one (ps_ret pe_non)) pss_nil)
      (pss_cons (ps_set (i := 1) S_tokens_of.nd rfl (Or.inl rfl) (pe_lst pa_nil))
      (pss_cons (ps_set (i := 2) S_tokens_of.nd rfl (Or.inl rfl) pe_int)
      (pss_cons (ps_while PassesOwn.never (pt_cmpR op_lt (pv 2) (pe_callB call_len_str (by rfl) T.b_len (by decide +kernel) (pa_cons (pv 0) pa_nil)) (nomark _)) (pss_cons (ps_set (i := 3) S_tokens_of.nd rfl (Or.inl rfl) (pe_call G_token_at (hr.mono (by decide)) (by rfl) T.token_at_g T.token_at_F.kp T.token_at_b .nil pass0 (pa_cons (pv 0) (pa_cons (pv 2) pa_nil))))
      (pss_cons (ps_if (pt_cmpR op_ne (pv 3) pe_str (nomark _)) (pss_one (ps_expr (pe_bm PySem.F.plainAttrs_list PySem.F.slot_list_append PySem.F.type_list_append mt_append (pv 1) (pa_cons (pv 3) pa_nil)))) (pss_one (ps_if (pt_cmpR op_ne (pe_ix ix_str (pv 0) (pv 2) (fun _ _ => rfl)) pe_str (nomark _)) (pss_one (ps_ret pe_non)) pss_nil)))
      (pss_one (ps_set (i := 2) S_tokens_of.nd rfl (Or.inl rfl) (pe_op op_add (pv 2) (pe_callB (call_max2 rfl) (by rfl) T.b_max (by decide +kernel) (pa_cons pe_int (pa_cons (pe_callB call_len_str (by rfl) T.b_len (by decide +kernel) (pa_cons (pv 3) pa_nil)) pa_nil)))))))))
      (pss_one (ps_ret (pv 1))))))), ?_⟩
    have sl : (S l).length ≤ sizeLine := by rw [S_len]; exact szL (by omega)
    refine ⟨_, rfl, rfl, _, _, rfl, rfl, _, rfl, ?_⟩
    rw [spc, head_S]
    unfold toksF at q0 q1
    refine ite2 (fun h1 => ?_) (fun h1 => ?_)
    · rw [if_pos (.inl (of_decide_eq_true h1))] at q0
      exact q0 rfl H (Same.refl H)
    · refine ⟨_, rfl, rfl, _, _, rfl, rfl, _, rfl, ?_⟩
      rw [ends_S]
      refine ite2 (fun h2 => ?_) (fun h2 => ?_)
      · rw [if_pos (.inr (of_decide_eq_true h2))] at q0
        exact q0 rfl H (Same.refl H)
      · rw [if_neg (fun e => e.elim (of_decide_eq_false (Bool.eq_false_iff.mpr h1)) (of_decide_eq_false (Bool.eq_false_iff.mpr h2)))] at q0 q1
        refine ⟨by show 0 ≤ sizeLine; decide, fun p hp => ?_⟩
        refine while_to (fun m σ H' => ∃ ws at_ o, σ = [some (.str (S l)), some (.ref p), some (.int ((at_ : Nat) : Int)), o] ∧ m = l.length - at_ ∧ at_ ≤ l.length ∧ ws.length ≤ at_ ∧ Same H H' ∧ H' p = some (.lst (vT ws)) ∧ toksG l = (toksG (l.drop at_)).map (ws ++ ·))
          (fun σ H' => ∃ ws o, σ = [some (.str (S l)), some (.ref p), some (.int ((l.length : Nat) : Int)), o] ∧ Same H H' ∧ H' p = some (.lst (vT ws)) ∧ toksG l = some ws) ⟨_, [], 0, _, rfl, rfl, Nat.zero_le _, Nat.le_refl _, same_new hp, upd_same, by simp⟩ ?_ ?_
        · rintro σ H1 ⟨ws, o, rfl, s1, h1p, e⟩
          exact ⟨_, rfl, q1 ws p H1 e hp s1 h1p⟩
        · rintro ex m σ H1 ⟨ws, k, o, rfl, rfl, hk, hws, s1, h1p, e⟩
          refine ⟨_, rfl, _, rfl, S l, rfl, sl, _, _, rfl, rfl, _, rfl, ite2 (fun h3 => ?_) (fun h3 => ?_)⟩
          · have h3' := of_decide_eq_true h3
            rw [S_len] at h3'
            have hlt : k < l.length := by omega
            obtain ⟨c, r, hd⟩ : ∃ c r, l.drop k = c :: r := List.exists_cons_of_ne_nil (by
              intro e
              have := congrArg List.length e
              rw [List.length_drop] at this
              simp at this
              omega)
            have hdl : (l.drop k).length = l.length - k := List.length_drop
            rw [hd, toksG_one] at e
            refine ⟨fun σ H' => ∃ m', m' < l.length - k ∧ ∃ ws at_ o, σ = [some (.str (S l)), some (.ref p), some (.int ((at_ : Nat) : Int)), o] ∧ m' = l.length - at_ ∧ at_ ≤ l.length ∧ ws.length ≤ at_ ∧ Same H H' ∧ H' p = some (.lst (vT ws)) ∧ toksG l = (toksG (l.drop at_)).map (ws ++ ·), fun σ' H' h => h, ?_⟩
            refine ⟨_, rfl, _, rfl, l, k, rfl, hlt, by omega, ?_⟩
            rw [hd]
            have tl : (tokF (c :: r)).length ≤ l.length - k := by
              have := tokF_len (c :: r)
              rw [← hd, hdl] at this
              rw [← hd]
              exact this
            revert e tl
            generalize tokF (c :: r) = tk
            intro e tl
            have e0 : ∀ x : List Nat, (V.str (S x) = V.str (("" : String) : Str)) ↔ x = [] := fun x => by
              have : (("" : String) : Str) = S [] := by decide +kernel
              rw [this]
              exact ⟨fun q => S_inj (V.str.inj q), fun q => by rw [q]⟩
            refine ⟨_, rfl, rfl, _, rfl, ite2 (fun h4 => ?_) (fun h4 => ?_)⟩
            · have hn : tk ≠ [] := fun q => by
                rw [q] at h4
                exact absurd h4 (by decide +kernel)
              rw [if_neg hn] at e
              have htp : 1 ≤ tk.length := List.length_pos_iff.mpr hn
              refine ⟨_, rfl, .inl ⟨rfl, _, SqL.of h1p⟩, _, rfl, p, _, _, rfl, rfl, h1p, by rw [show (vT ws).length = ws.length from List.length_map _]; exact szT (by omega), ?_⟩
              refine ⟨_, rfl, _, rfl, S tk, rfl, by rw [S_len]; exact szL (by omega), _, _, rfl, ?_⟩
              have em : (if (((S tk).length : Nat) : Int) > 1 then (((S tk).length : Nat) : Int) else 1) = ((tk.length : Nat) : Int) := by
                rw [S_len]
                split <;> omega
              rw [em]
              refine ⟨_, _, rfl, rfl, l.length - (k + tk.length), by omega, ws ++ [tk], k + tk.length, _, rfl, rfl, by omega, by rw [List.length_append]; simp only [List.length_singleton]; omega, same_upd s1 hp, ?_, ?_⟩
              · rw [show vT (ws ++ [tk]) = vT ws ++ [V.str (S tk)] by simp [vT]]
                exact upd_same
              · rw [e, ← hd, List.drop_drop, Option.map_map]
                congr 1
                funext x
                simp
            · have hn : tk = [] := by
                have := Bool.eq_false_iff.mpr h4
                refine (e0 tk).mp ?_
                by_cases q : V.str (S tk) = V.str (("" : String) : Str)
                · exact q
                · exact absurd (show (!decide (V.str (S tk) = V.str (("" : String) : Str))) = true by rw [decide_eq_false q]; rfl) h4
              subst hn
              rw [if_pos rfl] at e
              have hc : l[k]? = some c := by
                have := congrArg List.head? hd
                rw [List.head?_drop] at this
                exact this
              refine ⟨_, rfl, _, rfl, S l, _, c, rfl, rfl, sl, atI_nat hc, rfl, _, rfl, ite2 (fun h5 => ?_) (fun h5 => ?_)⟩
              · have hc32 : c ≠ 32 := fun q => by
                  subst q
                  exact absurd h5 (by decide +kernel)
                rw [if_neg hc32] at e
                exact q0 (by rw [e]; rfl) H1 s1
              · have hc32 : c = 32 := by
                  by_cases q : c = 32
                  · exact q
                  · refine absurd (show (!decide (V.str (⟨#[c]⟩ : Str) = V.str (S [32]))) = true from ?_) h5
                    rw [decide_eq_false (fun q2 => q ?_)]
                    · rfl
                    · have := S_inj (a := [c]) (b := [32]) (V.str.inj q2)
                      simpa using this
                rw [if_pos hc32] at e
                refine ⟨_, rfl, _, rfl, S [], rfl, by decide +kernel, _, _, rfl, ?_⟩
                have em : (if (((S []).length : Nat) : Int) > 1 then (((S []).length : Nat) : Int) else 1) = ((1 : Nat) : Int) := by decide +kernel
                rw [em]
                refine ⟨_, _, rfl, rfl, l.length - (k + 1), by omega, ws, k + 1, _, rfl, rfl, by omega, by omega, s1, h1p, ?_⟩
                rw [e, ← List.drop_drop, hd]
                rfl
          · have : k = l.length := by
              have := of_decide_eq_false (Bool.eq_false_iff.mpr h3)
              rw [S_len] at this
              omega
            subst this
            rw [List.drop_length, toksG] at e
            exact ex _ _ ⟨ws, _, rfl, s1, h1p, by rw [e]; simp⟩
end

/-! ## Texts of given signs, asked of objects of every kind -/
section
variable {P : Program} {w : World} {K : PySem.W.Frag} {mg : Str → Option Value} {base : Heap} {D : Ad}
open TL SX
theorem tyx_keep {H H' : Hp} {x : V} {t : Value} (h : TyX K H x t) (s : Same H H') : TyX K H' x t := by
  cases h with
  | base h =>
    cases h with
    | non => exact .base .non
    | bl b => exact .base (.bl b)
    | int i => exact .base (.int i)
    | str i => exact .base (.str i)
    | flt i => exact .base (.flt i)
    | lst e => exact .base (.lst (s _ _ e))
    | frz e => exact .base (.frz (s _ _ e))
    | tup e => exact .base (.tup (s _ _ e))
    | dK e => exact .base (.dK (s _ _ e))
    | dT e => exact .base (.dT (s _ _ e))
    | ins e a b c d f => exact .base (.ins (s _ _ e) a b c d f)
  | byt b => exact .byt b
  | set e => exact .set (s _ _ e)
  | kList e c => exact .kList e c
  | kTuple e c => exact .kTuple e c
  | kDict e c => exact .kDict e c
  | fTuple e => exact .fTuple (s _ _ e)
  | fDict e => exact .fDict (s _ _ e)
theorem sqT_of {H : Hp} {b : Addr} {xs : List V} (h : H b = some (.tup xs)) : SqT K H b xs := .inl (.inl h)
theorem sqT_keep {H1 H2 : Hp} {b : Addr} {xs : List V} (e : Same H1 H2) (h : SqT K H1 b xs) : SqT K H2 b xs := by
  rcases h with (h | ⟨o, h⟩) | h
  · exact .inl (.inl (e _ _ h))
  · exact .inl (.inr ⟨o, e _ _ h⟩)
  · exact .inr h
/-- no text -/
def NoTxt (K : PySem.W.Frag) (H : Hp) (x : V) : Prop := ∃ t, TyX K H x t ∧ PySem.W.kitOne K t (.type "str") = some false
theorem NoTxt.keep {H H' : Hp} {x : V} (h : NoTxt K H x) (s : Same H H') : NoTxt K H' x := let ⟨t, a, b⟩ := h; ⟨t, tyx_keep a s, b⟩
theorem Plain.keep {H H' : Hp} {x : V} (h : Plain K H x) (s : Same H H') : Plain K H' x := let ⟨S, hS, a⟩ := h; ⟨S, hS, tyx_keep a s⟩
def spStrG (K : PySem.W.Frag) : Sp := fun vs H Q _ => ∃ (x : V) (sg : Str) (m : Int) (b : Bool), vs = [x, .str sg, .int m] ∧ m ≤ 100 ∧ ((∃ t : Str, x = .str t ∧ t.length ≤ 100000 ∧ b = goodT t sg m) ∨ (NoTxt K H x ∧ b = false)) ∧ ∀ H', Same H H' → Q (.bl b) H'
theorem ok_is_string_ofG (T : TexW w K mg D) : FnOk P w K mg base CX0 2 D.a_is_string_of D.d_is_string_of P_is_string_of (spStrG K) := by
  have G_consists_of : FnOk P w K mg base CX0 1 D.a_consists_of D.d_consists_of P_consists_of spConsistsOf := ok_consists_of T
  refine T.is_string_of_F.ok S_is_string_of (fun vs H Q E h => ?_) (fun cdv A outer s H vs Q E hr h => ?_)
  · obtain ⟨x, sg, m, b, rfl, _⟩ := h
    rfl
  · obtain ⟨x, sg, m, b, rfl, hm, hx, q⟩ := h
    refine ⟨_, (pss_one (ps_ret (pe_and (pe_callB call_isi (by rfl) T.b_isinstance (by decide +kernel) (pa_cons (pv 0) (pa_cons (pe_bltn (v := .ty "str") (u := .type "str") (by rfl) T.b_str (by decide +kernel) rfl) pa_nil))) (pe_and (pe_chain op_le op_le pe_int (pe_callB call_len_str (by rfl) T.b_len (by decide +kernel) (pa_cons (pv 0) pa_nil)) (pv 2)) (pe_one (pe_call G_consists_of (hr.mono (by decide)) (by rfl) T.consists_of_g T.consists_of_F.kp T.consists_of_b .nil pass0 (pa_cons (pv 0) (pa_cons (pv 1) pa_nil)))))))), ?_⟩
    rcases hx with ⟨t, rfl, hl, rfl⟩ | ⟨⟨ty, hty, hk⟩, rfl⟩
    · refine ⟨_, rfl, .str t, .ty "str", .type "str", .type "str", true, rfl, .ty _, .base (.str t), kit_ty (by decide +kernel), true, rfl, iteT ?_⟩
      refine ⟨_, rfl, t, rfl, szL hl, _, _, rfl, rfl, _, rfl, ?_⟩
      have eg : goodT t sg m = (decide (1 ≤ (t.length : Int)) && (decide ((t.length : Int) ≤ m) && t.cps.toList.all (inS sg))) := rfl
      rw [eg] at q
      refine ite2 (fun h1 => ?_) (fun h1 => ?_)
      · refine ⟨_, rfl, _, _, rfl, rfl, _, rfl, ite2 (fun h2 => ?_) (fun h2 => ?_)⟩
        · have h2' := of_decide_eq_true h2
          refine ⟨_, rfl, _, rfl, t, sg, rfl, by omega, fun H' s' => ?_⟩
          have q2 := q H' s'
          rw [h1, h2] at q2
          exact q2
        · have q2 := q H (Same.refl H)
          rw [h1, Bool.eq_false_iff.mpr h2] at q2
          exact q2
      · refine ⟨_, rfl, iteF ?_⟩
        have q2 := q H (Same.refl H)
        rw [Bool.eq_false_iff.mpr h1] at q2
        exact q2
    · exact ⟨_, rfl, x, .ty "str", _, .type "str", false, rfl, .ty _, hty, hk, false, rfl, iteF (q H (Same.refl H))⟩
theorem inS_low (c : Nat) : inS (("abcdefghijklmnopqrstuvwxyz" : String) : Str) c = isLow c := by
  unfold inS isLow
  have e : ((("abcdefghijklmnopqrstuvwxyz" : String) : Str)).cps.toList = (List.range 26).map (· + 97) := by decide +kernel
  rw [e, Bool.eq_iff_iff, decide_eq_true_eq, decide_eq_true_eq]
  simp only [List.mem_map, List.mem_range]
  constructor
  · rintro ⟨i, hi, rfl⟩
    omega
  · intro h
    exact ⟨c - 97, by omega, by omega⟩
theorem good_word (l : List Nat) : goodT (S l) (("abcdefghijklmnopqrstuvwxyz" : String) : Str) 12 = wordT l := by
  unfold goodT wordT
  have e1 : decide (1 ≤ ((S l).length : Int)) = decide (1 ≤ l.length) := by rw [S_len]; exact decide_eq_decide.mpr (by omega)
  have e2 : decide (((S l).length : Int) ≤ 12) = decide (l.length ≤ 12) := by rw [S_len]; exact decide_eq_decide.mpr (by omega)
  have e3 : (S l).cps.toList.all (inS (("abcdefghijklmnopqrstuvwxyz" : String) : Str)) = l.all isLow := by
    show l.all _ = _
    congr 1
    funext c
    exact inS_low c
  rw [e1, e2, e3]
/-- a word, or not -/
def WordQ (K : PySem.W.Frag) (H : Hp) (x : V) (b : Bool) : Prop := (∃ l : List Nat, x = .str (S l) ∧ l.length ≤ 100000 ∧ b = wordT l) ∨ (NoTxt K H x ∧ b = false)
theorem WordQ.keep {H H' : Hp} {x : V} {b : Bool} (h : WordQ K H x b) (s : Same H H') : WordQ K H' x b := h.imp id fun ⟨a, e⟩ => ⟨a.keep s, e⟩
def spIsWord (K : PySem.W.Frag) : Sp := fun vs H Q _ => ∃ (x : V) (b : Bool), vs = [x] ∧ WordQ K H x b ∧ ∀ H', Same H H' → Q (.bl b) H'
theorem ok_is_word (T : TexW w K mg D) : FnOk P w K mg base CX0 3 D.a_is_word D.d_is_word P_is_word (spIsWord K) := by
  have G_is_string_of : FnOk P w K mg base CX0 2 D.a_is_string_of D.d_is_string_of P_is_string_of (spStrG K) := ok_is_string_ofG T
  refine T.is_word_F.ok S_is_word (fun vs H Q E h => ?_) (fun cdv A outer s H vs Q E hr h => ?_)
  · obtain ⟨x, b, rfl, _⟩ := h
    rfl
  · obtain ⟨x, b, rfl, hx, q⟩ := h
    refine ⟨_, (pss_one (ps_ret (pe_call G_is_string_of (hr.mono (by decide)) (by rfl) T.is_string_of_g T.is_string_of_F.kp T.is_string_of_b .nil pass0 (pa_cons (pv 0) (pa_cons (pe_glob (v := .str "abcdefghijklmnopqrstuvwxyz") rfl T.c_LETTERS ⟨_, rfl⟩) (pa_cons pe_int pa_nil)))))), ?_⟩
    refine ⟨_, rfl, x, _, 12, b, rfl, by decide, ?_, q⟩
    rcases hx with ⟨l, rfl, hl, rfl⟩ | hx
    · exact .inl ⟨S l, rfl, by rw [S_len]; exact hl, (good_word l).symm⟩
    · exact .inr hx
end

/-! ## Markers: terms -/
section
variable {P : Program} {w : World} {K : PySem.W.Frag} {mg : Str → Option Value} {base : Heap} {D : Ad}
open TL SX
theorem inV_S (c : List Nat) (ws : List Txt) : inV (.str (S c)) (ws.map fun x => V.str (S x)) = decide (c ∈ ws) := by
  unfold inV
  rw [Bool.eq_iff_iff, List.any_eq_true, decide_eq_true_eq]
  constructor
  · rintro ⟨x, hx, e⟩
    obtain ⟨y, hy, rfl⟩ := List.mem_map.mp hx
    have e1 : S y = S c := by simpa [eqV] using e
    rw [← S_inj e1]
    exact hy
  · intro h
    exact ⟨_, List.mem_map.mpr ⟨c, h, rfl⟩, by simp [eqV]⟩
theorem flat_S (ws : List Txt) : (ws.map fun x => V.str (S x)).all flatV = true := by simp [flatV]
theorem lvs_v : ([.str "==", .str "!=", .str "<", .str "<=", .str ">", .str ">="] : List V) = lvSigns.map fun l => V.str (S l) := by decide +kernel
theorem fld_v : ([.str "system", .str "machine", .str "level"] : List V) = fieldL.map fun l => V.str (S l) := by decide +kernel
theorem two_v : ([.str "==", .str "!="] : List V) = ([[61, 61], [33, 61]] : List Txt).map fun l => V.str (S l) := by decide +kernel
theorem lev_t : (("level" : String) : Str) = S wLevel := by decide +kernel
theorem emp_t : (("" : String) : Str) = S [] := by decide +kernel
theorem eq_S (a b : List Nat) : decide (V.str (S a) = V.str (S b)) = decide (a = b) := decide_eq_decide.mpr ⟨fun q => S_inj (V.str.inj q), fun q => by rw [q]⟩
def vW : Txt ⊕ Nat → V
  | .inl l => .str (S l)
  | .inr n => .int ((n : Nat) : Int)
def vM (t : Tm) : List V := [.str (S t.w), .str (S t.s), vW t.v]
def spCmp : Sp := fun vs H Q _ => ∃ (a : Addr) (ws : List Txt), vs = [.ref a] ∧ H a = some (.lst (vT ws)) ∧ (∀ x ∈ ws, x.length ≤ 100000) ∧ (cmp3 ws = none → ∀ H', Same H H' → Q .non H') ∧
  ∀ t p H', cmp3 ws = some t → H p = none → Same H H' → H' p = some (.tup (vM t)) → Q (.ref p) H'
theorem ok_comparison_of (T : TexW w K mg D) : FnOk P w K mg base CX0 4 D.a_comparison_of D.d_comparison_of P_comparison_of spCmp := by
  have G_number_in : FnOk P w K mg base CX0 3 D.a_number_in D.d_number_in P_number_in spNumL := ok_number_in T
  have G_is_word : FnOk P w K mg base CX0 3 D.a_is_word D.d_is_word P_is_word (spIsWord K) := ok_is_word T
  refine T.comparison_of_F.ok S_comparison_of (fun vs H Q E h => ?_) (fun cdv A outer s H vs Q E hr h => ?_)
  · obtain ⟨a, ws, rfl, _⟩ := h
    rfl
  · obtain ⟨a, ws, rfl, ha, hlen, q0, q1⟩ := h
    refine ⟨_, (pss_cons (ps_if (pt_cmpR op_ne (pe_callB call_len_seq (by rfl) T.b_len (by decide +kernel) (pa_cons (pv 0) pa_nil)) pe_int (nomark _)) (pss_one (ps_ret pe_non)) pss_nil)
      (pss_cons (ps_asg (pv 0) (pg_unl (by rfl) (pgs_cons (pg_name (i := 1) S_comparison_of.nd rfl (Or.inl rfl)) (pgs_cons (pg_name (i := 2) S_comparison_of.nd rfl (Or.inl rfl)) (pgs_cons (pg_name (i := 3) S_comparison_of.nd rfl (Or.inl rfl)) pgs_nil)))))
      (pss_cons (ps_if (pt_cmpR op_eq (pv 1) pe_str (nomark _)) (pss_cons (ps_set (i := 4) S_comparison_of.nd rfl (Or.inl rfl) (pe_call G_number_in (hr.mono (by decide)) (by rfl) T.number_in_g T.number_in_F.kp T.number_in_b .nil pass0 (pa_cons (pv 3) (pa_cons (pe_glob (v := .int 99) rfl T.c_HIGHEST ⟨_, rfl⟩) pa_nil))))
      (pss_one (ps_ret (pe_ifExp (PW.pt (pw_and (pt_cmpR op_in_seq (pv 2) (pe_glob (v := .ref D.k_LEVEL_SIGNS) rfl T.c_LEVEL_SIGNS rfl) rfl) (pw_and1 (pt_cmpR op_notN (pv 4) pe_non (nomark _))))) (pe_tup (pa_cons (pv 1) (pa_cons (pv 2) (pa_cons (pv 4) pa_nil)))) pe_non)))) pss_nil)
      (pss_one (ps_ret (pe_ifExp (PW.pt (pw_and (pt_cmpR op_in_seq (pv 2) (pe_tup (pa_cons pe_str (pa_cons pe_str pa_nil))) rfl) (pw_and1 (pt_val (pe_call G_is_word (hr.mono (by decide)) (by rfl) T.is_word_g T.is_word_F.kp T.is_word_b .nil pass0 (pa_cons (pv 3) pa_nil)))))) (pe_tup (pa_cons (pv 1) (pa_cons (pv 2) (pa_cons (pv 3) pa_nil)))) pe_non)))))), ?_⟩
    refine ⟨_, rfl, a, _, rfl, .inl (SqL.of ha), rfl, _, rfl, ite2 (fun h1 => ?_) (fun h1 => ?_)⟩
    · have : cmp3 ws = none := by
        unfold cmp3
        split
        · exact absurd h1 (by simp [vT])
        · rfl
      exact q0 this H (Same.refl H)
    · have hl3 : ws.length = 3 := by
        by_cases h : ws.length = 3
        · exact h
        · refine absurd (show (!decide (V.int (((vT ws).length : Nat) : Int) = V.int 3)) = true from ?_) h1
          rw [decide_eq_false (fun e => h ?_)]
          · rfl
          · have := V.int.inj e
            rw [show (vT ws).length = ws.length from List.length_map _] at this
            omega
      match ws, hl3 with
      | [wd, sg, x], _ =>
      refine ⟨_, rfl, a, _, rfl, SqL.of ha, rfl, _, _, rfl, _, _, rfl, _, _, rfl, rfl, ?_⟩
      have hx : x.length ≤ 100000 := hlen x (by simp)
      have ec : cmp3 [wd, sg, x] = cmpF wd sg x := rfl
      rw [ec] at q0 q1
      unfold cmpF at q0 q1
      refine ⟨_, rfl, rfl, _, rfl, ?_⟩
      rw [lev_t, eq_S]
      refine ite2 (fun h2 => ?_) (fun h2 => ?_)
      · have h2' := of_decide_eq_true h2
        rw [if_pos h2'] at q0 q1
        refine ⟨_, rfl, x, 99, rfl, hx, by decide, fun H1 s1 => ?_⟩
        refine ⟨_, rfl, D.k_LEVEL_SIGNS, _, rfl, .inr (sqK T.v_LEVEL_SIGNS _), rfl, rfl, _, rfl, ?_⟩
        rw [lvs_v, if_neg (by decide : ¬ (false = true)), inV_S]
        cases hn : nTL 99 x with
        | none =>
          rw [hn] at q0
          refine ite2 (fun h3 => ?_) (fun h3 => ?_)
          · exact ⟨_, rfl, rfl, _, rfl, iteF (q0 rfl H1 s1)⟩
          · exact q0 rfl H1 s1
        | some n =>
          rw [hn] at q0 q1
          refine ite2 (fun h3 => ?_) (fun h3 => ?_)
          · have h3' := of_decide_eq_true h3
            refine ⟨_, rfl, rfl, _, rfl, iteT ⟨_, rfl, _, rfl, _, rfl, by show 3 ≤ sizeLine; decide, fun p hp => ?_⟩⟩
            exact q1 ⟨wd, sg, .inr n⟩ p _ (if_pos h3') (by
              cases hH : H p with
              | none => rfl
              | some o => exact absurd (s1 _ _ hH) (by rw [hp]; exact fun e => nomatch e)) (s1.trans (same_new hp)) upd_same
          · have h3' := of_decide_eq_false (Bool.eq_false_iff.mpr h3)
            exact q0 (if_neg h3') H1 s1
      · have h2' := of_decide_eq_false (Bool.eq_false_iff.mpr h2)
        rw [if_neg h2'] at q0 q1
        refine ⟨_, rfl, by show 2 ≤ sizeLine; decide, fun r hr0 => ⟨r, _, rfl, .inr (sqT_of upd_same), rfl, rfl, _, rfl, ?_⟩⟩
        have sr := same_new (o := .tup [V.str (("==" : String) : Str), V.str (("!=" : String) : Str)]) hr0
        rw [two_v, if_neg (by decide : ¬ (false = true)), inV_S]
        refine ite2 (fun h3 => ?_) (fun h3 => ?_)
        · have h3' := of_decide_eq_true h3
          have h4 : sg = [61, 61] ∨ sg = [33, 61] := by simpa using h3'
          refine ⟨_, rfl, _, wordT x, rfl, .inl ⟨x, rfl, hx, rfl⟩, fun H1 s1 => ⟨_, rfl, ?_⟩⟩
          cases hw : wordT x with
          | false =>
            rw [if_neg (by rw [hw]; simp)] at q0
            exact iteF (q0 rfl H1 (Same.trans (by rw [two_v] at sr; exact sr) s1))
          | true =>
            rw [if_pos ⟨h4, hw⟩] at q1
            refine iteT ⟨_, rfl, _, rfl, _, rfl, by show 3 ≤ sizeLine; decide, fun p hp => ?_⟩
            have s2 := Same.trans (by rw [two_v] at sr; exact sr) s1
            exact q1 ⟨wd, sg, .inl x⟩ p _ rfl (by
              cases hH : H p with
              | none => rfl
              | some o => exact absurd (s2 _ _ hH) (by rw [hp]; exact fun e => nomatch e)) (s2.trans (same_new hp)) upd_same
        · have h3' := of_decide_eq_false (Bool.eq_false_iff.mpr h3)
          rw [if_neg (fun e => h3' (by simpa using e.1))] at q0
          exact q0 rfl _ (by rw [two_v] at sr; exact sr)
def Row (K : PySem.W.Frag) (H : Hp) : List Addr → List Tm → Prop
  | [], [] => True
  | p :: ps, t :: ts => SqT K H p (vM t) ∧ Row K H ps ts
  | _, _ => False
end

/-! ## Markers: rows of terms -/
section
variable {P : Program} {w : World} {K : PySem.W.Frag} {mg : Str → Option Value} {base : Heap} {D : Ad}
open TL SX
theorem sqT_upd {H : Hp} {b p : Addr} {xs ys zs : List V} (h : SqT K H b xs) (hp : H p = some (.lst ys)) : SqT K (upd H p (.lst zs)) b xs := by
  rcases h with h | h
  · refine .inl ?_
    rcases h with h | ⟨o, h⟩
    · refine .inl ?_
      rw [upd_ne (fun e => by rw [e, hp] at h; cases h)]
      exact h
    · refine .inr ⟨o, ?_⟩
      rw [upd_ne (fun e => by rw [e, hp] at h; cases h)]
      exact h
  · exact .inr h
theorem Row.upd {H : Hp} {p : Addr} {ys zs : List V} (hp : H p = some (.lst ys)) : ∀ {ps : List Addr} {ts : List Tm}, Row K H ps ts → Row K (upd H p (.lst zs)) ps ts
  | [], [], _ => trivial
  | _ :: _, _ :: _, h => ⟨sqT_upd h.1 hp, Row.upd hp h.2⟩
  | [], _ :: _, h => h.elim
  | _ :: _, [], h => h.elim
theorem Row.keep {H H' : Hp} (s : Same H H') : ∀ {ps : List Addr} {ts : List Tm}, Row K H ps ts → Row K H' ps ts
  | [], [], _ => trivial
  | _ :: _, _ :: _, h => ⟨sqT_keep s h.1, Row.keep s h.2⟩
  | [], _ :: _, h => h.elim
  | _ :: _, [], h => h.elim
theorem Row.app {H : Hp} {qs : List Addr} {us : List Tm} (k : Row K H qs us) : ∀ {ps : List Addr} {ts : List Tm}, Row K H ps ts → Row K H (ps ++ qs) (ts ++ us)
  | [], [], _ => k
  | _ :: _, _ :: _, h => ⟨h.1, Row.app k h.2⟩
  | [], _ :: _, h => h.elim
  | _ :: _, [], h => h.elim
theorem Row.len {H : Hp} : ∀ {ps : List Addr} {ts : List Tm}, Row K H ps ts → ps.length = ts.length
  | [], [], _ => rfl
  | _ :: _, _ :: _, h => congrArg (· + 1) (Row.len h.2)
  | [], _ :: _, h => h.elim
  | _ :: _, [], h => h.elim
theorem Row.at {H : Hp} : ∀ {ps : List Addr} {ts : List Tm} {i : Nat} {p : Addr}, Row K H ps ts → ps[i]? = some p → ∃ t, ts[i]? = some t ∧ SqT K H p (vM t)
  | q :: _, t :: _, 0, p, h, e => ⟨t, rfl, by
    have : q = p := by simpa using e
    rw [← this]
    exact h.1⟩
  | _ :: _, _ :: _, i + 1, p, h, e => Row.at (i := i) h.2 (by simpa using e)
  | [], [], _, _, _, e => by simp at e
  | [], _ :: _, _, _, h, _ => h.elim
  | _ :: _, [], _, _, h, _ => h.elim
theorem opT_v (x : Txt) : vM (opT x) = [.str (S x), .str (("" : String) : Str), .str (("" : String) : Str)] := by
  rw [emp_t]
  rfl
theorem cutV_mid {xs : List V} {k m : Nat} (h : k ≤ xs.length) : cutV xs (some ((k : Nat) : Int)) (some ((m : Nat) : Int)) = (xs.drop k).take (m - k) := by
  have e1 : HT.sIx xs.length 0 (some ((k : Nat) : Int)) = k := by
    rw [HT.sIx_nat]
    omega
  have e2 : HT.sIx xs.length xs.length (some ((m : Nat) : Int)) = min m xs.length := by
    rw [HT.sIx_nat]
  unfold cutV
  rw [e1, e2]
  by_cases hm : m ≤ xs.length
  · rw [Nat.min_eq_left hm]
  · rw [Nat.min_eq_right (by omega), List.take_of_length_le (by rw [List.length_drop]; omega), List.take_of_length_le (by rw [List.length_drop]; omega)]
theorem cmp3_len {l : List Txt} {t : Tm} (h : cmp3 l = some t) : l.length = 3 := by
  unfold cmp3 at h
  split at h
  · rfl
  · cases h
def spTerms (K : PySem.W.Frag) : Sp := fun vs H Q _ => ∃ (a : Addr) (ws : List Txt), vs = [.ref a] ∧ H a = some (.lst (vT ws)) ∧ ws.length ≤ 50000 ∧ (∀ x ∈ ws, x.length ≤ 100000) ∧ (termsF ws = none → ∀ H', Same H H' → Q .non H') ∧
  ∀ ts ps p H', termsF ws = some ts → H p = none → Same H H' → H' p = some (.lst (ps.map V.ref)) → Row K H' ps ts → Q (.ref p) H'
theorem ok_terms_of (T : TexW w K mg D) : FnOk P w K mg base CX0 5 D.a_terms_of D.d_terms_of P_terms_of (spTerms K) := by
  have G_comparison_of : FnOk P w K mg base CX0 4 D.a_comparison_of D.d_comparison_of P_comparison_of spCmp := ok_comparison_of T
  refine T.terms_of_F.ok S_terms_of (fun vs H Q E h => ?_) (fun cdv A outer s H vs Q E hr h => ?_)
  · obtain ⟨a, ws, rfl, _⟩ := h
    rfl
  · obtain ⟨a, ws, rfl, ha, hl, hlen, q0, q1⟩ := h
    refine ⟨_, (pss_cons (ps_set (i := 1) S_terms_of.nd rfl (Or.inl rfl) (pe_lst pa_nil))
      (pss_cons (ps_set (i := 2) S_terms_of.nd rfl (Or.inl rfl) pe_int)
      (pss_cons (ps_while PassesOwn.never (pt_cmpR op_lt (pv 2) (pe_callB call_len_seq (by rfl) T.b_len (by decide +kernel) (pa_cons (pv 0) pa_nil)) (nomark _)) (pss_one (ps_if (pt_cmpR op_in_seq (pe_ix ix_list (pv 0) (pv 2) (fun _ _ => rfl)) (pe_glob (v := .ref D.k_FIELDS) rfl T.c_FIELDS rfl) rfl) (pss_cons (ps_set (i := 3) S_terms_of.nd rfl (Or.inl rfl) (pe_call G_comparison_of (hr.mono (by decide)) (by rfl) T.comparison_of_g T.comparison_of_F.kp T.comparison_of_b .nil pass0 (pa_cons (pe_slice sl_list (pv 0) (po_some (pv 2)) (po_some (pe_op op_add (pv 2) pe_int))) pa_nil)))
      (pss_cons (ps_if (pt_cmpR op_isN (pv 3) pe_non (nomark _)) (pss_one (ps_ret pe_non)) pss_nil)
      (pss_cons (ps_expr (pe_bm PySem.F.plainAttrs_list PySem.F.slot_list_append PySem.F.type_list_append mt_append (pv 1) (pa_cons (pv 3) pa_nil)))
      (pss_one (ps_aug (i := 2) S_terms_of.nd rfl (Or.inl rfl) pe_int ip_add))))) (pss_cons (ps_expr (pe_bm PySem.F.plainAttrs_list PySem.F.slot_list_append PySem.F.type_list_append mt_append (pv 1) (pa_cons (pe_tup (pa_cons (pe_ix ix_list (pv 0) (pv 2) (fun _ _ => rfl)) (pa_cons pe_str (pa_cons pe_str pa_nil)))) pa_nil)))
      (pss_one (ps_aug (i := 2) S_terms_of.nd rfl (Or.inl rfl) pe_int ip_add))))))
      (pss_one (ps_ret (pv 1)))))), ?_⟩
    refine ⟨by show 0 ≤ sizeLine; decide, fun p hp => ?_⟩
    refine while_to (fun m σ H' => ∃ ts ps k o, σ = [some (.ref a), some (.ref p), some (.int ((k : Nat) : Int)), o] ∧ m = ws.length - k ∧ k ≤ ws.length ∧ ts.length ≤ k ∧ Same H H' ∧ H' p = some (.lst (ps.map V.ref)) ∧ Row K H' ps ts ∧ termsF ws = (termsF (ws.drop k)).map (ts ++ ·))
      (fun σ H' => ∃ ts ps o, σ = [some (.ref a), some (.ref p), some (.int ((ws.length : Nat) : Int)), o] ∧ Same H H' ∧ H' p = some (.lst (ps.map V.ref)) ∧ Row K H' ps ts ∧ termsF ws = some ts) ⟨_, [], [], 0, _, rfl, rfl, Nat.zero_le _, Nat.le_refl _, same_new hp, upd_same, trivial, by simp⟩ ?_ ?_
    · rintro σ H1 ⟨ts, ps, o, rfl, s1, h1p, hrow, e⟩
      exact ⟨_, rfl, q1 ts ps p H1 e hp s1 h1p hrow⟩
    · rintro ex m σ H1 ⟨ts, ps, k, o, rfl, rfl, hk, hts, s1, h1p, hrow, e⟩
      have h1a := s1 _ _ ha
      refine ⟨_, rfl, _, rfl, a, _, rfl, .inl (SqL.of h1a), _, _, rfl, rfl, _, rfl, ite2 (fun h3 => ?_) (fun h3 => ?_)⟩
      · have h3' := of_decide_eq_true h3
        rw [show (vT ws).length = ws.length from List.length_map _] at h3'
        have hlt : k < ws.length := by omega
        obtain ⟨c, r, hd⟩ : ∃ c r, ws.drop k = c :: r := List.exists_cons_of_ne_nil (by
          intro e
          have := congrArg List.length e
          rw [List.length_drop] at this
          simp at this
          omega)
        have hc : ws[k]? = some c := by
          have := congrArg List.head? hd
          rw [List.head?_drop] at this
          exact this
        rw [hd, termsF] at e
        refine ⟨fun σ H' => ∃ m', m' < ws.length - k ∧ ∃ ts ps k o, σ = [some (.ref a), some (.ref p), some (.int ((k : Nat) : Int)), o] ∧ m' = ws.length - k ∧ k ≤ ws.length ∧ ts.length ≤ k ∧ Same H H' ∧ H' p = some (.lst (ps.map V.ref)) ∧ Row K H' ps ts ∧ termsF ws = (termsF (ws.drop k)).map (ts ++ ·), fun σ' H' h => h, ?_⟩
        have hcv : (vT ws)[k]? = some (V.str (S c)) := by
          show (ws.map _)[k]? = _
          rw [List.getElem?_map, hc]
          rfl
        refine ⟨_, rfl, _, rfl, a, _, _, _, rfl, rfl, SqL.of h1a, atI_nat hcv, D.k_FIELDS, _, rfl, .inr (sqK T.v_FIELDS _), rfl, rfl, _, rfl, ?_⟩
        rw [fld_v, if_neg (by decide : ¬ (false = true)), inV_S]
        have pl : ps.length ≤ k := by rw [hrow.len]; exact hts
        refine ite2 (fun h4 => ?_) (fun h4 => ?_)
        · have h4' := of_decide_eq_true h4
          rw [if_pos h4'] at e
          refine ⟨_, rfl, _, rfl, _, rfl, _, rfl, _, _, rfl, rfl, _, rfl, a, _, rfl, SqL.of h1a, fun q hq => ?_⟩
          have ecut : cutV (vT ws) (some ((k : Nat) : Int)) (some ((k : Int) + 3)) = vT ((ws.drop k).take 3) := by
            have := cutV_mid (xs := vT ws) (k := k) (m := k + 3) (by rw [show (vT ws).length = ws.length from List.length_map _]; omega)
            rw [show k + 3 - k = 3 by omega] at this
            rw [show vT ((ws.drop k).take 3) = ((vT ws).drop k).take 3 by simp [vT, List.map_take, List.map_drop]]
            exact this
          rw [ecut]
          have s2 := same_new (o := .lst (vT ((ws.drop k).take 3))) hq
          refine ⟨q, (ws.drop k).take 3, rfl, upd_same, fun x hx => hlen x (List.mem_of_mem_drop (List.mem_of_mem_take hx)), fun hn H2 s3 => ?_, fun t pt H2 ht hpt s3 h2t => ?_⟩
          · rw [hd] at hn
            rw [hn] at e
            exact ⟨_, rfl, rfl, _, rfl, iteT (q0 (by rw [e]; rfl) H2 (s1.trans (s2.trans s3)))⟩
          · have h2p := s3 _ _ (s2 _ _ h1p)
            have l3 := cmp3_len ht
            rw [List.length_take, List.length_drop] at l3
            rw [hd] at ht
            rw [ht] at e
            refine ⟨_, rfl, rfl, _, rfl, iteF ?_⟩
            refine ⟨_, rfl, .inl ⟨rfl, _, SqL.of h2p⟩, _, rfl, p, _, _, rfl, rfl, h2p, by rw [List.length_map]; exact szT (by omega), ?_⟩
            refine ⟨_, rfl, _, _, rfl, rfl, ws.length - (k + 3), by omega, ts ++ [t], ps ++ [pt], k + 3, _, rfl, rfl, by omega, by rw [List.length_append]; simp only [List.length_singleton]; omega, same_upd (s1.trans (s2.trans s3)) hp, ?_, ?_, ?_⟩
            · rw [List.map_append]
              exact upd_same
            · exact Row.app (qs := [pt]) (us := [t]) (show SqT K _ pt _ ∧ True from ⟨sqT_upd (sqT_of h2t) h2p, trivial⟩) (Row.upd h2p ((hrow.keep s2).keep s3))
            · rw [e, ← List.drop_drop, hd]
              show Option.map _ (Option.map _ (termsF (r.drop 2))) = _
              rw [Option.map_map]
              congr 1
              funext x
              simp
        · have h4' := of_decide_eq_false (Bool.eq_false_iff.mpr h4)
          rw [if_neg h4'] at e
          refine ⟨_, rfl, .inl ⟨rfl, _, SqL.of h1p⟩, _, rfl, _, rfl, a, _, _, _, rfl, rfl, SqL.of h1a, atI_nat hcv, by show 3 ≤ sizeLine; decide, fun z hz => ?_⟩
          have s2 := same_new (o := .tup [V.str (S c), .str (("" : String) : Str), .str (("" : String) : Str)]) hz
          have h2p := s2 _ _ h1p
          refine ⟨p, _, _, rfl, rfl, h2p, by rw [List.length_map]; exact szT (by omega), ?_⟩
          refine ⟨_, rfl, _, _, rfl, rfl, ws.length - (k + 1), by omega, ts ++ [opT c], ps ++ [z], k + 1, _, rfl, rfl, by omega, by rw [List.length_append]; simp only [List.length_singleton]; omega, same_upd (s1.trans s2) hp, ?_, ?_, ?_⟩
          · rw [List.map_append]
            exact upd_same
          · refine Row.app (qs := [z]) (us := [opT c]) (show SqT K _ z _ ∧ True from ⟨?_, trivial⟩) (Row.upd h2p (hrow.keep s2))
            rw [opT_v]
            exact sqT_upd (sqT_of upd_same) h2p
          · rw [e, ← List.drop_drop, hd, Option.map_map]
            congr 1
            funext x
            simp
      · have : k = ws.length := by
          have := of_decide_eq_false (Bool.eq_false_iff.mpr h3)
          rw [show (vT ws).length = ws.length from List.length_map _] at this
          omega
        subst this
        rw [List.drop_length, termsF] at e
        exact ex _ _ ⟨ts, ps, _, rfl, s1, h1p, hrow, by rw [e]; simp⟩
end

/-! ## Comprehensions whose elements are new objects -/
section
theorem lc_grow {α β : Type} {J : It} {n : Nat} {G : Hp → Prop} {Y : Nat → Hp → V → Hp → Prop} (w : Walk J n G Y) (xs : List α) (emb : α → V) (hn : n = xs.length)
    (hY : ∀ i H x H', Y i H x H' → H' = H ∧ ∃ a, xs[i]? = some a ∧ x = emb a)
    {g : TG} {tt : TT} {te : TE} {vs : List Nat} {σ : L2.St} {H1 : Hp} {D : Addr} {Qd : Hp → Prop} (f : α → Option β) (Pr : Hp → V → β → Prop) (hPr : ∀ H H' v b l, H D = some (.lst l) → But D H H' → Pr H v b → Pr H' v b) (hD : H1 D = none) (hz : n < sizeLine) (hG : ∀ H, Same H1 H → G H)
    (hs : ∀ a, a ∈ xs → ∀ (H : Hp) (R : VK) (S : Hp → Prop), Same H1 H → (∀ v b H', f a = some b → Same H H' → Pr H' v b → R v H') → (f a = none → ∀ H', Same H H' → S H') →
      g (emb a) (wipe σ vs) H fun σ2 H2 => wipe σ2 vs = wipe σ vs ∧ tt σ2 H2 fun b H3 => if b = true then te σ2 H3 R else S H3)
    (hd : ∀ H (acc : List (V × β)), Same H1 H → acc.map (·.2) = xs.filterMap f → (∀ q ∈ acc, Pr H q.1 q.2) → H D = some (.lst (acc.map (·.1))) → Qd H) :
    ∃ W : Nat → Nat → Hp → Prop, (∃ m, W 0 m (upd H1 D (.lst []))) ∧ ∀ i m H, W i m H →
      (J.stop i H ∧ Qd H) ∨ (J.go i H ∧ ∃ Nx : Hp → Prop, (∀ H', Nx H' → ∃ m', m' < m ∧ W (i + 1) m' H') ∧
        ∀ x H', J.yld i H x H' → g x (wipe σ vs) H' fun σ2 H2 => wipe σ2 vs = wipe σ vs ∧ tt σ2 H2 fun b H3 =>
          if b = true then te σ2 H3 fun y H4 => ∃ acc, H4 D = some (.lst acc) ∧ acc.length < sizeLine ∧ Nx (upd H4 D (.lst (acc ++ [y]))) else Nx H3) := by
  refine lc_it w (fun i H => Same H1 H ∧ ∃ acc : List (V × β), acc.map (·.2) = (xs.take i).filterMap f ∧ (∀ q ∈ acc, Pr H q.1 q.2) ∧ H D = some (.lst (acc.map (·.1)))) ⟨same_new hD, [], rfl, (fun q hq => by cases hq), by rw [upd_same]; rfl⟩ (fun i H _ h => hG H h.1) ?_ ?_
  · rintro i x H H' hi ⟨s, acc, ha, hp, hl⟩ y
    obtain ⟨rfl, a, hx, rfl⟩ := hY _ _ _ _ y
    have hlen : (acc.map (·.1)).length < sizeLine := by
      have e := congrArg List.length ha
      rw [List.length_map] at e
      rw [List.length_map, e]
      refine Nat.lt_of_le_of_lt ?_ hz
      refine Nat.le_trans (List.length_filterMap_le _ _) ?_
      rw [List.length_take]
      omega
    refine hs a (List.mem_of_getElem? hx) H' _ _ s (fun v b H4 hf s4 hv => ?_) (fun hf H4 s4 => ?_)
    · have hl4 := s4 _ _ hl
      have bt : But D H4 (upd H4 D (.lst (acc.map (·.1) ++ [v]))) := But.upd
      refine ⟨_, hl4, hlen, same_upd (s.trans s4) hD, acc ++ [(v, b)], ?_, fun q hq => ?_, ?_⟩
      · rw [one_more hx, List.filterMap_append, List.map_append, ha]
        simp [hf]
      · rcases List.mem_append.mp hq with h | h
        · exact hPr _ _ _ _ _ hl4 bt (hPr _ _ _ _ _ hl (But.of_same s4) (hp q h))
        · rw [List.mem_singleton.mp h]
          exact hPr _ _ _ _ _ hl4 bt hv
      · rw [upd_same, List.map_append] <;> rfl
    · refine ⟨s.trans s4, acc, ?_, fun q hq => hPr _ _ _ _ _ hl (But.of_same s4) (hp q hq), s4 _ _ hl⟩
      rw [one_more hx, List.filterMap_append, ha]
      simp [hf]
  · rintro H ⟨s, acc, ha, hp, hl⟩
    refine hd H acc s ?_ hp hl
    rw [ha, hn, List.take_length]
end

/-! ## Markers: expressions -/
section
variable {P : Program} {w : World} {K : PySem.W.Frag} {mg : Str → Option Value} {base : Heap} {D : Ad}
open TL SX
def bindL : List (Str × V) := [("(", .int 0), (")", .int 1), ("or", .int 1), ("and", .int 2), ("not", .int 3)]
def heldL : List Txt := [[40], wNot, wAnd, wOr]
theorem bind_lk : ∀ x ∈ ([[40], [41], wNot, wAnd, wOr] : List Txt), bindL.lookup (S x) = some (.int ((bnd x : Nat) : Int)) := by decide +kernel
theorem opn_v : ([.str "(", .str "not"] : List V) = ([[40], wNot] : List Txt).map fun l => V.str (S l) := by decide +kernel
theorem opd_v : ([.str "always", .str "never", .str "system", .str "machine", .str "level"] : List V) = operL.map fun l => V.str (S l) := by decide +kernel
theorem cls_v : ([.str "and", .str "or", .str ")"] : List V) = ([wAnd, wOr, [41]] : List Txt).map fun l => V.str (S l) := by decide +kernel
theorem par_t : ((")" : String) : Str) = S [41] := by decide +kernel
theorem opar_t : (("(" : String) : Str) = S [40] := by decide +kernel
/-- the words that are held, the last of them first -/
def vH (h : List Txt) : List V := vT h.reverse
theorem vH_cons (x : Txt) (h : List Txt) : vH (x :: h) = vH h ++ [.str (S x)] := by simp [vH, vT]
theorem vH_len (h : List Txt) : (vH h).length = h.length := by simp [vH, vT]
theorem runM_none {m : Ms} {ts : List Tm} {i : Nat} {m' : Ms} {t : Tm} (h : runM m (ts.take i) = some m') (e : ts[i]? = some t) (k : stepM m' t = none) : runM m ts = none := by
  have : ts = ts.take i ++ (t :: ts.drop (i + 1)) := by
    rw [← List.take_append_drop i ts]
    congr 1
    · simp
    · rw [List.take_append_drop]
      exact (List.drop_eq_getElem_cons (List.getElem?_eq_some_iff.mp e).1).trans (by rw [(List.getElem?_eq_some_iff.mp e).2])
  rw [this, runM_append, h]
  show (stepM m' t).bind _ = none
  rw [k]
  rfl
theorem runM_step {m : Ms} {ts : List Tm} {i : Nat} {m' m2 : Ms} {t : Tm} (h : runM m (ts.take i) = some m') (e : ts[i]? = some t) (k : stepM m' t = some m2) : runM m (ts.take (i + 1)) = some m2 := by
  rw [one_more e, runM_append, h]
  show (stepM m' t).bind _ = _
  rw [k]
  rfl
theorem Row.at2 {H : Hp} {ps : List Addr} {ts : List Tm} {i : Nat} {p : Addr} {t : Tm} (h : Row K H ps ts) (e : ps[i]? = some p) (k : ts[i]? = some t) : SqT K H p (vM t) := by
  obtain ⟨t', k', q⟩ := h.at e
  rw [k] at k'
  cases k'
  exact q
theorem rows_of {H : Hp} : ∀ (acc : List (V × Tm)), (∀ q ∈ acc, ∃ z, q.1 = .ref z ∧ SqT K H z (vM q.2)) → ∃ rs : List Addr, acc.map (·.1) = rs.map V.ref ∧ Row K H rs (acc.map (·.2))
  | [], _ => ⟨[], rfl, trivial⟩
  | q :: acc, h => by
    obtain ⟨z, e, r⟩ := h q (by simp)
    obtain ⟨rs, e2, r2⟩ := rows_of acc fun x hx => h x (List.mem_cons_of_mem _ hx)
    exact ⟨z :: rs, by rw [List.map_cons, List.map_cons, e, e2], r, r2⟩
theorem vH_at {h : List Txt} {i : Nat} {x : V} (hi : i < h.length) (e : (vH h)[(vH h).length - 1 - i]? = some x) : ∃ a, h[i]? = some a ∧ x = .str (S a) := by
  rw [vH_len] at e
  unfold vH vT at e
  rw [List.getElem?_map, List.getElem?_reverse (by omega), show h.length - 1 - (h.length - 1 - i) = i by omega] at e
  cases hh : h[i]? with
  | none =>
    rw [hh] at e
    cases e
  | some a =>
    rw [hh] at e
    exact ⟨a, rfl, (Option.some.inj e).symm⟩
theorem sqT_but {H H' : Hp} {d b : Addr} {l xs : List V} (hl : H d = some (.lst l)) (k : But d H H') (h : SqT K H b xs) : SqT K H' b xs := by
  rcases h with h | h
  · refine .inl ?_
    rcases h with h | ⟨o, h⟩
    · exact .inl (k _ _ h (fun e => by rw [e, hl] at h; cases h))
    · exact .inr ⟨o, k _ _ h (fun e => by rw [e, hl] at h; cases h)⟩
  · exact .inr h
theorem fm_some : ∀ h : List Txt, h.filterMap (fun x => some (opT x)) = h.map opT
  | [] => rfl
  | a :: r => by rw [List.filterMap_cons, List.map_cons, fm_some r]
theorem none_back {H H1 H2 : Hp} {p : Addr} (_ : Same H H2) (h : H1 p = none) (s : Same H H1) : H p = none := by
  cases e : H p with
  | none => rfl
  | some o => exact absurd (s _ _ e) (by rw [h]; exact fun e => nomatch e)
def spExpr (K : PySem.W.Frag) : Sp := fun vs H Q _ => ∃ (a : Addr) (ps : List Addr) (ts : List Tm), vs = [.ref a] ∧ H a = some (.lst (ps.map V.ref)) ∧ Row K H ps ts ∧ ts.length ≤ 50000 ∧ (exprF ts = none → ∀ H', Same H H' → Q .non H') ∧
  ∀ us qs p H', exprF ts = some us → H p = none → Same H H' → H' p = some (.tup (qs.map V.ref)) → Row K H' qs us → Q (.ref p) H'
theorem ok_expression_of (T : TexW w K mg D) : FnOk P w K mg base CX0 1 D.a_expression_of D.d_expression_of P_expression_of (spExpr K) := by
  refine T.expression_of_F.ok S_expression_of (fun vs H Q E h => ?_) (fun cdv A outer s H vs Q E hr h => ?_)
  · obtain ⟨a, ps, ts, rfl, _⟩ := h
    rfl
  · obtain ⟨a, ps, ts, rfl, ha, hrow, hl, q0, q1⟩ := h
    refine ⟨_, (pss_cons (ps_set (i := 1) S_expression_of.nd rfl (Or.inl rfl) (pe_lst pa_nil))
      (pss_cons (ps_set (i := 2) S_expression_of.nd rfl (Or.inl rfl) (pe_lst pa_nil))
      (pss_cons (ps_set (i := 3) S_expression_of.nd rfl (Or.inl rfl) pe_bl)
      (pss_cons (ps_for PassesOwn.never rfl (pi_list (pv 0)) (pg_name (i := 4) S_expression_of.nd rfl (Or.inl rfl)) (pss_cons (ps_set (i := 5) S_expression_of.nd rfl (Or.inl rfl) (pe_ix ix_tup (pv 4) pe_int (fun _ _ => rfl)))
      (pss_one (ps_if (PW.pt (pw_and (pt_val (pv 3)) (pw_and1 (pt_cmpR op_in_seq (pv 5) (pe_tup (pa_cons pe_str (pa_cons pe_str pa_nil))) rfl)))) (pss_one (ps_expr (pe_bm PySem.F.plainAttrs_list PySem.F.slot_list_append PySem.F.type_list_append mt_append (pv 2) (pa_cons (pv 5) pa_nil)))) (pss_one (ps_if (PW.pt (pw_and (pt_val (pv 3)) (pw_and1 (pt_cmpR op_in_seq (pv 5) (pe_glob (v := .ref D.k_OPERANDS) rfl T.c_OPERANDS rfl) rfl)))) (pss_cons (ps_expr (pe_bm PySem.F.plainAttrs_list PySem.F.slot_list_append PySem.F.type_list_append mt_append (pv 1) (pa_cons (pv 4) pa_nil)))
      (pss_one (ps_set (i := 3) S_expression_of.nd rfl (Or.inl rfl) pe_bl))) (pss_one (ps_if (PW.pt (pw_and (pt_not (pt_val (pv 3))) (pw_and1 (pt_cmpR op_in_seq (pv 5) (pe_tup (pa_cons pe_str (pa_cons pe_str (pa_cons pe_str pa_nil)))) rfl)))) (pss_cons (ps_while PassesOwn.never (PW.pt (pw_and (pt_truth (pv 2) (by intro _; rfl)) (pw_and1 (pt_cmpR op_ge (pe_ix ix_dictK (pe_glob (v := .ref D.k_BINDINGS) rfl T.c_BINDINGS rfl) (pe_ix ix_list (pv 2) (pe_un un_neg pe_int) (fun _ _ => rfl)) (fun _ _ => rfl)) (pe_ix ix_dictK (pe_glob (v := .ref D.k_BINDINGS) rfl T.c_BINDINGS rfl) (pv 5) (fun _ _ => rfl)) (nomark _))))) (pss_one (ps_expr (pe_bm PySem.F.plainAttrs_list PySem.F.slot_list_append PySem.F.type_list_append mt_append (pv 1) (pa_cons (pe_tup (pa_cons (pe_bm0 PySem.F.plainAttrs_list PySem.F.slot_list_pop PySem.F.type_list_pop mt_pop (pv 2)) (pa_cons pe_str (pa_cons pe_str pa_nil)))) pa_nil)))))
      (pss_one (ps_if (pt_cmpR op_ne (pv 5) pe_str (nomark _)) (pss_cons (ps_expr (pe_bm PySem.F.plainAttrs_list PySem.F.slot_list_append PySem.F.type_list_append mt_append (pv 2) (pa_cons (pv 5) pa_nil)))
      (pss_one (ps_set (i := 3) S_expression_of.nd rfl (Or.inl rfl) pe_bl))) (pss_one (ps_if (pt_truth (pv 2) (by intro _; rfl)) (pss_one (ps_expr (pe_bm0 PySem.F.plainAttrs_list PySem.F.slot_list_pop PySem.F.type_list_pop mt_pop (pv 2)))) (pss_one (ps_ret pe_non))))))) (pss_one (ps_ret pe_non))))))))))
      (pss_cons (ps_if (PW.pt (pw_or (pt_val (pv 3)) (pw_or1 (pt_cmpR op_in_seq pe_str (pv 2) rfl)))) (pss_one (ps_ret pe_non)) pss_nil)
      (pss_one (ps_ret (pe_callTy call_tuple_of (by rfl) T.b_tuple (by decide +kernel) (pa_cons (pe_op op_cat (pv 1) (pe_lc (own := [(("word" : Str), 5)]) (g := gName 5) (tt := tYes) rfl S_expression_of.nd (RT.pi_revA (by rfl) T.b_reversed (pv 2)) (blkOk_by (N := N_expression_of) (sc := defScope s_expression_of) (by decide +kernel)) (fun _ _ _ _ _ => pg_name (i := 5) S_expression_of.nd rfl (Or.inl rfl)) (fun _ _ _ _ _ => pts_nil) (fun _ _ _ _ _ => (pe_tup (pa_cons (pv 5) (pa_cons pe_str (pa_cons pe_str pa_nil))))))) pa_nil))))))))), ?_⟩
    have hpl := hrow.len
    refine ⟨by show 0 ≤ sizeLine; decide, fun b hb => ⟨by show 0 ≤ sizeLine; decide, fun c hc => ?_⟩⟩
    have s0 := (same_new (o := .lst []) hb).trans (same_new (o := .lst []) hc)
    have hbc : b ≠ c := fun e => by
      rw [e, upd_same] at hc
      cases hc
    have b0 : (upd (upd H b (.lst [])) c (.lst [])) b = some (.lst []) := by rw [upd_ne hbc]; exact upd_same
    have c0 : (upd (upd H b (.lst [])) c (.lst [])) c = some (.lst []) := upd_same
    have hcH : H c = none := by
      rw [upd_ne hbc.symm] at hc
      exact hc
    revert s0 b0 c0
    generalize upd (upd H b (.lst [])) c (.lst []) = H0
    intro s0 b0 c0
    refine ⟨_, rfl, a, rfl, ⟨_, SqL.of (s0 _ _ ha)⟩, for_list (K := K) (a := a) (xs := ps.map V.ref) (fun i σ H' => ∃ qs us h wn o4 o5, σ = [some (.ref a), some (.ref b), some (.ref c), some (.bl wn), o4, o5] ∧ Same H H' ∧ H' b = some (.lst (qs.map V.ref)) ∧ H' c = some (.lst (vH h)) ∧ Row K H' qs us ∧ (∀ x ∈ h, x ∈ heldL) ∧ us.length + h.length ≤ i ∧ runM ([], [], true) (ts.take i) = some (us, h, wn)) ⟨[], [], [], true, _, _, rfl, s0, b0, c0, trivial, (fun x hx => by cases hx), Nat.le_refl _, by simp [runM]⟩ (fun i σ H' _ h => by
      obtain ⟨_, _, _, _, _, _, _, s1, _⟩ := h
      exact SqL.of (s1 _ _ ha)) ?_ ?_⟩
    · rintro i v σ H1 hi ⟨qs, us, h, wn, o4, o5, rfl, s1, hb1, hc1, hr1, hh, hn, hrun⟩
      rw [List.getElem?_map] at hi
      obtain ⟨pt, hpt, rfl⟩ : ∃ p, ps[i]? = some p ∧ v = V.ref p := by
        cases e : ps[i]? with
        | none =>
          rw [e] at hi
          cases hi
        | some p =>
          rw [e] at hi
          exact ⟨p, rfl, (Option.some.inj hi).symm⟩
      obtain ⟨t, ht, hst⟩ := (hrow.keep s1).at hpt
      have hil : i < 50000 := by
        have := (List.getElem?_eq_some_iff.mp ht).1
        omega
      refine ⟨_, rfl, pt, _, _, _, rfl, rfl, hst, rfl, ?_⟩
      have q0' : stepM (us, h, wn) t = none → ∀ H', Same H H' → Q .non H' := fun k => q0 (by
        unfold exprF
        rw [runM_none hrun ht k])
      cases wn with
      | true =>
        refine ⟨_, rfl, _, rfl, iteT ⟨_, rfl, by show 2 ≤ sizeLine; decide, fun r hr0 => ⟨r, _, rfl, .inr (sqT_of upd_same), rfl, rfl, _, rfl, ?_⟩⟩⟩
        rw [opn_v, if_neg (by decide : ¬ (false = true)), inV_S]
        have s2 := same_new (o := .tup (([[40], wNot] : List Txt).map fun l => V.str (S l))) hr0
        have s12 := s1.trans s2
        have hb2 := s2 _ _ hb1
        have hc2 := s2 _ _ hc1
        have hr2 := hr1.keep s2
        clear hr1 hb1 hc1 s1 hst
        revert s12 hb2 hc2 hr2 s2
        generalize upd H1 r (.tup (([[40], wNot] : List Txt).map fun l => V.str (S l))) = H2
        intro s2 s12 hb2 hc2 hr2
        refine ite2 (fun h1 => ?_) (fun h1 => ?_)
        · have h1' : t.w = [40] ∨ t.w = wNot := by simpa using of_decide_eq_true h1
          refine ⟨_, rfl, .inl ⟨rfl, _, SqL.of hc2⟩, _, rfl, c, _, _, rfl, rfl, hc2, by rw [vH_len]; exact szT (by omega), ?_⟩
          refine ⟨qs, us, t.w :: h, true, _, _, rfl, same_upd s12 hcH, ?_, ?_, Row.upd hc2 hr2, ?_, by rw [List.length_cons]; omega, runM_step hrun ht (by
            unfold stepM
            rw [if_pos rfl, if_pos h1'])⟩
          · rw [upd_ne hbc]
            exact hb2
          · rw [vH_cons]
            exact upd_same
          · intro x hx
            rcases List.mem_cons.mp hx with rfl | hx
            · rcases h1' with e | e <;> rw [e] <;> decide
            · exact hh x hx
        · have h1' : ¬ (t.w = [40] ∨ t.w = wNot) := by simpa using of_decide_eq_false (Bool.eq_false_iff.mpr h1)
          refine ⟨_, rfl, _, rfl, iteT ⟨_, rfl, D.k_OPERANDS, _, rfl, .inr (sqK T.v_OPERANDS _), rfl, rfl, _, rfl, ?_⟩⟩
          rw [opd_v, if_neg (by decide : ¬ (false = true)), inV_S]
          refine ite2 (fun h2 => ?_) (fun h2 => ?_)
          · have h2' := of_decide_eq_true h2
            refine ⟨_, rfl, .inl ⟨rfl, _, SqL.of hb2⟩, _, rfl, b, _, _, rfl, rfl, hb2, by rw [List.length_map, hr2.len]; exact szT (by omega), ?_⟩
            refine ⟨qs ++ [pt], us ++ [t], h, false, _, _, rfl, same_upd s12 hb, ?_, ?_, ?_, hh, by rw [List.length_append]; simp only [List.length_singleton]; omega, runM_step hrun ht (by
              unfold stepM
              rw [if_pos rfl, if_neg h1', if_pos h2'])⟩
            · rw [List.map_append]
              exact upd_same
            · rw [upd_ne (Ne.symm hbc)]
              exact hc2
            · exact Row.app (qs := [pt]) (us := [t]) (show SqT K _ pt _ ∧ True from ⟨sqT_upd ((hrow.keep s12).at2 hpt ht) hb2, trivial⟩) (Row.upd hb2 hr2)
          · have h2' := of_decide_eq_false (Bool.eq_false_iff.mpr h2)
            refine ⟨_, rfl, _, rfl, iteF ?_⟩
            refine q0' ?_ H2 s12
            unfold stepM
            rw [if_pos rfl, if_neg h1', if_neg h2']
      | false =>
        refine ⟨_, rfl, _, rfl, iteF ⟨_, rfl, _, rfl, iteF ?_⟩⟩
        refine ⟨_, rfl, _, rfl, iteT ⟨_, rfl, by show 3 ≤ sizeLine; decide, fun r hr0 => ⟨r, _, rfl, .inr (sqT_of upd_same), rfl, rfl, _, rfl, ?_⟩⟩⟩
        rw [cls_v, if_neg (by decide : ¬ (false = true)), inV_S]
        have s2 := same_new (o := .tup (([wAnd, wOr, [41]] : List Txt).map fun l => V.str (S l))) hr0
        have s12 := s1.trans s2
        have hb2 := s2 _ _ hb1
        have hc2 := s2 _ _ hc1
        have hr2 := hr1.keep s2
        clear hr1 hb1 hc1 s1 hst
        revert s12 hb2 hc2 hr2 s2
        generalize upd H1 r (.tup (([wAnd, wOr, [41]] : List Txt).map fun l => V.str (S l))) = H2
        intro s2 s12 hb2 hc2 hr2
        refine ite2 (fun h1 => ?_) (fun h1 => ?_)
        · have h1' : t.w = wAnd ∨ t.w = wOr ∨ t.w = [41] := by simpa using of_decide_eq_true h1
          have hbw : bindL.lookup (S t.w) = some (.int ((bnd t.w : Nat) : Int)) := bind_lk t.w (by rcases h1' with e | e | e <;> rw [e] <;> decide)
          refine while_to (fun m σ H' => ∃ qs1 us1 h1, σ = [some (.ref a), some (.ref b), some (.ref c), some (.bl false), some (.ref pt), some (.str (S t.w))] ∧ m = h1.length ∧ Same H H' ∧ H' b = some (.lst (qs1.map V.ref)) ∧ H' c = some (.lst (vH h1)) ∧ Row K H' qs1 us1 ∧ (∀ x ∈ h1, x ∈ heldL) ∧ us1.length + h1.length ≤ i ∧ popF (bnd t.w) h1 us1 = popF (bnd t.w) h us)
            (fun σ H' => ∃ qs1 us1 h1, σ = [some (.ref a), some (.ref b), some (.ref c), some (.bl false), some (.ref pt), some (.str (S t.w))] ∧ Same H H' ∧ H' b = some (.lst (qs1.map V.ref)) ∧ H' c = some (.lst (vH h1)) ∧ Row K H' qs1 us1 ∧ (∀ x ∈ h1, x ∈ heldL) ∧ us1.length + h1.length ≤ i ∧ popF (bnd t.w) h us = (h1, us1))
            ⟨_, qs, us, h, rfl, rfl, s12, hb2, hc2, hr2, hh, hn, rfl⟩ ?_ ?_
          · rintro σ H3 ⟨qs1, us1, h3, rfl, s3, hb3, hc3, hr3, hh3, hn3, hp3⟩
            refine ⟨_, rfl, rfl, _, rfl, ?_⟩
            rw [par_t, eq_S]
            by_cases h5 : t.w = [41]
            · rw [decide_eq_true h5]
              cases h3 with
              | nil =>
                refine ⟨_, rfl, false, .inl ⟨_, SqL.of hc3, rfl⟩, iteF ?_⟩
                refine q0' ?_ H3 s3
                unfold stepM
                rw [if_neg (by decide : ¬ (false = true)), if_neg (by rw [h5]; decide), if_pos h5]
                have e1 : popF 1 h us = ([], us1) := by
                  rw [h5] at hp3
                  exact hp3
                show (match (popF 1 h us).1 with | _ :: r => _ | [] => none) = none
                rw [e1]
              | cons x r3 =>
                rw [vH_cons] at hc3
                refine ⟨_, rfl, true, .inl ⟨_, SqL.of hc3, by simp⟩, iteT ?_⟩
                refine ⟨_, rfl, .inl ⟨rfl, _, SqL.of hc3⟩, c, _, V.str (S x), rfl, rfl, hc3, by simp, ?_⟩
                refine ⟨qs1, us1, r3, false, _, _, rfl, same_upd s3 hcH, by rw [upd_ne hbc]; exact hb3, by rw [List.dropLast_concat]; exact upd_same, Row.upd hc3 hr3, fun y hy => hh3 y (List.mem_cons_of_mem _ hy), by rw [List.length_cons] at hn3; omega, runM_step hrun ht ?_⟩
                unfold stepM
                rw [if_neg (by decide : ¬ (false = true)), if_neg (by rw [h5]; decide), if_pos h5]
                have e1 : popF 1 h us = (x :: r3, us1) := by
                  rw [h5] at hp3
                  exact hp3
                show (match (popF 1 h us).1 with | _ :: r => some ((popF 1 h us).2, r, false) | [] => none) = _
                rw [e1]
            · rw [decide_eq_false h5]
              have h6 : t.w = wAnd ∨ t.w = wOr := by
                rcases h1' with e | e | e
                · exact .inl e
                · exact .inr e
                · exact absurd e h5
              refine ⟨_, rfl, .inl ⟨rfl, _, SqL.of hc3⟩, _, rfl, c, _, _, rfl, rfl, hc3, by rw [vH_len]; exact szT (by omega), ?_⟩
              refine ⟨qs1, us1, t.w :: h3, true, _, _, rfl, same_upd s3 hcH, by rw [upd_ne hbc]; exact hb3, by rw [vH_cons]; exact upd_same, Row.upd hc3 hr3, ?_, by rw [List.length_cons]; omega, runM_step hrun ht ?_⟩
              · intro y hy
                rcases List.mem_cons.mp hy with rfl | hy
                · rcases h6 with e | e <;> rw [e] <;> decide
                · exact hh3 y hy
              · unfold stepM
                rw [if_neg (by decide : ¬ (false = true)), if_pos h6]
                show some ((popF (bnd t.w) h us).2, t.w :: (popF (bnd t.w) h us).1, true) = _
                rw [hp3]
          · rintro ex m σ H3 ⟨qs1, us1, h3, rfl, rfl, s3, hb3, hc3, hr3, hh3, hn3, hp3⟩
            cases h3 with
            | nil =>
              refine ⟨_, rfl, false, .inl ⟨_, SqL.of hc3, rfl⟩, iteF ?_⟩
              exact ex _ _ ⟨qs1, us1, [], rfl, s3, hb3, hc3, hr3, hh3, hn3, by rw [← hp3]; rfl⟩
            | cons x r3 =>
              rw [vH_cons] at hc3
              refine ⟨_, rfl, true, .inl ⟨_, SqL.of hc3, by simp⟩, iteT ?_⟩
              have hbx : bindL.lookup (S x) = some (.int ((bnd x : Nat) : Int)) := bind_lk x (by
                have := hh3 x (by simp)
                simp only [heldL, List.mem_cons, List.not_mem_nil, or_false] at this ⊢
                rcases this with e | e | e | e <;> simp [e])
              refine ⟨_, rfl, 1, rfl, c, _, _, _, rfl, rfl, SqL.of hc3, atI_last _ _, D.k_BINDINGS, S x, bindL, _, rfl, rfl, T.v_BINDINGS, hbx, _, rfl, D.k_BINDINGS, S t.w, bindL, _, rfl, rfl, T.v_BINDINGS, hbw, _, _, rfl, rfl, _, rfl, ite2 (fun h4 => ?_) (fun h4 => ?_)⟩
              · have h4' : bnd t.w ≤ bnd x := by
                  have := of_decide_eq_true h4
                  omega
                refine ⟨_, fun σ' H' h => h, ?_⟩
                refine ⟨_, rfl, .inl ⟨rfl, _, SqL.of hb3⟩, _, rfl, .inl ⟨rfl, _, SqL.of hc3⟩, c, _, V.str (S x), rfl, rfl, hc3, by simp, by show 3 ≤ sizeLine; decide, fun z hz => ?_⟩
                rw [List.dropLast_concat] at hz ⊢
                have sz := same_new (o := .tup [V.str (S x), .str (("" : String) : Str), .str (("" : String) : Str)]) hz
                have hb5 := sz _ _ (show (upd H3 c (.lst (vH r3))) b = some (.lst (qs1.map V.ref)) by rw [upd_ne hbc]; exact hb3)
                refine ⟨b, _, _, rfl, rfl, hb5, by rw [List.length_map, hr3.len]; exact szT (by omega), ?_⟩
                refine ⟨r3.length, by simp, qs1 ++ [z], us1 ++ [opT x], r3, rfl, rfl, same_upd ((same_upd s3 hcH).trans sz) hb, ?_, ?_, ?_, fun y hy => hh3 y (List.mem_cons_of_mem _ hy), by rw [List.length_append]; rw [List.length_cons] at hn3; simp only [List.length_singleton]; omega, ?_⟩
                · rw [List.map_append]
                  exact upd_same
                · rw [upd_ne (Ne.symm hbc)]
                  exact sz _ _ upd_same
                · refine Row.app (qs := [z]) (us := [opT x]) (show SqT K _ z _ ∧ True from ⟨?_, trivial⟩) (Row.upd hb5 ((Row.upd hc3 hr3).keep sz))
                  rw [opT_v]
                  exact sqT_upd (sqT_of upd_same) hb5
                · rw [← hp3, popF, if_pos h4']
              · refine ex _ _ ⟨qs1, us1, x :: r3, rfl, s3, hb3, by rw [vH_cons]; exact hc3, hr3, hh3, hn3, ?_⟩
                have : ¬ bnd t.w ≤ bnd x := by
                  have := of_decide_eq_false (Bool.eq_false_iff.mpr h4)
                  omega
                rw [← hp3, popF, if_neg this]
        · have h1' : ¬ (t.w = wAnd ∨ t.w = wOr ∨ t.w = [41]) := by simpa using of_decide_eq_false (Bool.eq_false_iff.mpr h1)
          refine q0' ?_ H2 s12
          unfold stepM
          rw [if_neg (by decide : ¬ (false = true)), if_neg (fun e => h1' (e.elim .inl fun e => .inr (.inl e))), if_neg (fun e => h1' (.inr (.inr e)))]
    · rintro σ H1 ⟨qs, us, h, wn, o4, o5, rfl, s1, hb1, hc1, hr1, hh, hn, hrun⟩
      rw [List.length_map, hpl, List.take_length] at hrun
      have hl2 : us.length + h.length ≤ 50000 := by
        rw [List.length_map, hpl] at hn
        omega
      have ex0 : exprF ts = if wn then none else if [40] ∈ h then none else some (us ++ h.map opT) := by
        unfold exprF
        rw [hrun]
        cases wn <;> rfl
      rw [ex0] at q0 q1
      cases wn with
      | true => exact ⟨_, rfl, _, rfl, iteT (q0 rfl H1 s1)⟩
      | false =>
        refine ⟨_, rfl, _, rfl, iteF ⟨_, rfl, c, _, rfl, .inl (SqL.of hc1), rfl, flat_S _, _, rfl, ?_⟩⟩
        have ei : inV (.str (("(" : String) : Str)) (vH h) = decide ([40] ∈ h) := by
          rw [opar_t]
          show inV _ (h.reverse.map _) = _
          rw [inV_S]
          exact decide_eq_decide.mpr List.mem_reverse
        rw [if_neg (by decide : ¬ (false = true)), ei]
        refine ite2 (fun h6 => ?_) (fun h6 => ?_)
        · exact q0 (by rw [if_neg (by decide : ¬ (false = true)), if_pos (of_decide_eq_true h6)]) H1 s1
        · rw [if_neg (by decide : ¬ (false = true)), if_neg (of_decide_eq_false (Bool.eq_false_iff.mpr h6))] at q1
          refine ⟨_, rfl, _, rfl, c, _, rfl, .inl ⟨SqL.of hc1, fun L hL => lc_grow ((walk_rev (K := K) (a := c) (xs := vH h)).mono (Y' := fun i H x H' => H' = H ∧ ∃ a, h[i]? = some a ∧ x = V.str (S a)) (fun _ q => q) (fun i H x H' hi _ y => ⟨y.1, vH_at (by rw [vH_len] at hi; exact hi) y.2⟩)) h (fun x => V.str (S x)) (vH_len h) (fun i H x H' y => y) (fun x => some (opT x)) (fun H v b => ∃ z, v = .ref z ∧ SqT K H z (vM b)) (fun H H' v b l hl hbut hv => ?_) hL (by rw [vH_len]; exact szT (by omega)) (fun H' s' => SqL.of (s' _ _ hc1)) (fun x hx H2 R S' s2 h1 h2 => ?_) (fun H2 acc s2 ha2 hp2 hl2 => ?_)⟩⟩
          · obtain ⟨z, e, q⟩ := hv
            exact ⟨z, e, sqT_but hl hbut q⟩
          · refine ⟨rfl, _, rfl, by show 3 ≤ sizeLine; decide, fun z hz => ?_⟩
            refine h1 _ (opT x) _ rfl (same_new hz) ⟨z, rfl, ?_⟩
            rw [opT_v]
            exact sqT_of upd_same
          · have e2 : acc.map (·.2) = h.map opT := by
              rw [ha2]
              exact fm_some h
            obtain ⟨rs, e3, r3⟩ := rows_of acc hp2
            rw [e2] at r3
            rw [e3] at hl2
            have hlr : rs.length = h.length := by
              rw [r3.len, List.length_map]
            refine ⟨b, L, _, _, rfl, rfl, s2 _ _ hb1, hl2, by rw [List.length_map, List.length_map, hr1.len, hlr]; exact szL (by omega), fun p2 hp2' => ⟨p2, _, rfl, .inl ⟨SqL.of upd_same, fun l2 hl2' => ?_⟩⟩⟩
            have sF := ((s1.trans s2).trans (same_new hp2')).trans (same_new (o := .tup (qs.map V.ref ++ rs.map V.ref)) hl2')
            refine q1 _ (qs ++ rs) l2 _ rfl (none_back sF hl2' (s1.trans s2 |>.trans (same_new hp2'))) sF (by rw [List.map_append]; exact upd_same) ?_
            exact Row.app ((r3.keep (same_new hp2')).keep (same_new hl2')) (((hr1.keep s2).keep (same_new hp2')).keep (same_new hl2'))
end

/-! ## Markers: a text read; a text written -/
section
variable {P : Program} {w : World} {K : PySem.W.Frag} {mg : Str → Option Value} {base : Heap} {D : Ad}
open TL SX
theorem toksG_len : ∀ (n : Nat) (l : Txt) (ws : List Txt), l.length ≤ n → toksG l = some ws → ws.length ≤ l.length ∧ ∀ x ∈ ws, x.length ≤ l.length
  | _, [], ws, _, h => by
    rw [toksG] at h
    cases h
    exact ⟨Nat.le_refl _, fun x hx => by cases hx⟩
  | 0, c :: r, ws, hn, h => by simp at hn
  | n + 1, c :: r, ws, hn, h => by
    rw [toksG_one] at h
    by_cases ht : tokF (c :: r) = []
    · rw [if_pos ht] at h
      by_cases hc : c = 32
      · rw [if_pos hc] at h
        obtain ⟨a, b⟩ := toksG_len n r ws (by simpa using hn) h
        exact ⟨by simp; omega, fun x hx => by have := b x hx; simp; omega⟩
      · rw [if_neg hc] at h
        cases h
    · rw [if_neg ht] at h
      cases e : toksG ((c :: r).drop (tokF (c :: r)).length) with
      | none =>
        rw [e] at h
        cases h
      | some vs =>
        rw [e] at h
        cases h
        have hp : 1 ≤ (tokF (c :: r)).length := List.length_pos_iff.mpr ht
        have hl := tokF_len (c :: r)
        have hd : ((c :: r).drop (tokF (c :: r)).length).length = (c :: r).length - (tokF (c :: r)).length := List.length_drop
        obtain ⟨a, b⟩ := toksG_len n _ vs (by rw [hd]; omega) e
        rw [hd] at a b
        refine ⟨by rw [List.length_cons]; omega, fun x hx => ?_⟩
        rcases List.mem_cons.mp hx with rfl | hx
        · exact hl
        · have := b x hx
          omega
theorem toksF_len {l : Txt} {ws : List Txt} (h : toksF l = some ws) : ws.length ≤ l.length ∧ ∀ x ∈ ws, x.length ≤ l.length := by
  unfold toksF at h
  split at h
  · cases h
  · exact toksG_len _ l ws (Nat.le_refl _) h
theorem termsF_len : ∀ (n : Nat) (ws : List Txt) (ts : List Tm), ws.length ≤ n → termsF ws = some ts → ts.length ≤ ws.length
  | _, [], ts, _, h => by
    rw [termsF] at h
    cases h
    exact Nat.le_refl _
  | 0, c :: r, ts, hn, h => by simp at hn
  | n + 1, c :: r, ts, hn, h => by
    rw [List.length_cons] at hn
    rw [termsF] at h
    by_cases hc : c ∈ fieldL
    · rw [if_pos hc] at h
      cases e1 : cmp3 ((c :: r).take 3) with
      | none =>
        rw [e1] at h
        cases h
      | some t =>
        rw [e1] at h
        cases e : termsF (r.drop 2) with
        | none =>
          rw [show ((some t).bind fun t => (termsF (r.drop 2)).map (t :: ·)) = (termsF (r.drop 2)).map (t :: ·) from rfl, e] at h
          cases h
        | some vs =>
          rw [show ((some t).bind fun t => (termsF (r.drop 2)).map (t :: ·)) = (termsF (r.drop 2)).map (t :: ·) from rfl, e] at h
          cases h
          have := termsF_len n _ vs (by rw [List.length_drop]; omega) e
          rw [List.length_drop] at this
          simp only [List.length_cons]
          omega
    · rw [if_neg hc] at h
      cases e : termsF r with
      | none =>
        rw [e] at h
        cases h
      | some vs =>
        rw [e] at h
        cases h
        have := termsF_len n r vs (by omega) e
        simp only [List.length_cons]
        omega
def spExpIn (K : PySem.W.Frag) : Sp := fun vs H Q _ => ∃ l : List Nat, vs = [.str (S l)] ∧ l.length ≤ 50000 ∧ (readF l = none → ∀ H', Same H H' → Q .non H') ∧
  ∀ us qs p H', readF l = some us → H p = none → Same H H' → H' p = some (.tup (qs.map V.ref)) → Row K H' qs us → Q (.ref p) H'
theorem ok_expression_in (T : TexW w K mg D) : FnOk P w K mg base CX0 6 D.a_expression_in D.d_expression_in P_expression_in (spExpIn K) := by
  have G_tokens_of : FnOk P w K mg base CX0 2 D.a_tokens_of D.d_tokens_of P_tokens_of spToks := ok_tokens_of T
  have G_terms_of : FnOk P w K mg base CX0 5 D.a_terms_of D.d_terms_of P_terms_of (spTerms K) := ok_terms_of T
  have G_expression_of : FnOk P w K mg base CX0 1 D.a_expression_of D.d_expression_of P_expression_of (spExpr K) := ok_expression_of T
  refine T.expression_in_F.ok S_expression_in (fun vs H Q E h => ?_) (fun cdv A outer s H vs Q E hr h => ?_)
  · obtain ⟨l, rfl, _⟩ := h
    rfl
  · obtain ⟨l, rfl, hl, q0, q1⟩ := h
    refine ⟨_, (pss_cons (ps_set (i := 1) S_expression_in.nd rfl (Or.inl rfl) (pe_ifExp (pt_val (pe_callB call_isi (by rfl) T.b_isinstance (by decide +kernel) (pa_cons (pv 0) (pa_cons (pe_bltn (v := .ty "str") (u := .type "str") (by rfl) T.b_str (by decide +kernel) rfl) pa_nil)))) (pe_call G_tokens_of (hr.mono (by decide)) (by rfl) T.tokens_of_g T.tokens_of_F.kp T.tokens_of_b .nil pass0 (pa_cons (pv 0) pa_nil)) pe_non))
      (pss_cons (ps_set (i := 2) S_expression_in.nd rfl (Or.inl rfl) (pe_ifExp (pt_cmpR op_isN (pv 1) pe_non (nomark _)) pe_non (pe_call G_terms_of (hr.mono (by decide)) (by rfl) T.terms_of_g T.terms_of_F.kp T.terms_of_b .nil pass0 (pa_cons (pv 1) pa_nil))))
      (pss_one (ps_ret (pe_ifExp (pt_cmpR op_isN (pv 2) pe_non (nomark _)) pe_non (pe_call G_expression_of (hr.mono (by decide)) (by rfl) T.expression_of_g T.expression_of_F.kp T.expression_of_b .nil pass0 (pa_cons (pv 2) pa_nil))))))), ?_⟩
    refine ⟨_, rfl, .str (S l), .ty "str", .type "str", .type "str", true, rfl, .ty _, .base (.str (S l)), kit_ty (by decide +kernel), true, rfl, iteT ?_⟩
    refine ⟨_, rfl, l, rfl, hl, fun hn H1 s1 => ?_, fun ws p H1 hw hp s1 h1p => ?_⟩
    · have e : readF l = none := by unfold readF; rw [hn]; rfl
      exact ⟨_, rfl, rfl, _, rfl, iteT ⟨_, rfl, rfl, _, rfl, iteT (q0 e H1 s1)⟩⟩
    · obtain ⟨w1, w2⟩ := toksF_len hw
      have e1 : readF l = (termsF ws).bind exprF := by unfold readF; rw [hw]; rfl
      rw [e1] at q0 q1
      refine ⟨_, rfl, rfl, _, rfl, iteF ⟨_, rfl, p, ws, rfl, h1p, by omega, fun x hx => Nat.le_trans (w2 x hx) (by omega), fun hn H2 s2 => ?_, fun ts ps p2 H2 ht hp2 s2 h2p hrow => ?_⟩⟩
      · exact ⟨_, rfl, rfl, _, rfl, iteT (q0 (by rw [hn]; rfl) H2 (s1.trans s2))⟩
      · rw [ht] at q0 q1
        have tl := termsF_len _ ws ts (Nat.le_refl _) ht
        refine ⟨_, rfl, rfl, _, rfl, iteF ⟨_, rfl, p2, ps, ts, rfl, h2p, hrow, by omega, fun hn H3 s3 => q0 hn H3 ((s1.trans s2).trans s3), fun us qs p3 H3 hu hp3 s3 h3p hr3 => q1 us qs p3 H3 hu (none_back (s1.trans s2) hp3 (s1.trans s2)) ((s1.trans s2).trans s3) h3p hr3⟩⟩
def spWithin : Sp := fun vs H Q _ => ∃ (x : List Nat) (b k : Nat), vs = [.str (S x), .int (b : Int), .int (k : Int)] ∧ x.length ≤ 1000000 ∧ Q (.str (S (inP b k x))) H
theorem clo_t : ((")" : String) : Str) = S [41] := by decide +kernel
theorem ok_text_within (T : TexW w K mg D) : FnOk P w K mg base CX0 1 D.a_text_within D.d_text_within P_text_within spWithin := by
  refine T.text_within_F.ok S_text_within (fun vs H Q E h => ?_) (fun cdv A outer s H vs Q E hr h => ?_)
  · obtain ⟨x, b, k, rfl, _⟩ := h
    rfl
  · obtain ⟨x, b, k, rfl, hx, q⟩ := h
    refine ⟨_, (pss_one (ps_ret (pe_ifExp (pt_cmpR op_lt (pv 1) (pv 2) (nomark _)) (pe_joined (.cons pe_str (.cons (pe_fmt (pv 0)) (.cons pe_str .nil)))) (pv 0)))), ?_⟩
    unfold inP at q
    have big : ∀ n : Nat, n ≤ 1000010 → n ≤ sizeLine := fun n h => Nat.le_trans h (by decide)
    refine ⟨_, rfl, _, rfl, _, _, rfl, rfl, _, rfl, ite2 (fun h1 => ?_) (fun h1 => ?_)⟩
    · rw [if_pos (by have := of_decide_eq_true h1; omega)] at q
      have e0 : Str.empty ++ (("(" : String) : Str) = S [40] := by decide +kernel
      refine ⟨_, rfl, by decide +kernel, ?_⟩
      rw [e0]
      refine ⟨_, rfl, .inl ⟨_, rfl, by rw [S_len]; exact big _ (by omega), _, rfl, by rw [S_cat, S_len, List.length_append]; exact big _ (by simp; omega), ?_⟩⟩
      rw [S_cat]
      refine ⟨_, rfl, by rw [clo_t, S_cat, S_len, List.length_append, List.length_append]; exact big _ (by simp; omega), ?_⟩
      rw [clo_t, S_cat]
      exact q
    · rw [if_neg (by have := of_decide_eq_false (Bool.eq_false_iff.mpr h1); omega)] at q
      exact ⟨_, rfl, q⟩
def spOperand : Sp := fun vs H Q _ => ∃ t : Tm, vs = vM t ∧ t.w.length ≤ 100000 ∧ t.s.length ≤ 100000 ∧ (txV t.v).length ≤ 100000 ∧ (∀ n, t.v = .inr n → n ≤ 1000) ∧ Q (.str (S (txTm t))) H
theorem ok_text_of_operand (T : TexW w K mg D) : FnOk P w K mg base CX0 1 D.a_text_of_operand D.d_text_of_operand P_text_of_operand spOperand := by
  refine T.text_of_operand_F.ok S_text_of_operand (fun vs H Q E h => ?_) (fun cdv A outer s H vs Q E hr h => ?_)
  · obtain ⟨t, rfl, _⟩ := h
    rfl
  · obtain ⟨t, rfl, hw, hs, hv, hn, q⟩ := h
    refine ⟨_, (pss_one (ps_ret (pe_ifExp (pt_cmpR op_in_seq (pv 0) (pe_glob (v := .ref D.k_FIELDS) rfl T.c_FIELDS rfl) rfl) (pe_joined (.cons (pe_fmt (pv 0)) (.cons pe_str (.cons (pe_fmt (pv 1)) (.cons pe_str (.cons (pe_fmt (pv 2)) .nil)))))) (pv 0)))), ?_⟩
    unfold txTm at q
    have big : ∀ n : Nat, n ≤ 400000 → n ≤ sizeLine := fun n h => Nat.le_trans h (by decide)
    refine ⟨_, rfl, D.k_FIELDS, _, rfl, .inr (sqK T.v_FIELDS _), rfl, rfl, _, rfl, ?_⟩
    rw [fld_v, if_neg (by decide : ¬ (false = true)), inV_S]
    refine ite2 (fun h1 => ?_) (fun h1 => ?_)
    · rw [if_pos (of_decide_eq_true h1)] at q
      have e1 : ∀ l : List Nat, Str.empty ++ S l = S l := fun l => S_cat [] l
      refine ⟨_, rfl, .inl ⟨_, rfl, by rw [S_len]; exact szL hw, _, rfl, by rw [e1, S_len]; exact szL hw, ?_⟩⟩
      rw [e1]
      refine ⟨_, rfl, by rw [spc, S_cat, S_len, List.length_append]; exact big _ (by simp; omega), ?_⟩
      rw [spc, S_cat]
      refine ⟨_, rfl, .inl ⟨_, rfl, by rw [S_len]; exact szL hs, _, rfl, by rw [S_cat, S_len]; simp only [List.length_append]; exact big _ (by simp; omega), ?_⟩⟩
      rw [S_cat]
      refine ⟨_, rfl, by rw [S_cat, S_len]; simp only [List.length_append]; exact big _ (by simp; omega), ?_⟩
      rw [S_cat]
      cases hx : t.v with
      | inl l =>
        rw [hx] at hv q
        refine ⟨_, rfl, .inl ⟨S l, congrArg (fun v => vW v) hx, by rw [S_len]; exact szL hv, _, rfl, by rw [S_cat, S_len]; simp only [List.length_append]; exact big _ (by simp [txV] at hv ⊢; omega), ?_⟩⟩
        rw [S_cat]
        exact q
      | inr n =>
        rw [hx] at hv q
        have hn' := hn n hx
        refine ⟨_, rfl, .inr ⟨_, congrArg (fun v => vW v) hx, log_num (by omega), ?_⟩⟩
        rw [str_num]
        refine ⟨_, rfl, by rw [S_cat, S_len]; simp only [List.length_append]; exact big _ (by simp [txV] at hv ⊢; omega), ?_⟩
        rw [S_cat]
        exact q
    · rw [if_neg (of_decide_eq_false (Bool.eq_false_iff.mpr h1))] at q
      exact ⟨_, rfl, q⟩
end

/-! ## Markers: the text of an expression -/
section
variable {P : Program} {w : World} {K : PySem.W.Frag} {mg : Str → Option Value} {base : Heap} {D : Ad}
open TL SX
def vP (q : Txt × Nat) : List V := [.str (S q.1), .int ((q.2 : Nat) : Int)]
def RowH (K : PySem.W.Frag) (H : Hp) : List Addr → Hs → Prop
  | [], [] => True
  | p :: ps, q :: h => SqT K H p (vP q) ∧ RowH K H ps h
  | _, _ => False
theorem RowH.upd {H : Hp} {p : Addr} {ys zs : List V} (hp : H p = some (.lst ys)) : ∀ {ps : List Addr} {ts : Hs}, RowH K H ps ts → RowH K (upd H p (.lst zs)) ps ts
  | [], [], _ => trivial
  | _ :: _, _ :: _, h => ⟨sqT_upd h.1 hp, RowH.upd hp h.2⟩
  | [], _ :: _, h => h.elim
  | _ :: _, [], h => h.elim
theorem RowH.keep {H H' : Hp} (s : Same H H') : ∀ {ps : List Addr} {ts : Hs}, RowH K H ps ts → RowH K H' ps ts
  | [], [], _ => trivial
  | _ :: _, _ :: _, h => ⟨sqT_keep s h.1, RowH.keep s h.2⟩
  | [], _ :: _, h => h.elim
  | _ :: _, [], h => h.elim
theorem RowH.len {H : Hp} : ∀ {ps : List Addr} {ts : Hs}, RowH K H ps ts → ps.length = ts.length
  | [], [], _ => rfl
  | _ :: _, _ :: _, h => congrArg (· + 1) (RowH.len h.2)
  | [], _ :: _, h => h.elim
  | _ :: _, [], h => h.elim
theorem RowH.out {H : Hp} {ps : List Addr} {q : Txt × Nat} {h : Hs} (r : RowH K H ps (q :: h)) : ∃ p rs, ps = p :: rs ∧ SqT K H p (vP q) ∧ RowH K H rs h := by
  cases ps with
  | nil => exact r.elim
  | cons p rs => exact ⟨p, rs, rfl, r.1, r.2⟩
def vS (ps : List Addr) : List V := ps.reverse.map V.ref
theorem vS_cons (p : Addr) (ps : List Addr) : vS (p :: ps) = vS ps ++ [.ref p] := by simp [vS]
theorem vS_len (ps : List Addr) : (vS ps).length = ps.length := by simp [vS]
def tot (h : Hs) : Nat := (h.map fun q => q.1.length).sum
theorem inP_len (b k : Nat) (x : Txt) : (inP b k x).length ≤ x.length + 2 := by
  unfold inP
  split
  · simp
  · omega
theorem tot_in {h : Hs} {q : Txt × Nat} (m : q ∈ h) : q.1.length ≤ tot h := by
  unfold tot
  induction h with
  | nil => cases m
  | cons a r ih =>
    rw [List.map_cons, List.sum_cons]
    rcases List.mem_cons.mp m with rfl | m
    · omega
    · have := ih m
      omega
/-- a term that can be shown -/
def Shw (t : Tm) : Prop := t.w.length ≤ 100 ∧ t.s.length ≤ 100 ∧ (txV t.v).length ≤ 100 ∧ ∀ n, t.v = .inr n → n ≤ 1000
theorem Shw.len {t : Tm} (h : Shw t) : (txTm t).length ≤ 302 := by
  obtain ⟨a, b, c, _⟩ := h
  unfold txTm
  split
  · simp only [List.length_append, List.length_singleton]
    omega
  · omega
theorem txM_tot {h h' : Hs} {t : Tm} (s : Shw t) (e : txM h t = some h') : tot h' ≤ tot h + 320 ∧ h'.length ≤ h.length + 1 := by
  unfold txM at e
  split at e
  · cases h with
    | nil => cases e
    | cons q r =>
      cases e
      have := inP_len q.2 3 q.1
      simp only [tot, List.map_cons, List.sum_cons, List.length_append, List.length_nil, List.length_cons, show wNot.length = 3 from rfl]
      omega
  · split at e
    · rename_i hw
      have hwl : t.w.length ≤ 3 := by rcases hw with e | e <;> rw [e] <;> decide
      cases h with
      | nil => cases e
      | cons q r =>
        cases r with
        | nil => cases e
        | cons q2 r =>
          cases e
          have := inP_len q.2 (bndT t.w) q.1
          have := inP_len q2.2 (bndT t.w) q2.1
          simp only [tot, List.map_cons, List.sum_cons, List.length_append, List.length_nil, List.length_cons]
          omega
    · cases e
      have := s.len
      simp only [tot, List.map_cons, List.sum_cons, List.length_cons]
      omega
theorem txR_at {ts : List Tm} {i : Nat} {t : Tm} {h r : Hs} (e : txR [] ts = some r) (k : txR [] (ts.take i) = some h) (ht : ts[i]? = some t) : ∃ h', txM h t = some h' ∧ txR [] (ts.take (i + 1)) = some h' := by
  have e1 : txR [] (ts.take (i + 1)) = txM h t := by
    rw [one_more ht, txR_append, k]
    show (txM h t).bind _ = _
    cases txM h t <;> rfl
  have e2 : txR [] ts = (txR [] (ts.take (i + 1))).bind fun h' => txR h' (ts.drop (i + 1)) := by
    rw [← txR_append, List.take_append_drop]
  rw [e1] at e2
  cases hm : txM h t with
  | none =>
    rw [hm, e] at e2
    cases e2
  | some h' => exact ⟨h', rfl, e1.trans hm⟩
theorem bind_get (x : Txt) : ((bindL.lookup (S x)).getD (.int 4)) = .int ((bndT x : Nat) : Int) := by
  have k : ∀ a : Txt, (S x == S a) = decide (x = a) := fun a => by
    rw [Bool.eq_iff_iff, beq_iff_eq, decide_eq_true_eq]
    exact ⟨S_inj, fun e => by rw [e]⟩
  have e : bindL = [(S [40], .int 0), (S [41], .int 1), (S wOr, .int 1), (S wAnd, .int 2), (S wNot, .int 3)] := by decide +kernel
  rw [e]
  simp only [List.lookup, k]
  unfold bndT
  by_cases h1 : x = [40]
  · subst h1; rfl
  · by_cases h2 : x = [41]
    · subst h2; rfl
    · by_cases h3 : x = wOr
      · subst h3; rfl
      · by_cases h4 : x = wAnd
        · subst h4; rfl
        · by_cases h5 : x = wNot
          · subst h5; rfl
          · simp [h1, h2, h3, h4, h5]
theorem not_t : (("not" : String) : Str) = S wNot := by decide +kernel
theorem and_t : (("and" : String) : Str) = S wAnd := by decide +kernel
theorem or_t : (("or" : String) : Str) = S wOr := by decide +kernel
theorem nots_t : (("not " : String) : Str) = S (wNot ++ [32]) := by decide +kernel
theorem or_split {c : Bool} {A B : Prop} (hB : c = false → A → B) (hA : A) : if c = true then A else B := by
  cases c with
  | true => exact hA
  | false => exact hB rfl hA
def spTextE (K : PySem.W.Frag) : Sp := fun vs H Q _ => ∃ (a : Addr) (ps : List Addr) (ts : List Tm) (x : Txt) (b : Nat), vs = [.ref a] ∧ SqT K H a (ps.map V.ref) ∧ Row K H ps ts ∧ ts.length ≤ 3000 ∧ (∀ t ∈ ts, Shw t) ∧ txR [] ts = some [(x, b)] ∧
  ∀ H', Same H H' → Q (.str (S x)) H'
theorem ok_text_of_expression (T : TexW w K mg D) : FnOk P w K mg base CX0 2 D.a_text_of_expression D.d_text_of_expression P_text_of_expression (spTextE K) := by
  have G_text_within : FnOk P w K mg base CX0 1 D.a_text_within D.d_text_within P_text_within spWithin := ok_text_within T
  have G_text_of_operand : FnOk P w K mg base CX0 1 D.a_text_of_operand D.d_text_of_operand P_text_of_operand spOperand := ok_text_of_operand T
  refine T.text_of_expression_F.ok S_text_of_expression (fun vs H Q E h => ?_) (fun cdv A outer s H vs Q E hr h => ?_)
  · obtain ⟨a, ps, ts, x, b, rfl, _⟩ := h
    rfl
  · obtain ⟨a, ps, ts, x, b, rfl, ha, hrow, hl, hsh, htx, q⟩ := h
    refine ⟨_, (pss_cons (ps_set (i := 1) S_text_of_expression.nd rfl (Or.inl rfl) (pe_lst pa_nil))
      (pss_cons (ps_for PassesOwn.never rfl (pi_tup (pv 0)) (pg_tup (by rfl) (pgs_cons (pg_name (i := 2) S_text_of_expression.nd rfl (Or.inl rfl)) (pgs_cons (pg_name (i := 3) S_text_of_expression.nd rfl (Or.inl rfl)) (pgs_cons (pg_name (i := 4) S_text_of_expression.nd rfl (Or.inl rfl)) pgs_nil)))) (pss_cons (ps_set (i := 5) S_text_of_expression.nd rfl (Or.inl rfl) (pe_dgetK (pe_glob (v := .ref D.k_BINDINGS) rfl T.c_BINDINGS rfl) (pv 2) (pe_glob (v := .int 4) rfl T.c_TIGHTEST ⟨_, rfl⟩) ⟨by rfl, by rfl, by rfl, by rfl⟩))
      (pss_one (ps_if (pt_cmpR op_eq (pv 2) pe_str (nomark _)) (pss_cons (ps_asg (pe_bm0 PySem.F.plainAttrs_list PySem.F.slot_list_pop PySem.F.type_list_pop mt_pop (pv 1)) (pg_tup (by rfl) (pgs_cons (pg_name (i := 6) S_text_of_expression.nd rfl (Or.inl rfl)) (pgs_cons (pg_name (i := 7) S_text_of_expression.nd rfl (Or.inl rfl)) pgs_nil))))
      (pss_one (ps_expr (pe_bm PySem.F.plainAttrs_list PySem.F.slot_list_append PySem.F.type_list_append mt_append (pv 1) (pa_cons (pe_tup (pa_cons (pe_op op_add_str pe_str (pe_call G_text_within (hr.mono (by decide)) (by rfl) T.text_within_g T.text_within_F.kp T.text_within_b .nil pass0 (pa_cons (pv 6) (pa_cons (pv 7) (pa_cons (pv 5) pa_nil))))) (pa_cons (pv 5) pa_nil))) pa_nil))))) (pss_one (ps_if (PW.pt (pw_or (pt_cmpR op_eq (pv 2) pe_str (nomark _)) (pw_or1 (pt_cmpR op_eq (pv 2) pe_str (nomark _))))) (pss_cons (ps_asg (pe_bm0 PySem.F.plainAttrs_list PySem.F.slot_list_pop PySem.F.type_list_pop mt_pop (pv 1)) (pg_tup (by rfl) (pgs_cons (pg_name (i := 8) S_text_of_expression.nd rfl (Or.inl rfl)) (pgs_cons (pg_name (i := 9) S_text_of_expression.nd rfl (Or.inl rfl)) pgs_nil))))
      (pss_cons (ps_asg (pe_bm0 PySem.F.plainAttrs_list PySem.F.slot_list_pop PySem.F.type_list_pop mt_pop (pv 1)) (pg_tup (by rfl) (pgs_cons (pg_name (i := 10) S_text_of_expression.nd rfl (Or.inl rfl)) (pgs_cons (pg_name (i := 11) S_text_of_expression.nd rfl (Or.inl rfl)) pgs_nil))))
      (pss_cons (ps_set (i := 12) S_text_of_expression.nd rfl (Or.inl rfl) (pe_call G_text_within (hr.mono (by decide)) (by rfl) T.text_within_g T.text_within_F.kp T.text_within_b .nil pass0 (pa_cons (pv 10) (pa_cons (pv 11) (pa_cons (pv 5) pa_nil)))))
      (pss_cons (ps_set (i := 13) S_text_of_expression.nd rfl (Or.inl rfl) (pe_call G_text_within (hr.mono (by decide)) (by rfl) T.text_within_g T.text_within_F.kp T.text_within_b .nil pass0 (pa_cons (pv 8) (pa_cons (pv 9) (pa_cons (pv 5) pa_nil)))))
      (pss_one (ps_expr (pe_bm PySem.F.plainAttrs_list PySem.F.slot_list_append PySem.F.type_list_append mt_append (pv 1) (pa_cons (pe_tup (pa_cons (pe_joined (.cons (pe_fmt (pv 12)) (.cons pe_str (.cons (pe_fmt (pv 2)) (.cons pe_str (.cons (pe_fmt (pv 13)) .nil)))))) (pa_cons (pv 5) pa_nil))) pa_nil)))))))) (pss_one (ps_expr (pe_bm PySem.F.plainAttrs_list PySem.F.slot_list_append PySem.F.type_list_append mt_append (pv 1) (pa_cons (pe_tup (pa_cons (pe_call G_text_of_operand (hr.mono (by decide)) (by rfl) T.text_of_operand_g T.text_of_operand_F.kp T.text_of_operand_b .nil pass0 (pa_cons (pv 2) (pa_cons (pv 3) (pa_cons (pv 4) pa_nil)))) (pa_cons (pv 5) pa_nil))) pa_nil))))))))))
      (pss_one (ps_ret (pe_ix ix_tup (pe_ix ix_list (pv 1) pe_int (fun _ _ => rfl)) pe_int (fun _ _ => rfl)))))), ?_⟩
    have hpl := hrow.len
    refine ⟨by show 0 ≤ sizeLine; decide, fun c hc => ?_⟩
    refine ⟨_, rfl, a, rfl, ⟨_, sqT_keep (same_new hc) ha⟩, for_tup (K := K) (a := a) (xs := ps.map V.ref) (fun i σ H' => ∃ hs h o2 o3 o4 o5 o6 o7 o8 o9 o10 o11 o12 o13, σ = [some (.ref a), some (.ref c), o2, o3, o4, o5, o6, o7, o8, o9, o10, o11, o12, o13] ∧ Same H H' ∧ H' c = some (.lst (vS hs)) ∧ RowH K H' hs h ∧ txR [] (ts.take i) = some h ∧ tot h ≤ 320 * i ∧ h.length ≤ i) ⟨[], [], _, _, _, _, _, _, _, _, _, _, _, _, rfl, same_new hc, upd_same, trivial, by simp [txR], by simp [tot], Nat.le_refl _⟩ (fun i σ H' _ h => by
      obtain ⟨_, _, _, _, _, _, _, _, _, _, _, _, _, _, _, s1, _⟩ := h
      exact sqT_keep s1 ha) ?_ ?_⟩
    · rintro i v σ H1 hi ⟨hs, h, o2, o3, o4, o5, o6, o7, o8, o9, o10, o11, o12, o13, rfl, s1, hc1, hr1, htk, htot, hhl⟩
      rw [List.getElem?_map] at hi
      obtain ⟨pt, hpt, rfl⟩ : ∃ p, ps[i]? = some p ∧ v = V.ref p := by
        cases e : ps[i]? with
        | none =>
          rw [e] at hi
          cases hi
        | some p =>
          rw [e] at hi
          exact ⟨p, rfl, (Option.some.inj hi).symm⟩
      obtain ⟨t, ht, hst⟩ := (hrow.keep s1).at hpt
      have hil : i < 3000 := by
        have := (List.getElem?_eq_some_iff.mp ht).1
        omega
      have hsw := hsh t (List.mem_of_getElem? ht)
      obtain ⟨h', hm, htk'⟩ := txR_at htx htk ht
      obtain ⟨ht2, hl2⟩ := txM_tot hsw hm
      have hlen : hs.length ≤ i := by rw [hr1.len]; exact hhl
      refine ⟨pt, _, rfl, hst, rfl, _, _, rfl, _, _, rfl, _, _, rfl, rfl, ?_⟩
      refine ⟨D.k_BINDINGS, bindL, rfl, T.v_BINDINGS, _, rfl, S t.w, rfl, ?_⟩
      rw [bind_get]
      refine ⟨_, rfl, rfl, _, rfl, ?_⟩
      rw [not_t, eq_S]
      have big : ∀ n : Nat, n ≤ 1000000 → n ≤ sizeLine := fun n h => Nat.le_trans h (by decide)
      have ten : ∀ q : Txt × Nat, q ∈ h → q.1.length ≤ 960000 := fun q m => by
        have := tot_in m
        omega
      refine ite2 (fun h1 => ?_) (fun h1 => ?_)
      · have h1' := of_decide_eq_true h1
        have hbt : bndT t.w = 3 := by rw [h1']; rfl
        rw [hbt]
        unfold txM at hm
        rw [if_pos h1'] at hm
        cases h with
        | nil => cases hm
        | cons z r =>
          cases hm
          obtain ⟨p1, rs, rfl, hp1, hr2⟩ := hr1.out
          rw [vS_cons] at hc1
          refine ⟨_, rfl, .inl ⟨rfl, _, SqL.of hc1⟩, c, _, V.ref p1, rfl, rfl, hc1, by simp, p1, _, rfl, sqT_upd hp1 hc1, rfl, _, _, rfl, _, _, rfl, rfl, ?_⟩
          rw [List.dropLast_concat]
          have hc2 : (upd H1 c (.lst (vS rs))) c = some (.lst (vS rs)) := upd_same
          have s2 : Same H (upd H1 c (.lst (vS rs))) := same_upd s1 hc
          have hr3 : RowH K (upd H1 c (.lst (vS rs))) rs r := RowH.upd hc1 hr2
          clear hc1 hr1 hr2 s1 hst hp1
          revert hc2 s2 hr3
          generalize upd H1 c (.lst (vS rs)) = H2
          intro hc2 s2 hr3
          refine ⟨_, rfl, .inl ⟨rfl, _, SqL.of hc2⟩, _, rfl, _, rfl, _, rfl, z.1, z.2, 3, rfl, Nat.le_trans (ten z (by simp)) (by decide), ?_⟩
          have hil2 := inP_len z.2 3 z.1
          have hz1 := ten z (by simp)
          refine ⟨_, _, rfl, rfl, by rw [nots_t, S_len, S_len]; exact big _ (by simp [wNot]; omega), ?_⟩
          rw [nots_t, S_cat]
          refine ⟨_, rfl, by show 2 ≤ sizeLine; decide, fun z2 hz2 => ?_⟩
          have sz := same_new (o := .tup [V.str (S (wNot ++ [32] ++ inP z.2 3 z.1)), .int ((3 : Nat) : Int)]) hz2
          have hrl : rs.length ≤ i := by rw [List.length_cons] at hlen; omega
          refine ⟨c, _, _, rfl, rfl, sz _ _ hc2, by rw [vS_len]; exact szT (by omega), ?_⟩
          refine ⟨z2 :: rs, (wNot ++ [32] ++ inP z.2 3 z.1, 3) :: r, _, _, _, _, _, _, _, _, _, _, _, _, rfl, same_upd (s2.trans sz) hc, by rw [vS_cons]; exact upd_same, (show SqT K _ z2 (vP _) ∧ RowH K _ rs r from ⟨?_, RowH.upd (sz _ _ hc2) (hr3.keep sz)⟩), htk', by omega, by omega⟩
          exact sqT_upd (sqT_of upd_same) (sz _ _ hc2)
      · have h1' := of_decide_eq_false (Bool.eq_false_iff.mpr h1)
        refine ⟨_, rfl, rfl, _, rfl, ?_⟩
        rw [and_t, eq_S]
        unfold txM at hm
        rw [if_neg h1'] at hm
        by_cases hw : t.w = wAnd ∨ t.w = wOr
        · rw [if_pos hw] at hm
          refine or_split (fun hf k => ⟨_, rfl, rfl, _, rfl, by
            rw [or_t, eq_S, decide_eq_true (hw.resolve_left (of_decide_eq_false hf))]
            exact k⟩) (iteT ?_)
          match h, hm, hr1, ten, htot, hhl with
          | (y, cb) :: (x0, bb) :: r, hm, hr1, ten, htot, hhl =>
          cases hm
          obtain ⟨p1, rs0, rfl, hp1, hr2⟩ := hr1.out
          obtain ⟨p2, rs, rfl, hp2, hr2⟩ := hr2.out
          rw [vS_cons] at hc1
          refine ⟨_, rfl, .inl ⟨rfl, _, SqL.of hc1⟩, c, _, V.ref p1, rfl, rfl, hc1, by simp, p1, _, rfl, sqT_upd hp1 hc1, rfl, _, _, rfl, _, _, rfl, rfl, ?_⟩
          rw [List.dropLast_concat]
          have hc2 : (upd H1 c (.lst (vS (p2 :: rs)))) c = some (.lst (vS (p2 :: rs))) := upd_same
          have hp3 := sqT_upd (zs := vS (p2 :: rs)) hp2 hc1
          have s2 : Same H (upd H1 c (.lst (vS (p2 :: rs)))) := same_upd s1 hc
          have hr3 : RowH K (upd H1 c (.lst (vS (p2 :: rs)))) rs r := RowH.upd hc1 hr2
          clear hc1 hr1 hr2 s1 hst hp1 hp2
          revert hc2 s2 hr3 hp3
          generalize upd H1 c (.lst (vS (p2 :: rs))) = H2
          intro hc2 hp3 s2 hr3
          rw [vS_cons] at hc2
          refine ⟨_, rfl, .inl ⟨rfl, _, SqL.of hc2⟩, c, _, V.ref p2, rfl, rfl, hc2, by simp, p2, _, rfl, sqT_upd hp3 hc2, rfl, _, _, rfl, _, _, rfl, rfl, ?_⟩
          rw [List.dropLast_concat]
          have hc3 : (upd H2 c (.lst (vS rs))) c = some (.lst (vS rs)) := upd_same
          have s3 : Same H (upd H2 c (.lst (vS rs))) := same_upd s2 hc
          have hr4 : RowH K (upd H2 c (.lst (vS rs))) rs r := RowH.upd hc2 hr3
          clear hc2 s2 hr3 hp3
          revert hc3 s3 hr4
          generalize upd H2 c (.lst (vS rs)) = H3
          intro hc3 s3 hr4
          have hx0 := ten (x0, bb) (by simp)
          have hy := ten (y, cb) (by simp)
          have i1 := inP_len bb (bndT t.w) x0
          have i2 := inP_len cb (bndT t.w) y
          have hwl : t.w.length ≤ 3 := by rcases hw with e | e <;> rw [e] <;> decide
          have htt := tot_in (h := (inP bb (bndT t.w) x0 ++ [32] ++ t.w ++ [32] ++ inP cb (bndT t.w) y, bndT t.w) :: r) (List.mem_cons_self ..)
          simp only [List.length_append, List.length_cons, List.length_nil] at htt
          refine ⟨_, rfl, _, rfl, _, rfl, x0, bb, bndT t.w, rfl, Nat.le_trans hx0 (by decide), ?_⟩
          refine ⟨_, rfl, _, rfl, _, rfl, y, cb, bndT t.w, rfl, Nat.le_trans hy (by decide), ?_⟩
          have e1 : ∀ l : List Nat, Str.empty ++ S l = S l := fun l => S_cat [] l
          refine ⟨_, rfl, .inl ⟨rfl, _, SqL.of hc3⟩, _, rfl, .inl ⟨_, rfl, by rw [S_len]; exact big _ (by omega), _, rfl, by rw [e1, S_len]; exact big _ (by omega), ?_⟩⟩
          rw [e1]
          refine ⟨_, rfl, by rw [spc, S_cat, S_len]; simp only [List.length_append, List.length_cons, List.length_nil]; exact big _ (by omega), ?_⟩
          rw [spc, S_cat]
          refine ⟨_, rfl, .inl ⟨_, rfl, by rw [S_len]; exact big _ (by omega), _, rfl, by rw [S_cat, S_len]; simp only [List.length_append, List.length_cons, List.length_nil]; exact big _ (by omega), ?_⟩⟩
          rw [S_cat]
          refine ⟨_, rfl, by rw [S_cat, S_len]; simp only [List.length_append, List.length_cons, List.length_nil]; exact big _ (by omega), ?_⟩
          rw [S_cat]
          refine ⟨_, rfl, .inl ⟨_, rfl, by rw [S_len]; exact big _ (by omega), _, rfl, by rw [S_cat, S_len]; simp only [List.length_append, List.length_cons, List.length_nil]; exact big _ (by omega), ?_⟩⟩
          rw [S_cat]
          refine ⟨_, rfl, by show 2 ≤ sizeLine; decide, fun z2 hz2 => ?_⟩
          have sz := same_new (o := .tup [V.str (S (inP bb (bndT t.w) x0 ++ [32] ++ t.w ++ [32] ++ inP cb (bndT t.w) y)), .int ((bndT t.w : Nat) : Int)]) hz2
          have hrl : rs.length ≤ i := by simp only [List.length_cons] at hlen; omega
          refine ⟨c, _, _, rfl, rfl, sz _ _ hc3, by rw [vS_len]; exact szT (by omega), ?_⟩
          refine ⟨z2 :: rs, (inP bb (bndT t.w) x0 ++ [32] ++ t.w ++ [32] ++ inP cb (bndT t.w) y, bndT t.w) :: r, _, _, _, _, _, _, _, _, _, _, _, _, rfl, same_upd (s3.trans sz) hc, by rw [vS_cons]; exact upd_same, (show SqT K _ z2 (vP _) ∧ RowH K _ rs r from ⟨?_, RowH.upd (sz _ _ hc3) (hr4.keep sz)⟩), htk', by omega, by simp only [List.length_cons] at hl2 hhl ⊢; omega⟩
          exact sqT_upd (sqT_of upd_same) (sz _ _ hc3)
        · rw [if_neg hw] at hm
          cases hm
          rw [decide_eq_false (fun e => hw (.inl e))]
          refine ⟨_, rfl, rfl, _, rfl, ?_⟩
          rw [or_t, eq_S, decide_eq_false (fun e => hw (.inr e))]
          refine ⟨_, rfl, .inl ⟨rfl, _, SqL.of hc1⟩, _, rfl, _, rfl, _, rfl, t, rfl, by have := hsw.1; omega, by have := hsw.2.1; omega, by have := hsw.2.2.1; omega, hsw.2.2.2, ?_⟩
          refine ⟨_, rfl, by show 2 ≤ sizeLine; decide, fun z2 hz2 => ?_⟩
          have sz := same_new (o := .tup [V.str (S (txTm t)), .int ((bndT t.w : Nat) : Int)]) hz2
          refine ⟨c, _, _, rfl, rfl, sz _ _ hc1, by rw [vS_len]; exact szT (by omega), ?_⟩
          refine ⟨z2 :: hs, (txTm t, bndT t.w) :: h, _, _, _, _, _, _, _, _, _, _, _, _, rfl, same_upd (s1.trans sz) hc, by rw [vS_cons]; exact upd_same, (show SqT K _ z2 (vP _) ∧ RowH K _ hs h from ⟨?_, RowH.upd (sz _ _ hc1) (hr1.keep sz)⟩), htk', by omega, by simp only [List.length_cons] at hl2 ⊢; omega⟩
          exact sqT_upd (sqT_of upd_same) (sz _ _ hc1)
    · rintro σ H1 ⟨hs, h, o2, o3, o4, o5, o6, o7, o8, o9, o10, o11, o12, o13, rfl, s1, hc1, hr1, htk, htot, hhl⟩
      rw [List.length_map, hpl, List.take_length, htx] at htk
      cases htk
      obtain ⟨p, rs, rfl, hp, hr2⟩ := hr1.out
      cases rs with
      | cons _ _ => exact hr2.elim
      | nil =>
        refine ⟨_, rfl, c, _, _, _, rfl, rfl, SqL.of hc1, rfl, p, _, _, _, rfl, rfl, hp, rfl, ?_⟩
        exact q H1 s1
end

/-! ## Markers: the class -/
section
variable {P : Program} {w : World} {K : PySem.W.Frag} {mg : Str → Option Value} {base : Heap} {D : Ad}
open TL SX
theorem make_same {H H1 : Hp} {C x dx : Addr} {fs : List (Str × V)} (hx : H x = none) (hd : H dx = none) (s : Same (upd (upd H dx (.own x)) x (.ins C dx [])) H1) : Same H (upd H1 x (.ins C dx fs)) := by
  intro b o e
  have n1 : b ≠ x := ne_of_none e hx
  have n2 : b ≠ dx := ne_of_none e hd
  rw [upd_ne n1]
  refine s b o ?_
  rw [upd_ne n1, upd_ne n2]
  exact e
theorem sqT_ins {H : Hp} {b x C C' dx dx' : Addr} {xs : List V} {fs fs' : List (Str × V)} (h : SqT K H b xs) (hx : H x = some (.ins C dx fs)) : SqT K (upd H x (.ins C' dx' fs')) b xs := by
  rcases h with h | h
  · refine .inl ?_
    rcases h with h | ⟨o, h⟩
    · exact .inl (by rw [upd_ne (fun e => by rw [e, hx] at h; cases h)]; exact h)
    · exact .inr ⟨o, by rw [upd_ne (fun e => by rw [e, hx] at h; cases h)]; exact h⟩
  · exact .inr h
theorem Row.ins {H : Hp} {x C C' dx dx' : Addr} {fs fs' : List (Str × V)} (hx : H x = some (.ins C dx fs)) : ∀ {ps : List Addr} {ts : List Tm}, Row K H ps ts → Row K (L2.upd H x (.ins C' dx' fs')) ps ts
  | [], [], _ => trivial
  | _ :: _, _ :: _, h => ⟨sqT_ins h.1 hx, Row.ins hx h.2⟩
  | [], _ :: _, h => h.elim
  | _ :: _, [], h => h.elim
/-- a marker of these steps -/
def Mkr (K : PySem.W.Frag) (C : Addr) (H : Hp) (m : Addr) (us : List Tm) : Prop := ∃ dx p ps, H m = some (.ins C dx [("_steps", .ref p)]) ∧ SqT K H p (ps.map V.ref) ∧ Row K H ps us
theorem Mkr.keep {C m : Addr} {H H' : Hp} {us : List Tm} (h : Mkr K C H m us) (s : Same H H') : Mkr K C H' m us :=
  let ⟨dx, p, ps, a, b, c⟩ := h; ⟨dx, p, ps, s _ _ a, sqT_keep s b, c.keep s⟩
def spMInit (K : PySem.W.Frag) (C : Addr) : Sp := fun vs H Q _ => ∃ (x dx : Addr) (l : List Nat) (us : List Tm), vs = [.ref x, .str (S l)] ∧ H x = some (.ins C dx []) ∧ l.length ≤ 50000 ∧ readF l = some us ∧
  ∀ H1 p qs, Same H H1 → H1 p = some (.tup (qs.map V.ref)) → Row K H1 qs us → Q .non (upd H1 x (.ins C dx [("_steps", .ref p)]))
theorem ok_Marker_init (T : TexW w K mg D) : FnOk P w K mg base CX0 8 D.a_Marker_init D.d_Marker_init P_Marker_init (spMInit K D.a_Marker) := by
  have G_expression_in : FnOk P w K mg base CX0 6 D.a_expression_in D.d_expression_in P_expression_in (spExpIn K) := ok_expression_in T
  have G_BadMarker_init : FnOk P w K mg base CX0 1 D.a_BadMarker_init D.d_BadMarker_init P_BadMarker_init (fun _ _ _ _ => False) := ⟨fun _ _ _ _ h => h.elim, fun _ _ _ _ _ _ _ _ _ _ _ _ _ h => h.elim⟩
  refine T.Marker_init_F.ok S_Marker_init (fun vs H Q E h => ?_) (fun cdv A outer s H vs Q E hr h => ?_)
  · obtain ⟨x, dx, l, us, rfl, _⟩ := h
    rfl
  · obtain ⟨x, dx, l, us, rfl, hx, hl, hu, q⟩ := h
    refine ⟨_, (pss_cons (ps_set (i := 2) S_Marker_init.nd rfl (Or.inl rfl) (pe_call G_expression_in (hr.mono (by decide)) (by rfl) T.expression_in_g T.expression_in_F.kp T.expression_in_b .nil pass0 (pa_cons (pv 1) pa_nil)))
      (pss_cons (ps_if (pt_cmpR op_isN (pv 2) pe_non (nomark _)) (pss_one ps_never) pss_nil)
      (pss_one (ps_fld (pv 0) (pv 2) rfl)))), ?_⟩
    refine ⟨_, rfl, l, rfl, hl, fun e => (by rw [hu] at e; cases e), fun us' qs p H1 e hp s1 h1p hrow => ?_⟩
    rw [hu] at e
    cases e
    refine ⟨_, rfl, rfl, _, rfl, iteF ?_⟩
    exact ⟨_, rfl, _, rfl, x, _, dx, [], rfl, s1 _ _ hx, T.Marker_cl, T.Marker_n_steps, by decide, q H1 p qs s1 h1p hrow⟩
theorem alw_t : (("always" : String) : Str) = S wAlways := by decide +kernel
theorem read_one {x : Txt} (hx : x ∈ operL) (hf : x ∉ fieldL) (hk : TokOk x) : readF x = some [opT x] := by
  have e1 : toksF x = some [x] := by
    have := toks_lay (w := x) (ps := []) (.one hk)
    simpa [lay] using this
  have e2 : termsF [x] = some [opT x] := by
    have := terms_tk (ts := [opT x]) (fun t ht => by
      rw [List.mem_singleton.mp ht]
      unfold TmOk
      rw [if_neg (show ¬ (opT x).w ∈ fieldL from hf)]
      rfl)
    rw [show ([opT x] : List Tm).flatMap tkT = [x] by simp [tkT, opT, hf]] at this
    exact this
  unfold readF
  rw [e1]
  show (termsF [x]).bind exprF = _
  rw [e2]
  obtain ⟨a, b, c, _⟩ := oper_bnd x hx
  have n1 : ¬ (x = [40] ∨ x = wNot) := by
    rintro (e | e)
    · rw [e] at hx
      exact absurd hx (by decide)
    · exact a e
  show exprF [opT x] = _
  have r : runM ([], [], true) [opT x] = some ([opT x], [], false) := by
    show (stepM ([], [], true) (opT x)).bind _ = _
    have : stepM ([], [], true) (opT x) = some ([opT x], [], false) := by
      unfold stepM
      rw [if_pos rfl, if_neg (show ¬ ((opT x).w = [40] ∨ (opT x).w = wNot) from n1), if_pos (show (opT x).w ∈ operL from hx)]
      rfl
    rw [this]
    rfl
  unfold exprF
  rw [r]
  rfl
def spMOf (K : PySem.W.Frag) (C : Addr) : Sp := fun vs H Q _ => ∃ (a : Addr) (ps : List Addr) (us : List Tm), vs = [.ref a] ∧ SqT K H a (ps.map V.ref) ∧ Row K H ps us ∧ ∀ m H', H m = none → Same H H' → Mkr K C H' m us → Q (.ref m) H'
/-- two rows of steps and a word behind them -/
def spMBin (K : PySem.W.Frag) (C : Addr) (o : Bool) : Sp := fun vs H Q _ => ∃ (a b : Addr) (us ws : List Tm), vs = [.ref a, .ref b] ∧ Mkr K C H a us ∧ Mkr K C H b ws ∧ us.length + ws.length ≤ 100000 ∧ us ≠ [] ∧ ws ≠ [] ∧
  ∀ m H', H m = none → Same H H' → Mkr K C H' m (us ++ ws ++ [opT (wOp o)]) → Q (.ref m) H'
theorem stp_lk (p : Addr) : List.lookup ("_steps" : Str) [(("_steps" : Str), V.ref p)] = some (V.ref p) := by simp [List.lookup]
def spMNeg (K : PySem.W.Frag) (C : Addr) : Sp := fun vs H Q _ => ∃ (a : Addr) (us : List Tm), vs = [.ref a] ∧ Mkr K C H a us ∧ us.length ≤ 100000 ∧ us ≠ [] ∧
  ∀ m H', H m = none → Same H H' → Mkr K C H' m (us ++ [opT wNot]) → Q (.ref m) H'
def spMStr (K : PySem.W.Frag) (C : Addr) : Sp := fun vs H Q _ => ∃ (a : Addr) (us : List Tm) (x : Txt) (b : Nat), vs = [.ref a] ∧ Mkr K C H a us ∧ us.length ≤ 3000 ∧ (∀ t ∈ us, Shw t) ∧ txR [] us = some [(x, b)] ∧ ∀ H', Same H H' → Q (.str (S x)) H'
theorem ok_Marker_str (T : TexW w K mg D) : FnOk P w K mg base CX0 4 D.a_Marker_str D.d_Marker_str P_Marker_str (spMStr K D.a_Marker) := by
  have G_text_of_expression : FnOk P w K mg base CX0 2 D.a_text_of_expression D.d_text_of_expression P_text_of_expression (spTextE K) := ok_text_of_expression T
  refine T.Marker_str_F.ok S_Marker_str (fun vs H Q E h => ?_) (fun cdv A outer s H vs Q E hr h => ?_)
  · obtain ⟨a, us, x, b, rfl, _⟩ := h
    rfl
  · obtain ⟨a, us, x, b, rfl, ⟨dx, p, ps, ha, hp, hr1⟩, hl, hs, ht, q⟩ := h
    refine ⟨_, (pss_one (ps_ret (pe_callTy SkE.call_str_str (by rfl) T.b_str (by decide +kernel) (pa_cons (pe_call G_text_of_expression (hr.mono (by decide)) (by rfl) T.text_of_expression_g T.text_of_expression_F.kp T.text_of_expression_b .nil pass0 (pa_cons (pe_fld (pv 0) rfl) pa_nil)) pa_nil)))), ?_⟩
    exact ⟨_, rfl, a, _, dx, _, _, rfl, ha, T.Marker_cl, T.Marker_n_steps, stp_lk p, p, ps, us, x, b, rfl, hp, hr1, hl, hs, ht, fun H' s' => ⟨_, rfl, q H' s'⟩⟩
end

/-! ## Markers: what is laid out loosely is read -/
section
open TL SX
def Adj : List Txt → Prop
  | [] => True
  | [_] => True
  | w :: w' :: r => ((w = [60] ∨ w = [62]) → w'.head? ≠ some 61) ∧ Adj (w' :: r)
structure St (T : List Txt) : Prop where
  tok : ∀ x ∈ T, TokOk x
  adj : Adj T
  hd : ∀ x, T.head? = some x → x.head? ≠ some 61
  lst : ∀ x, T.getLast? = some x → x ≠ [60] ∧ x ≠ [62]
  ne : T ≠ []
theorem Adj.app : ∀ {A B : List Txt}, Adj A → Adj B → (∀ x, A.getLast? = some x → x ≠ [60] ∧ x ≠ [62]) → Adj (A ++ B)
  | [], B, _, b, _ => b
  | [w], [], _, _, _ => trivial
  | [w], w' :: r, _, b, l => ⟨fun e => by
    have := l w rfl
    rcases e with e | e
    · exact absurd e this.1
    · exact absurd e this.2, b⟩
  | w :: w' :: r, B, a, b, l => ⟨a.1, Adj.app (A := w' :: r) a.2 b (fun x hx => l x (by simpa [List.getLast?_cons_cons] using hx))⟩
theorem St.app {A B : List Txt} (a : St A) (b : St B) : St (A ++ B) where
  tok := fun x hx => (List.mem_append.mp hx).elim (a.tok x) (b.tok x)
  adj := a.adj.app b.adj a.lst
  hd := fun x hx => by
    obtain ⟨y, r, e⟩ := List.exists_cons_of_ne_nil a.ne
    rw [e] at hx
    exact a.hd x (by rw [e]; simpa using hx)
  lst := fun x hx => by
    rw [List.getLast?_append] at hx
    cases e : B.getLast? with
    | none => exact absurd (List.getLast?_eq_none_iff.mp e) b.ne
    | some y =>
      rw [e] at hx
      have : y = x := by simpa using hx
      rw [← this]
      exact b.lst y e
  ne := fun e => a.ne (List.append_eq_nil_iff.mp e).1
theorem St.one {x : Txt} (h : TokOk x) (h1 : x.head? ≠ some 61) (h2 : x ≠ [60] ∧ x ≠ [62]) : St [x] where
  tok := fun y hy => by rw [List.mem_singleton.mp hy]; exact h
  adj := trivial
  hd := fun y hy => by
    have : x = y := by simpa using hy
    rw [← this]; exact h1
  lst := fun y hy => by
    have : x = y := by simpa using hy
    rw [← this]; exact h2
  ne := by simp
/-- a leaf as the law draws them -/
structure GT (t : Tm) : Prop where
  op : t.w ∈ operL
  ok : TmOk t
  sh : Shw t
  tk : t.w ∈ fieldL → t.s ∈ lvSigns ∧ txV t.v ≠ [] ∧ ∀ c ∈ txV t.v, isLD c = true
theorem ld_tok {x : Txt} (h : x ≠ []) (k : ∀ c ∈ x, isLD c = true) : TokOk x ∧ x.head? ≠ some 61 ∧ (x ≠ [60] ∧ x ≠ [62]) := by
  refine ⟨.inl ⟨h, k⟩, fun e => ?_, fun e => ?_, fun e => ?_⟩
  · exact absurd (k 61 (List.mem_of_head? e)) (by decide)
  · rw [e] at k
    exact absurd (k 60 (by simp)) (by decide)
  · rw [e] at k
    exact absurd (k 62 (by simp)) (by decide)
theorem oper_ld : ∀ x ∈ operL, x ≠ [] ∧ ∀ c ∈ x, isLD c = true := by decide
theorem word_st {x : Txt} (h : x ∈ ([[40], [41], wNot, wAnd, wOr] : List Txt)) : St [x] := by
  simp only [List.mem_cons, List.not_mem_nil, or_false] at h
  rcases h with rfl | rfl | rfl | rfl | rfl
  · exact .one (.inr (by decide)) (by decide) (by decide)
  · exact .one (.inr (by decide)) (by decide) (by decide)
  all_goals exact .one (.inl (by decide)) (by decide) (by decide)
theorem sgn_tok : ∀ s ∈ lvSigns, s ∈ sgn8 := by decide
theorem GT.st {t : Tm} (g : GT t) : St (tkT t) := by
  obtain ⟨a, b⟩ := oper_ld t.w g.op
  obtain ⟨x1, x2, x3⟩ := ld_tok a b
  unfold tkT
  by_cases h : t.w ∈ fieldL
  · rw [if_pos h]
    obtain ⟨hs, hv, hc⟩ := g.tk h
    obtain ⟨y1, y2, y3⟩ := ld_tok hv hc
    refine ⟨fun x hx => ?_, ⟨fun e => ?_, fun _ => y2, trivial⟩, fun x hx => ?_, fun x hx => ?_, by simp⟩
    · simp only [List.mem_cons, List.not_mem_nil, or_false] at hx
      rcases hx with rfl | rfl | rfl
      · exact x1
      · exact .inr (sgn_tok _ hs)
      · exact y1
    · rcases e with e | e
      · exact absurd e x3.1
      · exact absurd e x3.2
    · have : t.w = x := by simpa using hx
      rw [← this]
      exact x2
    · have : txV t.v = x := by simpa using hx
      rw [← this]
      exact y3
  · rw [if_neg h]
    exact .one x1 x2 x3
theorem word_tk {x : Txt} (h : x ∈ ([[40], [41], wNot, wAnd, wOr] : List Txt)) : TmOk (opT x) ∧ tkT (opT x) = [x] := by
  have hf : x ∉ fieldL := by
    simp only [List.mem_cons, List.not_mem_nil, or_false] at h
    rcases h with rfl | rfl | rfl | rfl | rfl <;> decide
  exact ⟨by unfold TmOk; rw [if_neg (show ¬ (opT x).w ∈ fieldL from hf)]; rfl, by unfold tkT; rw [if_neg (show ¬ (opT x).w ∈ fieldL from hf)]; rfl⟩
theorem op_mem (a : Bool) : wOp a ∈ ([[40], [41], wNot, wAnd, wOr] : List Txt) := by cases a <;> decide
theorem pcs_ok {t : Tr} {b : Nat} {ts : List Tm} (h : Pcs t b ts) : (∀ x ∈ t.lvs, GT x) → (∀ x ∈ ts, TmOk x) ∧ St (ts.flatMap tkT) := by
  induction h with
  | @lf t h =>
    intro g
    have gt := g t (by simp [Tr.lvs])
    exact ⟨fun x hx => by rw [List.mem_singleton.mp hx]; exact gt.ok, by simpa using gt.st⟩
  | @par t b ts h ih =>
    intro g
    obtain ⟨a, s⟩ := ih g
    obtain ⟨o1, o2⟩ := word_tk (x := [40]) (by decide)
    obtain ⟨c1, c2⟩ := word_tk (x := [41]) (by decide)
    refine ⟨fun x hx => ?_, ?_⟩
    · simp only [List.mem_cons, List.mem_append, List.not_mem_nil, or_false] at hx
      rcases hx with rfl | hx | rfl
      · exact o1
      · exact a x hx
      · exact c1
    · rw [List.flatMap_cons, List.flatMap_append, o2]
      simp only [List.flatMap_cons, List.flatMap_nil, c2, List.append_nil]
      exact (word_st (by decide)).app (s.app (word_st (by decide)))
  | @no t b ts h hb ih =>
    intro g
    obtain ⟨a, s⟩ := ih g
    obtain ⟨o1, o2⟩ := word_tk (x := wNot) (by decide)
    refine ⟨fun x hx => ?_, ?_⟩
    · rcases List.mem_cons.mp hx with rfl | hx
      · exact o1
      · exact a x hx
    · rw [List.flatMap_cons, o2]
      exact (word_st (by decide)).app s
  | @bi o t u b c ts us h k hb hc ih ik =>
    intro g
    obtain ⟨a, s⟩ := ih fun x hx => g x (by simp [Tr.lvs, hx])
    obtain ⟨a2, s2⟩ := ik fun x hx => g x (by simp [Tr.lvs, hx])
    obtain ⟨o1, o2⟩ := word_tk (op_mem o)
    refine ⟨fun x hx => ?_, ?_⟩
    · rcases List.mem_append.mp hx with hx | hx
      · exact a x hx
      · rcases List.mem_cons.mp hx with rfl | hx
        · exact o1
        · exact a2 x hx
    · rw [List.flatMap_append, List.flatMap_cons, o2]
      exact s.app ((word_st (op_mem o)).app s2)
/-- a sign that needs no gap beside it -/
def brk (c : Nat) : Bool := decide (c ∈ ([40, 41, 60, 62, 61, 33] : List Nat))
def Gap (w w' : Txt) : Prop := (∃ c, w.getLast? = some c ∧ brk c = true) ∨ ∃ c, w'.head? = some c ∧ brk c = true
theorem gap_glue {w w' : Txt} (hw' : w' ≠ []) (h : Gap w w') (k : (w = [60] ∨ w = [62]) → w'.head? ≠ some 61) : glue w w' := by
  obtain ⟨c, r, rfl⟩ := List.exists_cons_of_ne_nil hw'
  refine ⟨fun hl => ?_, fun e q => k e (by rw [q]; rfl)⟩
  have nb : ∀ c, brk c = true → isLD c = false := fun c h => by
    simp only [brk, decide_eq_true_eq, List.mem_cons, List.not_mem_nil, or_false] at h
    rcases h with rfl | rfl | rfl | rfl | rfl | rfl <;> decide
  rcases h with ⟨x, e, b⟩ | ⟨x, e, b⟩
  · have := hl x (List.mem_of_getLast? e)
    rw [nb x b] at this
    cases this
  · have : c = x := by simpa using e
    rw [this]
    exact nb x b
/-- gaps as the law draws them -/
inductive Lo : List (Nat × Txt) → Prop where
  | one {w : Txt} : Lo [(0, w)]
  | snoc {ps : List (Nat × Txt)} {g g' : Nat} {w w' : Txt} (h : Lo (ps ++ [(g, w)])) (k : g' = 0 → Gap w w') : Lo (ps ++ [(g, w)] ++ [(g', w')])
theorem LayOk.snoc {g g' : Nat} {w w' : Txt} (ht : TokOk w') (k : g' = 0 → glue w w') : ∀ {ps : List (Nat × Txt)}, LayOk (ps ++ [(g, w)]) → LayOk (ps ++ [(g, w)] ++ [(g', w')])
  | [], h => by
    cases h with
    | one h => exact .cons h k (.one ht)
  | [(g0, w0)], h => by
    cases h with
    | cons h k0 r => exact .cons h k0 (LayOk.snoc (ps := []) ht k r)
  | (g0, w0) :: (g1, w1) :: ps, h => by
    cases h with
    | cons h k0 r => exact .cons h k0 (LayOk.snoc (ps := (g1, w1) :: ps) ht k r)
theorem Adj.left : ∀ {A B : List Txt}, Adj (A ++ B) → Adj A
  | [], _, _ => trivial
  | [_], _, _ => trivial
  | _ :: w' :: r, B, h => ⟨h.1, Adj.left (A := w' :: r) h.2⟩
theorem Adj.two : ∀ {A : List Txt} {w w' : Txt}, Adj (A ++ [w] ++ [w']) → ((w = [60] ∨ w = [62]) → w'.head? ≠ some 61)
  | [], _, _, h => h.1
  | [_], _, _, h => h.2.1
  | _ :: x :: r, w, w', h => Adj.two (A := x :: r) h.2
theorem lo_lay {ps : List (Nat × Txt)} (h : Lo ps) : (∀ x ∈ ps.map (·.2), TokOk x) → Adj (ps.map (·.2)) → LayOk ps := by
  induction h with
  | @one w => exact fun t _ => .one (t w (by simp))
  | @snoc ps g g' w w' h k ih =>
    intro t a
    rw [List.map_append] at a t
    refine LayOk.snoc (t w' (by simp)) (fun e => ?_) (ih (fun x hx => t x (List.mem_append_left _ hx)) a.left)
    refine gap_glue (tok_ne (t w' (by simp))) (k e) ?_
    rw [List.map_append] at a
    exact Adj.two a
theorem lo_zero {ps : List (Nat × Txt)} (h : Lo ps) : ∃ w qs, ps = (0, w) :: qs := by
  induction h with
  | @one w => exact ⟨w, [], rfl⟩
  | @snoc ps g g' w w' h k ih =>
    obtain ⟨x, qs, e⟩ := ih
    exact ⟨x, qs ++ [(g', w')], by rw [e]; rfl⟩
/-- a tree's tokens, loosely laid, are read as a tree that shows and answers the same -/
theorem read_lo {t : Tr} {b : Nat} {ts : List Tm} {ps : List (Nat × Txt)} (h : Pcs t b ts) (g : ∀ x ∈ t.lvs, GT x) (hl : Lo ps) (e : ps.map (·.2) = ts.flatMap tkT) : ∃ u, Eqv u t ∧ readF (lay ps) = some u.pfx := by
  obtain ⟨hok, hst⟩ := pcs_ok h g
  have hlay := lo_lay hl (by rw [e]; exact hst.tok) (by rw [e]; exact hst.adj)
  obtain ⟨w, qs, rfl⟩ := lo_zero hl
  have e1 := toks_lay hlay
  obtain ⟨u, q, ex⟩ := pcs_expr h
  refine ⟨u, q, ?_⟩
  unfold readF
  rw [e1, show w :: qs.map (·.2) = ts.flatMap tkT from e]
  show (termsF _).bind exprF = _
  rw [terms_tk hok]
  exact ex
end

/-! ## Markers: the law's trees -/
section
variable {P : Program} {w : World} {K : PySem.W.Frag} {mg : Str → Option Value} {base : Heap} {D : Ad}
open TL SX
inductive Tre (H : Hp) : Addr → Tr → Prop where
  | all {p : Addr} (b : Bool) (h : H p = some (.tup [.str "all", .bl b])) : Tre H p (.lf (opT (if b then wAlways else wNever)))
  | is {p : Addr} {f s : Txt} {v : Txt ⊕ Nat} (h : H p = some (.tup [.str "is", .str (S f), .str (S s), vW v])) (hf : f ∈ fieldL) : Tre H p (.lf ⟨f, s, v⟩)
  | no {p q : Addr} {t : Tr} (h : H p = some (.tup [.str "not", .ref q])) (r : Tre H q t) : Tre H p (.no t)
  | bi {p q r : Addr} {a : Bool} {t u : Tr} (h : H p = some (.tup [.str (S (wOp a)), .ref q, .ref r])) (x : Tre H q t) (y : Tre H r u) : Tre H p (.bi a t u)
def TK (H H' : Hp) : Prop := ∀ b xs, H b = some (.tup xs) → H' b = some (.tup xs)
theorem TK.trans {H H1 H2 : Hp} (a : TK H H1) (b : TK H1 H2) : TK H H2 := fun x xs e => b x xs (a x xs e)
theorem tk_same {H H' : Hp} (s : Same H H') : TK H H' := fun b xs e => s _ _ e
theorem tk_but {H H' : Hp} {d c : Addr} {n : Nat} (h : Dr H d c n) (s : But d H H') : TK H H' := fun b xs e => s _ _ e (fun q => by
  obtain ⟨_, _, _, _, ho, _⟩ := h
  rw [q, ho] at e
  cases e)
theorem Tre.keep {H H' : Hp} (k : TK H H') {p : Addr} {t : Tr} (h : Tre H p t) : Tre H' p t := by
  induction h with
  | all b h => exact .all b (k _ _ h)
  | is h hf => exact .is (k _ _ h) hf
  | no h _ ih => exact .no (k _ _ h) ih
  | bi h _ _ ih ik => exact .bi (k _ _ h) ih ik
def Tr.dep : Tr → Nat
  | .lf _ => 0
  | .no t => t.dep + 1
  | .bi _ t u => max t.dep u.dep + 1
def drw : Nat → Nat
  | 0 => 3
  | k + 1 => 2 * drw k + 4
def szb : Nat → Nat
  | 0 => 1
  | k + 1 => 2 * szb k + 1
theorem two_next {b : Bool} {A B : Prop} {R : Int → Hp → Prop} {G : Bool → Int → Hp → Prop} (hA : b = true → (∀ z H', G true z H' → R z H') → A) (hB : b = false → (∀ z H', G false z H' → R z H') → B) (h : ∀ z H', G b z H' → R z H') : if b = true then A else B := by
  cases b with
  | true => exact hA rfl h
  | false => exact hB rfl h
theorem at_S {ws : List Txt} {v : Int} (h0 : 0 ≤ v) (h1 : v < (ws.length : Int)) : ∃ s, atI (ws.map fun l => V.str (S l)) v = some (.str (S s)) ∧ s ∈ ws := by
  obtain ⟨j, rfl⟩ := Int.eq_ofNat_of_zero_le h0
  have hj : j < ws.length := by omega
  refine ⟨ws[j], atI_nat ?_, List.getElem_mem hj⟩
  rw [List.getElem?_map, List.getElem?_eq_getElem hj]
  rfl
def names5 : List Txt := [[110, 111, 114, 116, 104], [97], [98], wNot, [97, 97]]
def lev7 : List Nat := [0, 1, 3, 4, 50, 98, 99]
theorem nm5_v : ([.str "north", .str "a", .str "b", .str "not", .str "aa"] : List V) = names5.map fun l => V.str (S l) := by decide +kernel
theorem sm_v : ([.str "system", .str "machine"] : List V) = ([wSystem, wMachine] : List Txt).map fun l => V.str (S l) := by decide +kernel
theorem gt_all (b : Bool) : GT (opT (if b then wAlways else wNever)) := by
  cases b
  · exact ⟨by decide, by unfold TmOk; rw [if_neg (by decide)]; rfl, ⟨by decide, by decide, by decide, fun n e => by cases e⟩, fun h => absurd h (by decide)⟩
  · exact ⟨by decide, by unfold TmOk; rw [if_neg (by decide)]; rfl, ⟨by decide, by decide, by decide, fun n e => by cases e⟩, fun h => absurd h (by decide)⟩
theorem word_fin : ∀ f ∈ ([wSystem, wMachine] : List Txt), ∀ s ∈ ([[61, 61], [33, 61]] : List Txt), ∀ v ∈ names5, f ∈ operL ∧ f ∈ fieldL ∧ cmpF f s v = some ⟨f, s, .inl v⟩ ∧ f.length ≤ 100 ∧ s.length ≤ 100 ∧ v.length ≤ 100 ∧ s ∈ lvSigns ∧ v ≠ [] ∧ ∀ c ∈ v, isLD c = true := by decide +kernel
theorem lev_fin : ∀ s ∈ lvSigns, ∀ n ∈ lev7, cmpF wLevel s (numL n) = some ⟨wLevel, s, .inr n⟩ ∧ s.length ≤ 100 ∧ (numL n).length ≤ 100 ∧ numL n ≠ [] ∧ n ≤ 1000 ∧ ∀ c ∈ numL n, isLD c = true := by decide +kernel
theorem gt_word {f s v : Txt} (hf : f ∈ ([wSystem, wMachine] : List Txt)) (hs : s ∈ ([[61, 61], [33, 61]] : List Txt)) (hv : v ∈ names5) : GT ⟨f, s, .inl v⟩ := by
  obtain ⟨a, b, c, d, e, g, h, i, j⟩ := word_fin f hf s hs v hv
  exact ⟨a, by unfold TmOk; rw [if_pos b]; exact c, ⟨d, e, g, fun n e => by cases e⟩, fun _ => ⟨h, i, j⟩⟩
theorem gt_lev {s : Txt} {n : Nat} (hs : s ∈ lvSigns) (hn : n ∈ lev7) : GT ⟨wLevel, s, .inr n⟩ := by
  obtain ⟨c, d, e, g, h, i⟩ := lev_fin s hs n hn
  exact ⟨show wLevel ∈ operL by decide, by unfold TmOk; rw [if_pos (show wLevel ∈ fieldL by decide)]; exact c, ⟨show wLevel.length ≤ 100 by decide, d, e, fun m e => by cases e; exact h⟩, fun _ => ⟨hs, g, i⟩⟩
theorem at_N {ws : List Nat} {v : Int} (h0 : 0 ≤ v) (h1 : v < (ws.length : Int)) : ∃ s, atI (ws.map fun l => V.int ((l : Nat) : Int)) v = some (.int ((s : Nat) : Int)) ∧ s ∈ ws := by
  obtain ⟨j, rfl⟩ := Int.eq_ofNat_of_zero_le h0
  have hj : j < ws.length := by omega
  refine ⟨ws[j], atI_nat ?_, List.getElem_mem hj⟩
  rw [List.getElem?_map, List.getElem?_eq_getElem hj]
  rfl
theorem lv7_v : ([.int 0, .int 1, .int 3, .int 4, .int 50, .int 98, .int 99] : List V) = lev7.map fun l => V.int ((l : Nat) : Int) := by decide +kernel
theorem lst_but {H H' : Hp} {d c p : Addr} {n : Nat} {xs : List V} (hp : H p = some (.lst xs)) (h : Dr H d c n) (s : But d H H') : H' p = some (.lst xs) := s _ _ hp (fun q => by
  obtain ⟨_, _, _, _, ho, _⟩ := h
  rw [q, ho] at hp
  cases hp)
theorem aor_v : ([.str "and", .str "or", .str "or"] : List V) = ([wAnd, wOr, wOr] : List Txt).map fun l => V.str (S l) := by decide +kernel
theorem sz_pos (k : Nat) : 1 ≤ szb k := by cases k <;> simp [szb]
/-- a leaf as it is drawn -/
def G5 (x : Tm) : Prop := GT x ∧ (x.w = wSystem ∨ x.w = wMachine → ∃ v ∈ names5, x.v = .inl v)
theorem g5_all (b : Bool) : G5 (opT (if b then wAlways else wNever)) := ⟨gt_all b, fun h => by cases b <;> rcases h with h | h <;> exact absurd h (by decide)⟩
theorem g5_word {f s v : Txt} (hf : f ∈ ([wSystem, wMachine] : List Txt)) (hs : s ∈ ([[61, 61], [33, 61]] : List Txt)) (hv : v ∈ names5) : G5 ⟨f, s, .inl v⟩ := ⟨gt_word hf hs hv, fun _ => ⟨v, hv, rfl⟩⟩
theorem g5_lev {s : Txt} {n : Nat} (hs : s ∈ lvSigns) (hn : n ∈ lev7) : G5 ⟨wLevel, s, .inr n⟩ := ⟨gt_lev hs hn, fun h => by rcases h with h | h <;> exact absurd h (by decide : ¬ wLevel = _)⟩
def spTree : Nat → Sp := fun n vs H Q _ => ∃ (d c : Addr) (k m : Nat), vs = [.ref d, .int (k : Int)] ∧ k < n ∧ Dr H d c m ∧ m + drw k ≤ 90000000000 ∧
  ∀ p t H', Tre H' p t → (∀ x ∈ t.lvs, G5 x) → t.sz ≤ szb k → t.dep ≤ k → But d H H' → Dr H' d c (m + drw k) → Q (.ref p) H'
theorem ok_tree (T : TexW w K mg D) : ∀ n, FnOk P w K mg base CX0 (n + 3) D.a_tree D.d_tree P_tree (spTree n) := by
  have G_next : FnOk P w K mg base CX0 2 D.a_next D.d_next P_next spNext := ok_next T
  intro n
  induction n with
  | zero => exact ⟨fun _ _ _ _ ⟨_, _, _, _, _, h, _⟩ => absurd h (Nat.not_lt_zero _), fun _ _ _ _ _ _ _ _ _ _ _ _ _ ⟨_, _, _, _, _, h, _⟩ => absurd h (Nat.not_lt_zero _)⟩
  | succ n G_tree =>
    refine T.tree_F.ok S_tree (fun vs H Q E h => ?_) (fun cdv A outer s H vs Q E hr h => ?_)
    · obtain ⟨d, c, k, m, rfl, _⟩ := h
      rfl
    · obtain ⟨d, c, k, m, rfl, hk, hd, hm, q⟩ := h
      refine ⟨_, (pss_cons (ps_set (i := 2) S_tree.nd rfl (Or.inl rfl) (pe_ifExp (pt_cmpR op_gt (pv 1) pe_int (nomark _)) (pe_call G_next (hr.mono (by omega)) (by rfl) T.next_g T.next_F.kp T.next_b .nil pass0 (pa_cons (pv 0) (pa_cons pe_int pa_nil))) (pe_call G_next (hr.mono (by omega)) (by rfl) T.next_g T.next_F.kp T.next_b .nil pass0 (pa_cons (pv 0) (pa_cons pe_int pa_nil)))))
      (pss_cons (ps_if (pt_cmpR op_eq (pv 2) pe_int (nomark _)) (pss_one (ps_ret (pe_tup (pa_cons pe_str (pa_cons (pe_cmpR op_eq (pe_call G_next (hr.mono (by omega)) (by rfl) T.next_g T.next_F.kp T.next_b .nil pass0 (pa_cons (pv 0) (pa_cons pe_int pa_nil))) pe_int (nomark _)) pa_nil))))) pss_nil)
      (pss_cons (ps_if (pt_cmpR op_lt (pv 2) pe_int (nomark _)) (pss_cons (ps_set (i := 3) S_tree.nd rfl (Or.inl rfl) (pe_lst (pa_cons pe_str (pa_cons pe_str (pa_cons pe_str (pa_cons pe_str (pa_cons pe_str pa_nil)))))))
      (pss_one (ps_ret (pe_tup (pa_cons pe_str (pa_cons (pe_ix ix_list (pe_lst (pa_cons pe_str (pa_cons pe_str pa_nil))) (pe_op op_sub (pv 2) pe_int) (fun _ _ => rfl)) (pa_cons (pe_ix ix_list (pe_lst (pa_cons pe_str (pa_cons pe_str pa_nil))) (pe_call G_next (hr.mono (by omega)) (by rfl) T.next_g T.next_F.kp T.next_b .nil pass0 (pa_cons (pv 0) (pa_cons pe_int pa_nil))) (fun _ _ => rfl)) (pa_cons (pe_ix ix_list (pv 3) (pe_call G_next (hr.mono (by omega)) (by rfl) T.next_g T.next_F.kp T.next_b .nil pass0 (pa_cons (pv 0) (pa_cons pe_int pa_nil))) (fun _ _ => rfl)) pa_nil)))))))) pss_nil)
      (pss_cons (ps_if (pt_cmpR op_lt (pv 2) pe_int (nomark _)) (pss_cons (ps_set (i := 4) S_tree.nd rfl (Or.inl rfl) (pe_lst (pa_cons pe_str (pa_cons pe_str (pa_cons pe_str (pa_cons pe_str (pa_cons pe_str (pa_cons pe_str pa_nil))))))))
      (pss_one (ps_ret (pe_tup (pa_cons pe_str (pa_cons pe_str (pa_cons (pe_ix ix_list (pv 4) (pe_call G_next (hr.mono (by omega)) (by rfl) T.next_g T.next_F.kp T.next_b .nil pass0 (pa_cons (pv 0) (pa_cons pe_int pa_nil))) (fun _ _ => rfl)) (pa_cons (pe_ix ix_list (pe_lst (pa_cons pe_int (pa_cons pe_int (pa_cons pe_int (pa_cons pe_int (pa_cons pe_int (pa_cons pe_int (pa_cons pe_int pa_nil)))))))) (pe_call G_next (hr.mono (by omega)) (by rfl) T.next_g T.next_F.kp T.next_b .nil pass0 (pa_cons (pv 0) (pa_cons pe_int pa_nil))) (fun _ _ => rfl)) pa_nil)))))))) pss_nil)
      (pss_cons (ps_if (pt_cmpR op_lt (pv 2) pe_int (nomark _)) (pss_one (ps_ret (pe_tup (pa_cons pe_str (pa_cons (pe_call G_tree (hr.mono (by omega)) (by rfl) T.tree_g T.tree_F.kp T.tree_b .nil pass0 (pa_cons (pv 0) (pa_cons (pe_op op_sub (pv 1) pe_int) pa_nil))) pa_nil))))) pss_nil)
      (pss_one (ps_ret (pe_tup (pa_cons (pe_ix ix_list (pe_lst (pa_cons pe_str (pa_cons pe_str (pa_cons pe_str pa_nil)))) (pe_op op_sub (pv 2) pe_int) (fun _ _ => rfl)) (pa_cons (pe_call G_tree (hr.mono (by omega)) (by rfl) T.tree_g T.tree_F.kp T.tree_b .nil pass0 (pa_cons (pv 0) (pa_cons (pe_op op_sub (pv 1) pe_int) pa_nil))) (pa_cons (pe_call G_tree (hr.mono (by omega)) (by rfl) T.tree_g T.tree_F.kp T.tree_b .nil pass0 (pa_cons (pv 0) (pa_cons (pe_op op_sub (pv 1) pe_int) pa_nil))) pa_nil))))))))))), ?_⟩
      refine ⟨_, rfl, _, _, rfl, rfl, _, rfl, ?_⟩
      have dk : 3 ≤ drw k := by cases k with
        | zero => exact Nat.le_refl _
        | succ k => show 3 ≤ 2 * drw k + 4; omega
      refine two_next (G := fun b z H' => 0 ≤ z ∧ z < 10 ∧ (b = false → z < 5) ∧ Dr H' d c (m + 1) ∧ But d H H') (fun hb kk => ⟨_, rfl, d, c, 10, _, rfl, hd, by omega, by decide, by decide, fun z1 H1 z10 z11 d1 b1 => kk _ _ ⟨z10, z11, (fun e => nomatch e), d1, b1⟩⟩)
        (fun hb kk => ⟨_, rfl, d, c, 5, _, rfl, hd, by omega, by decide, by decide, fun z1 H1 z10 z11 d1 b1 => kk _ _ ⟨z10, by omega, fun _ => z11, d1, b1⟩⟩) ?_
      rintro z H1 ⟨z0, z10, z5, d1, b1⟩
      obtain ⟨j, rfl⟩ := Int.eq_ofNat_of_zero_le z0
      have jn : ∀ i : Nat, decide (V.int ((j : Nat) : Int) = V.int ((i : Nat) : Int)) = decide (j = i) := fun i => decide_eq_decide.mpr ⟨fun e => by
        have := V.int.inj e
        omega, fun e => by rw [e]⟩
      refine ⟨_, rfl, rfl, _, rfl, ?_⟩
      rw [show decide (V.int ((j : Nat) : Int) = V.int 0) = decide (j = 0) from jn 0]
      refine ite2 (fun h1 => ?_) (fun h1 => ?_)
      · refine ⟨_, rfl, d, c, 2, _, rfl, d1, by omega, by decide, by decide, fun z2 H2 z20 z21 d2 b2 => ⟨rfl, by show 2 ≤ sizeLine; decide, fun p hp => ?_⟩⟩
        refine q p _ _ (.all _ upd_same) (fun x hx => ?_) ?_ (Nat.zero_le _) ((b1.trans b2).new hp) ((d2.keep (same_new hp)).mono (by omega))
        · have : x = opT (if decide (V.int z2 = V.int 0) then wAlways else wNever) := by simpa [Tr.lvs] using hx
          rw [this]
          exact g5_all _
        · exact sz_pos k
      · have h1' : j ≠ 0 := of_decide_eq_false (Bool.eq_false_iff.mpr h1)
        refine ⟨_, rfl, _, _, rfl, rfl, _, rfl, ite2 (fun h2 => ?_) (fun h2 => ?_)⟩
        · have h2' := of_decide_eq_true h2
          refine ⟨by show 5 ≤ sizeLine; decide, fun L hL => ⟨by show 2 ≤ sizeLine; decide, fun A1 hA => ⟨_, rfl, _, _, rfl, rfl, ?_⟩⟩⟩
          obtain ⟨f, hf, hfm⟩ := at_S (ws := [wSystem, wMachine]) (v := ((j : Nat) : Int) - 1) (by omega) (by show _ < (2 : Int); omega)
          rw [sm_v, nm5_v]
          have dB : ∀ B1, (upd (upd H1 L (.lst (names5.map fun l => V.str (S l)))) A1 (.lst (([wSystem, wMachine] : List Txt).map fun l => V.str (S l)))) B1 = none → Dr (upd (upd (upd H1 L (.lst (names5.map fun l => V.str (S l)))) A1 (.lst (([wSystem, wMachine] : List Txt).map fun l => V.str (S l)))) B1 (.lst (([[61, 61], [33, 61]] : List Txt).map fun l => V.str (S l)))) d c (m + 1) := fun B1 hB => ((d1.keep (same_new hL)).keep (same_new hA)).keep (same_new hB)
          refine ⟨A1, _, _, _, rfl, rfl, SqL.of upd_same, hf, by show 2 ≤ sizeLine; decide, fun B1 hB => ?_⟩
          rw [two_v]
          refine ⟨_, rfl, d, c, 2, m + 1, rfl, dB B1 hB, by omega, by decide, by decide, fun z2 H2 z20 z21 d2 b2 => ?_⟩
          have hb2 := lst_but upd_same (dB B1 hB) b2
          have hl2 := lst_but (((same_new hA).trans (same_new hB)) L _ upd_same) (dB B1 hB) b2
          obtain ⟨sg, hs, hsm⟩ := at_S (ws := [[61, 61], [33, 61]]) z20 (by exact z21)
          refine ⟨B1, _, _, _, rfl, rfl, SqL.of hb2, hs, _, rfl, _, rfl, d, c, 5, m + 2, rfl, d2, by omega, by decide, by decide, fun z3 H3 z30 z31 d3 b3 => ?_⟩
          obtain ⟨vv, hv, hvm⟩ := at_S (ws := names5) z30 (by exact z31)
          refine ⟨L, _, _, _, rfl, rfl, SqL.of (lst_but hl2 d2 b3), hv, by show 4 ≤ sizeLine; decide, fun p hp => ?_⟩
          have hff : f ∈ fieldL := by
            simp only [List.mem_cons, List.not_mem_nil, or_false] at hfm
            rcases hfm with rfl | rfl <;> decide
          refine q p _ _ (.is (v := .inl vv) upd_same hff) (fun x hx => ?_) (sz_pos k) (Nat.zero_le _) ((((((b1.new hL).new hA).new hB).trans b2).trans b3).new hp) ((d3.keep (same_new hp)).mono (by omega))
          have : x = ⟨f, sg, .inl vv⟩ := by simpa [Tr.lvs] using hx
          rw [this]
          exact g5_word hfm hsm hvm
        · have h2' := of_decide_eq_false (Bool.eq_false_iff.mpr h2)
          refine ⟨_, rfl, _, _, rfl, rfl, _, rfl, ite2 (fun h3 => ?_) (fun h3 => ?_)⟩
          · have h3' := of_decide_eq_true h3
            refine ⟨by show 6 ≤ sizeLine; decide, fun L hL => ?_⟩
            rw [lvs_v]
            refine ⟨_, rfl, _, rfl, d, c, 6, m + 1, rfl, d1.keep (same_new hL), by omega, by decide, by decide, fun z2 H2 z20 z21 d2 b2 => ?_⟩
            have hl2 := lst_but upd_same (d1.keep (same_new hL)) b2
            obtain ⟨sg, hs, hsm⟩ := at_S (ws := lvSigns) z20 (by exact z21)
            refine ⟨L, _, _, _, rfl, rfl, SqL.of hl2, hs, by show 7 ≤ sizeLine; decide, fun B1 hB => ?_⟩
            rw [lv7_v]
            refine ⟨_, rfl, d, c, 7, m + 2, rfl, d2.keep (same_new hB), by omega, by decide, by decide, fun z3 H3 z30 z31 d3 b3 => ?_⟩
            obtain ⟨nn, hn, hnm⟩ := at_N (ws := lev7) z30 (by exact z31)
            refine ⟨B1, _, _, _, rfl, rfl, SqL.of (lst_but upd_same (d2.keep (same_new hB)) b3), hn, by show 4 ≤ sizeLine; decide, fun p hp => ?_⟩
            rw [lev_t]
            refine q p _ _ (.is (f := wLevel) (v := .inr nn) upd_same (by decide)) (fun x hx => ?_) (sz_pos k) (Nat.zero_le _) (((((b1.new hL).trans b2).new hB).trans b3).new hp) ((d3.keep (same_new hp)).mono (by omega))
            have : x = ⟨wLevel, sg, .inr nn⟩ := by simpa [Tr.lvs] using hx
            rw [this]
            exact g5_lev hsm hnm
          · have h3' := of_decide_eq_false (Bool.eq_false_iff.mpr h3)
            cases k with
            | zero => exact absurd (z5 (by decide)) (by omega)
            | succ k =>
            have ek : (((k + 1 : Nat) : Int) - 1) = ((k : Nat) : Int) := by omega
            have ed : drw (k + 1) = 2 * drw k + 4 := rfl
            have es : szb (k + 1) = 2 * szb k + 1 := rfl
            refine ⟨_, rfl, _, _, rfl, rfl, _, rfl, ite2 (fun h4 => ?_) (fun h4 => ?_)⟩
            · refine ⟨_, rfl, _, rfl, _, _, rfl, rfl, d, c, k, m + 1, congrArg (fun x => [V.ref d, V.int x]) ek, by omega, d1, by omega, fun p1 t1 H2 ht1 hg1 hz1 he1 b2 d2 => ⟨by show 2 ≤ sizeLine; decide, fun p hp => ?_⟩⟩
              refine q p (.no t1) _ (.no upd_same (ht1.keep (tk_same (same_new hp)))) hg1 (by show t1.sz + 1 ≤ _; omega) (by show t1.dep + 1 ≤ _; omega) ((b1.trans b2).new hp) ((d2.keep (same_new hp)).mono (by omega))
            · have h4' := of_decide_eq_false (Bool.eq_false_iff.mpr h4)
              refine ⟨by show 3 ≤ sizeLine; decide, fun L hL => ?_⟩
              rw [aor_v]
              refine ⟨_, rfl, _, _, rfl, rfl, ?_⟩
              obtain ⟨i, ei, him⟩ := at_S (ws := [wAnd, wOr, wOr]) (v := ((j : Nat) : Int) - 7) (by omega) (by show _ < (3 : Int); omega)
              refine ⟨L, _, _, _, rfl, rfl, SqL.of upd_same, ei, ?_⟩
              refine ⟨_, rfl, _, rfl, _, _, rfl, rfl, d, c, k, m + 1, congrArg (fun x => [V.ref d, V.int x]) ek, by omega, d1.keep (same_new hL), by omega, fun p1 t1 H2 ht1 hg1 hz1 he1 b2 d2 => ?_⟩
              refine ⟨_, rfl, _, rfl, _, _, rfl, rfl, d, c, k, m + 1 + drw k, congrArg (fun x => [V.ref d, V.int x]) ek, by omega, d2, by omega, fun p2 t2 H3 ht2 hg2 hz2 he2 b3 d3 => ⟨by show 3 ≤ sizeLine; decide, fun p hp => ?_⟩⟩
              obtain ⟨o, rfl⟩ : ∃ o, i = wOp o := by
                simp only [List.mem_cons, List.not_mem_nil, or_false] at him
                rcases him with rfl | rfl | rfl
                · exact ⟨true, rfl⟩
                · exact ⟨false, rfl⟩
                · exact ⟨false, rfl⟩
              refine q p (.bi o t1 t2) _ (.bi upd_same ((ht1.keep (tk_but d2 b3)).keep (tk_same (same_new hp))) (ht2.keep (tk_same (same_new hp)))) (fun x hx => ?_) (by show t1.sz + t2.sz + 1 ≤ _; omega) (by show max t1.dep t2.dep + 1 ≤ _; omega) ((((b1.new hL).trans b2).trans b3).new hp) ((d3.keep (same_new hp)).mono (by omega))
              rcases List.mem_append.mp hx with hx | hx
              · exact hg1 x hx
              · exact hg2 x hx
end

/-! ## Markers: the law's texts -/
section
variable {P : Program} {w : World} {K : PySem.W.Frag} {mg : Str → Option Value} {base : Heap} {D : Ad}
open TL SX
theorem wr_len : ∀ (t : Tr), (∀ x ∈ t.lvs, Shw x) → t.wr.length ≤ 330 * t.sz
  | .lf x, h => by
    have := (h x (by simp [Tr.lvs])).len
    show (txTm x).length ≤ 330 * 1
    omega
  | .no t, h => by
    have := wr_len t h
    have := inP_len t.bd 3 t.wr
    show (wNot ++ [32] ++ inP t.bd 3 t.wr).length ≤ 330 * (t.sz + 1)
    simp only [List.length_append, List.length_cons, List.length_nil, show wNot.length = 3 from rfl]
    omega
  | .bi a t u, h => by
    have := wr_len t (fun x hx => h x (by simp [Tr.lvs, hx]))
    have := wr_len u (fun x hx => h x (by simp [Tr.lvs, hx]))
    have := inP_len t.bd (bo a) t.wr
    have := inP_len u.bd (bo a) u.wr
    have hw : (wOp a).length ≤ 3 := by cases a <;> decide
    show (inP t.bd (bo a) t.wr ++ [32] ++ wOp a ++ [32] ++ inP u.bd (bo a) u.wr).length ≤ 330 * (t.sz + u.sz + 1)
    simp only [List.length_append, List.length_cons, List.length_nil]
    omega
theorem ao_v : ([.str "and", .str "or"] : List V) = ([wAnd, wOr] : List Txt).map fun l => V.str (S l) := by decide +kernel
theorem Tre.head {H : Hp} {p : Addr} {t : Tr} (h : Tre H p t) : ∃ xs s, H p = some (.tup (.str (S s) :: xs)) ∧ decide (s ∈ ([wAnd, wOr] : List Txt)) = decide (t.bd < 3) ∧ decide (s = wOr) = decide (t.bd < 2) := by
  cases h with
  | all b h => exact ⟨_, [97, 108, 108], h, (by decide : decide (([97, 108, 108] : Txt) ∈ ([wAnd, wOr] : List Txt)) = decide (4 < 3)), (by decide : decide (([97, 108, 108] : Txt) = wOr) = decide (4 < 2))⟩
  | is h hf => exact ⟨_, [105, 115], h, (by decide : decide (([105, 115] : Txt) ∈ ([wAnd, wOr] : List Txt)) = decide (4 < 3)), (by decide : decide (([105, 115] : Txt) = wOr) = decide (4 < 2))⟩
  | no h r => exact ⟨_, wNot, h, (by decide : decide (wNot ∈ ([wAnd, wOr] : List Txt)) = decide (3 < 3)), (by decide : decide (wNot = wOr) = decide (3 < 2))⟩
  | @bi _ _ _ a _ _ h x y =>
    refine ⟨_, wOp a, h, ?_, ?_⟩
    · exact (by decide : ∀ a, decide (wOp a ∈ ([wAnd, wOr] : List Txt)) = decide (bo a < 3)) a
    · exact (by decide : ∀ a, decide (wOp a = wOr) = decide (bo a < 2)) a
theorem notp_t : (("not (" : String) : Str) = S (wNot ++ [32, 40]) := by decide +kernel
def spWr : Nat → Sp := fun n vs H Q _ => ∃ (p : Addr) (t : Tr), vs = [.ref p] ∧ Tre H p t ∧ t.dep < n ∧ t.sz ≤ 1000 ∧ (∀ x ∈ t.lvs, Shw x) ∧ ∀ H', Same H H' → Q (.str (S t.wr)) H'
theorem ok_written (T : TexW w K mg D) : ∀ n, FnOk P w K mg base CX0 n D.a_written D.d_written P_written (spWr n) := by
  intro n
  induction n with
  | zero => exact ⟨fun _ _ _ _ ⟨_, _, _, _, h, _⟩ => absurd h (Nat.not_lt_zero _), fun _ _ _ _ _ _ _ _ _ _ _ _ _ ⟨_, _, _, _, h, _⟩ => absurd h (Nat.not_lt_zero _)⟩
  | succ n G_written =>
    refine T.written_F.ok S_written (fun vs H Q E h => ?_) (fun cdv A outer s H vs Q E hr h => ?_)
    · obtain ⟨p, t, rfl, _⟩ := h
      rfl
    · obtain ⟨p, t, rfl, ht, hd, hz, hs, q⟩ := h
      refine ⟨_, (pss_cons (ps_if (pt_cmpR op_eq (pe_ix ix_tup (pv 0) pe_int (fun _ _ => rfl)) pe_str (nomark _)) (pss_one (ps_ret (pe_ifExp (pt_val (pe_ix ix_tup (pv 0) pe_int (fun _ _ => rfl))) pe_str pe_str))) pss_nil)
      (pss_cons (ps_if (pt_cmpR op_eq (pe_ix ix_tup (pv 0) pe_int (fun _ _ => rfl)) pe_str (nomark _)) (pss_one (ps_ret (pe_op op_add_str (pe_op op_add_str (pe_op op_add_str (pe_op op_add_str (pe_ix ix_tup (pv 0) pe_int (fun _ _ => rfl)) pe_str) (pe_ix ix_tup (pv 0) pe_int (fun _ _ => rfl))) pe_str) (pe_callTy (callR_or SkE.call_str_str call_str_int) (by rfl) T.b_str (by decide +kernel) (pa_cons (pe_ix ix_tup (pv 0) pe_int (fun _ _ => rfl)) pa_nil))))) pss_nil)
      (pss_cons (ps_if (pt_cmpR op_eq (pe_ix ix_tup (pv 0) pe_int (fun _ _ => rfl)) pe_str (nomark _)) (pss_cons (ps_set (i := 1) S_written.nd rfl (Or.inl rfl) (pe_call G_written (hr.mono (by omega)) (by rfl) T.written_g T.written_F.kp T.written_b .nil pass0 (pa_cons (pe_ix ix_tup (pv 0) pe_int (fun _ _ => rfl)) pa_nil)))
      (pss_one (ps_ret (pe_ifExp (pt_cmpR op_in_seq (pe_ix ix_tup (pe_ix ix_tup (pv 0) pe_int (fun _ _ => rfl)) pe_int (fun _ _ => rfl)) (pe_tup (pa_cons pe_str (pa_cons pe_str pa_nil))) rfl) (pe_op op_add_str (pe_op op_add_str pe_str (pv 1)) pe_str) (pe_op op_add_str pe_str (pv 1)))))) pss_nil)
      (pss_cons (ps_set (i := 2) S_written.nd rfl (Or.inl rfl) (pe_lst pa_nil))
      (pss_cons (ps_for PassesOwn.never rfl (pi_tup (pe_slice sl_tupA (pv 0) (po_some pe_int) po_none)) (pg_name (i := 3) S_written.nd rfl (Or.inl rfl)) (pss_cons (ps_set (i := 1) S_written.nd rfl (Or.inl rfl) (pe_call G_written (hr.mono (by omega)) (by rfl) T.written_g T.written_F.kp T.written_b .nil pass0 (pa_cons (pv 3) pa_nil)))
      (pss_one (ps_expr (pe_bm PySem.F.plainAttrs_list PySem.F.slot_list_append PySem.F.type_list_append mt_append (pv 2) (pa_cons (pe_ifExp (PW.pt (pw_and (pt_cmpR op_eq (pe_ix ix_tup (pv 0) pe_int (fun _ _ => rfl)) pe_str (nomark _)) (pw_and1 (pt_cmpR op_eq (pe_ix ix_tup (pv 3) pe_int (fun _ _ => rfl)) pe_str (nomark _))))) (pe_op op_add_str (pe_op op_add_str pe_str (pv 1)) pe_str) (pv 1)) pa_nil))))))
      (pss_one (ps_ret (pe_op op_add_str (pe_op op_add_str (pe_op op_add_str (pe_op op_add_str (pe_ix ix_list (pv 2) pe_int (fun _ _ => rfl)) pe_str) (pe_ix ix_tup (pv 0) pe_int (fun _ _ => rfl))) pe_str) (pe_ix ix_list (pv 2) pe_int (fun _ _ => rfl)))))))))), ?_⟩
      have big : ∀ n : Nat, n ≤ 400000 → n ≤ sizeLine := fun n h => Nat.le_trans h (by decide)
      cases ht with
      | all b h =>
        refine ⟨_, rfl, p, _, _, _, rfl, rfl, sqT_of h, rfl, rfl, _, rfl, ?_⟩
        rw [show decide (V.str (("all" : String) : Str) = V.str (("all" : String) : Str)) = true by decide]
        refine iteT ⟨_, rfl, p, _, _, _, rfl, rfl, sqT_of h, rfl, _, rfl, ?_⟩
        cases b with
        | true =>
          have e : (("always" : String) : Str) = S (Tr.lf (opT wAlways)).wr := by decide +kernel
          refine iteT ?_
          have := q H (Same.refl H)
          rw [show (("always" : String) : Str) = S (Tr.lf (opT (if true = true then wAlways else wNever))).wr from e]
          exact this
        | false =>
          have e : (("never" : String) : Str) = S (Tr.lf (opT wNever)).wr := by decide +kernel
          refine iteF ?_
          have := q H (Same.refl H)
          rw [show (("never" : String) : Str) = S (Tr.lf (opT (if false = true then wAlways else wNever))).wr from e]
          exact this
      | @is _ f sg v h hf =>
        refine ⟨_, rfl, p, _, _, _, rfl, rfl, sqT_of h, rfl, rfl, _, rfl, ?_⟩
        rw [show decide (V.str (("is" : String) : Str) = V.str (("all" : String) : Str)) = false by decide +kernel]
        refine iteF ⟨_, rfl, p, _, _, _, rfl, rfl, sqT_of h, rfl, rfl, _, rfl, ?_⟩
        rw [show decide (V.str (("is" : String) : Str) = V.str (("is" : String) : Str)) = true by decide]
        obtain ⟨l1, l2, l3, l4⟩ := hs ⟨f, sg, v⟩ (by simp [Tr.lvs])
        change f.length ≤ 100 at l1
        change sg.length ≤ 100 at l2
        change (txV v).length ≤ 100 at l3
        refine iteT ⟨_, rfl, p, _, _, _, rfl, rfl, sqT_of h, rfl, ?_⟩
        have hf2 : Tr.wr (.lf ⟨f, sg, v⟩) = f ++ [32] ++ sg ++ [32] ++ txV v := if_pos hf
        rw [hf2] at q
        refine ⟨_, _, rfl, rfl, by rw [spc, S_len, S_len]; exact big _ (by simp; omega), ?_⟩
        rw [spc, S_cat]
        refine ⟨_, rfl, p, _, _, _, rfl, rfl, sqT_of h, rfl, _, _, rfl, rfl, by rw [S_len, S_len]; exact big _ (by simp; omega), ?_⟩
        rw [S_cat]
        refine ⟨_, _, rfl, rfl, by rw [S_len, S_len]; exact big _ (by simp; omega), ?_⟩
        rw [S_cat]
        refine ⟨_, rfl, p, _, _, _, rfl, rfl, sqT_of h, rfl, ?_⟩
        cases v with
        | inl l =>
          refine .inl ⟨_, rfl, _, _, rfl, rfl, by rw [S_len, S_len]; exact big _ (by simp [txV] at l3 ⊢; omega), ?_⟩
          rw [S_cat]
          exact q H (Same.refl H)
        | inr n =>
          have hn : n ≤ 1000 := l4 n rfl
          refine .inr ⟨_, rfl, log_num (by omega), ?_⟩
          rw [str_num]
          refine ⟨_, _, rfl, rfl, by rw [S_len, S_len]; exact big _ (by simp [txV] at l3 ⊢; omega), ?_⟩
          rw [S_cat]
          exact q H (Same.refl H)
      | @no _ p1 t1 h r =>
        refine ⟨_, rfl, p, _, _, _, rfl, rfl, sqT_of h, rfl, rfl, _, rfl, ?_⟩
        rw [show decide (V.str (("not" : String) : Str) = V.str (("all" : String) : Str)) = false by decide +kernel]
        refine iteF ⟨_, rfl, p, _, _, _, rfl, rfl, sqT_of h, rfl, rfl, _, rfl, ?_⟩
        rw [show decide (V.str (("not" : String) : Str) = V.str (("is" : String) : Str)) = false by decide +kernel]
        refine iteF ⟨_, rfl, p, _, _, _, rfl, rfl, sqT_of h, rfl, rfl, _, rfl, ?_⟩
        rw [show decide (V.str (("not" : String) : Str) = V.str (("not" : String) : Str)) = true by decide]
        have hd1 : t1.dep + 1 < n + 1 := hd
        have hz1 : t1.sz + 1 ≤ 1000 := hz
        have wl := wr_len t1 hs
        refine iteT ⟨_, rfl, p, _, _, _, rfl, rfl, sqT_of h, rfl, p1, t1, rfl, r, by omega, by omega, hs, fun H1 s1 => ?_⟩
        obtain ⟨xs, hw, hx, ha, _⟩ := r.head
        have hx1 := s1 _ _ hx
        have h1 := s1 _ _ h
        refine ⟨_, rfl, p, _, _, _, rfl, rfl, sqT_of h1, rfl, p1, _, _, _, rfl, rfl, sqT_of hx1, (show atI (V.str (S hw) :: xs) ((0 : Nat) : Int) = some (V.str (S hw)) from atI_nat rfl), by show 2 ≤ sizeLine; decide, fun r2 hr2 => ⟨r2, _, rfl, .inr (sqT_of upd_same), rfl, rfl, _, rfl, ?_⟩⟩
        have s2 := same_new (o := .tup (([wAnd, wOr] : List Txt).map fun l => V.str (S l))) hr2
        rw [ao_v, if_neg (by decide : ¬ (false = true)), inV_S, ha]
        have q' := q _ (s1.trans s2)
        have ew : Tr.wr (.no t1) = wNot ++ [32] ++ inP t1.bd 3 t1.wr := rfl
        rw [ew] at q'
        unfold inP at q'
        refine ite2 (fun h4 => ?_) (fun h4 => ?_)
        · rw [if_pos (of_decide_eq_true h4)] at q'
          refine ⟨_, rfl, _, _, rfl, rfl, by rw [notp_t, S_len, S_len]; exact big _ (by simp [wNot]; omega), ?_⟩
          rw [notp_t, S_cat]
          refine ⟨_, _, rfl, rfl, by rw [clo_t, S_len, S_len]; exact big _ (by simp [wNot]; omega), ?_⟩
          rw [clo_t, S_cat]
          have e : wNot ++ [32, 40] ++ t1.wr ++ [41] = wNot ++ [32] ++ ([40] ++ t1.wr ++ [41]) := by simp
          rw [e]
          exact q'
        · rw [if_neg (of_decide_eq_false (Bool.eq_false_iff.mpr h4))] at q'
          refine ⟨_, rfl, _, _, rfl, rfl, by rw [nots_t, S_len, S_len]; exact big _ (by simp [wNot]; omega), ?_⟩
          rw [nots_t, S_cat]
          exact q'
      | @bi _ p1 p2 a t1 t2 h x y =>
        have n1 : ∀ (a : Bool) (k : String), k ∈ ["all", "is", "not"] → decide (V.str (S (wOp a)) = V.str (Str.ofString k)) = false := by decide +kernel
        refine ⟨_, rfl, p, _, _, _, rfl, rfl, sqT_of h, rfl, rfl, _, rfl, ?_⟩
        rw [show decide (V.str (S (wOp a)) = V.str (("all" : String) : Str)) = false from n1 a "all" (by simp)]
        refine iteF ⟨_, rfl, p, _, _, _, rfl, rfl, sqT_of h, rfl, rfl, _, rfl, ?_⟩
        rw [show decide (V.str (S (wOp a)) = V.str (("is" : String) : Str)) = false from n1 a "is" (by simp)]
        refine iteF ⟨_, rfl, p, _, _, _, rfl, rfl, sqT_of h, rfl, rfl, _, rfl, ?_⟩
        rw [show decide (V.str (S (wOp a)) = V.str (("not" : String) : Str)) = false from n1 a "not" (by simp)]
        refine iteF ⟨by show 0 ≤ sizeLine; decide, fun c hc => ?_⟩
        have h1 := (same_new (o := .lst []) hc) _ _ h
        refine ⟨_, rfl, _, rfl, p, _, rfl, sqT_of h1, fun e => absurd e.1 (by show ¬ HT.sIx 3 0 (some 1) = 0; decide +kernel), fun _ v hv => ?_⟩
        have ec : cutV [V.str (S (wOp a)), .ref p1, .ref p2] (some 1) none = [V.ref p1, .ref p2] := rfl
        rw [ec]
        have hd1 : max t1.dep t2.dep + 1 < n + 1 := hd
        have hz1 : t1.sz + t2.sz + 1 ≤ 1000 := hz
        have hs1 : ∀ x ∈ t1.lvs, Shw x := fun x hx => hs x (by simp [Tr.lvs, hx])
        have hs2 : ∀ x ∈ t2.lvs, Shw x := fun x hx => hs x (by simp [Tr.lvs, hx])
        have sv : Same H (upd (upd H c (.lst [])) v (.tup [V.ref p1, .ref p2])) := (same_new hc).trans (same_new hv)
        have hcv := (same_new (o := .tup [V.ref p1, .ref p2]) hv) c _ upd_same
        have hvv : (upd (upd H c (.lst [])) v (.tup [V.ref p1, .ref p2])) v = some (.tup [V.ref p1, .ref p2]) := upd_same
        revert sv hcv hvv
        generalize upd (upd H c (.lst [])) v (.tup [V.ref p1, .ref p2]) = H2
        intro sv hcv hvv
        refine ⟨v, rfl, ⟨_, sqT_of hvv⟩, for_tup (K := K) (a := v) (xs := [V.ref p1, .ref p2]) (fun i σ H' => ∃ o1 o3, σ = [some (.ref p), o1, some (.ref c), o3] ∧ Same H H' ∧ H' v = some (.tup [V.ref p1, .ref p2]) ∧ H' c = some (.lst ((vT [inP t1.bd (bo a) t1.wr, inP t2.bd (bo a) t2.wr]).take i))) ⟨_, _, rfl, sv, hvv, hcv⟩ (fun i σ H' _ h => by
          obtain ⟨_, _, _, _, h3, _⟩ := h
          exact sqT_of h3) ?_ ?_⟩
        · rintro i xv σ H3 hi ⟨o1, o3, rfl, s3, hv3, hc3⟩
          obtain ⟨pt, tt, rfl, htt, hdt, hzt, hst, hix⟩ : ∃ (pt : Addr) (tt : Tr), xv = V.ref pt ∧ Tre H pt tt ∧ tt.dep < n ∧ tt.sz ≤ 1000 ∧ (∀ x ∈ tt.lvs, Shw x) ∧ (vT [inP t1.bd (bo a) t1.wr, inP t2.bd (bo a) t2.wr])[i]? = some (V.str (S (inP tt.bd (bo a) tt.wr))) := by
            match i, hi with
            | 0, hi => exact ⟨p1, t1, (Option.some.inj hi).symm, x, by omega, by omega, hs1, rfl⟩
            | 1, hi => exact ⟨p2, t2, (Option.some.inj hi).symm, y, by omega, by omega, hs2, rfl⟩
            | i + 2, hi => simp at hi
          have wl := wr_len tt hst
          obtain ⟨xs, hw, hx, _, hb⟩ := htt.head
          refine ⟨_, rfl, pt, tt, rfl, htt.keep (tk_same s3), hdt, hzt, hst, fun H4 s4 => ?_⟩
          have hc4 := s4 _ _ hc3
          have hv4 := s4 _ _ hv3
          have s5 := s3.trans s4
          have fin : ∀ z : Txt, z = inP tt.bd (bo a) tt.wr → ∃ (l : Addr) (ys : List V) (y : V), V.ref c = .ref l ∧ [V.str (S z)] = [y] ∧ H4 l = some (.lst ys) ∧ ys.length < sizeLine ∧
              (∃ o1 o3, [some (V.ref p), some (.str (S tt.wr)), some (.ref c), some (.ref pt)] = [some (V.ref p), o1, some (.ref c), o3] ∧ Same H (upd H4 l (.lst (ys ++ [y]))) ∧ (upd H4 l (.lst (ys ++ [y]))) v = some (.tup [V.ref p1, .ref p2]) ∧ (upd H4 l (.lst (ys ++ [y]))) c = some (.lst ((vT [inP t1.bd (bo a) t1.wr, inP t2.bd (bo a) t2.wr]).take (i + 1)))) := by
            rintro z rfl
            refine ⟨c, _, _, rfl, rfl, hc4, ?_, _, _, rfl, same_upd s5 hc, ?_, ?_⟩
            · refine Nat.lt_of_le_of_lt (List.length_take_le' _ _) (by show 2 < sizeLine; decide)
            · rw [upd_ne (fun e => by rw [e, hc4] at hv4; cases hv4)]
              exact hv4
            · rw [one_more hix]
              exact upd_same
          refine ⟨_, rfl, .inl ⟨rfl, _, SqL.of hc4⟩, _, rfl, p, _, _, _, rfl, rfl, sqT_of (s5 _ _ h), rfl, rfl, _, rfl, ?_⟩
          rw [and_t, eq_S]
          cases a with
          | false =>
            rw [show decide (wOp false = wAnd) = false by decide]
            refine iteF ⟨_, rfl, fin tt.wr ?_⟩
            have : ¬ tt.bd < 1 := by
              cases tt with
              | lf _ => exact (by decide : ¬ 4 < 1)
              | no _ => exact (by decide : ¬ 3 < 1)
              | bi o _ _ => exact (by decide : ∀ o, ¬ bo o < 1) o
            exact (if_neg this).symm
          | true =>
            rw [show decide (wOp true = wAnd) = true by decide]
            refine iteT ⟨_, rfl, pt, _, _, _, rfl, rfl, sqT_of (s5 _ _ hx), (show atI (V.str (S hw) :: xs) ((0 : Nat) : Int) = some (V.str (S hw)) from atI_nat rfl), rfl, _, rfl, ?_⟩
            rw [or_t, eq_S, hb]
            refine ite2 (fun h6 => ?_) (fun h6 => ?_)
            · have e1 : inP tt.bd (bo true) tt.wr = [40] ++ tt.wr ++ [41] := if_pos (of_decide_eq_true h6)
              refine ⟨_, rfl, _, _, rfl, rfl, by rw [opar_t, S_len, S_len]; exact big _ (by simp; omega), ?_⟩
              rw [opar_t, S_cat]
              refine ⟨_, _, rfl, rfl, by rw [clo_t, S_len, S_len]; exact big _ (by simp; omega), ?_⟩
              rw [clo_t, S_cat]
              exact fin _ e1.symm
            · exact ⟨_, rfl, fin tt.wr (if_neg (of_decide_eq_false (Bool.eq_false_iff.mpr h6))).symm⟩
        · rintro σ H3 ⟨o1, o3, rfl, s3, hv3, hc3⟩
          have hc3' : H3 c = some (.lst [V.str (S (inP t1.bd (bo a) t1.wr)), .str (S (inP t2.bd (bo a) t2.wr))]) := hc3
          have l1 := wr_len t1 hs1
          have l2 := wr_len t2 hs2
          have i1 := inP_len t1.bd (bo a) t1.wr
          have i2 := inP_len t2.bd (bo a) t2.wr
          have hwl : (wOp a).length ≤ 3 := by cases a <;> decide
          refine ⟨_, rfl, c, _, _, _, rfl, rfl, SqL.of hc3', rfl, _, _, rfl, rfl, by rw [spc, S_len, S_len]; exact big _ (by simp; omega), ?_⟩
          rw [spc, S_cat]
          refine ⟨_, rfl, p, _, _, _, rfl, rfl, sqT_of (s3 _ _ h), rfl, _, _, rfl, rfl, by rw [S_len, S_len]; exact big _ (by simp; omega), ?_⟩
          rw [S_cat]
          refine ⟨_, _, rfl, rfl, by rw [S_len, S_len]; exact big _ (by simp; omega), ?_⟩
          rw [S_cat]
          refine ⟨_, rfl, c, _, _, _, rfl, rfl, SqL.of hc3', rfl, _, _, rfl, rfl, by rw [S_len, S_len]; exact big _ (by simp; omega), ?_⟩
          rw [S_cat]
          exact q H3 s3
end

/-! ## Markers: the law's pieces -/
section
variable {P : Program} {w : World} {K : PySem.W.Frag} {mg : Str → Option Value} {base : Heap} {D : Ad}
open TL SX
theorem seq_mid {a rest : TS} {D : Ends} {σ : L2.St} {H : Hp} (M : L2.St → Hp → Prop) (hr : ∀ σ' H', M σ' H' → rest D σ' H') (h : ∀ N : L2.St → Hp → Prop, (∀ σ' H', M σ' H' → N σ' H') → a { D with nx := N } σ H) : tSeq a rest D σ H := h (rest D) hr
theorem nx_to {a : L2.St → Hp → Prop} {b : VK} {c d : L2.St → Hp → Prop} {σ : L2.St} {H : Hp} (h : a σ H) : (Ends.mk a b c d).nx σ H := h
theorem par_tok (ts : List Tm) : (opT [40] :: (ts ++ [opT [41]])).flatMap tkT = [40] :: (ts.flatMap tkT ++ [[41]]) := by
  rw [List.flatMap_cons, List.flatMap_append, (word_tk (x := [40]) (by decide)).2]
  simp only [List.flatMap_cons, List.flatMap_nil, (word_tk (x := [41]) (by decide)).2, List.append_nil]
  rfl
theorem par_v (T : List Txt) : [V.str (("(" : String) : Str)] ++ vT T ++ [V.str ((")" : String) : Str)] = vT ([40] :: (T ++ [[41]])) := by
  rw [opar_t, clo_t]
  simp [vT]
theorem bd_le (t : Tr) : t.bd ≤ 4 := by
  cases t with
  | lf _ => exact Nat.le_refl 4
  | no _ => exact (by decide : 3 ≤ 4)
  | bi a _ _ => exact (by decide : ∀ a, bo a ≤ 4) a
/-- the list at L holds a tree's tokens -/
def Pt (H : Hp) (L : Addr) (t : Tr) (e : Nat) : Prop := ∃ ts b, Pcs t b ts ∧ t.bd ≤ b ∧ (ts.flatMap tkT).length + e ≤ 7 * t.sz ∧ H L = some (.lst (vT (ts.flatMap tkT)))
theorem Pt.but {H H' : Hp} {L d c n : Addr} {t : Tr} {e : Nat} (h : Pt H L t e) (hd : Dr H d c n) (b : But d H H') : Pt H' L t e :=
  let ⟨ts, k, x, y, z, q⟩ := h; ⟨ts, k, x, y, z, lst_but q hd b⟩
theorem Pt.keep {H H' : Hp} {L : Addr} {t : Tr} {e : Nat} (h : Pt H L t e) (s : Same H H') : Pt H' L t e :=
  let ⟨ts, k, x, y, z, q⟩ := h; ⟨ts, k, x, y, z, s _ _ q⟩
/-- the same, as tight as asked, perhaps in brackets -/
def Pq (H : Hp) (L : Addr) (t : Tr) (k : Nat) : Prop := ∃ ts b, Pcs t b ts ∧ k ≤ b ∧ (ts.flatMap tkT).length ≤ 7 * t.sz + 2 ∧ H L = some (.lst (vT (ts.flatMap tkT)))
theorem Pq.keep {H H' : Hp} {L : Addr} {t : Tr} {e : Nat} (h : Pq H L t e) (s : Same H H') : Pq H' L t e :=
  let ⟨ts, k, x, y, z, q⟩ := h; ⟨ts, k, x, y, z, s _ _ q⟩
def spPc : Nat → Sp := fun n vs H Q _ => ∃ (d p c m : Nat) (t : Tr), vs = [.ref d, .ref p] ∧ Tre H p t ∧ t.dep < n ∧ t.sz ≤ 1000 ∧ (∀ x ∈ t.lvs, GT x) ∧ Dr H d c m ∧ m + t.sz ≤ 90000000000 ∧
  ∀ L H', Pt H' L t 0 → But d H H' → Dr H' d c (m + t.sz) → Q (.ref L) H'
end

/-! ## Markers: tokens laid loosely -/
section
open TL SX PySem.Spec PyProof.Rows
def rMulS3 : R2 := fun x y H Q => ∃ (l : List Nat) (n : Nat), x = .str (S l) ∧ y = .int (n : Int) ∧ l ≠ [] ∧ l.length * n ≤ 100000 ∧ Q (.str (S (List.replicate n l).flatten)) H
theorem op_mulS3 {X : Cx} : OpR X (binaryOp .Mult) rMulS3 := by
  intro pins s σ H x y v u Q I rx ry h
  obtain ⟨l, n, rfl, rfl, hne, hz, q⟩ := h
  match n, hz, ry, q with
  | 0, _, ry, q =>
    obtain ⟨t, rfl⟩ := rx
    obtain ⟨t', rfl⟩ := ry
    exact PySem.P.mul_str_none (by decide) (by decide) ⟨.str (S []), H, I.tok _, ⟨_, rfl⟩, q⟩
  | 1, hz, ry, q =>
    obtain ⟨t, rfl⟩ := rx
    obtain ⟨t', rfl⟩ := ry
    refine PySem.P.mul_str (x := S l) (n := ((1 : Nat) : Int)) (by decide) (fun _ e => absurd e (by simp)) (fun _ e => absurd e (by simp)) ?_
    rw [if_neg (by decide), if_pos (by simp)]
    have e : (List.replicate 1 l).flatten = l := by simp
    rw [e] at q
    exact ⟨.str (S l), H, I, ⟨t, rfl⟩, q⟩
  | n + 2, hz, ry, q => exact op_mulS pins s σ H _ _ v u Q I rx ry ⟨l, n + 2, rfl, rfl, hne, by omega, hz, q⟩
theorem reps (n : Nat) : (List.replicate n ([32] : List Nat)).flatten = List.replicate n 32 := by
  induction n with
  | zero => rfl
  | succ n ih => rw [List.replicate_succ, List.flatten_cons, ih]; rfl
end
section
variable {P : Program} {w : World} {K : PySem.W.Frag} {mg : Str → Option Value} {base : Heap} {D : Ad}
open TL SX
theorem brk_t : (("()<>=!" : String) : Str).cps.toList = [40, 41, 60, 62, 61, 33] := by decide +kernel
theorem brks_t : ((" ()<>=!" : String) : Str).cps.toList = [32, 40, 41, 60, 62, 61, 33] := by decide +kernel
theorem lay_snoc (ps : List (Nat × Txt)) (g : Nat) (x : Txt) : lay (ps ++ [(g, x)]) = lay ps ++ List.replicate g 32 ++ x := by simp [lay]
theorem lo_ne {ps : List (Nat × Txt)} (h : Lo ps) : ∃ qs g x, ps = qs ++ [(g, x)] := by
  cases h with
  | one => exact ⟨[], 0, _, rfl⟩
  | snoc h k => exact ⟨_, _, _, rfl⟩
def spLo : Sp := fun vs H Q _ => ∃ (d l c m : Nat) (T : List Txt), vs = [.ref d, .ref l] ∧ H l = some (.lst (vT T)) ∧ T ≠ [] ∧ T.length ≤ 7000 ∧ (∀ x ∈ T, TokOk x ∧ x.length ≤ 100) ∧ Dr H d c m ∧ m + T.length ≤ 90000000000 ∧
  ∀ ps H', Lo ps → ps.map (·.2) = T → (lay ps).length ≤ 110 * T.length → But d H H' → Dr H' d c (m + T.length) → Q (.str (S (lay ps))) H'
end

/-! ## Markers: the plain texts are laid out, too -/
section
open TL SX
def shG (g : Nat) : List (Nat × Txt) → List (Nat × Txt)
  | [] => []
  | (_, w) :: r => (g, w) :: r
theorem shG_app {g : Nat} : ∀ {A B : List (Nat × Txt)}, A ≠ [] → shG g (A ++ B) = shG g A ++ B
  | [], _, h => absurd rfl h
  | (_, _) :: _, _, _ => rfl
theorem shG_snd (g : Nat) : ∀ A : List (Nat × Txt), (shG g A).map (·.2) = A.map (·.2)
  | [] => rfl
  | (_, _) :: _ => rfl
theorem lay_shG {g : Nat} {A : List (Nat × Txt)} (h : Lo A) : lay (shG g A) = List.replicate g 32 ++ lay A := by
  obtain ⟨w, qs, rfl⟩ := lo_zero h
  simp [shG, lay]
theorem lay_app (A B : List (Nat × Txt)) : lay (A ++ B) = lay A ++ lay B := by simp [lay]
theorem Lo.app {A B : List (Nat × Txt)} {g : Nat} (a : Lo A) (b : Lo B) (k : g = 0 → ∀ w w', (A.map (·.2)).getLast? = some w → (B.map (·.2)).head? = some w' → Gap w w') : Lo (A ++ shG g B) := by
  induction b with
  | @one w =>
    obtain ⟨qs, g0, x, rfl⟩ := lo_ne a
    exact .snoc a (fun e => k e x w (by simp) rfl)
  | @snoc ps g1 g2 w1 w2 h k2 ih =>
    have k' : g = 0 → ∀ w w', (A.map (·.2)).getLast? = some w → ((ps ++ [(g1, w1)]).map (·.2)).head? = some w' → Gap w w' := fun e w w' h1 h2 => k e w w' h1 (by
      rw [List.map_append, List.head?_append, h2]
      rfl)
    have i := ih k'
    rw [shG_app (by simp), ← List.append_assoc]
    cases ps with
    | nil => exact .snoc (ps := A) i k2
    | cons p ps =>
      have e : A ++ shG g (p :: ps ++ [(g1, w1)]) = (A ++ shG g (p :: ps)) ++ [(g1, w1)] := by
        rw [shG_app (by simp), List.append_assoc]
      rw [e] at i ⊢
      exact .snoc i k2
theorem one_lay (w : Txt) : lay [(0, w)] = w := by simp [lay]
/-- brackets around what is laid out -/
theorem par_lo {ps : List (Nat × Txt)} (h : Lo ps) : ∃ qs, Lo qs ∧ lay qs = [40] ++ lay ps ++ [41] ∧ qs.map (·.2) = [40] :: (ps.map (·.2) ++ [[41]]) := by
  have h1 : Lo ([(0, [40])] ++ shG 0 ps) := Lo.app .one h (fun _ w w' e _ => .inl ⟨40, by
    have : [40] = w := by simpa using e
    rw [← this]; rfl, by decide⟩)
  have h2 : Lo ([(0, [40])] ++ shG 0 ps ++ shG 0 [(0, [41])]) := Lo.app h1 .one (fun _ w w' _ e => .inr ⟨41, by
    have : [41] = w' := by simpa using e
    rw [← this]; rfl, by decide⟩)
  refine ⟨_, h2, ?_, ?_⟩
  · rw [lay_app, lay_app, lay_shG h, lay_shG .one, one_lay, one_lay]
    simp
  · rw [List.map_append, List.map_append, shG_snd, shG_snd]
    rfl
theorem wr_lo : ∀ (t : Tr), (∀ x ∈ t.lvs, GT x) → ∃ ps ts b, Lo ps ∧ lay ps = t.wr ∧ Pcs t b ts ∧ t.bd ≤ b ∧ ps.map (·.2) = ts.flatMap tkT := by
  have wrap : ∀ (t : Tr) (k : Nat), k ≤ 4 → (∃ ps ts b, Lo ps ∧ lay ps = t.wr ∧ Pcs t b ts ∧ t.bd ≤ b ∧ ps.map (·.2) = ts.flatMap tkT) → ∃ ps ts b, Lo ps ∧ lay ps = inP t.bd k t.wr ∧ Pcs t b ts ∧ k ≤ b ∧ ps.map (·.2) = ts.flatMap tkT := by
    rintro t k hk ⟨ps, ts, b, h1, h2, h3, h4, h5⟩
    by_cases hb : t.bd < k
    · obtain ⟨qs, q1, q2, q3⟩ := par_lo h1
      exact ⟨qs, _, 4, q1, by rw [q2, h2]; exact (if_pos hb).symm, .par h3, hk, by rw [q3, h5, par_tok]⟩
    · exact ⟨ps, ts, b, h1, by rw [h2]; exact (if_neg hb).symm, h3, by omega, h5⟩
  intro t
  induction t with
  | lf x =>
    intro g
    have gt := g x (by simp [Tr.lvs])
    by_cases hf : x.w ∈ fieldL
    · have l1 : Lo ([(0, x.w)] ++ [(1, x.s)]) := .snoc (ps := []) .one (fun e => absurd e (by decide))
      have l2 : Lo ([(0, x.w)] ++ [(1, x.s)] ++ [(1, txV x.v)]) := .snoc l1 (fun e => absurd e (by decide))
      refine ⟨_, [x], 4, l2, ?_, .lf gt.op, Nat.le_refl _, ?_⟩
      · show _ = txTm x
        unfold txTm
        rw [if_pos hf]
        simp [lay]
      · have : tkT x = [x.w, x.s, txV x.v] := if_pos hf
        simp [this]
    · refine ⟨_, [x], 4, .one (w := x.w), ?_, .lf gt.op, Nat.le_refl _, ?_⟩
      · show _ = txTm x
        unfold txTm
        rw [if_neg hf, one_lay]
      · have : tkT x = [x.w] := if_neg hf
        simp [this]
  | no t ih =>
    intro g
    obtain ⟨ps, ts, b, h1, h2, h3, h4, h5⟩ := wrap t 3 (by decide) (ih g)
    refine ⟨[(0, wNot)] ++ shG 1 ps, opT wNot :: ts, 3, Lo.app .one h1 (fun e => absurd e (by decide)), ?_, .no h3 h4, Nat.le_refl _, ?_⟩
    · rw [lay_app, lay_shG h1, one_lay, h2]
      show _ = wNot ++ [32] ++ inP t.bd 3 t.wr
      simp
    · rw [List.map_append, shG_snd, h5, List.flatMap_cons, (word_tk (x := wNot) (by decide)).2]
      rfl
  | bi a t u ih ik =>
    intro g
    have h4a : bo a ≤ 4 := (by decide : ∀ a, bo a ≤ 4) a
    obtain ⟨ps, ts, b, h1, h2, h3, h4, h5⟩ := wrap t (bo a) h4a (ih fun x hx => g x (by simp [Tr.lvs, hx]))
    obtain ⟨qs, us, c, k1, k2, k3, k4, k5⟩ := wrap u (bo a) h4a (ik fun x hx => g x (by simp [Tr.lvs, hx]))
    have l1 : Lo (ps ++ shG 1 [(0, wOp a)]) := Lo.app h1 .one (fun e => absurd e (by decide))
    refine ⟨ps ++ shG 1 [(0, wOp a)] ++ shG 1 qs, ts ++ opT (wOp a) :: us, bo a, Lo.app l1 k1 (fun e => absurd e (by decide)), ?_, .bi h3 k3 h4 k4, Nat.le_refl _, ?_⟩
    · rw [lay_app, lay_app, lay_shG k1, lay_shG .one, one_lay, h2, k2]
      show _ = inP t.bd (bo a) t.wr ++ [32] ++ wOp a ++ [32] ++ inP u.bd (bo a) u.wr
      simp
    · rw [List.map_append, List.map_append, shG_snd, shG_snd, h5, k5, List.flatMap_append, List.flatMap_cons, (word_tk (op_mem a)).2]
      simp
theorem pfx_shw : ∀ (t : Tr), (∀ x ∈ t.lvs, Shw x) → ∀ x ∈ t.pfx, Shw x := by
  have op : ∀ x ∈ ([[40], [41], wNot, wAnd, wOr] : List Txt), Shw (opT x) := by
    intro x hx
    simp only [List.mem_cons, List.not_mem_nil, or_false] at hx
    rcases hx with rfl | rfl | rfl | rfl | rfl <;> exact ⟨by decide, by decide, by decide, fun n e => by cases e⟩
  intro t
  induction t with
  | lf x => exact fun h => h
  | no t ih =>
    intro h x hx
    rcases List.mem_append.mp (show x ∈ t.pfx ++ [opT wNot] from hx) with hx | hx
    · exact ih h x hx
    · rw [List.mem_singleton.mp hx]
      exact op _ (by decide)
  | bi a t u ih ik =>
    intro h x hx
    rcases List.mem_append.mp (show x ∈ t.pfx ++ u.pfx ++ [opT (wOp a)] from hx) with hx | hx
    · rcases List.mem_append.mp hx with hx | hx
      · exact ih (fun y hy => h y (by simp [Tr.lvs, hy])) x hx
      · exact ik (fun y hy => h y (by simp [Tr.lvs, hy])) x hx
    · rw [List.mem_singleton.mp hx]
      exact op _ (op_mem a)
/-- what a marker read from t's text holds: steps of a tree that is the same as t -/
def Like (t : Tr) (us : List Tm) : Prop := ∃ u, Eqv u t ∧ us = u.pfx
theorem Like.str {t : Tr} {us : List Tm} (h : Like t us) (g : ∀ x ∈ t.lvs, GT x) : us.length = t.sz ∧ us ≠ [] ∧ (∀ x ∈ us, Shw x) ∧ txR [] us = some [(t.wr, t.bd)] := by
  obtain ⟨u, e, rfl⟩ := h
  have gl : ∀ x ∈ u.lvs, GT x := fun x hx => g x (by rw [← e.lvs]; exact hx)
  have hl : u.pfx.length = t.sz := by rw [pfx_sz, e.sz]
  refine ⟨hl, fun q => ?_, pfx_shw u (fun x hx => (gl x hx).sh), ?_⟩
  · rw [q] at hl
    cases t <;> simp [Tr.sz] at hl
  · rw [txR_pfx u (fun x hx => (gl x hx).op), e.wr, e.bd]
theorem Like.no {t : Tr} {us : List Tm} (h : Like t us) : Like (.no t) (us ++ [opT wNot]) := by
  obtain ⟨u, e, rfl⟩ := h
  exact ⟨.no u, e.no, rfl⟩
theorem Like.bi {a : Bool} {t t' : Tr} {us ws : List Tm} (h : Like t us) (k : Like t' ws) : Like (.bi a t t') (us ++ ws ++ [opT (wOp a)]) := by
  obtain ⟨u, e, rfl⟩ := h
  obtain ⟨v, f, rfl⟩ := k
  exact ⟨.bi a u v, e.bi f, rfl⟩
theorem read_like {t : Tr} {b : Nat} {ts : List Tm} {ps : List (Nat × Txt)} (h : Pcs t b ts) (g : ∀ x ∈ t.lvs, GT x) (hl : Lo ps) (e : ps.map (·.2) = ts.flatMap tkT) : ∃ us, readF (lay ps) = some us ∧ Like t us := by
  obtain ⟨u, q, r⟩ := read_lo h g hl e
  exact ⟨_, r, u, q, rfl⟩
theorem read_wr {t : Tr} (g : ∀ x ∈ t.lvs, GT x) : ∃ us, readF t.wr = some us ∧ Like t us := by
  obtain ⟨ps, ts, b, h1, h2, h3, h4, h5⟩ := wr_lo t g
  obtain ⟨us, r, l⟩ := read_like h3 g h1 h5
  rw [h2] at r
  exact ⟨us, r, l⟩
end

/-! ## Markers: the law's bout -/
section
variable {P : Program} {w : World} {K : PySem.W.Frag} {mg : Str → Option Value} {base : Heap} {D : Ad}
open TL SX
theorem ok_Marker_initX (T : TexW w K mg D) : FnOk P w K mg base (L2.CX P w) 8 D.a_Marker_init D.d_Marker_init P_Marker_init (spMInit K D.a_Marker) := by
  have G_expression_in : FnOk P w K mg base CX0 6 D.a_expression_in D.d_expression_in P_expression_in (spExpIn K) := ok_expression_in T
  have G_BadMarker_init : FnOk P w K mg base CX0 1 D.a_BadMarker_init D.d_BadMarker_init P_BadMarker_init (fun _ _ _ _ => False) := ⟨fun _ _ _ _ h => h.elim, fun _ _ _ _ _ _ _ _ _ _ _ _ _ h => h.elim⟩
  refine T.Marker_init_F.ok S_Marker_init (fun vs H Q E h => ?_) (fun cdv A outer s H vs Q E hr h => ?_)
  · obtain ⟨x, dx, l, us, rfl, _⟩ := h
    rfl
  · obtain ⟨x, dx, l, us, rfl, hx, hl, hu, q⟩ := h
    refine ⟨_, (pss_cons (ps_set (i := 2) S_Marker_init.nd rfl (Or.inl rfl) (pe_call G_expression_in (hr.mono (by decide)) (by rfl) T.expression_in_g T.expression_in_F.kp T.expression_in_b .nil pass0 (pa_cons (pv 1) pa_nil)))
      (pss_cons (ps_if (pt_cmpR op_isN (pv 2) pe_non (nomark _)) (pss_one ps_never) pss_nil)
      (pss_one (ps_fld (pv 0) (pv 2) rfl)))), ?_⟩
    refine ⟨_, rfl, l, rfl, hl, fun e => (by rw [hu] at e; cases e), fun us' qs p H1 e hp s1 h1p hrow => ?_⟩
    rw [hu] at e
    cases e
    refine ⟨_, rfl, rfl, _, rfl, iteF ?_⟩
    exact ⟨_, rfl, _, rfl, x, _, dx, [], rfl, s1 _ _ hx, T.Marker_cl, T.Marker_n_steps, by decide, q H1 p qs s1 h1p hrow⟩
/-- what is made: a new marker -/
theorem mkr_new {C x dx p : Addr} {H H1 : Hp} {qs : List Addr} {us : List Tm} (hx : H x = none) (hd : H dx = none) (s : Same (upd (upd H dx (.own x)) x (.ins C dx [])) H1) (hp : H1 p = some (.tup (qs.map V.ref))) (hr : Row K H1 qs us) :
    Same H (upd H1 x (.ins C dx [("_steps", .ref p)])) ∧ Mkr K C (upd H1 x (.ins C dx [("_steps", .ref p)])) x us := by
  have h1 : H1 x = some (.ins C dx []) := s _ _ upd_same
  exact ⟨make_same hx hd s, dx, p, qs, upd_same, sqT_ins (sqT_of hp) h1, Row.ins h1 hr⟩
theorem pcs_ne {t : Tr} {e : Nat} {H : Hp} {L : Addr} (h : Pt H L t e) (g : ∀ x ∈ t.lvs, GT x) : ∃ ts b, Pcs t b ts ∧ (ts.flatMap tkT).length ≤ 7 * t.sz ∧ ts.flatMap tkT ≠ [] ∧ (∀ x ∈ ts.flatMap tkT, TokOk x ∧ x.length ≤ 100) ∧ H L = some (.lst (vT (ts.flatMap tkT))) := by
  obtain ⟨ts, b, hp, _, hl, hL⟩ := h
  obtain ⟨ok, st⟩ := pcs_ok hp g
  refine ⟨ts, b, hp, by omega, st.ne, fun x hx => ⟨st.tok x hx, ?_⟩, hL⟩
  have sh : ∀ {t : Tr} {b : Nat} {ts : List Tm}, Pcs t b ts → (∀ x ∈ t.lvs, GT x) → ∀ x ∈ ts.flatMap tkT, x.length ≤ 100 := by
    intro t b ts h
    induction h with
    | @lf y hy =>
      intro g x hx
      obtain ⟨s1, s2, s3, _⟩ := (g y (by simp [Tr.lvs])).sh
      have hx' : x ∈ tkT y := by simpa using hx
      unfold tkT at hx'
      split at hx'
      · simp only [List.mem_cons, List.not_mem_nil, or_false] at hx'
        rcases hx' with rfl | rfl | rfl
        · exact s1
        · exact s2
        · exact s3
      · rw [List.mem_singleton.mp hx']
        exact s1
    | par h ih =>
      intro g x hx
      rw [par_tok] at hx
      rcases List.mem_cons.mp hx with rfl | hx
      · decide
      · rcases List.mem_append.mp hx with hx | hx
        · exact ih g x hx
        · rw [List.mem_singleton.mp hx]
          decide
    | no h hb ih =>
      intro g x hx
      rw [List.flatMap_cons, (word_tk (x := wNot) (by decide)).2] at hx
      rcases List.mem_append.mp hx with hx | hx
      · rw [List.mem_singleton.mp hx]
        decide
      · exact ih g x hx
    | @bi a _ _ _ _ _ _ h k hb hc ih ik =>
      intro g x hx
      rw [List.flatMap_append, List.flatMap_cons, (word_tk (op_mem a)).2] at hx
      rcases List.mem_append.mp hx with hx | hx
      · exact ih (fun y hy => g y (by simp [Tr.lvs, hy])) x hx
      · rcases List.mem_append.mp hx with hx | hx
        · rw [List.mem_singleton.mp hx]
          exact (by decide : ∀ a, (wOp a).length ≤ 100) a
        · exact ik (fun y hy => g y (by simp [Tr.lvs, hy])) x hx
  exact sh hp g x hx
end

/-! ## Environments: places, the class -/
section
variable {P : Program} {w : World} {K : PySem.W.Frag} {mg : Str → Option Value} {base : Heap} {D : Ad}
open TL SX
theorem idx_low {c : Nat} (h : isLow c = true) : ∃ rest, Builtin.Str.occurrences (("abcdefghijklmnopqrstuvwxyz" : String) : Str) ⟨#[c]⟩ 0 (("abcdefghijklmnopqrstuvwxyz" : String) : Str).length 1 = (c - 97) :: rest := by
  have all : ∀ i : Fin 26, Builtin.Str.occurrences (("abcdefghijklmnopqrstuvwxyz" : String) : Str) ⟨#[97 + i.val]⟩ 0 (("abcdefghijklmnopqrstuvwxyz" : String) : Str).length 1 = [i.val] := by decide +kernel
  simp only [isLow, decide_eq_true_eq] at h
  have e := all ⟨c - 97, by omega⟩
  have e2 : 97 + (c - 97) = c := by omega
  simp only [e2] at e
  exact ⟨[], e⟩
def spPw : Sp := fun vs H Q _ => ∃ l : List Nat, vs = [.str (S l)] ∧ l.all isLow = true ∧ Q (.int (pw l : Nat)) H
theorem ok_place_of_word (T : TexW w K mg D) : FnOk P w K mg base CX0 1 D.a_place_of_word D.d_place_of_word P_place_of_word spPw := by
  refine T.place_of_word_F.ok S_place_of_word (fun vs H Q E h => ?_) (fun cdv A outer s H vs Q E hr h => ?_)
  · obtain ⟨l, rfl, _⟩ := h
    rfl
  · obtain ⟨l, rfl, hl, q⟩ := h
    refine ⟨_, (pss_cons (ps_set (i := 1) S_place_of_word.nd rfl (Or.inl rfl) pe_int)
      (pss_cons (ps_for PassesOwn.never rfl (pi_str (pv 0)) (pg_name (i := 2) S_place_of_word.nd rfl (Or.inl rfl)) (pss_one (ps_set (i := 1) S_place_of_word.nd rfl (Or.inl rfl) (pe_op op_add (pe_op op_add (pe_op op_mul (pv 1) pe_int) (pe_bm PySem.F.plainAttrs_str PySem.F.slot_str_index PySem.F.type_str_index mt_sindex (pe_glob (v := .str "abcdefghijklmnopqrstuvwxyz") rfl T.c_LETTERS ⟨_, rfl⟩) (pa_cons (pv 2) pa_nil))) pe_int))))
      (pss_one (ps_ret (pv 1))))), ?_⟩
    refine ⟨_, rfl, S l, rfl, for_it (walk_str (z := S l)) (fun i σ H' => H' = H ∧ ∃ o, σ = [some (.str (S l)), some (.int (pw (l.take i) : Nat)), o]) ⟨rfl, _, rfl⟩ (fun _ _ _ _ _ => trivial) ?_ ?_⟩
    · rintro i x σ H1 H2 hi ⟨rfl, o, rfl⟩ ⟨rfl, c, hc, rfl⟩
      have hc' : l[i]? = some c := by simpa using hc
      have hlow : isLow c = true := List.all_eq_true.mp hl c (List.mem_of_getElem? hc')
      obtain ⟨rest, hrest⟩ := idx_low hlow
      refine ⟨_, rfl, _, _, rfl, rfl, .inr ⟨by decide, by decide⟩, rfl, _, rfl, _, _, _, rest, rfl, rfl, hrest, ?_⟩
      refine ⟨_, _, rfl, rfl, _, _, rfl, rfl, rfl, some (.str ⟨#[c]⟩), ?_⟩
      rw [one_more hc']
      have e : pw (l.take i ++ [c]) = pw (l.take i) * 26 + (c - 97) + 1 := by
        unfold pw
        rw [List.foldl_append]
        rfl
      rw [e]
      have e2 : ((pw (l.take i) : Nat) : Int) * 26 + ((c - 97 : Nat) : Int) + 1 = ((pw (l.take i) * 26 + (c - 97) + 1 : Nat) : Int) := by
        rw [Int.natCast_add, Int.natCast_add, Int.natCast_mul]
        rfl
      rw [← e2]
      rfl
    · rintro σ H1 ⟨rfl, o, rfl⟩
      have e : l.take (S l).cps.size = l := by simp
      rw [e]
      exact ⟨_, rfl, q⟩
theorem word_low {l : List Nat} (h : wordT l = true) : l.all isLow = true := by
  simp only [wordT, Bool.and_eq_true] at h
  exact h.2.2
def spPl : Sp := fun vs H Q _ => ∃ (s m : List Nat) (v : Nat), vs = [.str (S s), .str (S m), .int (v : Int)] ∧ s.all isLow = true ∧ m.all isLow = true ∧ Q (.int (plc s m v : Nat)) H
theorem ok_place_of (T : TexW w K mg D) : FnOk P w K mg base CX0 2 D.a_place_of D.d_place_of P_place_of spPl := by
  have G_place_of_word : FnOk P w K mg base CX0 1 D.a_place_of_word D.d_place_of_word P_place_of_word spPw := ok_place_of_word T
  refine T.place_of_F.ok S_place_of (fun vs H Q E h => ?_) (fun cdv A outer s H vs Q E hr h => ?_)
  · obtain ⟨s, m, v, rfl, _⟩ := h
    rfl
  · obtain ⟨s, m, v, rfl, h1, h2, q⟩ := h
    refine ⟨_, (pss_one (ps_ret (pe_op op_add (pe_op op_mul (pe_op op_add (pe_op op_mul (pe_call G_place_of_word (hr.mono (by decide)) (by rfl) T.place_of_word_g T.place_of_word_F.kp T.place_of_word_b .nil pass0 (pa_cons (pv 0) pa_nil)) (pe_glob (v := .int 100000000000000000) rfl T.c_WORDS ⟨_, rfl⟩)) (pe_call G_place_of_word (hr.mono (by decide)) (by rfl) T.place_of_word_g T.place_of_word_F.kp T.place_of_word_b .nil pass0 (pa_cons (pv 1) pa_nil))) pe_int) (pv 2)))), ?_⟩
    refine ⟨_, rfl, s, rfl, h1, _, _, rfl, rfl, .inr ⟨by decide, by decide⟩, _, rfl, m, rfl, h2, _, _, rfl, rfl, _, _, rfl, rfl, .inr ⟨by decide, by decide⟩, _, rfl, _, _, rfl, rfl, ?_⟩
    have e : ((plc s m v : Nat) : Int) = (((pw s : Nat) : Int) * 100000000000000000 + ((pw m : Nat) : Int)) * 100 + (v : Int) := by
      unfold plc
      omega
    show Q (.int ((((pw s : Nat) : Int) * 100000000000000000 + ((pw m : Nat) : Int)) * 100 + (v : Int))) H
    rw [← e]
    exact q
theorem ne_sm : ¬ (("_system" : Str) = "_machine") := by decide +kernel
theorem ne_sl : ¬ (("_system" : Str) = "_level") := by decide +kernel
theorem ne_sp : ¬ (("_system" : Str) = "_place") := by decide +kernel
theorem ne_ml : ¬ (("_machine" : Str) = "_level") := by decide +kernel
theorem ne_mp : ¬ (("_machine" : Str) = "_place") := by decide +kernel
theorem ne_lp : ¬ (("_level" : Str) = "_place") := by decide +kernel
def en1 (x : V) : List (Str × V) := [("_system", x)]
def en2 (x y : V) : List (Str × V) := [("_system", x), ("_machine", y)]
def en3 (x y z : V) : List (Str × V) := [("_system", x), ("_machine", y), ("_level", z)]
def en4 (x y z p : V) : List (Str × V) := [("_system", x), ("_machine", y), ("_level", z), ("_place", p)]
theorem put1 (x : V) : putF ("_system" : Str) x [] = en1 x := rfl
theorem put2 (x y : V) : putF ("_machine" : Str) y (en1 x) = en2 x y := by simp [putF, ne_sm, en1, en2]
theorem put3 (x y z : V) : putF ("_level" : Str) z (en2 x y) = en3 x y z := by simp [putF, ne_sl, ne_ml, en2, en3]
theorem put4 (x y z p : V) : putF ("_place" : Str) p (en3 x y z) = en4 x y z p := by simp [putF, ne_sp, ne_mp, ne_lp, en3, en4]
/-- an environment stands at a -/
def EnF (s m : List Nat) (v : Nat) : List (Str × V) := en4 (.str (S s)) (.str (S m)) (.int (v : Int)) (.int (plc s m v : Nat))
def Env (C : Addr) (H : Hp) (a : Addr) (s m : List Nat) (v : Nat) : Prop := ∃ dx, H a = some (.ins C dx (EnF s m v))
theorem Env.keep {C a : Addr} {H H' : Hp} {s m : List Nat} {v : Nat} (h : Env C H a s m v) (e : Same H H') : Env C H' a s m v := let ⟨dx, h⟩ := h; ⟨dx, e _ _ h⟩
theorem en_sys (s m : List Nat) (v : Nat) : (EnF s m v).lookup ("_system" : Str) = some (.str (S s)) := by simp [EnF, en4, List.lookup]
theorem en_mac (s m : List Nat) (v : Nat) : (EnF s m v).lookup ("_machine" : Str) = some (.str (S m)) := by
  simp [EnF, en4, List.lookup, show (("_machine" : Str) == "_system") = false from by decide +kernel]
theorem en_lev (s m : List Nat) (v : Nat) : (EnF s m v).lookup ("_level" : Str) = some (.int (v : Int)) := by
  simp [EnF, en4, List.lookup, show (("_level" : Str) == "_system") = false from by decide +kernel, show (("_level" : Str) == "_machine") = false from by decide +kernel]
theorem en_pla (s m : List Nat) (v : Nat) : (EnF s m v).lookup ("_place" : Str) = some (.int (plc s m v : Nat)) := by
  simp [EnF, en4, List.lookup, show (("_place" : Str) == "_system") = false from by decide +kernel, show (("_place" : Str) == "_machine") = false from by decide +kernel, show (("_place" : Str) == "_level") = false from by decide +kernel]
def spXI (C : Addr) (f : Str) : Sp := fun vs H Q _ => ∃ (a : Addr) (y : V), vs = [.ref a, y] ∧ H a = some (exo a C none) ∧ ∀ dx, H dx = none → dx ≠ a → Q .non (upd (upd H dx (exd dx [(f, y)])) a (exo a C (some dx)))
theorem ok_BadEnvironment_init (T : TexW w K mg D) : FnOk P w K mg base CX0 1 D.a_BadEnvironment_init D.d_BadEnvironment_init P_BadEnvironment_init (spXI D.a_BadEnvironment "given") := by
  refine T.BadEnvironment_init_F.ok S_BadEnvironment_init (fun vs H Q E h => ?_) (fun cdv A outer s H vs Q E hr h => ?_)
  · obtain ⟨a, y, rfl, _⟩ := h
    rfl
  · obtain ⟨a, y, rfl, ha, q⟩ := h
    exact ⟨_, (pss_one (ps_ost (pv 0) (pv 1))), _, rfl, _, rfl, a, _, rfl, T.BadEnvironment_xa.o, T.BadEnvironment_xf, .inl ⟨ha, fun dx h1 h2 => q dx h1 h2⟩⟩
theorem raised_same {H : Hp} {a dx C : Addr} {fs : List (Str × V)} (ha : H a = none) (hd : (upd H a (exo a C none)) dx = none) :
    Same H (upd (del (upd (upd (upd H a (exo a C none)) dx (exd dx fs)) a (exo a C (some dx))) a) dx (.xd fs)) := by
  intro b o e
  have n1 : b ≠ a := ne_of_none e ha
  have n2 : b ≠ dx := by
    rintro rfl
    rw [upd_ne n1, e] at hd
    cases hd
  rw [upd_ne n2, del_ne n1, upd_ne n1, upd_ne n2, upd_ne n1]
  exact e
theorem made_same {H H1 : Hp} {C x dx : Addr} {fs : List (Str × V)} (hx : H x = none) (hd : H dx = none) (s : Same (upd (upd H dx (.own x)) x (.ins C dx [])) H1) : Same H (upd H1 x (.ins C dx fs)) := by
  intro b o e
  have n1 : b ≠ x := ne_of_none e hx
  have n2 : b ≠ dx := ne_of_none e hd
  rw [upd_ne n1]
  refine s b o ?_
  rw [upd_ne n1, upd_ne n2]
  exact e
/-- what is asked of the level -/
def LevQ (K : PySem.W.Frag) (H : Hp) (x : V) (b : Bool) : Prop := (∃ i : Int, x = .int i ∧ b = (decide (0 ≤ i) && decide (i ≤ 99))) ∨ (Plain K H x ∧ b = false)
theorem LevQ.keep {H H' : Hp} {x : V} {b : Bool} (h : LevQ K H x b) (s : Same H H') : LevQ K H' x b := h.imp id fun ⟨a, e⟩ => ⟨a.keep s, e⟩
def spEInit (K : PySem.W.Frag) (C B : Addr) : Sp := fun vs H Q E => ∃ (x dx : Addr) (sy ma le : V), vs = [.ref x, sy, ma, le] ∧ H x = some (.ins C dx []) ∧
  ((∃ (s m : List Nat) (v : Nat), sy = .str (S s) ∧ ma = .str (S m) ∧ le = .int (v : Int) ∧ wordT s = true ∧ wordT m = true ∧ v ≤ 99 ∧ ∀ H', Same H H' → Q .non (upd H' x (.ins C dx (EnF s m v)))) ∨
    ∃ z : V, (∀ d H', Same H H' → H' d = some (.xd [("given", z)]) → E (.ref B) (some d) H') ∧
      ((z = sy ∧ WordQ K H sy false) ∨ (z = ma ∧ WordQ K H sy true ∧ WordQ K H ma false) ∨ (z = le ∧ WordQ K H sy true ∧ WordQ K H ma true ∧ LevQ K H le false)))
theorem word_q {H : Hp} {l : List Nat} (h : wordT l = true) : WordQ K H (.str (S l)) true := .inl ⟨l, rfl, by
  simp only [wordT, Bool.and_eq_true, decide_eq_true_eq] at h
  omega, h.symm⟩
theorem ok_Environment_init (T : TexW w K mg D) : FnOk P w K mg base (L2.CX P w) 5 D.a_Environment_init D.d_Environment_init P_Environment_init (spEInit K D.a_Environment D.a_BadEnvironment) := by
  have G_is_word : FnOk P w K mg base CX0 3 D.a_is_word D.d_is_word P_is_word (spIsWord K) := ok_is_word T
  have G_is_whole_to : FnOk P w K mg base CX0 3 D.a_is_whole_to D.d_is_whole_to P_is_whole_to (spWToA K) := ok_is_whole_toA T
  have G_place_of : FnOk P w K mg base CX0 2 D.a_place_of D.d_place_of P_place_of spPl := ok_place_of T
  have G_BadEnvironment_init : FnOk P w K mg base CX0 1 D.a_BadEnvironment_init D.d_BadEnvironment_init P_BadEnvironment_init (spXI D.a_BadEnvironment "given") := ok_BadEnvironment_init T
  refine T.Environment_init_F.ok S_Environment_init (fun vs H Q E h => ?_) (fun cdv A outer s H vs Q E hr h => ?_)
  · obtain ⟨x, dx, sy, ma, le, rfl, _⟩ := h
    rfl
  · obtain ⟨x, dx, sy, ma, le, rfl, hx, h⟩ := h
    refine ⟨_, (pss_cons (ps_if (pt_not (pt_val (pe_call G_is_word (hr.mono (by decide)) (by rfl) T.is_word_g T.is_word_F.kp T.is_word_b .nil pass0 (pa_cons (pv 1) pa_nil)))) (pss_one (ps_raise rfl (takes_of rfl rfl rfl rfl) (pmk_oex T.BadEnvironment_xa.o T.BadEnvironment_xi T.BadEnvironment_xt G_BadEnvironment_init (hr.mono (by decide)) T.BadEnvironment_init_b .nil pass0 rfl T.BadEnvironment_g (pa_cons (pv 1) pa_nil)))) pss_nil)
      (pss_cons (ps_if (pt_not (pt_val (pe_call G_is_word (hr.mono (by decide)) (by rfl) T.is_word_g T.is_word_F.kp T.is_word_b .nil pass0 (pa_cons (pv 2) pa_nil)))) (pss_one (ps_raise rfl (takes_of rfl rfl rfl rfl) (pmk_oex T.BadEnvironment_xa.o T.BadEnvironment_xi T.BadEnvironment_xt G_BadEnvironment_init (hr.mono (by decide)) T.BadEnvironment_init_b .nil pass0 rfl T.BadEnvironment_g (pa_cons (pv 2) pa_nil)))) pss_nil)
      (pss_cons (ps_if (pt_not (pt_val (pe_call G_is_whole_to (hr.mono (by decide)) (by rfl) T.is_whole_to_g T.is_whole_to_F.kp T.is_whole_to_b .nil pass0 (pa_cons (pv 3) (pa_cons (pe_glob (v := .int 99) rfl T.c_HIGHEST ⟨_, rfl⟩) pa_nil))))) (pss_one (ps_raise rfl (takes_of rfl rfl rfl rfl) (pmk_oex T.BadEnvironment_xa.o T.BadEnvironment_xi T.BadEnvironment_xt G_BadEnvironment_init (hr.mono (by decide)) T.BadEnvironment_init_b .nil pass0 rfl T.BadEnvironment_g (pa_cons (pv 3) pa_nil)))) pss_nil)
      (pss_cons (ps_fld (pv 0) (pv 1) rfl)
      (pss_cons (ps_fld (pv 0) (pv 2) rfl)
      (pss_cons (ps_fld (pv 0) (pv 3) rfl)
      (pss_one (ps_fld (pv 0) (pe_call G_place_of (hr.mono (by decide)) (by rfl) T.place_of_g T.place_of_F.kp T.place_of_b .nil pass0 (pa_cons (pv 1) (pa_cons (pv 2) (pa_cons (pv 3) pa_nil)))) rfl)))))))), ?_⟩
    have raise : ∀ (H1 : Hp) (z : V), Same H H1 → (∀ d H', Same H H' → H' d = some (.xd [("given", z)]) → E (.ref D.a_BadEnvironment) (some d) H') →
        (1 : Nat) ≤ 1000 ∧ ∀ a, H1 a = none → spXI D.a_BadEnvironment "given" (.ref a :: ([z] ++ [])) (upd H1 a (exo a D.a_BadEnvironment none))
          (fun v H2 => v = .non ∧ ∃ (d : Addr) (fs : List (Str × V)), H2 a = some (exo a D.a_BadEnvironment (some d)) ∧ H2 d = some (exd d fs) ∧ H1 d = none ∧ E (.ref D.a_BadEnvironment) (some d) (upd (del H2 a) d (.xd fs))) (fun _ _ _ => False) := by
      intro H1 z s1 q
      refine ⟨by decide, fun e he => ⟨e, _, rfl, upd_same, fun dx hd hne => ⟨rfl, dx, _, upd_same, by rw [upd_ne hne, upd_same], ?_, ?_⟩⟩⟩
      · rw [upd_ne hne] at hd
        exact hd
      · exact q dx _ (s1.trans (raised_same he hd)) upd_same
    rcases h with ⟨s', m, v, rfl, rfl, rfl, hs, hm, hv, q⟩ | ⟨z, q, hz⟩
    · refine ⟨_, rfl, _, true, rfl, word_q hs, fun H1 s1 => ⟨_, rfl, iteF ?_⟩⟩
      refine ⟨_, rfl, _, true, rfl, word_q hm, fun H2 s2 => ⟨_, rfl, iteF ?_⟩⟩
      refine ⟨_, rfl, _, _, true, rfl, .inl ⟨(v : Int), rfl, by
        rw [decide_eq_true (show (0 : Int) ≤ (v : Int) by omega), decide_eq_true (show (v : Int) ≤ 99 by omega)]
        rfl⟩, _, rfl, iteF ?_⟩
      have s12 := s1.trans s2
      refine ⟨_, rfl, _, rfl, x, _, dx, [], rfl, s12 _ _ hx, T.Environment_cl, T.Environment_n_system, by decide, ?_⟩
      rw [put1]
      refine ⟨_, rfl, _, rfl, x, _, dx, _, rfl, upd_same, T.Environment_cl, T.Environment_n_machine, by show 1 < 1000; decide, ?_⟩
      rw [put2]
      refine ⟨_, rfl, _, rfl, x, _, dx, _, rfl, upd_same, T.Environment_cl, T.Environment_n_level, by show 2 < 1000; decide, ?_⟩
      rw [put3]
      refine ⟨_, rfl, _, rfl, _, rfl, s', m, v, rfl, word_low hs, word_low hm, _, rfl, x, _, dx, _, rfl, upd_same, T.Environment_cl, T.Environment_n_place, by show 3 < 1000; decide, ?_⟩
      rw [put4, upd_upd, upd_upd, upd_upd]
      exact q H2 s12
    · rcases hz with ⟨rfl, h1⟩ | ⟨rfl, h1, h2⟩ | ⟨rfl, h1, h2, h3⟩
      · refine ⟨_, rfl, _, false, rfl, h1, fun H1 s1 => ⟨_, rfl, iteT ?_⟩⟩
        exact ⟨_, rfl, raise H1 _ s1 q⟩
      · refine ⟨_, rfl, _, true, rfl, h1, fun H1 s1 => ⟨_, rfl, iteF ?_⟩⟩
        refine ⟨_, rfl, _, false, rfl, h2.keep s1, fun H2 s2 => ⟨_, rfl, iteT ?_⟩⟩
        exact ⟨_, rfl, raise H2 _ (s1.trans s2) q⟩
      · refine ⟨_, rfl, _, true, rfl, h1, fun H1 s1 => ⟨_, rfl, iteF ?_⟩⟩
        refine ⟨_, rfl, _, true, rfl, h2.keep s1, fun H2 s2 => ⟨_, rfl, iteF ?_⟩⟩
        refine ⟨_, rfl, _, _, false, rfl, h3.keep (s1.trans s2), _, rfl, iteT ?_⟩
        exact ⟨_, rfl, raise H2 _ (s1.trans s2) q⟩
/-! ### what is read off an environment -/
def spEEq (K : PySem.W.Frag) (C : Addr) : Sp := fun vs H Q _ => ∃ (a : Addr) (s m : List Nat) (v : Nat) (y : V), vs = [.ref a, y] ∧ Env C H a s m v ∧
  ((∃ b s' m' v', y = .ref b ∧ Env C H b s' m' v' ∧ Q (.bl (decide (plc s m v = plc s' m' v'))) H) ∨ ∃ t, TyX K H y t ∧ PySem.W.kitOne K t (.ref C) = some false ∧ Q (.bl false) H)
theorem int_eq (r s : Nat) : decide (V.int ((r : Nat) : Int) = V.int ((s : Nat) : Int)) = decide (r = s) := decide_eq_decide.mpr ⟨fun e => by
  injection e with e
  omega, fun e => by rw [e]⟩
theorem ok_Environment_eq (T : TexW w K mg D) : FnOk P w K mg base CX0 1 D.a_Environment_eq D.d_Environment_eq P_Environment_eq (spEEq K D.a_Environment) := by
  refine T.Environment_eq_F.ok S_Environment_eq (fun vs H Q E h => ?_) (fun cdv A outer s H vs Q E hr h => ?_)
  · obtain ⟨a, s, m, v, y, rfl, _⟩ := h
    rfl
  · obtain ⟨a, s, m, v, y, rfl, ⟨dx, ha⟩, q⟩ := h
    refine ⟨_, (pss_one (ps_ret (pe_and (pe_callB call_isi (by rfl) T.b_isinstance (by decide +kernel) (pa_cons (pv 1) (pa_cons (pe_glob (v := .ref D.a_Environment) rfl T.Environment_g rfl) pa_nil))) (pe_one (pe_cmpR op_eq (pe_fld (pv 0) rfl) (pe_fld (pv 1) rfl) (nomark _)))))), ?_⟩
    rcases q with ⟨b, s', m', v', rfl, ⟨dy, hb⟩, q⟩ | ⟨t, ty, hk, q⟩
    · refine ⟨_, rfl, _, _, _, _, true, rfl, .own _, .base (.ins hb T.Environment_cl T.Environment_si.ca T.Environment_si.cn T.Environment_si.ct T.Environment_si.cm), kit_self, true, rfl, iteT ?_⟩
      refine ⟨_, rfl, a, _, dx, _, _, rfl, ha, T.Environment_cl, T.Environment_n_place, en_pla _ _ _, _, rfl, b, _, dy, _, _, rfl, hb, T.Environment_cl, T.Environment_n_place, en_pla _ _ _, rfl, ?_⟩
      rw [int_eq]
      exact q
    · exact ⟨_, rfl, _, _, _, _, false, rfl, .own _, ty, hk, false, rfl, iteF q⟩
end

/-! ## Markers: what holds at a spot -/
section
open TL SX
def cmpS (s a b : Txt) : Bool := if s = [61, 61] then decide (a = b) else !decide (a = b)
def cmpN (s : Txt) (a b : Nat) : Bool := if s = [61, 61] then decide (a = b) else if s = [33, 61] then !decide (a = b) else if s = [60] then decide (a < b) else if s = [60, 61] then decide (a ≤ b) else if s = [62] then decide (b < a) else decide (b ≤ a)
structure Spt where
  s : Txt
  m : Txt
  v : Nat
def evT (p : Spt) (t : Tm) : Bool :=
  if t.w = wSystem then (match t.v with
    | .inl x => cmpS t.s p.s x
    | .inr _ => false)
  else if t.w = wMachine then (match t.v with
    | .inl x => cmpS t.s p.m x
    | .inr _ => false)
  else if t.w = wLevel then (match t.v with
    | .inl _ => false
    | .inr n => cmpN t.s p.v n)
  else decide (t.w = wAlways)
/-- what can be compared -/
def Cmp (t : Tm) : Prop := t.w ∈ fieldL → (t.w = wLevel ∧ ∃ n, t.v = .inr n ∧ t.s ∈ lvSigns) ∨ ((t.w = wSystem ∨ t.w = wMachine) ∧ ∃ x, t.v = .inl x ∧ (t.s = [61, 61] ∨ t.s = [33, 61]))
theorem TmOk.cmp {t : Tm} (h : TmOk t) : Cmp t := by
  intro hf
  unfold TmOk at h
  rw [if_pos hf] at h
  unfold cmpF at h
  by_cases hl : t.w = wLevel
  · rw [if_pos hl] at h
    refine .inl ⟨hl, ?_⟩
    split at h
    · rename_i n hn
      split at h
      · rename_i hs
        exact ⟨n, (congrArg Tm.v (Option.some.inj h)).symm, hs⟩
      · cases h
    · cases h
  · rw [if_neg hl] at h
    refine .inr ⟨?_, ?_⟩
    · simp only [fieldL, List.mem_cons, List.not_mem_nil, or_false] at hf
      rcases hf with e | e | e
      · exact .inl e
      · exact .inr e
      · exact absurd e hl
    · split at h
      · rename_i hs
        exact ⟨_, (congrArg Tm.v (Option.some.inj h)).symm, hs.1⟩
      · cases h
def vlM (ev : Tm → Bool) (h : List Bool) (t : Tm) : Option (List Bool) :=
  if t.w = wNot then (match h with
    | b :: r => some ((!b) :: r)
    | [] => none)
  else if t.w = wAnd ∨ t.w = wOr then (match h with
    | c :: b :: r => some ((if t.w = wAnd then b && c else b || c) :: r)
    | _ => none)
  else some (ev t :: h)
def vlR (ev : Tm → Bool) : List Bool → List Tm → Option (List Bool)
  | h, [] => some h
  | h, t :: ts => (vlM ev h t).bind fun h' => vlR ev h' ts
theorem vlR_append (ev : Tm → Bool) : ∀ (ts us : List Tm) (h : List Bool), vlR ev h (ts ++ us) = (vlR ev h ts).bind fun h' => vlR ev h' us
  | [], _, _ => rfl
  | t :: ts, us, h => by
    show (vlM ev h t).bind _ = ((vlM ev h t).bind _).bind _
    cases vlM ev h t with
    | none => rfl
    | some m' => exact vlR_append ev ts us m'
theorem vlR_pfx (ev : Tm → Bool) : ∀ (t : Tr), (∀ x ∈ t.lvs, x.w ∈ operL) → ∀ h, vlR ev h t.pfx = some (t.val ev :: h)
  | .lf x, q, h => by
    obtain ⟨a, b, c, d⟩ := oper_bnd x.w (q x (by simp [Tr.lvs]))
    show (vlM ev h x).bind _ = _
    have e : vlM ev h x = some (ev x :: h) := by
      unfold vlM
      rw [if_neg a, if_neg (fun e => e.elim b c)]
    rw [e]
    rfl
  | .no t, q, h => by
    show vlR ev h (t.pfx ++ [opT wNot]) = _
    rw [vlR_append, vlR_pfx ev t q h]
    rfl
  | .bi a t u, q, h => by
    show vlR ev h (t.pfx ++ u.pfx ++ [opT (wOp a)]) = _
    rw [vlR_append, vlR_append, vlR_pfx ev t (fun x hx => q x (by simp [Tr.lvs, hx])) h]
    show ((vlR ev _ u.pfx).bind _) = _
    rw [vlR_pfx ev u (fun x hx => q x (by simp [Tr.lvs, hx]))]
    cases a <;> rfl
theorem drop_at {α : Type} {l : List α} {i : Nat} {x : α} (h : l[i]? = some x) : l.drop i = x :: l.drop (i + 1) := by
  obtain ⟨hi, e⟩ := List.getElem?_eq_some_iff.mp h
  rw [List.drop_eq_getElem_cons hi, e]
theorem Like.val {t : Tr} {us : List Tm} (h : Like t us) (g : ∀ x ∈ t.lvs, GT x) (ev : Tm → Bool) : vlR ev [] us = some [t.val ev] ∧ ∀ x ∈ us, Cmp x := by
  obtain ⟨u, e, rfl⟩ := h
  have gl : ∀ x ∈ u.lvs, GT x := fun x hx => g x (by rw [← e.lvs]; exact hx)
  refine ⟨by rw [vlR_pfx ev u (fun x hx => (gl x hx).op), e.val], ?_⟩
  have all : ∀ (u : Tr), (∀ x ∈ u.lvs, GT x) → ∀ x ∈ u.pfx, Cmp x := by
    have op : ∀ x ∈ ([wNot, wAnd, wOr] : List Txt), Cmp (opT x) := by
      intro x hx hf
      exact absurd hf ((by decide : ∀ x ∈ ([wNot, wAnd, wOr] : List Txt), ¬ (opT x).w ∈ fieldL) x hx)
    intro u
    induction u with
    | lf x =>
      intro g y hy
      rw [show (Tr.lf x).pfx = [x] from rfl, List.mem_singleton] at hy
      rw [hy]
      exact (g x (by simp [Tr.lvs])).ok.cmp
    | no t ih =>
      intro g x hx
      rcases List.mem_append.mp (show x ∈ t.pfx ++ [opT wNot] from hx) with hx | hx
      · exact ih g x hx
      · rw [List.mem_singleton.mp hx]
        exact op _ (by decide)
    | bi a t u ih ik =>
      intro g x hx
      rcases List.mem_append.mp (show x ∈ t.pfx ++ u.pfx ++ [opT (wOp a)] from hx) with hx | hx
      · rcases List.mem_append.mp hx with hx | hx
        · exact ih (fun y hy => g y (by simp [Tr.lvs, hy])) x hx
        · exact ik (fun y hy => g y (by simp [Tr.lvs, hy])) x hx
      · rw [List.mem_singleton.mp hx]
        exact op _ ((by decide : ∀ a, wOp a ∈ ([wNot, wAnd, wOr] : List Txt)) a)
  exact all u gl
end
/-! ### compares, holds_at -/
section
variable {P : Program} {w : World} {K : PySem.W.Frag} {mg : Str → Option Value} {base : Heap} {D : Ad}
open TL SX
theorem sg_eq : (("==" : String) : Str) = S [61, 61] := by decide +kernel
theorem sg_ne : (("!=" : String) : Str) = S [33, 61] := by decide +kernel
theorem sg_lt : (("<" : String) : Str) = S [60] := by decide +kernel
theorem sg_le : (("<=" : String) : Str) = S [60, 61] := by decide +kernel
theorem sg_gt : ((">" : String) : Str) = S [62] := by decide +kernel
theorem sg_ge : ((">=" : String) : Str) = S [62, 61] := by decide +kernel
theorem nn_eq (a b : Nat) : decide (V.int ((a : Nat) : Int) = V.int ((b : Nat) : Int)) = decide (a = b) := decide_eq_decide.mpr ⟨fun e => by
  have := V.int.inj e
  omega, fun e => by rw [e]⟩
def spCmpr : Sp := fun vs H Q _ => (∃ s a b : Txt, vs = [.str (S s), .str (S a), .str (S b)] ∧ (s = [61, 61] ∨ s = [33, 61]) ∧ Q (.bl (cmpS s a b)) H) ∨
  ∃ (s : Txt) (a b : Nat), vs = [.str (S s), .int (a : Int), .int (b : Int)] ∧ s ∈ lvSigns ∧ Q (.bl (cmpN s a b)) H
theorem ok_compares (T : TexW w K mg D) : FnOk P w K mg base CX0 1 D.a_compares D.d_compares P_compares spCmpr := by
  refine T.compares_F.ok S_compares (fun vs H Q E h => ?_) (fun cdv A outer s H vs Q E hr h => ?_)
  · rcases h with ⟨s, a, b, rfl, _⟩ | ⟨s, a, b, rfl, _⟩ <;> rfl
  · refine ⟨_, (pss_cons (ps_if (pt_cmpR op_eq (pv 0) pe_str (nomark _)) (pss_one (ps_ret (pe_cmpR op_eq (pv 1) (pv 2) (nomark _)))) pss_nil)
      (pss_cons (ps_if (pt_cmpR op_eq (pv 0) pe_str (nomark _)) (pss_one (ps_ret (pe_cmpR op_ne (pv 1) (pv 2) (nomark _)))) pss_nil)
      (pss_cons (ps_if (pt_cmpR op_eq (pv 0) pe_str (nomark _)) (pss_one (ps_ret (pe_cmpR op_lt (pv 1) (pv 2) (nomark _)))) pss_nil)
      (pss_cons (ps_if (pt_cmpR op_eq (pv 0) pe_str (nomark _)) (pss_one (ps_ret (pe_cmpR op_le (pv 1) (pv 2) (nomark _)))) pss_nil)
      (pss_cons (ps_if (pt_cmpR op_eq (pv 0) pe_str (nomark _)) (pss_one (ps_ret (pe_cmpR op_gt (pv 1) (pv 2) (nomark _)))) pss_nil)
      (pss_one (ps_ret (pe_cmpR op_ge (pv 1) (pv 2) (nomark _))))))))), ?_⟩
    rcases h with ⟨s, a, b, rfl, hs, q⟩ | ⟨s, a, b, rfl, hs, q⟩
    · rcases hs with rfl | rfl
      · refine ⟨_, rfl, rfl, _, rfl, ?_⟩
        rw [sg_eq, eq_S]
        refine iteT ⟨_, rfl, _, rfl, rfl, ?_⟩
        rw [eq_S]
        exact q
      · refine ⟨_, rfl, rfl, _, rfl, ?_⟩
        rw [sg_eq, eq_S]
        refine iteF ⟨_, rfl, rfl, _, rfl, ?_⟩
        rw [sg_ne, eq_S]
        refine iteT ⟨_, rfl, _, rfl, rfl, ?_⟩
        rw [eq_S]
        exact q
    · simp only [lvSigns, List.mem_cons, List.not_mem_nil, or_false] at hs
      rcases hs with rfl | rfl | rfl | rfl | rfl | rfl
      · refine ⟨_, rfl, rfl, _, rfl, ?_⟩
        rw [sg_eq, eq_S]
        refine iteT ⟨_, rfl, _, rfl, rfl, ?_⟩
        rw [nn_eq]
        exact q
      · refine ⟨_, rfl, rfl, _, rfl, ?_⟩
        rw [sg_eq, eq_S]
        refine iteF ⟨_, rfl, rfl, _, rfl, ?_⟩
        rw [sg_ne, eq_S]
        refine iteT ⟨_, rfl, _, rfl, rfl, ?_⟩
        rw [nn_eq]
        exact q
      · refine ⟨_, rfl, rfl, _, rfl, ?_⟩
        rw [sg_eq, eq_S]
        refine iteF ⟨_, rfl, rfl, _, rfl, ?_⟩
        rw [sg_ne, eq_S]
        refine iteF ⟨_, rfl, rfl, _, rfl, ?_⟩
        rw [sg_lt, eq_S]
        refine iteT ⟨_, rfl, _, rfl, _, _, rfl, rfl, ?_⟩
        show Q (.bl (decide ((a : Int) < (b : Int)))) H
        rw [show decide ((a : Int) < (b : Int)) = decide (a < b) from decide_eq_decide.mpr (by omega)]
        exact q
      · refine ⟨_, rfl, rfl, _, rfl, ?_⟩
        rw [sg_eq, eq_S]
        refine iteF ⟨_, rfl, rfl, _, rfl, ?_⟩
        rw [sg_ne, eq_S]
        refine iteF ⟨_, rfl, rfl, _, rfl, ?_⟩
        rw [sg_lt, eq_S]
        refine iteF ⟨_, rfl, rfl, _, rfl, ?_⟩
        rw [sg_le, eq_S]
        refine iteT ⟨_, rfl, _, rfl, _, _, rfl, rfl, ?_⟩
        show Q (.bl (decide ((a : Int) ≤ (b : Int)))) H
        rw [show decide ((a : Int) ≤ (b : Int)) = decide (a ≤ b) from decide_eq_decide.mpr (by omega)]
        exact q
      · refine ⟨_, rfl, rfl, _, rfl, ?_⟩
        rw [sg_eq, eq_S]
        refine iteF ⟨_, rfl, rfl, _, rfl, ?_⟩
        rw [sg_ne, eq_S]
        refine iteF ⟨_, rfl, rfl, _, rfl, ?_⟩
        rw [sg_lt, eq_S]
        refine iteF ⟨_, rfl, rfl, _, rfl, ?_⟩
        rw [sg_le, eq_S]
        refine iteF ⟨_, rfl, rfl, _, rfl, ?_⟩
        rw [sg_gt, eq_S]
        refine iteT ⟨_, rfl, _, rfl, _, _, rfl, rfl, ?_⟩
        show Q (.bl (decide ((b : Int) < (a : Int)))) H
        rw [show decide ((b : Int) < (a : Int)) = decide (b < a) from decide_eq_decide.mpr (by omega)]
        exact q
      · refine ⟨_, rfl, rfl, _, rfl, ?_⟩
        rw [sg_eq, eq_S]
        refine iteF ⟨_, rfl, rfl, _, rfl, ?_⟩
        rw [sg_ne, eq_S]
        refine iteF ⟨_, rfl, rfl, _, rfl, ?_⟩
        rw [sg_lt, eq_S]
        refine iteF ⟨_, rfl, rfl, _, rfl, ?_⟩
        rw [sg_le, eq_S]
        refine iteF ⟨_, rfl, rfl, _, rfl, ?_⟩
        rw [sg_gt, eq_S]
        refine iteF ⟨_, rfl, _, rfl, _, _, rfl, rfl, ?_⟩
        show Q (.bl (decide ((b : Int) ≤ (a : Int)))) H
        rw [show decide ((b : Int) ≤ (a : Int)) = decide (b ≤ a) from decide_eq_decide.mpr (by omega)]
        exact q
end

/-! ### holds_at and the call -/
section
variable {P : Program} {w : World} {K : PySem.W.Frag} {mg : Str → Option Value} {base : Heap} {D : Ad}
open TL SX
def fcK (p : Spt) : List (Key × V) := [(.inr (S wSystem), .str (S p.s)), (.inr (S wMachine), .str (S p.m)), (.inr (S wLevel), .int (p.v : Int))]
theorem sys_t : (("system" : String) : Str) = S wSystem := by decide +kernel
theorem mac_t : (("machine" : String) : Str) = S wMachine := by decide +kernel
theorem lvl_t : (("level" : String) : Str) = S wLevel := by decide +kernel
theorem alw_t2 : (("always" : String) : Str) = S wAlways := by decide +kernel
theorem fc_put (p : Spt) : mergeK [] [(.inr (S wSystem), .str (S p.s)), (.inr (S wMachine), .str (S p.m)), (.inr (S wLevel), .int (p.v : Int))] = fcK p := by
  have h1 : ¬ (S wSystem = S wMachine) := by decide +kernel
  have h2 : ¬ (S wSystem = S wLevel) := by decide +kernel
  have h3 : ¬ (S wMachine = S wLevel) := by decide +kernel
  simp [mergeK, putK, fcK, h1, h2, h3]
theorem fc_get (p : Spt) (x : Txt) : valV (fcK p) (.inr (S x)) = if x = wSystem then some (.str (S p.s)) else if x = wMachine then some (.str (S p.m)) else if x = wLevel then some (.int (p.v : Int)) else none := by
  by_cases h1 : x = wSystem
  · subst h1
    simp [valV, fcK]
  · by_cases h2 : x = wMachine
    · subst h2
      have a : ¬ (S wSystem = S wMachine) := by decide +kernel
      simp [valV, fcK, a, h1]
    · by_cases h3 : x = wLevel
      · subst h3
        have a : ¬ (S wSystem = S wLevel) := by decide +kernel
        have b : ¬ (S wMachine = S wLevel) := by decide +kernel
        simp [valV, fcK, a, b, h1, h2]
      · have a : ¬ (S wSystem = S x) := fun e => h1 (S_inj e).symm
        have b : ¬ (S wMachine = S x) := fun e => h2 (S_inj e).symm
        have c : ¬ (S wLevel = S x) := fun e => h3 (S_inj e).symm
        simp [valV, fcK, a, b, c, h1, h2, h3]
abbrev bls (h : List Bool) : List V := h.reverse.map V.bl
theorem bls_cons (b : Bool) (r : List Bool) : bls (b :: r) = bls r ++ [V.bl b] := by simp [bls]
theorem bls_len (h : List Bool) : (bls h).length = h.length := by simp [bls]
def spHolds (K : PySem.W.Frag) : Sp := fun vs H Q _ => ∃ (a b : Addr) (ps : List Addr) (us : List Tm) (p : Spt) (x : Bool), vs = [.ref a, .ref b] ∧ SqT K H a (ps.map V.ref) ∧ Row K H ps us ∧ SqT K H b [.str (S p.s), .str (S p.m), .int (p.v : Int)] ∧ us.length ≤ 3000 ∧
  (∀ t ∈ us, Cmp t) ∧ vlR (evT p) [] us = some [x] ∧ ∀ H', Same H H' → Q (.bl x) H'
theorem vlR_at {ev : Tm → Bool} {h : List Bool} {us : List Tm} {i : Nat} {t : Tm} {z : List Bool} (e : vlR ev h (us.drop i) = some z) (ht : us[i]? = some t) : ∃ h', vlM ev h t = some h' ∧ vlR ev h' (us.drop (i + 1)) = some z := by
  rw [drop_at ht] at e
  change (vlM ev h t).bind _ = _ at e
  cases hm : vlM ev h t with
  | none =>
    rw [hm] at e
    cases e
  | some h' =>
    rw [hm] at e
    exact ⟨h', rfl, e⟩
theorem ok_holds_at (T : TexW w K mg D) : FnOk P w K mg base CX0 2 D.a_holds_at D.d_holds_at P_holds_at (spHolds K) := by
  have G_compares : FnOk P w K mg base CX0 1 D.a_compares D.d_compares P_compares spCmpr := ok_compares T
  refine T.holds_at_F.ok S_holds_at (fun vs H Q E h => ?_) (fun cdv A outer s H vs Q E hr h => ?_)
  · obtain ⟨a, b, ps, us, p, x, rfl, _⟩ := h
    rfl
  · obtain ⟨a, b, ps, us, p, x, rfl, ha, hrow, hb, hl, hc, hv, q⟩ := h
    have hu := hu_of hr
    refine ⟨_, (pss_cons (ps_asg (pv 1) (pg_tup (by rfl) (pgs_cons (pg_name (i := 2) S_holds_at.nd rfl (Or.inl rfl)) (pgs_cons (pg_name (i := 3) S_holds_at.nd rfl (Or.inl rfl)) (pgs_cons (pg_name (i := 4) S_holds_at.nd rfl (Or.inl rfl)) pgs_nil)))))
      (pss_cons (ps_set (i := 5) S_holds_at.nd rfl (Or.inl rfl) (pe_disp (pps_cons pe_str (pv 2) (pps_cons pe_str (pv 3) (pps_cons pe_str (pv 4) pps_nil))) (by rfl) (by rfl) (fun z => by cases z) (by decide)))
      (pss_cons (ps_set (i := 6) S_holds_at.nd rfl (Or.inl rfl) (pe_lst pa_nil))
      (pss_cons (ps_for PassesOwn.never rfl (pi_tup (pv 0)) (pg_tup (by rfl) (pgs_cons (pg_name (i := 7) S_holds_at.nd rfl (Or.inl rfl)) (pgs_cons (pg_name (i := 8) S_holds_at.nd rfl (Or.inl rfl)) (pgs_cons (pg_name (i := 9) S_holds_at.nd rfl (Or.inl rfl)) pgs_nil)))) (pss_one (ps_if (pt_cmp (pc_din hu (pv 7) (pv 5))) (pss_one (ps_expr (pe_bm PySem.F.plainAttrs_list PySem.F.slot_list_append PySem.F.type_list_append mt_append (pv 6) (pa_cons (pe_call G_compares (hr.mono (by decide)) (by rfl) T.compares_g T.compares_F.kp T.compares_b .nil pass0 (pa_cons (pv 8) (pa_cons (pe_dget hu (pv 5) (pv 7) (fun _ _ => rfl)) (pa_cons (pv 9) pa_nil)))) pa_nil)))) (pss_one (ps_if (pt_cmpR op_eq (pv 7) pe_str (nomark _)) (pss_one (ps_expr (pe_bm PySem.F.plainAttrs_list PySem.F.slot_list_append PySem.F.type_list_append mt_append (pv 6) (pa_cons (pe_not (pe_bm0 PySem.F.plainAttrs_list PySem.F.slot_list_pop PySem.F.type_list_pop mt_pop (pv 6))) pa_nil)))) (pss_one (ps_if (PW.pt (pw_or (pt_cmpR op_eq (pv 7) pe_str (nomark _)) (pw_or1 (pt_cmpR op_eq (pv 7) pe_str (nomark _))))) (pss_cons (ps_set (i := 10) S_holds_at.nd rfl (Or.inl rfl) (pe_bm0 PySem.F.plainAttrs_list PySem.F.slot_list_pop PySem.F.type_list_pop mt_pop (pv 6)))
      (pss_cons (ps_set (i := 11) S_holds_at.nd rfl (Or.inl rfl) (pe_bm0 PySem.F.plainAttrs_list PySem.F.slot_list_pop PySem.F.type_list_pop mt_pop (pv 6)))
      (pss_one (ps_expr (pe_bm PySem.F.plainAttrs_list PySem.F.slot_list_append PySem.F.type_list_append mt_append (pv 6) (pa_cons (pe_ifExp (pt_cmpR op_eq (pv 7) pe_str (nomark _)) (pe_and (pv 11) (pe_one (pv 10))) (pe_or (pv 11) (pe_one (pv 10)))) pa_nil)))))) (pss_one (ps_expr (pe_bm PySem.F.plainAttrs_list PySem.F.slot_list_append PySem.F.type_list_append mt_append (pv 6) (pa_cons (pe_cmpR op_eq (pv 7) pe_str (nomark _)) pa_nil)))))))))))
      (pss_one (ps_ret (pe_ix ix_list (pv 6) pe_int (fun _ _ => rfl)))))))), ?_⟩
    have hpl := hrow.len
    refine ⟨_, rfl, b, _, rfl, hb, rfl, _, _, rfl, _, _, rfl, _, _, rfl, rfl, ?_⟩
    refine fun d hd => ⟨_, rfl, _, rfl, _, rfl, upd_same, [(.inr (S wSystem), .str (S p.s)), (.inr (S wMachine), .str (S p.m)), (.inr (S wLevel), .int (p.v : Int))], (by rw [sys_t, mac_t, lvl_t]; rfl), by show 3 ≤ 15; decide, ?_⟩
    rw [fc_put, upd_upd]
    have s1 : Same H (upd H d (.dK (fcK p))) := same_new hd
    have hD : (upd H d (.dK (fcK p))) d = some (.dK (fcK p)) := upd_same
    revert s1 hD
    generalize upd H d (.dK (fcK p)) = H1
    intro s1 hD
    refine ⟨by show 0 ≤ sizeLine; decide, fun c hc0 => ?_⟩
    have s2 := s1.trans (same_new (o := .lst []) hc0)
    have hcH : H c = none := s1.free hc0
    have hD2 := (same_new (o := .lst []) hc0) _ _ hD
    refine ⟨_, rfl, a, rfl, ⟨_, sqT_keep s2 ha⟩, for_tup (K := K) (a := a) (xs := ps.map V.ref) (fun i σ H' => ∃ h o7 o8 o9 o10 o11, σ = [some (.ref a), some (.ref b), some (.str (S p.s)), some (.str (S p.m)), some (.int (p.v : Int)), some (.ref d), some (.ref c), o7, o8, o9, o10, o11] ∧ Same H H' ∧ H' d = some (.dK (fcK p)) ∧ H' c = some (.lst (bls h)) ∧ vlR (evT p) h (us.drop i) = some [x] ∧ h.length ≤ i)
      ⟨[], _, _, _, _, _, rfl, s2, hD2, upd_same, hv, Nat.le_refl _⟩ (fun i σ H' _ h => by
      obtain ⟨_, _, _, _, _, _, _, s3, _⟩ := h
      exact sqT_keep s3 ha) ?_ ?_⟩
    · rintro i v σ H2 hi ⟨h, o7, o8, o9, o10, o11, rfl, s3, hd3, hc3, hv3, hhl⟩
      rw [List.getElem?_map] at hi
      obtain ⟨pt, hpt, rfl⟩ : ∃ p, ps[i]? = some p ∧ v = V.ref p := by
        cases e : ps[i]? with
        | none =>
          rw [e] at hi
          cases hi
        | some p =>
          rw [e] at hi
          exact ⟨p, rfl, (Option.some.inj hi).symm⟩
      obtain ⟨t, ht, hst⟩ := (hrow.keep s3).at hpt
      have hil : i < 3000 := by
        have := (List.getElem?_eq_some_iff.mp ht).1
        omega
      have hct := hc t (List.mem_of_getElem? ht)
      obtain ⟨h', hm, hv4⟩ := vlR_at hv3 ht
      have dne : d ≠ c := fun e => by
        rw [e, hc3] at hd3
        cases hd3
      -- what is behind the append
      have fin : ∀ (G : Hp) (r : List Bool) (y : Bool) (o7 o8 o9 o10 o11 : Option V), h' = y :: r → Same H G → G d = some (.dK (fcK p)) → G c = some (.lst (bls r)) → r.length ≤ i →
          ∃ (l : Addr) (ys : List V) (z : V), V.ref c = .ref l ∧ [V.bl y] = [z] ∧ G l = some (.lst ys) ∧ ys.length < sizeLine ∧
          (∃ h o7' o8' o9' o10' o11', [some (.ref a), some (.ref b), some (.str (S p.s)), some (.str (S p.m)), some (.int (p.v : Int)), some (.ref d), some (.ref c), o7, o8, o9, o10, o11] = [some (V.ref a), some (.ref b), some (.str (S p.s)), some (.str (S p.m)), some (.int (p.v : Int)), some (.ref d), some (.ref c), o7', o8', o9', o10', o11'] ∧
            Same H (upd G l (.lst (ys ++ [z]))) ∧ (upd G l (.lst (ys ++ [z]))) d = some (.dK (fcK p)) ∧ (upd G l (.lst (ys ++ [z]))) c = some (.lst (bls h)) ∧ vlR (evT p) h (us.drop (i + 1)) = some [x] ∧ h.length ≤ i + 1) := by
        rintro G r y o7 o8 o9 o10 o11 rfl sG dG cG lr
        refine ⟨c, _, _, rfl, rfl, cG, by rw [bls_len]; exact szT (by omega), y :: r, _, _, _, _, _, rfl, same_upd sG hcH, ?_, ?_, hv4, by rw [List.length_cons]; omega⟩
        · rw [upd_ne dne]
          exact dG
        · rw [bls_cons]
          exact upd_same
      refine ⟨pt, _, rfl, hst, rfl, _, _, rfl, _, _, rfl, _, _, rfl, rfl, ?_⟩
      refine ⟨_, rfl, _, rfl, d, _, rfl, DGet.k (k := .inr (S t.w)) hd3, _, rfl, ?_⟩
      rw [fc_get]
      by_cases hf : t.w ∈ fieldL
      · have hs : (if t.w = wSystem then some (V.str (S p.s)) else if t.w = wMachine then some (.str (S p.m)) else if t.w = wLevel then some (.int (p.v : Int)) else none).isSome = true := by
          simp only [fieldL, List.mem_cons, List.not_mem_nil, or_false] at hf
          rcases hf with e | e | e
          · simp [e]
          · simp [e, show ¬ wMachine = wSystem by decide]
          · simp [e, show ¬ wLevel = wSystem by decide, show ¬ wLevel = wMachine by decide]
        rw [hs]
        obtain ⟨n1, n2, n3⟩ : t.w ≠ wNot ∧ t.w ≠ wAnd ∧ t.w ≠ wOr := (by decide : ∀ x ∈ fieldL, x ≠ wNot ∧ x ≠ wAnd ∧ x ≠ wOr) _ hf
        have hm' : h' = evT p t :: h := by
          unfold vlM at hm
          rw [if_neg n1, if_neg (fun e => e.elim n2 n3)] at hm
          exact (Option.some.inj hm).symm
        rcases hct hf with ⟨e, n, ev, es⟩ | ⟨e, y, ev, es⟩
        · have a1 : ¬ wLevel = wSystem := by decide
          have a2 : ¬ wLevel = wMachine := by decide
          have hE : evT p t = cmpN t.s p.v n := by
            unfold evT
            rw [e, if_neg a1, if_neg a2, if_pos rfl, ev]
          refine iteT ⟨_, rfl, .inl ⟨rfl, _, SqL.of hc3⟩, _, rfl, _, rfl, _, rfl, d, (.int (p.v : Int)), rfl, (by
            have g := DGet.k (k := .inr (S t.w)) hd3
            rw [fc_get, show (if t.w = wSystem then some (V.str (S p.s)) else if t.w = wMachine then some (.str (S p.m)) else if t.w = wLevel then some (.int (p.v : Int)) else none) = some (.int (p.v : Int)) by simp [e, a1, a2]] at g
            exact g), _, rfl, .inr ⟨t.s, p.v, n, (by rw [ev]; rfl), es, by rw [← hE]; exact fin H2 h (evT p t) _ _ _ _ _ hm' s3 hd3 hc3 hhl⟩⟩
        · rcases e with e | e
          · have hE : evT p t = cmpS t.s p.s y := by
              unfold evT
              rw [e, if_pos rfl, ev]
            refine iteT ⟨_, rfl, .inl ⟨rfl, _, SqL.of hc3⟩, _, rfl, _, rfl, _, rfl, d, (.str (S p.s)), rfl, (by
              have g := DGet.k (k := .inr (S t.w)) hd3
              rw [fc_get, show (if t.w = wSystem then some (V.str (S p.s)) else if t.w = wMachine then some (.str (S p.m)) else if t.w = wLevel then some (.int (p.v : Int)) else none) = some (.str (S p.s)) by simp [e]] at g
              exact g), _, rfl, .inl ⟨t.s, p.s, y, (by rw [ev]; rfl), es, by rw [← hE]; exact fin H2 h (evT p t) _ _ _ _ _ hm' s3 hd3 hc3 hhl⟩⟩
          · have a1 : ¬ wMachine = wSystem := by decide
            have hE : evT p t = cmpS t.s p.m y := by
              unfold evT
              rw [e, if_neg a1, if_pos rfl, ev]
            refine iteT ⟨_, rfl, .inl ⟨rfl, _, SqL.of hc3⟩, _, rfl, _, rfl, _, rfl, d, (.str (S p.m)), rfl, (by
              have g := DGet.k (k := .inr (S t.w)) hd3
              rw [fc_get, show (if t.w = wSystem then some (V.str (S p.s)) else if t.w = wMachine then some (.str (S p.m)) else if t.w = wLevel then some (.int (p.v : Int)) else none) = some (.str (S p.m)) by simp [e, a1]] at g
              exact g), _, rfl, .inl ⟨t.s, p.m, y, (by rw [ev]; rfl), es, by rw [← hE]; exact fin H2 h (evT p t) _ _ _ _ _ hm' s3 hd3 hc3 hhl⟩⟩
      · have hs : (if t.w = wSystem then some (V.str (S p.s)) else if t.w = wMachine then some (.str (S p.m)) else if t.w = wLevel then some (.int (p.v : Int)) else none) = none := by
          have a1 : t.w ≠ wSystem := fun e => hf (by rw [e]; decide)
          have a2 : t.w ≠ wMachine := fun e => hf (by rw [e]; decide)
          have a3 : t.w ≠ wLevel := fun e => hf (by rw [e]; decide)
          simp [a1, a2, a3]
        rw [hs]
        unfold vlM at hm
        refine iteF ⟨_, rfl, rfl, _, rfl, ?_⟩
        rw [not_t, eq_S]
        refine ite2 (fun h1 => ?_) (fun h1 => ?_)
        · rw [if_pos (of_decide_eq_true h1)] at hm
          cases h with
          | nil => cases hm
          | cons z r =>
            cases hm
            rw [bls_cons] at hc3
            refine ⟨_, rfl, .inl ⟨rfl, _, SqL.of hc3⟩, _, rfl, .inl ⟨rfl, _, SqL.of hc3⟩, c, _, V.bl z, rfl, rfl, hc3, by simp, _, rfl, ?_⟩
            rw [List.dropLast_concat]
            exact fin _ r (!z) _ _ _ _ _ rfl (same_upd s3 hcH) (by rw [upd_ne dne]; exact hd3) upd_same (by rw [List.length_cons] at hhl; omega)
        · rw [if_neg (of_decide_eq_false (Bool.eq_false_iff.mpr h1))] at hm
          refine ⟨_, rfl, rfl, _, rfl, ?_⟩
          rw [and_t, eq_S]
          by_cases hw : t.w = wAnd ∨ t.w = wOr
          · rw [if_pos hw] at hm
            match h, hm, hc3, hhl with
            | y :: z :: r, hm, hc3, hhl =>
              cases hm
              rw [bls_cons] at hc3
              refine or_split (fun hf k => ⟨_, rfl, rfl, _, rfl, by
                rw [or_t, eq_S, decide_eq_true (hw.resolve_left (of_decide_eq_false hf))]
                exact k⟩) (iteT ?_)
              refine ⟨_, rfl, .inl ⟨rfl, _, SqL.of hc3⟩, c, _, V.bl y, rfl, rfl, hc3, by simp, ?_⟩
              rw [List.dropLast_concat]
              have hc4 : (upd H2 c (.lst (bls (z :: r)))) c = some (.lst (bls (z :: r))) := upd_same
              have hd4 : (upd H2 c (.lst (bls (z :: r)))) d = some (.dK (fcK p)) := by rw [upd_ne dne]; exact hd3
              have s4 : Same H (upd H2 c (.lst (bls (z :: r)))) := same_upd s3 hcH
              revert hc4 hd4 s4
              generalize upd H2 c (.lst (bls (z :: r))) = H3
              intro hc4 hd4 s4
              rw [bls_cons] at hc4
              refine ⟨_, rfl, .inl ⟨rfl, _, SqL.of hc4⟩, c, _, V.bl z, rfl, rfl, hc4, by simp, ?_⟩
              rw [List.dropLast_concat]
              have hc5 : (upd H3 c (.lst (bls r))) c = some (.lst (bls r)) := upd_same
              have hd5 : (upd H3 c (.lst (bls r))) d = some (.dK (fcK p)) := by rw [upd_ne dne]; exact hd4
              have s5 : Same H (upd H3 c (.lst (bls r))) := same_upd s4 hcH
              revert hc5 hd5 s5
              generalize upd H3 c (.lst (bls r)) = H4
              intro hc5 hd5 s5
              refine ⟨_, rfl, .inl ⟨rfl, _, SqL.of hc5⟩, _, rfl, rfl, decide (t.w = wAnd), (by
                show V.bl (decide (V.str (S t.w) = V.str (("and" : String) : Str))) = _
                rw [and_t, eq_S]), ?_⟩
              have lr : r.length ≤ i := by
                simp only [List.length_cons] at hhl
                omega
              by_cases hw2 : t.w = wAnd
              · rw [decide_eq_true hw2]
                have e1 : (if t.w = wAnd then z && y else z || y) = (z && y) := if_pos hw2
                cases z with
                | true => exact iteT ⟨_, rfl, _, rfl, iteT ⟨_, rfl, fin H4 r y _ _ _ _ _ (by rw [e1]; rfl) s5 hd5 hc5 lr⟩⟩
                | false => exact iteT ⟨_, rfl, _, rfl, iteF (fin H4 r false _ _ _ _ _ (by rw [e1]; rfl) s5 hd5 hc5 lr)⟩
              · rw [decide_eq_false hw2]
                have e1 : (if t.w = wAnd then z && y else z || y) = (z || y) := if_neg hw2
                cases z with
                | true => exact iteF ⟨_, rfl, _, rfl, iteT (fin H4 r true _ _ _ _ _ (by rw [e1]; rfl) s5 hd5 hc5 lr)⟩
                | false => exact iteF ⟨_, rfl, _, rfl, iteF ⟨_, rfl, fin H4 r y _ _ _ _ _ (by rw [e1]; rfl) s5 hd5 hc5 lr⟩⟩
            | [], hm, hc3, hhl => cases hm
            | [y], hm, hc3, hhl => cases hm
          · rw [if_neg hw] at hm
            have hwa : t.w ≠ wAnd := fun e => hw (.inl e)
            have hwo : t.w ≠ wOr := fun e => hw (.inr e)
            rw [decide_eq_false hwa]
            refine ⟨_, rfl, rfl, _, rfl, ?_⟩
            rw [or_t, eq_S, decide_eq_false hwo]
            have e1 : evT p t = decide (t.w = wAlways) := by
              unfold evT
              rw [if_neg (fun e => hf (by rw [e]; decide)), if_neg (fun e => hf (by rw [e]; decide)), if_neg (fun e => hf (by rw [e]; decide))]
            refine ⟨_, rfl, .inl ⟨rfl, _, SqL.of hc3⟩, _, rfl, rfl, ?_⟩
            have e2 : decide (V.str (S t.w) = V.str (("always" : String) : Str)) = evT p t := by rw [alw_t2, eq_S, e1]
            exact fin H2 h (decide (V.str (S t.w) = V.str (("always" : String) : Str))) _ _ _ _ _ (by rw [e2]; exact (Option.some.inj hm).symm) s3 hd3 hc3 hhl
    · rintro σ H2 ⟨h, o7, o8, o9, o10, o11, rfl, s3, hd3, hc3, hv3, hhl⟩
      have el : us.drop (ps.map V.ref).length = [] := by
        rw [List.length_map, hpl, List.drop_length]
      rw [el] at hv3
      obtain rfl : h = [x] := Option.some.inj hv3
      exact ⟨_, rfl, c, _, _, _, rfl, rfl, SqL.of hc3, rfl, q H2 s3⟩
end

/-! ### the law's own holding -/
section
variable {P : Program} {w : World} {K : PySem.W.Frag} {mg : Str → Option Value} {base : Heap} {D : Ad}
open TL SX
def sgV (s : Txt) (a b : Nat) : Bool := cmpN s a b
def idxF (f : Txt) : Nat := if f = wSystem then 0 else if f = wMachine then 1 else 2
theorem en_v : ([.str "==", .str "!="] : List V) = ([[61, 61], [33, 61]] : List Txt).map fun l => V.str (S l) := by decide +kernel
theorem lt_v : ([.str "<", .str "<="] : List V) = ([[60], [60, 61]] : List Txt).map fun l => V.str (S l) := by decide +kernel
theorem eqv_S (a b : Txt) : eqV (.str (S a)) (.str (S b)) = decide (a = b) := by
  rw [Bool.eq_iff_iff, decide_eq_true_eq]
  exact ⟨fun e => S_inj (by simpa [eqV] using e), fun e => by rw [e]; simp [eqV]⟩
theorem bb_eq (a b : Bool) : decide (V.bl a = V.bl b) = decide (a = b) := decide_eq_decide.mpr ⟨fun e => V.bl.inj e, fun e => by rw [e]⟩
theorem w_eqS {sg : Txt} (a b : Txt) (h : sg = [61, 61] ∨ sg = [33, 61]) : decide (V.bl (decide (V.str (S a) = V.str (S b))) = V.bl (decide (V.str (S sg) = V.str (("==" : String) : Str)))) = cmpS sg a b := by
  rw [sg_eq, eq_S, eq_S, bb_eq]
  rcases h with rfl | rfl <;> by_cases e : a = b <;> simp [cmpS, e]
theorem w_eqN {sg : Txt} (a b : Nat) (h : sg = [61, 61] ∨ sg = [33, 61]) : decide (V.bl (decide (V.int (a : Int) = V.int (b : Int))) = V.bl (decide (V.str (S sg) = V.str (("==" : String) : Str)))) = cmpN sg a b := by
  rw [sg_eq, eq_S, nn_eq, bb_eq]
  rcases h with rfl | rfl <;> by_cases e : a = b <;> simp [cmpN, e]
def spV (p : Spt) : List V := [.str (S p.s), .str (S p.m), .int (p.v : Int)]
def spHold (n : Nat) : Sp := fun vs H Q _ => ∃ (a b : Addr) (t : Tr) (p : Spt), vs = [.ref a, .ref b] ∧ Tre H a t ∧ t.dep < n ∧ (∀ x ∈ t.lvs, GT x) ∧ H b = some (.tup (spV p)) ∧ ∀ H', Same H H' → Q (.bl (t.val (evT p))) H'
theorem ok_holds (T : TexW w K mg D) : ∀ n, FnOk P w K mg base CX0 n D.a_holds D.d_holds P_holds (spHold n) := by
  intro n
  induction n with
  | zero => exact ⟨fun _ _ _ _ ⟨_, _, _, _, _, _, h, _⟩ => absurd h (Nat.not_lt_zero _), fun _ _ _ _ _ _ _ _ _ _ _ _ _ ⟨_, _, _, _, _, _, h, _⟩ => absurd h (Nat.not_lt_zero _)⟩
  | succ n G_holds =>
    refine T.holds_F.ok S_holds (fun vs H Q E h => ?_) (fun cdv A outer s H vs Q E hr h => ?_)
    · obtain ⟨a, b, t, p, rfl, _⟩ := h
      rfl
    · obtain ⟨a, b, t, p, rfl, ht, hd, hg, hb, q⟩ := h
      refine ⟨_, (pss_cons (ps_if (pt_cmpR op_eq (pe_ix ix_tup (pv 0) pe_int (fun _ _ => rfl)) pe_str (nomark _)) (pss_one (ps_ret (pe_ix ix_tup (pv 0) pe_int (fun _ _ => rfl)))) pss_nil)
      (pss_cons (ps_if (pt_cmpR op_eq (pe_ix ix_tup (pv 0) pe_int (fun _ _ => rfl)) pe_str (nomark _)) (pss_one (ps_ret (pe_not (pe_call G_holds (hr.mono (by omega)) (by rfl) T.holds_g T.holds_F.kp T.holds_b .nil pass0 (pa_cons (pe_ix ix_tup (pv 0) pe_int (fun _ _ => rfl)) (pa_cons (pv 1) pa_nil)))))) pss_nil)
      (pss_cons (ps_if (pt_cmpR op_in_seq (pe_ix ix_tup (pv 0) pe_int (fun _ _ => rfl)) (pe_tup (pa_cons pe_str (pa_cons pe_str pa_nil))) rfl) (pss_cons (ps_par (i := 2) (j := 3) (by rfl) S_holds.nd rfl rfl (by decide) rfl rfl (pa_cons (pe_call G_holds (hr.mono (by omega)) (by rfl) T.holds_g T.holds_F.kp T.holds_b .nil pass0 (pa_cons (pe_ix ix_tup (pv 0) pe_int (fun _ _ => rfl)) (pa_cons (pv 1) pa_nil))) (pa_cons (pe_call G_holds (hr.mono (by omega)) (by rfl) T.holds_g T.holds_F.kp T.holds_b .nil pass0 (pa_cons (pe_ix ix_tup (pv 0) pe_int (fun _ _ => rfl)) (pa_cons (pv 1) pa_nil))) pa_nil)) (by rfl))
      (pss_one (ps_ret (pe_ifExp (pt_cmpR op_eq (pe_ix ix_tup (pv 0) pe_int (fun _ _ => rfl)) pe_str (nomark _)) (pe_and (pv 2) (pe_one (pv 3))) (pe_or (pv 2) (pe_one (pv 3))))))) pss_nil)
      (pss_cons (ps_par (i := 4) (j := 5) (by rfl) S_holds.nd rfl rfl (by decide) rfl rfl (pa_cons (pe_ix ix_tup (pv 1) (pe_bm PySem.F.plainAttrs_list PySem.F.slot_list_index PySem.F.type_list_index mt_index (pe_lst (pa_cons pe_str (pa_cons pe_str (pa_cons pe_str pa_nil)))) (pa_cons (pe_ix ix_tup (pv 0) pe_int (fun _ _ => rfl)) pa_nil)) (fun _ _ => rfl)) (pa_cons (pe_ix ix_tup (pv 0) pe_int (fun _ _ => rfl)) pa_nil)) (by rfl))
      (pss_cons (ps_if (pt_cmpR op_in_seq (pe_ix ix_tup (pv 0) pe_int (fun _ _ => rfl)) (pe_tup (pa_cons pe_str (pa_cons pe_str pa_nil))) rfl) (pss_one (ps_ret (pe_cmpR op_eq (pe_cmpR op_eq (pv 4) (pv 5) (nomark _)) (pe_cmpR op_eq (pe_ix ix_tup (pv 0) pe_int (fun _ _ => rfl)) pe_str (nomark _)) (nomark _)))) pss_nil)
      (pss_cons (ps_if (pt_cmpR op_in_seq (pe_ix ix_tup (pv 0) pe_int (fun _ _ => rfl)) (pe_tup (pa_cons pe_str (pa_cons pe_str pa_nil))) rfl) (pss_one (ps_ret (pe_or (pe_cmpR op_lt (pv 4) (pv 5) (nomark _)) (pe_one (pe_and (pe_cmpR op_eq (pe_ix ix_tup (pv 0) pe_int (fun _ _ => rfl)) pe_str (nomark _)) (pe_one (pe_cmpR op_eq (pv 4) (pv 5) (nomark _)))))))) pss_nil)
      (pss_one (ps_ret (pe_or (pe_cmpR op_gt (pv 4) (pv 5) (nomark _)) (pe_one (pe_and (pe_cmpR op_eq (pe_ix ix_tup (pv 0) pe_int (fun _ _ => rfl)) pe_str (nomark _)) (pe_one (pe_cmpR op_eq (pv 4) (pv 5) (nomark _)))))))))))))), ?_⟩
      have all_t : (("all" : String) : Str) = S [97, 108, 108] := by decide +kernel
      have is_t : (("is" : String) : Str) = S [105, 115] := by decide +kernel
      cases ht with
      | all bb h =>
        refine ⟨_, rfl, a, _, _, _, rfl, rfl, sqT_of h, rfl, rfl, _, rfl, ?_⟩
        rw [show decide (V.str (("all" : String) : Str) = V.str (("all" : String) : Str)) = true by decide]
        refine iteT ⟨_, rfl, a, _, _, _, rfl, rfl, sqT_of h, rfl, ?_⟩
        have e : evT p (opT (if bb = true then wAlways else wNever)) = bb := by cases bb <;> rfl
        have q' := q H (Same.refl H)
        rw [show (Tr.lf (opT (if bb = true then wAlways else wNever))).val (evT p) = bb from e] at q'
        exact q'
      | @is _ f sg v h hf =>
        have hgt := hg ⟨f, sg, v⟩ (by simp [Tr.lvs])
        have hc := hgt.ok.cmp hf
        refine ⟨_, rfl, a, _, _, _, rfl, rfl, sqT_of h, rfl, rfl, _, rfl, ?_⟩
        rw [show decide (V.str (("is" : String) : Str) = V.str (("all" : String) : Str)) = false by decide +kernel]
        refine iteF ⟨_, rfl, a, _, _, _, rfl, rfl, sqT_of h, rfl, rfl, _, rfl, ?_⟩
        rw [show decide (V.str (("is" : String) : Str) = V.str (("not" : String) : Str)) = false by decide +kernel]
        refine iteF ⟨_, rfl, a, _, _, _, rfl, rfl, sqT_of h, rfl, by show 2 ≤ sizeLine; decide, fun r2 hr2 => ⟨r2, _, rfl, .inr (sqT_of upd_same), rfl, rfl, _, rfl, ?_⟩⟩
        have s1 := same_new (o := .tup (([wAnd, wOr] : List Txt).map fun l => V.str (S l))) hr2
        rw [is_t, ao_v, if_neg (by decide : ¬ (false = true)), inV_S]
        have h1 := s1 _ _ h
        have hb1 := s1 _ _ hb
        revert s1 h1 hb1
        generalize upd H r2 _ = H1
        intro s1 h1 hb1
        rcases hc with ⟨e, n, ev, es⟩ | ⟨e, y, ev, es⟩
        · change f = wLevel at e
          change v = .inr n at ev
          subst e ev
          change sg ∈ lvSigns at es
          refine iteF ⟨_, rfl, by show 3 ≤ sizeLine; decide, fun l hl => ?_⟩
          have s2 := same_new (o := .lst [V.str (("system" : String) : Str), .str (("machine" : String) : Str), .str (("level" : String) : Str)]) hl
          refine ⟨.inl ⟨rfl, _, SqL.of upd_same⟩, _, rfl, a, _, _, _, rfl, rfl, sqT_of (s2 _ _ h1), rfl, l, _, _, 2, _, rfl, rfl, SqL.of upd_same, rfl, rfl, rfl, by decide +kernel, (fun m z' hm hz => by
              match m, hm, hz with
              | 0, _, hz => rw [← Option.some.inj hz]; decide +kernel
              | 1, _, hz => rw [← Option.some.inj hz]; decide +kernel
              | m + 2, hm, _ => omega), b, _, _, _, rfl, rfl, sqT_of (s2 _ _ hb1), rfl, _, rfl, a, _, _, _, rfl, rfl, sqT_of (s2 _ _ h1), rfl, _, _, rfl, nx_to ?_⟩
          have h2 := s2 _ _ h1
          have s3 := s1.trans s2
          clear s1 s2 h1 hb1
          revert s3 h2
          generalize upd H1 l _ = H2
          intro h2 s3
          refine ⟨_, rfl, a, _, _, _, rfl, rfl, sqT_of h2, rfl, by show 2 ≤ sizeLine; decide, fun r3 hr3 => ⟨r3, _, rfl, .inr (sqT_of upd_same), rfl, rfl, _, rfl, ?_⟩⟩
          have s4 := same_new (o := .tup (([[61, 61], [33, 61]] : List Txt).map fun l => V.str (S l))) hr3
          rw [en_v, if_neg (by decide : ¬ (false = true)), inV_S]
          have h3 := s4 _ _ h2
          have s5 := s3.trans s4
          clear s3 s4 h2
          revert s5 h3
          generalize upd H2 r3 _ = H3
          intro h3 s5
          have q' := q H3 s5
          have hE : (Tr.lf ⟨wLevel, sg, .inr n⟩).val (evT p) = cmpN sg p.v n := rfl
          rw [hE] at q'
          by_cases h4 : sg = [61, 61] ∨ sg = [33, 61]
          · rw [decide_eq_true (show sg ∈ ([[61, 61], [33, 61]] : List Txt) by rcases h4 with rfl | rfl <;> decide)]
            refine iteT ⟨_, rfl, _, rfl, rfl, _, rfl, a, _, _, _, rfl, rfl, sqT_of h3, rfl, rfl, rfl, ?_⟩
            rw [← w_eqN _ _ h4] at q'
            exact q'
          · rw [decide_eq_false (show ¬ sg ∈ ([[61, 61], [33, 61]] : List Txt) from fun m => h4 (by simpa using m))]
            refine iteF ⟨_, rfl, a, _, _, _, rfl, rfl, sqT_of h3, rfl, by show 2 ≤ sizeLine; decide, fun r4 hr4 => ⟨r4, _, rfl, .inr (sqT_of upd_same), rfl, rfl, _, rfl, ?_⟩⟩
            have s6 := same_new (o := .tup (([[60], [60, 61]] : List Txt).map fun l => V.str (S l))) hr4
            rw [lt_v, if_neg (by decide : ¬ (false = true)), inV_S]
            have h5 := s6 _ _ h3
            have s7 := s5.trans s6
            have q' : Q (.bl (cmpN sg p.v n)) (upd H3 r4 (.tup (([[60], [60, 61]] : List Txt).map fun l => V.str (S l)))) := by
              rw [← hE]
              exact q _ s7
            clear s5 s6 h3
            revert s7 h5 q'
            generalize upd H3 r4 _ = H4
            intro h5 s7 q'
            simp only [lvSigns, List.mem_cons, List.not_mem_nil, or_false] at es
            rcases es with rfl | rfl | rfl | rfl | rfl | rfl
            · exact absurd (.inl rfl) h4
            · exact absurd (.inr rfl) h4
            · refine iteT ⟨_, rfl, _, rfl, _, _, rfl, rfl, decide (p.v < n), (by
                show V.bl (decide ((p.v : Int) < (n : Int))) = _
                rw [show decide ((p.v : Int) < (n : Int)) = decide (p.v < n) from decide_eq_decide.mpr (by omega)]), ?_⟩
              by_cases hlt : p.v < n
              · rw [decide_eq_true hlt]
                have e : cmpN [60] p.v n = true := by
                  unfold cmpN
                  simp [hlt, Nat.le_of_lt hlt]
                rw [e] at q'
                exact iteT q'
              · rw [decide_eq_false hlt]
                refine iteF ⟨_, rfl, a, _, _, _, rfl, rfl, sqT_of h5, rfl, rfl, _, rfl, ?_⟩
                have e : cmpN [60] p.v n = false := by
                  unfold cmpN
                  simp [hlt]
                  try omega
                rw [e] at q'
                exact iteF q'
            · refine iteT ⟨_, rfl, _, rfl, _, _, rfl, rfl, decide (p.v < n), (by
                show V.bl (decide ((p.v : Int) < (n : Int))) = _
                rw [show decide ((p.v : Int) < (n : Int)) = decide (p.v < n) from decide_eq_decide.mpr (by omega)]), ?_⟩
              by_cases hlt : p.v < n
              · rw [decide_eq_true hlt]
                have e : cmpN [60, 61] p.v n = true := by
                  unfold cmpN
                  simp [hlt, Nat.le_of_lt hlt]
                rw [e] at q'
                exact iteT q'
              · rw [decide_eq_false hlt]
                refine iteF ⟨_, rfl, a, _, _, _, rfl, rfl, sqT_of h5, rfl, rfl, _, rfl, iteT ⟨_, rfl, _, rfl, rfl, ?_⟩⟩
                have e : cmpN [60, 61] p.v n = decide (p.v = n) := by
                  unfold cmpN
                  simp
                  omega
                rw [e, ← nn_eq] at q'
                exact q'
            · refine iteF ⟨_, rfl, _, rfl, _, _, rfl, rfl, decide (n < p.v), (by
                show V.bl (decide ((n : Int) < (p.v : Int))) = _
                rw [show decide ((n : Int) < (p.v : Int)) = decide (n < p.v) from decide_eq_decide.mpr (by omega)]), ?_⟩
              by_cases hlt : n < p.v
              · rw [decide_eq_true hlt]
                have e : cmpN [62] p.v n = true := by
                  unfold cmpN
                  simp [hlt, Nat.le_of_lt hlt]
                rw [e] at q'
                exact iteT q'
              · rw [decide_eq_false hlt]
                refine iteF ⟨_, rfl, a, _, _, _, rfl, rfl, sqT_of h5, rfl, rfl, _, rfl, ?_⟩
                have e : cmpN [62] p.v n = false := by
                  unfold cmpN
                  simp [hlt]
                  try omega
                rw [e] at q'
                exact iteF q'
            · refine iteF ⟨_, rfl, _, rfl, _, _, rfl, rfl, decide (n < p.v), (by
                show V.bl (decide ((n : Int) < (p.v : Int))) = _
                rw [show decide ((n : Int) < (p.v : Int)) = decide (n < p.v) from decide_eq_decide.mpr (by omega)]), ?_⟩
              by_cases hlt : n < p.v
              · rw [decide_eq_true hlt]
                have e : cmpN [62, 61] p.v n = true := by
                  unfold cmpN
                  simp [hlt, Nat.le_of_lt hlt]
                rw [e] at q'
                exact iteT q'
              · rw [decide_eq_false hlt]
                refine iteF ⟨_, rfl, a, _, _, _, rfl, rfl, sqT_of h5, rfl, rfl, _, rfl, iteT ⟨_, rfl, _, rfl, rfl, ?_⟩⟩
                have e : cmpN [62, 61] p.v n = decide (p.v = n) := by
                  unfold cmpN
                  simp
                  omega
                rw [e, ← nn_eq] at q'
                exact q'
        · rcases e with e | e
          · change f = wSystem at e
            change v = .inl y at ev
            subst e ev
            change sg = [61, 61] ∨ sg = [33, 61] at es
            refine iteF ⟨_, rfl, by show 3 ≤ sizeLine; decide, fun l hl => ?_⟩
            have s2 := same_new (o := .lst [V.str (("system" : String) : Str), .str (("machine" : String) : Str), .str (("level" : String) : Str)]) hl
            refine ⟨.inl ⟨rfl, _, SqL.of upd_same⟩, _, rfl, a, _, _, _, rfl, rfl, sqT_of (s2 _ _ h1), rfl, l, _, _, 0, _, rfl, rfl, SqL.of upd_same, rfl, rfl, rfl, by decide +kernel, (fun m z' hm => absurd hm (Nat.not_lt_zero _)), b, _, _, _, rfl, rfl, sqT_of (s2 _ _ hb1), rfl, _, rfl, a, _, _, _, rfl, rfl, sqT_of (s2 _ _ h1), rfl, _, _, rfl, nx_to ?_⟩
            have h2 := s2 _ _ h1
            have s3 := s1.trans s2
            clear s1 s2 h1 hb1
            revert s3 h2
            generalize upd H1 l _ = H2
            intro h2 s3
            refine ⟨_, rfl, a, _, _, _, rfl, rfl, sqT_of h2, rfl, by show 2 ≤ sizeLine; decide, fun r3 hr3 => ⟨r3, _, rfl, .inr (sqT_of upd_same), rfl, rfl, _, rfl, ?_⟩⟩
            have s4 := same_new (o := .tup (([[61, 61], [33, 61]] : List Txt).map fun l => V.str (S l))) hr3
            rw [en_v, if_neg (by decide : ¬ (false = true)), inV_S]
            have h3 := s4 _ _ h2
            have s5 := s3.trans s4
            clear s3 s4 h2
            revert s5 h3
            generalize upd H2 r3 _ = H3
            intro h3 s5
            have q' := q H3 s5
            have hE : (Tr.lf ⟨wSystem, sg, .inl y⟩).val (evT p) = cmpS sg p.s y := rfl
            rw [hE] at q'
            rw [decide_eq_true (show sg ∈ ([[61, 61], [33, 61]] : List Txt) by rcases es with rfl | rfl <;> decide)]
            refine iteT ⟨_, rfl, _, rfl, rfl, _, rfl, a, _, _, _, rfl, rfl, sqT_of h3, rfl, rfl, rfl, ?_⟩
            rw [← w_eqS _ _ es] at q'
            exact q'
          · change f = wMachine at e
            change v = .inl y at ev
            subst e ev
            change sg = [61, 61] ∨ sg = [33, 61] at es
            refine iteF ⟨_, rfl, by show 3 ≤ sizeLine; decide, fun l hl => ?_⟩
            have s2 := same_new (o := .lst [V.str (("system" : String) : Str), .str (("machine" : String) : Str), .str (("level" : String) : Str)]) hl
            refine ⟨.inl ⟨rfl, _, SqL.of upd_same⟩, _, rfl, a, _, _, _, rfl, rfl, sqT_of (s2 _ _ h1), rfl, l, _, _, 1, _, rfl, rfl, SqL.of upd_same, rfl, rfl, rfl, by decide +kernel, (fun m z' hm hz => by
                match m, hm, hz with
                | 0, _, hz => rw [← Option.some.inj hz]; decide +kernel
                | m + 1, hm, _ => omega), b, _, _, _, rfl, rfl, sqT_of (s2 _ _ hb1), rfl, _, rfl, a, _, _, _, rfl, rfl, sqT_of (s2 _ _ h1), rfl, _, _, rfl, nx_to ?_⟩
            have h2 := s2 _ _ h1
            have s3 := s1.trans s2
            clear s1 s2 h1 hb1
            revert s3 h2
            generalize upd H1 l _ = H2
            intro h2 s3
            refine ⟨_, rfl, a, _, _, _, rfl, rfl, sqT_of h2, rfl, by show 2 ≤ sizeLine; decide, fun r3 hr3 => ⟨r3, _, rfl, .inr (sqT_of upd_same), rfl, rfl, _, rfl, ?_⟩⟩
            have s4 := same_new (o := .tup (([[61, 61], [33, 61]] : List Txt).map fun l => V.str (S l))) hr3
            rw [en_v, if_neg (by decide : ¬ (false = true)), inV_S]
            have h3 := s4 _ _ h2
            have s5 := s3.trans s4
            clear s3 s4 h2
            revert s5 h3
            generalize upd H2 r3 _ = H3
            intro h3 s5
            have q' := q H3 s5
            have hE : (Tr.lf ⟨wMachine, sg, .inl y⟩).val (evT p) = cmpS sg p.m y := rfl
            rw [hE] at q'
            rw [decide_eq_true (show sg ∈ ([[61, 61], [33, 61]] : List Txt) by rcases es with rfl | rfl <;> decide)]
            refine iteT ⟨_, rfl, _, rfl, rfl, _, rfl, a, _, _, _, rfl, rfl, sqT_of h3, rfl, rfl, rfl, ?_⟩
            rw [← w_eqS _ _ es] at q'
            exact q'
      | @no _ p1 t1 h r =>
        refine ⟨_, rfl, a, _, _, _, rfl, rfl, sqT_of h, rfl, rfl, _, rfl, ?_⟩
        rw [show decide (V.str (("not" : String) : Str) = V.str (("all" : String) : Str)) = false by decide +kernel]
        refine iteF ⟨_, rfl, a, _, _, _, rfl, rfl, sqT_of h, rfl, rfl, _, rfl, ?_⟩
        rw [show decide (V.str (("not" : String) : Str) = V.str (("not" : String) : Str)) = true by decide]
        have hd1 : t1.dep + 1 < n + 1 := hd
        refine iteT ⟨_, rfl, a, _, _, _, rfl, rfl, sqT_of h, rfl, _, rfl, p1, b, t1, p, rfl, r, by omega, hg, hb, fun H1 s1 => ⟨_, rfl, ?_⟩⟩
        exact q H1 s1
      | @bi _ p1 p2 o t1 t2 h x y =>
        have n1 : ∀ (a : Bool) (k : String), k ∈ ["all", "not"] → decide (V.str (S (wOp a)) = V.str (Str.ofString k)) = false := by decide +kernel
        have hd1 : max t1.dep t2.dep + 1 < n + 1 := hd
        refine ⟨_, rfl, a, _, _, _, rfl, rfl, sqT_of h, rfl, rfl, _, rfl, ?_⟩
        rw [show decide (V.str (S (wOp o)) = V.str (("all" : String) : Str)) = false from n1 o "all" (by simp)]
        refine iteF ⟨_, rfl, a, _, _, _, rfl, rfl, sqT_of h, rfl, rfl, _, rfl, ?_⟩
        rw [show decide (V.str (S (wOp o)) = V.str (("not" : String) : Str)) = false from n1 o "not" (by simp)]
        refine iteF ⟨_, rfl, a, _, _, _, rfl, rfl, sqT_of h, rfl, by show 2 ≤ sizeLine; decide, fun r2 hr2 => ⟨r2, _, rfl, .inr (sqT_of upd_same), rfl, rfl, _, rfl, ?_⟩⟩
        have s1 := same_new (o := .tup [V.str (("and" : String) : Str), .str (("or" : String) : Str)]) hr2
        rw [ao_v, if_neg (by decide : ¬ (false = true)), inV_S]
        have h1 := s1 _ _ h
        have hb1 := s1 _ _ hb
        rw [← ao_v]
        revert s1 h1 hb1
        generalize upd H r2 _ = H1
        intro s1 h1 hb1
        rw [show decide (wOp o ∈ [wAnd, wOr]) = true by cases o <;> decide]
        refine iteT ⟨_, rfl, a, _, _, _, rfl, rfl, sqT_of h1, rfl, _, rfl, p1, b, t1, p, rfl, x.keep (tk_same s1), by omega, (fun z hz => hg z (by simp [Tr.lvs, hz])), hb1, fun H2 s2 => ?_⟩
        refine ⟨_, rfl, a, _, _, _, rfl, rfl, sqT_of (s2 _ _ h1), rfl, _, rfl, p2, b, t2, p, rfl, y.keep (tk_same (s1.trans s2)), by omega, (fun z hz => hg z (by simp [Tr.lvs, hz])), s2 _ _ hb1, fun H3 s3 => ⟨_, _, rfl, nx_to ?_⟩⟩
        have q' := q H3 ((s1.trans s2).trans s3)
        refine ⟨_, rfl, a, _, _, _, rfl, rfl, sqT_of (s3 _ _ (s2 _ _ h1)), rfl, rfl, _, rfl, ?_⟩
        rw [and_t, eq_S]
        cases o with
        | true =>
          rw [show decide (wOp true = wAnd) = true by decide]
          have e : (Tr.bi true t1 t2).val (evT p) = (t1.val (evT p) && t2.val (evT p)) := rfl
          rw [e] at q'
          cases hv : t1.val (evT p) with
          | true =>
            rw [hv] at q'
            exact iteT ⟨_, rfl, _, rfl, iteT ⟨_, rfl, q'⟩⟩
          | false =>
            rw [hv] at q'
            exact iteT ⟨_, rfl, _, rfl, iteF q'⟩
        | false =>
          rw [show decide (wOp false = wAnd) = false by decide]
          have e : (Tr.bi false t1 t2).val (evT p) = (t1.val (evT p) || t2.val (evT p)) := rfl
          rw [e] at q'
          cases hv : t1.val (evT p) with
          | true =>
            rw [hv] at q'
            exact iteF ⟨_, rfl, _, rfl, iteT q'⟩
          | false =>
            rw [hv] at q'
            exact iteF ⟨_, rfl, _, rfl, iteF ⟨_, rfl, q'⟩⟩
end

/-! ## What stands but dicts -/
section
variable {P : Program} {w : World} {K : PySem.W.Frag} {mg : Str → Option Value} {base : Heap} {D : Ad}
open TL SX
/-- what stands but dicts -/
def Kp (H H' : Hp) : Prop := ∀ b o, H b = some o → (∀ kvs, o ≠ .dK kvs) → H' b = some o
theorem kp_same {H H' : Hp} (s : Same H H') : Kp H H' := fun b o e _ => s b o e
theorem kp_but {H H' : Hp} {d c : Addr} {n : Nat} (h : Dr H d c n) (s : But d H H') : Kp H H' := fun b o e ne => s b o e (fun q => by
  obtain ⟨_, _, _, _, ho, _⟩ := h
  rw [q, ho] at e
  cases e
  exact ne _ rfl)
theorem Kp.trans {H H1 H2 : Hp} (x : Kp H H1) (y : Kp H1 H2) : Kp H H2 := fun b o e n => y b o (x b o e n) n
theorem Kp.tk {H H' : Hp} (k : Kp H H') : TK H H' := fun b xs e => k b _ e (fun _ z => nomatch z)
theorem sqT_kp {H H' : Hp} {b : Addr} {xs : List V} (k : Kp H H') (h : SqT K H b xs) : SqT K H' b xs := by
  rcases h with (h | ⟨o, h⟩) | h
  · exact .inl (.inl (k _ _ h (fun _ z => nomatch z)))
  · exact .inl (.inr ⟨o, k _ _ h (fun _ z => nomatch z)⟩)
  · exact .inr h
theorem Row.kp {H H' : Hp} (k : Kp H H') : ∀ {ps : List Addr} {ts : List Tm}, Row K H ps ts → Row K H' ps ts
  | [], [], _ => trivial
  | _ :: _, _ :: _, h => ⟨sqT_kp k h.1, Row.kp k h.2⟩
  | [], _ :: _, h => h.elim
  | _ :: _, [], h => h.elim
theorem Mkr.kp {C m : Addr} {H H' : Hp} {us : List Tm} (h : Mkr K C H m us) (k : Kp H H') : Mkr K C H' m us :=
  let ⟨dx, p, ps, a, b, c⟩ := h; ⟨dx, p, ps, k _ _ a (fun _ z => nomatch z), sqT_kp k b, c.kp k⟩
theorem kp_upd {H : Hp} {d : Addr} {kvs : List (Key × V)} {o : HO} (h : H d = some (.dK kvs)) : Kp H (upd H d o) := fun b u e ne => by
  rw [upd_ne (fun z => by rw [z, h] at e; cases e; exact ne _ rfl)]
  exact e
end

/-! ## Markers: where to look, as mathematics -/
section
open TL SX
/-- the word at a place -/
def wdp (n : Nat) : Txt := if h : n = 0 then [] else wdp ((n - 1) / 26) ++ [97 + (n - 1) % 26]
termination_by n
decreasing_by
  have := Nat.div_le_self (n - 1) 26
  omega
theorem wdp_zero : wdp 0 = [] := by
  unfold wdp
  rw [dif_pos rfl]
theorem wdp_pos {n : Nat} (h : n ≠ 0) : wdp n = wdp ((n - 1) / 26) ++ [97 + (n - 1) % 26] := by
  rw [wdp, dif_neg h]
theorem pw_snoc (l : Txt) (c : Nat) : pw (l ++ [c]) = pw l * 26 + (c - 97) + 1 := by
  unfold pw
  rw [List.foldl_append]
  rfl
theorem pw_wdp (n : Nat) : pw (wdp n) = n := by
  induction n using Nat.strongRecOn with
  | ind n ih =>
    by_cases h : n = 0
    · rw [h, wdp_zero]
      rfl
    · have := Nat.div_le_self (n - 1) 26
      rw [wdp_pos h, pw_snoc, ih _ (by omega)]
      omega
theorem wdp_low (n : Nat) : (wdp n).all isLow = true := by
  induction n using Nat.strongRecOn with
  | ind n ih =>
    by_cases h : n = 0
    · rw [h, wdp_zero]
      rfl
    · have := Nat.div_le_self (n - 1) 26
      rw [wdp_pos h, List.all_append, ih _ (by omega)]
      simp only [List.all_cons, List.all_nil, Bool.and_true, Bool.true_and, isLow, decide_eq_true_eq]
      omega
theorem wdp_len : ∀ (k n : Nat), n < 26 ^ k → (wdp n).length ≤ k
  | k, n, h => by
    by_cases h0 : n = 0
    · rw [h0, wdp_zero]
      exact Nat.zero_le _
    · cases k with
      | zero =>
        rw [Nat.pow_zero] at h
        omega
      | succ k =>
        rw [wdp_pos h0, List.length_append]
        have : (n - 1) / 26 < 26 ^ k := by
          rw [Nat.pow_succ] at h
          exact Nat.div_lt_of_lt_mul (by omega)
        have := wdp_len k _ this
        simp only [List.length_cons, List.length_nil]
        omega
theorem pw_pos {l : Txt} (h : l ≠ []) : 1 ≤ pw l := by
  rw [← List.dropLast_concat_getLast h, pw_snoc]
  omega
theorem wdp_pw {l : Txt} (h : l.all isLow = true) : wdp (pw l) = l := by
  generalize hn : l.length = n
  induction n generalizing l with
  | zero =>
    rw [List.length_eq_zero_iff.mp hn]
    exact wdp_zero
  | succ n ih =>
    have hne : l ≠ [] := fun e => by rw [e] at hn; simp at hn
    have e := List.dropLast_concat_getLast hne
    rw [← e] at h
    rw [List.all_append] at h
    simp only [List.all_cons, List.all_nil, Bool.and_true, Bool.and_eq_true] at h
    have hl : l.dropLast.length = n := by
      rw [List.length_dropLast, hn]
      rfl
    have i := ih h.1 hl
    have hc := h.2
    simp only [isLow, decide_eq_true_eq] at hc
    rw [← e, pw_snoc, wdp_pos (by omega)]
    have e1 : (pw l.dropLast * 26 + (l.getLast hne - 97) + 1 - 1) / 26 = pw l.dropLast := by omega
    have e2 : 97 + (pw l.dropLast * 26 + (l.getLast hne - 97) + 1 - 1) % 26 = l.getLast hne := by omega
    rw [e1, e2, i]
theorem pw_inj {l m : Txt} (h : l.all isLow = true) (k : m.all isLow = true) (e : pw l = pw m) : l = m := by rw [← wdp_pw h, e, wdp_pw k]
abbrev Rws := List (List Tm)
def plT (t : Tm) : Nat := match t.v with
  | .inl x => pw x
  | .inr _ => 0
/-- the places of the words that are mentioned in a field -/
def ment (f : Txt) (rows : Rws) : List Nat := (rows.flatten.filter fun t => decide (t.w = f)).map plT
def IsOth (ks : List Nat) (m : Nat) : Prop := 1 ≤ m ∧ m ∉ ks ∧ ∀ j, 1 ≤ j → j < m → j ∈ ks
def IsPl (f : Txt) (rows : Rws) (ps : List Nat) : Prop := ps.Pairwise (· < ·) ∧ ∃ m, IsOth (ment f rows) m ∧ ∀ n, n ∈ ps ↔ n ∈ ment f rows ∨ n = m
def lvT (t : Tm) (n : Nat) : Prop := t.w = wLevel ∧ ∃ k, t.v = .inr k ∧ (n = k ∨ (n = k + 1 ∧ k < 99))
def IsLv (rows : Rws) (ls : List Nat) : Prop := ls.Pairwise (· < ·) ∧ ∀ n, n ∈ ls ↔ n = 0 ∨ ∃ t ∈ rows.flatten, lvT t n
def prodS (ps ms ls : List Nat) : List Spt := ps.flatMap fun a => ms.flatMap fun b => ls.map fun c => ⟨wdp a, wdp b, c⟩
def IsSp (rows : Rws) (sps : List Spt) : Prop := ∃ ps ms ls, IsPl wSystem rows ps ∧ IsPl wMachine rows ms ∧ IsLv rows ls ∧ sps = prodS ps ms ls
theorem pig : ∀ (m : Nat) (ks : List Nat), (∀ j, 1 ≤ j → j ≤ m → j ∈ ks) → m ≤ ks.length
  | 0, _, _ => Nat.zero_le _
  | m + 1, ks, h => by
    have h1 := h (m + 1) (by omega) (by omega)
    have := pig m (ks.erase (m + 1)) fun j a b => (List.mem_erase_of_ne (by omega)).mpr (h j a (by omega))
    rw [List.length_erase_of_mem h1] at this
    have := List.length_pos_of_mem h1
    omega
theorem oth_le {ks : List Nat} {m : Nat} (h : IsOth ks m) : m ≤ ks.length + 1 := by
  have := pig (m - 1) ks fun j a b => h.2.2 j a (by omega)
  omega
/-- a term that can be asked at a spot -/
structure TmS (t : Tm) : Prop where
  cmp : Cmp t
  wrd : ∀ x, t.w ∈ fieldL → t.v = .inl x → wordT x = true
  lev : ∀ k, t.w ∈ fieldL → t.v = .inr k → k ≤ 99
theorem ment_len (f : Txt) (rows : Rws) : (ment f rows).length ≤ rows.flatten.length := by
  unfold ment
  rw [List.length_map]
  exact List.length_filter_le _ _
theorem mem_ment {f : Txt} {rows : Rws} {n : Nat} : n ∈ ment f rows ↔ ∃ t ∈ rows.flatten, t.w = f ∧ plT t = n := by
  unfold ment
  simp only [List.mem_map, List.mem_filter, decide_eq_true_eq]
  constructor
  · rintro ⟨t, ⟨a, b⟩, c⟩
    exact ⟨t, a, b, c⟩
  · rintro ⟨t, a, b, c⟩
    exact ⟨t, ⟨a, b⟩, c⟩
theorem word_nl {x : Txt} (h : wordT x = true) : x ≠ [] ∧ x.all isLow = true := by
  simp only [wordT, Bool.and_eq_true, decide_eq_true_eq] at h
  refine ⟨fun e => ?_, h.2.2⟩
  rw [e] at h
  simp at h
theorem wdp_word {n : Nat} (h1 : 1 ≤ n) (h2 : (wdp n).length ≤ 12) : wordT (wdp n) = true := by
  simp only [wordT, Bool.and_eq_true, decide_eq_true_eq]
  refine ⟨?_, h2, wdp_low n⟩
  rw [wdp_pos (by omega), List.length_append]
  simp
theorem txt_of {f : Txt} {t : Tm} (h : TmS t) (hf : f = wSystem ∨ f = wMachine) (e : t.w = f) : ∃ x, t.v = .inl x ∧ wordT x = true ∧ plT t = pw x := by
  have hm : t.w ∈ fieldL := by rw [e]; rcases hf with rfl | rfl <;> decide
  rcases h.cmp hm with ⟨k, _⟩ | ⟨_, x, hx, _⟩
  · rw [e] at k
    rcases hf with rfl | rfl <;> exact absurd k (by decide)
  · exact ⟨x, hx, h.wrd x hm hx, by unfold plT; rw [hx]⟩
theorem pl_word {f : Txt} {rows : Rws} {ps : List Nat} (h : IsPl f rows ps) (ok : ∀ t ∈ rows.flatten, TmS t) (hf : f = wSystem ∨ f = wMachine) (hl : rows.flatten.length ≤ 100000) {n : Nat} (hn : n ∈ ps) : wordT (wdp n) = true ∧ 1 ≤ n := by
  obtain ⟨_, m, ho, hm⟩ := h
  rcases (hm n).mp hn with k | rfl
  · obtain ⟨t, ht, hw, hp⟩ := mem_ment.mp k
    obtain ⟨x, hx, hwx, e⟩ := txt_of (ok t ht) hf hw
    obtain ⟨a, b⟩ := word_nl hwx
    rw [← hp, e, wdp_pw b]
    exact ⟨hwx, pw_pos a⟩
  · have := oth_le ho
    have := ment_len f rows
    refine ⟨wdp_word ho.1 (Nat.le_trans (wdp_len 4 n (Nat.lt_of_le_of_lt (show n ≤ 100001 by omega) (by decide))) (by decide)), ho.1⟩
/-- for each word one that is looked at and answers alike -/
theorem pl_cover {f : Txt} {rows : Rws} {ps : List Nat} (h : IsPl f rows ps) (ok : ∀ t ∈ rows.flatten, TmS t) (hf : f = wSystem ∨ f = wMachine) (w : Txt) : ∃ n ∈ ps, ∀ t ∈ rows.flatten, t.w = f → ∀ x, t.v = .inl x → (wdp n = x ↔ w = x) := by
  obtain ⟨_, m, ho, hm⟩ := h
  by_cases k : ∃ t ∈ rows.flatten, t.w = f ∧ t.v = .inl w
  · obtain ⟨t, ht, hw, hv⟩ := k
    obtain ⟨x, hx, hwx, e⟩ := txt_of (ok t ht) hf hw
    rw [hv] at hx
    cases hx
    refine ⟨pw w, (hm _).mpr (.inl (mem_ment.mpr ⟨t, ht, hw, e⟩)), fun u _ _ y _ => ?_⟩
    rw [wdp_pw (word_nl hwx).2]
  · refine ⟨m, (hm m).mpr (.inr rfl), fun u hu huw y huv => ⟨fun e => ?_, fun e => ?_⟩⟩
    · obtain ⟨x, hx, hwx, ep⟩ := txt_of (ok u hu) hf huw
      rw [huv] at hx
      cases hx
      refine absurd (mem_ment.mpr ⟨u, hu, huw, ?_⟩) ho.2.1
      rw [ep, ← e, pw_wdp]
    · exact absurd ⟨u, hu, huw, by rw [huv, e]⟩ k
theorem great : ∀ (ls : List Nat) (v : Nat), 0 ∈ ls → ∃ c ∈ ls, c ≤ v ∧ ∀ n ∈ ls, n ≤ v → n ≤ c := by
  intro ls v h0
  have key : ∀ (qs : List Nat), (∀ n ∈ qs, n ∈ ls) → ∀ c ∈ ls, c ≤ v → ∃ d ∈ ls, d ≤ v ∧ c ≤ d ∧ ∀ n ∈ qs, n ≤ v → n ≤ d := by
    intro qs
    induction qs with
    | nil => exact fun _ c hc hv => ⟨c, hc, hv, Nat.le_refl _, fun _ h => nomatch h⟩
    | cons q qs ih =>
      intro hs c hc hv
      obtain ⟨d, hd, hdv, hcd, hn⟩ := ih (fun n hn => hs n (List.mem_cons_of_mem _ hn)) c hc hv
      by_cases k : q ≤ v ∧ d < q
      · exact ⟨q, hs q List.mem_cons_self, k.1, by omega, fun n hm hnv => by
          rcases List.mem_cons.mp hm with rfl | hm
          · exact Nat.le_refl _
          · have := hn n hm hnv
            omega⟩
      · exact ⟨d, hd, hdv, hcd, fun n hm hnv => by
          rcases List.mem_cons.mp hm with rfl | hm
          · omega
          · exact hn n hm hnv⟩
  obtain ⟨d, a, b, _, c⟩ := key ls (fun _ h => h) 0 h0 (Nat.zero_le _)
  exact ⟨d, a, b, c⟩
theorem lv_cover {rows : Rws} {ls : List Nat} (h : IsLv rows ls) {v : Nat} (hv : v ≤ 99) : ∃ c ∈ ls, ∀ t ∈ rows.flatten, t.w = wLevel → ∀ k, t.v = .inr k → ((c < k ↔ v < k) ∧ (c = k ↔ v = k)) := by
  obtain ⟨c, hc, hcv, hg⟩ := great ls v ((h.2 0).mpr (.inl rfl))
  refine ⟨c, hc, fun t ht hw k hk => ?_⟩
  have m1 : k ≤ v → k ≤ c := fun q => hg k ((h.2 k).mpr (.inr ⟨t, ht, hw, k, hk, .inl rfl⟩)) q
  have m2 : k < v → k + 1 ≤ c := fun q => hg (k + 1) ((h.2 (k + 1)).mpr (.inr ⟨t, ht, hw, k, hk, .inr ⟨rfl, by omega⟩⟩)) q
  constructor
  · constructor
    · intro q
      by_cases z : v < k
      · exact z
      · have := m1 (by omega)
        omega
    · intro q
      omega
  · constructor
    · intro q
      by_cases z : k < v
      · have := m2 z
        omega
      · omega
    · intro q
      have := m1 (by omega)
      omega
theorem cmpN_same {s : Txt} {c v k : Nat} (h1 : c < k ↔ v < k) (h2 : c = k ↔ v = k) : cmpN s c k = cmpN s v k := by
  have h3 : c ≤ k ↔ v ≤ k := by omega
  have h4 : k < c ↔ k < v := by omega
  have h5 : k ≤ c ↔ k ≤ v := by omega
  unfold cmpN
  simp only [h1, h2, h3, h4, h5]
theorem ev_same {p q : Spt} {t : Tm} (ok : TmS t) (hs : t.w = wSystem → ∀ x, t.v = .inl x → (p.s = x ↔ q.s = x)) (hm : t.w = wMachine → ∀ x, t.v = .inl x → (p.m = x ↔ q.m = x))
    (hl : t.w = wLevel → ∀ k, t.v = .inr k → ((p.v < k ↔ q.v < k) ∧ (p.v = k ↔ q.v = k))) : evT p t = evT q t := by
  unfold evT
  by_cases h1 : t.w = wSystem
  · rw [if_pos h1, if_pos h1]
    cases hv : t.v with
    | inl x => simp only [cmpS, hs h1 x hv]
    | inr k => rfl
  · rw [if_neg h1, if_neg h1]
    by_cases h2 : t.w = wMachine
    · rw [if_pos h2, if_pos h2]
      cases hv : t.v with
      | inl x => simp only [cmpS, hm h2 x hv]
      | inr k => rfl
    · rw [if_neg h2, if_neg h2]
      by_cases h3 : t.w = wLevel
      · rw [if_pos h3, if_pos h3]
        cases hv : t.v with
        | inl x => rfl
        | inr k => exact cmpN_same (hl h3 k hv).1 (hl h3 k hv).2
      · rw [if_neg h3, if_neg h3]
theorem mem_prod {ps ms ls : List Nat} {p : Spt} : p ∈ prodS ps ms ls ↔ ∃ a ∈ ps, ∃ b ∈ ms, ∃ c ∈ ls, p = ⟨wdp a, wdp b, c⟩ := by
  unfold prodS
  simp only [List.mem_flatMap, List.mem_map]
  constructor
  · rintro ⟨a, ha, b, hb, c, hc, rfl⟩
    exact ⟨a, ha, b, hb, c, hc, rfl⟩
  · rintro ⟨a, ha, b, hb, c, hc, rfl⟩
    exact ⟨a, ha, b, hb, c, hc, rfl⟩
/-- wherever expressions are asked, there is a spot among those that are looked at, where they answer alike -/
theorem sp_cover {rows : Rws} {sps : List Spt} (h : IsSp rows sps) (ok : ∀ t ∈ rows.flatten, TmS t) (q : Spt) (hq : q.v ≤ 99) : ∃ p ∈ sps, ∀ t ∈ rows.flatten, evT p t = evT q t := by
  obtain ⟨ps, ms, ls, h1, h2, h3, rfl⟩ := h
  obtain ⟨a, ha, ca⟩ := pl_cover h1 ok (.inl rfl) q.s
  obtain ⟨b, hb, cb⟩ := pl_cover h2 ok (.inr rfl) q.m
  obtain ⟨c, hc, cc⟩ := lv_cover h3 hq
  exact ⟨⟨wdp a, wdp b, c⟩, mem_prod.mpr ⟨a, ha, b, hb, c, hc, rfl⟩, fun t ht => ev_same (ok t ht) (fun e x hx => ca t ht e x hx) (fun e x hx => cb t ht e x hx) (fun e k hk => cc t ht e k hk)⟩
theorem sp_valid {rows : Rws} {sps : List Spt} (h : IsSp rows sps) (ok : ∀ t ∈ rows.flatten, TmS t) (hl : rows.flatten.length ≤ 100000) {p : Spt} (hp : p ∈ sps) : wordT p.s = true ∧ wordT p.m = true ∧ p.v ≤ 99 := by
  obtain ⟨ps, ms, ls, h1, h2, h3, rfl⟩ := h
  obtain ⟨a, ha, b, hb, c, hc, rfl⟩ := mem_prod.mp hp
  refine ⟨(pl_word h1 ok (.inl rfl) hl ha).1, (pl_word h2 ok (.inr rfl) hl hb).1, ?_⟩
  rcases (h3.2 c).mp hc with e | ⟨t, ht, hw, k, hk, e⟩
  · show c ≤ 99
    omega
  · have := (ok t ht).lev k (by rw [hw]; decide) hk
    show c ≤ 99
    omega
theorem vlR_same {e1 e2 : Tm → Bool} : ∀ {us : List Tm} {h : List Bool}, (∀ t ∈ us, e1 t = e2 t) → vlR e1 h us = vlR e2 h us
  | [], _, _ => rfl
  | t :: us, h, k => by
    show (vlM e1 h t).bind _ = (vlM e2 h t).bind _
    have : vlM e1 h t = vlM e2 h t := by
      unfold vlM
      rw [k t List.mem_cons_self]
    rw [this]
    congr 1
    funext h'
    exact vlR_same fun x hx => k x (List.mem_cons_of_mem _ hx)
/-- the expression's answers -/
def Sem (us : List Tm) (f : Spt → Bool) : Prop := ∀ p, vlR (evT p) [] us = some [f p]
theorem Sem.same {us : List Tm} {f : Spt → Bool} (h : Sem us f) {p q : Spt} (k : ∀ t ∈ us, evT p t = evT q t) : f p = f q := by
  have a := h p
  rw [vlR_same k, h q] at a
  exact (List.cons.inj (Option.some.inj a)).1.symm
end

/-! ## Markers: words and levels to look at -/
section
variable {P : Program} {w : World} {K : PySem.W.Frag} {mg : Str → Option Value} {base : Heap} {D : Ad}
open TL SX
theorem az_at {k : Nat} (h : k < 26) : atI (("abcdefghijklmnopqrstuvwxyz" : String) : Str).cps.toList ((k : Nat) : Int) = some (97 + k) := by
  have e : (("abcdefghijklmnopqrstuvwxyz" : String) : Str).cps.toList = (List.range 26).map (97 + ·) := by decide +kernel
  rw [e]
  refine atI_nat ?_
  rw [List.getElem?_map, List.getElem?_range h]
  rfl
def spWordAt : Sp := fun vs H Q _ => ∃ n : Nat, vs = [.int (n : Int)] ∧ (wdp n).length ≤ 1000 ∧ ∀ H', Same H H' → Q (.str (S (wdp n))) H'
theorem ok_word_at (T : TexW w K mg D) : FnOk P w K mg base CX0 1 D.a_word_at D.d_word_at P_word_at spWordAt := by
  refine T.word_at_F.ok S_word_at (fun vs H Q E h => ?_) (fun cdv A outer s H vs Q E hr h => ?_)
  · obtain ⟨n, rfl, _⟩ := h
    rfl
  · obtain ⟨n, rfl, hl, q⟩ := h
    refine ⟨_, (pss_cons (ps_set (i := 1) S_word_at.nd rfl (Or.inl rfl) pe_str)
      (pss_cons (ps_while PassesOwn.never (pt_cmpR op_gt (pv 0) pe_int (nomark _)) (pss_cons (ps_asg (pe_callB call_divmod (by rfl) T.b_divmod (by decide +kernel) (pa_cons (pe_op op_sub (pv 0) pe_int) (pa_cons pe_int pa_nil))) (pg_tup (by rfl) (pgs_cons (pg_name (i := 0) S_word_at.nd rfl (Or.inl rfl)) (pgs_cons (pg_name (i := 2) S_word_at.nd rfl (Or.inl rfl)) pgs_nil))))
      (pss_one (ps_set (i := 1) S_word_at.nd rfl (Or.inl rfl) (pe_op op_add_str (pe_ix ix_str (pe_glob (v := .str "abcdefghijklmnopqrstuvwxyz") rfl T.c_LETTERS ⟨_, rfl⟩) (pv 2) (fun _ _ => rfl)) (pv 1))))))
      (pss_one (ps_ret (pv 1))))), ?_⟩
    refine while_to (fun m σ H' => ∃ (p : Nat) (b : Txt) (o : Option V), σ = [some (.int (p : Int)), some (.str (S b)), o] ∧ wdp n = wdp p ++ b ∧ p = m ∧ Same H H') (fun σ H' => ∃ (o : Option V), σ = [some (.int 0), some (.str (S (wdp n))), o] ∧ Same H H')
      ⟨n, n, [], none, by rw [emp_t]; rfl, by simp, rfl, Same.refl _⟩ ?_ ?_
    · rintro σ H1 ⟨o, rfl, s1⟩
      exact ⟨_, rfl, q H1 s1⟩
    · rintro hz m σ H1 ⟨p, b, o, rfl, e, rfl, s1⟩
      refine ⟨_, rfl, _, _, rfl, rfl, _, rfl, ite2 (fun h1 => ?_) (fun h1 => ?_)⟩
      · have hp : p ≠ 0 := by
          have := of_decide_eq_true h1
          omega
        have ew := wdp_pos hp
        refine ⟨fun σ H' => ∃ (b' : Txt) (o : Option V), σ = [some (.int (((p - 1) / 26 : Nat) : Int)), some (.str (S b')), o] ∧ wdp n = wdp ((p - 1) / 26) ++ b' ∧ Same H H', ?_, ?_⟩
        · rintro σ' H' ⟨b', o, rfl, e', s'⟩
          have := Nat.div_le_self (p - 1) 26
          exact ⟨(p - 1) / 26, by omega, _, b', o, rfl, e', rfl, s'⟩
        · refine ⟨_, rfl, _, _, rfl, rfl, _, _, rfl, ⟨by decide, by decide⟩, fun t ht => ?_⟩
          refine ⟨t, _, rfl, sqT_of upd_same, rfl, _, _, rfl, _, _, rfl, rfl, ?_⟩
          have e1 : ((p : Int) - 1) / 26 = (((p - 1) / 26 : Nat) : Int) := by omega
          have e2 : ((p : Int) - 1) % 26 = (((p - 1) % 26 : Nat) : Int) := by omega
          rw [e1, e2]
          refine ⟨_, rfl, _, _, _, rfl, rfl, by decide +kernel, az_at (by omega), _, rfl, _, _, rfl, rfl, ?_, ?_⟩
          · have : (wdp n).length = (wdp p).length + b.length := by rw [e, List.length_append]
            rw [show (⟨#[97 + (p - 1) % 26]⟩ : Str) = S [97 + (p - 1) % 26] from rfl, S_len, S_len]
            exact Nat.le_trans (show 1 + b.length ≤ 1001 by omega) (by decide)
          · refine ⟨[97 + (p - 1) % 26] ++ b, some (.int (((p - 1) % 26 : Nat) : Int)), ?_, ?_, s1.trans (same_new ht)⟩
            · rw [show (⟨#[97 + (p - 1) % 26]⟩ : Str) = S [97 + (p - 1) % 26] from rfl, S_cat]
              rfl
            · rw [e, ew, List.append_assoc]
      · have hp : p = 0 := by
          have := of_decide_eq_false (Bool.eq_false_iff.mpr h1)
          omega
        subst hp
        rw [wdp_zero] at e
        refine hz _ _ ⟨o, ?_, s1⟩
        rw [e]
        rfl
/-! ### dicts of numbers -/
def dB (ks : List Nat) : List (Key × V) := ks.map fun n : Nat => ((.inl (n : Int) : Key), V.bl true)
def addK (ks : List Nat) (n : Nat) : List Nat := if n ∈ ks then ks else ks ++ [n]
theorem dB_val (k : Nat) : ∀ ks : List Nat, valV (dB ks) (.inl (k : Int) : Key) = if k ∈ ks then some (V.bl true) else none
  | [] => rfl
  | a :: r => by
    by_cases q : k = a
    · subst q
      rw [if_pos (by simp)]
      exact valV_pos rfl
    · refine (valV_neg (fun z => q (by have := Sum.inl.inj z; omega))).trans ((dB_val k r).trans ?_)
      simp [q]
theorem dB_put (ks : List Nat) (k : Nat) : putK (dB ks) (.inl (k : Int) : Key) (.bl true) = dB (addK ks k) := by
  unfold putK addK
  rw [valV_any, dB_val]
  by_cases h : k ∈ ks
  · rw [if_pos h, if_pos h, if_pos (show (some (V.bl true)).isSome = true from rfl)]
    unfold dB
    rw [List.map_map]
    refine List.map_congr_left fun p _ => ?_
    show (if (Sum.inl (p : Int) : Key) = Sum.inl (k : Int) then ((Sum.inl (p : Int) : Key), V.bl true) else ((Sum.inl (p : Int) : Key), V.bl true)) = _
    split <;> rfl
  · rw [if_neg h, if_neg h, if_neg (by simp)]
    unfold dB
    rw [List.map_append]
    rfl
theorem dB_len (ks : List Nat) : (dB ks).length = ks.length := List.length_map _
/-- the keys that are noted of these terms, each once -/
structure Kd (p : Tm → Nat → Prop) (ks : List Nat) (ts : List Tm) (more : List Nat) : Prop where
  nd : ks.Nodup
  mem : ∀ n, n ∈ ks ↔ n ∈ more ∨ ∃ t ∈ ts, p t n
  len : ks.length ≤ 2 * ts.length + more.length
theorem add_nd {ks : List Nat} {n : Nat} (h : ks.Nodup) : (addK ks n).Nodup := by
  unfold addK
  split
  · exact h
  · rename_i k
    rw [List.nodup_append]
    exact ⟨h, by simp, fun a ha b hb => by
      rw [List.mem_singleton.mp hb]
      rintro rfl
      exact k ha⟩
theorem add_mem {ks : List Nat} {n m : Nat} : m ∈ addK ks n ↔ m ∈ ks ∨ m = n := by
  unfold addK
  split
  · rename_i k
    constructor
    · exact .inl
    · rintro (h | rfl)
      · exact h
      · exact k
  · simp
theorem add_len (ks : List Nat) (n : Nat) : (addK ks n).length ≤ ks.length + 1 := by
  unfold addK
  split
  · omega
  · simp
/-- rows of steps -/
def RowsT (K : PySem.W.Frag) (H : Hp) : List Addr → Rws → Prop
  | [], [] => True
  | a :: as, us :: uss => (∃ ps : List Addr, SqT K H a (ps.map V.ref) ∧ Row K H ps us) ∧ RowsT K H as uss
  | _, _ => False
theorem RowsT.keep {H H' : Hp} (s : Same H H') : ∀ {as : List Addr} {uss : Rws}, RowsT K H as uss → RowsT K H' as uss
  | [], [], _ => trivial
  | _ :: _, _ :: _, h => ⟨let ⟨ps, a, b⟩ := h.1; ⟨ps, sqT_keep s a, b.keep s⟩, RowsT.keep s h.2⟩
  | [], _ :: _, h => h.elim
  | _ :: _, [], h => h.elim
theorem RowsT.len {H : Hp} : ∀ {as : List Addr} {uss : Rws}, RowsT K H as uss → as.length = uss.length
  | [], [], _ => rfl
  | _ :: _, _ :: _, h => by rw [List.length_cons, List.length_cons, RowsT.len h.2]
  | [], _ :: _, h => h.elim
  | _ :: _, [], h => h.elim
theorem RowsT.at {H : Hp} : ∀ {as : List Addr} {uss : Rws} {i : Nat} {a : Addr}, RowsT K H as uss → as[i]? = some a → ∃ us, uss[i]? = some us ∧ ∃ ps : List Addr, SqT K H a (ps.map V.ref) ∧ Row K H ps us
  | _ :: _, _ :: _, 0, _, h, e => by
    obtain rfl := Option.some.inj e
    exact ⟨_, rfl, h.1⟩
  | _ :: _, _ :: _, i + 1, _, h, e => RowsT.at (i := i) h.2 e
  | [], [], _, _, _, e => by cases e
  | [], _ :: _, _, _, h, _ => h.elim
  | _ :: _, [], _, _, h, _ => h.elim
theorem take_flat {uss : Rws} {i : Nat} {us : List Tm} (h : uss[i]? = some us) : (uss.take (i + 1)).flatten = (uss.take i).flatten ++ us := by
  rw [one_more h, List.flatten_append]
  simp
theorem ref_at {ps : List Addr} {i : Nat} {v : V} (h : (ps.map V.ref)[i]? = some v) : ∃ p, ps[i]? = some p ∧ v = V.ref p := by
  rw [List.getElem?_map] at h
  cases e : ps[i]? with
  | none =>
    rw [e] at h
    cases h
  | some p =>
    rw [e] at h
    exact ⟨p, rfl, (Option.some.inj h).symm⟩
/-- sorted numbers without equal ones -/
theorem srt_nat {ks : List Nat} {ns : List Int} (nd : ks.Nodup) (hp : ns.Perm (ks.map fun n : Nat => (n : Int))) (hs : ns.Pairwise (· ≤ ·)) : ∃ ms : List Nat, ns = ms.map (fun n : Nat => (n : Int)) ∧ ms.Pairwise (· < ·) ∧ ms.Perm ks := by
  have hn : ∀ x ∈ ns, ∃ n : Nat, x = (n : Int) := fun x hx => by
    obtain ⟨n, _, rfl⟩ := List.mem_map.mp (hp.mem_iff.mp hx)
    exact ⟨n, rfl⟩
  have e : ns = (ns.map Int.toNat).map (fun n : Nat => (n : Int)) := by
    rw [List.map_map]
    conv => lhs; rw [← List.map_id ns]
    refine List.map_congr_left fun x hx => ?_
    obtain ⟨n, rfl⟩ := hn x hx
    rfl
  have pm : (ns.map Int.toNat).Perm ks := by
    have := hp.map Int.toNat
    rw [List.map_map] at this
    have e2 : ks.map (Int.toNat ∘ fun n : Nat => (n : Int)) = ks := by
      conv => rhs; rw [← List.map_id ks]
      exact List.map_congr_left fun x _ => rfl
    rw [e2] at this
    exact this
  refine ⟨_, e, ?_, pm⟩
  have nd2 : (ns.map Int.toNat).Nodup := pm.nodup_iff.mpr nd
  have le2 : (ns.map Int.toNat).Pairwise (· ≤ ·) := by
    rw [List.pairwise_map]
    exact hs.imp fun h => by omega
  exact (List.pairwise_and_iff.mpr ⟨le2, nd2⟩).imp fun h => Nat.lt_of_le_of_ne h.1 h.2
end

/-! ### words_to_look_at, levels_to_look_at -/
section
variable {P : Program} {w : World} {K : PySem.W.Frag} {mg : Str → Option Value} {base : Heap} {D : Ad}
open TL SX
def wP (f : Txt) (t : Tm) (n : Nat) : Prop := t.w = f ∧ plT t = n
theorem Kd.yes {f : Txt} {ks : List Nat} {ts : List Tm} {t : Tm} (h : Kd (wP f) ks ts []) (e : t.w = f) : Kd (wP f) (addK ks (plT t)) (ts ++ [t]) [] := by
  refine ⟨add_nd h.nd, fun n => ?_, ?_⟩
  · rw [add_mem, h.mem]
    simp only [List.not_mem_nil, false_or, List.mem_append, List.mem_singleton, wP]
    constructor
    · rintro (⟨u, hu, k⟩ | rfl)
      · exact ⟨u, .inl hu, k⟩
      · exact ⟨t, .inr rfl, e, rfl⟩
    · rintro ⟨u, hu | rfl, k⟩
      · exact .inl ⟨u, hu, k⟩
      · exact .inr k.2.symm
  · have := add_len ks (plT t)
    have := h.len
    simp only [List.length_append, List.length_cons, List.length_nil] at *
    omega
theorem Kd.no {p : Tm → Nat → Prop} {ks more : List Nat} {ts : List Tm} {t : Tm} (h : Kd p ks ts more) (e : ∀ n, ¬ p t n) : Kd p ks (ts ++ [t]) more := by
  refine ⟨h.nd, fun n => ?_, ?_⟩
  · rw [h.mem]
    refine or_congr Iff.rfl ⟨?_, ?_⟩
    · rintro ⟨u, hu, k⟩
      exact ⟨u, by simp [hu], k⟩
    · rintro ⟨u, hu, k⟩
      rcases List.mem_append.mp hu with hu | hu
      · exact ⟨u, hu, k⟩
      · rw [List.mem_singleton.mp hu] at k
        exact absurd k (e n)
  · have := h.len
    simp only [List.length_append, List.length_cons, List.length_nil] at *
    omega
theorem mem_flat {uss : Rws} {us : List Tm} {t : Tm} {i : Nat} (h : uss[i]? = some us) (k : t ∈ us) : t ∈ uss.flatten := List.mem_flatten.mpr ⟨us, List.mem_of_getElem? h, k⟩
theorem flat_len {uss : Rws} {i : Nat} : (uss.take i).flatten.length ≤ uss.flatten.length := by
  conv => rhs; rw [← List.take_append_drop i uss, List.flatten_append, List.length_append]
  exact Nat.le_add_right _ _
def spWords (K : PySem.W.Frag) : Sp := fun vs H Q _ => ∃ (r : Addr) (as : List Addr) (uss : Rws) (f : Txt), vs = [.ref r, .str (S f)] ∧ (f = wSystem ∨ f = wMachine) ∧ SqT K H r (as.map V.ref) ∧ RowsT K H as uss ∧ uss.flatten.length ≤ 9000 ∧ (∀ t ∈ uss.flatten, TmS t) ∧
  ∀ ps L H', IsPl f uss ps → ps.length ≤ 2 * uss.flatten.length + 2 → Same H H' → H L = none → H' L = some (.lst (ps.map fun n => V.str (S (wdp n)))) → Q (.ref L) H'
theorem ok_words_to_look_at (T : TexW w K mg D) : FnOk P w K mg base CX0 2 D.a_words_to_look_at D.d_words_to_look_at P_words_to_look_at (spWords K) := by
  have G_place_of_word : FnOk P w K mg base CX0 1 D.a_place_of_word D.d_place_of_word P_place_of_word spPw := ok_place_of_word T
  have G_word_at : FnOk P w K mg base CX0 1 D.a_word_at D.d_word_at P_word_at spWordAt := ok_word_at T
  refine T.words_to_look_at_F.ok S_words_to_look_at (fun vs H Q E h => ?_) (fun cdv A outer s H vs Q E hr h => ?_)
  · obtain ⟨r, as, uss, f, rfl, _⟩ := h
    rfl
  · obtain ⟨r, as, uss, f, rfl, hf, hr0, hrows, hl, hok, q⟩ := h
    have hu := hu_of hr
    refine ⟨_, (pss_cons (ps_set (i := 2) S_words_to_look_at.nd rfl (Or.inl rfl) pe_dnewK)
      (pss_cons (ps_for PassesOwn.never rfl (pi_tup (pv 0)) (pg_name (i := 3) S_words_to_look_at.nd rfl (Or.inl rfl)) (pss_one (ps_for PassesOwn.never rfl (pi_tup (pv 3)) (pg_tup (by rfl) (pgs_cons (pg_name (i := 4) S_words_to_look_at.nd rfl (Or.inl rfl)) (pgs_cons (pg_name (i := 5) S_words_to_look_at.nd rfl (Or.inl rfl)) (pgs_cons (pg_name (i := 6) S_words_to_look_at.nd rfl (Or.inl rfl)) pgs_nil)))) (pss_one (ps_if (pt_cmpR op_eq (pv 4) (pv 1) (nomark _)) (pss_one (ps_dput hu (pv 2) (pe_call G_place_of_word (hr.mono (by decide)) (by rfl) T.place_of_word_g T.place_of_word_F.kp T.place_of_word_b .nil pass0 (pa_cons (pv 6) pa_nil)) pe_bl rfl)) pss_nil)))))
      (pss_cons (ps_set (i := 7) S_words_to_look_at.nd rfl (Or.inl rfl) pe_int)
      (pss_cons (ps_while PassesOwn.never (pt_cmp (pc_din hu (pv 7) (pv 2))) (pss_one (ps_aug (i := 7) S_words_to_look_at.nd rfl (Or.inl rfl) pe_int ip_add)))
      (pss_cons (ps_dput hu (pv 2) (pv 7) pe_bl rfl)
      (pss_cons (ps_lock (ps_set (i := 8) S_words_to_look_at.nd rfl (Or.inl rfl) (pe_callB cr_sortedI (by rfl) T.b_sorted (by decide +kernel) (pa_cons (pe_lc (own := [(("place" : Str), 9)]) (g := gName 9) (tt := tYes) rfl S_words_to_look_at.nd (pi_keys (pv 2)) (blkOk_by (N := N_words_to_look_at) (sc := defScope s_words_to_look_at) (by decide +kernel)) (fun _ _ _ _ _ => pg_name (i := 9) S_words_to_look_at.nd rfl (Or.inl rfl)) (fun _ _ _ _ _ => pts_nil) (fun _ _ _ _ _ => (pe_callTy call_int1 (by rfl) T.b_int (by decide +kernel) (pa_cons (pv 9) pa_nil)))) pa_nil))))
      (pss_one (ps_ret (pe_lc (own := [(("place" : Str), 9)]) (g := gName 9) (tt := tYes) rfl S_words_to_look_at.nd (pi_list (pv 8)) (blkOk_by (N := N_words_to_look_at) (sc := defScope s_words_to_look_at) (by decide +kernel)) (fun _ _ _ _ _ => pg_name (i := 9) S_words_to_look_at.nd rfl (Or.inl rfl)) (fun _ _ _ _ _ => pts_nil) (fun _ _ _ _ _ => (pe_call G_word_at (hr.mono (by decide)) (by rfl) T.word_at_g T.word_at_F.kp T.word_at_b .nil pass0 (pa_cons (pv 9) pa_nil)))))))))))), ?_⟩
    have hlen := hrows.len
    refine fun d hd => ?_
    have s1 := same_new (o := .dK []) hd
    refine ⟨_, rfl, r, rfl, ⟨_, sqT_keep s1 hr0⟩, for_tup (K := K) (a := r) (xs := as.map V.ref) (fun i σ H' => ∃ (o3 o4 o5 o6 : Option V) (ks : List Nat), σ = [some (.ref r), some (.str (S f)), some (.ref d), o3, o4, o5, o6, none, none, none] ∧ Same H H' ∧ H' d = some (.dK (dB ks)) ∧ Kd (wP f) ks (uss.take i).flatten [])
      ⟨none, none, none, none, [], rfl, s1, upd_same, .nil, fun n => by simp, by simp⟩ (fun i σ H' _ h => by
        obtain ⟨_, _, _, _, _, _, s', _⟩ := h
        exact sqT_keep s' hr0) ?_ ?_⟩
    · rintro i v σ H1 hi ⟨o3, o4, o5, o6, ks, rfl, s2, hd1, hk⟩
      obtain ⟨a, ha, rfl⟩ := ref_at hi
      obtain ⟨us, hus, ps, hps, hrow⟩ := (hrows.keep s2).at ha
      have hpl := hrow.len
      refine ⟨_, rfl, ?_⟩
      refine ⟨a, rfl, ⟨_, hps⟩, for_tup (K := K) (a := a) (xs := ps.map V.ref) (fun j σ H' => ∃ (o4 o5 o6 : Option V) (ks : List Nat), σ = [some (.ref r), some (.str (S f)), some (.ref d), some (.ref a), o4, o5, o6, none, none, none] ∧ Same H H' ∧ H' d = some (.dK (dB ks)) ∧ SqT K H' a (ps.map V.ref) ∧ Row K H' ps us ∧ Kd (wP f) ks ((uss.take i).flatten ++ us.take j) [])
        ⟨_, _, _, ks, rfl, s2, hd1, hps, hrow, by simpa using hk⟩ (fun i σ H' _ h => by
          obtain ⟨_, _, _, _, _, _, _, h', _⟩ := h
          exact h') ?_ ?_⟩
      · rintro j v σ H2 hj ⟨o4, o5, o6, ks2, rfl, s3, hd2, hps2, hrow2, hk2⟩
        obtain ⟨p, hp, rfl⟩ := ref_at hj
        obtain ⟨t, ht, hst⟩ := hrow2.at hp
        have htm := hok t (mem_flat hus (List.mem_of_getElem? ht))
        have eT : us.take (j + 1) = us.take j ++ [t] := one_more ht
        refine ⟨p, _, rfl, hst, rfl, _, _, rfl, _, _, rfl, _, _, rfl, rfl, ?_⟩
        refine ⟨_, rfl, _, rfl, rfl, _, rfl, ?_⟩
        rw [eq_S]
        by_cases hw : t.w = f
        · rw [decide_eq_true hw]
          obtain ⟨x, hx, hwx, ep⟩ := txt_of htm hf hw
          have kl := hk2.len
          have fl := flat_len (uss := uss) (i := i)
          have fl2 : us.length ≤ uss.flatten.length := by
            have := flat_len (uss := uss) (i := i + 1)
            rw [take_flat hus, List.length_append] at this
            omega
          refine iteT ⟨_, rfl, _, rfl, x, (by rw [hx]; rfl), (word_nl hwx).2, d, _, rfl, DPut.k (k := .inl ((pw x : Nat) : Int)) hd2 (by
            rw [dB_len]
            refine szT ?_
            simp only [List.length_append, List.length_nil, List.length_take] at kl
            omega), ?_⟩
          rw [dB_put, ← ep]
          refine ⟨_, _, _, addK ks2 (plT t), rfl, same_upd s3 hd, upd_same, ?_, ?_, ?_⟩
          · exact sqT_kp (kp_upd hd2) hps2
          · exact hrow2.kp (kp_upd hd2)
          · rw [eT, ← List.append_assoc]
            exact hk2.yes hw
        · rw [decide_eq_false hw]
          refine iteF ⟨_, _, _, ks2, rfl, s3, hd2, hps2, hrow2, ?_⟩
          rw [eT, ← List.append_assoc]
          exact hk2.no fun n k => hw k.1
      · rintro σ H2 ⟨o4, o5, o6, ks2, rfl, s3, hd2, hps2, hrow2, hk2⟩
        refine ⟨_, _, _, _, ks2, rfl, s3, hd2, ?_⟩
        rw [List.length_map, hpl, List.take_length] at hk2
        rw [take_flat hus]
        exact hk2
    · rintro σ H1 ⟨o3, o4, o5, o6, ks, rfl, s2, hd1, hk⟩
      rw [List.length_map, hlen, List.take_length] at hk
      have kl := hk.len
      simp only [List.length_nil] at kl
      refine while_to (fun m σ H' => ∃ (j : Nat), σ = [some (.ref r), some (.str (S f)), some (.ref d), o3, o4, o5, o6, some (.int (j : Int)), none, none] ∧ H' = H1 ∧ 1 ≤ j ∧ (∀ x, 1 ≤ x → x < j → x ∈ ks) ∧ ks.length + 2 - j = m)
        (fun σ H' => ∃ (j : Nat), σ = [some (.ref r), some (.str (S f)), some (.ref d), o3, o4, o5, o6, some (.int (j : Int)), none, none] ∧ H' = H1 ∧ IsOth ks j) ⟨_, 1, rfl, rfl, Nat.le_refl _, fun x a b => by omega, rfl⟩ ?_ ?_
      · rintro σ H2 ⟨m, rfl, rfl, hm⟩
        have ml := oth_le hm
        refine ⟨_, rfl, _, rfl, d, _, rfl, DPut.k (k := .inl (m : Int)) hd1 (by rw [dB_len]; exact szT (by omega)), ?_⟩
        rw [dB_put]
        have ek : addK ks m = ks ++ [m] := if_neg hm.2.1
        have s3 := same_upd (o := .dK (dB (addK ks m))) s2 hd
        have hd3 : (upd H2 d (.dK (dB (addK ks m)))) d = some (.dK (dB (addK ks m))) := upd_same
        have nd := add_nd (n := m) hk.nd
        have al := add_len ks m
        have hmem : ∀ n, n ∈ addK ks m ↔ n ∈ ment f uss ∨ n = m := fun n => by
          rw [add_mem, hk.mem, mem_ment]
          simp [wP]
        have hoth : IsOth (ment f uss) m := ⟨hm.1, fun h => hm.2.1 ((hk.mem m).mpr (.inr (mem_ment.mp h))), fun j a b => mem_ment.mpr (((hk.mem j).mp (hm.2.2 j a b)).resolve_left (by simp))⟩
        clear ek
        revert s3 hd3 nd al hmem
        generalize addK ks m = kk
        generalize upd H2 d (.dK (dB kk)) = H3
        intro s3 hd3 nd al hmem
        refine ⟨d, .dK (dB kk), hd3, trivial, fun od => ?_⟩
        have hd4 : (upd H3 d (.frz od (.dK (dB kk)))) d = some (.frz od (.dK (dB kk))) := upd_same
        have s4 := same_upd (o := .frz od (.dK (dB kk))) s3 hd
        revert hd4 s4
        generalize upd H3 d (.frz od (.dK (dB kk))) = H4
        intro hd4 s4
        refine ⟨_, rfl, d, od, rfl, .inl ⟨dB kk, hd4, fun DD hDD => lc_map walk_keys kk (fun n : Nat => V.int (n : Int)) (by rw [dB_len]) ?_ (fun _ => true) (fun n : Nat => V.int (n : Int)) hDD (by rw [dB_len]; exact szT (by omega)) (fun H' s' => s' _ _ hd4) ?_ ?_⟩⟩
        · rintro i H' v H'' ⟨e, k, v', h1, h2⟩
          refine ⟨e, ?_⟩
          unfold dB at h1
          rw [List.getElem?_map] at h1
          cases h3 : kk[i]? with
          | none =>
            rw [h3] at h1
            cases h1
          | some p =>
            rw [h3] at h1
            cases h1
            exact ⟨p, rfl, h2⟩
        · intro n hn H5 R S s5 h1 h2
          exact ⟨rfl, _, rfl, .inl ⟨_, rfl, h1 rfl _ (Same.refl _)⟩⟩
        · intro H5 s5 hDD5
          rw [filt1] at hDD5
          have hd5 := s5 _ _ hd4
          have s6 := s4.trans s5
          have hDD5' : H5 DD = some (.lst ((kk.map fun n : Nat => (n : Int)).map V.int)) := by
            rw [hDD5, List.map_map]
            rfl
          refine ⟨DD, kk.map fun n : Nat => (n : Int), rfl, SqL.of hDD5', fun ns p hperm hpair hp => ?_⟩
          obtain ⟨ms, rfl, hsrt, hpm⟩ := srt_nat nd hperm hpair
          have hd6 := (same_new (o := .lst ((ms.map fun n : Nat => (n : Int)).map V.int)) hp) _ _ hd5
          have s7 := s6.trans (same_new (o := .lst ((ms.map fun n : Nat => (n : Int)).map V.int)) hp)
          have hp6 : (upd H5 p (.lst ((ms.map fun n : Nat => (n : Int)).map V.int))) p = some (.lst ((ms.map fun n : Nat => (n : Int)).map V.int)) := upd_same
          have hpd : p ≠ d := (ne_of_none hd5 hp).symm
          revert hd6 s7 hp6
          generalize upd H5 p _ = H6
          intro hd6 s7 hp6
          refine ⟨hd6, ?_⟩
          have s8 := same_upd (o := .dK (dB kk)) s7 hd
          have hp8 : (upd H6 d (.dK (dB kk))) p = some (.lst (ms.map fun n : Nat => V.int (n : Int))) := by
            rw [upd_ne hpd, hp6, List.map_map]
            rfl
          revert s8 hp8
          generalize upd H6 d _ = H7
          intro s8 hp8
          have hml : ms.length ≤ 2 * uss.flatten.length + 2 := by
            rw [hpm.length_eq]
            omega
          have hpl : IsPl f uss ms := ⟨hsrt, m, hoth, fun n => by rw [hpm.mem_iff, hmem]⟩
          refine ⟨_, rfl, p, rfl, ⟨_, SqL.of hp8⟩, fun D2 hD2 => lc_lst (K := K) (a := p) ms (fun n : Nat => V.int (n : Int)) (fun _ => true) (fun n => V.str (S (wdp n))) hD2 (szT (by omega)) (SqL.of hp8) (fun n hn H' R S' s' h1 h2 => ?_) (fun H' s' h' => ?_)⟩
          · have hw := (pl_word hpl hok hf (by omega) hn).1
            simp only [wordT, Bool.and_eq_true, decide_eq_true_eq] at hw
            exact ⟨rfl, _, rfl, n, rfl, Nat.le_trans hw.2.1 (by decide), fun H'' s'' => h1 rfl _ s''⟩
          · rw [filt1] at h'
            exact q ms D2 H' hpl hml (s8.trans s') (s8.free hD2) h'
      · rintro hz m σ H2 ⟨j, rfl, rfl, h1, hj, rfl⟩
        refine ⟨_, rfl, _, rfl, d, _, rfl, DGet.k (k := .inl (j : Int)) hd1, _, rfl, ?_⟩
        rw [dB_val]
        by_cases hjk : j ∈ ks
        · rw [if_pos hjk]
          have : j ≤ ks.length := pig j ks fun x a b => by
            by_cases e : x = j
            · rw [e]
              exact hjk
            · exact hj x a (by omega)
          refine iteT ⟨fun σ H' => σ = [some (.ref r), some (.str (S f)), some (.ref d), o3, o4, o5, o6, some (.int ((j + 1 : Nat) : Int)), none, none] ∧ H' = H2, ?_, ?_⟩
          · rintro σ' H' ⟨rfl, rfl⟩
            refine ⟨_, ?_, j + 1, rfl, rfl, by omega, fun x a b => ?_, rfl⟩
            · omega
            · by_cases e : x = j
              · rw [e]
                exact hjk
              · exact hj x a (by omega)
          · exact ⟨_, rfl, _, _, rfl, rfl, rfl, rfl⟩
        · rw [if_neg hjk]
          exact iteF (hz _ _ ⟨j, rfl, rfl, h1, hjk, hj⟩)
def lP (t : Tm) (n : Nat) : Prop := lvT t n
def spLevels (K : PySem.W.Frag) : Sp := fun vs H Q _ => ∃ (r : Addr) (as : List Addr) (uss : Rws), vs = [.ref r] ∧ SqT K H r (as.map V.ref) ∧ RowsT K H as uss ∧ uss.flatten.length ≤ 9000 ∧ (∀ t ∈ uss.flatten, TmS t) ∧
  ∀ ls L H', IsLv uss ls → ls.length ≤ 2 * uss.flatten.length + 2 → Same H H' → H L = none → H' L = some (.lst (ls.map fun n : Nat => V.int (n : Int))) → Q (.ref L) H'
theorem lev_of_tm {t : Tm} (h : TmS t) (e : t.w = wLevel) : ∃ k, t.v = .inr k ∧ k ≤ 99 := by
  have hm : t.w ∈ fieldL := by rw [e]; decide
  rcases h.cmp hm with ⟨_, k, hk, _⟩ | ⟨k, _⟩
  · exact ⟨k, hk, h.lev k hm hk⟩
  · rw [e] at k
    rcases k with k | k <;> exact absurd k (by decide)
theorem Kd.lev {ks : List Nat} {ts : List Tm} {t : Tm} {k : Nat} (h : Kd lP ks ts [0]) (e : t.w = wLevel) (hk : t.v = .inr k) : Kd lP (if k < 99 then addK (addK ks k) (k + 1) else addK ks k) (ts ++ [t]) [0] := by
  have one : ∀ n, lP t n ↔ (n = k ∨ (n = k + 1 ∧ k < 99)) := fun n => by
    constructor
    · rintro ⟨_, k', hk', h'⟩
      rw [hk] at hk'
      cases hk'
      exact h'
    · exact fun h' => ⟨e, k, hk, h'⟩
  have l1 := add_len ks k
  have l2 := add_len (addK ks k) (k + 1)
  have l0 := h.len
  have mem : ∀ n, (∃ u ∈ ts ++ [t], lP u n) ↔ (∃ u ∈ ts, lP u n) ∨ lP t n := fun n => by
    constructor
    · rintro ⟨u, hu, p⟩
      rcases List.mem_append.mp hu with hu | hu
      · exact .inl ⟨u, hu, p⟩
      · rw [List.mem_singleton.mp hu] at p
        exact .inr p
    · rintro (⟨u, hu, p⟩ | p)
      · exact ⟨u, by simp [hu], p⟩
      · exact ⟨t, by simp, p⟩
  split
  · rename_i hlt
    refine ⟨add_nd (add_nd h.nd), fun n => ?_, ?_⟩
    · rw [add_mem, add_mem, h.mem, mem, one]
      simp only [hlt, and_true]
      exact ⟨fun z => by
        rcases z with ((a | b) | c) | d
        · exact .inl a
        · exact .inr (.inl b)
        · exact .inr (.inr (.inl c))
        · exact .inr (.inr (.inr d)), fun z => by
        rcases z with a | b | c | d
        · exact .inl (.inl (.inl a))
        · exact .inl (.inl (.inr b))
        · exact .inl (.inr c)
        · exact .inr d⟩
    · simp only [List.length_append, List.length_cons, List.length_nil] at *
      omega
  · rename_i hlt
    refine ⟨add_nd h.nd, fun n => ?_, ?_⟩
    · rw [add_mem, h.mem, mem, one]
      simp only [hlt, and_false, or_false]
      exact ⟨fun z => by
        rcases z with (a | b) | c
        · exact .inl a
        · exact .inr (.inl b)
        · exact .inr (.inr c), fun z => by
        rcases z with a | b | c
        · exact .inl (.inl a)
        · exact .inl (.inr b)
        · exact .inr c⟩
    · simp only [List.length_append, List.length_cons, List.length_nil] at *
      omega
theorem ok_levels_to_look_at (T : TexW w K mg D) : FnOk P w K mg base CX0 1 D.a_levels_to_look_at D.d_levels_to_look_at P_levels_to_look_at (spLevels K) := by
  refine T.levels_to_look_at_F.ok S_levels_to_look_at (fun vs H Q E h => ?_) (fun cdv A outer s H vs Q E hr h => ?_)
  · obtain ⟨r, as, uss, rfl, _⟩ := h
    rfl
  · obtain ⟨r, as, uss, rfl, hr0, hrows, hl, hok, q⟩ := h
    have hu := hu_of hr
    refine ⟨_, (pss_cons (ps_set (i := 1) S_levels_to_look_at.nd rfl (Or.inl rfl) (pe_disp (pps_cons pe_int pe_bl pps_nil) (by rfl) (by rfl) (fun z => by cases z) (by decide)))
      (pss_cons (ps_for PassesOwn.never rfl (pi_tup (pv 0)) (pg_name (i := 2) S_levels_to_look_at.nd rfl (Or.inl rfl)) (pss_one (ps_for PassesOwn.never rfl (pi_tup (pv 2)) (pg_tup (by rfl) (pgs_cons (pg_name (i := 3) S_levels_to_look_at.nd rfl (Or.inl rfl)) (pgs_cons (pg_name (i := 4) S_levels_to_look_at.nd rfl (Or.inl rfl)) (pgs_cons (pg_name (i := 5) S_levels_to_look_at.nd rfl (Or.inl rfl)) pgs_nil)))) (pss_one (ps_if (pt_cmpR op_eq (pv 3) pe_str (nomark _)) (pss_cons (ps_dput hu (pv 1) (pv 5) pe_bl rfl)
      (pss_one (ps_if (pt_cmpR op_lt (pv 5) (pe_glob (v := .int 99) rfl T.c_HIGHEST ⟨_, rfl⟩) (nomark _)) (pss_one (ps_dput hu (pv 1) (pe_op op_add (pv 5) pe_int) pe_bl rfl)) pss_nil))) pss_nil)))))
      (pss_one (ps_lock (ps_ret (pe_callB cr_sortedI (by rfl) T.b_sorted (by decide +kernel) (pa_cons (pe_lc (own := [(("level" : Str), 6)]) (g := gName 6) (tt := tYes) rfl S_levels_to_look_at.nd (pi_keys (pv 1)) (blkOk_by (N := N_levels_to_look_at) (sc := defScope s_levels_to_look_at) (by decide +kernel)) (fun _ _ _ _ _ => pg_name (i := 6) S_levels_to_look_at.nd rfl (Or.inl rfl)) (fun _ _ _ _ _ => pts_nil) (fun _ _ _ _ _ => (pe_callTy call_int1 (by rfl) T.b_int (by decide +kernel) (pa_cons (pv 6) pa_nil)))) pa_nil))))))), ?_⟩
    have hlen := hrows.len
    refine fun d hd => ⟨upd_same, [(.inl 0, .bl true)], rfl, by decide, ?_⟩
    rw [show mergeK [] [((.inl 0 : Key), V.bl true)] = dB [0] from rfl, upd_upd]
    have s1 := same_new (o := .dK (dB [0])) hd
    refine ⟨_, rfl, r, rfl, ⟨_, sqT_keep s1 hr0⟩, for_tup (K := K) (a := r) (xs := as.map V.ref) (fun i σ H' => ∃ (o2 o3 o4 o5 : Option V) (ks : List Nat), σ = [some (.ref r), some (.ref d), o2, o3, o4, o5, none] ∧ Same H H' ∧ H' d = some (.dK (dB ks)) ∧ Kd lP ks (uss.take i).flatten [0])
      ⟨none, none, none, none, [0], rfl, s1, upd_same, by simp, fun n => by simp, by simp⟩ (fun i σ H' _ h => by
        obtain ⟨_, _, _, _, _, _, s', _⟩ := h
        exact sqT_keep s' hr0) ?_ ?_⟩
    · rintro i v σ H1 hi ⟨o2, o3, o4, o5, ks, rfl, s2, hd1, hk⟩
      obtain ⟨a, ha, rfl⟩ := ref_at hi
      obtain ⟨us, hus, ps, hps, hrow⟩ := (hrows.keep s2).at ha
      have hpl := hrow.len
      refine ⟨_, rfl, ?_⟩
      refine ⟨a, rfl, ⟨_, hps⟩, for_tup (K := K) (a := a) (xs := ps.map V.ref) (fun j σ H' => ∃ (o3 o4 o5 : Option V) (ks : List Nat), σ = [some (.ref r), some (.ref d), some (.ref a), o3, o4, o5, none] ∧ Same H H' ∧ H' d = some (.dK (dB ks)) ∧ SqT K H' a (ps.map V.ref) ∧ Row K H' ps us ∧ Kd lP ks ((uss.take i).flatten ++ us.take j) [0])
        ⟨_, _, _, ks, rfl, s2, hd1, hps, hrow, by simpa using hk⟩ (fun i σ H' _ h => by
          obtain ⟨_, _, _, _, _, _, _, h', _⟩ := h
          exact h') ?_ ?_⟩
      · rintro j v σ H2 hj ⟨o3, o4, o5, ks2, rfl, s3, hd2, hps2, hrow2, hk2⟩
        obtain ⟨p, hp, rfl⟩ := ref_at hj
        obtain ⟨t, ht, hst⟩ := hrow2.at hp
        have htm := hok t (mem_flat hus (List.mem_of_getElem? ht))
        have eT : us.take (j + 1) = us.take j ++ [t] := one_more ht
        refine ⟨p, _, rfl, hst, rfl, _, _, rfl, _, _, rfl, _, _, rfl, rfl, ?_⟩
        refine ⟨_, rfl, rfl, _, rfl, ?_⟩
        rw [lvl_t, eq_S]
        by_cases hw : t.w = wLevel
        · rw [decide_eq_true hw]
          obtain ⟨k, hv, hk99⟩ := lev_of_tm htm hw
          have kl := hk2.len
          have fl2 : (uss.take i).flatten.length + us.length ≤ uss.flatten.length := by
            have := flat_len (uss := uss) (i := i + 1)
            rw [take_flat hus, List.length_append] at this
            exact this
          have kl2 : ks2.length ≤ 18001 := by
            simp only [List.length_append, List.length_cons, List.length_nil, List.length_take] at kl
            omega
          have hkd := hk2.lev hw hv
          rw [hv]
          refine iteT ⟨_, rfl, _, rfl, d, _, rfl, DPut.k (k := .inl (k : Int)) hd2 (by rw [dB_len]; exact szT (by omega)), ?_⟩
          rw [dB_put]
          have s4 := same_upd (o := .dK (dB (addK ks2 k))) s3 hd
          have hd4 : (upd H2 d (.dK (dB (addK ks2 k)))) d = some (.dK (dB (addK ks2 k))) := upd_same
          have hps4 := sqT_kp (kp_upd (o := .dK (dB (addK ks2 k))) hd2) hps2
          have hrow4 := hrow2.kp (kp_upd (o := .dK (dB (addK ks2 k))) hd2)
          have al := add_len ks2 k
          revert s4 hd4 hps4 hrow4
          generalize upd H2 d _ = H4
          intro s4 hd4 hps4 hrow4
          refine ⟨_, rfl, _, _, rfl, rfl, _, rfl, ?_⟩
          rw [show decide ((k : Int) < 99) = decide (k < 99) from decide_eq_decide.mpr (by omega)]
          by_cases h99 : k < 99
          · rw [decide_eq_true h99]
            rw [if_pos h99] at hkd
            refine iteT ⟨_, rfl, _, rfl, _, _, rfl, rfl, d, _, rfl, DPut.k (k := .inl ((k + 1 : Nat) : Int)) hd4 (by rw [dB_len]; exact szT (by omega)), ?_⟩
            rw [dB_put]
            refine ⟨_, _, _, _, rfl, same_upd s4 hd, upd_same, sqT_kp (kp_upd hd4) hps4, hrow4.kp (kp_upd hd4), ?_⟩
            rw [eT, ← List.append_assoc]
            exact hkd
          · rw [decide_eq_false h99]
            rw [if_neg h99] at hkd
            refine iteF ⟨_, _, _, _, rfl, s4, hd4, hps4, hrow4, ?_⟩
            rw [eT, ← List.append_assoc]
            exact hkd
        · rw [decide_eq_false hw]
          refine iteF ⟨_, _, _, ks2, rfl, s3, hd2, hps2, hrow2, ?_⟩
          rw [eT, ← List.append_assoc]
          exact hk2.no fun n k => hw k.1
      · rintro σ H2 ⟨o3, o4, o5, ks2, rfl, s3, hd2, hps2, hrow2, hk2⟩
        refine ⟨_, _, _, _, ks2, rfl, s3, hd2, ?_⟩
        rw [List.length_map, hpl, List.take_length] at hk2
        rw [take_flat hus]
        exact hk2
    · rintro σ H1 ⟨o2, o3, o4, o5, kk, rfl, s3, hd3, hk⟩
      rw [List.length_map, hlen, List.take_length] at hk
      have kl := hk.len
      simp only [List.length_cons, List.length_nil] at kl
      refine ⟨d, .dK (dB kk), hd3, trivial, fun od => ?_⟩
      have hd4 : (upd H1 d (.frz od (.dK (dB kk)))) d = some (.frz od (.dK (dB kk))) := upd_same
      have s4 := same_upd (o := .frz od (.dK (dB kk))) s3 hd
      revert hd4 s4
      generalize upd H1 d (.frz od (.dK (dB kk))) = H4
      intro hd4 s4
      refine ⟨_, rfl, d, od, rfl, .inl ⟨dB kk, hd4, fun DD hDD => lc_map walk_keys kk (fun n : Nat => V.int (n : Int)) (by rw [dB_len]) ?_ (fun _ => true) (fun n : Nat => V.int (n : Int)) hDD (by rw [dB_len]; exact szT (by omega)) (fun H' s' => s' _ _ hd4) ?_ ?_⟩⟩
      · rintro i H' v H'' ⟨e, k, v', h1, h2⟩
        refine ⟨e, ?_⟩
        unfold dB at h1
        rw [List.getElem?_map] at h1
        cases h3 : kk[i]? with
        | none =>
          rw [h3] at h1
          cases h1
        | some p =>
          rw [h3] at h1
          cases h1
          exact ⟨p, rfl, h2⟩
      · intro n hn H5 R S s5 h1 h2
        exact ⟨rfl, _, rfl, .inl ⟨_, rfl, h1 rfl _ (Same.refl _)⟩⟩
      · intro H5 s5 hDD5
        rw [filt1] at hDD5
        have hd5 := s5 _ _ hd4
        have s6 := s4.trans s5
        have hDD5' : H5 DD = some (.lst ((kk.map fun n : Nat => (n : Int)).map V.int)) := by
          rw [hDD5, List.map_map]
          rfl
        refine ⟨DD, kk.map fun n : Nat => (n : Int), rfl, SqL.of hDD5', fun ns p hperm hpair hp => ?_⟩
        obtain ⟨ms, rfl, hsrt, hpm⟩ := srt_nat hk.nd hperm hpair
        have hd6 := (same_new (o := .lst ((ms.map fun n : Nat => (n : Int)).map V.int)) hp) _ _ hd5
        have s7 := s6.trans (same_new (o := .lst ((ms.map fun n : Nat => (n : Int)).map V.int)) hp)
        have hp6 : (upd H5 p (.lst ((ms.map fun n : Nat => (n : Int)).map V.int))) p = some (.lst ((ms.map fun n : Nat => (n : Int)).map V.int)) := upd_same
        have hpd : p ≠ d := (ne_of_none hd5 hp).symm
        have hp0 := s6.free hp
        refine ⟨hd6, q ms p _ ⟨hsrt, fun n => ?_⟩ (by rw [hpm.length_eq]; omega) (same_upd s7 hd) hp0 ?_⟩
        · rw [hpm.mem_iff, hk.mem]
          simp [lP]
        · rw [upd_ne hpd, hp6, List.map_map]
          rfl
end

/-! ### spots_to_look_at, answers_at, first_spot -/
section
variable {P : Program} {w : World} {K : PySem.W.Frag} {mg : Str → Option Value} {base : Heap} {D : Ad}
open TL SX
def spW (p : Spt) : List V := [.str (S p.s), .str (S p.m), .int (p.v : Int)]
/-- spots as tuples -/
def TS (H : Hp) : List Addr → List Spt → Prop
  | [], [] => True
  | t :: ts, p :: ps => H t = some (.tup (spW p)) ∧ TS H ts ps
  | _, _ => False
theorem TS.kp {H H' : Hp} (k : Kp H H') : ∀ {ts : List Addr} {ps : List Spt}, TS H ts ps → TS H' ts ps
  | [], [], _ => trivial
  | _ :: _, _ :: _, h => ⟨k _ _ h.1 (fun _ z => nomatch z), TS.kp k h.2⟩
  | [], _ :: _, h => h.elim
  | _ :: _, [], h => h.elim
theorem TS.lst {H : Hp} {D : Addr} {xs : List V} {o : HO} (hD : H D = some (.lst xs)) : ∀ {ts : List Addr} {ps : List Spt}, TS H ts ps → TS (L2.upd H D o) ts ps
  | [], [], _ => trivial
  | _ :: _, _ :: _, h => ⟨by rw [upd_ne (fun e => by have := h.1; rw [e, hD] at this; cases this)]; exact h.1, TS.lst hD h.2⟩
  | [], _ :: _, h => h.elim
  | _ :: _, [], h => h.elim
theorem TS.snoc {H : Hp} {t : Addr} {p : Spt} (ht : H t = some (.tup (spW p))) : ∀ {ts : List Addr} {ps : List Spt}, TS H ts ps → TS H (ts ++ [t]) (ps ++ [p])
  | [], [], _ => ⟨ht, trivial⟩
  | _ :: _, _ :: _, h => ⟨h.1, TS.snoc ht h.2⟩
  | [], _ :: _, h => h.elim
  | _ :: _, [], h => h.elim
theorem TS.len {H : Hp} : ∀ {ts : List Addr} {ps : List Spt}, TS H ts ps → ts.length = ps.length
  | [], [], _ => rfl
  | _ :: _, _ :: _, h => by rw [List.length_cons, List.length_cons, TS.len h.2]
  | [], _ :: _, h => h.elim
  | _ :: _, [], h => h.elim
theorem TS.at {H : Hp} : ∀ {ts : List Addr} {ps : List Spt} {i : Nat} {t : Addr}, TS H ts ps → ts[i]? = some t → ∃ p, ps[i]? = some p ∧ H t = some (.tup (spW p))
  | _ :: _, _ :: _, 0, _, h, e => by
    obtain rfl := Option.some.inj e
    exact ⟨_, rfl, h.1⟩
  | _ :: _, _ :: _, i + 1, _, h, e => TS.at (i := i) h.2 e
  | [], [], _, _, _, e => by cases e
  | [], _ :: _, _, _, h, _ => h.elim
  | _ :: _, [], _, _, h, _ => h.elim
theorem at_map {α : Type} {xs : List α} {f : α → V} {i : Nat} {v : V} (h : (xs.map f)[i]? = some v) : ∃ a, xs[i]? = some a ∧ v = f a := by
  rw [List.getElem?_map] at h
  cases e : xs[i]? with
  | none =>
    rw [e] at h
    cases h
  | some p =>
    rw [e] at h
    exact ⟨p, rfl, (Option.some.inj h).symm⟩
theorem prod_len (ps ms ls : List Nat) : (prodS ps ms ls).length = ps.length * (ms.length * ls.length) := by
  have one : ∀ (a : Nat) (ms : List Nat), (ms.flatMap fun b => ls.map fun c => (⟨wdp a, wdp b, c⟩ : Spt)).length = ms.length * ls.length := by
    intro a ms
    induction ms with
    | nil => simp
    | cons b r ih =>
      rw [List.flatMap_cons, List.length_append, ih, List.length_map, List.length_cons, Nat.add_mul]
      omega
  unfold prodS
  induction ps with
  | nil => simp
  | cons a r ih =>
    rw [List.flatMap_cons, List.length_append, ih, one, List.length_cons, Nat.add_mul]
    omega
def spSpots (K : PySem.W.Frag) : Sp := fun vs H Q _ => ∃ (r : Addr) (as : List Addr) (uss : Rws), vs = [.ref r] ∧ SqT K H r (as.map V.ref) ∧ RowsT K H as uss ∧ uss.flatten.length ≤ 100 ∧ (∀ t ∈ uss.flatten, TmS t) ∧
  ∀ L ts sps H', IsSp uss sps → Same H H' → H' L = some (.lst (ts.map V.ref)) → TS H' ts sps → Q (.ref L) H'
theorem ok_spots_to_look_at (T : TexW w K mg D) : FnOk P w K mg base CX0 3 D.a_spots_to_look_at D.d_spots_to_look_at P_spots_to_look_at (spSpots K) := by
  have G_words_to_look_at : FnOk P w K mg base CX0 2 D.a_words_to_look_at D.d_words_to_look_at P_words_to_look_at (spWords K) := ok_words_to_look_at T
  have G_levels_to_look_at : FnOk P w K mg base CX0 1 D.a_levels_to_look_at D.d_levels_to_look_at P_levels_to_look_at (spLevels K) := ok_levels_to_look_at T
  refine T.spots_to_look_at_F.ok S_spots_to_look_at (fun vs H Q E h => ?_) (fun cdv A outer s H vs Q E hr h => ?_)
  · obtain ⟨r, as, uss, rfl, _⟩ := h
    rfl
  · obtain ⟨r, as, uss, rfl, hr0, hrows, hl, hok, q⟩ := h
    refine ⟨_, (pss_cons (ps_set (i := 1) S_spots_to_look_at.nd rfl (Or.inl rfl) (pe_call G_words_to_look_at (hr.mono (by decide)) (by rfl) T.words_to_look_at_g T.words_to_look_at_F.kp T.words_to_look_at_b .nil pass0 (pa_cons (pv 0) (pa_cons pe_str pa_nil))))
      (pss_cons (ps_set (i := 2) S_spots_to_look_at.nd rfl (Or.inr rfl) (pe_call G_words_to_look_at (hr.mono (by decide)) (by rfl) T.words_to_look_at_g T.words_to_look_at_F.kp T.words_to_look_at_b .nil pass0 (pa_cons (pv 0) (pa_cons pe_str pa_nil))))
      (pss_cons (ps_set (i := 3) S_spots_to_look_at.nd rfl (Or.inr rfl) (pe_call G_levels_to_look_at (hr.mono (by decide)) (by rfl) T.levels_to_look_at_g T.levels_to_look_at_F.kp T.levels_to_look_at_b .nil pass0 (pa_cons (pv 0) pa_nil)))
      (pss_one (ps_ret (pe_lcN (own := [(("system" : Str), 4), (("machine" : Str), 5), (("level" : Str), 6)]) (c := ⟨_, gName 4, tYes, [4, 5, 6]⟩) (cs := [⟨_, gName 5, tYes, [5, 6]⟩, ⟨_, gName 6, tYes, [6]⟩]) rfl S_spots_to_look_at.nd (pi_list (pv 1)) (blkOk_by (N := N_spots_to_look_at) (sc := defScope s_spots_to_look_at) (by decide +kernel)) rfl (fun _ _ _ _ _ => (pg_name (i := 4) S_spots_to_look_at.nd rfl (Or.inl rfl))) (fun _ _ _ _ _ => pts_nil) (fun _ _ _ _ _ => (.cons (pi_listK (KK := K) rfl (pv 2)) (pg_name (i := 5) S_spots_to_look_at.nd rfl (Or.inl rfl)) pts_nil rfl (fun _ => rfl) (List.forall_mem_cons.mpr ⟨(by show ∀ i ∈ ([6] : List Nat), i ∈ ([5, 6] : List Nat); decide), (fun _ z => nomatch z)⟩) (.cons (pi_listK (KK := K) rfl (pv 3)) (pg_name (i := 6) S_spots_to_look_at.nd rfl (Or.inl rfl)) pts_nil rfl (fun _ => rfl) (fun _ z => nomatch z) .nil))) (List.forall_mem_cons.mpr ⟨(by show ∀ i ∈ ([5, 6] : List Nat), i ∈ ([4, 5, 6] : List Nat); decide), (List.forall_mem_cons.mpr ⟨(by show ∀ i ∈ ([6] : List Nat), i ∈ ([4, 5, 6] : List Nat); decide), (fun _ z => nomatch z)⟩)⟩) (fun _ _ _ _ _ => (pe_tup (pa_cons (pv 4) (pa_cons (pv 5) (pa_cons (pv 6) pa_nil))))))))))), ?_⟩
    refine ⟨_, rfl, r, as, uss, wSystem, congrArg (fun z => [V.ref r, V.str z]) sys_t, .inl rfl, hr0, hrows, by omega, hok, fun ps L1 H1 hps lp s1 _ h1 => ?_⟩
    refine ⟨_, rfl, r, as, uss, wMachine, congrArg (fun z => [V.ref r, V.str z]) mac_t, .inr rfl, sqT_keep s1 hr0, hrows.keep s1, by omega, hok, fun ms L2 H2 hms lm s2 _ h2 => ?_⟩
    have s12 := s1.trans s2
    refine ⟨_, rfl, r, as, uss, rfl, sqT_keep s12 hr0, hrows.keep s12, by omega, hok, fun ls L3 H3 hls ll s3 _ h3 => ?_⟩
    have s13 := s12.trans s3
    have h1 := s3 _ _ (s2 _ _ h1)
    have h2 := s3 _ _ h2
    refine ⟨_, rfl, L1, rfl, ⟨_, SqL.of h1⟩, fun DD hDD => ?_⟩
    refine cla_it (walk_list (K := K) (a := L1) (xs := ps.map fun n => V.str (S (wdp n)))) (fun i G => Same H3 G ∧ ∃ ts, G DD = some (.lst (ts.map V.ref)) ∧ TS G ts (prodS (ps.take i) ms ls)) ⟨same_new hDD, [], upd_same, trivial⟩ (fun i G _ h => SqL.of (h.1 _ _ h1)) ?_ ?_
    · rintro i x G G' hi ⟨sG, ts, hts, hT⟩ ⟨rfl, hx⟩
      obtain ⟨a, ha, rfl⟩ := at_map hx
      have DH3 : ∀ {G : Hp}, Same H3 G → ∀ o, Same H3 (upd G DD o) := fun {G} s o => same_upd s hDD
      refine ⟨rfl, _, rfl, L2, rfl, ⟨_, SqL.of (sG _ _ h2)⟩, ?_⟩
      refine cla_it (walk_list (K := K) (a := L2) (xs := ms.map fun n => V.str (S (wdp n)))) (fun j G => Same H3 G ∧ ∃ ts, G DD = some (.lst (ts.map V.ref)) ∧ TS G ts (prodS (ps.take i) ms ls ++ prodS [a] (ms.take j) ls)) ⟨sG, ts, hts, by simpa [prodS] using hT⟩ (fun j G _ h => SqL.of (h.1 _ _ h2)) ?_ ?_
      · rintro j y G2 G2' hj ⟨sG2, ts2, hts2, hT2⟩ ⟨rfl, hy⟩
        obtain ⟨b, hb, rfl⟩ := at_map hy
        refine ⟨rfl, _, rfl, L3, rfl, ⟨_, SqL.of (sG2 _ _ h3)⟩, ?_⟩
        refine cla_it (c := ⟨fun _ _ _ => True, gName 6, tYes, [6]⟩) (cs := []) (walk_list (K := K) (a := L3) (xs := ls.map fun n : Nat => V.int (n : Int))) (fun k G => Same H3 G ∧ ∃ ts, G DD = some (.lst (ts.map V.ref)) ∧ TS G ts (prodS (ps.take i) ms ls ++ prodS [a] (ms.take j) ls ++ (ls.take k).map fun c => (⟨wdp a, wdp b, c⟩ : Spt))) ⟨sG2, ts2, hts2, by simpa using hT2⟩ (fun k G _ h => SqL.of (h.1 _ _ h3)) ?_ ?_
        · rintro k z G3 G3' hk ⟨sG3, ts3, hts3, hT3⟩ ⟨rfl, hz⟩
          obtain ⟨c, hc, rfl⟩ := at_map hz
          have tl := hT3.len
          refine ⟨rfl, _, rfl, _, rfl, _, rfl, by show 3 ≤ sizeLine; decide, fun t ht => ?_⟩
          have sn := same_new (o := .tup (spW ⟨wdp a, wdp b, c⟩)) ht
          have hT4 := TS.snoc (t := t) (p := ⟨wdp a, wdp b, c⟩) (upd_same (H := G3') (a := t)) (hT3.kp (kp_same sn))
          have hts4 := sn _ _ hts3
          refine ⟨_, hts4, ?_, DH3 (sG3.trans sn) _, ts3 ++ [t], ?_, ?_⟩
          · rw [List.length_map, tl, List.length_append, List.length_append, prod_len, prod_len, List.length_map, List.length_take, List.length_take, List.length_take]
            have b1 : ms.length * ls.length ≤ 202 * 202 := Nat.mul_le_mul (by omega) (by omega)
            have b2 : min i ps.length * (ms.length * ls.length) ≤ 202 * (202 * 202) := Nat.mul_le_mul (by omega) b1
            have b3 : [a].length * (min j ms.length * ls.length) ≤ 1 * (202 * 202) := Nat.mul_le_mul (Nat.le_refl 1) (Nat.mul_le_mul (by omega) (by omega))
            exact Nat.lt_of_le_of_lt (Nat.add_le_add (Nat.add_le_add b2 b3) (show min k ls.length ≤ 202 by omega)) (by decide)
          · rw [upd_same, List.map_append]
            rfl
          · have := hT4.lst (o := .lst (ts3.map V.ref ++ [V.ref t])) hts4
            rw [one_more hc, List.map_append, ← List.append_assoc]
            exact this
        · rintro G3 ⟨sG3, ts3, hts3, hT3⟩
          refine ⟨sG3, ts3, hts3, ?_⟩
          rw [List.length_map, List.take_length] at hT3
          rw [one_more hb]
          have e : prodS [a] (ms.take j ++ [b]) ls = prodS [a] (ms.take j) ls ++ ls.map fun c => (⟨wdp a, wdp b, c⟩ : Spt) := by simp [prodS]
          rw [e, ← List.append_assoc]
          exact hT3
      · rintro G2 ⟨sG2, ts2, hts2, hT2⟩
        refine ⟨sG2, ts2, hts2, ?_⟩
        rw [List.length_map, List.take_length] at hT2
        rw [one_more ha]
        have e : prodS (ps.take i ++ [a]) ms ls = prodS (ps.take i) ms ls ++ prodS [a] ms ls := by simp [prodS]
        rw [e]
        exact hT2
    · rintro G ⟨sG, ts, hts, hT⟩
      rw [List.length_map, List.take_length] at hT
      exact q DD ts _ G ⟨ps, ms, ls, hps, hms, hls, rfl⟩ (s13.trans sG) hts hT
end

/-! ### answers_at, first_spot -/
section
variable {P : Program} {w : World} {K : PySem.W.Frag} {mg : Str → Option Value} {base : Heap} {D : Ad}
open TL SX
def ansB (us : List Tm) (p : Spt) : Bool := match vlR (evT p) [] us with
  | some [x] => x
  | _ => false
theorem Sem.ans {us : List Tm} {f : Spt → Bool} (h : Sem us f) (p : Spt) : ansB us p = f p := by
  unfold ansB
  rw [h p]
/-- steps that can be asked -/
structure Ask (us : List Tm) : Prop where
  tm : ∀ t ∈ us, TmS t
  one : ∀ p, ∃ x, vlR (evT p) [] us = some [x]
theorem Ask.ans {us : List Tm} (h : Ask us) (p : Spt) : vlR (evT p) [] us = some [ansB us p] := by
  obtain ⟨x, e⟩ := h.one p
  unfold ansB
  rw [e]
theorem Ask.sem {us : List Tm} (h : Ask us) : Sem us (ansB us) := h.ans
theorem zip_at {α β : Type} {f : α → V} : ∀ {as : List α} {bs : List β} {i : Nat} {v : V}, as.length = bs.length → (as.map f)[i]? = some v → ∃ z, (as.zip bs)[i]? = some z ∧ v = f z.1
  | [], [], _, _, _, h => by cases h
  | a :: as, b :: bs, 0, _, _, h => ⟨(a, b), rfl, (Option.some.inj h).symm⟩
  | a :: as, b :: bs, i + 1, _, e, h => zip_at (as := as) (bs := bs) (i := i) (by simpa using e) h
  | [], _ :: _, _, _, e, _ => by simp at e
  | _ :: _, [], _, _, e, _ => by simp at e
theorem RowsT.zip {H : Hp} : ∀ {as : List Addr} {uss : Rws} {z : Addr × List Tm}, RowsT K H as uss → z ∈ as.zip uss → z.2 ∈ uss ∧ ∃ ps : List Addr, SqT K H z.1 (ps.map V.ref) ∧ Row K H ps z.2
  | a :: as, us :: uss, z, h, hz => by
    rcases List.mem_cons.mp (show z ∈ (a, us) :: as.zip uss from hz) with rfl | hz
    · exact ⟨by simp, h.1⟩
    · obtain ⟨x, y⟩ := RowsT.zip h.2 hz
      exact ⟨List.mem_cons_of_mem _ x, y⟩
  | [], [], _, _, hz => by cases hz
  | [], _ :: _, _, h, _ => h.elim
  | _ :: _, [], _, h, _ => h.elim
def spAns (K : PySem.W.Frag) : Sp := fun vs H Q _ => ∃ (r b : Addr) (as : List Addr) (uss : Rws) (p : Spt), vs = [.ref r, .ref b] ∧ SqT K H r (as.map V.ref) ∧ RowsT K H as uss ∧ SqT K H b (spW p) ∧ uss.length ≤ 100 ∧ (∀ us ∈ uss, us.length ≤ 3000 ∧ Ask us) ∧
  ∀ t H', Same H H' → H' t = some (.tup ((uss.map fun us => ansB us p).map V.bl)) → Q (.ref t) H'
theorem ok_answers_at (T : TexW w K mg D) : FnOk P w K mg base CX0 3 D.a_answers_at D.d_answers_at P_answers_at (spAns K) := by
  have G_holds_at : FnOk P w K mg base CX0 2 D.a_holds_at D.d_holds_at P_holds_at (spHolds K) := ok_holds_at T
  refine T.answers_at_F.ok S_answers_at (fun vs H Q E h => ?_) (fun cdv A outer s H vs Q E hr h => ?_)
  · obtain ⟨r, b, as, uss, p, rfl, _⟩ := h
    rfl
  · obtain ⟨r, b, as, uss, p, rfl, hr0, hrows, hb, hl, hok, q⟩ := h
    refine ⟨_, (pss_one (ps_ret (pe_callTy call_tuple_of (by rfl) T.b_tuple (by decide +kernel) (pa_cons (pe_lc (own := [(("steps" : Str), 2)]) (g := gName 2) (tt := tYes) rfl S_answers_at.nd (pi_tup (pv 0)) (blkOk_by (N := N_answers_at) (sc := defScope s_answers_at) (by decide +kernel)) (fun _ _ _ _ _ => pg_name (i := 2) S_answers_at.nd rfl (Or.inl rfl)) (fun _ _ _ _ _ => pts_nil) (fun _ _ _ _ _ => (pe_call G_holds_at (hr.mono (by decide)) (by rfl) T.holds_at_g T.holds_at_F.kp T.holds_at_b .nil pass0 (pa_cons (pv 2) (pa_cons (pv 1) pa_nil))))) pa_nil)))), ?_⟩
    have hlen := hrows.len
    refine ⟨_, rfl, r, rfl, ⟨_, hr0⟩, fun DD hDD => lc_map (walk_tup (K := K) (a := r) (xs := as.map V.ref)) (as.zip uss) (fun z => V.ref z.1) (by simp [hlen]) (fun i H x H' ⟨e, h⟩ => ⟨e, zip_at hlen h⟩) (fun _ => true) (fun z => V.bl (ansB z.2 p)) hDD (by rw [List.length_map]; exact szT (by omega)) (fun H' s' => sqT_keep s' hr0) ?_ ?_⟩
    · intro z hz H1 R S s1 h1 h2
      obtain ⟨hz2, ps, hps, hrow⟩ := hrows.zip hz
      obtain ⟨l3, ask⟩ := hok z.2 hz2
      exact ⟨rfl, _, rfl, _, rfl, z.1, b, ps, z.2, p, ansB z.2 p, rfl, sqT_keep s1 hps, hrow.keep s1, sqT_keep s1 hb, l3, fun t ht => (ask.tm t ht).cmp, ask.ans p, fun H' s' => h1 rfl H' s'⟩
    · intro H1 s1 h1
      rw [filt1] at h1
      have e : (as.zip uss).map (fun z => V.bl (ansB z.2 p)) = (uss.map fun us => ansB us p).map V.bl := by
        rw [List.map_map]
        have : (as.zip uss).map (fun z => V.bl (ansB z.2 p)) = ((as.zip uss).map Prod.snd).map (fun us => V.bl (ansB us p)) := by
          rw [List.map_map]
          rfl
        rw [this, List.map_snd_zip (by omega)]
        rfl
      rw [e] at h1
      refine ⟨DD, _, rfl, .inl ⟨SqL.of h1, fun l hl2 => q l _ (s1.trans (same_new hl2)) upd_same⟩⟩
def ansL (uss : Rws) (p : Spt) : List Bool := uss.map fun us => ansB us p
theorem WsT.keep {H H' : Hp} (s : Same H H') : ∀ {as : List Addr} {ws : List (List Bool)}, WsT K H as ws → WsT K H' as ws
  | [], [], _ => trivial
  | _ :: _, _ :: _, h => ⟨sqT_keep s h.1, WsT.keep s h.2⟩
  | [], _ :: _, h => h.elim
  | _ :: _, [], h => h.elim
def spFirst (K : PySem.W.Frag) : Sp := fun vs H Q _ => ∃ (r b : Addr) (as bs : List Addr) (uss : Rws) (ws : List (List Bool)), vs = [.ref r, .ref b] ∧ SqT K H r (as.map V.ref) ∧ RowsT K H as uss ∧ SqT K H b (bs.map V.ref) ∧ WsT K H bs ws ∧
  uss.flatten.length ≤ 100 ∧ uss.length ≤ 100 ∧ (∀ us ∈ uss, Ask us) ∧ ∀ sps H', IsSp uss sps → Same H H' → ((∀ p ∈ sps, ansL uss p ∉ ws) → Q .non H') ∧
    ∀ p pre post t, sps = pre ++ p :: post → (∀ x ∈ pre, ansL uss x ∉ ws) → ansL uss p ∈ ws → H' t = some (.tup (spW p)) → Q (.ref t) H'
theorem ok_first_spot (T : TexW w K mg D) : FnOk P w K mg base CX0 8 D.a_first_spot D.d_first_spot P_first_spot (spFirst K) := by
  have G_spots_to_look_at : FnOk P w K mg base CX0 3 D.a_spots_to_look_at D.d_spots_to_look_at P_spots_to_look_at (spSpots K) := ok_spots_to_look_at T
  have G_answers_at : FnOk P w K mg base CX0 3 D.a_answers_at D.d_answers_at P_answers_at (spAns K) := ok_answers_at T
  refine T.first_spot_F.ok S_first_spot (fun vs H Q E h => ?_) (fun cdv A outer s H vs Q E hr h => ?_)
  · obtain ⟨r, b, as, bs, uss, ws, rfl, _⟩ := h
    rfl
  · obtain ⟨r, b, as, bs, uss, ws, rfl, hr0, hrows, hb, hws, hl, hl2, hok, q⟩ := h
    refine ⟨_, (pss_cons (ps_for PassesOwn.never rfl (pi_list (pe_call G_spots_to_look_at (hr.mono (by decide)) (by rfl) T.spots_to_look_at_g T.spots_to_look_at_F.kp T.spots_to_look_at_b .nil pass0 (pa_cons (pv 0) pa_nil))) (pg_name (i := 2) S_first_spot.nd rfl (Or.inl rfl)) (pss_one (ps_if (pt_cmpR (op_inT (units65 hr)) (pe_call G_answers_at (hr.mono (by decide)) (by rfl) T.answers_at_g T.answers_at_F.kp T.answers_at_b .nil pass0 (pa_cons (pv 0) (pa_cons (pv 2) pa_nil))) (pv 1) rfl) (pss_one (ps_ret (pv 2))) pss_nil)))
      (pss_one (ps_ret pe_non))), ?_⟩
    have hlen := hrows.len
    have htm : ∀ t ∈ uss.flatten, TmS t := fun t ht => by
      obtain ⟨us, hus, hm⟩ := List.mem_flatten.mp ht
      exact (hok us hus).tm t hm
    have hul : ∀ us ∈ uss, us.length ≤ 3000 ∧ Ask us := fun us hus => by
      refine ⟨?_, hok us hus⟩
      obtain ⟨i, hi⟩ := List.mem_iff_getElem?.mp hus
      have := flat_len (uss := uss) (i := i + 1)
      rw [take_flat hi, List.length_append] at this
      omega
    refine ⟨_, rfl, r, as, uss, rfl, hr0, hrows, hl, htm, fun L ts sps H1 hsp s1 hL hT => ?_⟩
    have tl := hT.len
    refine ⟨L, rfl, ⟨_, SqL.of hL⟩, for_list (K := K) (a := L) (xs := ts.map V.ref) (fun i σ H' => ∃ o : Option V, σ = [some (.ref r), some (.ref b), o] ∧ Same H1 H' ∧ ∀ x ∈ sps.take i, ansL uss x ∉ ws) ⟨none, rfl, Same.refl _, fun x hx => by simp at hx⟩ (fun i σ H' _ h => by
      obtain ⟨_, _, s', _⟩ := h
      exact SqL.of (s' _ _ hL)) ?_ ?_⟩
    · rintro i v σ H2 hi ⟨o, rfl, s2, hno⟩
      obtain ⟨t, ht, rfl⟩ := ref_at hi
      obtain ⟨p, hp, hpt⟩ := hT.at ht
      have s12 := s1.trans s2
      have hpt2 := s2 _ _ hpt
      refine ⟨_, rfl, _, rfl, r, t, as, uss, p, rfl, sqT_keep s12 hr0, hrows.keep s12, sqT_of hpt2, hl2, hul, fun t2 H3 s3 ht2 => ?_⟩
      have s13 := s12.trans s3
      refine ⟨_, rfl, bD (ansL uss p), ws.map bD, .tup (sqT_of ht2) (dp_bools _), .tup (sqT_keep s13 hb) (dp_rows (hws.keep s13)), bD_shaped _, rows_shaped _, _, rfl, ?_⟩
      rw [bD_any]
      by_cases hin : ansL uss p ∈ ws
      · rw [decide_eq_true hin]
        refine iteT ⟨_, rfl, (q sps H3 hsp s13).2 p (sps.take i) (sps.drop (i + 1)) t ?_ hno hin (s3 _ _ hpt2)⟩
        have := List.take_append_drop i sps
        rw [drop_at hp] at this
        exact this.symm
      · rw [decide_eq_false hin]
        refine iteF ⟨_, rfl, s2.trans s3, fun x hx => ?_⟩
        rw [one_more hp] at hx
        rcases List.mem_append.mp hx with hx | hx
        · exact hno x hx
        · rw [List.mem_singleton.mp hx]
          exact hin
    · rintro σ H2 ⟨o, rfl, s2, hno⟩
      rw [List.length_map, tl, List.take_length] at hno
      exact (q sps H2 hsp (s1.trans s2)).1 hno
end

/-! ### the marker's comparisons; apart, together -/
section
variable {P : Program} {w : World} {K : PySem.W.Frag} {mg : Str → Option Value} {base : Heap} {D : Ad}
open TL SX
theorem ans_cover {uss : Rws} {sps : List Spt} (h : IsSp uss sps) (ok : ∀ us ∈ uss, Ask us) (q : Spt) (hq : q.v ≤ 99) : ∃ p ∈ sps, ansL uss p = ansL uss q := by
  obtain ⟨p, hp, e⟩ := sp_cover h (fun t ht => by
    obtain ⟨us, hus, hm⟩ := List.mem_flatten.mp ht
    exact (ok us hus).tm t hm) q hq
  refine ⟨p, hp, ?_⟩
  unfold ansL
  refine List.map_congr_left fun us hus => ?_
  exact (ok us hus).sem.same fun t ht => e t (List.mem_flatten.mpr ⟨us, hus, ht⟩)
theorem ask_tm {uss : Rws} (ok : ∀ us ∈ uss, Ask us) : ∀ t ∈ uss.flatten, TmS t := fun t ht => by
  obtain ⟨us, hus, hm⟩ := List.mem_flatten.mp ht
  exact (ok us hus).tm t hm
/-- what is found among the spots: the first, or none -/
theorem find_pre {α : Type} (p : α → Prop) [DecidablePred p] : ∀ (xs : List α), (∀ x ∈ xs, ¬ p x) ∨ ∃ pre x post, xs = pre ++ x :: post ∧ (∀ y ∈ pre, ¬ p y) ∧ p x
  | [] => .inl fun _ h => nomatch h
  | x :: xs => by
    by_cases h : p x
    · exact .inr ⟨[], x, xs, rfl, (fun _ h => nomatch h), h⟩
    · rcases find_pre p xs with k | ⟨pre, y, post, e, a, b⟩
      · exact .inl fun y hy => by
          rcases List.mem_cons.mp hy with rfl | hy
          · exact h
          · exact k y hy
      · exact .inr ⟨x :: pre, y, post, by rw [e]; rfl, fun z hz => by
          rcases List.mem_cons.mp hz with rfl | hz
          · exact h
          · exact a z hz, b⟩
abbrev Ref (K : PySem.W.Frag) (C : Addr) (H : Hp) (m : Addr) (us : List Tm) : Prop := Mkr K C H m us ∧ Ask us
theorem le_2 : (2 : Nat) ≤ sizeLine := by decide
theorem le_1 : (1 : Nat) ≤ sizeLine := by decide
def w2 : List (List Bool) := [[true, false], [false, true]]
theorem w2_iff (x y : Bool) : [x, y] ∈ w2 ↔ x ≠ y := by cases x <;> cases y <;> decide
theorem w1_iff (x y : Bool) : [x, y] ∈ ([[true, false]] : List (List Bool)) ↔ ¬ (x = true → y = true) := by cases x <;> cases y <;> decide
theorem w0_iff (x : Bool) : [x] ∈ ([[true]] : List (List Bool)) ↔ x = true := by cases x <;> decide
def spMEq (K : PySem.W.Frag) (C : Addr) : Sp := fun vs H Q _ => ∃ (a b : Addr) (us ws : List Tm), vs = [.ref a, .ref b] ∧ Mkr K C H a us ∧ Mkr K C H b ws ∧ Ask us ∧ Ask ws ∧ us.length + ws.length ≤ 100 ∧
  ∀ r H', (r = true ↔ ∀ p : Spt, p.v ≤ 99 → ansB us p = ansB ws p) → Same H H' → Q (.bl r) H'
theorem ok_Marker_eq (T : TexW w K mg D) : FnOk P w K mg base CX0 10 D.a_Marker_eq D.d_Marker_eq P_Marker_eq (spMEq K D.a_Marker) := by
  have G_first_spot : FnOk P w K mg base CX0 8 D.a_first_spot D.d_first_spot P_first_spot (spFirst K) := ok_first_spot T
  refine T.Marker_eq_F.ok S_Marker_eq (fun vs H Q E h => ?_) (fun cdv A outer s H vs Q E hr h => ?_)
  · obtain ⟨a, b, us, ws, rfl, _⟩ := h
    rfl
  · obtain ⟨a, b, us, ws, rfl, ⟨dx, p, ps, ha, hp, hr1⟩, ⟨dy, p', ps', hb, hp', hr2⟩, o1, o2, hl, q⟩ := h
    refine ⟨_, (pss_cons (ps_if (pt_not (pt_val (pe_callB call_isi (by rfl) T.b_isinstance (by decide +kernel) (pa_cons (pv 1) (pa_cons (pe_glob (v := .ref D.a_Marker) rfl T.Marker_g rfl) pa_nil))))) (pss_one (ps_ret pe_bl)) pss_nil)
      (pss_one (ps_ret (pe_cmpR op_isN (pe_call G_first_spot (hr.mono (by decide)) (by rfl) T.first_spot_g T.first_spot_F.kp T.first_spot_b .nil pass0 (pa_cons (pe_tup (pa_cons (pe_fld (pv 0) rfl) (pa_cons (pe_fld (pv 1) rfl) pa_nil))) (pa_cons (pe_tup (pa_cons (pe_tup (pa_cons pe_bl (pa_cons pe_bl pa_nil))) (pa_cons (pe_tup (pa_cons pe_bl (pa_cons pe_bl pa_nil))) pa_nil))) pa_nil))) pe_non (nomark _))))), ?_⟩
    refine ⟨_, rfl, _, _, _, _, true, rfl, .own _, .base (.ins hb T.Marker_cl T.Marker_si.ca T.Marker_si.cn T.Marker_si.ct T.Marker_si.cm), kit_self, _, rfl, iteF ?_⟩
    refine ⟨_, rfl, a, _, dx, _, _, rfl, ha, T.Marker_cl, T.Marker_n_steps, stp_lk p, _, rfl, b, _, dy, _, _, rfl, hb, T.Marker_cl, T.Marker_n_steps, stp_lk p', le_2, fun r1 hr1' => ⟨le_2, fun x1 hx1 => ⟨le_2, fun x2 hx2 => ⟨le_2, fun x3 hx3 => ?_⟩⟩⟩⟩
    have s1 := same_new (o := .tup [V.ref p, .ref p']) hr1'
    have s2 := same_new (o := .tup [V.bl true, .bl false]) hx1
    have s3 := same_new (o := .tup [V.bl false, .bl true]) hx2
    have s4 := same_new (o := .tup [V.ref x1, .ref x2]) hx3
    have s24 := s2.trans (s3.trans s4)
    have s14 := s1.trans s24
    refine ⟨r1, x3, [p, p'], [x1, x2], [us, ws], w2, rfl, sqT_of (s24 _ _ upd_same), ⟨⟨ps, sqT_keep s14 hp, hr1.keep s14⟩, ⟨ps', sqT_keep s14 hp', hr2.keep s14⟩, trivial⟩, sqT_of upd_same, ⟨sqT_of ((s3.trans s4) _ _ upd_same), sqT_of (s4 _ _ upd_same), trivial⟩, by simpa using hl, by show 2 ≤ 100; decide, fun u hu => ?_, fun sps H1 hsp s5 => ⟨fun hno => ⟨rfl, ?_⟩, fun z pre post t e h1 h2 ht => ⟨rfl, ?_⟩⟩⟩
    · simp only [List.mem_cons, List.not_mem_nil, or_false] at hu
      rcases hu with rfl | rfl
      · exact o1
      · exact o2
    · refine q true H1 ⟨fun _ y hy => ?_, fun _ => rfl⟩ (s14.trans s5)
      obtain ⟨z, hz, ez⟩ := ans_cover hsp (fun u hu => by
        simp only [List.mem_cons, List.not_mem_nil, or_false] at hu
        rcases hu with rfl | rfl
        · exact o1
        · exact o2) y hy
      have := hno z hz
      rw [ez] at this
      exact Decidable.not_not.mp fun k => this ((w2_iff _ _).mpr k)
    · refine q false H1 ⟨fun k => (nomatch k), fun k => ?_⟩ (s14.trans s5)
      have hv := sp_valid hsp (ask_tm (uss := [us, ws]) (fun u hu => by
        simp only [List.mem_cons, List.not_mem_nil, or_false] at hu
        rcases hu with rfl | rfl
        · exact o1
        · exact o2)) (by simp; omega) (p := z) (by rw [e]; simp)
      exact absurd (k z hv.2.2) ((w2_iff _ _).mp h2)
def spMLe (K : PySem.W.Frag) (C : Addr) : Sp := fun vs H Q _ => ∃ (a b : Addr) (us ws : List Tm), vs = [.ref a, .ref b] ∧ Mkr K C H a us ∧ Mkr K C H b ws ∧ Ask us ∧ Ask ws ∧ us.length + ws.length ≤ 100 ∧
  ∀ r H', (r = true ↔ ∀ p : Spt, p.v ≤ 99 → ansB us p = true → ansB ws p = true) → Same H H' → Q (.bl r) H'
theorem ok_Marker_le (T : TexW w K mg D) : FnOk P w K mg base CX0 10 D.a_Marker_le D.d_Marker_le P_Marker_le (spMLe K D.a_Marker) := by
  have G_first_spot : FnOk P w K mg base CX0 8 D.a_first_spot D.d_first_spot P_first_spot (spFirst K) := ok_first_spot T
  refine T.Marker_le_F.ok S_Marker_le (fun vs H Q E h => ?_) (fun cdv A outer s H vs Q E hr h => ?_)
  · obtain ⟨a, b, us, ws, rfl, _⟩ := h
    rfl
  · obtain ⟨a, b, us, ws, rfl, ⟨dx, p, ps, ha, hp, hr1⟩, ⟨dy, p', ps', hb, hp', hr2⟩, o1, o2, hl, q⟩ := h
    refine ⟨_, (pss_cons (ps_if (pt_not (pt_val (pe_callB call_isi (by rfl) T.b_isinstance (by decide +kernel) (pa_cons (pv 1) (pa_cons (pe_glob (v := .ref D.a_Marker) rfl T.Marker_g rfl) pa_nil))))) (pss_one ps_never) pss_nil)
      (pss_one (ps_ret (pe_cmpR op_isN (pe_call G_first_spot (hr.mono (by decide)) (by rfl) T.first_spot_g T.first_spot_F.kp T.first_spot_b .nil pass0 (pa_cons (pe_tup (pa_cons (pe_fld (pv 0) rfl) (pa_cons (pe_fld (pv 1) rfl) pa_nil))) (pa_cons (pe_tup (pa_cons (pe_tup (pa_cons pe_bl (pa_cons pe_bl pa_nil))) pa_nil)) pa_nil))) pe_non (nomark _))))), ?_⟩
    refine ⟨_, rfl, _, _, _, _, true, rfl, .own _, .base (.ins hb T.Marker_cl T.Marker_si.ca T.Marker_si.cn T.Marker_si.ct T.Marker_si.cm), kit_self, _, rfl, iteF ?_⟩
    refine ⟨_, rfl, a, _, dx, _, _, rfl, ha, T.Marker_cl, T.Marker_n_steps, stp_lk p, _, rfl, b, _, dy, _, _, rfl, hb, T.Marker_cl, T.Marker_n_steps, stp_lk p', le_2, fun r1 hr1' => ⟨le_2, fun x1 hx1 => ⟨le_1, fun x3 hx3 => ?_⟩⟩⟩
    have s1 := same_new (o := .tup [V.ref p, .ref p']) hr1'
    have s2 := same_new (o := .tup [V.bl true, .bl false]) hx1
    have s4 := same_new (o := .tup [V.ref x1]) hx3
    have s24 := s2.trans s4
    have s14 := s1.trans s24
    refine ⟨r1, x3, [p, p'], [x1], [us, ws], [[true, false]], rfl, sqT_of (s24 _ _ upd_same), ⟨⟨ps, sqT_keep s14 hp, hr1.keep s14⟩, ⟨ps', sqT_keep s14 hp', hr2.keep s14⟩, trivial⟩, sqT_of upd_same, ⟨sqT_of (s4 _ _ upd_same), trivial⟩, by simpa using hl, by show 2 ≤ 100; decide, fun u hu => ?_, fun sps H1 hsp s5 => ⟨fun hno => ⟨rfl, ?_⟩, fun z pre post t e h1 h2 ht => ⟨rfl, ?_⟩⟩⟩
    · simp only [List.mem_cons, List.not_mem_nil, or_false] at hu
      rcases hu with rfl | rfl
      · exact o1
      · exact o2
    · refine q true H1 ⟨fun _ y hy => ?_, fun _ => rfl⟩ (s14.trans s5)
      obtain ⟨z, hz, ez⟩ := ans_cover hsp (fun u hu => by
        simp only [List.mem_cons, List.not_mem_nil, or_false] at hu
        rcases hu with rfl | rfl
        · exact o1
        · exact o2) y hy
      have := hno z hz
      rw [ez] at this
      exact Decidable.not_not.mp fun k => this ((w1_iff _ _).mpr k)
    · refine q false H1 ⟨fun k => (nomatch k), fun k => ?_⟩ (s14.trans s5)
      have hv := sp_valid hsp (ask_tm (uss := [us, ws]) (fun u hu => by
        simp only [List.mem_cons, List.not_mem_nil, or_false] at hu
        rcases hu with rfl | rfl
        · exact o1
        · exact o2)) (by simp; omega) (p := z) (by rw [e]; simp)
      exact absurd (k z hv.2.2) ((w1_iff _ _).mp h2)
def spMBool (K : PySem.W.Frag) (C : Addr) : Sp := fun vs H Q _ => ∃ (a : Addr) (us : List Tm), vs = [.ref a] ∧ Mkr K C H a us ∧ Ask us ∧ us.length ≤ 100 ∧
  ∀ r H', (r = true ↔ ∃ p : Spt, p.v ≤ 99 ∧ ansB us p = true) → Same H H' → Q (.bl r) H'
theorem ok_Marker_bool (T : TexW w K mg D) : FnOk P w K mg base CX0 10 D.a_Marker_bool D.d_Marker_bool P_Marker_bool (spMBool K D.a_Marker) := by
  have G_first_spot : FnOk P w K mg base CX0 8 D.a_first_spot D.d_first_spot P_first_spot (spFirst K) := ok_first_spot T
  refine T.Marker_bool_F.ok S_Marker_bool (fun vs H Q E h => ?_) (fun cdv A outer s H vs Q E hr h => ?_)
  · obtain ⟨a, us, rfl, _⟩ := h
    rfl
  · obtain ⟨a, us, rfl, ⟨dx, p, ps, ha, hp, hr1⟩, o1, hl, q⟩ := h
    refine ⟨_, (pss_one (ps_ret (pe_cmpR op_notN (pe_call G_first_spot (hr.mono (by decide)) (by rfl) T.first_spot_g T.first_spot_F.kp T.first_spot_b .nil pass0 (pa_cons (pe_tup (pa_cons (pe_fld (pv 0) rfl) pa_nil)) (pa_cons (pe_tup (pa_cons (pe_tup (pa_cons pe_bl pa_nil)) pa_nil)) pa_nil))) pe_non (nomark _)))), ?_⟩
    refine ⟨_, rfl, a, _, dx, _, _, rfl, ha, T.Marker_cl, T.Marker_n_steps, stp_lk p, le_1, fun r1 hr1' => ⟨le_1, fun x1 hx1 => ⟨le_1, fun x3 hx3 => ?_⟩⟩⟩
    have s1 := same_new (o := .tup [V.ref p]) hr1'
    have s2 := same_new (o := .tup [V.bl true]) hx1
    have s4 := same_new (o := .tup [V.ref x1]) hx3
    have s24 := s2.trans s4
    have s14 := s1.trans s24
    have ok : ∀ u ∈ ([us] : Rws), Ask u := fun u hu => by
      rw [List.mem_singleton.mp hu]
      exact o1
    refine ⟨r1, x3, [p], [x1], [us], [[true]], rfl, sqT_of (s24 _ _ upd_same), ⟨⟨ps, sqT_keep s14 hp, hr1.keep s14⟩, trivial⟩, sqT_of upd_same, ⟨sqT_of (s4 _ _ upd_same), trivial⟩, by simpa using hl, by show 1 ≤ 100; decide, ok, fun sps H1 hsp s5 => ⟨fun hno => ⟨rfl, ?_⟩, fun z pre post t e h1 h2 ht => ⟨rfl, ?_⟩⟩⟩
    · refine q false H1 ⟨fun k => (nomatch k), fun ⟨y, hy, k⟩ => ?_⟩ (s14.trans s5)
      obtain ⟨z, hz, ez⟩ := ans_cover hsp ok y hy
      have := hno z hz
      rw [ez] at this
      exact absurd ((w0_iff _).mpr k) this
    · refine q true H1 ⟨fun _ => ?_, fun _ => rfl⟩ (s14.trans s5)
      have hv := sp_valid hsp (ask_tm ok) (by simp; omega) (p := z) (by rw [e]; simp)
      exact ⟨z, hv.2.2, (w0_iff _).mp h2⟩
def spEnvAt (C : Addr) : Sp := fun vs H Q _ => (vs = [.non] ∧ ∀ H', Same H H' → Q .non H') ∨ ∃ (t : Addr) (p : Spt), vs = [.ref t] ∧ H t = some (.tup (spW p)) ∧ wordT p.s = true ∧ wordT p.m = true ∧ p.v ≤ 99 ∧ ∀ e H', Same H H' → H e = none → Env C H' e p.s p.m p.v → Q (.ref e) H'
theorem ok_environment_at (T : TexW w K mg D) : FnOk P w K mg base CX0 8 D.a_environment_at D.d_environment_at P_environment_at (spEnvAt D.a_Environment) := by
  have G_Environment_init : FnOk P w K mg base (L2.CX P w) 5 D.a_Environment_init D.d_Environment_init P_Environment_init (spEInit K D.a_Environment D.a_BadEnvironment) := ok_Environment_init T
  refine T.environment_at_F.ok S_environment_at (fun vs H Q E h => ?_) (fun cdv A outer s H vs Q E hr h => ?_)
  · rcases h with ⟨rfl, _⟩ | ⟨t, p, rfl, _⟩ <;> rfl
  · refine ⟨_, (pss_cons (ps_if (pt_cmpR op_isN (pv 0) pe_non (nomark _)) (pss_one (ps_ret pe_non)) pss_nil)
      (pss_cons (ps_asg (pv 0) (pg_tup (by rfl) (pgs_cons (pg_name (i := 1) S_environment_at.nd rfl (Or.inl rfl)) (pgs_cons (pg_name (i := 2) S_environment_at.nd rfl (Or.inl rfl)) (pgs_cons (pg_name (i := 3) S_environment_at.nd rfl (Or.inl rfl)) pgs_nil)))))
      (pss_one (ps_ret (pe_makeKS T.Environment_mk G_Environment_init (hr.mono (by decide)) rfl T.Environment_g (T.Environment_init_km_system_machine_level).choose_spec (fun σ pins H s e s' => passL pins σ H s e s') (pk_cons (pv 1) (pk_cons (pv 2) (pk_cons (pv 3) pk_nil)))))))), ?_⟩
    rcases h with ⟨rfl, q⟩ | ⟨t, p, rfl, ht, h1, h2, h3, q⟩
    · exact ⟨_, rfl, rfl, _, rfl, iteT (q H (Same.refl H))⟩
    · refine ⟨_, rfl, rfl, _, rfl, iteF ?_⟩
      refine ⟨_, rfl, t, _, rfl, sqT_of ht, rfl, _, _, rfl, _, _, rfl, _, _, rfl, rfl, ?_⟩
      refine ⟨_, rfl, _, rfl, _, rfl, rfl, fun x dx hx hdx hne => ?_⟩
      exact ⟨x, dx, _, _, _, rfl, upd_same, .inl ⟨p.s, p.m, p.v, rfl, rfl, rfl, h1, h2, h3, fun H2 s2 => ⟨rfl, q x _ (made_same hx hdx s2) hx ⟨dx, upd_same⟩⟩⟩⟩
def spChk (C : Addr) : Sp := fun vs H Q _ => ∃ (t : Addr) (ms : List Addr), vs = [.ref t] ∧ H t = some (.tup (ms.map V.ref)) ∧ (∀ m ∈ ms, ∃ dx fs, H m = some (.ins C dx fs)) ∧ Q .non H
theorem ok_check_markers (T : TexW w K mg D) : FnOk P w K mg base CX0 3 D.a_check_markers D.d_check_markers P_check_markers (spChk D.a_Marker) := by
  refine T.check_markers_F.ok S_check_markers (fun vs H Q E h => ?_) (fun cdv A outer s H vs Q E hr h => ?_)
  · obtain ⟨t, ms, rfl, _⟩ := h
    rfl
  · obtain ⟨t, ms, rfl, ht, hms, q⟩ := h
    refine ⟨_, (pss_cons (ps_if (pt_not (pt_val (pe_callB call_isi (by rfl) T.b_isinstance (by decide +kernel) (pa_cons (pv 0) (pa_cons (pe_bltn (v := .ty "tuple") (u := .type "tuple") (by rfl) T.b_tuple (by decide +kernel) rfl) pa_nil))))) (pss_one ps_never) pss_nil)
      (pss_one (ps_for PassesOwn.never rfl (pi_tup (pv 0)) (pg_name (i := 1) S_check_markers.nd rfl (Or.inl rfl)) (pss_one (ps_if (pt_not (pt_val (pe_callB call_isi (by rfl) T.b_isinstance (by decide +kernel) (pa_cons (pv 1) (pa_cons (pe_glob (v := .ref D.a_Marker) rfl T.Marker_g rfl) pa_nil))))) (pss_one ps_never) pss_nil))))), ?_⟩
    refine ⟨_, rfl, .ref t, .ty "tuple", _, .type "tuple", true, rfl, .ty _, .base (.tup ht), kit_ty (by decide +kernel), _, rfl, iteF ?_⟩
    refine ⟨_, rfl, t, rfl, ⟨_, sqT_of ht⟩, for_tup (K := K) (a := t) (xs := ms.map V.ref) (fun i σ H' => H' = H ∧ ∃ o : Option V, σ = [some (.ref t), o]) ⟨rfl, none, rfl⟩ (fun i σ H' _ h => by
      obtain ⟨rfl, _⟩ := h
      exact sqT_of ht) ?_ ?_⟩
    · rintro i v σ H1 hi ⟨rfl, o, rfl⟩
      obtain ⟨m, hm, rfl⟩ := ref_at hi
      obtain ⟨dx, fs, hmx⟩ := hms m (List.mem_of_getElem? hm)
      refine ⟨_, rfl, _, _, _, _, true, rfl, .own _, .base (.ins hmx T.Marker_cl T.Marker_si.ca T.Marker_si.cn T.Marker_si.ct T.Marker_si.cm), kit_self, _, rfl, iteF ?_⟩
      exact ⟨rfl, _, rfl⟩
    · rintro σ H1 ⟨rfl, o, rfl⟩
      exact q
/-- what stands for the first spot: none, or an environment -/
def EnvOr (C : Addr) (H0 : Hp) (Q : VK) (sps : List Spt) (ok : Spt → Prop) : Prop := ∀ H1, Same H0 H1 → ((∀ p ∈ sps, ¬ ok p) → Q .non H1) ∧ ∀ p pre post e, sps = pre ++ p :: post → (∀ x ∈ pre, ¬ ok x) → ok p → H0 e = none → Env C H1 e p.s p.m p.v → Q (.ref e) H1
def spApart (K : PySem.W.Frag) (C CE : Addr) : Sp := fun vs H Q _ => ∃ (a b : Addr) (us ws : List Tm), vs = [.ref a, .ref b] ∧ Mkr K C H a us ∧ Mkr K C H b ws ∧ Ask us ∧ Ask ws ∧ us.length + ws.length ≤ 100 ∧
  ∀ sps, IsSp [us, ws] sps → EnvOr CE H Q sps fun p => ansB us p ≠ ansB ws p
theorem ok_apart (T : TexW w K mg D) : FnOk P w K mg base CX0 12 D.a_apart D.d_apart P_apart (spApart K D.a_Marker D.a_Environment) := by
  have G_first_spot : FnOk P w K mg base CX0 8 D.a_first_spot D.d_first_spot P_first_spot (spFirst K) := ok_first_spot T
  have G_environment_at : FnOk P w K mg base CX0 8 D.a_environment_at D.d_environment_at P_environment_at (spEnvAt D.a_Environment) := ok_environment_at T
  have G_check_markers : FnOk P w K mg base CX0 3 D.a_check_markers D.d_check_markers P_check_markers (spChk D.a_Marker) := ok_check_markers T
  refine T.apart_F.ok S_apart (fun vs H Q E h => ?_) (fun cdv A outer s H vs Q E hr h => ?_)
  · obtain ⟨a, b, us, ws, rfl, _⟩ := h
    rfl
  · obtain ⟨a, b, us, ws, rfl, ⟨dx, p, ps, ha, hp, hr1⟩, ⟨dy, p', ps', hb, hp', hr2⟩, o1, o2, hl, q⟩ := h
    refine ⟨_, (pss_cons (ps_expr (pe_call G_check_markers (hr.mono (by decide)) (by rfl) T.check_markers_g T.check_markers_F.kp T.check_markers_b .nil pass0 (pa_cons (pe_tup (pa_cons (pv 0) (pa_cons (pv 1) pa_nil))) pa_nil)))
      (pss_one (ps_ret (pe_call G_environment_at (hr.mono (by decide)) (by rfl) T.environment_at_g T.environment_at_F.kp T.environment_at_b .nil pass0 (pa_cons (pe_call G_first_spot (hr.mono (by decide)) (by rfl) T.first_spot_g T.first_spot_F.kp T.first_spot_b .nil pass0 (pa_cons (pe_tup (pa_cons (pe_fld (pv 0) rfl) (pa_cons (pe_fld (pv 1) rfl) pa_nil))) (pa_cons (pe_tup (pa_cons (pe_tup (pa_cons pe_bl (pa_cons pe_bl pa_nil))) (pa_cons (pe_tup (pa_cons pe_bl (pa_cons pe_bl pa_nil))) pa_nil))) pa_nil))) pa_nil))))), ?_⟩
    have ok : ∀ u ∈ ([us, ws] : Rws), Ask u := fun u hu => by
      simp only [List.mem_cons, List.not_mem_nil, or_false] at hu
      rcases hu with rfl | rfl
      · exact o1
      · exact o2
    refine ⟨_, rfl, _, rfl, le_2, fun r0 hr0 => ⟨r0, [a, b], rfl, upd_same, fun m hm => ?_, ?_⟩⟩
    · have s0 := same_new (o := .tup [V.ref a, .ref b]) hr0
      simp only [List.mem_cons, List.not_mem_nil, or_false] at hm
      rcases hm with rfl | rfl
      · exact ⟨_, _, s0 _ _ ha⟩
      · exact ⟨_, _, s0 _ _ hb⟩
    have s0 := same_new (o := .tup [V.ref a, .ref b]) hr0
    refine ⟨_, rfl, a, _, dx, _, _, rfl, s0 _ _ ha, T.Marker_cl, T.Marker_n_steps, stp_lk p, _, rfl, b, _, dy, _, _, rfl, s0 _ _ hb, T.Marker_cl, T.Marker_n_steps, stp_lk p', le_2, fun r1 hr1' => ⟨le_2, fun x1 hx1 => ⟨le_2, fun x2 hx2 => ⟨le_2, fun x3 hx3 => ?_⟩⟩⟩⟩
    have s1 := same_new (o := .tup [V.ref p, .ref p']) hr1'
    have s2 := same_new (o := .tup [V.bl true, .bl false]) hx1
    have s3 := same_new (o := .tup [V.bl false, .bl true]) hx2
    have s4 := same_new (o := .tup [V.ref x1, .ref x2]) hx3
    have s24 := s2.trans (s3.trans s4)
    have s14 := s0.trans (s1.trans s24)
    refine ⟨r1, x3, [p, p'], [x1, x2], [us, ws], w2, rfl, sqT_of (s24 _ _ upd_same), ⟨⟨ps, sqT_keep s14 hp, hr1.keep s14⟩, ⟨ps', sqT_keep s14 hp', hr2.keep s14⟩, trivial⟩, sqT_of upd_same, ⟨sqT_of ((s3.trans s4) _ _ upd_same), sqT_of (s4 _ _ upd_same), trivial⟩, by simpa using hl, by show 2 ≤ 100; decide, ok, fun sps H1 hsp s5 => ⟨fun hno => ?_, fun z pre post t e h1 h2 ht => ?_⟩⟩
    · refine .inl ⟨rfl, fun H2 s6 => ((q sps hsp) H2 ((s14.trans s5).trans s6)).1 fun z hz k => hno z hz ((w2_iff _ _).mpr k)⟩
    · have hv := sp_valid hsp (ask_tm ok) (by simp; omega) (p := z) (by rw [e]; simp)
      refine .inr ⟨t, z, rfl, ht, hv.1, hv.2.1, hv.2.2, fun en H2 s6 hen hE => ((q sps hsp) H2 ((s14.trans s5).trans s6)).2 z pre post en e (fun x hx k => h1 x hx ((w2_iff _ _).mpr k)) ((w2_iff _ _).mp h2) ((s14.trans s5).free hen) hE⟩
end

/-! ### markers by what they answer -/
section
variable {P : Program} {w : World} {K : PySem.W.Frag} {mg : Str → Option Value} {base : Heap} {D : Ad}
open TL SX
theorem vlM_frame {ev : Tm → Bool} {h0 h1 : List Bool} {t : Tm} (h : List Bool) (e : vlM ev h0 t = some h1) : vlM ev (h0 ++ h) t = some (h1 ++ h) := by
  unfold vlM at e ⊢
  by_cases c1 : t.w = wNot
  · rw [if_pos c1] at e ⊢
    match h0, e with
    | b :: r, e =>
      obtain rfl := Option.some.inj e
      rfl
  · rw [if_neg c1] at e ⊢
    by_cases c2 : t.w = wAnd ∨ t.w = wOr
    · rw [if_pos c2] at e ⊢
      match h0, e with
      | c :: b :: r, e =>
        obtain rfl := Option.some.inj e
        rfl
    · rw [if_neg c2] at e ⊢
      obtain rfl := Option.some.inj e
      rfl
theorem vlR_frame {ev : Tm → Bool} (h : List Bool) : ∀ (us : List Tm) {h0 h1 : List Bool}, vlR ev h0 us = some h1 → vlR ev (h0 ++ h) us = some (h1 ++ h)
  | [], h0, h1, e => by
    obtain rfl := Option.some.inj e
    rfl
  | t :: us, h0, h1, e => by
    change (vlM ev h0 t).bind _ = _ at e
    cases hm : vlM ev h0 t with
    | none =>
      rw [hm] at e
      cases e
    | some h' =>
      rw [hm] at e
      show (vlM ev (h0 ++ h) t).bind _ = _
      rw [vlM_frame h hm]
      exact vlR_frame h us e
theorem tms_op {x : Txt} (hx : x ∉ fieldL) : TmS (opT x) := ⟨fun hf => absurd hf hx, fun _ hf => absurd hf hx, fun _ hf => absurd hf hx⟩
theorem Ask.bi {us ws : List Tm} (a : Ask us) (b : Ask ws) (o : Bool) : Ask (us ++ ws ++ [opT (wOp o)]) ∧ ∀ p, ansB (us ++ ws ++ [opT (wOp o)]) p = if o = true then ansB us p && ansB ws p else ansB us p || ansB ws p := by
  have key : ∀ p, vlR (evT p) [] (us ++ ws ++ [opT (wOp o)]) = some [if o = true then ansB us p && ansB ws p else ansB us p || ansB ws p] := fun p => by
    rw [vlR_append, vlR_append, a.ans p]
    show ((vlR (evT p) [ansB us p] ws).bind _) = _
    have := vlR_frame [ansB us p] ws (b.ans p)
    rw [List.nil_append] at this
    rw [this]
    cases o <;> rfl
  refine ⟨⟨fun t ht => ?_, fun p => ⟨_, key p⟩⟩, fun p => ?_⟩
  · rcases List.mem_append.mp ht with ht | ht
    · rcases List.mem_append.mp ht with ht | ht
      · exact a.tm t ht
      · exact b.tm t ht
    · rw [List.mem_singleton.mp ht]
      exact tms_op ((by decide : ∀ o, wOp o ∉ fieldL) o)
  · unfold ansB
    rw [key p]
    rfl
theorem Ask.no {us : List Tm} (a : Ask us) : Ask (us ++ [opT wNot]) ∧ ∀ p, ansB (us ++ [opT wNot]) p = !ansB us p := by
  have key : ∀ p, vlR (evT p) [] (us ++ [opT wNot]) = some [!ansB us p] := fun p => by
    rw [vlR_append, a.ans p]
    rfl
  refine ⟨⟨fun t ht => ?_, fun p => ⟨_, key p⟩⟩, fun p => ?_⟩
  · rcases List.mem_append.mp ht with ht | ht
    · exact a.tm t ht
    · rw [List.mem_singleton.mp ht]
      exact tms_op (by decide)
  · unfold ansB
    rw [key p]
    rfl
/-- a marker that answers like f, of at most n steps -/
structure Mk3 (K : PySem.W.Frag) (C : Addr) (H : Hp) (m : Addr) (f : Spt → Bool) (n : Nat) : Prop where
  ex : ∃ us, Mkr K C H m us ∧ Ask us ∧ (∀ p, ansB us p = f p) ∧ us.length ≤ n ∧ us ≠ []
theorem Mk3.keep {C m : Addr} {H H' : Hp} {f : Spt → Bool} {n : Nat} (h : Mk3 K C H m f n) (s : Same H H') : Mk3 K C H' m f n := let ⟨us, a, b⟩ := h.ex; ⟨us, a.keep s, b⟩
theorem Mk3.kp {C m : Addr} {H H' : Hp} {f : Spt → Bool} {n : Nat} (h : Mk3 K C H m f n) (s : Kp H H') : Mk3 K C H' m f n := let ⟨us, a, b⟩ := h.ex; ⟨us, a.kp s, b⟩
theorem Mk3.mono {C m : Addr} {H : Hp} {f : Spt → Bool} {n k : Nat} (h : Mk3 K C H m f n) (q : n ≤ k) : Mk3 K C H m f k := let ⟨us, a, b, c, d, e⟩ := h.ex; ⟨us, a, b, c, by omega, e⟩
theorem Mk3.ins {C m : Addr} {H : Hp} {f : Spt → Bool} {n : Nat} (h : Mk3 K C H m f n) : ∃ dx fs, H m = some (.ins C dx fs) := let ⟨_, ⟨dx, _, _, a, _⟩, _⟩ := h.ex; ⟨dx, _, a⟩
theorem GT.tms {t : Tm} (h : GT t) : TmS t := by
  refine ⟨h.ok.cmp, fun x hf hx => ?_, fun k hf hk => ?_⟩
  · have ok := h.ok
    unfold TmOk at ok
    rw [if_pos hf] at ok
    unfold cmpF at ok
    by_cases hl : t.w = wLevel
    · rw [if_pos hl] at ok
      split at ok
      · split at ok
        · have := congrArg Tm.v (Option.some.inj ok)
          rw [hx] at this
          cases this
        · cases ok
      · cases ok
    · rw [if_neg hl] at ok
      split at ok
      · rename_i hc
        rw [hx] at hc
        exact hc.2
      · cases ok
  · have ok := h.ok
    unfold TmOk at ok
    rw [if_pos hf] at ok
    unfold cmpF at ok
    by_cases hl : t.w = wLevel
    · rw [if_pos hl] at ok
      split at ok
      · rename_i n hn
        split at ok
        · have := congrArg Tm.v (Option.some.inj ok)
          rw [hk] at this
          cases this
          exact (nTL99 hn).2
        · cases ok
      · cases ok
    · rw [if_neg hl] at ok
      split at ok
      · have := congrArg Tm.v (Option.some.inj ok)
        rw [hk] at this
        cases this
      · cases ok
theorem Like.ask {t : Tr} {us : List Tm} (h : Like t us) (g : ∀ x ∈ t.lvs, GT x) : Ask us ∧ ∀ p, ansB us p = t.val (evT p) := by
  have v := fun p => (h.val g (evT p)).1
  refine ⟨⟨?_, fun p => ⟨_, v p⟩⟩, fun p => by unfold ansB; rw [v p]⟩
  obtain ⟨u, e, rfl⟩ := h
  have gl : ∀ x ∈ u.lvs, GT x := fun x hx => g x (by rw [← e.lvs]; exact hx)
  have all : ∀ (u : Tr), (∀ x ∈ u.lvs, GT x) → ∀ x ∈ u.pfx, TmS x := by
    intro u
    induction u with
    | lf x =>
      intro g y hy
      rw [show (Tr.lf x).pfx = [x] from rfl, List.mem_singleton] at hy
      rw [hy]
      exact (g x (by simp [Tr.lvs])).tms
    | no t ih =>
      intro g x hx
      rcases List.mem_append.mp (show x ∈ t.pfx ++ [opT wNot] from hx) with hx | hx
      · exact ih g x hx
      · rw [List.mem_singleton.mp hx]
        exact tms_op (by decide)
    | bi a t u ih ik =>
      intro g x hx
      rcases List.mem_append.mp (show x ∈ t.pfx ++ u.pfx ++ [opT (wOp a)] from hx) with hx | hx
      · rcases List.mem_append.mp hx with hx | hx
        · exact ih (fun y hy => g y (by simp [Tr.lvs, hy])) x hx
        · exact ik (fun y hy => g y (by simp [Tr.lvs, hy])) x hx
      · rw [List.mem_singleton.mp hx]
        exact tms_op ((by decide : ∀ a, wOp a ∉ fieldL) a)
  exact all u gl
theorem mk3_like {C m : Addr} {H : Hp} {t : Tr} {us : List Tm} {n : Nat} (hm : Mkr K C H m us) (h : Like t us) (g : ∀ x ∈ t.lvs, GT x) (hn : t.sz ≤ n) : Mk3 K C H m (fun p => t.val (evT p)) n := by
  obtain ⟨a, b⟩ := h.ask g
  obtain ⟨c, d, _, _⟩ := h.str g
  exact ⟨us, hm, a, b, by omega, d⟩
def spAnd3 (K : PySem.W.Frag) (C : Addr) : Sp := fun vs H Q _ => ∃ (a b : Addr) (f g : Spt → Bool) (n m : Nat), vs = [.ref a, .ref b] ∧ Mk3 K C H a f n ∧ Mk3 K C H b g m ∧ n + m ≤ 98 ∧ ∀ r H', Same H H' → Mk3 K C H' r (fun p => f p && g p) (n + m + 1) → Q (.ref r) H'
def spOr3 (K : PySem.W.Frag) (C : Addr) : Sp := fun vs H Q _ => ∃ (a b : Addr) (f g : Spt → Bool) (n m : Nat), vs = [.ref a, .ref b] ∧ Mk3 K C H a f n ∧ Mk3 K C H b g m ∧ n + m ≤ 98 ∧ ∀ r H', Same H H' → Mk3 K C H' r (fun p => f p || g p) (n + m + 1) → Q (.ref r) H'
def spNeg3 (K : PySem.W.Frag) (C : Addr) : Sp := fun vs H Q _ => ∃ (a : Addr) (f : Spt → Bool) (n : Nat), vs = [.ref a] ∧ Mk3 K C H a f n ∧ n ≤ 98 ∧ ∀ r H', Same H H' → Mk3 K C H' r (fun p => !f p) (n + 1) → Q (.ref r) H'
def spEq3 (K : PySem.W.Frag) (C : Addr) : Sp := fun vs H Q _ => ∃ (a b : Addr) (f g : Spt → Bool) (n m : Nat), vs = [.ref a, .ref b] ∧ Mk3 K C H a f n ∧ Mk3 K C H b g m ∧ n + m ≤ 100 ∧ ∀ r H', (r = true ↔ ∀ p : Spt, p.v ≤ 99 → f p = g p) → Same H H' → Q (.bl r) H'
def spLe3 (K : PySem.W.Frag) (C : Addr) : Sp := fun vs H Q _ => ∃ (a b : Addr) (f g : Spt → Bool) (n m : Nat), vs = [.ref a, .ref b] ∧ Mk3 K C H a f n ∧ Mk3 K C H b g m ∧ n + m ≤ 100 ∧ ∀ r H', (r = true ↔ ∀ p : Spt, p.v ≤ 99 → f p = true → g p = true) → Same H H' → Q (.bl r) H'
def spBool3 (K : PySem.W.Frag) (C : Addr) : Sp := fun vs H Q _ => ∃ (a : Addr) (f : Spt → Bool) (n : Nat), vs = [.ref a] ∧ Mk3 K C H a f n ∧ n ≤ 100 ∧ ∀ r H', (r = true ↔ ∃ p : Spt, p.v ≤ 99 ∧ f p = true) → Same H H' → Q (.bl r) H'
theorem ok_Eq3 (T : TexW w K mg D) : FnOk P w K mg base CX0 10 D.a_Marker_eq D.d_Marker_eq P_Marker_eq (spEq3 K D.a_Marker) := (ok_Marker_eq T).imp fun vs H Q E h => by
  obtain ⟨a, b, f, g, n, m, rfl, ⟨us, ma, aa, fa, la, na⟩, ⟨ws, mb, ab, fb, lb, nb⟩, hz, q⟩ := h
  exact ⟨a, b, us, ws, rfl, ma, mb, aa, ab, by omega, fun r H' e s => q r H' (by simpa only [fa, fb] using e) s⟩
theorem ok_Le3 (T : TexW w K mg D) : FnOk P w K mg base CX0 10 D.a_Marker_le D.d_Marker_le P_Marker_le (spLe3 K D.a_Marker) := (ok_Marker_le T).imp fun vs H Q E h => by
  obtain ⟨a, b, f, g, n, m, rfl, ⟨us, ma, aa, fa, la, na⟩, ⟨ws, mb, ab, fb, lb, nb⟩, hz, q⟩ := h
  exact ⟨a, b, us, ws, rfl, ma, mb, aa, ab, by omega, fun r H' e s => q r H' (by simpa only [fa, fb] using e) s⟩
theorem ok_Bool3 (T : TexW w K mg D) : FnOk P w K mg base CX0 10 D.a_Marker_bool D.d_Marker_bool P_Marker_bool (spBool3 K D.a_Marker) := (ok_Marker_bool T).imp fun vs H Q E h => by
  obtain ⟨a, f, n, rfl, ⟨us, ma, aa, fa, la, na⟩, hz, q⟩ := h
  exact ⟨a, us, rfl, ma, aa, by omega, fun r H' e s => q r H' (by simpa only [fa] using e) s⟩
end

/-! ### the law's grid, as mathematics -/
section
open TL SX
def pwA (p : Nat) (l : Txt) : Nat := l.foldl (fun p c => p * 26 + (c - 97) + 1) p
theorem pwA_lt : ∀ (l m : Txt) (p q : Nat), l.length = m.length → l.all isLow = true → p < q → pwA p l < pwA q m
  | [], [], _, _, _, _, h => h
  | c :: l, d :: m, p, q, e, hl, h => by
    rw [List.all_cons, Bool.and_eq_true] at hl
    have hc := hl.1
    simp only [isLow, decide_eq_true_eq] at hc
    exact pwA_lt l m (p * 26 + (c - 97) + 1) (q * 26 + (d - 97) + 1) (Nat.succ.inj e) hl.2 (by omega)
  | [], _ :: _, _, _, e, _, _ => by simp at e
  | _ :: _, [], _, _, e, _, _ => by simp at e
theorem pw_short {l m : Txt} (h : l.length < m.length) (hl : l.all isLow = true) : pw l < pw m := by
  have e : m = m.take (m.length - l.length) ++ m.drop (m.length - l.length) := (List.take_append_drop _ _).symm
  have e2 : pw m = pwA (pw (m.take (m.length - l.length))) (m.drop (m.length - l.length)) := by
    conv => lhs; rw [e]
    unfold pw pwA
    rw [List.foldl_append]
  rw [e2]
  refine pwA_lt l _ 0 _ (by rw [List.length_drop]; omega) hl ?_
  refine pw_pos fun e => ?_
  have := congrArg List.length e
  rw [List.length_take] at this
  simp only [List.length_nil] at this
  omega
theorem pwA_lex : ∀ (l m : Txt) (p : Nat), l.length = m.length → l.all isLow = true → m.all isLow = true → ¬ (m < l) → pwA p l ≤ pwA p m
  | [], [], _, _, _, _, _ => Nat.le_refl _
  | c :: l, d :: m, p, e, hl, hm, h => by
    rw [List.all_cons, Bool.and_eq_true] at hl hm
    by_cases q : c = d
    · subst q
      exact pwA_lex l m (p * 26 + (c - 97) + 1) (Nat.succ.inj e) hl.2 hm.2 fun k => h (List.cons_lt_cons_iff.mpr (.inr ⟨rfl, k⟩))
    · have hn : ¬ d < c := fun k => h (List.cons_lt_cons_iff.mpr (.inl k))
      have hc := hl.1
      have hd := hm.1
      simp only [isLow, decide_eq_true_eq] at hc hd
      exact Nat.le_of_lt (pwA_lt l m (p * 26 + (c - 97) + 1) (p * 26 + (d - 97) + 1) (Nat.succ.inj e) hl.2 (by omega))
  | [], _ :: _, _, e, _, _, _ => by simp at e
  | _ :: _, [], _, e, _, _, _ => by simp at e
/-- the order of spots -/
def sLt (p q : Spt) : Prop := pw p.s < pw q.s ∨ (pw p.s = pw q.s ∧ (pw p.m < pw q.m ∨ (pw p.m = pw q.m ∧ p.v < q.v)))
def sLe (p q : Spt) : Prop := sLt p q ∨ (pw p.s = pw q.s ∧ pw p.m = pw q.m ∧ p.v = q.v)
structure Vld (p : Spt) : Prop where
  s : wordT p.s = true
  m : wordT p.m = true
  v : p.v ≤ 99
theorem sLe_eq {p q : Spt} (hp : Vld p) (hq : Vld q) (a : sLe p q) (b : sLe q p) : p = q := by
  have h1 : pw p.s = pw q.s ∧ pw p.m = pw q.m ∧ p.v = q.v := by
    unfold sLe sLt at a b
    omega
  obtain ⟨s, m, v⟩ := p
  obtain ⟨s', m', v'⟩ := q
  obtain ⟨e1, e2, e3⟩ := h1
  have e1 := pw_inj (word_nl hp.s).2 (word_nl hq.s).2 e1
  have e2 := pw_inj (word_nl hp.m).2 (word_nl hq.m).2 e2
  change s = s' at e1
  change m = m' at e2
  change v = v' at e3
  rw [e1, e2, e3]
structure Cov (ts : List Tm) (G : List Spt) : Prop where
  ord : G.Pairwise sLt
  vld : ∀ p ∈ G, Vld p
  cov : ∀ q : Spt, q.v ≤ 99 → ∃ p ∈ G, (Vld q → sLe p q) ∧ ∀ t ∈ ts, evT p t = evT q t
def Det (ts : List Tm) (Dp : Spt → Prop) : Prop := ∀ p q, (∀ t ∈ ts, evT p t = evT q t) → (Dp p ↔ Dp q)
theorem first_le {ts : List Tm} {G : List Spt} {Dp : Spt → Prop} (h : Cov ts G) (k : Det ts Dp) {p q : Spt} {pre post : List Spt} (e : G = pre ++ p :: post) (n : ∀ x ∈ pre, ¬ Dp x) (hq : Vld q) (d : Dp q) : sLe p q := by
  obtain ⟨z, hz, hle, hs⟩ := h.cov q hq.v
  have hle := hle hq
  have dz : Dp z := (k z q hs).mpr d
  rw [e] at hz
  rcases List.mem_append.mp hz with hz | hz
  · exact absurd dz (n z hz)
  · rcases List.mem_cons.mp hz with rfl | hz
    · exact hle
    · have := h.ord
      rw [e, List.pairwise_append] at this
      have := (List.pairwise_cons.mp this.2.1).1 z hz
      unfold sLe sLt at *
      omega
theorem first_same {ts ts' : List Tm} {G G' : List Spt} {Dp : Spt → Prop} (h : Cov ts G) (h' : Cov ts' G') (k : Det ts Dp) (k' : Det ts' Dp) {p p' : Spt} {pre post pre' post' : List Spt} (e : G = pre ++ p :: post) (n : ∀ x ∈ pre, ¬ Dp x) (d : Dp p)
    (e' : G' = pre' ++ p' :: post') (n' : ∀ x ∈ pre', ¬ Dp x) (d' : Dp p') : p = p' :=
  have v := h.vld p (by rw [e]; simp)
  have v' := h'.vld p' (by rw [e']; simp)
  sLe_eq v v' (first_le h k e n v' d') (first_le h' k' e' n' v d)
theorem none_iff {ts : List Tm} {G : List Spt} {Dp : Spt → Prop} (h : Cov ts G) (k : Det ts Dp) : (∀ p ∈ G, ¬ Dp p) ↔ ∀ q : Spt, q.v ≤ 99 → ¬ Dp q := by
  constructor
  · intro a q hq d
    obtain ⟨p, hp, _, hs⟩ := h.cov q hq
    exact a p hp ((k p q hs).mpr d)
  · exact fun a p hp => a p (h.vld p hp).v
structure WCov (f : Txt) (ts : List Tm) (A : List Txt) : Prop where
  ord : A.Pairwise fun a b => pw a < pw b
  wrd : ∀ a ∈ A, wordT a = true
  cov : ∀ w, ∃ a ∈ A, (wordT w = true → pw a ≤ pw w) ∧ ∀ t ∈ ts, t.w = f → ∀ x, t.v = .inl x → (a = x ↔ w = x)
structure LCov (ts : List Tm) (L : List Nat) : Prop where
  ord : L.Pairwise (· < ·)
  le : ∀ c ∈ L, c ≤ 99
  cov : ∀ v, v ≤ 99 → ∃ c ∈ L, c ≤ v ∧ ∀ t ∈ ts, t.w = wLevel → ∀ k, t.v = .inr k → ((c < k ↔ v < k) ∧ (c = k ↔ v = k))
def prodW (A B : List Txt) (L : List Nat) : List Spt := A.flatMap fun a => B.flatMap fun b => L.map fun c => ⟨a, b, c⟩
theorem mem_prodW {A B : List Txt} {L : List Nat} {p : Spt} : p ∈ prodW A B L ↔ p.s ∈ A ∧ p.m ∈ B ∧ p.v ∈ L := by
  unfold prodW
  simp only [List.mem_flatMap, List.mem_map]
  constructor
  · rintro ⟨a, ha, b, hb, c, hc, rfl⟩
    exact ⟨ha, hb, hc⟩
  · rintro ⟨a, b, c⟩
    exact ⟨_, a, _, b, _, c, rfl⟩
theorem prod_ord {A B : List Txt} {L : List Nat} (hA : A.Pairwise fun a b => pw a < pw b) (hB : B.Pairwise fun a b => pw a < pw b) (hL : L.Pairwise (· < ·)) : (prodW A B L).Pairwise sLt := by
  unfold prodW
  rw [List.pairwise_flatMap]
  refine ⟨fun a _ => ?_, hA.imp fun h x hx y hy => ?_⟩
  · rw [List.pairwise_flatMap]
    refine ⟨fun b _ => ?_, hB.imp fun h x hx y hy => ?_⟩
    · rw [List.pairwise_map]
      exact hL.imp fun h => .inr ⟨rfl, .inr ⟨rfl, h⟩⟩
    · obtain ⟨c, _, rfl⟩ := List.mem_map.mp hx
      obtain ⟨c', _, rfl⟩ := List.mem_map.mp hy
      exact .inr ⟨rfl, .inl h⟩
  · obtain ⟨b, _, hx⟩ := List.mem_flatMap.mp hx
    obtain ⟨c, _, rfl⟩ := List.mem_map.mp hx
    obtain ⟨b', _, hy⟩ := List.mem_flatMap.mp hy
    obtain ⟨c', _, rfl⟩ := List.mem_map.mp hy
    exact .inl h
theorem cov_prod {ts : List Tm} (ok : ∀ t ∈ ts, TmS t) {A B : List Txt} {L : List Nat} (hA : WCov wSystem ts A) (hB : WCov wMachine ts B) (hL : LCov ts L) : Cov ts (prodW A B L) := by
  refine ⟨prod_ord hA.ord hB.ord hL.ord, fun p hp => ?_, fun q hq => ?_⟩
  · obtain ⟨a, b, c⟩ := mem_prodW.mp hp
    exact ⟨hA.wrd _ a, hB.wrd _ b, hL.le _ c⟩
  · obtain ⟨a, ha, la, ea⟩ := hA.cov q.s
    obtain ⟨b, hb, lb, eb⟩ := hB.cov q.m
    obtain ⟨c, hc, lc, ec⟩ := hL.cov q.v hq
    refine ⟨⟨a, b, c⟩, mem_prodW.mpr ⟨ha, hb, hc⟩, fun vq => ?_, fun t ht => ev_same (ok t ht) (fun e x hx => ea t ht e x hx) (fun e x hx => eb t ht e x hx) (fun e k hk => ec t ht e k hk)⟩
    have := la vq.s
    have := lb vq.m
    unfold sLe sLt
    show _ ∨ _
    simp only
    omega
theorem wcov_pl {f : Txt} {rows : Rws} {ps : List Nat} (h : IsPl f rows ps) (ok : ∀ t ∈ rows.flatten, TmS t) (hf : f = wSystem ∨ f = wMachine) (hl : rows.flatten.length ≤ 100000) : WCov f rows.flatten (ps.map wdp) := by
  refine ⟨?_, fun a ha => ?_, fun w => ?_⟩
  · rw [List.pairwise_map]
    exact h.1.imp fun k => by rw [pw_wdp, pw_wdp]; exact k
  · obtain ⟨n, hn, rfl⟩ := List.mem_map.mp ha
    exact (pl_word h ok hf hl hn).1
  · obtain ⟨_, m, ho, hm⟩ := h
    by_cases k : ∃ t ∈ rows.flatten, t.w = f ∧ t.v = .inl w
    · obtain ⟨t, ht, hw, hv⟩ := k
      obtain ⟨x, hx, hwx, e⟩ := txt_of (ok t ht) hf hw
      rw [hv] at hx
      cases hx
      refine ⟨wdp (pw w), List.mem_map.mpr ⟨_, (hm _).mpr (.inl (mem_ment.mpr ⟨t, ht, hw, e⟩)), rfl⟩, fun _ => by rw [pw_wdp]; exact Nat.le_refl _, fun u _ _ y _ => ?_⟩
      rw [wdp_pw (word_nl hwx).2]
    · refine ⟨wdp m, List.mem_map.mpr ⟨_, (hm m).mpr (.inr rfl), rfl⟩, fun hw => ?_, fun u hu huw y huv => ⟨fun e => ?_, fun e => ?_⟩⟩
      · rw [pw_wdp]
        by_cases hlt : pw w < m
        · obtain ⟨t, ht, htw, hp⟩ := mem_ment.mp (ho.2.2 (pw w) (pw_pos (word_nl hw).1) hlt)
          obtain ⟨x, hx, hwx, e⟩ := txt_of (ok t ht) hf htw
          have : x = w := pw_inj (word_nl hwx).2 (word_nl hw).2 (by rw [← e, hp])
          exact absurd ⟨t, ht, htw, by rw [hx, this]⟩ k
        · omega
      · obtain ⟨x, hx, hwx, ep⟩ := txt_of (ok u hu) hf huw
        rw [huv] at hx
        cases hx
        refine absurd (mem_ment.mpr ⟨u, hu, huw, ?_⟩) ho.2.1
        rw [ep, ← e, pw_wdp]
      · exact absurd ⟨u, hu, huw, by rw [huv, e]⟩ k
theorem lcov_of {ts : List Tm} {L : List Nat} (o : L.Pairwise (· < ·)) (le : ∀ c ∈ L, c ≤ 99) (h0 : 0 ∈ L) (h1 : ∀ t ∈ ts, t.w = wLevel → ∀ k, t.v = .inr k → k ∈ L ∧ (k < 99 → k + 1 ∈ L)) : LCov ts L := by
  refine ⟨o, le, fun v hv => ?_⟩
  obtain ⟨c, hc, hcv, hg⟩ := great L v h0
  refine ⟨c, hc, hcv, fun t ht hw k hk => ?_⟩
  have m1 : k ≤ v → k ≤ c := fun q => hg k (h1 t ht hw k hk).1 q
  have m2 : k < v → k + 1 ≤ c := fun q => hg (k + 1) ((h1 t ht hw k hk).2 (by omega)) q
  constructor
  · constructor
    · intro q
      by_cases z : v < k
      · exact z
      · have := m1 (by omega)
        omega
    · intro q
      omega
  · constructor
    · intro q
      by_cases z : k < v
      · have := m2 z
        omega
      · omega
    · intro q
      have := m1 (by omega)
      omega
theorem cov_sp {rows : Rws} {sps : List Spt} (h : IsSp rows sps) (ok : ∀ t ∈ rows.flatten, TmS t) (hl : rows.flatten.length ≤ 100000) : Cov rows.flatten sps := by
  obtain ⟨ps, ms, ls, h1, h2, h3, rfl⟩ := h
  have e : prodS ps ms ls = prodW (ps.map wdp) (ms.map wdp) ls := by
    unfold prodS prodW
    rw [List.flatMap_map]
    congr 1
    funext a
    rw [List.flatMap_map]
  rw [e]
  refine cov_prod ok (wcov_pl h1 ok (.inl rfl) hl) (wcov_pl h2 ok (.inr rfl) hl) (lcov_of h3.1 (fun c hc => ?_) ((h3.2 0).mpr (.inl rfl)) fun t ht hw k hk => ⟨(h3.2 k).mpr (.inr ⟨t, ht, hw, k, hk, .inl rfl⟩), fun q => (h3.2 _).mpr (.inr ⟨t, ht, hw, k, hk, .inr ⟨rfl, q⟩⟩)⟩)
  rcases (h3.2 c).mp hc with e | ⟨t, ht, hw, k, hk, e⟩
  · omega
  · have := (ok t ht).lev k (by rw [hw]; decide) hk
    omega
/-! the law's own words and levels -/
def let8 : List Txt := [[97], [98], [99], [100], [101], [102], [103], [104]]
def IsWs (known W : List Txt) : Prop := W.Pairwise (fun a b => pw a < pw b) ∧ ∀ x, x ∈ W ↔ x ∈ known
def frees (vs : List Txt) : List Txt := let8.filter fun c => !decide (c ∈ vs)
theorem let8_ord : let8.Pairwise fun a b => pw a < pw b := by decide
theorem let8_pw : ∀ c ∈ let8, pw c ≤ 8 ∧ wordT c = true := by decide
theorem n5_word : ∀ c ∈ names5, wordT c = true := by decide
theorem frees_head {vs : List Txt} (h5 : ∀ x ∈ vs, x ∈ names5) : ∃ c r, frees vs = c :: r ∧ c ∉ vs ∧ c ∈ let8 ∧ ∀ x ∈ let8, x ∉ vs → pw c ≤ pw x := by
  have h99 : ([99] : Txt) ∈ frees vs := List.mem_filter.mpr ⟨by decide, by
    rw [decide_eq_false (fun h => absurd (h5 _ h) (by decide))]
    rfl⟩
  cases hf : frees vs with
  | nil =>
    rw [hf] at h99
    cases h99
  | cons c r =>
    have hm : c ∈ frees vs := by rw [hf]; exact List.mem_cons_self
    obtain ⟨hc, hn⟩ := List.mem_filter.mp hm
    have hn : c ∉ vs := by simpa using hn
    refine ⟨c, r, rfl, hn, hc, fun x hx hxn => ?_⟩
    have hx' : x ∈ frees vs := List.mem_filter.mpr ⟨hx, by simpa using hxn⟩
    have ord : (frees vs).Pairwise fun a b => pw a < pw b := let8_ord.filter _
    rw [hf] at hx' ord
    rcases List.mem_cons.mp hx' with rfl | hx'
    · exact Nat.le_refl _
    · exact Nat.le_of_lt ((List.pairwise_cons.mp ord).1 x hx')
theorem pw_big {w : Txt} (hw : wordT w = true) (h : w ∉ let8) : 8 < pw w := by
  obtain ⟨hne, hlow⟩ := word_nl hw
  match w, hne, hlow, h with
  | [d], _, hlow, h =>
    simp only [List.all_cons, List.all_nil, Bool.and_true, isLow, decide_eq_true_eq] at hlow
    have : pw [d] = d - 97 + 1 := by
      show 0 * 26 + (d - 97) + 1 = _
      omega
    rw [this]
    by_cases q : d ≤ 104
    · exfalso
      apply h
      simp only [let8, List.mem_cons, List.cons.injEq, and_true, List.not_mem_nil, or_false]
      omega
    · omega
  | _ :: _ :: _, _, _, _ =>
    exact pw_short (l := [104]) (by simp) (by decide)
theorem wcov_law {f : Txt} {ts : List Tm} {vs W : List Txt} (hv : ∀ x, x ∈ vs ↔ ∃ t ∈ ts, t.w = f ∧ t.v = .inl x) (h5 : ∀ x ∈ vs, x ∈ names5) (hW : IsWs (vs ++ (frees vs).take 2 ++ [[122, 122]]) W) : WCov f ts W := by
  obtain ⟨c, r, hf, hcn, hc8, hmin⟩ := frees_head h5
  refine ⟨hW.1, fun a ha => ?_, fun w => ?_⟩
  · have := (hW.2 a).mp ha
    simp only [List.mem_append, List.mem_singleton] at this
    rcases this with (h | h) | rfl
    · exact n5_word a (h5 a h)
    · exact (let8_pw a (List.mem_filter.mp (List.mem_of_mem_take h)).1).2
    · decide
  · by_cases k : w ∈ vs
    · exact ⟨w, (hW.2 w).mpr (by simp [k]), fun _ => Nat.le_refl _, fun _ _ _ _ _ => Iff.rfl⟩
    · refine ⟨c, (hW.2 c).mpr (by rw [hf]; simp), fun hw => ?_, fun t ht htw x hx => ?_⟩
      · by_cases h8 : w ∈ let8
        · exact hmin w h8 k
        · exact Nat.le_trans (let8_pw c hc8).1 (Nat.le_of_lt (pw_big hw h8))
      · have hxv := (hv x).mpr ⟨t, ht, htw, hx⟩
        exact ⟨fun e => absurd (e ▸ hxv) hcn, fun e => absurd (e ▸ hxv) k⟩
/-- the levels that the law looks at -/
def lvK (k n : Nat) : Prop := n = k - 1 ∨ n = k ∨ n = min 99 (k + 1)
def IsLs (ns L : List Nat) : Prop := L.Pairwise (· < ·) ∧ ∀ n, n ∈ L ↔ n = 0 ∨ n = 99 ∨ ∃ k ∈ ns, lvK k n
theorem lcov_law {ts : List Tm} {ns L : List Nat} (hv : ∀ k, k ∈ ns ↔ ∃ t ∈ ts, t.w = wLevel ∧ t.v = .inr k) (h99 : ∀ k ∈ ns, k ≤ 99) (hL : IsLs ns L) : LCov ts L := by
  refine lcov_of hL.1 (fun c hc => ?_) ((hL.2 0).mpr (.inl rfl)) fun t ht hw k hk => ?_
  · rcases (hL.2 c).mp hc with rfl | rfl | ⟨k, hk, q⟩
    · omega
    · omega
    · have := h99 k hk
      unfold lvK at q
      omega
  · have m := (hv k).mpr ⟨t, ht, hw, hk⟩
    exact ⟨(hL.2 k).mpr (.inr (.inr ⟨k, m, .inr (.inl rfl)⟩)), fun q => (hL.2 _).mpr (.inr (.inr ⟨k, m, .inr (.inr (by omega))⟩))⟩
/-- what a tree mentions for a field -/
def vals (f : Txt) (t : Tr) : List (Txt ⊕ Nat) := (t.lvs.filter fun x => decide (x.w = f)).map (·.v)
theorem mem_vals {f : Txt} {t : Tr} {y : Txt ⊕ Nat} : y ∈ vals f t ↔ ∃ u ∈ t.lvs, u.w = f ∧ u.v = y := by
  unfold vals
  simp only [List.mem_map, List.mem_filter, decide_eq_true_eq]
  constructor
  · rintro ⟨u, ⟨a, b⟩, c⟩
    exact ⟨u, a, b, c⟩
  · rintro ⟨u, a, b, c⟩
    exact ⟨u, ⟨a, b⟩, c⟩
theorem vals_len (f : Txt) (t : Tr) : (vals f t).length ≤ t.lvs.length := by
  unfold vals
  rw [List.length_map]
  exact List.length_filter_le _ _
theorem inl_of : ∀ {l : List (Txt ⊕ Nat)}, (∀ y ∈ l, ∃ x, y = .inl x) → ∃ ws : List Txt, l = ws.map .inl
  | [], _ => ⟨[], rfl⟩
  | a :: l, h => by
    obtain ⟨x, rfl⟩ := h a List.mem_cons_self
    obtain ⟨ws, rfl⟩ := inl_of fun y hy => h y (List.mem_cons_of_mem _ hy)
    exact ⟨x :: ws, rfl⟩
theorem inr_of : ∀ {l : List (Txt ⊕ Nat)}, (∀ y ∈ l, ∃ x, y = .inr x) → ∃ ws : List Nat, l = ws.map .inr
  | [], _ => ⟨[], rfl⟩
  | a :: l, h => by
    obtain ⟨x, rfl⟩ := h a List.mem_cons_self
    obtain ⟨ws, rfl⟩ := inr_of fun y hy => h y (List.mem_cons_of_mem _ hy)
    exact ⟨x :: ws, rfl⟩
theorem vals_w {t : Tr} (g : ∀ x ∈ t.lvs, G5 x) {f : Txt} (hf : f = wSystem ∨ f = wMachine) : ∃ ws : List Txt, vals f t = ws.map .inl ∧ (∀ x ∈ ws, x ∈ names5) ∧ ∀ x, x ∈ ws ↔ ∃ u ∈ t.lvs, u.w = f ∧ u.v = .inl x := by
  obtain ⟨ws, e⟩ := inl_of (l := vals f t) fun y hy => by
    obtain ⟨u, hu, hw, rfl⟩ := mem_vals.mp hy
    obtain ⟨v, _, e⟩ := (g u hu).2 (by rw [hw]; exact hf)
    exact ⟨v, e⟩
  have key : ∀ x, x ∈ ws ↔ ∃ u ∈ t.lvs, u.w = f ∧ u.v = .inl x := fun x => by
    rw [← mem_vals, e, List.mem_map]
    exact ⟨fun h => ⟨x, h, rfl⟩, fun ⟨z, hz, q⟩ => by cases q; exact hz⟩
  refine ⟨ws, e, fun x hx => ?_, key⟩
  obtain ⟨u, hu, hw, hv⟩ := (key x).mp hx
  obtain ⟨v, hm, q⟩ := (g u hu).2 (by rw [hw]; exact hf)
  rw [hv] at q
  cases q
  exact hm
theorem vals_l {t : Tr} (g : ∀ x ∈ t.lvs, TmS x) : ∃ ns : List Nat, vals wLevel t = ns.map .inr ∧ (∀ n ∈ ns, n ≤ 99) ∧ ∀ n, n ∈ ns ↔ ∃ u ∈ t.lvs, u.w = wLevel ∧ u.v = .inr n := by
  have hc : ∀ u ∈ t.lvs, u.w = wLevel → ∃ n, u.v = .inr n := fun u hu hw => by
    rcases (g u hu).cmp (by rw [hw]; decide) with ⟨_, n, e, _⟩ | ⟨h, _⟩
    · exact ⟨n, e⟩
    · rw [hw] at h
      rcases h with h | h <;> exact absurd h (by decide)
  obtain ⟨ns, e⟩ := inr_of (l := vals wLevel t) fun y hy => by
    obtain ⟨u, hu, hw, rfl⟩ := mem_vals.mp hy
    exact hc u hu hw
  have key : ∀ x, x ∈ ns ↔ ∃ u ∈ t.lvs, u.w = wLevel ∧ u.v = .inr x := fun x => by
    rw [← mem_vals, e, List.mem_map]
    exact ⟨fun h => ⟨x, h, rfl⟩, fun ⟨z, hz, q⟩ => by cases q; exact hz⟩
  refine ⟨ns, e, fun x hx => ?_, key⟩
  obtain ⟨u, hu, hw, hv⟩ := (key x).mp hx
  exact (g u hu).lev x (by rw [hw]; decide) hv
theorem val_same {e1 e2 : Tm → Bool} : ∀ {t : Tr}, (∀ x ∈ t.lvs, e1 x = e2 x) → t.val e1 = t.val e2
  | .lf x, h => h x (by simp [Tr.lvs])
  | .no t, h => by
    show (!t.val e1) = !t.val e2
    rw [val_same (t := t) h]
  | .bi a t u, h => by
    show (if a then t.val e1 && u.val e1 else _) = _
    rw [val_same (t := t) fun x hx => h x (by simp [Tr.lvs, hx]), val_same (t := u) fun x hx => h x (by simp [Tr.lvs, hx])]
    rfl
theorem lvs_sz : ∀ t : Tr, 2 * t.lvs.length ≤ t.sz + 1
  | .lf _ => by simp [Tr.lvs, Tr.sz]
  | .no t => by
    have := lvs_sz t
    simp only [Tr.lvs, Tr.sz]
    omega
  | .bi _ t u => by
    have := lvs_sz t
    have := lvs_sz u
    simp only [Tr.lvs, Tr.sz, List.length_append]
    omega
end

/-! ### what the law mentions -/
section
variable {P : Program} {w : World} {K : PySem.W.Frag} {mg : Str → Option Value} {base : Heap} {D : Ad}
open TL SX
theorem Tre.parts {H : Hp} {a : Addr} {t : Tr} (h : Tre H a t) {f : Txt} (hf : f ∈ fieldL) : (∃ g sg v, H a = some (.tup [.str "is", .str (S g), .str (S sg), vW v]) ∧ vals f t = if g = f then [v] else []) ∨
    ∃ (hd : Txt) (ps : List (V × List (Txt ⊕ Nat))), decide (V.str (S hd) = V.str (("is" : String) : Str)) = false ∧ H a = some (.tup (.str (S hd) :: ps.map (·.1))) ∧ 1 ≤ ps.length ∧ ps.length ≤ 2 ∧
      (∀ z ∈ ps, (∃ b, z.1 = .bl b ∧ z.2 = []) ∨ ∃ p1 t1 xs, z.1 = .ref p1 ∧ Tre H p1 t1 ∧ H p1 = some (.tup xs) ∧ t1.dep < t.dep ∧ t1.sz ≤ t.sz ∧ z.2 = vals f t1) ∧ vals f t = ps.flatMap (·.2) := by
  have tup : ∀ {p : Addr} {u : Tr}, Tre H p u → ∃ xs, H p = some (.tup xs) := fun k => let ⟨_, _, e, _⟩ := k.head; ⟨_, e⟩
  cases h with
  | all b h =>
    refine .inr ⟨[97, 108, 108], [(.bl b, [])], by decide +kernel, h, Nat.le_refl _, by simp, fun z hz => .inl ⟨b, ?_⟩, ?_⟩
    · rw [List.mem_singleton.mp hz]
      exact ⟨rfl, rfl⟩
    · have : ∀ b : Bool, ∀ f ∈ fieldL, vals f (.lf (opT (if b = true then wAlways else wNever))) = [] := by decide
      exact this b f hf
  | @is _ g sg v h hg =>
    refine .inl ⟨g, sg, v, h, ?_⟩
    unfold vals
    by_cases e : g = f <;> simp [Tr.lvs, e]
  | @no _ p1 t1 h r =>
    obtain ⟨xs, hx⟩ := tup r
    refine .inr ⟨wNot, [(.ref p1, vals f t1)], by decide +kernel, h, Nat.le_refl _, by simp, fun z hz => .inr ⟨p1, t1, xs, ?_⟩, ?_⟩
    · rw [List.mem_singleton.mp hz]
      exact ⟨rfl, r, hx, Nat.lt_succ_self _, Nat.le_succ _, rfl⟩
    · simp [vals, Tr.lvs]
  | @bi _ p1 p2 o t1 t2 h x y =>
    obtain ⟨xs, hx⟩ := tup x
    obtain ⟨ys, hy⟩ := tup y
    refine .inr ⟨wOp o, [(.ref p1, vals f t1), (.ref p2, vals f t2)], (by decide +kernel : ∀ o, decide (V.str (S (wOp o)) = V.str (("is" : String) : Str)) = false) o, h, by simp, by simp, fun z hz => .inr ?_, ?_⟩
    · have d : (Tr.bi o t1 t2).dep = max t1.dep t2.dep + 1 := rfl
      have e : (Tr.bi o t1 t2).sz = t1.sz + t2.sz + 1 := rfl
      rcases List.mem_cons.mp hz with rfl | hz
      · exact ⟨p1, t1, xs, rfl, x, hx, by omega, by omega, rfl⟩
      · rw [List.mem_singleton.mp hz]
        exact ⟨p2, t2, ys, rfl, y, hy, by omega, by omega, rfl⟩
    · simp [vals, Tr.lvs]
def spVals : Nat → Sp := fun n vs H Q _ => ∃ (a : Addr) (t : Tr) (f : Txt), vs = [.ref a, .str (S f)] ∧ f ∈ fieldL ∧ Tre H a t ∧ t.dep < n ∧ t.sz ≤ 1000 ∧ ∀ L H', Same H H' → H L = none → H' L = some (.lst ((vals f t).map vW)) → Q (.ref L) H'
theorem ok_values (T : TexW w K mg D) : ∀ n, FnOk P w K mg base CX0 n D.a_values D.d_values P_values (spVals n) := by
  intro n
  induction n with
  | zero => exact ⟨fun _ _ _ _ ⟨_, _, _, _, _, _, h, _⟩ => absurd h (Nat.not_lt_zero _), fun _ _ _ _ _ _ _ _ _ _ _ _ _ ⟨_, _, _, _, _, _, h, _⟩ => absurd h (Nat.not_lt_zero _)⟩
  | succ n G_values =>
    refine T.values_F.ok S_values (fun vs H Q E h => ?_) (fun cdv A outer s H vs Q E hr h => ?_)
    · obtain ⟨a, t, f, rfl, _⟩ := h
      rfl
    · obtain ⟨a, t, f, rfl, hf, ht, hd, hz, q⟩ := h
      refine ⟨_, (pss_cons (ps_if (pt_cmpR op_eq (pe_ix ix_tup (pv 0) pe_int (fun _ _ => rfl)) pe_str (nomark _)) (pss_one (ps_ret (pe_ifExp (pt_cmpR op_eq (pe_ix ix_tup (pv 0) pe_int (fun _ _ => rfl)) (pv 1) (nomark _)) (pe_lst (pa_cons (pe_ix ix_tup (pv 0) pe_int (fun _ _ => rfl)) pa_nil)) (pe_lst pa_nil)))) pss_nil)
      (pss_cons (ps_set (i := 2) S_values.nd rfl (Or.inl rfl) (pe_lst pa_nil))
      (pss_cons (ps_for PassesOwn.never rfl (pi_tup (pe_slice sl_tupA (pv 0) (po_some pe_int) po_none)) (pg_name (i := 3) S_values.nd rfl (Or.inl rfl)) (pss_one (ps_set (i := 2) S_values.nd rfl (Or.inl rfl) (pe_op op_cat (pv 2) (pe_ifExp (pt_val (pe_callB call_isi (by rfl) T.b_isinstance (by decide +kernel) (pa_cons (pv 3) (pa_cons (pe_bltn (v := .ty "tuple") (u := .type "tuple") (by rfl) T.b_tuple (by decide +kernel) rfl) pa_nil)))) (pe_call G_values (hr.mono (by omega)) (by rfl) T.values_g T.values_F.kp T.values_b .nil pass0 (pa_cons (pv 3) (pa_cons (pv 1) pa_nil))) (pe_lst pa_nil))))))
      (pss_one (ps_ret (pv 2)))))), ?_⟩
      rcases ht.parts hf with ⟨g, sg, v, h, ev⟩ | ⟨hw, ps, hwi, h, hp1, hp2, hps, ev⟩
      · refine ⟨_, rfl, a, _, _, _, rfl, rfl, sqT_of h, rfl, rfl, _, rfl, ?_⟩
        rw [show decide (V.str (("is" : String) : Str) = V.str (("is" : String) : Str)) = true by decide]
        refine iteT ⟨_, rfl, a, _, _, _, rfl, rfl, sqT_of h, rfl, _, rfl, rfl, _, rfl, ?_⟩
        rw [eq_S]
        rw [ev] at q
        by_cases e : g = f
        · rw [if_pos e] at q
          rw [decide_eq_true e]
          exact iteT ⟨_, rfl, a, _, _, _, rfl, rfl, sqT_of h, rfl, by show 1 ≤ sizeLine; decide, fun L hL => q L _ (same_new hL) hL upd_same⟩
        · rw [if_neg e] at q
          rw [decide_eq_false e]
          exact iteF ⟨by show 0 ≤ sizeLine; decide, fun L hL => q L _ (same_new hL) hL upd_same⟩
      · refine ⟨_, rfl, a, _, _, _, rfl, rfl, sqT_of h, (show atI (V.str (S hw) :: ps.map (·.1)) ((0 : Nat) : Int) = some (V.str (S hw)) from atI_nat rfl), rfl, _, rfl, ?_⟩
        rw [hwi]
        refine iteF ⟨by show 0 ≤ sizeLine; decide, fun c hc => ?_⟩
        have h1 := (same_new (o := .lst []) hc) _ _ h
        have hpl : (V.str (S hw) :: ps.map (·.1)).length = ps.length + 1 := by simp
        refine ⟨_, rfl, _, rfl, a, _, rfl, sqT_of h1, fun e => ?_, fun _ v hv => ?_⟩
        · exfalso
          have e := e.1
          rw [hpl] at e
          rcases (show ps.length = 1 ∨ ps.length = 2 by omega) with k | k
          · rw [k] at e
            exact absurd e (by decide +kernel)
          · rw [k] at e
            exact absurd e (by decide +kernel)
        · have ec : cutV (V.str (S hw) :: ps.map (·.1)) (some 1) none = ps.map (·.1) := by
            match ps, hp1, hp2 with
            | [z], _, _ => rfl
            | [z, z'], _, _ => rfl
            | _ :: _ :: _ :: _, _, hp2 => simp at hp2
          rw [ec]
          have sv : Same H (upd (upd H c (.lst [])) v (.tup (ps.map (·.1)))) := (same_new hc).trans (same_new hv)
          have hcv := (same_new (o := .tup (ps.map (·.1))) hv) c _ (upd_same (o := .lst []))
          have hvv : (upd (upd H c (.lst [])) v (.tup (ps.map (·.1)))) v = some (.tup (ps.map (·.1))) := upd_same
          revert sv hcv hvv
          generalize upd (upd H c (.lst [])) v (.tup (ps.map (·.1))) = H2
          intro sv hcv hvv
          refine ⟨v, rfl, ⟨_, sqT_of hvv⟩, for_tup (K := K) (a := v) (xs := ps.map (·.1)) (fun i σ H' => ∃ (l : Addr) (o3 : Option V), σ = [some (.ref a), some (.str (S f)), some (.ref l), o3] ∧ Same H H' ∧ H l = none ∧ H' v = some (.tup (ps.map (·.1))) ∧ H' l = some (.lst (((ps.take i).flatMap (·.2)).map vW)) ∧ ((ps.take i).flatMap (·.2)).length ≤ 1000 * i) ⟨c, _, rfl, sv, hc, hvv, hcv, by simp⟩ (fun i σ H' _ h => by
            obtain ⟨_, _, _, _, _, h3, _⟩ := h
            exact sqT_of h3) ?_ ?_⟩
          · rintro i xv σ H3 hi ⟨l, o3, rfl, s3, hl, hv3, hl3, hlen⟩
            rw [List.getElem?_map] at hi
            cases hz' : ps[i]? with
            | none =>
              rw [hz'] at hi
              cases hi
            | some z =>
              rw [hz'] at hi
              have hxv : z.1 = xv := Option.some.inj hi
              have hil : i < ps.length := by
                by_cases k : i < ps.length
                · exact k
                · rw [List.getElem?_eq_none (by omega)] at hz'
                  cases hz'
              have et : (ps.take (i + 1)).flatMap (·.2) = (ps.take i).flatMap (·.2) ++ z.2 := by
                rw [one_more hz', List.flatMap_append]
                simp
              have hzl : z.2.length ≤ 1000 := by
                rcases hps z (List.mem_of_getElem? hz') with ⟨_, _, e⟩ | ⟨p1, t1, xs, _, _, _, _, e, e'⟩
                · rw [e]
                  exact Nat.zero_le _
                · rw [e']
                  have := vals_len f t1
                  have := lvs_sz t1
                  omega
              have key : ∀ (M : Addr) (H5 : Hp), Same H3 H5 → H5 M = some (.lst (z.2.map vW)) → ∃ (x0 y0 : Addr) (xs zs : List V), V.ref l = .ref x0 ∧ V.ref M = .ref y0 ∧ H5 x0 = some (.lst xs) ∧ H5 y0 = some (.lst zs) ∧ xs.length + zs.length ≤ sizeLine ∧ ∀ p, H5 p = none → ∃ (l' : Addr) (o3 : Option V), ([some (.ref a), some (.str (S f)), some (.ref p), some xv] : L2.St) = [some (.ref a), some (.str (S f)), some (.ref l'), o3] ∧ Same H (upd H5 p (.lst (xs ++ zs))) ∧ H l' = none ∧ (upd H5 p (.lst (xs ++ zs))) v = some (.tup (ps.map (·.1))) ∧ (upd H5 p (.lst (xs ++ zs))) l' = some (.lst (((ps.take (i + 1)).flatMap (·.2)).map vW)) ∧ ((ps.take (i + 1)).flatMap (·.2)).length ≤ 1000 * (i + 1) := by
                intro M H5 s5 hM
                refine ⟨l, M, _, _, rfl, rfl, s5 _ _ hl3, hM, ?_, fun p hp => ⟨p, _, rfl, (s3.trans s5).trans (same_new hp), (s3.trans s5).free hp, same_new hp _ _ (s5 _ _ hv3), ?_, ?_⟩⟩
                · rw [List.length_map, List.length_map]
                  exact Nat.le_trans (show _ ≤ 3000 by omega) (by decide)
                · rw [et, List.map_append]
                  exact upd_same
                · rw [et, List.length_append]
                  omega
              refine ⟨_, rfl, ?_⟩
              rcases hps z (List.mem_of_getElem? hz') with ⟨b, e1, e2⟩ | ⟨p1, t1, xs, e1, ht1, hx1, hd1, hs1, e2⟩
              · obtain rfl : xv = .bl b := by rw [← hxv, e1]
                refine ⟨_, rfl, .bl b, .ty "tuple", .type "bool", .type "tuple", false, rfl, .ty _, .base (.bl b), kit_ty (by decide +kernel), _, rfl, iteF ?_⟩
                refine ⟨by show 0 ≤ sizeLine; decide, fun M hM => ?_⟩
                exact key M _ (same_new hM) (by rw [e2]; exact upd_same)
              · obtain rfl : xv = .ref p1 := by rw [← hxv, e1]
                refine ⟨_, rfl, .ref p1, .ty "tuple", .type "tuple", .type "tuple", true, rfl, .ty _, .base (.tup (s3 _ _ hx1)), kit_ty (by decide +kernel), _, rfl, iteT ?_⟩
                refine ⟨_, rfl, _, rfl, p1, t1, f, rfl, hf, ht1.keep (tk_same s3), by omega, by omega, fun M H5 s5 _ hM => ?_⟩
                exact key M _ s5 (by rw [e2]; exact hM)
          · rintro σ H3 ⟨l, o3, rfl, s3, hl, hv3, hl3, hlen⟩
            rw [List.length_map, List.take_length] at hl3
            rw [ev] at q
            exact ⟨_, rfl, q l H3 s3 hl hl3⟩
end

/-! ### words in order -/
section
variable {P : Program} {w : World} {K : PySem.W.Frag} {mg : Str → Option Value} {base : Heap} {D : Ad}
open TL SX
open PyProof.Rows (sortedS risingS)
theorem rising_pw : ∀ (r : List Str) (x : Str), risingS x r = true → (x :: r).Pairwise fun a b => ¬ (b.cps.toList < a.cps.toList)
  | [], x, _ => List.pairwise_singleton _ _
  | y :: r, x, h => by
    have h' : (!PySem.Spec.ltCps y.cps.toList x.cps.toList && risingS y r) = true := h
    rw [PyProof.Rows.ltCps_eq] at h'
    rw [Bool.and_eq_true, Bool.not_eq_true', decide_eq_false_iff_not] at h'
    obtain ⟨h1, h2⟩ := h'
    have ih := rising_pw r y h2
    refine List.pairwise_cons.mpr ⟨fun z hz => ?_, ih⟩
    rcases List.mem_cons.mp hz with e | e
    · rw [e]; exact h1
    · have h3 := (List.pairwise_cons.mp ih).1 z e
      exact fun q => (List.not_lt.mpr (List.le_trans (List.not_lt.mp h1) (List.not_lt.mp h3))) q
theorem sorted_pw {ns : List Str} (h : sortedS ns = true) : ns.Pairwise fun a b => ¬ (b.cps.toList < a.cps.toList) := by
  cases ns with
  | nil => exact List.Pairwise.nil
  | cons x r => exact rising_pw r x h
def dW (ks : List Txt) : List (Key × V) := ks.map fun x => ((.inr (S x) : Key), V.bl true)
def addW (ks : List Txt) (x : Txt) : List Txt := if x ∈ ks then ks else ks ++ [x]
theorem dW_val (k : Txt) : ∀ ks : List Txt, valV (dW ks) (.inr (S k) : Key) = if k ∈ ks then some (V.bl true) else none
  | [] => rfl
  | a :: r => by
    by_cases q : k = a
    · subst q
      rw [if_pos (by simp)]
      exact valV_pos rfl
    · refine (valV_neg (fun z => q (by have := S_inj (Sum.inr.inj z); first | exact this | exact this.symm))).trans ((dW_val k r).trans ?_)
      simp [q]
theorem dW_put (ks : List Txt) (k : Txt) : putK (dW ks) (.inr (S k) : Key) (.bl true) = dW (addW ks k) := by
  unfold putK addW
  rw [valV_any, dW_val]
  by_cases h : k ∈ ks
  · rw [if_pos h, if_pos h, if_pos (show (some (V.bl true)).isSome = true from rfl)]
    unfold dW
    rw [List.map_map]
    refine List.map_congr_left fun p _ => ?_
    show (if (Sum.inr (S p) : Key) = Sum.inr (S k) then ((Sum.inr (S p) : Key), V.bl true) else ((Sum.inr (S p) : Key), V.bl true)) = _
    split <;> rfl
  · rw [if_neg h, if_neg h, if_neg (by simp)]
    unfold dW
    rw [List.map_append]
    rfl
theorem dW_len (ks : List Txt) : (dW ks).length = ks.length := List.length_map _
structure Kw' (ks ws : List Txt) : Prop where
  nd : ks.Nodup
  mem : ∀ x, x ∈ ks ↔ x ∈ ws
  len : ks.length ≤ ws.length
theorem Kw'.add {ks ws : List Txt} (h : Kw' ks ws) (x : Txt) : Kw' (addW ks x) (ws ++ [x]) := by
  unfold addW
  split
  · rename_i k
    refine ⟨h.nd, fun y => ?_, by have := h.len; rw [List.length_append]; omega⟩
    rw [h.mem, List.mem_append, List.mem_singleton]
    constructor
    · exact .inl
    · rintro (a | rfl)
      · exact a
      · exact (h.mem _).mp k
  · rename_i k
    refine ⟨?_, fun y => ?_, by have := h.len; simp only [List.length_append, List.length_cons, List.length_nil]; omega⟩
    · rw [List.nodup_append]
      exact ⟨h.nd, by simp, fun a ha b hb => by
        rw [List.mem_singleton.mp hb]
        rintro rfl
        exact k ha⟩
    · rw [List.mem_append, List.mem_append, h.mem]
def shW (k : Nat) (ks : List Txt) : List Txt := ks.filter fun x => decide (x.length < k)
def eqW (k : Nat) (ks : List Txt) : List Txt := ks.filter fun x => decide (x.length = k)
theorem filt_perm (k : Nat) : ∀ ks : List Txt, (shW k ks ++ eqW k ks).Perm (shW (k + 1) ks)
  | [] => .refl _
  | a :: ks => by
    have ih := filt_perm k ks
    unfold shW eqW at *
    by_cases h1 : a.length < k
    · rw [List.filter_cons_of_pos (by simpa using h1), List.filter_cons_of_neg (by simp; omega), List.filter_cons_of_pos (by simp; omega)]
      exact ih.cons a
    · by_cases h2 : a.length = k
      · rw [List.filter_cons_of_neg (by simpa using h1), List.filter_cons_of_pos (by simpa using h2), List.filter_cons_of_pos (by simp; omega)]
        exact List.perm_middle.trans (ih.cons a)
      · rw [List.filter_cons_of_neg (by simpa using h1), List.filter_cons_of_neg (by simpa using h2), List.filter_cons_of_neg (by simp; omega)]
        exact ih
theorem S_cps (x : Txt) : (S x).cps.toList = x := rfl
theorem srt_txt {ks : List Txt} {ys : List Str} {k : Nat} (nd : ks.Nodup) (hl : ∀ x ∈ ks, x.all isLow = true ∧ x.length = k) (hp : ys.Perm (ks.map S)) (hs : sortedS ys = true) : ∃ Y : List Txt, ys = Y.map S ∧ Y.Perm ks ∧ Y.Pairwise fun a b => pw a < pw b := by
  have e : ys = (ys.map (·.cps.toList)).map S := by
    rw [List.map_map]
    conv => lhs; rw [← List.map_id ys]
    refine List.map_congr_left fun y hy => ?_
    obtain ⟨x, _, rfl⟩ := List.mem_map.mp (hp.mem_iff.mp hy)
    rfl
  have pm : (ys.map (·.cps.toList)).Perm ks := by
    have := hp.map (·.cps.toList)
    rw [List.map_map] at this
    rw [show ((·.cps.toList) ∘ S : Txt → Txt) = id from rfl, List.map_id] at this
    exact this
  refine ⟨_, e, pm, ?_⟩
  have nd' : (ys.map (·.cps.toList)).Nodup := pm.nodup_iff.mpr nd
  have so := sorted_pw hs
  have so' : (ys.map (·.cps.toList)).Pairwise fun a b => ¬ (b < a) := by
    rw [List.pairwise_map]
    exact so
  refine (so'.and nd').imp_of_mem fun {a b} ha hb h => ?_
  obtain ⟨la, ka⟩ := hl a (pm.mem_iff.mp ha)
  obtain ⟨lb, kb⟩ := hl b (pm.mem_iff.mp hb)
  have := pwA_lex a b 0 (by rw [ka, kb]) la lb h.1
  have : pw a ≤ pw b := this
  have ne : pw a ≠ pw b := fun q => h.2 (pw_inj la lb q)
  omega
/-- one more size -/
theorem more_size {ks W Y : List Txt} {k : Nat} (hlow : ∀ x ∈ ks, x.all isLow = true) (hW : W.Perm (shW k ks)) (oW : W.Pairwise fun a b => pw a < pw b) (hY : Y.Perm (eqW k ks)) (oY : Y.Pairwise fun a b => pw a < pw b) : (W ++ Y).Perm (shW (k + 1) ks) ∧ (W ++ Y).Pairwise fun a b => pw a < pw b := by
  refine ⟨(hW.append hY).trans (filt_perm k ks), List.pairwise_append.mpr ⟨oW, oY, fun a ha b hb => ?_⟩⟩
  obtain ⟨ma, la⟩ := List.mem_filter.mp (hW.mem_iff.mp ha)
  obtain ⟨mb, lb⟩ := List.mem_filter.mp (hY.mem_iff.mp hb)
  exact pw_short (by simp at la lb; omega) (hlow a ma)
def wV (x : Txt) : V := .str (S x)
def spInOrd : Sp := fun vs H Q _ => ∃ (r : Addr) (ws : List Txt), vs = [.ref r] ∧ H r = some (.lst (ws.map wV)) ∧ ws.length ≤ 60 ∧ (∀ x ∈ ws, wordT x = true) ∧
  ∀ W L H', IsWs ws W → W.length ≤ 60 → Same H H' → H L = none → H' L = some (.lst (W.map wV)) → Q (.ref L) H'
theorem ok_in_order (T : TexW w K mg D) : FnOk P w K mg base CX0 2 D.a_in_order D.d_in_order P_in_order spInOrd := by
  refine T.in_order_F.ok S_in_order (fun vs H Q E h => ?_) (fun cdv A outer s H vs Q E hr h => ?_)
  · obtain ⟨r, ws, rfl, _⟩ := h
    rfl
  · obtain ⟨r, ws, rfl, hr0, hl, hw, q⟩ := h
    have hu := hu_of hr
    refine ⟨_, (pss_cons (ps_par (i := 1) (j := 2) (by rfl) S_in_order.nd rfl rfl (by decide) rfl rfl (pa_cons pe_dnewK (pa_cons (pe_lst pa_nil) pa_nil)) (by rfl))
      (pss_cons (ps_for PassesOwn.never rfl (pi_list (pv 0)) (pg_name (i := 3) S_in_order.nd rfl (Or.inl rfl)) (pss_one (ps_dput hu (pv 1) (pv 3) pe_bl rfl)))
      (pss_cons (ps_for PassesOwn.never rfl (pi_range2 rfl T.b_range (pa_cons pe_int (pa_cons pe_int pa_nil))) (pg_name (i := 4) S_in_order.nd rfl (Or.inr rfl)) (pss_one (ps_lock (ps_set (i := 2) S_in_order.nd rfl (Or.inl rfl) (pe_op op_cat (pv 2) (pe_callB cr_sortedS (by rfl) T.b_sorted (by decide +kernel) (pa_cons (pe_lc (own := [(("_law_one" : Str), 3)]) (g := gName 3) rfl S_in_order.nd (pi_keys (pv 1)) (blkOk_by (N := N_in_order) (sc := defScope s_in_order) (by decide +kernel)) (fun _ _ _ _ _ => pg_name (i := 3) S_in_order.nd rfl (Or.inl rfl)) (fun _ _ _ _ _ => (pts_one (pt_cmpR op_eq (pe_callB call_len_str (by rfl) T.b_len (by decide +kernel) (pa_cons (pv 3) pa_nil)) (pv 4) (nomark _)))) (fun _ _ _ _ _ => (pe_callTy SkE.call_str_str (by rfl) T.b_str (by decide +kernel) (pa_cons (pv 3) pa_nil)))) pa_nil)))))))
      (pss_one (ps_ret (pv 2)))))), ?_⟩
    refine fun d hd => ⟨by show 0 ≤ sizeLine; decide, fun l hl0 => ⟨_, _, rfl, nx_to ?_⟩⟩
    have s1 := same_new (o := .dK []) hd
    have s2 := s1.trans (same_new (o := .lst []) hl0)
    have hd1 := (same_new (o := .lst []) hl0) d _ (upd_same (o := .dK []))
    have hl1 : (upd (upd H d (.dK [])) l (.lst [])) l = some (.lst []) := upd_same
    have hln := s1.free hl0
    revert s2 hd1 hl1
    generalize upd (upd H d (.dK [])) l (.lst []) = H1
    intro s2 hd1 hl1
    refine ⟨_, rfl, r, rfl, ⟨_, SqL.of (s2 _ _ hr0)⟩, for_list (K := K) (a := r) (xs := ws.map wV) (fun i σ H' => ∃ (o3 : Option V) (ks : List Txt), σ = [some (.ref r), some (.ref d), some (.ref l), o3, none] ∧ Same H H' ∧ H' d = some (.dK (dW ks)) ∧ H' l = some (.lst []) ∧ Kw' ks (ws.take i))
      ⟨none, [], rfl, s2, hd1, hl1, .nil, fun n => by simp, by simp⟩ (fun i σ H' _ h => by
        obtain ⟨_, _, _, s', _⟩ := h
        exact SqL.of (s' _ _ hr0)) ?_ ?_⟩
    · rintro i v σ H2 hi ⟨o3, ks, rfl, s3, hd2, hl2, hk⟩
      rw [List.getElem?_map] at hi
      cases hx : ws[i]? with
      | none =>
        rw [hx] at hi
        cases hi
      | some x =>
        rw [hx] at hi
        obtain rfl := Option.some.inj hi
        have kl := hk.len
        rw [List.length_take] at kl
        refine ⟨_, rfl, _, rfl, d, _, rfl, DPut.k (k := .inr (S x)) hd2 (by rw [dW_len]; exact szT (by omega)), ?_⟩
        rw [dW_put]
        refine ⟨_, addW ks x, rfl, same_upd s3 hd, upd_same, ?_, ?_⟩
        · rw [upd_ne (fun e => by rw [e, hd2] at hl2; cases hl2)]
          exact hl2
        · rw [one_more hx]
          exact hk.add x
    · rintro σ H2 ⟨o3, ks, rfl, s3, hd2, hl2, hk⟩
      rw [List.length_map, List.take_length] at hk
      have hlow : ∀ x ∈ ks, x.all isLow = true := fun x hx => (word_nl (hw x ((hk.mem x).mp hx))).2
      refine ⟨1, 13, rfl, by decide, ?_⟩
      refine for_range (lo := 1) (n := 12) (fun i σ H' => ∃ (o4 : Option V) (W : List Txt) (L : Addr), σ = [some (.ref r), some (.ref d), some (.ref L), o3, o4] ∧ Same H H' ∧ H L = none ∧ L ≠ d ∧ H' d = some (.dK (dW ks)) ∧ H' L = some (.lst (W.map wV)) ∧ W.Perm (shW (i + 1) ks) ∧ W.Pairwise fun a b => pw a < pw b)
        ⟨none, [], l, rfl, s3, hln, (fun e => by rw [e, hd2] at hl2; cases hl2), hd2, hl2, ?_, .nil⟩ ?_ ?_
      · have : shW 1 ks = [] := List.filter_eq_nil_iff.mpr fun x hx h => by
          have := List.length_pos_iff.mpr (word_nl (hw x ((hk.mem x).mp hx))).1
          have := of_decide_eq_true h
          omega
        show List.Perm [] (shW 1 ks)
        rw [this]
      · rintro i σ H3 hi ⟨o4, W, L, rfl, s4, hLn, hLd, hd3, hL3, hWp, hWo⟩
        have kl := hk.len
        refine ⟨d, .dK (dW ks), hd3, trivial, fun od => ?_⟩
        have hd4 : (upd H3 d (.frz od (.dK (dW ks)))) d = some (.frz od (.dK (dW ks))) := upd_same
        have hL4 : (upd H3 d (.frz od (.dK (dW ks)))) L = some (.lst (W.map wV)) := by
          rw [upd_ne hLd]
          exact hL3
        have s5 := same_upd (o := .frz od (.dK (dW ks))) s4 hd
        revert hd4 s5 hL4
        generalize upd H3 d (.frz od (.dK (dW ks))) = H4
        intro hd4 hL4 s5
        refine ⟨_, rfl, _, rfl, d, od, rfl, .inl ⟨dW ks, hd4, fun DD hDD => lc_map walk_keys ks wV (by rw [dW_len]) ?_ (fun x => decide (x.length = i + 1)) wV hDD (by rw [dW_len]; exact szT (by omega)) (fun H' s' => s' _ _ hd4) ?_ ?_⟩⟩
        · rintro i H' v H'' ⟨e, k, v', h1, h2⟩
          refine ⟨e, ?_⟩
          unfold dW at h1
          rw [List.getElem?_map] at h1
          cases h3 : ks[i]? with
          | none =>
            rw [h3] at h1
            cases h1
          | some p =>
            rw [h3] at h1
            cases h1
            exact ⟨p, rfl, h2⟩
        · intro x hx H5 R Sk s6 h1 h2
          refine ⟨rfl, _, rfl, ?_⟩
          have hxl : (S x).length ≤ sizeLine := by
            rw [S_len]
            have := hw x ((hk.mem x).mp hx)
            simp only [wordT, Bool.and_eq_true, decide_eq_true_eq] at this
            exact Nat.le_trans this.2.1 (by decide)
          refine ⟨S x, rfl, hxl, _, rfl, rfl, _, rfl, ?_⟩
          have e : decide (V.int ((S x).length : Int) = V.int (1 + (i : Int))) = decide (x.length = i + 1) := decide_eq_decide.mpr (by
            rw [S_len]
            constructor
            · intro e
              have := V.int.inj e
              omega
            · intro e
              rw [e]
              congr 1
              omega)
          rw [e]
          by_cases k : x.length = i + 1
          · rw [decide_eq_true k] at h1 ⊢
            exact iteT ⟨_, rfl, S x, rfl, h1 rfl _ (Same.refl _)⟩
          · rw [decide_eq_false k] at h2 ⊢
            exact iteF (h2 rfl _ (Same.refl _))
        · intro H5 s6 hDD5
          have hd5 := s6 _ _ hd4
          have hL5 := s6 _ _ hL4
          have s7 := s5.trans s6
          have nd : (eqW (i + 1) ks).Nodup := hk.nd.filter _
          have hE : ∀ x ∈ eqW (i + 1) ks, x.all isLow = true ∧ x.length = i + 1 := fun x hx => by
            obtain ⟨a, b⟩ := List.mem_filter.mp hx
            exact ⟨hlow x a, of_decide_eq_true b⟩
          have eL : (eqW (i + 1) ks).length ≤ ks.length := List.length_filter_le _ _
          refine ⟨DD, (eqW (i + 1) ks).map S, rfl, SqL.of (by rw [hDD5, List.map_map]; rfl), by rw [List.length_map]; omega, fun ys p hperm hsrt hp => ?_⟩
          obtain ⟨Y, rfl, hYp, hYo⟩ := srt_txt nd hE hperm hsrt
          obtain ⟨nWp, nWo⟩ := more_size hlow hWp hWo hYp hYo
          have sp6 := same_new (o := .lst ((Y.map S).map V.str)) hp
          have hd6 := sp6 _ _ hd5
          have hL6 := sp6 _ _ hL5
          have s8 := s7.trans sp6
          have hp6 : (upd H5 p (.lst ((Y.map S).map V.str))) p = some (.lst ((Y.map S).map V.str)) := upd_same
          revert hd6 hL6 s8 hp6
          generalize upd H5 p _ = H6
          intro hd6 hL6 s8 hp6
          have wl := nWp.length_eq
          have wl2 : (shW (i + 1 + 1) ks).length ≤ ks.length := List.length_filter_le _ _
          refine ⟨L, p, _, _, rfl, rfl, hL6, hp6, ?_, fun p2 hp2 => ?_⟩
          · rw [List.length_append] at wl
            simp only [List.length_map]
            exact Nat.le_trans (show _ ≤ 60 by omega) (by decide)
          · have sp7 := same_new (o := .lst (W.map wV ++ (Y.map S).map V.str)) hp2
            have hd7 := sp7 _ _ hd6
            have hp7 : (upd H6 p2 (.lst (W.map wV ++ (Y.map S).map V.str))) p2 = some (.lst ((W ++ Y).map wV)) := by
              rw [upd_same, List.map_append, List.map_map]
              rfl
            have hp2n := s8.free hp2
            have hp2d : p2 ≠ d := (ne_of_none hd6 hp2).symm
            have s9 := s8.trans sp7
            revert hd7 hp7 s9
            generalize upd H6 p2 _ = H7
            intro hd7 hp7 s9
            refine ⟨hd7, _, W ++ Y, p2, rfl, same_upd s9 hd, hp2n, hp2d, upd_same, ?_, nWp, nWo⟩
            rw [upd_ne hp2d]
            exact hp7
      · rintro σ H3 ⟨o4, W, L, rfl, s4, hLn, hLd, hd3, hL3, hWp, hWo⟩
        have kl := hk.len
        have wl := hWp.length_eq
        have wl2 : (shW (12 + 1) ks).length ≤ ks.length := List.length_filter_le _ _
        refine ⟨_, rfl, q W L H3 ⟨hWo, fun x => ?_⟩ (by omega) s4 hLn hL3⟩
        rw [hWp.mem_iff, ← hk.mem]
        unfold shW
        rw [List.mem_filter]
        constructor
        · exact fun h => h.1
        · intro h
          have := hw x ((hk.mem x).mp h)
          simp only [wordT, Bool.and_eq_true, decide_eq_true_eq] at this
          exact ⟨h, by simp; omega⟩
end

/-! ### the law's grid -/
section
variable {P : Program} {w : World} {K : PySem.W.Frag} {mg : Str → Option Value} {base : Heap} {D : Ad}
open TL SX
theorem TS.app {H : Hp} : ∀ {as bs : List Addr} {ps qs : List Spt}, TS H as ps → TS H bs qs → TS H (as ++ bs) (ps ++ qs)
  | [], _, [], _, _, k => k
  | _ :: _, _, _ :: _, _, h, k => ⟨h.1, TS.app h.2 k⟩
  | [], _, _ :: _, _, h, _ => h.elim
  | _ :: _, _, [], _, h, _ => h.elim
theorem TS.keep {H H' : Hp} (s : Same H H') : ∀ {ts : List Addr} {ps : List Spt}, TS H ts ps → TS H' ts ps
  | [], [], _ => trivial
  | _ :: _, _ :: _, h => ⟨s _ _ h.1, TS.keep s h.2⟩
  | [], _ :: _, h => h.elim
  | _ :: _, [], h => h.elim
def PrT (H : Hp) (v : V) (p : Spt) : Prop := ∃ t, v = .ref t ∧ H t = some (.tup (spW p))
theorem acc_TS {H : Hp} : ∀ {acc : List (V × Spt)}, (∀ q ∈ acc, PrT H q.1 q.2) → ∃ as : List Addr, acc.map (·.1) = as.map V.ref ∧ TS H as (acc.map (·.2))
  | [], _ => ⟨[], rfl, trivial⟩
  | a :: r, h => by
    obtain ⟨t, e, ht⟩ := h a List.mem_cons_self
    obtain ⟨as, e2, h2⟩ := acc_TS (acc := r) fun q hq => h q (List.mem_cons_of_mem _ hq)
    exact ⟨t :: as, by rw [List.map_cons, List.map_cons, e, e2], ht, h2⟩
def trip (k : Nat) : List Nat := [k - 1, k, min 99 (k + 1)]
structure Ks (ks ps : List Nat) : Prop where
  nd : ks.Nodup
  mem : ∀ n, n ∈ ks ↔ n = 0 ∨ n = 99 ∨ n ∈ ps
  len : ks.length ≤ 2 + ps.length
theorem Ks.add {ks ps : List Nat} (h : Ks ks ps) (n : Nat) : Ks (addK ks n) (ps ++ [n]) := by
  refine ⟨add_nd h.nd, fun m => ?_, ?_⟩
  · rw [add_mem, h.mem, List.mem_append, List.mem_singleton]
    simp only [or_assoc]
  · have := add_len ks n
    have := h.len
    simp only [List.length_append, List.length_cons, List.length_nil]
    omega
theorem frees_v (vs : List Txt) : ((("abcdefgh" : String) : Str).cps.toList.filter fun c => !decide ([c] ∈ vs)).map (fun c => V.str (⟨#[c]⟩ : Str)) = (frees vs).map wV := by
  have e : (("abcdefgh" : String) : Str).cps.toList = [97, 98, 99, 100, 101, 102, 103, 104] := by decide +kernel
  have e2 : let8 = ([97, 98, 99, 100, 101, 102, 103, 104] : List Nat).map fun c => [c] := rfl
  rw [e]
  unfold frees
  rw [e2, List.filter_map, List.map_map]
  rfl
theorem vW_w (ws : List Txt) : (ws.map Sum.inl : List (Txt ⊕ Nat)).map vW = ws.map wV := by
  rw [List.map_map]
  rfl
theorem vW_n (ns : List Nat) : (ns.map Sum.inr : List (Txt ⊕ Nat)).map vW = ns.map fun n : Nat => V.int (n : Int) := by
  rw [List.map_map]
  rfl
def fld (i : Nat) : Txt := if i = 0 then wSystem else wMachine
theorem fld_or (i : Nat) : fld i = wSystem ∨ fld i = wMachine := by
  unfold fld
  split
  · exact .inl rfl
  · exact .inr rfl
theorem fld_in (i : Nat) : fld i ∈ fieldL := by
  rcases fld_or i with h | h <;> rw [h] <;> decide
theorem sm_at {i : Nat} {v : V} (h : ([V.str (("system" : String) : Str), .str (("machine" : String) : Str)] : List V)[i]? = some v) : v = .str (S (fld i)) ∧ i < 2 := by
  rw [sm_v] at h
  match i, h with
  | 0, h => exact ⟨(Option.some.inj h).symm, by decide⟩
  | 1, h => exact ⟨(Option.some.inj h).symm, by decide⟩
  | i + 2, h => simp at h
theorem flat_wV (ws : List Txt) : (ws.map wV).all flatV = true := by
  rw [List.all_eq_true]
  intro x hx
  obtain ⟨y, _, rfl⟩ := List.mem_map.mp hx
  rfl
theorem zz_t : (("zz" : String) : Str) = S [122, 122] := by decide +kernel
theorem cut_toV {xs : List V} {m : Nat} : cutV xs none (some ((m : Nat) : Int)) = xs.take m := by
  unfold cutV
  rw [HT.sIx_nat, show HT.sIx xs.length 0 none = 0 from rfl, List.drop_zero, Nat.sub_zero]
  by_cases h : m ≤ xs.length
  · rw [Nat.min_eq_left h]
  · rw [Nat.min_eq_right (by omega), List.take_of_length_le (Nat.le_refl _), List.take_of_length_le (by omega)]
theorem TS.put {H : Hp} {d : Addr} {o o' : HO} (hd : H d = some o) (hn : ∀ xs, o ≠ .tup xs) : ∀ {ts : List Addr} {ps : List Spt}, TS H ts ps → TS (L2.upd H d o') ts ps
  | [], [], _ => trivial
  | _ :: _, _ :: _, h => ⟨by rw [upd_ne (fun e => by have := h.1; rw [e, hd] at this; exact hn _ (Option.some.inj this))]; exact h.1, TS.put hd hn h.2⟩
  | [], _ :: _, h => h.elim
  | _ :: _, [], h => h.elim
def rowP (L : List Nat) (a : Txt) (B : List Txt) : List Spt := B.flatMap fun b => L.map fun c => ⟨a, b, c⟩
theorem prod_more {A B : List Txt} {L : List Nat} {i : Nat} {a : Txt} (h : A[i]? = some a) : prodW (A.take (i + 1)) B L = prodW (A.take i) B L ++ rowP L a B := by
  unfold prodW
  rw [one_more h, List.flatMap_append]
  simp [rowP]
theorem row_more {B : List Txt} {L : List Nat} {i : Nat} {a b : Txt} (h : B[i]? = some b) : rowP L a (B.take (i + 1)) = rowP L a (B.take i) ++ L.map fun c => ⟨a, b, c⟩ := by
  unfold rowP
  rw [one_more h, List.flatMap_append]
  simp
def spGrid : Sp := fun vs H Q _ => ∃ (r p1 p2 : Addr) (t1 t2 : Tr), vs = [.ref r] ∧ H r = some (.lst [.ref p1, .ref p2]) ∧ Tre H p1 t1 ∧ Tre H p2 t2 ∧ t1.dep < 8 ∧ t2.dep < 8 ∧ t1.sz ≤ 100 ∧ t2.sz ≤ 100 ∧ (∀ x ∈ t1.lvs, G5 x) ∧ (∀ x ∈ t2.lvs, G5 x) ∧ t1.lvs.length + t2.lvs.length ≤ 16 ∧
  ∀ (G : List Spt) (L : Addr) (as : List Addr) H', Cov (t1.lvs ++ t2.lvs) G → G.length ≤ 1000000 → Same H H' → H L = none → H' L = some (.lst (as.map V.ref)) → TS H' as G → Q (.ref L) H'
theorem ok_grid (T : TexW w K mg D) : FnOk P w K mg base CX0 10 D.a_grid D.d_grid P_grid spGrid := by
  have G_values : FnOk P w K mg base CX0 8 D.a_values D.d_values P_values (spVals 8) := ok_values T 8
  have G_in_order : FnOk P w K mg base CX0 2 D.a_in_order D.d_in_order P_in_order spInOrd := ok_in_order T
  refine T.grid_F.ok S_grid (fun vs H Q E h => ?_) (fun cdv A outer s H vs Q E hr h => ?_)
  · obtain ⟨r, p1, p2, t1, t2, rfl, _⟩ := h
    rfl
  · obtain ⟨r, p1, p2, t1, t2, rfl, hr0, ht1, ht2, hd1, hd2, hz1, hz2, hg1, hg2, hlv, q⟩ := h
    have hu := hu_of hr
    refine ⟨_, (pss_cons (ps_set (i := 1) S_grid.nd rfl (Or.inl rfl) (pe_lst pa_nil))
      (pss_cons (ps_for PassesOwn.never rfl (pi_tup (pe_tup (pa_cons pe_str (pa_cons pe_str pa_nil)))) (pg_name (i := 2) S_grid.nd rfl (Or.inl rfl)) (pss_cons (ps_set (i := 3) S_grid.nd rfl (Or.inr rfl) (pe_lst pa_nil))
      (pss_cons (ps_for PassesOwn.never rfl (pi_list (pv 0)) (pg_name (i := 4) S_grid.nd rfl (Or.inl rfl)) (pss_one (ps_set (i := 3) S_grid.nd rfl (Or.inr rfl) (pe_op op_cat (pv 3) (pe_call G_values (hr.mono (by decide)) (by rfl) T.values_g T.values_F.kp T.values_b .nil pass0 (pa_cons (pv 4) (pa_cons (pv 2) pa_nil)))))))
      (pss_cons (ps_setLc (i := 5) (own := [(("_law_sign" : Str), 12)]) (g := gName 12) rfl S_grid.nd rfl rfl (sw_true rfl rfl rfl (by decide +kernel)) (pi_str pe_str) (blkOk_by (N := N_grid) (sc := defScope s_grid) (by decide +kernel)) (fun _ _ _ _ _ => pg_name (i := 12) S_grid.nd rfl (Or.inl rfl)) (fun _ _ _ _ _ => (pts_one (pt_cmpR (op_notIn_seqN (KK := K) rfl) (pv 12) (pv 3) rfl))) (fun _ _ _ _ _ => (pv 12)))
      (pss_one (ps_expr (pe_bm PySem.F.plainAttrs_list PySem.F.slot_list_append PySem.F.type_list_append mt_append (pv 1) (pa_cons (pe_call G_in_order (hr.mono (by decide)) (by rfl) T.in_order_g T.in_order_F.kp T.in_order_b .nil pass0 (pa_cons (pe_op op_cat (pe_op op_cat (pv 3) (pe_slice sl_list (pv 5) po_none (po_some pe_int))) (pe_lst (pa_cons pe_str pa_nil))) pa_nil)) pa_nil))))))))
      (pss_cons (ps_set (i := 6) S_grid.nd rfl (Or.inl rfl) (pe_disp (pps_cons pe_int pe_bl (pps_cons pe_int pe_bl pps_nil)) (by rfl) (by rfl) (fun z => by cases z) (by decide)))
      (pss_cons (ps_for PassesOwn.never rfl (pi_list (pv 0)) (pg_name (i := 4) S_grid.nd rfl (Or.inl rfl)) (pss_one (ps_for PassesOwn.never rfl (pi_list (pe_call G_values (hr.mono (by decide)) (by rfl) T.values_g T.values_F.kp T.values_b .nil pass0 (pa_cons (pv 4) (pa_cons pe_str pa_nil)))) (pg_name (i := 7) S_grid.nd rfl (Or.inl rfl)) (pss_one (ps_for PassesOwn.never rfl (pi_tup (pe_tup (pa_cons (pe_op op_sub (pv 7) pe_int) (pa_cons (pv 7) (pa_cons (pe_op op_add (pv 7) pe_int) pa_nil))))) (pg_name (i := 8) S_grid.nd rfl (Or.inl rfl)) (pss_one (ps_dput hu (pv 6) (pe_callB (call_min2 rfl) (by rfl) T.b_min (by decide +kernel) (pa_cons pe_int (pa_cons (pe_callB (call_max2 rfl) (by rfl) T.b_max (by decide +kernel) (pa_cons pe_int (pa_cons (pv 8) pa_nil))) pa_nil))) pe_bl rfl)))))))
      (pss_cons (ps_set (i := 9) S_grid.nd rfl (Or.inl rfl) (pe_lst pa_nil))
      (pss_cons (ps_for PassesOwn.never rfl (pi_list (pe_ix ix_list (pv 1) pe_int (fun _ _ => rfl))) (pg_name (i := 10) S_grid.nd rfl (Or.inr rfl)) (pss_one (ps_for PassesOwn.never rfl (pi_list (pe_ix ix_list (pv 1) pe_int (fun _ _ => rfl))) (pg_name (i := 11) S_grid.nd rfl (Or.inr rfl)) (pss_one (ps_lock (ps_set (i := 9) S_grid.nd rfl (Or.inl rfl) (pe_op op_cat (pv 9) (pe_lc (own := [(("_law_step" : Str), 13)]) (g := gName 13) (tt := tYes) rfl S_grid.nd (pi_list (pe_callB cr_sortedI (by rfl) T.b_sorted (by decide +kernel) (pa_cons (pe_lc (own := [(("_law_step" : Str), 13)]) (g := gName 13) (tt := tYes) rfl S_grid.nd (pi_keys (pv 6)) (blkOk_by (N := N_grid) (sc := defScope s_grid) (by decide +kernel)) (fun _ _ _ _ _ => pg_name (i := 13) S_grid.nd rfl (Or.inl rfl)) (fun _ _ _ _ _ => pts_nil) (fun _ _ _ _ _ => (pe_callTy call_int1 (by rfl) T.b_int (by decide +kernel) (pa_cons (pv 13) pa_nil)))) pa_nil))) (blkOk_by (N := N_grid) (sc := defScope s_grid) (by decide +kernel)) (fun _ _ _ _ _ => pg_name (i := 13) S_grid.nd rfl (Or.inl rfl)) (fun _ _ _ _ _ => pts_nil) (fun _ _ _ _ _ => (pe_tup (pa_cons (pv 10) (pa_cons (pv 11) (pa_cons (pv 13) pa_nil)))))))))))))
      (pss_one (ps_ret (pv 9))))))))), ?_⟩
    have big : ∀ n : Nat, n ≤ 1000 → n ≤ sizeLine := fun n h => Nat.le_trans h (by decide)
    have tk1 : ∀ x ∈ t1.lvs, TmS x := fun x hx => (hg1 x hx).1.tms
    have tk2 : ∀ x ∈ t2.lvs, TmS x := fun x hx => (hg2 x hx).1.tms
    refine ⟨by show 0 ≤ sizeLine; decide, fun sd hsd => ?_⟩
    have s1 := same_new (o := .lst []) hsd
    have hs1 : (upd H sd (.lst [])) sd = some (.lst []) := upd_same
    revert s1 hs1
    generalize upd H sd (.lst []) = H1
    intro s1 hs1
    refine ⟨by show 2 ≤ sizeLine; decide, fun tp htp => ?_⟩
    have s2 := s1.trans (same_new (o := .tup [V.str (("system" : String) : Str), .str (("machine" : String) : Str)]) htp)
    have hs2 := (same_new (o := .tup [V.str (("system" : String) : Str), .str (("machine" : String) : Str)]) htp) _ _ hs1
    have htp2 : (upd H1 tp (.tup [V.str (("system" : String) : Str), .str (("machine" : String) : Str)])) tp = some (.tup [V.str (("system" : String) : Str), .str (("machine" : String) : Str)]) := upd_same
    revert s2 hs2 htp2
    generalize upd H1 tp _ = H2
    intro s2 hs2 htp2
    refine ⟨tp, rfl, ⟨_, sqT_of htp2⟩, for_tup (K := K) (a := tp) (xs := [V.str (("system" : String) : Str), .str (("machine" : String) : Str)]) (fun i σ H' => ∃ (o2 o3 o4 o5 : Option V) (ls : List Addr), σ = [some (.ref r), some (.ref sd), o2, o3, o4, o5, none, none, none, none, none, none, none, none] ∧ Same H H' ∧ H' tp = some (.tup [V.str (("system" : String) : Str), .str (("machine" : String) : Str)]) ∧ H' sd = some (.lst (ls.map V.ref)) ∧ ls.length = i ∧
        ∀ j l, ls[j]? = some l → ∃ W : List Txt, H' l = some (.lst (W.map wV)) ∧ WCov (fld j) (t1.lvs ++ t2.lvs) W ∧ W.length ≤ 60 ∧ l ≠ sd ∧ H l = none) ⟨none, none, none, none, [], rfl, s2, htp2, hs2, rfl, fun _ _ h => by simp at h⟩ (fun i σ H' _ h => by
        obtain ⟨_, _, _, _, _, _, _, h3, _⟩ := h
        exact sqT_of h3) ?_ ?_⟩
    · rintro i v σ H3 hi ⟨o2, o3, o4, o5, ls, rfl, s3, htp3, hs3, hls, hW⟩
      obtain ⟨rfl, hi2⟩ := sm_at hi
      obtain ⟨ws1, e1, w15, m1⟩ := vals_w hg1 (fld_or i)
      obtain ⟨ws2, e2, w25, m2⟩ := vals_w hg2 (fld_or i)
      have l1 : ws1.length ≤ t1.lvs.length := by
        have := vals_len (fld i) t1
        rw [e1, List.length_map] at this
        exact this
      have l2 : ws2.length ≤ t2.lvs.length := by
        have := vals_len (fld i) t2
        rw [e2, List.length_map] at this
        exact this
      refine ⟨by show 0 ≤ sizeLine; decide, fun k0 hk0 => ?_⟩
      have s30 := same_new (o := .lst []) hk0
      have hk00 : (upd H3 k0 (.lst [])) k0 = some (.lst []) := upd_same
      revert s30 hk00
      generalize upd H3 k0 (.lst []) = H30
      intro s30 hk00
      refine ⟨_, rfl, r, rfl, ⟨_, SqL.of (s30 _ _ (s3 _ _ hr0))⟩, for_list (K := K) (a := r) (xs := [V.ref p1, .ref p2]) (fun j σ H' => ∃ (o4 : Option V) (k : Addr), σ = [some (.ref r), some (.ref sd), some (.str (S (fld i))), some (.ref k), o4, o5, none, none, none, none, none, none, none, none] ∧ Same H3 H' ∧ H3 k = none ∧ H' k = some (.lst ((([ws1, ws2].take j).flatten).map wV)) ∧ (([ws1, ws2].take j).flatten).length ≤ 16)
        ⟨o4, k0, rfl, s30, hk0, hk00, by simp⟩ (fun j σ H' _ h => by
          obtain ⟨_, _, _, s', _⟩ := h
          exact SqL.of (s' _ _ (s3 _ _ hr0))) ?_ ?_⟩
      · rintro j v σ H4 hj ⟨o4, k, rfl, s4, hkn, hk4, hkl⟩
        obtain ⟨p, t, ws, rfl, ht, hd, hz, ev, hix⟩ : ∃ (p : Addr) (t : Tr) (ws : List Txt), v = V.ref p ∧ Tre H p t ∧ t.dep < 8 ∧ t.sz ≤ 100 ∧ vals (fld i) t = ws.map Sum.inl ∧ [ws1, ws2][j]? = some ws := by
          match j, hj with
          | 0, hj => exact ⟨p1, t1, ws1, (Option.some.inj hj).symm, ht1, hd1, hz1, e1, rfl⟩
          | 1, hj => exact ⟨p2, t2, ws2, (Option.some.inj hj).symm, ht2, hd2, hz2, e2, rfl⟩
          | j + 2, hj => simp at hj
        have et : ([ws1, ws2].take (j + 1)).flatten = ([ws1, ws2].take j).flatten ++ ws := by
          rw [one_more hix, List.flatten_append]
          simp
        have hl16 : ((([ws1, ws2].take j).flatten) ++ ws).length ≤ 16 := by
          match j, hix with
          | 0, hix =>
            rw [← Option.some.inj hix]
            simp
            omega
          | 1, hix =>
            rw [← Option.some.inj hix]
            simp
            omega
          | j + 2, hix => simp at hix
        refine ⟨_, rfl, _, rfl, _, rfl, p, t, fld i, rfl, fld_in i, ht.keep (tk_same (s3.trans s4)), hd, by omega, fun M H5 s5 hM hM5 => ⟨k, M, _, _, rfl, rfl, s5 _ _ hk4, hM5, ?_, fun p2' hp2' => ⟨_, p2', rfl, (s4.trans s5).trans (same_new hp2'), (s4.trans s5).free hp2', ?_, ?_⟩⟩⟩
        · rw [ev, List.length_map, List.length_map, List.length_map]
          rw [List.length_append] at hl16
          exact big _ (by omega)
        · rw [et, ev, vW_w, ← List.map_append]
          exact upd_same
        · rw [et]
          exact hl16
      · rintro σ H4 ⟨o4, k, rfl, s4, hkn, hk4, hkl⟩
        have ef : ([ws1, ws2].take 2).flatten = ws1 ++ ws2 := by simp
        change H4 k = some (.lst ((([ws1, ws2].take 2).flatten).map wV)) at hk4
        rw [ef] at hk4
        have h5 : ∀ x ∈ ws1 ++ ws2, x ∈ names5 := fun x hx => by
          rcases List.mem_append.mp hx with hx | hx
          · exact w15 x hx
          · exact w25 x hx
        have hmem : ∀ x, x ∈ ws1 ++ ws2 ↔ ∃ t ∈ t1.lvs ++ t2.lvs, t.w = fld i ∧ t.v = .inl x := fun x => by
          rw [List.mem_append, m1, m2]
          constructor
          · rintro (⟨u, a, b⟩ | ⟨u, a, b⟩)
            · exact ⟨u, List.mem_append_left _ a, b⟩
            · exact ⟨u, List.mem_append_right _ a, b⟩
          · rintro ⟨u, a, b⟩
            rcases List.mem_append.mp a with a | a
            · exact .inl ⟨u, a, b⟩
            · exact .inr ⟨u, a, b⟩
        have hvl : (ws1 ++ ws2).length ≤ 16 := by
          rw [List.length_append]
          omega
        clear hkl ef
        revert hk4 h5 hmem hvl
        generalize ws1 ++ ws2 = vs
        intro hk4 h5 hmem hvl
        refine ⟨_, rfl, fun FD hFD => lc_txt (z := (("abcdefgh" : String) : Str)) (fun c => !decide ([c] ∈ vs)) (fun c => V.str ⟨#[c]⟩) hFD (by decide +kernel) (fun c hc H5 R Sk s5 h1 h2 => ?_) (fun H5 s5 hFD5 => ?_)⟩
        · refine ⟨rfl, _, rfl, _, rfl, k, _, rfl, .inl (SqL.of (s5 _ _ hk4)), rfl, flat_wV _, _, rfl, ?_⟩
          have e : inV (.str (⟨#[c]⟩ : Str)) (vs.map wV) = decide ([c] ∈ vs) := inV_S [c] vs
          rw [if_pos rfl, e]
          by_cases hc : [c] ∈ vs
          · rw [decide_eq_true hc] at h2 ⊢
            exact iteF (h2 rfl _ (Same.refl _))
          · rw [decide_eq_false hc] at h1 ⊢
            exact iteT ⟨_, rfl, h1 rfl _ (Same.refl _)⟩
        · rw [frees_v] at hFD5
          have hk5 := s5 _ _ hk4
          have s45 := s4.trans s5
          have hs5 := s45 _ _ hs3
          have fl : (frees vs).length ≤ 8 := List.length_filter_le _ _
          refine ⟨_, rfl, .inl ⟨rfl, _, SqL.of hs5⟩, _, rfl, _, rfl, _, rfl, FD, _, rfl, SqL.of hFD5, fun q1 hq1 => ?_⟩
          have ec : cutV ((frees vs).map wV) none (some 2) = ((frees vs).take 2).map wV := (cut_toV (m := 2)).trans List.map_take.symm
          rw [ec]
          have sq1 := same_new (o := .lst (((frees vs).take 2).map wV)) hq1
          have tl : ((frees vs).take 2).length ≤ 2 := List.length_take_le _ _
          refine ⟨k, q1, _, _, rfl, rfl, sq1 _ _ hk5, upd_same, by rw [List.length_map, List.length_map]; exact big _ (by omega), fun q2 hq2 => ?_⟩
          have sq2 := sq1.trans (same_new (o := .lst (vs.map wV ++ ((frees vs).take 2).map wV)) hq2)
          have e2 : (upd (upd H5 q1 (.lst (((frees vs).take 2).map wV))) q2 (.lst (vs.map wV ++ ((frees vs).take 2).map wV))) q2 = some (.lst ((vs ++ (frees vs).take 2).map wV)) := by
            rw [upd_same, List.map_append]
          revert sq2 e2
          generalize upd (upd H5 q1 (.lst (((frees vs).take 2).map wV))) q2 (.lst (vs.map wV ++ ((frees vs).take 2).map wV)) = H6
          intro sq2 e2
          refine ⟨by show 1 ≤ sizeLine; decide, fun q3 hq3 => ?_⟩
          have sq3 := same_new (o := .lst [V.str (("zz" : String) : Str)]) hq3
          refine ⟨q2, q3, _, _, rfl, rfl, sq3 _ _ e2, upd_same, by rw [List.length_map, List.length_append]; exact big _ (by show _ + 1 ≤ 1000; omega), fun q4 hq4 => ?_⟩
          have sq4 := sq2.trans (sq3.trans (same_new (o := .lst ((vs ++ (frees vs).take 2).map wV ++ [V.str (("zz" : String) : Str)])) hq4))
          have e4 : (upd (upd H6 q3 (.lst [V.str (("zz" : String) : Str)])) q4 (.lst ((vs ++ (frees vs).take 2).map wV ++ [V.str (("zz" : String) : Str)]))) q4 = some (.lst ((vs ++ (frees vs).take 2 ++ [[122, 122]]).map wV)) := by
            rw [upd_same, zz_t]
            simp only [List.map_append, List.map_cons, List.map_nil]
            rfl
          revert sq4 e4
          generalize upd (upd H6 q3 (.lst [V.str (("zz" : String) : Str)])) q4 (.lst ((vs ++ (frees vs).take 2).map wV ++ [V.str (("zz" : String) : Str)])) = H7
          intro sq4 e4
          refine ⟨q4, vs ++ (frees vs).take 2 ++ [[122, 122]], rfl, e4, by simp only [List.length_append, List.length_cons, List.length_nil]; omega, fun x hx => ?_, fun W L H8 hWs hWl s8 hLn hL8 => ?_⟩
          · simp only [List.mem_append, List.mem_singleton] at hx
            rcases hx with (h | h) | rfl
            · exact n5_word x (h5 x h)
            · exact (let8_pw x (List.mem_filter.mp (List.mem_of_mem_take h)).1).2
            · decide
          · have s38 := s45.trans (sq4.trans s8)
            have hsd8 := s38 _ _ hs3
            have hLsd : L ≠ sd := fun e => by
              rw [e, sq4 _ _ hs5] at hLn
              cases hLn
            have hLH : H L = none := (s3.trans (s45.trans sq4)).free hLn
            have lsl : (ls.map V.ref).length < sizeLine := by
              rw [List.length_map, hls]
              exact Nat.lt_of_lt_of_le hi2 (by decide)
            refine ⟨sd, _, _, rfl, rfl, hsd8, lsl, _, _, _, _, ls ++ [L], rfl, same_upd (s3.trans s38) hsd, ?_, ?_, by rw [List.length_append, hls]; rfl, fun j l hj => ?_⟩
            · rw [upd_ne (fun e => by rw [e, hs3] at htp3; cases htp3)]
              exact s38 _ _ htp3
            · rw [upd_same, List.map_append]
              rfl
            · by_cases hjl : j < ls.length
              · rw [List.getElem?_append_left hjl] at hj
                obtain ⟨W', a, b, c, d, e⟩ := hW j l hj
                exact ⟨W', by rw [upd_ne d]; exact s38 _ _ a, b, c, d, e⟩
              · rw [List.getElem?_append_right (by omega)] at hj
                have hj0 : j = i := by
                  have := (List.getElem?_eq_some_iff.mp hj).1
                  simp only [List.length_cons, List.length_nil] at this
                  omega
                subst hj0
                rw [hls, Nat.sub_self] at hj
                obtain rfl := Option.some.inj hj
                exact ⟨W, by rw [upd_ne hLsd]; exact hL8, wcov_law hmem h5 hWs, hWl, hLsd, hLH⟩
    · rintro σ H3 ⟨o2, o3, o4, o5, ls, rfl, s3, htp3, hs3, hls, hW⟩
      change ls.length = 2 at hls
      obtain ⟨l1, l2, rfl⟩ : ∃ l1 l2, ls = [l1, l2] := by
        match ls, hls with
        | [a, b], _ => exact ⟨a, b, rfl⟩
      obtain ⟨W1, hl1, c1, wl1, _, _⟩ := hW 0 l1 rfl
      obtain ⟨W2, hl2, c2, wl2, _, _⟩ := hW 1 l2 rfl
      obtain ⟨ns1, e1, n91, m1⟩ := vals_l tk1
      obtain ⟨ns2, e2, n92, m2⟩ := vals_l tk2
      have b1 : ns1.length ≤ t1.lvs.length := by
        have := vals_len wLevel t1
        rw [e1, List.length_map] at this
        exact this
      have b2 : ns2.length ≤ t2.lvs.length := by
        have := vals_len wLevel t2
        rw [e2, List.length_map] at this
        exact this
      clear hW htp3 htp2 hs1 hs2 s1 s2
      refine fun d hd => ⟨upd_same, [(.inl 0, .bl true), (.inl 99, .bl true)], rfl, by decide, ?_⟩
      have sd4 := same_upd (o := .dK (mergeK [] [((.inl 0 : Key), V.bl true), (.inl 99, .bl true)])) (same_new (o := .dK []) hd) hd
      have hd4 : (upd (upd H3 d (.dK [])) d (.dK (mergeK [] [((.inl 0 : Key), V.bl true), (.inl 99, .bl true)]))) d = some (.dK (dB [0, 99])) := upd_same
      revert sd4 hd4
      generalize upd (upd H3 d (.dK [])) d (.dK (mergeK [] [((.inl 0 : Key), V.bl true), (.inl 99, .bl true)])) = H4
      intro sd4 hd4
      refine ⟨_, rfl, r, rfl, ⟨_, SqL.of (sd4 _ _ (s3 _ _ hr0))⟩, for_list (K := K) (a := r) (xs := [V.ref p1, .ref p2]) (fun j σ H' => ∃ (o4 o7 o8 : Option V) (ks : List Nat), σ = [some (.ref r), some (.ref sd), o2, o3, o4, o5, some (.ref d), o7, o8, none, none, none, none, none] ∧ Same H3 H' ∧ H' d = some (.dK (dB ks)) ∧ Ks ks ((([ns1, ns2].take j).flatten).flatMap trip))
        ⟨o4, none, none, [0, 99], rfl, sd4, hd4, by decide, fun n => by simp, by simp⟩ (fun j σ H' _ h => by
          obtain ⟨_, _, _, _, _, s', _⟩ := h
          exact SqL.of (s' _ _ (s3 _ _ hr0))) ?_ ?_⟩
      · rintro j v σ H5 hj ⟨o4, o7, o8, ks, rfl, s5, hd5, hk⟩
        obtain ⟨p, t, ns, rfl, ht, hdp, hz, ev, hix, hn9, hnl, hpl⟩ : ∃ (p : Addr) (t : Tr) (ns : List Nat), v = V.ref p ∧ Tre H p t ∧ t.dep < 8 ∧ t.sz ≤ 100 ∧ vals wLevel t = ns.map Sum.inr ∧ [ns1, ns2][j]? = some ns ∧ (∀ n ∈ ns, n ≤ 99) ∧ ns.length ≤ 16 ∧ (([ns1, ns2].take j).flatten).length ≤ 16 := by
          match j, hj with
          | 0, hj => exact ⟨p1, t1, ns1, (Option.some.inj hj).symm, ht1, hd1, hz1, e1, rfl, n91, by omega, by simp⟩
          | 1, hj => exact ⟨p2, t2, ns2, (Option.some.inj hj).symm, ht2, hd2, hz2, e2, rfl, n92, by omega, by simp; omega⟩
          | j + 2, hj => simp at hj
        have et : ([ns1, ns2].take (j + 1)).flatten = ([ns1, ns2].take j).flatten ++ ns := by
          rw [one_more hix, List.flatten_append]
          simp
        rw [et]
        revert hk hpl
        generalize ([ns1, ns2].take j).flatten = A
        intro hk hpl
        refine ⟨_, rfl, p, t, wLevel, congrArg (fun z => [V.ref p, V.str z]) lev_t, by decide, ht.keep (tk_same (s3.trans s5)), hdp, by omega, fun M H6 s6 hMn hM6 => ?_⟩
        rw [ev, vW_n] at hM6
        refine ⟨M, rfl, ⟨_, SqL.of hM6⟩, for_list (K := K) (a := M) (xs := ns.map fun n : Nat => V.int (n : Int)) (fun m σ H' => ∃ (o7 o8 : Option V) (ks : List Nat), σ = [some (.ref r), some (.ref sd), o2, o3, some (.ref p), o5, some (.ref d), o7, o8, none, none, none, none, none] ∧ Same H3 H' ∧ H' M = some (.lst (ns.map fun n : Nat => V.int (n : Int))) ∧ H' d = some (.dK (dB ks)) ∧ Ks ks ((A ++ ns.take m).flatMap trip))
          ⟨o7, o8, ks, rfl, s5.trans s6, hM6, s6 _ _ hd5, by simpa using hk⟩ (fun m σ H' _ h => by
            obtain ⟨_, _, _, _, _, h', _⟩ := h
            exact SqL.of h') ?_ ?_⟩
        · rintro m v σ H7 hm ⟨o7, o8, ks, rfl, s7, hM7, hd7, hk7⟩
          rw [List.getElem?_map] at hm
          cases hx : ns[m]? with
          | none =>
            rw [hx] at hm
            cases hm
          | some k =>
            rw [hx] at hm
            obtain rfl := Option.some.inj hm
            have hk99 := hn9 k (List.mem_of_getElem? hx)
            have ml : m < ns.length := (List.getElem?_eq_some_iff.mp hx).1
            have et2 : (A ++ ns.take (m + 1)).flatMap trip = (A ++ ns.take m).flatMap trip ++ trip k := by
              rw [one_more hx, ← List.append_assoc, List.flatMap_append]
              simp
            rw [et2]
            have lB : ((A ++ ns.take m).flatMap trip).length ≤ 100 := by
              have key : ∀ l : List Nat, (l.flatMap trip).length = 3 * l.length := fun l => by
                induction l with
                | nil => rfl
                | cons a l ih =>
                  rw [List.flatMap_cons, List.length_append, ih, List.length_cons]
                  show 3 + _ = _
                  omega
              rw [key, List.length_append, List.length_take]
              omega
            revert hk7 lB
            generalize (A ++ ns.take m).flatMap trip = B
            intro hk7 lB
            refine ⟨_, rfl, _, _, rfl, rfl, _, rfl, _, rfl, _, _, rfl, rfl, by show 3 ≤ sizeLine; decide, fun tt htt => ?_⟩
            have sT := same_new (o := .tup [V.int ((k : Int) - 1), .int (k : Int), .int ((k : Int) + 1)]) htt
            have hM8 := sT _ _ hM7
            have hd8 := sT _ _ hd7
            have s8 := s7.trans sT
            have ht8 : (upd H7 tt (.tup [V.int ((k : Int) - 1), .int (k : Int), .int ((k : Int) + 1)])) tt = some (.tup [V.int ((k : Int) - 1), .int (k : Int), .int ((k : Int) + 1)]) := upd_same
            clear sT
            revert hM8 hd8 s8 ht8
            generalize upd H7 tt _ = H8
            intro hM8 hd8 s8 ht8
            refine ⟨tt, rfl, ⟨_, sqT_of ht8⟩, for_tup (K := K) (a := tt) (xs := [V.int ((k : Int) - 1), .int (k : Int), .int ((k : Int) + 1)]) (fun z σ H' => ∃ (o8 : Option V) (ks : List Nat), σ = [some (.ref r), some (.ref sd), o2, o3, some (.ref p), o5, some (.ref d), some (.int (k : Int)), o8, none, none, none, none, none] ∧ Same H3 H' ∧ H' M = some (.lst (ns.map fun n : Nat => V.int (n : Int))) ∧ H' tt = some (.tup [V.int ((k : Int) - 1), .int (k : Int), .int ((k : Int) + 1)]) ∧ H' d = some (.dK (dB ks)) ∧ Ks ks (B ++ (trip k).take z))
              ⟨o8, ks, rfl, s8, hM8, ht8, hd8, by simpa using hk7⟩ (fun m σ H' _ h => by
                obtain ⟨_, _, _, _, _, h', _⟩ := h
                exact sqT_of h') ?_ ?_⟩
            · rintro z v σ H9 hz' ⟨o8, ks, rfl, s9, hM9, ht9, hd9, hk9⟩
              obtain ⟨x, n, rfl, hn, hc⟩ : ∃ (x : Int) (n : Nat), v = .int x ∧ (trip k)[z]? = some n ∧ (if (if x > 0 then x else 0) < 99 then (if x > 0 then x else 0) else 99) = (n : Int) := by
                match z, hz' with
                | 0, e => exact ⟨_, k - 1, (Option.some.inj e).symm, rfl, by split <;> split <;> omega⟩
                | 1, e => exact ⟨_, k, (Option.some.inj e).symm, rfl, by split <;> split <;> omega⟩
                | 2, e => exact ⟨_, min 99 (k + 1), (Option.some.inj e).symm, rfl, by split <;> split <;> omega⟩
                | z + 3, e => simp at e
              have kl := hk9.len
              rw [List.length_append] at kl
              have tl3 : ((trip k).take z).length ≤ 3 := List.length_take_le' _ _
              refine ⟨_, rfl, _, rfl, _, _, rfl, _, _, rfl, ?_⟩
              rw [hc]
              refine ⟨d, _, rfl, DPut.k (k := .inl (n : Int)) hd9 (by rw [dB_len]; exact szT (by omega)), ?_⟩
              rw [dB_put]
              refine ⟨_, addK ks n, rfl, same_upd s9 hd, ?_, ?_, upd_same, ?_⟩
              · rw [upd_ne (fun e => by rw [e, hd9] at hM9; cases hM9)]
                exact hM9
              · rw [upd_ne (fun e => by rw [e, hd9] at ht9; cases ht9)]
                exact ht9
              · rw [one_more hn, ← List.append_assoc]
                exact hk9.add n
            · rintro σ H9 ⟨o8, ks, rfl, s9, hM9, ht9, hd9, hk9⟩
              exact ⟨_, _, ks, rfl, s9, hM9, hd9, hk9⟩
        · rintro σ H7 ⟨o7, o8, ks, rfl, s7, hM7, hd7, hk7⟩
          rw [List.length_map, List.take_length] at hk7
          exact ⟨_, _, _, ks, rfl, s7, hd7, hk7⟩
      · rintro σ H5 ⟨o4, o7, o8, ks, rfl, s5, hd5, hk⟩
        change Ks ks (([ns1, ns2].flatten).flatMap trip) at hk
        have ef : [ns1, ns2].flatten = ns1 ++ ns2 := by simp
        rw [ef] at hk
        have hk9 : ∀ k ∈ ns1 ++ ns2, k ≤ 99 := fun k h => (List.mem_append.mp h).elim (n91 k) (n92 k)
        have hkl : ks.length ≤ 50 := by
          have key : ∀ l : List Nat, (l.flatMap trip).length = 3 * l.length := fun l => by
            induction l with
            | nil => rfl
            | cons a l ih =>
              rw [List.flatMap_cons, List.length_append, ih, List.length_cons]
              show 3 + _ = _
              omega
          have := hk.len
          rw [key, List.length_append] at this
          omega
        obtain ⟨L, hLo, hLp⟩ : ∃ L : List Nat, L.Pairwise (· < ·) ∧ L.Perm ks := by
          have hks : ∀ n ∈ ks, n < 100 := fun n hn => by
            rcases (hk.mem n).mp hn with rfl | rfl | h
            · omega
            · omega
            · obtain ⟨k, hk', hn'⟩ := List.mem_flatMap.mp h
              have := hk9 k hk'
              simp only [trip, List.mem_cons, List.not_mem_nil, or_false] at hn'
              omega
          refine ⟨(List.range 100).filter fun n => decide (n ∈ ks), List.pairwise_lt_range.filter _, (List.perm_ext_iff_of_nodup (List.nodup_range.filter _) hk.nd).mpr fun n => ?_⟩
          rw [List.mem_filter, List.mem_range, decide_eq_true_eq]
          exact ⟨fun h => h.2, fun h => ⟨hks n h, h⟩⟩
        have hLs : IsLs (ns1 ++ ns2) L := ⟨hLo, fun n => by
          rw [hLp.mem_iff, hk.mem]
          refine or_congr Iff.rfl (or_congr Iff.rfl ?_)
          rw [List.mem_flatMap]
          refine ⟨fun ⟨k, a, b⟩ => ⟨k, a, by simpa [trip, lvK] using b⟩, fun ⟨k, a, b⟩ => ⟨k, a, by simpa [trip, lvK] using b⟩⟩⟩
        have hmem : ∀ k, k ∈ ns1 ++ ns2 ↔ ∃ t ∈ t1.lvs ++ t2.lvs, t.w = wLevel ∧ t.v = .inr k := fun x => by
          rw [List.mem_append, m1, m2]
          constructor
          · rintro (⟨u, a, b⟩ | ⟨u, a, b⟩)
            · exact ⟨u, List.mem_append_left _ a, b⟩
            · exact ⟨u, List.mem_append_right _ a, b⟩
          · rintro ⟨u, a, b⟩
            rcases List.mem_append.mp a with a | a
            · exact .inl ⟨u, a, b⟩
            · exact .inr ⟨u, a, b⟩
        have cov : Cov (t1.lvs ++ t2.lvs) (prodW W1 W2 L) := cov_prod (fun t ht => (List.mem_append.mp ht).elim (tk1 t) (tk2 t)) c1 c2 (lcov_law hmem hk9 hLs)
        have hLl : L.length ≤ 50 := by
          rw [hLp.length_eq]
          exact hkl
        refine ⟨by show 0 ≤ sizeLine; decide, fun f0 hf0 => ?_⟩
        have s6 := s5.trans (same_new (o := .lst []) hf0)
        have hd6 := same_new (o := .lst []) hf0 _ _ hd5
        have hf6 : (upd H5 f0 (.lst [])) f0 = some (.lst []) := upd_same
        have hfn := s5.free hf0
        have hfd : f0 ≠ d := (ne_of_none hd5 hf0).symm
        revert s6 hd6 hf6
        generalize upd H5 f0 _ = H6
        intro s6 hd6 hf6
        refine ⟨_, rfl, sd, _, _, _, rfl, rfl, SqL.of (s6 _ _ hs3), atI_nat (j := 0) rfl, l1, rfl, ⟨_, SqL.of (s6 _ _ hl1)⟩, for_list (K := K) (a := l1) (xs := W1.map wV) (fun i σ H' => ∃ (oa ob : Option V) (F : Addr) (as : List Addr), σ = [some (.ref r), some (.ref sd), o2, o3, o4, o5, some (.ref d), o7, o8, some (.ref F), oa, ob, none, none] ∧ Same H3 H' ∧ H3 F = none ∧ F ≠ d ∧ H' d = some (.dK (dB ks)) ∧ H' F = some (.lst (as.map V.ref)) ∧ TS H' as (prodW (W1.take i) W2 L) ∧ as.length ≤ 3000 * i)
          ⟨none, none, f0, [], rfl, s6, hfn, hfd, hd6, hf6, trivial, by simp⟩ (fun i σ H' _ h => by
            obtain ⟨_, _, _, _, _, s', _⟩ := h
            exact SqL.of (s' _ _ hl1)) ?_ ?_⟩
        · rintro i v σ H7 hi ⟨oa, ob, F, as, rfl, s7, hFn, hFd, hd7, hF7, hT7, hal⟩
          obtain ⟨a, ha, rfl⟩ := at_map hi
          have hi60 : i < W1.length := (List.getElem?_eq_some_iff.mp ha).1
          refine ⟨_, rfl, sd, _, _, _, rfl, rfl, SqL.of (s7 _ _ hs3), atI_nat (j := 1) rfl, l2, rfl, ⟨_, SqL.of (s7 _ _ hl2)⟩, for_list (K := K) (a := l2) (xs := W2.map wV) (fun j σ H' => ∃ (ob : Option V) (F : Addr) (as : List Addr), σ = [some (.ref r), some (.ref sd), o2, o3, o4, o5, some (.ref d), o7, o8, some (.ref F), some (wV a), ob, none, none] ∧ Same H3 H' ∧ H3 F = none ∧ F ≠ d ∧ H' d = some (.dK (dB ks)) ∧ H' F = some (.lst (as.map V.ref)) ∧ TS H' as (prodW (W1.take i) W2 L ++ rowP L a (W2.take j)) ∧ as.length ≤ 3000 * i + 50 * j)
            ⟨ob, F, as, rfl, s7, hFn, hFd, hd7, hF7, (by rw [show rowP L a (W2.take 0) = [] from rfl, List.append_nil]; exact hT7), by omega⟩ (fun i σ H' _ h => by
              obtain ⟨_, _, _, _, s', _⟩ := h
              exact SqL.of (s' _ _ hl2)) ?_ ?_⟩
          · rintro j v σ H8 hj ⟨ob, F, as, rfl, s8, hFn, hFd, hd8, hF8, hT8, hal⟩
            obtain ⟨b, hb, rfl⟩ := at_map hj
            have hj60 : j < W2.length := (List.getElem?_eq_some_iff.mp hb).1
            refine ⟨d, .dK (dB ks), hd8, trivial, fun od => ?_⟩
            have hd9 : (upd H8 d (.frz od (.dK (dB ks)))) d = some (.frz od (.dK (dB ks))) := upd_same
            have hF9 : (upd H8 d (.frz od (.dK (dB ks)))) F = some (.lst (as.map V.ref)) := by
              rw [upd_ne hFd]
              exact hF8
            have s9 := same_upd (o := .frz od (.dK (dB ks))) s8 hd
            have hT9 := hT8.put (o' := .frz od (.dK (dB ks))) hd8 (fun _ z => nomatch z)
            revert hd9 hF9 s9 hT9
            generalize upd H8 d (.frz od (.dK (dB ks))) = H9
            intro hd9 hF9 s9 hT9
            refine ⟨_, rfl, _, rfl, d, od, rfl, .inl ⟨dB ks, hd9, fun DD hDD => lc_map walk_keys ks (fun n : Nat => V.int (n : Int)) (by rw [dB_len]) ?_ (fun _ => true) (fun n : Nat => V.int (n : Int)) hDD (by rw [dB_len]; exact szT (by omega)) (fun H' s' => s' _ _ hd9) ?_ ?_⟩⟩
            · rintro i H' v H'' ⟨e, k, v', h1, h2⟩
              refine ⟨e, ?_⟩
              unfold dB at h1
              rw [List.getElem?_map] at h1
              cases h3 : ks[i]? with
              | none =>
                rw [h3] at h1
                cases h1
              | some p =>
                rw [h3] at h1
                cases h1
                exact ⟨p, rfl, h2⟩
            · intro n hn H10 R Sk s10 h1 h2
              exact ⟨rfl, _, rfl, .inl ⟨_, rfl, h1 rfl _ (Same.refl _)⟩⟩
            · intro H10 s10 hDD10
              rw [filt1] at hDD10
              have hd10 := s10 _ _ hd9
              have hF10 := s10 _ _ hF9
              have hT10 := hT9.keep s10
              have s310 := s9.trans s10
              have hDD10' : H10 DD = some (.lst ((ks.map fun n : Nat => (n : Int)).map V.int)) := by
                rw [hDD10, List.map_map]
                rfl
              refine ⟨DD, ks.map fun n : Nat => (n : Int), rfl, SqL.of hDD10', fun ns p hperm hpair hp => ?_⟩
              obtain ⟨ms, rfl, hsrt, hpm⟩ := srt_nat hk.nd hperm hpair
              obtain rfl : ms = L := List.Perm.eq_of_pairwise (fun a b _ _ h1 h2 => by omega) hsrt hLo (hpm.trans hLp.symm)
              have sp := same_new (o := .lst ((ms.map fun n : Nat => (n : Int)).map V.int)) hp
              have hd11 := sp _ _ hd10
              have hF11 := sp _ _ hF10
              have hT11 := hT10.keep sp
              have s311 := s310.trans sp
              have hp11 : (upd H10 p (.lst ((ms.map fun n : Nat => (n : Int)).map V.int))) p = some (.lst (ms.map fun n : Nat => V.int (n : Int))) := by
                rw [upd_same, List.map_map]
                rfl
              clear sp
              revert hd11 hF11 hT11 s311 hp11
              generalize upd H10 p _ = H11
              intro hd11 hF11 hT11 s311 hp11
              refine ⟨p, rfl, ⟨_, SqL.of hp11⟩, fun D2 hD2 => lc_grow (walk_list (K := K) (a := p) (xs := ms.map fun n : Nat => V.int (n : Int))) ms (fun n : Nat => V.int (n : Int)) (by simp) (fun i H x H' ⟨e, hx⟩ => ⟨e, by rw [List.getElem?_map] at hx; obtain ⟨z, hz, e2⟩ := Option.map_eq_some_iff.mp hx; exact ⟨z, hz, e2.symm⟩⟩) (fun c => some (⟨a, b, c⟩ : Spt)) PrT (fun H H' v z l hl bb hh => ?_) hD2 (by rw [List.length_map]; exact szT (by omega)) (fun H' s' => SqL.of (s' _ _ hp11)) (fun c hc H12 R Sk s12 h1 h2 => ?_) (fun H12 acc s12 ha2 hp2 hl12 => ?_)⟩
              · obtain ⟨t, e, ht⟩ := hh
                exact ⟨t, e, bb _ _ ht (fun q => by rw [q, hl] at ht; cases ht)⟩
              · exact ⟨rfl, _, rfl, _, rfl, _, rfl, by show 3 ≤ sizeLine; decide, fun t ht => h1 _ _ _ rfl (same_new ht) ⟨t, rfl, upd_same⟩⟩
              · obtain ⟨as2, ea, hT2⟩ := acc_TS hp2
                have ef2 : ms.filterMap (fun c => some (⟨a, b, c⟩ : Spt)) = ms.map fun c => ⟨a, b, c⟩ := by simp
                rw [ha2, ef2] at hT2
                rw [ea] at hl12
                have l2' : as2.length = ms.length := by rw [hT2.len, List.length_map]
                have hd12 := s12 _ _ hd11
                have hF12 := s12 _ _ hF11
                have hT12 := hT11.keep s12
                have s312 := s311.trans s12
                refine ⟨F, D2, _, _, rfl, rfl, hF12, hl12, by rw [List.length_map, List.length_map]; exact Nat.le_trans (show _ ≤ 1000000 by omega) (by decide), fun p2 hp2' => ?_⟩
                have sp2 := same_new (o := .lst (as.map V.ref ++ as2.map V.ref)) hp2'
                have hd13 := sp2 _ _ hd12
                have hT13 := (hT12.app hT2).keep sp2
                have s313 := s312.trans sp2
                have hp2n := s312.free hp2'
                have hp2d : p2 ≠ d := (ne_of_none hd12 hp2').symm
                have hp13 : (upd H12 p2 (.lst (as.map V.ref ++ as2.map V.ref))) p2 = some (.lst ((as ++ as2).map V.ref)) := by
                  rw [upd_same, List.map_append]
                clear sp2
                revert hd13 hT13 s313 hp13
                generalize upd H12 p2 _ = H13
                intro hd13 hT13 s313 hp13
                refine ⟨hd13, _, p2, as ++ as2, rfl, same_upd s313 hd, hp2n, hp2d, upd_same, ?_, ?_, ?_⟩
                · rw [upd_ne hp2d]
                  exact hp13
                · rw [row_more hb, ← List.append_assoc]
                  exact hT13.put hd13 (fun _ z => nomatch z)
                · rw [List.length_append]
                  omega
          · rintro σ H8 ⟨ob, F, as, rfl, s8, hFn, hFd, hd8, hF8, hT8, hal⟩
            rw [List.length_map] at hal
            rw [List.length_map, List.take_length, ← prod_more ha] at hT8
            exact ⟨_, _, F, as, rfl, s8, hFn, hFd, hd8, hF8, hT8, by omega⟩
        · rintro σ H7 ⟨oa, ob, F, as, rfl, s7, hFn, hFd, hd7, hF7, hT7, hal⟩
          rw [List.length_map, List.take_length] at hT7
          have hTl := hT7.len
          rw [List.length_map] at hal
          refine ⟨_, rfl, q _ F as H7 cov (by rw [← hTl]; omega) (s3.trans s7) (s3.free hFn) hF7 hT7⟩
end

/-! ### markers under operations, one by one -/
section
variable {P : Program} {w : World} {K : PySem.W.Frag} {mg : Str → Option Value} {base : Heap} {D : Ad}
open TL SX
section
variable {C a b : Addr} {H : Hp} {f g : Spt → Bool} {n m : Nat} {Q : VK} {E : XK}
theorem eq3 (ha : Mk3 K C H a f n) (hb : Mk3 K C H b g m) (hz : n + m ≤ 100) (k : ∀ r H', (r = true ↔ ∀ p : Spt, p.v ≤ 99 → f p = g p) → Same H H' → Q (.bl r) H') : rOwnD C (fun vs H Q E => spEq3 K C (vs ++ []) H Q E) E (.ref a) (.ref b) H Q :=
  let ⟨dx, fs, ia⟩ := ha.ins; let ⟨dy, gs, ib⟩ := hb.ins; ⟨a, dx, fs, b, dy, gs, rfl, rfl, ia, ib, a, b, f, g, n, m, rfl, ha, hb, hz, k⟩
theorem le3 (ha : Mk3 K C H a f n) (hb : Mk3 K C H b g m) (hz : n + m ≤ 100) (k : ∀ r H', (r = true ↔ ∀ p : Spt, p.v ≤ 99 → f p = true → g p = true) → Same H H' → Q (.bl r) H') : rOwnD C (fun vs H Q E => spLe3 K C (vs ++ []) H Q E) E (.ref a) (.ref b) H Q :=
  let ⟨dx, fs, ia⟩ := ha.ins; let ⟨dy, gs, ib⟩ := hb.ins; ⟨a, dx, fs, b, dy, gs, rfl, rfl, ia, ib, a, b, f, g, n, m, rfl, ha, hb, hz, k⟩
theorem ne3 (ha : Mk3 K C H a f n) (hb : Mk3 K C H b g m) (hz : n + m ≤ 100) (k : ∀ r H', (r = true ↔ ∀ p : Spt, p.v ≤ 99 → f p = g p) → Same H H' → Q (.bl (!r)) H') : rNeOwn C (fun vs H Q E => spEq3 K C (vs ++ []) H Q E) E (.ref a) (.ref b) H Q :=
  let ⟨dx, fs, ia⟩ := ha.ins; let ⟨dy, gs, ib⟩ := hb.ins; ⟨a, dx, fs, b, dy, gs, rfl, rfl, ia, ib, a, b, f, g, n, m, rfl, ha, hb, hz, fun r H' e s => ⟨r, rfl, k r H' e s⟩⟩
theorem bool3 (ha : Mk3 K C H a f n) (hz : n ≤ 100) (k : ∀ r H', (r = true ↔ ∃ p : Spt, p.v ≤ 99 ∧ f p = true) → Same H H' → Q (.bl r) H') : rBoolD C (fun vs H Q E => spBool3 K C (vs ++ []) H Q E) E [.ref a] H Q :=
  let ⟨dx, fs, ia⟩ := ha.ins; ⟨a, dx, fs, rfl, ia, a, f, n, rfl, ha, hz, fun r H' e s => ⟨r, rfl, k r H' e s⟩⟩
/-- two markers that answer alike -/
def mkR (K : PySem.W.Frag) (C : Addr) (a b : Addr) (H : Hp) : Prop := ∃ (f g : Spt → Bool) (n m : Nat), Mk3 K C H a f n ∧ Mk3 K C H b g m ∧ n + m ≤ 100 ∧ ∀ p, f p = g p
theorem mkR_mon : ∀ a b H H', Ext H H' → mkR K C a b H → mkR K C a b H' := fun _ _ _ _ e ⟨f, g, n, m, h1, h2, r⟩ => ⟨f, g, n, m, h1.keep e, h2.keep e, r⟩
theorem dI (ha : Mk3 K C H a f n) (hb : Mk3 K C H b g m) (hz : n + m ≤ 100) (e : ∀ p, f p = g p) : L2.DIns C (mkR K C) (.ref a) (.ref b) H :=
  let ⟨dx, fs, ia⟩ := ha.ins; let ⟨dy, gs, ib⟩ := hb.ins; ⟨a, b, dx, dy, fs, gs, rfl, rfl, ia, ib, f, g, n, m, ha, hb, hz, e⟩
theorem nil_shaped : SeqAt.shaped (.list []) = true := by decide +kernel
theorem ne_nil {x y : Addr} (hx : H x = some (.lst [])) (hy : H y = some (.lst [])) (k : Q (.bl false) H) : L2.rNeD K (.ref x) (.ref y) H Q :=
  ⟨.list [], .list [], .lst (SqL.of hx) .nil, .lst (SqL.of hy) .nil, nil_shaped, nil_shaped, by rw [show PyData.eqv (.list []) (.list []) = true by simp [PyData.eqv, PyData.eqvAll]]; exact k⟩
theorem bL_shaped (bs : List Bool) : SeqAt.shaped (.list (bs.map PyData.bool)) = true := by
  have := bools_dep bs
  have h : (PyData.list (bs.map PyData.bool)).depth ≤ 64 := by
    simp only [PyData.depth]
    omega
  simp [SeqAt.shaped, PyData.canLay0, bools_lay bs]
  exact h
theorem ne_bools {x y : Addr} {xs : List Bool} (hx : H x = some (.lst (xs.map V.bl))) (hy : H y = some (.lst (xs.map V.bl))) (k : Q (.bl false) H) : L2.rNeD K (.ref x) (.ref y) H Q :=
  ⟨_, _, .lst (SqL.of hx) (dp_bools xs), .lst (SqL.of hy) (dp_bools xs), bL_shaped xs, bL_shaped xs, by rw [show PyData.eqv (.list (xs.map PyData.bool)) (.list (xs.map PyData.bool)) = true by rw [show PyData.eqv (.list (xs.map PyData.bool)) (.list (xs.map PyData.bool)) = PyData.eqvAll (xs.map PyData.bool) (xs.map PyData.bool) from rfl, eqv_all]; simp]; exact k⟩
end
def spAp3 (K : PySem.W.Frag) (C : Addr) : Sp := fun vs H Q _ => ∃ (a b : Addr) (f g : Spt → Bool) (n m : Nat), vs = [.ref a, .ref b] ∧ Mk3 K C H a f n ∧ Mk3 K C H b g m ∧ n + m ≤ 100 ∧ ∀ v H', (v = .non ↔ ∀ p : Spt, p.v ≤ 99 → f p = g p) → Same H H' → Q v H'
def spTg3 (K : PySem.W.Frag) (C : Addr) : Sp := fun vs H Q _ => ∃ (t a b : Addr) (f g : Spt → Bool) (n m : Nat), vs = [.ref t] ∧ H t = some (.tup [.ref a, .ref b]) ∧ Mk3 K C H a f n ∧ Mk3 K C H b g m ∧ n + m ≤ 100 ∧ ∀ v H', (v = .non ↔ ¬ ∃ p : Spt, p.v ≤ 99 ∧ (f p && g p) = true) → Same H H' → Q v H'
theorem two_ask {us ws : List Tm} (o1 : Ask us) (o2 : Ask ws) : ∀ u ∈ ([us, ws] : Rws), Ask u := fun u hu => by
  simp only [List.mem_cons, List.not_mem_nil, or_false] at hu
  rcases hu with rfl | rfl
  · exact o1
  · exact o2
theorem ok_Ap3 (T : TexW w K mg D) : FnOk P w K mg base CX0 12 D.a_apart D.d_apart P_apart (spAp3 K D.a_Marker) := (ok_apart T).imp fun vs H Q E h => by
  obtain ⟨a, b, f, g, n, m, rfl, ⟨us, ma, aa, fa, la, na⟩, ⟨ws, mb, ab, fb, lb, nb⟩, hz, q⟩ := h
  have ok := two_ask aa ab
  refine ⟨a, b, us, ws, rfl, ma, mb, aa, ab, by omega, fun sps hsp H1 s1 => ⟨fun hno => q .non H1 ⟨fun _ y hy => ?_, fun _ => rfl⟩ s1, fun z pre post e he h1 h2 _ hE => q (.ref e) H1 ⟨fun k => (nomatch k), fun k => ?_⟩ s1⟩⟩
  · obtain ⟨z, hz, ez⟩ := ans_cover hsp ok y hy
    have e1 : ansB us z = ansB us y ∧ ansB ws z = ansB ws y := by simpa [ansL] using ez
    have := Decidable.not_not.mp (hno z hz)
    rw [← fa, ← fb, ← e1.1, ← e1.2]
    exact this
  · have hv := sp_valid hsp (ask_tm ok) (by simp; omega) (p := z) (by rw [he]; simp)
    exact absurd (by rw [fa, fb]; exact k z hv.2.2) h2
theorem ok_eqM (T : TexW w K mg D) : FnOk P w K mg base CX0 10 D.a_Marker_eq D.d_Marker_eq P_Marker_eq (L2.spEq (mkR K D.a_Marker)) := (ok_Eq3 T).imp fun vs H Q E h => by
  obtain ⟨a, b, rfl, ⟨f, g, n, m, h1, h2, hz, e⟩, q⟩ := h
  refine ⟨a, b, f, g, n, m, rfl, h1, h2, hz, fun r H' hr s => ?_⟩
  obtain rfl : r = true := hr.mpr fun p _ => e p
  exact q H' s
theorem nil_to {σ : L2.St} {H : Hp} {k : List V → Hp → Prop} (h : k [] H) : tNil σ H k := h
/-- a value's middle -/
theorem val_mid {Q : VK} {G : VK → Prop} (W : V → Hp → Prop) (rest : ∀ v H', W v H' → Q v H') (h : ∀ Q' : VK, (∀ v H', W v H' → Q' v H') → G Q') : G Q := h Q rest
end

/-! ### environments, markers and other things, the same in other words -/
section
variable {P : Program} {w : World} {K : PySem.W.Frag} {mg : Str → Option Value} {base : Heap} {D : Ad}
open TL SX
theorem okOr' {k : Nat} {f : Addr} {fd : FuncData} {ps : List Str} {sp sp' : Sp} (F : FnOk P w K mg base CX0 k f fd ps sp) (G : FnOk P w K mg base CX0 k f fd ps sp') : FnOk P w K mg base CX0 k f fd ps (fun vs H Q E => sp vs H Q E ∨ sp' vs H Q E) :=
  ⟨fun vs H Q E h => h.elim (F.len vs H Q E) (G.len vs H Q E), fun A outer s H args us vs Q E hr he hb hv hs => hs.elim (F.run A outer s H args us vs Q E hr he hb hv) (G.run A outer s H args us vs Q E hr he hb hv)⟩
def spEnvS (C : Addr) : Sp := fun vs H Q _ => ∃ (b : Addr) (p : Spt), vs = [.ref b] ∧ H b = some (.tup (spW p)) ∧ Vld p ∧ ∀ a H', Same H H' → H a = none → Env C H' a p.s p.m p.v → Q (.ref a) H'
theorem ok_environmentS (T : TexW w K mg D) : FnOk P w K mg base CX0 8 D.a_environment D.d_environment P_environment (spEnvS D.a_Environment) := by
  have G_Environment_init : FnOk P w K mg base (L2.CX P w) 5 D.a_Environment_init D.d_Environment_init P_Environment_init (spEInit K D.a_Environment D.a_BadEnvironment) := ok_Environment_init T
  refine T.environment_F.ok S_environment (fun vs H Q E h => ?_) (fun cdv A outer s H vs Q E hr h => ?_)
  · obtain ⟨b, p, rfl, _⟩ := h
    rfl
  · obtain ⟨b, p, rfl, hp, hv, q⟩ := h
    refine ⟨_, (pss_one (ps_ret (pe_makeKS T.Environment_mk G_Environment_init (hr.mono (by decide)) rfl T.Environment_g (T.Environment_init_km_system_machine_level).choose_spec (fun σ pins H s e s' => passL pins σ H s e s') (pk_cons (pe_ix ix_tup (pv 0) pe_int (fun _ _ => rfl)) (pk_cons (pe_ix ix_tup (pv 0) pe_int (fun _ _ => rfl)) (pk_cons (pe_ix ix_tup (pv 0) pe_int (fun _ _ => rfl)) pk_nil)))))), ?_⟩
    refine ⟨_, rfl, b, _, _, _, rfl, rfl, sqT_of hp, rfl, _, rfl, b, _, _, _, rfl, rfl, sqT_of hp, rfl, _, rfl, b, _, _, _, rfl, rfl, sqT_of hp, rfl, rfl, fun x dx hx hdx hne => ?_⟩
    exact ⟨x, dx, _, _, _, rfl, upd_same, .inl ⟨p.s, p.m, p.v, rfl, rfl, rfl, hv.s, hv.m, hv.v, fun H2 s2 => ⟨rfl, q x _ (made_same hx hdx s2) hx ⟨dx, upd_same⟩⟩⟩⟩
def spEqO (K : PySem.W.Frag) (C : Addr) : Sp := fun vs H Q _ => ∃ (a dx : Addr) (fs : List (Str × V)) (y : V) (t : Value), vs = [.ref a, y] ∧ H a = some (.ins C dx fs) ∧ TyX K H y t ∧ PySem.W.kitOne K t (.ref C) = some false ∧ Q (.bl false) H
theorem ok_EqO (T : TexW w K mg D) : FnOk P w K mg base CX0 10 D.a_Marker_eq D.d_Marker_eq P_Marker_eq (spEqO K D.a_Marker) := by
  have G_first_spot : FnOk P w K mg base CX0 8 D.a_first_spot D.d_first_spot P_first_spot (spFirst K) := ok_first_spot T
  refine T.Marker_eq_F.ok S_Marker_eq (fun vs H Q E h => ?_) (fun cdv A outer s H vs Q E hr h => ?_)
  · obtain ⟨a, dx, fs, y, t, rfl, _⟩ := h
    rfl
  · obtain ⟨a, dx, fs, y, t, rfl, ha, ty, hk, q⟩ := h
    refine ⟨_, (pss_cons (ps_if (pt_not (pt_val (pe_callB call_isi (by rfl) T.b_isinstance (by decide +kernel) (pa_cons (pv 1) (pa_cons (pe_glob (v := .ref D.a_Marker) rfl T.Marker_g rfl) pa_nil))))) (pss_one (ps_ret pe_bl)) pss_nil)
      (pss_one (ps_ret (pe_cmpR op_isN (pe_call G_first_spot (hr.mono (by decide)) (by rfl) T.first_spot_g T.first_spot_F.kp T.first_spot_b .nil pass0 (pa_cons (pe_tup (pa_cons (pe_fld (pv 0) rfl) (pa_cons (pe_fld (pv 1) rfl) pa_nil))) (pa_cons (pe_tup (pa_cons (pe_tup (pa_cons pe_bl (pa_cons pe_bl pa_nil))) (pa_cons (pe_tup (pa_cons pe_bl (pa_cons pe_bl pa_nil))) pa_nil))) pa_nil))) pe_non (nomark _))))), ?_⟩
    exact ⟨_, rfl, _, _, _, _, false, rfl, .own _, ty, hk, _, rfl, iteT q⟩
def spEqA (K : PySem.W.Frag) (C : Addr) : Sp := fun vs H Q E => spEq3 K C vs H Q E ∨ spEqO K C vs H Q E
theorem ok_EqA (T : TexW w K mg D) : FnOk P w K mg base CX0 10 D.a_Marker_eq D.d_Marker_eq P_Marker_eq (spEqA K D.a_Marker) := okOr' (ok_Eq3 T) (ok_EqO T)
section
variable {C a b : Addr} {H : Hp} {f g : Spt → Bool} {n m : Nat} {Q : VK} {E : XK}
theorem eqA (ha : Mk3 K C H a f n) (hb : Mk3 K C H b g m) (hz : n + m ≤ 100) (k : ∀ r H', (r = true ↔ ∀ p : Spt, p.v ≤ 99 → f p = g p) → Same H H' → Q (.bl r) H') : rOwnD C (fun vs H Q E => spEqA K C (vs ++ []) H Q E) E (.ref a) (.ref b) H Q :=
  let ⟨dx, fs, ia⟩ := ha.ins; let ⟨dy, gs, ib⟩ := hb.ins; ⟨a, dx, fs, b, dy, gs, rfl, rfl, ia, ib, .inl ⟨a, b, f, g, n, m, rfl, ha, hb, hz, k⟩⟩
theorem neA (ha : Mk3 K C H a f n) (hb : Mk3 K C H b g m) (hz : n + m ≤ 100) (k : ∀ r H', (r = true ↔ ∀ p : Spt, p.v ≤ 99 → f p = g p) → Same H H' → Q (.bl (!r)) H') : rNeOwn C (fun vs H Q E => spEqA K C (vs ++ []) H Q E) E (.ref a) (.ref b) H Q :=
  let ⟨dx, fs, ia⟩ := ha.ins; let ⟨dy, gs, ib⟩ := hb.ins; ⟨a, dx, fs, b, dy, gs, rfl, rfl, ia, ib, .inl ⟨a, b, f, g, n, m, rfl, ha, hb, hz, fun r H' e s => ⟨r, rfl, k r H' e s⟩⟩⟩
end
/-- two environments that are the same -/
def enR (C : Addr) (a b : Addr) (H : Hp) : Prop := ∃ (s m : Txt) (v : Nat), Env C H a s m v ∧ Env C H b s m v
theorem enR_mon {C : Addr} : ∀ a b H H', Ext H H' → enR C a b H → enR C a b H' := fun _ _ _ _ e ⟨s, m, v, ⟨dx, ha⟩, ⟨dy, hb⟩⟩ => ⟨s, m, v, ⟨dx, e _ _ ha⟩, ⟨dy, e _ _ hb⟩⟩
theorem ok_eqE (T : TexW w K mg D) : FnOk P w K mg base CX0 1 D.a_Environment_eq D.d_Environment_eq P_Environment_eq (L2.spEq (enR D.a_Environment)) := (ok_Environment_eq T).imp fun vs H Q E h => by
  obtain ⟨a, b, rfl, ⟨s, m, v, ha, hb⟩, q⟩ := h
  refine ⟨a, s, m, v, _, rfl, ha, .inl ⟨b, s, m, v, rfl, hb, ?_⟩⟩
  rw [decide_eq_true rfl]
  exact q H Ext.rfl'
theorem Tre.bi_or {H : Hp} {p : Addr} {t : Tr} (h : Tre H p t) : (∃ o p1 p2 t1 t2, t = .bi o t1 t2 ∧ H p = some (.tup [.str (S (wOp o)), .ref p1, .ref p2]) ∧ Tre H p1 t1 ∧ Tre H p2 t2) ∨ ∃ xs s, H p = some (.tup (.str (S s) :: xs)) ∧ decide (s ∈ ([wAnd, wOr] : List Txt)) = false := by
  cases h with
  | all b h => exact .inr ⟨_, [97, 108, 108], h, by decide⟩
  | is h hf => exact .inr ⟨_, [105, 115], h, by decide⟩
  | no h r => exact .inr ⟨_, wNot, h, by decide⟩
  | bi h x y => exact .inl ⟨_, _, _, _, _, rfl, h, x, y⟩
def spSame : Sp := fun vs H Q _ => ∃ (d p c m : Nat) (t : Tr), vs = [.ref d, .ref p] ∧ Dr H d c m ∧ m ≤ 80000000000 ∧ Tre H p t ∧ t.dep ≤ 2 ∧ t.sz ≤ 7 ∧ (∀ x ∈ t.lvs, G5 x) ∧
  ∀ p' t' H', Tre H' p' t' → (∀ x ∈ t'.lvs, G5 x) → t'.sz ≤ 15 → t'.dep ≤ 4 → But d H H' → Dr H' d c (m + 1) → Q (.ref p') H'
theorem ok_same (T : TexW w K mg D) : FnOk P w K mg base CX0 8 D.a_same D.d_same P_same spSame := by
  have G_next : FnOk P w K mg base CX0 2 D.a_next D.d_next P_next spNext := ok_next T
  refine T.same_F.ok S_same (fun vs H Q E h => ?_) (fun cdv A outer s H vs Q E hr h => ?_)
  · obtain ⟨d, p, c, m, t, rfl, _⟩ := h
    rfl
  · obtain ⟨d, p, c, m, t, rfl, hD, hm, ht, hd, hz, hg, q⟩ := h
    have hu := hu_of hr
    refine ⟨_, (pss_cons (ps_set (i := 2) S_same.nd rfl (Or.inl rfl) (pe_call G_next (hr.mono (by decide)) (by rfl) T.next_g T.next_F.kp T.next_b .nil pass0 (pa_cons (pv 0) (pa_cons pe_int pa_nil))))
      (pss_cons (ps_if (pt_cmpR op_eq (pv 2) pe_int (nomark _)) (pss_one (ps_ret (pe_tup (pa_cons pe_str (pa_cons (pe_tup (pa_cons pe_str (pa_cons (pv 1) pa_nil))) pa_nil))))) pss_nil)
      (pss_cons (ps_if (PW.pt (pw_and (pt_cmpR op_eq (pv 2) pe_int (nomark _)) (pw_and1 (pt_cmpR op_in_seq (pe_ix ix_tup (pv 1) pe_int (fun _ _ => rfl)) (pe_tup (pa_cons pe_str (pa_cons pe_str pa_nil))) rfl)))) (pss_one (ps_ret (pe_tup (pa_cons pe_str (pa_cons (pe_tup (pa_cons (pe_dget hu (pe_disp (pps_cons pe_str pe_str (pps_cons pe_str pe_str pps_nil)) (by rfl) (by rfl) (fun z => by cases z) (by decide)) (pe_ix ix_tup (pv 1) pe_int (fun _ _ => rfl)) (fun _ _ => rfl)) (pa_cons (pe_tup (pa_cons pe_str (pa_cons (pe_ix ix_tup (pv 1) pe_int (fun _ _ => rfl)) pa_nil))) (pa_cons (pe_tup (pa_cons pe_str (pa_cons (pe_ix ix_tup (pv 1) pe_int (fun _ _ => rfl)) pa_nil))) pa_nil)))) pa_nil))))) pss_nil)
      (pss_cons (ps_if (pt_cmpR op_eq (pv 2) pe_int (nomark _)) (pss_one (ps_ret (pe_tup (pa_cons pe_str (pa_cons (pv 1) (pa_cons (pe_tup (pa_cons pe_str (pa_cons pe_str (pa_cons pe_str (pa_cons pe_int pa_nil))))) pa_nil)))))) pss_nil)
      (pss_cons (ps_if (PW.pt (pw_and (pt_cmpR op_eq (pv 2) pe_int (nomark _)) (pw_and1 (pt_cmpR op_in_seq (pe_ix ix_tup (pv 1) pe_int (fun _ _ => rfl)) (pe_tup (pa_cons pe_str (pa_cons pe_str pa_nil))) rfl)))) (pss_one (ps_ret (pe_tup (pa_cons (pe_ix ix_tup (pv 1) pe_int (fun _ _ => rfl)) (pa_cons (pe_ix ix_tup (pv 1) pe_int (fun _ _ => rfl)) (pa_cons (pe_ix ix_tup (pv 1) pe_int (fun _ _ => rfl)) pa_nil)))))) pss_nil)
      (pss_cons (ps_if (pt_cmpR op_eq (pv 2) pe_int (nomark _)) (pss_one (ps_ret (pe_tup (pa_cons pe_str (pa_cons (pe_tup (pa_cons pe_str (pa_cons (pe_tup (pa_cons pe_str (pa_cons pe_str (pa_cons pe_str (pa_cons pe_int pa_nil))))) (pa_cons (pe_tup (pa_cons pe_str (pa_cons pe_str (pa_cons pe_str (pa_cons pe_int pa_nil))))) pa_nil)))) (pa_cons (pv 1) pa_nil)))))) pss_nil)
      (pss_one (ps_ret (pe_tup (pa_cons pe_str (pa_cons (pv 1) (pa_cons (pv 1) pa_nil)))))))))))), ?_⟩
    refine ⟨_, rfl, d, c, 6, m, rfl, hD, by omega, by decide, by decide, fun z H1 z0 z1 d1 b1 => ?_⟩
    obtain ⟨j, rfl⟩ := Int.eq_ofNat_of_zero_le z0
    have ht1 := ht.keep (tk_but hD b1)
    have jn : ∀ i : Nat, decide (V.int ((j : Nat) : Int) = V.int ((i : Nat) : Int)) = decide (j = i) := fun i => decide_eq_decide.mpr ⟨fun e => by
      have := V.int.inj e
      omega, fun e => by rw [e]⟩
    have fin : ∀ (p' : Addr) (t' : Tr) (H' : Hp), Same H1 H' → Tre H' p' t' → (∀ x ∈ t'.lvs, G5 x) → t'.sz ≤ 15 → t'.dep ≤ 4 → Q (.ref p') H' := fun p' t' H' s' a b c' e => q p' t' H' a b c' e (b1.trans (fun x o e _ => s' x o e)) (d1.keep s')
    refine ⟨_, rfl, rfl, _, rfl, ?_⟩
    rw [show decide (V.int ((j : Nat) : Int) = V.int 0) = decide (j = 0) from jn 0]
    have gB : ∀ (o : Bool) {x y : Tr}, (∀ z ∈ x.lvs, G5 z) → (∀ z ∈ y.lvs, G5 z) → ∀ z ∈ (Tr.bi o x y).lvs, G5 z := fun o x y hx hy z hz => (List.mem_append.mp hz).elim (hx z) (hy z)
    have gl : ∀ (sg : Txt) (n : Nat), sg ∈ lvSigns → n ∈ lev7 → ∀ x ∈ (Tr.lf ⟨wLevel, sg, .inr n⟩).lvs, G5 x := fun sg n h1 h2 x hx => by
      have : x = ⟨wLevel, sg, .inr n⟩ := by simpa [Tr.lvs] using hx
      rw [this]
      exact g5_lev h1 h2
    have lf : ∀ {H' : Hp} {p' : Addr} {sg : Txt} {n : Nat}, H' p' = some (.tup [.str (("is" : String) : Str), .str (("level" : String) : Str), .str (S sg), .int ((n : Nat) : Int)]) → Tre H' p' (.lf ⟨wLevel, sg, .inr n⟩) := fun {H' p' sg n} h => .is (f := wLevel) (v := .inr n) (by rw [h, lev_t]; rfl) (by decide)
    refine ite2 (fun h0 => ?_) (fun h0 => ?_)
    · refine ⟨_, rfl, by show 2 ≤ sizeLine; decide, fun q1 hq1 => ⟨by show 2 ≤ sizeLine; decide, fun q2 hq2 => ?_⟩⟩
      have s1 := same_new (o := .tup [V.str (("not" : String) : Str), .ref p]) hq1
      have s2 := same_new (o := .tup [V.str (("not" : String) : Str), .ref q1]) hq2
      exact fin q2 (.no (.no t)) _ (s1.trans s2) (.no upd_same (.no (s2 _ _ upd_same) (ht1.keep (tk_same (s1.trans s2))))) hg (by show t.sz + 1 + 1 ≤ 15; omega) (by show t.dep + 1 + 1 ≤ 4; omega)
    · refine ⟨_, rfl, rfl, _, rfl, ?_⟩
      rw [show decide (V.int ((j : Nat) : Int) = V.int 1) = decide (j = 1) from jn 1]
      by_cases h1 : j = 1
      · rw [decide_eq_true h1]
        rcases ht1.bi_or with ⟨o, p1, p2, t1, t2, rfl, hx, x1, x2⟩ | ⟨xs, w0, hx, hw0⟩
        · skip
          refine iteT ⟨_, rfl, p, _, _, _, rfl, rfl, sqT_of hx, rfl, by show 2 ≤ sizeLine; decide, fun r2 hr2 => ⟨r2, _, rfl, .inr (sqT_of upd_same), rfl, rfl, _, rfl, ?_⟩⟩
          have sr := same_new (o := .tup (([wAnd, wOr] : List Txt).map fun l => V.str (S l))) hr2
          rw [ao_v, if_neg (by decide : ¬ (false = true)), inV_S, (by cases o <;> decide : decide (wOp o ∈ ([wAnd, wOr] : List Txt)) = true)]
          have hx2 := sr _ _ hx
          revert sr hx2
          generalize upd H1 r2 _ = H2
          intro sr hx2
          refine iteT ?_
          refine fun dd hdd => ⟨upd_same, [(.inr "and", .str "or"), (.inr "or", .str "and")], rfl, by decide, ?_⟩
          have sd := same_upd (o := .dK (mergeK [] [((.inr "and" : Key), V.str "or"), (.inr "or", .str "and")])) (same_new (o := .dK []) hdd) hdd
          have hd3 : (upd (upd H2 dd (.dK [])) dd (.dK (mergeK [] [((.inr "and" : Key), V.str "or"), (.inr "or", .str "and")]))) dd = some (.dK [(.inr "and", .str "or"), (.inr "or", .str "and")]) := upd_same
          have hx3 := sd _ _ hx2
          have s13 := sr.trans sd
          revert sd hd3 hx3 s13
          generalize upd (upd H2 dd (.dK [])) dd (.dK (mergeK [] [((.inr "and" : Key), V.str "or"), (.inr "or", .str "and")])) = H3
          intro sd hd3 hx3 s13
          refine ⟨_, rfl, p, _, _, _, rfl, rfl, sqT_of hx3, rfl, dd, .str (S (wOp (!o))), rfl, ?_, ?_⟩
          · cases o with
            | true => exact DGet.k (k := .inr "and") hd3
            | false => exact DGet.k (k := .inr "or") hd3
          refine ⟨_, rfl, p, _, _, _, rfl, rfl, sqT_of hx3, rfl, by show 2 ≤ sizeLine; decide, fun q1 hq1 => ?_⟩
          have s4 := same_new (o := .tup [V.str (("not" : String) : Str), .ref p1]) hq1
          refine ⟨_, rfl, p, _, _, _, rfl, rfl, sqT_of (s4 _ _ hx3), rfl, by show 2 ≤ sizeLine; decide, fun q2 hq2 => ⟨by show 3 ≤ sizeLine; decide, fun q3 hq3 => ⟨by show 2 ≤ sizeLine; decide, fun q4 hq4 => ?_⟩⟩⟩
          have s5 := same_new (o := .tup [V.str (("not" : String) : Str), .ref p2]) hq2
          have s6 := same_new (o := .tup [V.str (S (wOp (!o))), .ref q1, .ref q2]) hq3
          have s7 := same_new (o := .tup [V.str (("not" : String) : Str), .ref q3]) hq4
          have s57 := s5.trans (s6.trans s7)
          have s17 := s13.trans (s4.trans s57)
          have zz : (Tr.bi o t1 t2).sz = t1.sz + t2.sz + 1 := rfl
          have dz : (Tr.bi o t1 t2).dep = max t1.dep t2.dep + 1 := rfl
          exact fin q4 (.no (.bi (!o) (.no t1) (.no t2))) _ s17 (.no upd_same (.bi (s7 _ _ upd_same) (.no (s57 _ _ upd_same) (x1.keep (tk_same s17))) (.no ((s6.trans s7) _ _ upd_same) (x2.keep (tk_same s17))))) hg (by show (t1.sz + 1) + (t2.sz + 1) + 1 + 1 ≤ 15; omega) (by show max (t1.dep + 1) (t2.dep + 1) + 1 + 1 ≤ 4; omega)
        · skip
          refine iteT ⟨_, rfl, p, _, _, _, rfl, rfl, sqT_of hx, (show atI (V.str (S w0) :: xs) ((0 : Nat) : Int) = some (V.str (S w0)) from atI_nat rfl), by show 2 ≤ sizeLine; decide, fun r2 hr2 => ⟨r2, _, rfl, .inr (sqT_of upd_same), rfl, rfl, _, rfl, ?_⟩⟩
          have sr := same_new (o := .tup (([wAnd, wOr] : List Txt).map fun l => V.str (S l))) hr2
          rw [ao_v, if_neg (by decide : ¬ (false = true)), inV_S, hw0]
          have hx2 := sr _ _ hx
          revert sr hx2
          generalize upd H1 r2 _ = H2
          intro sr hx2
          refine iteF ?_
          refine ⟨_, rfl, rfl, _, rfl, ?_⟩
          rw [show decide (V.int ((j : Nat) : Int) = V.int 2) = false from (jn 2).trans (decide_eq_false (by omega))]
          refine iteF ⟨_, rfl, rfl, _, rfl, ?_⟩
          rw [show decide (V.int ((j : Nat) : Int) = V.int 3) = false from (jn 3).trans (decide_eq_false (by omega))]
          refine iteF ⟨_, rfl, rfl, _, rfl, ?_⟩
          rw [show decide (V.int ((j : Nat) : Int) = V.int 4) = false from (jn 4).trans (decide_eq_false (by omega))]
          refine iteF ?_
          refine ⟨_, rfl, _, rfl, by show 3 ≤ sizeLine; decide, fun q1 hq1 => ?_⟩
          have k1 := (sr).trans (same_new (o := .tup [V.str (("and" : String) : Str), .ref p, .ref p]) hq1)
          exact fin q1 (.bi true t t) _ k1 (.bi (a := true) upd_same (ht1.keep (tk_same k1)) (ht1.keep (tk_same k1))) (gB true hg hg) (by show t.sz + t.sz + 1 ≤ 15; omega) (by show max t.dep t.dep + 1 ≤ 4; omega)
      · rw [decide_eq_false h1]
        refine iteF ?_
        refine ⟨_, rfl, rfl, _, rfl, ?_⟩
        rw [show decide (V.int ((j : Nat) : Int) = V.int 2) = decide (j = 2) from jn 2]
        refine ite2 (fun h2 => ?_) (fun h2 => ?_)
        · refine ⟨_, rfl, by show 4 ≤ sizeLine; decide, fun q1 hq1 => ⟨by show 3 ≤ sizeLine; decide, fun q2 hq2 => ?_⟩⟩
          have s1 := same_new (o := .tup [V.str (("is" : String) : Str), .str (("level" : String) : Str), .str (("<" : String) : Str), .int 0]) hq1
          have s2 := same_new (o := .tup [V.str (("or" : String) : Str), .ref p, .ref q1]) hq2
          exact fin q2 (.bi false t (.lf ⟨wLevel, [60], .inr 0⟩)) _ (s1.trans s2) (.bi (a := false) upd_same (ht1.keep (tk_same (s1.trans s2))) (lf (s2 _ _ upd_same))) (gB false hg (gl _ _ (by decide) (by decide))) (by show t.sz + 1 + 1 ≤ 15; omega) (by show max t.dep 0 + 1 ≤ 4; omega)
        · refine ⟨_, rfl, rfl, _, rfl, ?_⟩
          rw [show decide (V.int ((j : Nat) : Int) = V.int 3) = decide (j = 3) from jn 3]
          by_cases h3 : j = 3
          · rw [decide_eq_true h3]
            rcases ht1.bi_or with ⟨o, p1, p2, t1, t2, rfl, hx, x1, x2⟩ | ⟨xs, w0, hx, hw0⟩
            · skip
              refine iteT ⟨_, rfl, p, _, _, _, rfl, rfl, sqT_of hx, rfl, by show 2 ≤ sizeLine; decide, fun r2 hr2 => ⟨r2, _, rfl, .inr (sqT_of upd_same), rfl, rfl, _, rfl, ?_⟩⟩
              have sr := same_new (o := .tup (([wAnd, wOr] : List Txt).map fun l => V.str (S l))) hr2
              rw [ao_v, if_neg (by decide : ¬ (false = true)), inV_S, (by cases o <;> decide : decide (wOp o ∈ ([wAnd, wOr] : List Txt)) = true)]
              have hx2 := sr _ _ hx
              revert sr hx2
              generalize upd H1 r2 _ = H2
              intro sr hx2
              refine iteT ⟨_, rfl, p, _, _, _, rfl, rfl, sqT_of hx2, rfl, _, rfl, p, _, _, _, rfl, rfl, sqT_of hx2, rfl, _, rfl, p, _, _, _, rfl, rfl, sqT_of hx2, rfl, by show 3 ≤ sizeLine; decide, fun q1 hq1 => ?_⟩
              have k1 := sr.trans (same_new (o := .tup [V.str (S (wOp o)), .ref p2, .ref p1]) hq1)
              have zz : (Tr.bi o t1 t2).sz = t1.sz + t2.sz + 1 := rfl
              have dz : (Tr.bi o t1 t2).dep = max t1.dep t2.dep + 1 := rfl
              exact fin q1 (.bi o t2 t1) _ k1 (.bi upd_same (x2.keep (tk_same k1)) (x1.keep (tk_same k1))) (gB o (fun z h => hg z (List.mem_append_right _ h)) (fun z h => hg z (List.mem_append_left _ h))) (by show t2.sz + t1.sz + 1 ≤ 15; omega) (by show max t2.dep t1.dep + 1 ≤ 4; omega)
            · skip
              refine iteT ⟨_, rfl, p, _, _, _, rfl, rfl, sqT_of hx, (show atI (V.str (S w0) :: xs) ((0 : Nat) : Int) = some (V.str (S w0)) from atI_nat rfl), by show 2 ≤ sizeLine; decide, fun r2 hr2 => ⟨r2, _, rfl, .inr (sqT_of upd_same), rfl, rfl, _, rfl, ?_⟩⟩
              have sr := same_new (o := .tup (([wAnd, wOr] : List Txt).map fun l => V.str (S l))) hr2
              rw [ao_v, if_neg (by decide : ¬ (false = true)), inV_S, hw0]
              have hx2 := sr _ _ hx
              revert sr hx2
              generalize upd H1 r2 _ = H2
              intro sr hx2
              refine iteF ⟨_, rfl, rfl, _, rfl, ?_⟩
              rw [show decide (V.int ((j : Nat) : Int) = V.int 4) = false from (jn 4).trans (decide_eq_false (by omega))]
              refine iteF ?_
              refine ⟨_, rfl, _, rfl, by show 3 ≤ sizeLine; decide, fun q1 hq1 => ?_⟩
              have k1 := (sr).trans (same_new (o := .tup [V.str (("and" : String) : Str), .ref p, .ref p]) hq1)
              exact fin q1 (.bi true t t) _ k1 (.bi (a := true) upd_same (ht1.keep (tk_same k1)) (ht1.keep (tk_same k1))) (gB true hg hg) (by show t.sz + t.sz + 1 ≤ 15; omega) (by show max t.dep t.dep + 1 ≤ 4; omega)
          · rw [decide_eq_false h3]
            refine iteF ⟨_, rfl, rfl, _, rfl, ?_⟩
            rw [show decide (V.int ((j : Nat) : Int) = V.int 4) = decide (j = 4) from jn 4]
            refine ite2 (fun h4 => ?_) (fun h4 => ?_)
            · refine ⟨by show 4 ≤ sizeLine; decide, fun q1 hq1 => ⟨by show 4 ≤ sizeLine; decide, fun q2 hq2 => ⟨by show 3 ≤ sizeLine; decide, fun q3 hq3 => ⟨_, rfl, by show 3 ≤ sizeLine; decide, fun q4 hq4 => ?_⟩⟩⟩⟩
              have s1 := same_new (o := .tup [V.str (("is" : String) : Str), .str (("level" : String) : Str), .str (("<" : String) : Str), .int 50]) hq1
              have s2 := same_new (o := .tup [V.str (("is" : String) : Str), .str (("level" : String) : Str), .str ((">=" : String) : Str), .int 50]) hq2
              have s3 := same_new (o := .tup [V.str (("or" : String) : Str), .ref q1, .ref q2]) hq3
              have s4 := same_new (o := .tup [V.str (("and" : String) : Str), .ref q3, .ref p]) hq4
              have s24 := s2.trans (s3.trans s4)
              exact fin q4 (.bi true (.bi false (.lf ⟨wLevel, [60], .inr 50⟩) (.lf ⟨wLevel, [62, 61], .inr 50⟩)) t) _ (s1.trans s24) (.bi (a := true) upd_same (.bi (a := false) (s4 _ _ upd_same) (lf (s24 _ _ upd_same)) (lf ((s3.trans s4) _ _ upd_same))) (ht1.keep (tk_same (s1.trans s24)))) (gB true (gB false (gl _ _ (by decide) (by decide)) (gl _ _ (by decide) (by decide))) hg) (by show 1 + 1 + 1 + t.sz + 1 ≤ 15; omega) (by show max (max 0 0 + 1) t.dep + 1 ≤ 4; omega)
            · skip
              refine ⟨_, rfl, _, rfl, by show 3 ≤ sizeLine; decide, fun q1 hq1 => ?_⟩
              have k1 := (Same.refl H1).trans (same_new (o := .tup [V.str (("and" : String) : Str), .ref p, .ref p]) hq1)
              exact fin q1 (.bi true t t) _ k1 (.bi (a := true) upd_same (ht1.keep (tk_same k1)) (ht1.keep (tk_same k1))) (gB true hg hg) (by show t.sz + t.sz + 1 ≤ 15; omega) (by show max t.dep t.dep + 1 ≤ 4; omega)
end

/-! ### two expressions compared -/
section
variable {P : Program} {w : World} {K : PySem.W.Frag} {mg : Str → Option Value} {base : Heap} {D : Ad}
open TL SX
def ApR (CE : Addr) (H' : Hp) (f g : Spt → Bool) (v : V) : Prop := (v = .non ∧ ∀ q : Spt, q.v ≤ 99 → f q = g q) ∨ ∃ (p : Spt) (e : Addr), v = .ref e ∧ Env CE H' e p.s p.m p.v ∧ Vld p ∧ f p ≠ g p ∧ ∀ q, Vld q → f q ≠ g q → sLe p q
theorem ApR.keep {CE : Addr} {H H' : Hp} {f g : Spt → Bool} {v : V} (h : ApR CE H f g v) (s : Same H H') : ApR CE H' f g v := by
  rcases h with h | ⟨p, e, rfl, ⟨dx, he⟩, r⟩
  · exact .inl h
  · exact .inr ⟨p, e, rfl, ⟨dx, s _ _ he⟩, r⟩
def spApM (K : PySem.W.Frag) (C CE : Addr) : Sp := fun vs H Q _ => ∃ (a b : Addr) (f g : Spt → Bool) (n m : Nat), vs = [.ref a, .ref b] ∧ Mk3 K C H a f n ∧ Mk3 K C H b g m ∧ n + m ≤ 100 ∧ ∀ v H', Same H H' → ApR CE H' f g v → Q v H'
theorem ok_ApM (T : TexW w K mg D) : FnOk P w K mg base CX0 12 D.a_apart D.d_apart P_apart (spApM K D.a_Marker D.a_Environment) := (ok_apart T).imp fun vs H Q E h => by
  obtain ⟨a, b, f, g, n, m, rfl, ha, hb, hz, q⟩ := h
  obtain ⟨us, m1, o1, e1, l1, n1⟩ := ha.ex
  obtain ⟨ws, m2, o2, e2, l2, n2⟩ := hb.ex
  have det : Det [us, ws].flatten (fun p => ansB us p ≠ ansB ws p) := fun p q h => by
    have h1 : ansB us p = ansB us q := o1.sem.same fun t ht => h t (by simp [ht])
    have h2 : ansB ws p = ansB ws q := o2.sem.same fun t ht => h t (by simp [ht])
    show (ansB us p ≠ ansB ws p) ↔ (ansB us q ≠ ansB ws q)
    rw [h1, h2]
  refine ⟨a, b, us, ws, rfl, m1, m2, o1, o2, by omega, fun sps hsp H1 s1 => ?_⟩
  have cov := cov_sp hsp (ask_tm (two_ask o1 o2)) (by simp; omega)
  refine ⟨fun hno => ?_, fun p pre post e eq h1 h2 hen hE => ?_⟩
  · refine q .non H1 s1 (.inl ⟨rfl, fun r hr => ?_⟩)
    have := (none_iff cov det).mp hno r hr
    rw [e1, e2] at this
    exact Decidable.not_not.mp this
  · exact q (.ref e) H1 s1 (.inr ⟨p, e, rfl, hE, cov.vld p (by rw [eq]; simp), by rw [← e1, ← e2]; exact h2, fun r hr hd => first_le cov det eq h1 hr (by rw [e1, e2]; exact hd)⟩)
/-- what the law finds, and what apart tells -/
theorem ApR.none {CE : Addr} {H : Hp} {f g : Spt → Bool} {v : V} (h : ApR CE H f g v) (k : ∀ q : Spt, q.v ≤ 99 → f q = g q) : v = .non := by
  rcases h with h | ⟨p, e, _, _, hv, hd, _⟩
  · exact h.1
  · exact absurd (k p hv.v) hd
theorem ApR.first {CE : Addr} {H : Hp} {f g : Spt → Bool} {v : V} {p : Spt} (h : ApR CE H f g v) (hv : Vld p) (hd : f p ≠ g p) (hm : ∀ q, Vld q → f q ≠ g q → sLe p q) : ∃ e, v = .ref e ∧ Env CE H e p.s p.m p.v := by
  rcases h with h | ⟨p', e, rfl, hE, hv', hd', hm'⟩
  · exact absurd (h.2 p hv.v) hd
  · obtain rfl := sLe_eq hv' hv (hm' p hv hd) (hm p' hv' hd')
    exact ⟨e, rfl, hE⟩
theorem ApR.swap {CE : Addr} {H : Hp} {f g : Spt → Bool} {v : V} (h : ApR CE H f g v) : ApR CE H g f v := by
  rcases h with ⟨a, b⟩ | ⟨p', e, rfl, hE, hv', hd', hm'⟩
  · exact .inl ⟨a, fun q hq => (b q hq).symm⟩
  · exact .inr ⟨p', e, rfl, hE, hv', fun k => hd' k.symm, fun q hq k => hm' q hq fun z => k z.symm⟩
/-- a row: a spot and two answers -/
def PrR (f g : Spt → Bool) (H : Hp) (v : V) (z : Addr × Spt) : Prop := ∃ t, v = .ref t ∧ H t = some (.tup [.ref z.1, .bl (f z.2), .bl (g z.2)]) ∧ H z.1 = some (.tup (spW z.2))
theorem PrR.keep {f g : Spt → Bool} {H H' : Hp} {v : V} {z : Addr × Spt} (h : PrR f g H v z) (s : Same H H') : PrR f g H' v z := let ⟨t, a, b, c⟩ := h; ⟨t, a, s _ _ b, s _ _ c⟩
theorem TS.zip {H : Hp} : ∀ {as : List Addr} {ps : List Spt}, TS H as ps → ∀ z ∈ as.zip ps, H z.1 = some (.tup (spW z.2))
  | [], [], _, _, hz => by cases hz
  | a :: as, p :: ps, h, z, hz => by
    rcases List.mem_cons.mp (show z ∈ (a, p) :: as.zip ps from hz) with rfl | hz
    · exact h.1
    · exact TS.zip h.2 z hz
  | [], _ :: _, h, _, _ => h.elim
  | _ :: _, [], h, _, _ => h.elim
theorem zip_fst {as : List Addr} {ps : List Spt} (h : as.length = ps.length) : (as.zip ps).map (·.1) = as := List.map_fst_zip (by omega)
theorem zip_snd {as : List Addr} {ps : List Spt} (h : as.length = ps.length) : (as.zip ps).map (·.2) = ps := List.map_snd_zip (by omega)
theorem det_val (t1 t2 : Tr) : Det (t1.lvs ++ t2.lvs) (fun p => t1.val (evT p) ≠ t2.val (evT p)) := fun p q h => by
  show (t1.val (evT p) ≠ t2.val (evT p)) ↔ (t1.val (evT q) ≠ t2.val (evT q))
  rw [val_same (t := t1) fun x hx => h x (List.mem_append_left _ hx), val_same (t := t2) fun x hx => h x (List.mem_append_right _ hx)]
theorem det_two (t1 t2 : Tr) (k : Bool → Bool → Bool) : Det (t1.lvs ++ t2.lvs) (fun p => k (t1.val (evT p)) (t2.val (evT p)) = true) := fun p q h => by
  show (k (t1.val (evT p)) (t2.val (evT p)) = true) ↔ (k (t1.val (evT q)) (t2.val (evT q)) = true)
  rw [val_same (t := t1) fun x hx => h x (List.mem_append_left _ hx), val_same (t := t2) fun x hx => h x (List.mem_append_right _ hx)]
/-- nothing of the rows is picked if and only if it holds nowhere -/
theorem empty_iff {t1 t2 : Tr} {G : List Spt} {as : List Addr} (cov : Cov (t1.lvs ++ t2.lvs) G) (hl : as.length = G.length) (k : Bool → Bool → Bool) : ((as.zip G).filter fun z => k (t1.val (evT z.2)) (t2.val (evT z.2))).isEmpty = true ↔ ∀ q : Spt, q.v ≤ 99 → ¬ k (t1.val (evT q)) (t2.val (evT q)) = true := by
  rw [List.isEmpty_iff, List.filter_eq_nil_iff, ← none_iff cov (det_two t1 t2 k)]
  constructor
  · intro h p hp
    rw [← zip_snd hl] at hp
    obtain ⟨z, hz, rfl⟩ := List.mem_map.mp hp
    exact h z hz
  · intro h z hz
    refine h z.2 ?_
    rw [← zip_snd hl]
    exact List.mem_map.mpr ⟨z, hz, rfl⟩
theorem lc_tpl {α : Type} {K : PySem.W.Frag} {a : Addr} (xs : List α) (emb : α → V) {g : TG} {tt : TT} {te : TE} {vs : List Nat} {σ : L2.St} {H1 : Hp} {D : Addr} {Qd : Hp → Prop} (p : α → Bool) (f : α → V) (hD : H1 D = none) (hz : xs.length < sizeLine)
    (ha : SqT K H1 a (xs.map emb))
    (hs : ∀ c, c ∈ xs → ∀ (H : Hp) (R : VK) (S : Hp → Prop), Same H1 H → (p c = true → ∀ H', Same H H' → R (f c) H') → (p c = false → ∀ H', Same H H' → S H') →
      g (emb c) (wipe σ vs) H fun σ2 H2 => wipe σ2 vs = wipe σ vs ∧ tt σ2 H2 fun b H3 => if b = true then te σ2 H3 R else S H3)
    (hd : ∀ H, Same H1 H → H D = some (.lst ((xs.filter p).map f)) → Qd H) :
    ∃ W : Nat → Nat → Hp → Prop, (∃ m, W 0 m (upd H1 D (.lst []))) ∧ ∀ i m H, W i m H →
      ((Itt K a).stop i H ∧ Qd H) ∨ ((Itt K a).go i H ∧ ∃ Nx : Hp → Prop, (∀ H', Nx H' → ∃ m', m' < m ∧ W (i + 1) m' H') ∧
        ∀ x H', (Itt K a).yld i H x H' → g x (wipe σ vs) H' fun σ2 H2 => wipe σ2 vs = wipe σ vs ∧ tt σ2 H2 fun b H3 =>
          if b = true then te σ2 H3 fun y H4 => ∃ acc, H4 D = some (.lst acc) ∧ acc.length < sizeLine ∧ Nx (upd H4 D (.lst (acc ++ [y]))) else Nx H3) :=
  lc_map (walk_tup (K := K) (a := a) (xs := xs.map emb)) xs emb (by simp)
    (fun i H x H' ⟨e, h⟩ => ⟨e, by
      rw [List.getElem?_map] at h
      cases q : xs[i]? with
      | none =>
        rw [q] at h
        cases h
      | some c =>
        rw [q] at h
        exact ⟨c, rfl, (Option.some.inj h).symm⟩⟩) p f hD (by simpa using hz) (fun H s => sqT_keep s ha) hs hd
theorem neq_bl (a : Bool) : (!decide (V.bl a = V.bl a)) = false := by cases a <;> decide
theorem le_eb {t1 t2 : Tr} {G : List Spt} {as : List Addr} (cov : Cov (t1.lvs ++ t2.lvs) G) (hl : as.length = G.length) {r : Bool} (h : r = true ↔ ∀ p : Spt, p.v ≤ 99 → (fun p => t1.val (evT p)) p = true → (fun p => t2.val (evT p)) p = true) :
    r = (((as.zip G).filter fun z => (fun a b => a && !b) (t1.val (evT z.2)) (t2.val (evT z.2))).map fun z => V.ref z.1).isEmpty := by
  rw [List.isEmpty_map, Bool.eq_iff_iff, h, empty_iff cov hl (fun a b => a && !b)]
  have xn : ∀ a b : Bool, (a = true → b = true) ↔ ¬ (a && !b) = true := by decide
  exact forall_congr' fun q => forall_congr' fun _ => xn _ _
theorem le_eb2 {t1 t2 : Tr} {G : List Spt} {as : List Addr} (cov : Cov (t1.lvs ++ t2.lvs) G) (hl : as.length = G.length) {r : Bool} (h : r = true ↔ ∀ p : Spt, p.v ≤ 99 → (fun p => t2.val (evT p)) p = true → (fun p => t1.val (evT p)) p = true) :
    r = (((as.zip G).filter fun z => (fun a b => b && !a) (t1.val (evT z.2)) (t2.val (evT z.2))).map fun z => V.ref z.1).isEmpty := by
  rw [List.isEmpty_map, Bool.eq_iff_iff, h, empty_iff cov hl (fun a b => b && !a)]
  have xn : ∀ a b : Bool, (b = true → a = true) ↔ ¬ (b && !a) = true := by decide
  exact forall_congr' fun q => forall_congr' fun _ => xn _ _
theorem bo_eb {t1 t2 : Tr} {G : List Spt} {as : List Addr} (cov : Cov (t1.lvs ++ t2.lvs) G) (hl : as.length = G.length) {r : Bool} (h : r = true ↔ ∃ p : Spt, p.v ≤ 99 ∧ (fun p => t1.val (evT p)) p = true) :
    r = !(((as.zip G).filter fun z => (fun a _ => a) (t1.val (evT z.2)) (t2.val (evT z.2))).map fun z => V.ref z.1).isEmpty := by
  rw [List.isEmpty_map]
  have := empty_iff cov hl (fun a _ => a)
  cases hr : r with
  | true =>
    obtain ⟨p, hp, hv⟩ := h.mp hr
    cases he : ((as.zip G).filter fun z => (fun a (_ : Bool) => a) (t1.val (evT z.2)) (t2.val (evT z.2))).isEmpty with
    | true => exact absurd hv (this.mp he p hp)
    | false => rfl
  | false =>
    have : ((as.zip G).filter fun z => (fun a (_ : Bool) => a) (t1.val (evT z.2)) (t2.val (evT z.2))).isEmpty = true := this.mpr fun q hq hv => by
      have := h.mpr ⟨q, hq, hv⟩
      rw [hr] at this
      cases this
    rw [this]
    rfl
theorem two_nextV {b : Bool} {A B : Prop} {R : V → Hp → Prop} {G : V → Hp → Prop} (hA : b = true → (∀ z H', G z H' → R z H') → A) (hB : b = false → (∀ z H', G z H' → R z H') → B) (h : ∀ z H', G z H' → R z H') : if b = true then A else B := by
  cases b with
  | true => exact hA rfl h
  | false => exact hB rfl h
theorem first_pick {t1 t2 : Tr} {G : List Spt} {as : List Addr} {z0 : Addr × Spt} {rest : List (Addr × Spt)} (cov : Cov (t1.lvs ++ t2.lvs) G) (hl : as.length = G.length) (h : ((as.zip G).filter fun z => xor (t1.val (evT z.2)) (t2.val (evT z.2))) = z0 :: rest) :
    z0 ∈ as.zip G ∧ Vld z0.2 ∧ t1.val (evT z0.2) ≠ t2.val (evT z0.2) ∧ ∀ q, Vld q → t1.val (evT q) ≠ t2.val (evT q) → sLe z0.2 q := by
  have xn : ∀ a b : Bool, (xor a b) = true ↔ a ≠ b := by decide
  obtain ⟨l1, l2, e, hno, hz, _⟩ := List.filter_eq_cons_iff.mp h
  have eG : G = l1.map (·.2) ++ z0.2 :: l2.map (·.2) := by
    rw [← zip_snd hl, e, List.map_append, List.map_cons]
  refine ⟨by rw [e]; simp, cov.vld _ (by rw [eG]; simp), (xn _ _).mp hz, fun q hq hd => first_le cov (det_val t1 t2) eG (fun x hx k => ?_) hq hd⟩
  obtain ⟨y, hy, rfl⟩ := List.mem_map.mp hx
  exact hno y hy ((xn _ _).mpr k)
theorem xor_bl (a b : Bool) : (!decide (V.bl a = V.bl b)) = xor a b := by cases a <;> cases b <;> decide
def spRightK (K : PySem.W.Frag) : Sp := fun vs H Q _ => ∃ (p1 p2 : Addr) (t1 t2 : Tr), vs = [.ref p1, .ref p2] ∧ Tre H p1 t1 ∧ Tre H p2 t2 ∧ t1.dep ≤ 4 ∧ t2.dep ≤ 4 ∧ t1.sz ≤ 15 ∧ t2.sz ≤ 15 ∧ (∀ x ∈ t1.lvs, G5 x) ∧ (∀ x ∈ t2.lvs, G5 x) ∧ ∀ H', Same H H' → Q (.bl true) H'
theorem ok_rightK (T : TexW w K mg D) : FnOk P w K mg base CX0 16 D.a_right D.d_right P_right (spRightK K) := by
  have G_written : FnOk P w K mg base CX0 10 D.a_written D.d_written P_written (spWr 10) := ok_written T 10
  have G_holds : FnOk P w K mg base CX0 8 D.a_holds D.d_holds P_holds (spHold 8) := ok_holds T 8
  have G_grid : FnOk P w K mg base CX0 10 D.a_grid D.d_grid P_grid spGrid := ok_grid T
  have G_environment : FnOk P w K mg base CX0 8 D.a_environment D.d_environment P_environment (spEnvS D.a_Environment) := ok_environmentS T
  have G_Marker_init : FnOk P w K mg base CX0 8 D.a_Marker_init D.d_Marker_init P_Marker_init (spMInit K D.a_Marker) := ok_Marker_init T
  have G_Marker_str : FnOk P w K mg base CX0 4 D.a_Marker_str D.d_Marker_str P_Marker_str (spMStr K D.a_Marker) := ok_Marker_str T
  have G_Marker_eq : FnOk P w K mg base CX0 10 D.a_Marker_eq D.d_Marker_eq P_Marker_eq (spEqA K D.a_Marker) := ok_EqA T
  have G_Marker_le : FnOk P w K mg base CX0 10 D.a_Marker_le D.d_Marker_le P_Marker_le (spLe3 K D.a_Marker) := ok_Le3 T
  have G_Marker_bool : FnOk P w K mg base CX0 10 D.a_Marker_bool D.d_Marker_bool P_Marker_bool (spBool3 K D.a_Marker) := ok_Bool3 T
  have G_apart : FnOk P w K mg base CX0 12 D.a_apart D.d_apart P_apart (spApM K D.a_Marker D.a_Environment) := ok_ApM T
  have G_eqE : FnOk P w K mg base CX0 1 D.a_Environment_eq D.d_Environment_eq P_Environment_eq (L2.spEq (enR D.a_Environment)) := ok_eqE T
  refine T.right_F.ok S_right (fun vs H Q E h => ?_) (fun cdv A outer s H vs Q E hr h => ?_)
  · obtain ⟨p1, p2, t1, t2, rfl, _⟩ := h
    rfl
  · obtain ⟨p1, p2, t1, t2, rfl, ht1, ht2, hd1, hd2, hz1, hz2, hg1, hg2, q⟩ := h
    refine ⟨_, (pss_cons (ps_asg (pe_tup (pa_cons (pe_make T.Marker_mk G_Marker_init (hr.mono (by decide)) rfl T.Marker_g T.Marker_init_b .nil pass0 (pa_cons (pe_call G_written (hr.mono (by decide)) (by rfl) T.written_g T.written_F.kp T.written_b .nil pass0 (pa_cons (pv 0) pa_nil)) pa_nil)) (pa_cons (pe_make T.Marker_mk G_Marker_init (hr.mono (by decide)) rfl T.Marker_g T.Marker_init_b .nil pass0 (pa_cons (pe_call G_written (hr.mono (by decide)) (by rfl) T.written_g T.written_F.kp T.written_b .nil pass0 (pa_cons (pv 1) pa_nil)) pa_nil)) pa_nil))) (pg_tup (by rfl) (pgs_cons (pg_name (i := 2) S_right.nd rfl (Or.inr rfl)) (pgs_cons (pg_name (i := 3) S_right.nd rfl (Or.inl rfl)) pgs_nil))))
      (pss_cons (ps_set (i := 4) S_right.nd rfl (Or.inl rfl) (pe_call G_grid (hr.mono (by decide)) (by rfl) T.grid_g T.grid_F.kp T.grid_b .nil pass0 (pa_cons (pe_lst (pa_cons (pv 0) (pa_cons (pv 1) pa_nil))) pa_nil)))
      (pss_cons (ps_setLc (i := 5) (own := [(("_law_spot" : Str), 9)]) (g := gName 9) (tt := tYes) rfl S_right.nd rfl rfl (sw_true rfl rfl rfl (by decide +kernel)) (pi_list (pv 4)) (blkOk_by (N := N_right) (sc := defScope s_right) (by decide +kernel)) (fun _ _ _ _ _ => pg_name (i := 9) S_right.nd rfl (Or.inl rfl)) (fun _ _ _ _ _ => pts_nil) (fun _ _ _ _ _ => (pe_tup (pa_cons (pv 9) (pa_cons (pe_call G_holds (hr.mono (by decide)) (by rfl) T.holds_g T.holds_F.kp T.holds_b .nil pass0 (pa_cons (pv 0) (pa_cons (pv 9) pa_nil))) (pa_cons (pe_call G_holds (hr.mono (by decide)) (by rfl) T.holds_g T.holds_F.kp T.holds_b .nil pass0 (pa_cons (pv 1) (pa_cons (pv 9) pa_nil))) pa_nil))))))
      (pss_cons (ps_setLc (i := 6) (own := [(("_law_spot" : Str), 9), (("_law_first" : Str), 10), (("_law_last" : Str), 11)]) (g := (gTup K 3 (gCons (gName 9) (gCons (gName 10) (gCons (gName 11) gNil))))) rfl S_right.nd rfl rfl (sw_true rfl rfl rfl (by decide +kernel)) (pi_list (pv 5)) (blkOk_by (N := N_right) (sc := defScope s_right) (by decide +kernel)) (fun _ _ _ _ _ => pg_tup (by rfl) (pgs_cons (pg_name (i := 9) S_right.nd rfl (Or.inl rfl)) (pgs_cons (pg_name (i := 10) S_right.nd rfl (Or.inl rfl)) (pgs_cons (pg_name (i := 11) S_right.nd rfl (Or.inl rfl)) pgs_nil)))) (fun _ _ _ _ _ => (pts_one (pt_cmpR op_ne (pv 10) (pv 11) (nomark _)))) (fun _ _ _ _ _ => (pv 9)))
      (pss_cons (ps_set (i := 7) S_right.nd rfl (Or.inl rfl) (pe_ifExp (pt_cmpR (op_neNil hr.units) (pv 6) (pe_lst pa_nil) (nomark _)) (pe_call G_environment (hr.mono (by decide)) (by rfl) T.environment_g T.environment_F.kp T.environment_b .nil pass0 (pa_cons (pe_ix ix_list (pv 6) pe_int (fun _ _ => rfl)) pa_nil)) pe_non))
      (pss_cons (ps_if (PW.pt (pw_or (pt_cmpR op_ne (pe_cmpR (op_ownD (fun _ _ => rfl) T.Marker_eq_at T.Marker_eq_fn T.Marker_nf (G_Marker_eq.raw T.Marker_eq_b .nil) (hr.mono (by decide)) pass0) (pv 2) (pv 3) (nomark _)) (pe_cmpR (op_eqNil hr.units) (pv 6) (pe_lst pa_nil) (nomark _)) (nomark _)) (pw_or1 (pt_cmpR op_ne (pe_cmpR (op_neOwn T.Marker_ne_b T.Marker_si.cm T.Marker_eq_at T.Marker_eq_fn (G_Marker_eq.raw T.Marker_eq_b .nil) (hr.mono (by decide)) pass0) (pv 2) (pv 3) (nomark _)) (pe_cmpR (op_neNil hr.units) (pv 6) (pe_lst pa_nil) (nomark _)) (nomark _))))) (pss_one (ps_ret pe_bl)) pss_nil)
      (pss_cons (ps_set (i := 8) S_right.nd rfl (Or.inl rfl) (pe_lst (pa_cons (pe_call G_apart (hr.mono (by decide)) (by rfl) T.apart_g T.apart_F.kp T.apart_b .nil pass0 (pa_cons (pv 2) (pa_cons (pv 3) pa_nil))) (pa_cons (pe_call G_apart (hr.mono (by decide)) (by rfl) T.apart_g T.apart_F.kp T.apart_b .nil pass0 (pa_cons (pv 3) (pa_cons (pv 2) pa_nil))) pa_nil))))
      (pss_cons (ps_if (PW.pt (pw_or (pt_cmpR (op_neD hr.units) (pe_lc (own := [(("_law_place" : Str), 12)]) (g := gName 12) (tt := tYes) rfl S_right.nd (pi_list (pv 8)) (blkOk_by (N := N_right) (sc := defScope s_right) (by decide +kernel)) (fun _ _ _ _ _ => pg_name (i := 12) S_right.nd rfl (Or.inl rfl)) (fun _ _ _ _ _ => pts_nil) (fun _ _ _ _ _ => (pe_cmpR op_isN (pv 12) pe_non (nomark _)))) (pe_op op_rep (pe_lst (pa_cons (pe_cmpR op_isN (pv 7) pe_non (nomark _)) pa_nil)) pe_int) (nomark _)) (pw_or1 (PW.pt (pw_and (pt_cmpR op_notN (pv 7) pe_non (nomark _)) (pw_and1 (pt_cmpR (op_neG (mon_ins enR_mon) (eqG_ins (n := 1) G_eqE T.Environment_eq_at T.Environment_eq_fn T.Environment_eq_b pass0) (hr.mono (by decide))) (pv 8) (pe_lst (pa_cons (pv 7) (pa_cons (pv 7) pa_nil))) (nomark _)))))))) (pss_one (ps_ret pe_bl)) pss_nil)
      (pss_cons (ps_if (pt_cmpR op_ne (pe_cmpR (op_ownD (fun _ _ => rfl) T.Marker_le_at T.Marker_le_fn T.Marker_nf (G_Marker_le.raw T.Marker_le_b .nil) (hr.mono (by decide)) pass0) (pv 2) (pv 3) (nomark _)) (pe_cmpR (op_eqNil hr.units) (pe_lc (own := [(("_law_spot" : Str), 9), (("_law_first" : Str), 10), (("_law_last" : Str), 11)]) (g := (gTup K 3 (gCons (gName 9) (gCons (gName 10) (gCons (gName 11) gNil))))) rfl S_right.nd (pi_list (pv 5)) (blkOk_by (N := N_right) (sc := defScope s_right) (by decide +kernel)) (fun _ _ _ _ _ => pg_tup (by rfl) (pgs_cons (pg_name (i := 9) S_right.nd rfl (Or.inl rfl)) (pgs_cons (pg_name (i := 10) S_right.nd rfl (Or.inl rfl)) (pgs_cons (pg_name (i := 11) S_right.nd rfl (Or.inl rfl)) pgs_nil)))) (fun _ _ _ _ _ => (pts_one (PW.pt (pw_and (pt_val (pv 10)) (pw_and1 (pt_not (pt_val (pv 11)))))))) (fun _ _ _ _ _ => (pv 9))) (pe_lst pa_nil) (nomark _)) (nomark _)) (pss_one (ps_ret pe_bl)) pss_nil)
      (pss_cons (ps_if (pt_cmpR op_ne (pe_cmpR (op_ownD (fun _ _ => rfl) T.Marker_le_at T.Marker_le_fn T.Marker_nf (G_Marker_le.raw T.Marker_le_b .nil) (hr.mono (by decide)) pass0) (pv 3) (pv 2) (nomark _)) (pe_cmpR (op_eqNil hr.units) (pe_lc (own := [(("_law_spot" : Str), 9), (("_law_first" : Str), 10), (("_law_last" : Str), 11)]) (g := (gTup K 3 (gCons (gName 9) (gCons (gName 10) (gCons (gName 11) gNil))))) rfl S_right.nd (pi_list (pv 5)) (blkOk_by (N := N_right) (sc := defScope s_right) (by decide +kernel)) (fun _ _ _ _ _ => pg_tup (by rfl) (pgs_cons (pg_name (i := 9) S_right.nd rfl (Or.inl rfl)) (pgs_cons (pg_name (i := 10) S_right.nd rfl (Or.inl rfl)) (pgs_cons (pg_name (i := 11) S_right.nd rfl (Or.inl rfl)) pgs_nil)))) (fun _ _ _ _ _ => (pts_one (PW.pt (pw_and (pt_val (pv 11)) (pw_and1 (pt_not (pt_val (pv 10)))))))) (fun _ _ _ _ _ => (pv 9))) (pe_lst pa_nil) (nomark _)) (nomark _)) (pss_one (ps_ret pe_bl)) pss_nil)
      (pss_cons (ps_if (pt_cmpR (op_neNil hr.units) (pe_lc (own := [(("_law_thing" : Str), 13)]) (g := gName 13) rfl S_right.nd (pi_tup (pe_tup (pa_cons (pe_callTy (call_strD T.Marker_str_at T.Marker_str_fn (G_Marker_str.raw T.Marker_str_b .nil) (hr.mono (by decide)) pass0) (by rfl) T.b_str (by decide +kernel) (pa_cons (pv 2) pa_nil)) (pa_cons pe_non (pa_cons pe_int (pa_cons pe_bl (pa_cons (pe_tup (pa_cons (pv 2) pa_nil)) (pa_cons (pe_lst (pa_cons (pv 2) pa_nil)) pa_nil)))))))) (blkOk_by (N := N_right) (sc := defScope s_right) (by decide +kernel)) (fun _ _ _ _ _ => pg_name (i := 13) S_right.nd rfl (Or.inl rfl)) (fun _ _ _ _ _ => (pts_one (PW.pt (pw_or (pt_cmpR (op_ownAK (KK := K) rfl (fun _ _ => rfl) T.Marker_eq_at T.Marker_eq_fn (G_Marker_eq.raw T.Marker_eq_b .nil) (hr.mono (by decide)) pass0) (pv 2) (pv 13) (nomark _)) (pw_or1 (pt_not (pt_cmpR (op_neOwnA (KK := K) rfl T.Marker_ne_b T.Marker_si.cm T.Marker_eq_at T.Marker_eq_fn (G_Marker_eq.raw T.Marker_eq_b .nil) (hr.mono (by decide)) pass0) (pv 2) (pv 13) (nomark _)))))))) (fun _ _ _ _ _ => (pv 13))) (pe_lst pa_nil) (nomark _)) (pss_one (ps_ret pe_bl)) pss_nil)
      (pss_one (ps_ret (pe_cmpR op_eq (pe_callTy (call_boolD T.Marker_bool_at T.Marker_bool_fn (G_Marker_bool.raw T.Marker_bool_b .nil) (hr.mono (by decide)) pass0) (by rfl) T.b_bool (by decide +kernel) (pa_cons (pv 2) pa_nil)) (pe_cmpR (op_neNil hr.units) (pe_lc (own := [(("_law_spot" : Str), 9), (("_law_first" : Str), 10), (("_law_last" : Str), 11)]) (g := (gTup K 3 (gCons (gName 9) (gCons (gName 10) (gCons (gName 11) gNil))))) rfl S_right.nd (pi_list (pv 5)) (blkOk_by (N := N_right) (sc := defScope s_right) (by decide +kernel)) (fun _ _ _ _ _ => pg_tup (by rfl) (pgs_cons (pg_name (i := 9) S_right.nd rfl (Or.inl rfl)) (pgs_cons (pg_name (i := 10) S_right.nd rfl (Or.inl rfl)) (pgs_cons (pg_name (i := 11) S_right.nd rfl (Or.inl rfl)) pgs_nil)))) (fun _ _ _ _ _ => (pts_one (pt_val (pv 10)))) (fun _ _ _ _ _ => (pv 9))) (pe_lst pa_nil) (nomark _)) (nomark _))))))))))))))), ?_⟩
    have gt1 : ∀ x ∈ t1.lvs, GT x := fun x hx => (hg1 x hx).1
    have gt2 : ∀ x ∈ t2.lvs, GT x := fun x hx => (hg2 x hx).1
    have hs1 : ∀ x ∈ t1.lvs, Shw x := fun x hx => (gt1 x hx).sh
    have hs2 : ∀ x ∈ t2.lvs, Shw x := fun x hx => (gt2 x hx).sh
    have w1 := wr_len t1 hs1
    have w2 := wr_len t2 hs2
    obtain ⟨us1, r1, k1⟩ := read_wr gt1
    obtain ⟨us2, r2, k2⟩ := read_wr gt2
    have lv1 := lvs_sz t1
    have lv2 := lvs_sz t2
    refine ⟨_, rfl, p1, t1, rfl, ht1, by omega, by omega, hs1, fun H1 s1 => fun a1 da1 ha1 hda1 _ => ⟨a1, da1, t1.wr, us1, rfl, upd_same, by omega, r1, fun G1 pa1 qa1 sa1 hpa1 hra1 => ⟨rfl, ?_⟩⟩⟩
    obtain ⟨sA1, mA1⟩ := mkr_new ha1 hda1 sa1 hpa1 hra1
    refine ⟨_, rfl, p2, t2, rfl, ht2.keep (tk_same (s1.trans sA1)), by omega, by omega, hs2, fun H8 s8 => fun a2 da2 ha2 hda2 _ => ⟨a2, da2, t2.wr, us2, rfl, upd_same, by omega, r2, fun G2 pa2 qa2 sa2 hpa2 hra2 => ⟨rfl, by show 2 ≤ sizeLine; decide, fun tp htp => ?_⟩⟩⟩
    obtain ⟨sA2, mA2⟩ := mkr_new ha2 hda2 sa2 hpa2 hra2
    have sT := same_new (o := .tup [V.ref a1, .ref a2]) htp
    have sJ := s1.trans (sA1.trans (s8.trans (sA2.trans sT)))
    have M1 : Mk3 K D.a_Marker _ a1 (fun p => t1.val (evT p)) 15 := (mk3_like mA1 k1 gt1 hz1).keep (s8.trans (sA2.trans sT))
    have M2 : Mk3 K D.a_Marker _ a2 (fun p => t2.val (evT p)) 15 := (mk3_like mA2 k2 gt2 hz2).keep sT
    have mK1 : Mkr K D.a_Marker _ a1 us1 := mA1.keep (s8.trans (sA2.trans sT))
    refine ⟨tp, _, rfl, sqT_of upd_same, rfl, _, _, rfl, _, _, rfl, rfl, ?_⟩
    clear sA1 sA2 s8 sT mA1 mA2 hpa1 hra1 hpa2 hra2 sa1 sa2 ha1 ha2 hda1 hda2
    revert sJ M1 M2 mK1
    generalize upd (upd G2 a2 (.ins D.a_Marker da2 [("_steps", .ref pa2)])) tp (.tup [V.ref a1, .ref a2]) = J0
    intro sJ M1 M2 mK1
    refine ⟨_, rfl, _, rfl, by show 2 ≤ sizeLine; decide, fun rl hrl => ⟨rl, p1, p2, t1, t2, rfl, upd_same, ht1.keep (tk_same (sJ.trans (same_new hrl))), ht2.keep (tk_same (sJ.trans (same_new hrl))), by omega, by omega, by omega, by omega, hg1, hg2, by omega, fun G L as H3 cov Gl s3 hLn hL hT => ?_⟩⟩
    have s03 := sJ.trans ((same_new (o := .lst [V.ref p1, .ref p2]) hrl).trans s3)
    have M1 := M1.keep ((same_new (o := .lst [V.ref p1, .ref p2]) hrl).trans s3)
    have mK1 := mK1.keep ((same_new (o := .lst [V.ref p1, .ref p2]) hrl).trans s3)
    have M2 := M2.keep ((same_new (o := .lst [V.ref p1, .ref p2]) hrl).trans s3)
    have hl : as.length = G.length := hT.len
    have hz' := hT.zip
    have hL : H3 L = some (.lst ((as.zip G).map fun z => V.ref z.1)) := by
      rw [hL, show (as.zip G).map (fun z => V.ref z.1) = ((as.zip G).map (·.1)).map V.ref by rw [List.map_map]; rfl, zip_fst hl]
    have zl : (as.zip G).length ≤ 1000000 := by
      rw [List.length_zip]
      omega
    clear s3 sJ hT
    refine ⟨_, rfl, L, rfl, ⟨_, SqL.of hL⟩, fun RD hRD => lc_grow (walk_list (K := K) (a := L) (xs := (as.zip G).map fun z => V.ref z.1)) (as.zip G) (fun z => V.ref z.1) (List.length_map _) (fun i H x H' ⟨e, hx⟩ => ⟨e, by rw [List.getElem?_map] at hx; obtain ⟨z, hz, e2⟩ := Option.map_eq_some_iff.mp hx; exact ⟨z, hz, e2.symm⟩⟩) (fun z => some z) (PrR (fun p => t1.val (evT p)) (fun p => t2.val (evT p))) (fun H H' v z l hl bb hh => ?_) hRD (by rw [List.length_map]; exact Nat.lt_of_le_of_lt zl (by decide)) (fun H' s' => SqL.of (s' _ _ hL)) (fun z hzm H4 R Sk s4 h1 h2 => ?_) (fun H4 acc s4 ha2 hp2 hl4 => ?_)⟩
    · obtain ⟨t, e, ht, hz1⟩ := hh
      exact ⟨t, e, bb _ _ ht (fun q => by rw [q, hl] at ht; cases ht), bb _ _ hz1 (fun q => by rw [q, hl] at hz1; cases hz1)⟩
    · have hzz := s4 _ _ (hz' z hzm)
      refine ⟨rfl, _, rfl, _, rfl, _, rfl, p1, z.1, t1, z.2, rfl, ht1.keep (tk_same (s03.trans s4)), by omega, gt1, hzz, fun H5 s5 => ⟨_, rfl, _, rfl, p2, z.1, t2, z.2, rfl, ht2.keep (tk_same (s03.trans (s4.trans s5))), by omega, gt2, s5 _ _ hzz, fun H6 s6 => ⟨by show 3 ≤ sizeLine; decide, fun t ht => h1 _ _ _ rfl ((s5.trans s6).trans (same_new ht)) ⟨t, rfl, upd_same, same_new ht _ _ (s6 _ _ (s5 _ _ hzz))⟩⟩⟩⟩
    · have ef : (as.zip G).filterMap (fun z => some z) = as.zip G := by simp
      rw [ef] at ha2
      have M1 := M1.keep s4
      have mK1 := mK1.keep s4
      have M2 := M2.keep s4
      have s04 := s03.trans s4
      have accl : acc.length ≤ 1000000 := by
        have := congrArg List.length ha2
        rw [List.length_map] at this
        omega
      have hz4 : ∀ z ∈ as.zip G, H4 z.1 = some (.tup (spW z.2)) := fun z hz => s4 _ _ (hz' z hz)
      clear s4 s03 hL hz' hRD hLn
      have pk : ∀ k : Bool → Bool → Bool, (acc.filter fun q => k (t1.val (evT q.2.2)) (t2.val (evT q.2.2))).map (fun q => V.ref q.2.1) = ((as.zip G).filter fun z => k (t1.val (evT z.2)) (t2.val (evT z.2))).map fun z => V.ref z.1 := fun k => by
        rw [← ha2, List.filter_map, List.map_map]
        rfl
      refine ⟨_, rfl, RD, rfl, ⟨_, SqL.of hl4⟩, fun PD hPD => lc_lst (K := K) (a := RD) acc (·.1) (fun q => xor (t1.val (evT q.2.2)) (t2.val (evT q.2.2))) (fun q => V.ref q.2.1) hPD (Nat.lt_of_le_of_lt accl (by decide)) (SqL.of hl4) (fun q' hq' H5 R Sk s5 h1 h2 => ?_) (fun H5 s5 hPD5 => ?_)⟩
      · obtain ⟨v, z⟩ := q'
        obtain ⟨t, rfl, ht, hz⟩ := (hp2 _ hq').keep s5
        refine ⟨t, _, rfl, sqT_of ht, rfl, _, _, rfl, _, _, rfl, _, _, rfl, rfl, rfl, _, rfl, _, rfl, rfl, _, rfl, ?_⟩
        rw [xor_bl]
        exact ite2 (fun h => ⟨_, rfl, h1 h _ (Same.refl _)⟩) (fun h => h2 (Bool.eq_false_iff.mpr h) _ (Same.refl _))
      · rw [pk] at hPD5
        have hl5 := s5 _ _ hl4
        have hp5 : ∀ q ∈ acc, PrR (fun p => t1.val (evT p)) (fun p => t2.val (evT p)) H5 q.1 q.2 := fun q hq => (hp2 q hq).keep s5
        have M1 := M1.keep s5
        have mK1 := mK1.keep s5
        have M2 := M2.keep s5
        have s05 := s04.trans s5
        have hz5 : ∀ z ∈ as.zip G, H5 z.1 = some (.tup (spW z.2)) := fun z hz => s5 _ _ (hz4 z hz)
        clear s5 s04 hl4 hp2 hPD hz4
        have hEB : ((as.zip G).filter fun z => xor (t1.val (evT z.2)) (t2.val (evT z.2))).isEmpty = true ↔ ∀ q : Spt, q.v ≤ 99 → t1.val (evT q) = t2.val (evT q) := by
          rw [empty_iff cov hl xor]
          have xn : ∀ a b : Bool, ¬ (xor a b) = true ↔ a = b := by decide
          exact forall_congr' fun q => forall_congr' fun _ => xn _ _
        refine nx_to (seq_mid (fun σ H' => ∃ due : V, σ = [some (.ref p1), some (.ref p2), some (.ref a1), some (.ref a2), some (.ref L), some (.ref RD), some (.ref PD), some due, none, none, none, none, none, none] ∧ Same H5 H' ∧ ApR D.a_Environment H' (fun p => t1.val (evT p)) (fun p => t2.val (evT p)) due) ?_ ?_)
        rotate_left
        · intro N kk
          refine ⟨_, rfl, by show 0 ≤ sizeLine; decide, fun e0 he0 => ⟨PD, e0, _, rfl, rfl, SqL.of (same_new he0 _ _ hPD5), SqL.of upd_same, ?_⟩⟩
          have se := same_new (o := .lst []) he0
          cases hps : (as.zip G).filter (fun z => xor (t1.val (evT z.2)) (t2.val (evT z.2))) with
          | nil =>
            rw [hps] at hEB
            exact ⟨_, rfl, iteF (kk _ _ ⟨.non, rfl, se, .inl ⟨rfl, hEB.mp rfl⟩⟩)⟩
          | cons z0 rest =>
            obtain ⟨hzm, hv0, hd0, hmin⟩ := first_pick cov hl hps
            rw [hps] at hPD5
            exact ⟨_, rfl, iteT ⟨_, rfl, PD, _, _, _, rfl, rfl, SqL.of (se _ _ hPD5), atI_nat (j := 0) rfl, z0.1, z0.2, rfl, se _ _ (hz5 z0 hzm), hv0, fun a H' s' hn hE => kk _ _ ⟨.ref a, rfl, se.trans s', .inr ⟨z0.2, a, rfl, hE, hv0, hd0, hmin⟩⟩⟩⟩
        · rintro σ H6 ⟨due, rfl, s6, hdue⟩
          have hl6 := s6 _ _ hl5
          have hPD6 := s6 _ _ hPD5
          have hp6 : ∀ q ∈ acc, PrR (fun p => t1.val (evT p)) (fun p => t2.val (evT p)) H6 q.1 q.2 := fun q hq => (hp5 q hq).keep s6
          have M1 := M1.keep s6
          have mK1 := mK1.keep s6
          have M2 := M2.keep s6
          have s06 := s05.trans s6
          clear s6 s05 hl5 hp5 hPD5 hz5
          have eb : ∀ r1 : Bool, (r1 = true ↔ ∀ q : Spt, q.v ≤ 99 → t1.val (evT q) = t2.val (evT q)) → r1 = (((as.zip G).filter fun z => xor (t1.val (evT z.2)) (t2.val (evT z.2))).map fun z => V.ref z.1).isEmpty := fun r1 h => by
            rw [List.isEmpty_map, Bool.eq_iff_iff]
            exact h.trans hEB.symm
          refine ⟨_, rfl, _, rfl, eqA M1 M2 (by omega) fun r1 H7 hr1 s7 => ⟨_, rfl, by show 0 ≤ sizeLine; decide, fun e1 he1 => ⟨PD, e1, _, rfl, rfl, SqL.of (same_new he1 _ _ (s7 _ _ hPD6)), SqL.of upd_same, rfl, _, rfl, ?_⟩⟩⟩
          rw [← eb r1 hr1, neq_bl]
          have s67 := s7.trans (same_new (o := .lst []) he1)
          refine iteF ⟨_, rfl, _, rfl, neA (M1.keep s67) (M2.keep s67) (by omega) fun r2 H8 hr2 s8 => ⟨_, rfl, by show 0 ≤ sizeLine; decide, fun e2 he2 => ⟨PD, e2, _, rfl, rfl, SqL.of (same_new he2 _ _ (s8 _ _ (s67 _ _ hPD6))), SqL.of upd_same, rfl, _, rfl, ?_⟩⟩⟩
          rw [← eb r2 hr2, neq_bl]
          have s68 := s67.trans (s8.trans (same_new (o := .lst []) he2))
          have hl8 := s68 _ _ hl6
          have hp8 : ∀ q ∈ acc, PrR (fun p => t1.val (evT p)) (fun p => t2.val (evT p)) _ q.1 q.2 := fun q hq => (hp6 q hq).keep s68
          have M1 := M1.keep s68
          have mK1 := mK1.keep s68
          have M2 := M2.keep s68
          have hdue := hdue.keep s68
          have s08 := s06.trans s68
          clear s68 s67 s8 s7 s06 hp6 hl6 hPD6 eb
          revert hl8 hp8 M1 mK1 M2 hdue s08
          generalize upd H8 e2 (.lst []) = J1
          intro hl8 hp8 M1 mK1 M2 hdue s08
          refine iteF ?_
          refine ⟨_, rfl, _, rfl, a1, a2, _, _, 15, 15, rfl, M1, M2, by omega, fun v1 H9 s9 hv1 => ⟨_, rfl, _, rfl, a2, a1, _, _, 15, 15, rfl, M2.keep s9, M1.keep s9, by omega, fun v2 H10 s10 hv2 => ⟨by show 2 ≤ sizeLine; decide, fun TD hTD => ?_⟩⟩⟩
          have sT := same_new (o := .lst [v1, v2]) hTD
          have sT9 := s9.trans (s10.trans sT)
          have hTD1 : (upd H10 TD (.lst [v1, v2])) TD = some (.lst [v1, v2]) := upd_same
          have hv1 := hv1.keep (s10.trans sT)
          have hv2 := (hv2.keep sT).swap
          have hl9 := sT9 _ _ hl8
          have hp9 : ∀ q ∈ acc, PrR (fun p => t1.val (evT p)) (fun p => t2.val (evT p)) _ q.1 q.2 := fun q hq => (hp8 q hq).keep sT9
          have M1 := M1.keep sT9
          have mK1 := mK1.keep sT9
          have M2 := M2.keep sT9
          have hdue := hdue.keep sT9
          have s09 := s08.trans sT9
          clear sT9 sT s9 s10 hl8 hp8 s08
          revert hTD1 hv1 hv2 hl9 hp9 M1 mK1 M2 hdue s09
          generalize upd H10 TD (.lst [v1, v2]) = J2
          intro hTD1 hv1 hv2 hl9 hp9 M1 mK1 M2 hdue s09
          refine nx_to (seq_mid (fun σ H' => ∃ o7 o8 : Option V, σ = [some (.ref p1), some (.ref p2), some (.ref a1), some (.ref a2), some (.ref L), some (.ref RD), some (.ref PD), o7, o8, none, none, none, none, none] ∧ Same J2 H') ?_ ?_)
          rotate_left
          · intro N kk
            rcases hdue with ⟨rfl, hall⟩ | ⟨p, e, rfl, hE, hv, hd, hm⟩
            · obtain rfl := hv1.none hall
              obtain rfl := hv2.none hall
              refine ⟨_, rfl, TD, rfl, ⟨_, SqL.of hTD1⟩, fun BD hBD => lc_lst (K := K) (a := TD) [V.non, V.non] id (fun _ => true) (fun _ => V.bl true) hBD (by decide) (SqL.of hTD1) (fun c hc H5 R Sk s5 h1 h2 => ?_) (fun H5 s5 hBD5 => ?_)⟩
              · obtain rfl : c = .non := by simpa using hc
                exact ⟨rfl, _, rfl, rfl, h1 rfl _ (Same.refl _)⟩
              · refine ⟨_, rfl, rfl, by show 1 ≤ sizeLine; decide, fun q1 hq1 => ⟨q1, 2, _, rfl, rfl, upd_same, by decide, by decide, by show 1 * 2 ≤ sizeLine; decide, fun q2 hq2 => ?_⟩⟩
                have k1 := same_new (o := .lst [V.bl true]) hq1
                exact ne_bools (xs := [true, true]) (same_new hq2 _ _ (k1 _ _ hBD5)) upd_same ⟨_, rfl, iteF ⟨_, rfl, rfl, _, rfl, iteF (kk _ _ ⟨_, _, rfl, s5.trans (k1.trans (same_new hq2))⟩)⟩⟩
            · obtain ⟨e1, rfl, hE1⟩ := hv1.first hv hd hm
              obtain ⟨e2, rfl, hE2⟩ := hv2.first hv hd hm
              refine ⟨_, rfl, TD, rfl, ⟨_, SqL.of hTD1⟩, fun BD hBD => lc_lst (K := K) (a := TD) [V.ref e1, V.ref e2] id (fun _ => true) (fun _ => V.bl false) hBD (by show 2 < sizeLine; decide) (SqL.of hTD1) (fun c hc H5 R Sk s5 h1 h2 => ?_) (fun H5 s5 hBD5 => ?_)⟩
              · simp only [List.mem_cons, List.not_mem_nil, or_false] at hc
                rcases hc with rfl | rfl
                · exact ⟨rfl, _, rfl, rfl, h1 rfl _ (Same.refl _)⟩
                · exact ⟨rfl, _, rfl, rfl, h1 rfl _ (Same.refl _)⟩
              · refine ⟨_, rfl, rfl, by show 1 ≤ sizeLine; decide, fun q1 hq1 => ⟨q1, 2, _, rfl, rfl, upd_same, by decide, by decide, by show 1 * 2 ≤ sizeLine; decide, fun q2 hq2 => ?_⟩⟩
                have k1 := same_new (o := .lst [V.bl false]) hq1
                have k2 := s5.trans (k1.trans (same_new (o := .lst (List.replicate (2 : Int).toNat [V.bl false]).flatten) hq2))
                refine ne_bools (xs := [false, false]) (same_new hq2 _ _ (k1 _ _ hBD5)) upd_same ⟨_, rfl, iteF ⟨_, rfl, rfl, _, rfl, iteT ⟨_, rfl, _, rfl, _, rfl, by show 2 ≤ sizeLine; decide, fun q3 hq3 => ⟨?_, fun H' ex => ⟨_, rfl, iteF (kk _ _ ⟨_, _, rfl, k2.trans ((same_new hq3).trans ex)⟩)⟩⟩⟩⟩⟩
                have k3 := k2.trans (same_new (o := .lst [V.ref e, .ref e]) hq3)
                obtain ⟨dx0, i0⟩ := hE
                obtain ⟨dx1, i1⟩ := hE1
                obtain ⟨dx2, i2⟩ := hE2
                exact ⟨TD, q3, _, _, rfl, rfl, k3 _ _ hTD1, upd_same, L2.Prs.cons ⟨e1, e, dx1, dx0, _, _, rfl, rfl, k3 _ _ i1, k3 _ _ i0, p.s, p.m, p.v, ⟨dx1, k3 _ _ i1⟩, ⟨dx0, k3 _ _ i0⟩⟩ (L2.Prs.cons ⟨e2, e, dx2, dx0, _, _, rfl, rfl, k3 _ _ i2, k3 _ _ i0, p.s, p.m, p.v, ⟨dx2, k3 _ _ i2⟩, ⟨dx0, k3 _ _ i0⟩⟩ L2.Prs.nil)⟩
          · rintro σ J3 ⟨o7, o8, rfl, s3⟩
            have hl10 := s3 _ _ hl9
            have hp10 : ∀ q ∈ acc, PrR (fun p => t1.val (evT p)) (fun p => t2.val (evT p)) _ q.1 q.2 := fun q hq => (hp9 q hq).keep s3
            have M1 := M1.keep s3
            have mK1 := mK1.keep s3
            have M2 := M2.keep s3
            have s10 := s09.trans s3
            clear s3 s09 hl9 hp9 hv1 hv2 hdue hTD1 hTD
            refine ⟨_, rfl, _, rfl, le3 M1 M2 (by omega) fun r3 H3' hr3 s3' => ⟨_, rfl, RD, rfl, ⟨_, SqL.of (s3' _ _ hl10)⟩, fun DD hDD => lc_lst (K := K) (a := RD) acc (·.1) (fun q => t1.val (evT q.2.2) && !t2.val (evT q.2.2)) (fun q => V.ref q.2.1) hDD (Nat.lt_of_le_of_lt accl (by decide)) (SqL.of (s3' _ _ hl10)) (fun q' hq' H5 R Sk s5 h1 h2 => ?_) (fun H5 s5 hDD5 => ?_)⟩⟩
            · obtain ⟨v, z⟩ := q'
              obtain ⟨t, rfl, ht, hz⟩ := (hp10 _ hq').keep (s3'.trans s5)
              refine ⟨t, _, rfl, sqT_of ht, rfl, _, _, rfl, _, _, rfl, _, _, rfl, rfl, rfl, _, rfl, _, rfl, ite2 (fun ha => ?_) (fun ha => h2 ?_ _ (Same.refl _))⟩
              · have ha' : t1.val (evT z.2) = true := ha
                exact ⟨_, rfl, _, rfl, ite2 (fun hb => ⟨_, rfl, h1 (by show (t1.val (evT z.2) && !t2.val (evT z.2)) = true; rw [ha']; exact hb) _ (Same.refl _)⟩) (fun hb => h2 (by show (t1.val (evT z.2) && !t2.val (evT z.2)) = false; rw [ha']; exact Bool.eq_false_iff.mpr hb) _ (Same.refl _))⟩
              · have ha' : t1.val (evT z.2) = false := Bool.eq_false_iff.mpr ha
                show (t1.val (evT z.2) && !t2.val (evT z.2)) = false
                rw [ha']
                rfl
            · have hDD6 := hDD5.trans (congrArg (fun l => some (HO.lst l)) (pk (fun a b => a && !b)))
              refine ⟨by show 0 ≤ sizeLine; decide, fun e1 he1 => ⟨DD, e1, _, rfl, rfl, SqL.of (same_new he1 _ _ hDD6), SqL.of upd_same, rfl, _, rfl, ?_⟩⟩
              rw [le_eb cov hl hr3, neq_bl]
              refine iteF ?_
              have sn := s3'.trans (s5.trans (same_new (o := .lst []) he1))
              have hlN := sn _ _ hl10
              have hpN : ∀ q ∈ acc, PrR (fun p => t1.val (evT p)) (fun p => t2.val (evT p)) _ q.1 q.2 := fun q hq => (hp10 q hq).keep sn
              have M1 := M1.keep sn
              have mK1 := mK1.keep sn
              have M2 := M2.keep sn
              have sN := s10.trans sn
              clear sn s5 s3' s10 hl10 hp10 hDD5 hDD6 hDD hr3
              revert hlN hpN M1 mK1 M2 sN
              generalize upd H5 e1 (.lst []) = J4
              intro hlN hpN M1 mK1 M2 sN
              refine ⟨_, rfl, _, rfl, le3 M2 M1 (by omega) fun r3 H3' hr3 s3' => ⟨_, rfl, RD, rfl, ⟨_, SqL.of (s3' _ _ hlN)⟩, fun DD hDD => lc_lst (K := K) (a := RD) acc (·.1) (fun q => t2.val (evT q.2.2) && !t1.val (evT q.2.2)) (fun q => V.ref q.2.1) hDD (Nat.lt_of_le_of_lt accl (by decide)) (SqL.of (s3' _ _ hlN)) (fun q' hq' H5 R Sk s5 h1 h2 => ?_) (fun H5 s5 hDD5 => ?_)⟩⟩
              · obtain ⟨v, z⟩ := q'
                obtain ⟨t, rfl, ht, hz⟩ := (hpN _ hq').keep (s3'.trans s5)
                refine ⟨t, _, rfl, sqT_of ht, rfl, _, _, rfl, _, _, rfl, _, _, rfl, rfl, rfl, _, rfl, _, rfl, ite2 (fun ha => ?_) (fun ha => h2 ?_ _ (Same.refl _))⟩
                · have ha' : t2.val (evT z.2) = true := ha
                  exact ⟨_, rfl, _, rfl, ite2 (fun hb => ⟨_, rfl, h1 (by show (t2.val (evT z.2) && !t1.val (evT z.2)) = true; rw [ha']; exact hb) _ (Same.refl _)⟩) (fun hb => h2 (by show (t2.val (evT z.2) && !t1.val (evT z.2)) = false; rw [ha']; exact Bool.eq_false_iff.mpr hb) _ (Same.refl _))⟩
                · have ha' : t2.val (evT z.2) = false := Bool.eq_false_iff.mpr ha
                  show (t2.val (evT z.2) && !t1.val (evT z.2)) = false
                  rw [ha']
                  rfl
              · have hDD6 := hDD5.trans (congrArg (fun l => some (HO.lst l)) (pk (fun a b => b && !a)))
                refine ⟨by show 0 ≤ sizeLine; decide, fun e1 he1 => ⟨DD, e1, _, rfl, rfl, SqL.of (same_new he1 _ _ hDD6), SqL.of upd_same, rfl, _, rfl, ?_⟩⟩
                rw [le_eb2 cov hl hr3, neq_bl]
                refine iteF ?_
                have sn := s3'.trans (s5.trans (same_new (o := .lst []) he1))
                have hlO := sn _ _ hlN
                have hpO : ∀ q ∈ acc, PrR (fun p => t1.val (evT p)) (fun p => t2.val (evT p)) _ q.1 q.2 := fun q hq => (hpN q hq).keep sn
                have M1 := M1.keep sn
                have mK1 := mK1.keep sn
                have M2 := M2.keep sn
                have sO := sN.trans sn
                clear sn s5 s3' sN hlN hpN hDD5 hDD6 hDD hr3
                revert hlO hpO M1 mK1 M2 sO
                generalize upd H5 e1 (.lst []) = J5
                intro hlO hpO M1 mK1 M2 sO
                obtain ⟨ul, une, ush, utx⟩ := k1.str gt1
                obtain ⟨dx1, fs1, i1⟩ := M1.ins
                refine ⟨_, rfl, a1, dx1, fs1, rfl, i1, a1, us1, t1.wr, t1.bd, rfl, mK1, by omega, ush, utx, fun H6 s6 => ⟨_, rfl, _, rfl, by show 1 ≤ sizeLine; decide, fun T1 hT1 => ⟨_, rfl, by show 1 ≤ sizeLine; decide, fun L1 hL1 => ⟨by show 6 ≤ sizeLine; decide, fun TT hTT => ?_⟩⟩⟩⟩
                have sy := s6.trans ((same_new (o := .tup [V.ref a1]) hT1).trans ((same_new (o := .lst [V.ref a1]) hL1).trans (same_new (o := .tup [V.str (S t1.wr), .non, .int 5, .bl true, .ref T1, .ref L1]) hTT)))
                have tT1 := ((same_new (o := .lst [V.ref a1]) hL1).trans (same_new (o := .tup [V.str (S t1.wr), .non, .int 5, .bl true, .ref T1, .ref L1]) hTT)) _ _ (upd_same (a := T1) (o := .tup [V.ref a1]))
                have tL1 := (same_new (o := .tup [V.str (S t1.wr), .non, .int 5, .bl true, .ref T1, .ref L1]) hTT) _ _ (upd_same (a := L1) (o := .lst [V.ref a1]))
                have tTT : (upd (upd (upd H6 T1 (.tup [V.ref a1])) L1 (.lst [V.ref a1])) TT (.tup [V.str (S t1.wr), .non, .int 5, .bl true, .ref T1, .ref L1])) TT = some (.tup [V.str (S t1.wr), .non, .int 5, .bl true, .ref T1, .ref L1]) := upd_same
                revert sy tT1 tL1 tTT
                generalize upd (upd (upd H6 T1 (.tup [V.ref a1])) L1 (.lst [V.ref a1])) TT (.tup [V.str (S t1.wr), .non, .int 5, .bl true, .ref T1, .ref L1]) = J6
                intro sy tT1 tL1 tTT
                refine ⟨TT, rfl, ⟨_, sqT_of tTT⟩, fun DD hDD => lc_tpl (K := K) (a := TT) [V.str (S t1.wr), .non, .int 5, .bl true, .ref T1, .ref L1] id (fun _ => false) id hDD (by show 6 < sizeLine; decide) (sqT_of tTT) (fun c hc H5 R Sk s5 h1 h2 => ?_) (fun H5 s5 hDD5 => ?_)⟩
                · have hty : ∃ t : String, TyX K H5 c (.type t) ∧ PySem.W.kitOne K (.type t) (.ref D.a_Marker) = some false ∧ PySem.W.notFirst K D.a_Marker (.type t) = true := by
                    simp only [List.mem_cons, List.not_mem_nil, or_false] at hc
                    rcases hc with rfl | rfl | rfl | rfl | rfl | rfl
                    · exact ⟨"str", .base (.str _), kit_not T.Marker_cl T.Marker_rd⟩
                    · exact ⟨"NoneType", .base .non, kit_not T.Marker_cl T.Marker_rd⟩
                    · exact ⟨"int", .base (.int _), kit_not T.Marker_cl T.Marker_rd⟩
                    · exact ⟨"bool", .base (.bl _), kit_not T.Marker_cl T.Marker_rd⟩
                    · exact ⟨"tuple", .base (.tup (s5 _ _ tT1)), kit_not T.Marker_cl T.Marker_rd⟩
                    · exact ⟨"list", .base (.lst (s5 _ _ tL1)), kit_not T.Marker_cl T.Marker_rd⟩
                  obtain ⟨ty, hty, hko, hnf⟩ := hty
                  have i2 := (sy.trans s5) _ _ i1
                  exact ⟨rfl, _, rfl, _, rfl, a1, dx1, fs1, .type ty, rfl, i2, hty, hnf, .inr ⟨a1, dx1, fs1, c, .type ty, rfl, i2, hty, hko, ⟨_, rfl, iteF ⟨_, rfl, _, rfl, a1, dx1, fs1, .type ty, rfl, i2, hty, hnf, .inr ⟨a1, dx1, fs1, c, .type ty, rfl, i2, hty, hko, false, rfl, ⟨_, rfl, iteF (h2 rfl _ (Same.refl _))⟩⟩⟩⟩⟩⟩
                · refine ⟨by show 0 ≤ sizeLine; decide, fun e1 he1 => ⟨DD, e1, _, rfl, rfl, SqL.of (same_new he1 _ _ hDD5), SqL.of upd_same, ⟨_, rfl, iteF ?_⟩⟩⟩
                  have sn := sy.trans (s5.trans (same_new (o := .lst []) he1))
                  refine ⟨_, rfl, nil_to ?_⟩
                  refine bool3 (M1.keep sn) (by decide) fun r H7 hr7 s7 => ?_
                  have hlQ := s7 _ _ (sn _ _ hlO)
                  refine ⟨_, rfl, RD, rfl, ⟨_, SqL.of hlQ⟩, fun DE hDE => lc_lst (K := K) (a := RD) acc (·.1) (fun q => t1.val (evT q.2.2)) (fun q => V.ref q.2.1) hDE (Nat.lt_of_le_of_lt accl (by decide)) (SqL.of hlQ) (fun q' hq' H8 R Sk s8 h1 h2 => ?_) (fun H8 s8 hDE8 => ?_)⟩
                  · obtain ⟨v, z⟩ := q'
                    obtain ⟨t, rfl, ht, hz⟩ := (hpO _ hq').keep (sn.trans (s7.trans s8))
                    refine ⟨t, _, rfl, sqT_of ht, rfl, _, _, rfl, _, _, rfl, _, _, rfl, rfl, rfl, _, rfl, _, rfl, ite2 (fun ha => ⟨_, rfl, h1 ha _ (Same.refl _)⟩) (fun ha => h2 (Bool.eq_false_iff.mpr ha) _ (Same.refl _))⟩
                  · have hDE9 := hDE8.trans (congrArg (fun l => some (HO.lst l)) (pk (fun a _ => a)))
                    refine ⟨by show 0 ≤ sizeLine; decide, fun e2 he2 => ⟨DE, e2, _, rfl, rfl, SqL.of (same_new he2 _ _ hDE9), SqL.of upd_same, rfl, ?_⟩⟩
                    rw [bo_eb cov hl hr7, decide_eq_true rfl]
                    exact q _ (sO.trans (sn.trans (s7.trans (s8.trans (same_new (o := .lst []) he2)))))
end

/-! ### the law of equal markers -/
section
variable {P : Program} {w : World} {K : PySem.W.Frag} {mg : Str → Option Value} {base : Heap} {D : Ad}
open TL SX
def fx1 : Tr := .lf ⟨wLevel, [60], .inr 99⟩
def fx2 : Tr := .bi false (.lf ⟨wLevel, [60], .inr 0⟩) (.lf ⟨wLevel, [62], .inr 99⟩)
def fx3 : Tr := .no (.lf ⟨wSystem, [61, 61], .inl [97]⟩)
def fx4 : Tr := .lf (opT (if false = true then wAlways else wNever))
def fx5 : Tr := .lf ⟨wSystem, [61, 61], .inl [122, 122]⟩
def fx0 : Tr := .lf (opT (if true = true then wAlways else wNever))
theorem fg1 : ∀ x ∈ fx1.lvs, GT x := fun x hx => by
  rw [show x = ⟨wLevel, [60], .inr 99⟩ by simpa [fx1, Tr.lvs] using hx]
  exact gt_lev (by decide) (by decide)
theorem fg2 : ∀ x ∈ fx2.lvs, GT x := fun x hx => by
  have : x = ⟨wLevel, [60], .inr 0⟩ ∨ x = ⟨wLevel, [62], .inr 99⟩ := by simpa [fx2, Tr.lvs] using hx
  rcases this with rfl | rfl <;> exact gt_lev (by decide) (by decide)
theorem fg3 : ∀ x ∈ fx3.lvs, GT x := fun x hx => by
  rw [show x = ⟨wSystem, [61, 61], .inl [97]⟩ by simpa [fx3, Tr.lvs] using hx]
  exact gt_word (by decide) (by decide) (by decide)
theorem fg4 : ∀ x ∈ fx4.lvs, GT x := fun x hx => by
  rw [show x = opT (if false = true then wAlways else wNever) by simpa [fx4, Tr.lvs] using hx]
  exact gt_all false
theorem fg0 : ∀ x ∈ fx0.lvs, GT x := fun x hx => by
  rw [show x = opT (if true = true then wAlways else wNever) by simpa [fx0, Tr.lvs] using hx]
  exact gt_all true
theorem fg5 : ∀ x ∈ fx5.lvs, GT x := fun x hx => by
  rw [show x = ⟨wSystem, [61, 61], .inl [122, 122]⟩ by simpa [fx5, Tr.lvs] using hx]
  exact ⟨by decide, by unfold TmOk; rw [if_pos (by decide)]; decide +kernel, ⟨by decide, by decide, by decide, fun n e => by cases e⟩, fun _ => ⟨by decide, by decide, by decide⟩⟩
theorem ft1 : (("level < 99" : String) : Str) = S fx1.wr := by decide +kernel
theorem ft2 : (("level < 0 or level > 99" : String) : Str) = S fx2.wr := by decide +kernel
theorem ft3 : (("not system == a" : String) : Str) = S fx3.wr := by decide +kernel
theorem ft4 : (("never" : String) : Str) = S fx4.wr := by decide +kernel
theorem ft5 : (("system == zz" : String) : Str) = S fx5.wr := by decide +kernel
theorem ft0 : (("always" : String) : Str) = S fx0.wr := by decide +kernel
theorem xa : V.str "a" = V.str (S [97]) := congrArg V.str (by decide +kernel)
def spLaw (K : PySem.W.Frag) : Sp := fun vs H Q _ => ∃ (a : Addr) (ns : List Int), vs = [.ref a] ∧ Bare K H a (ns.map V.int) ∧ ns.length ≤ 63 ∧ ∀ H', Q (.bl true) H'
theorem ok_law (T : TexW w K mg D) : FnG P w K mg base 18 D.a_law D.d_law P_law (spLaw K) := by
  have G_begin : FnOk P w K mg base CX0 1 D.a_begin D.d_begin P_begin (spBegin K) := ok_begin T
  have G_tree : FnOk P w K mg base CX0 8 D.a_tree D.d_tree P_tree (spTree 5) := ok_tree T 5
  have G_right : FnOk P w K mg base CX0 16 D.a_right D.d_right P_right (spRightK K) := ok_rightK T
  have G_same : FnOk P w K mg base CX0 8 D.a_same D.d_same P_same spSame := ok_same T
  have G_Marker_init : FnOk P w K mg base CX0 8 D.a_Marker_init D.d_Marker_init P_Marker_init (spMInit K D.a_Marker) := ok_Marker_init T
  have G_Marker_le : FnOk P w K mg base CX0 10 D.a_Marker_le D.d_Marker_le P_Marker_le (spLe3 K D.a_Marker) := ok_Le3 T
  have G_Marker_bool : FnOk P w K mg base CX0 10 D.a_Marker_bool D.d_Marker_bool P_Marker_bool (spBool3 K D.a_Marker) := ok_Bool3 T
  have G_apart : FnOk P w K mg base CX0 12 D.a_apart D.d_apart P_apart (spApM K D.a_Marker D.a_Environment) := ok_ApM T
  have G_Environment_init : FnOk P w K mg base (L2.CX P w) 5 D.a_Environment_init D.d_Environment_init P_Environment_init (spEInit K D.a_Environment D.a_BadEnvironment) := ok_Environment_init T
  have G_Environment_eq : FnOk P w K mg base CX0 1 D.a_Environment_eq D.d_Environment_eq P_Environment_eq (spEEq K D.a_Environment) := ok_Environment_eq T
  refine fnG_of T.law_F S_law (fun vs H Q E h => ?_) (fun cdv A outer s H vs Q hg hr h => ?_)
  · obtain ⟨a, ns, rfl, _⟩ := h
    rfl
  · obtain ⟨a, ns, rfl, hb, hl, q⟩ := h
    refine ⟨_, (pss_cons (ps_set (i := 1) S_law.nd rfl (Or.inl rfl) (pe_call G_begin (hr.mono (by decide)) (by rfl) T.begin_g T.begin_F.kp T.begin_b .nil pass0 (pa_cons (pv 0) pa_nil)))
      (pss_cons (ps_for PassesOwn.never rfl (pi_range1 rfl T.b_range (pa_cons pe_int pa_nil)) (pg_name (i := 2) S_law.nd rfl (Or.inl rfl)) (pss_cons (ps_par (i := 3) (j := 4) (by rfl) S_law.nd rfl rfl (by decide) rfl rfl (pa_cons (pe_call G_tree (hr.mono (by decide)) (by rfl) T.tree_g T.tree_F.kp T.tree_b .nil pass0 (pa_cons (pv 1) (pa_cons pe_int pa_nil))) (pa_cons (pe_call G_tree (hr.mono (by decide)) (by rfl) T.tree_g T.tree_F.kp T.tree_b .nil pass0 (pa_cons (pv 1) (pa_cons pe_int pa_nil))) pa_nil)) (by rfl))
      (pss_cons (ps_if (PW.pt (pw_or (pt_not (pt_val (pe_call G_right (hr.mono (by decide)) (by rfl) T.right_g T.right_F.kp T.right_b .nil pass0 (pa_cons (pv 3) (pa_cons (pv 4) pa_nil))))) (pw_or1 (pt_not (pt_val (pe_call G_right (hr.mono (by decide)) (by rfl) T.right_g T.right_F.kp T.right_b .nil pass0 (pa_cons (pv 3) (pa_cons (pe_call G_same (hr.mono (by decide)) (by rfl) T.same_g T.same_F.kp T.same_b .nil pass0 (pa_cons (pv 1) (pa_cons (pv 3) pa_nil))) pa_nil)))))))) (pss_one (ps_ret pe_bl)) pss_nil)
      (pss_one (ps_if (pt_not (pt_val (pe_call G_right (hr.mono (by decide)) (by rfl) T.right_g T.right_F.kp T.right_b .nil pass0 (pa_cons (pe_call G_same (hr.mono (by decide)) (by rfl) T.same_g T.same_F.kp T.same_b .nil pass0 (pa_cons (pv 1) (pa_cons (pv 4) pa_nil))) (pa_cons (pv 4) pa_nil))))) (pss_one (ps_ret pe_bl)) pss_nil)))))
      (pss_cons (ps_if (PW.pt (pw_or (pt_cmpR (op_neOwn T.Environment_ne_b T.Environment_si.cm T.Environment_eq_at T.Environment_eq_fn (G_Environment_eq.raw T.Environment_eq_b .nil) (hr.mono (by decide)) pass0) (pe_call G_apart (hr.mono (by decide)) (by rfl) T.apart_g T.apart_F.kp T.apart_b .nil pass0 (pa_cons (pe_make T.Marker_mk G_Marker_init (hr.mono (by decide)) rfl T.Marker_g T.Marker_init_b .nil pass0 (pa_cons pe_str pa_nil)) (pa_cons (pe_make0 T.Marker_mk G_Marker_init (hr.mono (by decide)) rfl T.Marker_g T.Marker_init_b0.choose_spec.2 T.Marker_init_b0.choose_spec.1 pass0) pa_nil))) (pe_makeKS T.Environment_mk G_Environment_init (hr.mono (by decide)) rfl T.Environment_g (T.Environment_init_km_level).choose_spec (fun σ pins H s e s' => passL pins σ H s e s') (pk_cons pe_int pk_nil)) (nomark _)) (pw_or1 (pt_val (pe_callTy (call_boolD T.Marker_bool_at T.Marker_bool_fn (G_Marker_bool.raw T.Marker_bool_b .nil) (hr.mono (by decide)) pass0) (by rfl) T.b_bool (by decide +kernel) (pa_cons (pe_make T.Marker_mk G_Marker_init (hr.mono (by decide)) rfl T.Marker_g T.Marker_init_b .nil pass0 (pa_cons pe_str pa_nil)) pa_nil)))))) (pss_one (ps_ret pe_bl)) pss_nil)
      (pss_one (ps_ret (pe_and (pe_cmpR (op_ownD (fun _ _ => rfl) T.Environment_eq_at T.Environment_eq_fn T.Environment_nf (G_Environment_eq.raw T.Environment_eq_b .nil) (hr.mono (by decide)) pass0) (pe_call G_apart (hr.mono (by decide)) (by rfl) T.apart_g T.apart_F.kp T.apart_b .nil pass0 (pa_cons (pe_make T.Marker_mk G_Marker_init (hr.mono (by decide)) rfl T.Marker_g T.Marker_init_b .nil pass0 (pa_cons pe_str pa_nil)) (pa_cons (pe_make0 T.Marker_mk G_Marker_init (hr.mono (by decide)) rfl T.Marker_g T.Marker_init_b0.choose_spec.2 T.Marker_init_b0.choose_spec.1 pass0) pa_nil))) (pe_make0 T.Environment_mk G_Environment_init (hr.mono (by decide)) rfl T.Environment_g T.Environment_init_b0.choose_spec.2 T.Environment_init_b0.choose_spec.1 passL) (nomark _)) (pe_one (pe_cmpR (op_ownD (fun _ _ => rfl) T.Marker_le_at T.Marker_le_fn T.Marker_nf (G_Marker_le.raw T.Marker_le_b .nil) (hr.mono (by decide)) pass0) (pe_make T.Marker_mk G_Marker_init (hr.mono (by decide)) rfl T.Marker_g T.Marker_init_b .nil pass0 (pa_cons pe_str pa_nil)) (pe_make T.Marker_mk G_Marker_init (hr.mono (by decide)) rfl T.Marker_g T.Marker_init_b .nil pass0 (pa_cons pe_str pa_nil)) (nomark _))))))))), ?_⟩
    refine ⟨_, rfl, a, ns, rfl, hb, hl, fun d c H1 hd s1 D1 => ?_⟩
    refine ⟨2, rfl, by decide, by decide, ?_⟩
    refine for_range (lo := 0) (n := 2) (fun i σ H' => ∃ o2 o3 o4 : Option V, σ = [some (.ref a), some (.ref d), o2, o3, o4] ∧ Dr H' d c (60 * i)) ⟨none, none, none, rfl, D1⟩ ?_ ?_
    · rintro i σ H2 hi ⟨o2, o3, o4, rfl, D2⟩
      have dw : drw 2 = 24 := rfl
      have zw : szb 2 = 7 := rfl
      refine ⟨_, rfl, d, c, 2, _, rfl, by decide, D2, by omega, fun p1 t1 H4 ht1 hg1 hz1 he1 b4 d4 => ⟨_, rfl, d, c, 2, _, rfl, by decide, d4, by omega, fun p2 t2 H5 ht2 hg2 hz2 he2 b5 d5 => ⟨_, _, rfl, nx_to ?_⟩⟩⟩
      have ht1 := ht1.keep (tk_but d4 b5)
      refine ⟨_, rfl, _, rfl, p1, p2, t1, t2, rfl, ht1, ht2, by omega, by omega, by omega, by omega, hg1, hg2, fun H6 s6 => ⟨_, rfl, iteF ?_⟩⟩
      have ht1 := ht1.keep (tk_same s6)
      have ht2 := ht2.keep (tk_same s6)
      have d6 := d5.keep s6
      refine ⟨_, rfl, _, rfl, _, rfl, d, p1, c, _, t1, rfl, d6, by omega, ht1, he1, by omega, hg1, fun p3 t3 H7 ht3 hg3 hz3 he3 b7 d7 => ?_⟩
      have ht1 := ht1.keep (tk_but d6 b7)
      have ht2 := ht2.keep (tk_but d6 b7)
      refine ⟨p1, p3, t1, t3, rfl, ht1, ht3, by omega, by omega, by omega, by omega, hg1, hg3, fun H8 s8 => ⟨_, rfl, iteF ?_⟩⟩
      have ht2 := ht2.keep (tk_same s8)
      have d8 := d7.keep s8
      refine ⟨_, rfl, _, rfl, d, p2, c, _, t2, rfl, d8, by omega, ht2, he2, by omega, hg2, fun p4 t4 H9 ht4 hg4 hz4 he4 b9 d9 => ⟨_, rfl, p4, p2, t4, t2, rfl, ht4, ht2.keep (tk_but d8 b9), by omega, by omega, by omega, by omega, hg4, hg2, fun H10 s10 => ⟨_, rfl, iteF ⟨_, _, _, rfl, (d9.keep s10).mono (by omega)⟩⟩⟩⟩
    · rintro σ H2 ⟨o2, o3, o4, rfl, D2⟩
      obtain ⟨us1, r1, k1⟩ := read_wr fg1
      obtain ⟨us2, r2, k2⟩ := read_wr fg2
      obtain ⟨us3, r3, k3⟩ := read_wr fg3
      obtain ⟨us4, r4, k4⟩ := read_wr fg4
      obtain ⟨us5, r5, k5⟩ := read_wr fg5
      obtain ⟨us0, r0, k0⟩ := read_wr fg0
      refine fun a1 da1 ha1 hda1 _ => ⟨a1, da1, fx1.wr, us1, congrArg (fun t => [V.ref a1, V.str t]) ft1, upd_same, by decide, r1, fun G1 pa1 qa1 sa1 hpa1 hra1 => ⟨rfl, ?_⟩⟩
      obtain ⟨sA1, mA1⟩ := mkr_new ha1 hda1 sa1 hpa1 hra1
      refine fun a2 da2 ha2 hda2 _ => ⟨a2, da2, fx0.wr, us0, congrArg (fun t => [V.ref a2, V.str t]) ft0, upd_same, by decide, r0, fun G2 pa2 qa2 sa2 hpa2 hra2 => ⟨rfl, ?_⟩⟩
      obtain ⟨sA2, mA2⟩ := mkr_new ha2 hda2 sa2 hpa2 hra2
      have sz1 : fx1.sz ≤ 1 := by decide
      have M1 := (mk3_like mA1 k1 fg1 sz1).keep sA2
      have M0 := mk3_like mA2 k0 fg0 (show fx0.sz ≤ 1 by decide)
      have wa : wordT [97] = true := by decide
      have pa : pw [97] = 1 := rfl
      refine ⟨a1, a2, _, _, 1, 1, rfl, M1, M0, by omega, fun v H3 s3 hv => ?_⟩
      obtain ⟨e, rfl, hE⟩ := hv.first (p := ⟨[97], [97], 99⟩) ⟨wa, wa, by decide⟩ (by decide) (fun q hq hd => by
        have hn : ¬ q.v < 99 := fun k => hd (by
          have e1 : fx1.val (evT q) = true := by
            show cmpN [60] q.v 99 = true
            unfold cmpN
            simp [k, Nat.le_of_lt k]
          exact e1)
        have := pw_pos (word_nl hq.s).1
        have := pw_pos (word_nl hq.m).1
        have := hq.v
        unfold sLe sLt
        show (pw [97] < _ ∨ pw [97] = _ ∧ (pw [97] < _ ∨ pw [97] = _ ∧ 99 < _)) ∨ (pw [97] = _ ∧ pw [97] = _ ∧ 99 = _)
        rw [pa]
        omega)
      refine ⟨rfl, fun y dy hy hdy _ => ⟨y, dy, _, _, _, rfl, upd_same, .inl ⟨[97], [97], 99, xa, xa, rfl, wa, wa, by decide, fun H4 s4 => ⟨rfl, ?_⟩⟩⟩⟩
      have ms := made_same (fs := EnF [97] [97] 99) hy hdy s4
      have en1 : Env D.a_Environment (upd H4 y (.ins D.a_Environment dy (EnF [97] [97] 99))) y [97] [97] 99 := ⟨dy, upd_same⟩
      obtain ⟨de, ie⟩ := hE
      have ie := ms _ _ ie
      refine ⟨e, _, _, y, dy, _, rfl, rfl, ie, upd_same, e, [97], [97], 99, _, rfl, ⟨de, ie⟩, .inl ⟨y, [97], [97], 99, rfl, en1, _, rfl, ?_⟩⟩
      rw [decide_eq_true rfl]
      refine ⟨_, rfl, iteF ?_⟩
      refine fun a3 da3 ha3 hda3 _ => ⟨a3, da3, fx2.wr, us2, congrArg (fun t => [V.ref a3, V.str t]) ft2, upd_same, by decide, r2, fun G3 pa3 qa3 sa3 hpa3 hra3 => ⟨rfl, ?_⟩⟩
      obtain ⟨sA3, mA3⟩ := mkr_new ha3 hda3 sa3 hpa3 hra3
      have M3 := mk3_like mA3 k2 fg2 (show fx2.sz ≤ 3 by decide)
      refine nil_to ?_
      refine bool3 M3 (by decide) fun rb H5 hrb s5 => ?_
      obtain rfl : rb = false := by
        cases rb with
        | false => rfl
        | true =>
          obtain ⟨p, hp, hv⟩ := hrb.mp rfl
          have e1 : fx2.val (evT p) = (cmpN [60] p.v 0 || cmpN [62] p.v 99) := rfl
          have hv : fx2.val (evT p) = true := hv
          rw [e1] at hv
          unfold cmpN at hv
          simp at hv
          omega
      refine ⟨_, rfl, iteF ?_⟩
      refine fun a4 da4 ha4 hda4 _ => ⟨a4, da4, fx3.wr, us3, congrArg (fun t => [V.ref a4, V.str t]) ft3, upd_same, by decide, r3, fun G4 pa4 qa4 sa4 hpa4 hra4 => ⟨rfl, ?_⟩⟩
      obtain ⟨sA4, mA4⟩ := mkr_new ha4 hda4 sa4 hpa4 hra4
      refine fun a5 da5 ha5 hda5 _ => ⟨a5, da5, fx0.wr, us0, congrArg (fun t => [V.ref a5, V.str t]) ft0, upd_same, by decide, r0, fun G5 pa5 qa5 sa5 hpa5 hra5 => ⟨rfl, ?_⟩⟩
      obtain ⟨sA5, mA5⟩ := mkr_new ha5 hda5 sa5 hpa5 hra5
      have M4 := (mk3_like mA4 k3 fg3 (show fx3.sz ≤ 2 by decide)).keep sA5
      have M5 := mk3_like mA5 k0 fg0 (show fx0.sz ≤ 1 by decide)
      refine ⟨a4, a5, _, _, 2, 1, rfl, M4, M5, by omega, fun v H6 s6 hv => ?_⟩
      obtain ⟨e, rfl, hE⟩ := hv.first (p := ⟨[97], [97], 0⟩) ⟨wa, wa, by decide⟩ (by decide) (fun q hq hd => by
        have hn : q.s = [97] := by
          by_cases k : q.s = [97]
          · exact k
          · refine absurd ?_ hd
            have e1 : fx3.val (evT q) = true := by
              show (!cmpS [61, 61] q.s [97]) = true
              unfold cmpS
              simp [k]
            exact e1
        have := pw_pos (word_nl hq.m).1
        unfold sLe sLt
        show (pw [97] < _ ∨ pw [97] = _ ∧ (pw [97] < _ ∨ pw [97] = _ ∧ 0 < _)) ∨ (pw [97] = _ ∧ pw [97] = _ ∧ 0 = _)
        rw [hn, pa]
        omega)
      refine fun y dy hy hdy _ => ⟨y, dy, _, _, _, rfl, upd_same, .inl ⟨[97], [97], 0, xa, xa, rfl, wa, wa, by decide, fun H7 s7 => ⟨rfl, ?_⟩⟩⟩
      have ms := made_same (fs := EnF [97] [97] 0) hy hdy s7
      have en2 : Env D.a_Environment (upd H7 y (.ins D.a_Environment dy (EnF [97] [97] 0))) y [97] [97] 0 := ⟨dy, upd_same⟩
      obtain ⟨de, ie⟩ := hE
      have ie := ms _ _ ie
      refine ⟨e, _, _, y, dy, _, rfl, rfl, ie, upd_same, e, [97], [97], 0, _, rfl, ⟨de, ie⟩, .inl ⟨y, [97], [97], 0, rfl, en2, ?_⟩⟩
      rw [decide_eq_true rfl]
      refine ⟨_, rfl, iteT ?_⟩
      refine fun a6 da6 ha6 hda6 _ => ⟨a6, da6, fx4.wr, us4, congrArg (fun t => [V.ref a6, V.str t]) ft4, upd_same, by decide, r4, fun G6 pa6 qa6 sa6 hpa6 hra6 => ⟨rfl, ?_⟩⟩
      obtain ⟨sA6, mA6⟩ := mkr_new ha6 hda6 sa6 hpa6 hra6
      refine fun a7 da7 ha7 hda7 _ => ⟨a7, da7, fx5.wr, us5, congrArg (fun t => [V.ref a7, V.str t]) ft5, upd_same, by decide, r5, fun G7 pa7 qa7 sa7 hpa7 hra7 => ⟨rfl, ?_⟩⟩
      obtain ⟨sA7, mA7⟩ := mkr_new ha7 hda7 sa7 hpa7 hra7
      have M6 := (mk3_like mA6 k4 fg4 (show fx4.sz ≤ 1 by decide)).keep sA7
      have M7 := mk3_like mA7 k5 fg5 (show fx5.sz ≤ 1 by decide)
      refine le3 M6 M7 (by decide) fun rr H8 hrr s8 => ?_
      obtain rfl : rr = true := hrr.mpr fun p _ hv => by
        have hv : false = true := hv
        cases hv
      exact q _
end

theorem all_mk {l : PySem.W.OpenLaw} {w : World} {K : PySem.W.Frag} {h : Heap} {mg : Str → Option Value} {fa : Addr} (X : K.In h) (G : h.Ns mainGlobals mg) (hfa : mg "law" = some (.ref fa))
    {f_is_whole : Addr} {od_is_whole an_is_whole : Option Addr} {sl_is_whole : Array (Option Value)} {oc_is_whole kV_is_whole dc_is_whole pm_is_whole cd_is_whole ct_is_whole : Value}
    (n_is_whole : PySem.W.nsIn K mainGlobals "is_whole" = some (some (.ref f_is_whole)))
    (l_is_whole : K.lookup f_is_whole = some ⟨oc_is_whole, od_is_whole, .func (PySem.W.fnOf "is_whole" "is_whole" (defArgs s_is_whole) (defBody s_is_whole) (defScope s_is_whole) .none kV_is_whole dc_is_whole pm_is_whole an_is_whole cd_is_whole ct_is_whole), sl_is_whole⟩)
    (c_is_whole : PySem.W.codeIn K cd_is_whole "is_whole" = true)
    (k_is_whole : PySem.W.keepIn K (.ref f_is_whole) = true)
    {f_is_count : Addr} {od_is_count an_is_count : Option Addr} {sl_is_count : Array (Option Value)} {oc_is_count kV_is_count dc_is_count pm_is_count cd_is_count ct_is_count : Value}
    (n_is_count : PySem.W.nsIn K mainGlobals "is_count" = some (some (.ref f_is_count)))
    (l_is_count : K.lookup f_is_count = some ⟨oc_is_count, od_is_count, .func (PySem.W.fnOf "is_count" "is_count" (defArgs s_is_count) (defBody s_is_count) (defScope s_is_count) .none kV_is_count dc_is_count pm_is_count an_is_count cd_is_count ct_is_count), sl_is_count⟩)
    (c_is_count : PySem.W.codeIn K cd_is_count "is_count" = true)
    (k_is_count : PySem.W.keepIn K (.ref f_is_count) = true)
    {f_is_whole_to : Addr} {od_is_whole_to an_is_whole_to : Option Addr} {sl_is_whole_to : Array (Option Value)} {oc_is_whole_to kV_is_whole_to dc_is_whole_to pm_is_whole_to cd_is_whole_to ct_is_whole_to : Value}
    (n_is_whole_to : PySem.W.nsIn K mainGlobals "is_whole_to" = some (some (.ref f_is_whole_to)))
    (l_is_whole_to : K.lookup f_is_whole_to = some ⟨oc_is_whole_to, od_is_whole_to, .func (PySem.W.fnOf "is_whole_to" "is_whole_to" (defArgs s_is_whole_to) (defBody s_is_whole_to) (defScope s_is_whole_to) .none kV_is_whole_to dc_is_whole_to pm_is_whole_to an_is_whole_to cd_is_whole_to ct_is_whole_to), sl_is_whole_to⟩)
    (c_is_whole_to : PySem.W.codeIn K cd_is_whole_to "is_whole_to" = true)
    (k_is_whole_to : PySem.W.keepIn K (.ref f_is_whole_to) = true)
    {f_consists_of : Addr} {od_consists_of an_consists_of : Option Addr} {sl_consists_of : Array (Option Value)} {oc_consists_of kV_consists_of dc_consists_of pm_consists_of cd_consists_of ct_consists_of : Value}
    (n_consists_of : PySem.W.nsIn K mainGlobals "consists_of" = some (some (.ref f_consists_of)))
    (l_consists_of : K.lookup f_consists_of = some ⟨oc_consists_of, od_consists_of, .func (PySem.W.fnOf "consists_of" "consists_of" (defArgs s_consists_of) (defBody s_consists_of) (defScope s_consists_of) .none kV_consists_of dc_consists_of pm_consists_of an_consists_of cd_consists_of ct_consists_of), sl_consists_of⟩)
    (c_consists_of : PySem.W.codeIn K cd_consists_of "consists_of" = true)
    (k_consists_of : PySem.W.keepIn K (.ref f_consists_of) = true)
    {f_is_string_of : Addr} {od_is_string_of an_is_string_of : Option Addr} {sl_is_string_of : Array (Option Value)} {oc_is_string_of kV_is_string_of dc_is_string_of pm_is_string_of cd_is_string_of ct_is_string_of : Value}
    (n_is_string_of : PySem.W.nsIn K mainGlobals "is_string_of" = some (some (.ref f_is_string_of)))
    (l_is_string_of : K.lookup f_is_string_of = some ⟨oc_is_string_of, od_is_string_of, .func (PySem.W.fnOf "is_string_of" "is_string_of" (defArgs s_is_string_of) (defBody s_is_string_of) (defScope s_is_string_of) .none kV_is_string_of dc_is_string_of pm_is_string_of an_is_string_of cd_is_string_of ct_is_string_of), sl_is_string_of⟩)
    (c_is_string_of : PySem.W.codeIn K cd_is_string_of "is_string_of" = true)
    (k_is_string_of : PySem.W.keepIn K (.ref f_is_string_of) = true)
    {f_number_in : Addr} {od_number_in an_number_in : Option Addr} {sl_number_in : Array (Option Value)} {oc_number_in kV_number_in dc_number_in pm_number_in cd_number_in ct_number_in : Value}
    (n_number_in : PySem.W.nsIn K mainGlobals "number_in" = some (some (.ref f_number_in)))
    (l_number_in : K.lookup f_number_in = some ⟨oc_number_in, od_number_in, .func (PySem.W.fnOf "number_in" "number_in" (defArgs s_number_in) (defBody s_number_in) (defScope s_number_in) .none kV_number_in dc_number_in pm_number_in an_number_in cd_number_in ct_number_in), sl_number_in⟩)
    (c_number_in : PySem.W.codeIn K cd_number_in "number_in" = true)
    (k_number_in : PySem.W.keepIn K (.ref f_number_in) = true)
    {f_is_word : Addr} {od_is_word an_is_word : Option Addr} {sl_is_word : Array (Option Value)} {oc_is_word kV_is_word dc_is_word pm_is_word cd_is_word ct_is_word : Value}
    (n_is_word : PySem.W.nsIn K mainGlobals "is_word" = some (some (.ref f_is_word)))
    (l_is_word : K.lookup f_is_word = some ⟨oc_is_word, od_is_word, .func (PySem.W.fnOf "is_word" "is_word" (defArgs s_is_word) (defBody s_is_word) (defScope s_is_word) .none kV_is_word dc_is_word pm_is_word an_is_word cd_is_word ct_is_word), sl_is_word⟩)
    (c_is_word : PySem.W.codeIn K cd_is_word "is_word" = true)
    (k_is_word : PySem.W.keepIn K (.ref f_is_word) = true)
    {f_place_of_word : Addr} {od_place_of_word an_place_of_word : Option Addr} {sl_place_of_word : Array (Option Value)} {oc_place_of_word kV_place_of_word dc_place_of_word pm_place_of_word cd_place_of_word ct_place_of_word : Value}
    (n_place_of_word : PySem.W.nsIn K mainGlobals "place_of_word" = some (some (.ref f_place_of_word)))
    (l_place_of_word : K.lookup f_place_of_word = some ⟨oc_place_of_word, od_place_of_word, .func (PySem.W.fnOf "place_of_word" "place_of_word" (defArgs s_place_of_word) (defBody s_place_of_word) (defScope s_place_of_word) .none kV_place_of_word dc_place_of_word pm_place_of_word an_place_of_word cd_place_of_word ct_place_of_word), sl_place_of_word⟩)
    (c_place_of_word : PySem.W.codeIn K cd_place_of_word "place_of_word" = true)
    (k_place_of_word : PySem.W.keepIn K (.ref f_place_of_word) = true)
    {f_word_at : Addr} {od_word_at an_word_at : Option Addr} {sl_word_at : Array (Option Value)} {oc_word_at kV_word_at dc_word_at pm_word_at cd_word_at ct_word_at : Value}
    (n_word_at : PySem.W.nsIn K mainGlobals "word_at" = some (some (.ref f_word_at)))
    (l_word_at : K.lookup f_word_at = some ⟨oc_word_at, od_word_at, .func (PySem.W.fnOf "word_at" "word_at" (defArgs s_word_at) (defBody s_word_at) (defScope s_word_at) .none kV_word_at dc_word_at pm_word_at an_word_at cd_word_at ct_word_at), sl_word_at⟩)
    (c_word_at : PySem.W.codeIn K cd_word_at "word_at" = true)
    (k_word_at : PySem.W.keepIn K (.ref f_word_at) = true)
    {f_place_of : Addr} {od_place_of an_place_of : Option Addr} {sl_place_of : Array (Option Value)} {oc_place_of kV_place_of dc_place_of pm_place_of cd_place_of ct_place_of : Value}
    (n_place_of : PySem.W.nsIn K mainGlobals "place_of" = some (some (.ref f_place_of)))
    (l_place_of : K.lookup f_place_of = some ⟨oc_place_of, od_place_of, .func (PySem.W.fnOf "place_of" "place_of" (defArgs s_place_of) (defBody s_place_of) (defScope s_place_of) .none kV_place_of dc_place_of pm_place_of an_place_of cd_place_of ct_place_of), sl_place_of⟩)
    (c_place_of : PySem.W.codeIn K cd_place_of "place_of" = true)
    (k_place_of : PySem.W.keepIn K (.ref f_place_of) = true)
    {f_Environment : Addr}
    {f_Environment_init : Addr} {od_Environment_init an_Environment_init : Option Addr} {sl_Environment_init : Array (Option Value)} {oc_Environment_init dc_Environment_init pm_Environment_init cd_Environment_init ct_Environment_init : Value}
    (n_Environment : PySem.W.nsIn K mainGlobals "Environment" = some (some (.ref f_Environment)))
    (at_Environment_init : PySem.W.findIn K (.ref f_Environment) "__init__" = some (some (.ref f_Environment_init)))
    {kD_Environment_init : Addr} {kt_Environment_init_system : Tok} {kt_Environment_init_machine : Tok} {kt_Environment_init_level : Tok}
    (l_Environment_init : K.lookup f_Environment_init = some ⟨oc_Environment_init, od_Environment_init, .func (PySem.W.fnOf "__init__" "Environment.__init__" (defArgs s_Environment_init) (defBody s_Environment_init) (defScope s_Environment_init) .none (.ref kD_Environment_init) dc_Environment_init pm_Environment_init an_Environment_init cd_Environment_init ct_Environment_init), sl_Environment_init⟩)
    (kd_Environment_init_system : PySem.W.nsIn K kD_Environment_init "system" = some (some (.str "a" kt_Environment_init_system)))
    (kd_Environment_init_machine : PySem.W.nsIn K kD_Environment_init "machine" = some (some (.str "a" kt_Environment_init_machine)))
    (kd_Environment_init_level : PySem.W.nsIn K kD_Environment_init "level" = some (some (.int 0 kt_Environment_init_level)))
    (c_Environment_init : PySem.W.codeIn K cd_Environment_init "Environment.__init__" = true)
    (k_Environment_init : PySem.W.keepIn K (.ref f_Environment_init) = true)
    {f_Environment_eq : Addr} {od_Environment_eq an_Environment_eq : Option Addr} {sl_Environment_eq : Array (Option Value)} {oc_Environment_eq kV_Environment_eq dc_Environment_eq pm_Environment_eq cd_Environment_eq ct_Environment_eq : Value}
    (at_Environment_eq : PySem.W.findIn K (.ref f_Environment) "__eq__" = some (some (.ref f_Environment_eq)))
    (l_Environment_eq : K.lookup f_Environment_eq = some ⟨oc_Environment_eq, od_Environment_eq, .func (PySem.W.fnOf "__eq__" "Environment.__eq__" (defArgs s_Environment_eq) (defBody s_Environment_eq) (defScope s_Environment_eq) .none kV_Environment_eq dc_Environment_eq pm_Environment_eq an_Environment_eq cd_Environment_eq ct_Environment_eq), sl_Environment_eq⟩)
    (c_Environment_eq : PySem.W.codeIn K cd_Environment_eq "Environment.__eq__" = true)
    (k_Environment_eq : PySem.W.keepIn K (.ref f_Environment_eq) = true)
    {f_token_at : Addr} {od_token_at an_token_at : Option Addr} {sl_token_at : Array (Option Value)} {oc_token_at kV_token_at dc_token_at pm_token_at cd_token_at ct_token_at : Value}
    (n_token_at : PySem.W.nsIn K mainGlobals "token_at" = some (some (.ref f_token_at)))
    (l_token_at : K.lookup f_token_at = some ⟨oc_token_at, od_token_at, .func (PySem.W.fnOf "token_at" "token_at" (defArgs s_token_at) (defBody s_token_at) (defScope s_token_at) .none kV_token_at dc_token_at pm_token_at an_token_at cd_token_at ct_token_at), sl_token_at⟩)
    (c_token_at : PySem.W.codeIn K cd_token_at "token_at" = true)
    (k_token_at : PySem.W.keepIn K (.ref f_token_at) = true)
    {f_tokens_of : Addr} {od_tokens_of an_tokens_of : Option Addr} {sl_tokens_of : Array (Option Value)} {oc_tokens_of kV_tokens_of dc_tokens_of pm_tokens_of cd_tokens_of ct_tokens_of : Value}
    (n_tokens_of : PySem.W.nsIn K mainGlobals "tokens_of" = some (some (.ref f_tokens_of)))
    (l_tokens_of : K.lookup f_tokens_of = some ⟨oc_tokens_of, od_tokens_of, .func (PySem.W.fnOf "tokens_of" "tokens_of" (defArgs s_tokens_of) (defBody s_tokens_of) (defScope s_tokens_of) .none kV_tokens_of dc_tokens_of pm_tokens_of an_tokens_of cd_tokens_of ct_tokens_of), sl_tokens_of⟩)
    (c_tokens_of : PySem.W.codeIn K cd_tokens_of "tokens_of" = true)
    (k_tokens_of : PySem.W.keepIn K (.ref f_tokens_of) = true)
    {f_comparison_of : Addr} {od_comparison_of an_comparison_of : Option Addr} {sl_comparison_of : Array (Option Value)} {oc_comparison_of kV_comparison_of dc_comparison_of pm_comparison_of cd_comparison_of ct_comparison_of : Value}
    (n_comparison_of : PySem.W.nsIn K mainGlobals "comparison_of" = some (some (.ref f_comparison_of)))
    (l_comparison_of : K.lookup f_comparison_of = some ⟨oc_comparison_of, od_comparison_of, .func (PySem.W.fnOf "comparison_of" "comparison_of" (defArgs s_comparison_of) (defBody s_comparison_of) (defScope s_comparison_of) .none kV_comparison_of dc_comparison_of pm_comparison_of an_comparison_of cd_comparison_of ct_comparison_of), sl_comparison_of⟩)
    (c_comparison_of : PySem.W.codeIn K cd_comparison_of "comparison_of" = true)
    (k_comparison_of : PySem.W.keepIn K (.ref f_comparison_of) = true)
    {f_terms_of : Addr} {od_terms_of an_terms_of : Option Addr} {sl_terms_of : Array (Option Value)} {oc_terms_of kV_terms_of dc_terms_of pm_terms_of cd_terms_of ct_terms_of : Value}
    (n_terms_of : PySem.W.nsIn K mainGlobals "terms_of" = some (some (.ref f_terms_of)))
    (l_terms_of : K.lookup f_terms_of = some ⟨oc_terms_of, od_terms_of, .func (PySem.W.fnOf "terms_of" "terms_of" (defArgs s_terms_of) (defBody s_terms_of) (defScope s_terms_of) .none kV_terms_of dc_terms_of pm_terms_of an_terms_of cd_terms_of ct_terms_of), sl_terms_of⟩)
    (c_terms_of : PySem.W.codeIn K cd_terms_of "terms_of" = true)
    (k_terms_of : PySem.W.keepIn K (.ref f_terms_of) = true)
    {f_expression_of : Addr} {od_expression_of an_expression_of : Option Addr} {sl_expression_of : Array (Option Value)} {oc_expression_of kV_expression_of dc_expression_of pm_expression_of cd_expression_of ct_expression_of : Value}
    (n_expression_of : PySem.W.nsIn K mainGlobals "expression_of" = some (some (.ref f_expression_of)))
    (l_expression_of : K.lookup f_expression_of = some ⟨oc_expression_of, od_expression_of, .func (PySem.W.fnOf "expression_of" "expression_of" (defArgs s_expression_of) (defBody s_expression_of) (defScope s_expression_of) .none kV_expression_of dc_expression_of pm_expression_of an_expression_of cd_expression_of ct_expression_of), sl_expression_of⟩)
    (c_expression_of : PySem.W.codeIn K cd_expression_of "expression_of" = true)
    (k_expression_of : PySem.W.keepIn K (.ref f_expression_of) = true)
    {f_expression_in : Addr} {od_expression_in an_expression_in : Option Addr} {sl_expression_in : Array (Option Value)} {oc_expression_in kV_expression_in dc_expression_in pm_expression_in cd_expression_in ct_expression_in : Value}
    (n_expression_in : PySem.W.nsIn K mainGlobals "expression_in" = some (some (.ref f_expression_in)))
    (l_expression_in : K.lookup f_expression_in = some ⟨oc_expression_in, od_expression_in, .func (PySem.W.fnOf "expression_in" "expression_in" (defArgs s_expression_in) (defBody s_expression_in) (defScope s_expression_in) .none kV_expression_in dc_expression_in pm_expression_in an_expression_in cd_expression_in ct_expression_in), sl_expression_in⟩)
    (c_expression_in : PySem.W.codeIn K cd_expression_in "expression_in" = true)
    (k_expression_in : PySem.W.keepIn K (.ref f_expression_in) = true)
    {f_text_within : Addr} {od_text_within an_text_within : Option Addr} {sl_text_within : Array (Option Value)} {oc_text_within kV_text_within dc_text_within pm_text_within cd_text_within ct_text_within : Value}
    (n_text_within : PySem.W.nsIn K mainGlobals "text_within" = some (some (.ref f_text_within)))
    (l_text_within : K.lookup f_text_within = some ⟨oc_text_within, od_text_within, .func (PySem.W.fnOf "text_within" "text_within" (defArgs s_text_within) (defBody s_text_within) (defScope s_text_within) .none kV_text_within dc_text_within pm_text_within an_text_within cd_text_within ct_text_within), sl_text_within⟩)
    (c_text_within : PySem.W.codeIn K cd_text_within "text_within" = true)
    (k_text_within : PySem.W.keepIn K (.ref f_text_within) = true)
    {f_text_of_operand : Addr} {od_text_of_operand an_text_of_operand : Option Addr} {sl_text_of_operand : Array (Option Value)} {oc_text_of_operand kV_text_of_operand dc_text_of_operand pm_text_of_operand cd_text_of_operand ct_text_of_operand : Value}
    (n_text_of_operand : PySem.W.nsIn K mainGlobals "text_of_operand" = some (some (.ref f_text_of_operand)))
    (l_text_of_operand : K.lookup f_text_of_operand = some ⟨oc_text_of_operand, od_text_of_operand, .func (PySem.W.fnOf "text_of_operand" "text_of_operand" (defArgs s_text_of_operand) (defBody s_text_of_operand) (defScope s_text_of_operand) .none kV_text_of_operand dc_text_of_operand pm_text_of_operand an_text_of_operand cd_text_of_operand ct_text_of_operand), sl_text_of_operand⟩)
    (c_text_of_operand : PySem.W.codeIn K cd_text_of_operand "text_of_operand" = true)
    (k_text_of_operand : PySem.W.keepIn K (.ref f_text_of_operand) = true)
    {f_text_of_expression : Addr} {od_text_of_expression an_text_of_expression : Option Addr} {sl_text_of_expression : Array (Option Value)} {oc_text_of_expression kV_text_of_expression dc_text_of_expression pm_text_of_expression cd_text_of_expression ct_text_of_expression : Value}
    (n_text_of_expression : PySem.W.nsIn K mainGlobals "text_of_expression" = some (some (.ref f_text_of_expression)))
    (l_text_of_expression : K.lookup f_text_of_expression = some ⟨oc_text_of_expression, od_text_of_expression, .func (PySem.W.fnOf "text_of_expression" "text_of_expression" (defArgs s_text_of_expression) (defBody s_text_of_expression) (defScope s_text_of_expression) .none kV_text_of_expression dc_text_of_expression pm_text_of_expression an_text_of_expression cd_text_of_expression ct_text_of_expression), sl_text_of_expression⟩)
    (c_text_of_expression : PySem.W.codeIn K cd_text_of_expression "text_of_expression" = true)
    (k_text_of_expression : PySem.W.keepIn K (.ref f_text_of_expression) = true)
    {f_compares : Addr} {od_compares an_compares : Option Addr} {sl_compares : Array (Option Value)} {oc_compares kV_compares dc_compares pm_compares cd_compares ct_compares : Value}
    (n_compares : PySem.W.nsIn K mainGlobals "compares" = some (some (.ref f_compares)))
    (l_compares : K.lookup f_compares = some ⟨oc_compares, od_compares, .func (PySem.W.fnOf "compares" "compares" (defArgs s_compares) (defBody s_compares) (defScope s_compares) .none kV_compares dc_compares pm_compares an_compares cd_compares ct_compares), sl_compares⟩)
    (c_compares : PySem.W.codeIn K cd_compares "compares" = true)
    (k_compares : PySem.W.keepIn K (.ref f_compares) = true)
    {f_holds_at : Addr} {od_holds_at an_holds_at : Option Addr} {sl_holds_at : Array (Option Value)} {oc_holds_at kV_holds_at dc_holds_at pm_holds_at cd_holds_at ct_holds_at : Value}
    (n_holds_at : PySem.W.nsIn K mainGlobals "holds_at" = some (some (.ref f_holds_at)))
    (l_holds_at : K.lookup f_holds_at = some ⟨oc_holds_at, od_holds_at, .func (PySem.W.fnOf "holds_at" "holds_at" (defArgs s_holds_at) (defBody s_holds_at) (defScope s_holds_at) .none kV_holds_at dc_holds_at pm_holds_at an_holds_at cd_holds_at ct_holds_at), sl_holds_at⟩)
    (c_holds_at : PySem.W.codeIn K cd_holds_at "holds_at" = true)
    (k_holds_at : PySem.W.keepIn K (.ref f_holds_at) = true)
    {f_words_to_look_at : Addr} {od_words_to_look_at an_words_to_look_at : Option Addr} {sl_words_to_look_at : Array (Option Value)} {oc_words_to_look_at kV_words_to_look_at dc_words_to_look_at pm_words_to_look_at cd_words_to_look_at ct_words_to_look_at : Value}
    (n_words_to_look_at : PySem.W.nsIn K mainGlobals "words_to_look_at" = some (some (.ref f_words_to_look_at)))
    (l_words_to_look_at : K.lookup f_words_to_look_at = some ⟨oc_words_to_look_at, od_words_to_look_at, .func (PySem.W.fnOf "words_to_look_at" "words_to_look_at" (defArgs s_words_to_look_at) (defBody s_words_to_look_at) (defScope s_words_to_look_at) .none kV_words_to_look_at dc_words_to_look_at pm_words_to_look_at an_words_to_look_at cd_words_to_look_at ct_words_to_look_at), sl_words_to_look_at⟩)
    (c_words_to_look_at : PySem.W.codeIn K cd_words_to_look_at "words_to_look_at" = true)
    (k_words_to_look_at : PySem.W.keepIn K (.ref f_words_to_look_at) = true)
    {f_levels_to_look_at : Addr} {od_levels_to_look_at an_levels_to_look_at : Option Addr} {sl_levels_to_look_at : Array (Option Value)} {oc_levels_to_look_at kV_levels_to_look_at dc_levels_to_look_at pm_levels_to_look_at cd_levels_to_look_at ct_levels_to_look_at : Value}
    (n_levels_to_look_at : PySem.W.nsIn K mainGlobals "levels_to_look_at" = some (some (.ref f_levels_to_look_at)))
    (l_levels_to_look_at : K.lookup f_levels_to_look_at = some ⟨oc_levels_to_look_at, od_levels_to_look_at, .func (PySem.W.fnOf "levels_to_look_at" "levels_to_look_at" (defArgs s_levels_to_look_at) (defBody s_levels_to_look_at) (defScope s_levels_to_look_at) .none kV_levels_to_look_at dc_levels_to_look_at pm_levels_to_look_at an_levels_to_look_at cd_levels_to_look_at ct_levels_to_look_at), sl_levels_to_look_at⟩)
    (c_levels_to_look_at : PySem.W.codeIn K cd_levels_to_look_at "levels_to_look_at" = true)
    (k_levels_to_look_at : PySem.W.keepIn K (.ref f_levels_to_look_at) = true)
    {f_spots_to_look_at : Addr} {od_spots_to_look_at an_spots_to_look_at : Option Addr} {sl_spots_to_look_at : Array (Option Value)} {oc_spots_to_look_at kV_spots_to_look_at dc_spots_to_look_at pm_spots_to_look_at cd_spots_to_look_at ct_spots_to_look_at : Value}
    (n_spots_to_look_at : PySem.W.nsIn K mainGlobals "spots_to_look_at" = some (some (.ref f_spots_to_look_at)))
    (l_spots_to_look_at : K.lookup f_spots_to_look_at = some ⟨oc_spots_to_look_at, od_spots_to_look_at, .func (PySem.W.fnOf "spots_to_look_at" "spots_to_look_at" (defArgs s_spots_to_look_at) (defBody s_spots_to_look_at) (defScope s_spots_to_look_at) .none kV_spots_to_look_at dc_spots_to_look_at pm_spots_to_look_at an_spots_to_look_at cd_spots_to_look_at ct_spots_to_look_at), sl_spots_to_look_at⟩)
    (c_spots_to_look_at : PySem.W.codeIn K cd_spots_to_look_at "spots_to_look_at" = true)
    (k_spots_to_look_at : PySem.W.keepIn K (.ref f_spots_to_look_at) = true)
    {f_answers_at : Addr} {od_answers_at an_answers_at : Option Addr} {sl_answers_at : Array (Option Value)} {oc_answers_at kV_answers_at dc_answers_at pm_answers_at cd_answers_at ct_answers_at : Value}
    (n_answers_at : PySem.W.nsIn K mainGlobals "answers_at" = some (some (.ref f_answers_at)))
    (l_answers_at : K.lookup f_answers_at = some ⟨oc_answers_at, od_answers_at, .func (PySem.W.fnOf "answers_at" "answers_at" (defArgs s_answers_at) (defBody s_answers_at) (defScope s_answers_at) .none kV_answers_at dc_answers_at pm_answers_at an_answers_at cd_answers_at ct_answers_at), sl_answers_at⟩)
    (c_answers_at : PySem.W.codeIn K cd_answers_at "answers_at" = true)
    (k_answers_at : PySem.W.keepIn K (.ref f_answers_at) = true)
    {f_first_spot : Addr} {od_first_spot an_first_spot : Option Addr} {sl_first_spot : Array (Option Value)} {oc_first_spot kV_first_spot dc_first_spot pm_first_spot cd_first_spot ct_first_spot : Value}
    (n_first_spot : PySem.W.nsIn K mainGlobals "first_spot" = some (some (.ref f_first_spot)))
    (l_first_spot : K.lookup f_first_spot = some ⟨oc_first_spot, od_first_spot, .func (PySem.W.fnOf "first_spot" "first_spot" (defArgs s_first_spot) (defBody s_first_spot) (defScope s_first_spot) .none kV_first_spot dc_first_spot pm_first_spot an_first_spot cd_first_spot ct_first_spot), sl_first_spot⟩)
    (c_first_spot : PySem.W.codeIn K cd_first_spot "first_spot" = true)
    (k_first_spot : PySem.W.keepIn K (.ref f_first_spot) = true)
    {f_environment_at : Addr} {od_environment_at an_environment_at : Option Addr} {sl_environment_at : Array (Option Value)} {oc_environment_at kV_environment_at dc_environment_at pm_environment_at cd_environment_at ct_environment_at : Value}
    (n_environment_at : PySem.W.nsIn K mainGlobals "environment_at" = some (some (.ref f_environment_at)))
    (l_environment_at : K.lookup f_environment_at = some ⟨oc_environment_at, od_environment_at, .func (PySem.W.fnOf "environment_at" "environment_at" (defArgs s_environment_at) (defBody s_environment_at) (defScope s_environment_at) .none kV_environment_at dc_environment_at pm_environment_at an_environment_at cd_environment_at ct_environment_at), sl_environment_at⟩)
    (c_environment_at : PySem.W.codeIn K cd_environment_at "environment_at" = true)
    (k_environment_at : PySem.W.keepIn K (.ref f_environment_at) = true)
    {f_Marker : Addr}
    {f_Marker_init : Addr} {od_Marker_init an_Marker_init : Option Addr} {sl_Marker_init : Array (Option Value)} {oc_Marker_init kV_Marker_init dc_Marker_init pm_Marker_init cd_Marker_init ct_Marker_init : Value}
    (n_Marker : PySem.W.nsIn K mainGlobals "Marker" = some (some (.ref f_Marker)))
    (at_Marker_init : PySem.W.findIn K (.ref f_Marker) "__init__" = some (some (.ref f_Marker_init)))
    {dt_Marker_init : Addr} {dod_Marker_init : Option Addr} {dsl_Marker_init : Array (Option Value)} {dnn_Marker_init : Nat} {dk_Marker_init0 : Tok}
    (l_Marker_init : K.lookup f_Marker_init = some ⟨oc_Marker_init, od_Marker_init, .func (PySem.W.fnOf "__init__" "Marker.__init__" (defArgs s_Marker_init) (defBody s_Marker_init) (defScope s_Marker_init) (.ref dt_Marker_init) kV_Marker_init dc_Marker_init pm_Marker_init an_Marker_init cd_Marker_init ct_Marker_init), sl_Marker_init⟩)
    (w_Marker_init : K.lookup dt_Marker_init = some ⟨.type "tuple", dod_Marker_init, .seq #[.str "always" dk_Marker_init0] dnn_Marker_init, dsl_Marker_init⟩)
    (c_Marker_init : PySem.W.codeIn K cd_Marker_init "Marker.__init__" = true)
    (k_Marker_init : PySem.W.keepIn K (.ref f_Marker_init) = true)
    {f_Marker_eq : Addr} {od_Marker_eq an_Marker_eq : Option Addr} {sl_Marker_eq : Array (Option Value)} {oc_Marker_eq kV_Marker_eq dc_Marker_eq pm_Marker_eq cd_Marker_eq ct_Marker_eq : Value}
    (at_Marker_eq : PySem.W.findIn K (.ref f_Marker) "__eq__" = some (some (.ref f_Marker_eq)))
    (l_Marker_eq : K.lookup f_Marker_eq = some ⟨oc_Marker_eq, od_Marker_eq, .func (PySem.W.fnOf "__eq__" "Marker.__eq__" (defArgs s_Marker_eq) (defBody s_Marker_eq) (defScope s_Marker_eq) .none kV_Marker_eq dc_Marker_eq pm_Marker_eq an_Marker_eq cd_Marker_eq ct_Marker_eq), sl_Marker_eq⟩)
    (c_Marker_eq : PySem.W.codeIn K cd_Marker_eq "Marker.__eq__" = true)
    (k_Marker_eq : PySem.W.keepIn K (.ref f_Marker_eq) = true)
    {f_Marker_le : Addr} {od_Marker_le an_Marker_le : Option Addr} {sl_Marker_le : Array (Option Value)} {oc_Marker_le kV_Marker_le dc_Marker_le pm_Marker_le cd_Marker_le ct_Marker_le : Value}
    (at_Marker_le : PySem.W.findIn K (.ref f_Marker) "__le__" = some (some (.ref f_Marker_le)))
    (l_Marker_le : K.lookup f_Marker_le = some ⟨oc_Marker_le, od_Marker_le, .func (PySem.W.fnOf "__le__" "Marker.__le__" (defArgs s_Marker_le) (defBody s_Marker_le) (defScope s_Marker_le) .none kV_Marker_le dc_Marker_le pm_Marker_le an_Marker_le cd_Marker_le ct_Marker_le), sl_Marker_le⟩)
    (c_Marker_le : PySem.W.codeIn K cd_Marker_le "Marker.__le__" = true)
    (k_Marker_le : PySem.W.keepIn K (.ref f_Marker_le) = true)
    {f_Marker_bool : Addr} {od_Marker_bool an_Marker_bool : Option Addr} {sl_Marker_bool : Array (Option Value)} {oc_Marker_bool kV_Marker_bool dc_Marker_bool pm_Marker_bool cd_Marker_bool ct_Marker_bool : Value}
    (at_Marker_bool : PySem.W.findIn K (.ref f_Marker) "__bool__" = some (some (.ref f_Marker_bool)))
    (l_Marker_bool : K.lookup f_Marker_bool = some ⟨oc_Marker_bool, od_Marker_bool, .func (PySem.W.fnOf "__bool__" "Marker.__bool__" (defArgs s_Marker_bool) (defBody s_Marker_bool) (defScope s_Marker_bool) .none kV_Marker_bool dc_Marker_bool pm_Marker_bool an_Marker_bool cd_Marker_bool ct_Marker_bool), sl_Marker_bool⟩)
    (c_Marker_bool : PySem.W.codeIn K cd_Marker_bool "Marker.__bool__" = true)
    (k_Marker_bool : PySem.W.keepIn K (.ref f_Marker_bool) = true)
    {f_Marker_str : Addr} {od_Marker_str an_Marker_str : Option Addr} {sl_Marker_str : Array (Option Value)} {oc_Marker_str kV_Marker_str dc_Marker_str pm_Marker_str cd_Marker_str ct_Marker_str : Value}
    (at_Marker_str : PySem.W.findIn K (.ref f_Marker) "__str__" = some (some (.ref f_Marker_str)))
    (l_Marker_str : K.lookup f_Marker_str = some ⟨oc_Marker_str, od_Marker_str, .func (PySem.W.fnOf "__str__" "Marker.__str__" (defArgs s_Marker_str) (defBody s_Marker_str) (defScope s_Marker_str) .none kV_Marker_str dc_Marker_str pm_Marker_str an_Marker_str cd_Marker_str ct_Marker_str), sl_Marker_str⟩)
    (c_Marker_str : PySem.W.codeIn K cd_Marker_str "Marker.__str__" = true)
    (k_Marker_str : PySem.W.keepIn K (.ref f_Marker_str) = true)
    {f_check_markers : Addr} {od_check_markers an_check_markers : Option Addr} {sl_check_markers : Array (Option Value)} {oc_check_markers kV_check_markers dc_check_markers pm_check_markers cd_check_markers ct_check_markers : Value}
    (n_check_markers : PySem.W.nsIn K mainGlobals "check_markers" = some (some (.ref f_check_markers)))
    (l_check_markers : K.lookup f_check_markers = some ⟨oc_check_markers, od_check_markers, .func (PySem.W.fnOf "check_markers" "check_markers" (defArgs s_check_markers) (defBody s_check_markers) (defScope s_check_markers) .none kV_check_markers dc_check_markers pm_check_markers an_check_markers cd_check_markers ct_check_markers), sl_check_markers⟩)
    (c_check_markers : PySem.W.codeIn K cd_check_markers "check_markers" = true)
    (k_check_markers : PySem.W.keepIn K (.ref f_check_markers) = true)
    {f_apart : Addr} {od_apart an_apart : Option Addr} {sl_apart : Array (Option Value)} {oc_apart kV_apart dc_apart pm_apart cd_apart ct_apart : Value}
    (n_apart : PySem.W.nsIn K mainGlobals "apart" = some (some (.ref f_apart)))
    (l_apart : K.lookup f_apart = some ⟨oc_apart, od_apart, .func (PySem.W.fnOf "apart" "apart" (defArgs s_apart) (defBody s_apart) (defScope s_apart) .none kV_apart dc_apart pm_apart an_apart cd_apart ct_apart), sl_apart⟩)
    (c_apart : PySem.W.codeIn K cd_apart "apart" = true)
    (k_apart : PySem.W.keepIn K (.ref f_apart) = true)
    {f_begin : Addr} {od_begin an_begin : Option Addr} {sl_begin : Array (Option Value)} {oc_begin kV_begin dc_begin pm_begin cd_begin ct_begin : Value}
    (n_begin : PySem.W.nsIn K mainGlobals "_law_begin" = some (some (.ref f_begin)))
    (l_begin : K.lookup f_begin = some ⟨oc_begin, od_begin, .func (PySem.W.fnOf "_law_begin" "_law_begin" (defArgs s_begin) (defBody s_begin) (defScope s_begin) .none kV_begin dc_begin pm_begin an_begin cd_begin ct_begin), sl_begin⟩)
    (c_begin : PySem.W.codeIn K cd_begin "_law_begin" = true)
    (k_begin : PySem.W.keepIn K (.ref f_begin) = true)
    {f_mixed : Addr} {od_mixed an_mixed : Option Addr} {sl_mixed : Array (Option Value)} {oc_mixed kV_mixed dc_mixed pm_mixed cd_mixed ct_mixed : Value}
    (n_mixed : PySem.W.nsIn K mainGlobals "_law_mixed" = some (some (.ref f_mixed)))
    (l_mixed : K.lookup f_mixed = some ⟨oc_mixed, od_mixed, .func (PySem.W.fnOf "_law_mixed" "_law_mixed" (defArgs s_mixed) (defBody s_mixed) (defScope s_mixed) .none kV_mixed dc_mixed pm_mixed an_mixed cd_mixed ct_mixed), sl_mixed⟩)
    (c_mixed : PySem.W.codeIn K cd_mixed "_law_mixed" = true)
    (k_mixed : PySem.W.keepIn K (.ref f_mixed) = true)
    {f_next : Addr} {od_next an_next : Option Addr} {sl_next : Array (Option Value)} {oc_next kV_next dc_next pm_next cd_next ct_next : Value}
    (n_next : PySem.W.nsIn K mainGlobals "_law_next" = some (some (.ref f_next)))
    (l_next : K.lookup f_next = some ⟨oc_next, od_next, .func (PySem.W.fnOf "_law_next" "_law_next" (defArgs s_next) (defBody s_next) (defScope s_next) .none kV_next dc_next pm_next an_next cd_next ct_next), sl_next⟩)
    (c_next : PySem.W.codeIn K cd_next "_law_next" = true)
    (k_next : PySem.W.keepIn K (.ref f_next) = true)
    {f_tree : Addr} {od_tree an_tree : Option Addr} {sl_tree : Array (Option Value)} {oc_tree kV_tree dc_tree pm_tree cd_tree ct_tree : Value}
    (n_tree : PySem.W.nsIn K mainGlobals "_law_tree" = some (some (.ref f_tree)))
    (l_tree : K.lookup f_tree = some ⟨oc_tree, od_tree, .func (PySem.W.fnOf "_law_tree" "_law_tree" (defArgs s_tree) (defBody s_tree) (defScope s_tree) .none kV_tree dc_tree pm_tree an_tree cd_tree ct_tree), sl_tree⟩)
    (c_tree : PySem.W.codeIn K cd_tree "_law_tree" = true)
    (k_tree : PySem.W.keepIn K (.ref f_tree) = true)
    {f_written : Addr} {od_written an_written : Option Addr} {sl_written : Array (Option Value)} {oc_written kV_written dc_written pm_written cd_written ct_written : Value}
    (n_written : PySem.W.nsIn K mainGlobals "_law_written" = some (some (.ref f_written)))
    (l_written : K.lookup f_written = some ⟨oc_written, od_written, .func (PySem.W.fnOf "_law_written" "_law_written" (defArgs s_written) (defBody s_written) (defScope s_written) .none kV_written dc_written pm_written an_written cd_written ct_written), sl_written⟩)
    (c_written : PySem.W.codeIn K cd_written "_law_written" = true)
    (k_written : PySem.W.keepIn K (.ref f_written) = true)
    {f_holds : Addr} {od_holds an_holds : Option Addr} {sl_holds : Array (Option Value)} {oc_holds kV_holds dc_holds pm_holds cd_holds ct_holds : Value}
    (n_holds : PySem.W.nsIn K mainGlobals "_law_holds" = some (some (.ref f_holds)))
    (l_holds : K.lookup f_holds = some ⟨oc_holds, od_holds, .func (PySem.W.fnOf "_law_holds" "_law_holds" (defArgs s_holds) (defBody s_holds) (defScope s_holds) .none kV_holds dc_holds pm_holds an_holds cd_holds ct_holds), sl_holds⟩)
    (c_holds : PySem.W.codeIn K cd_holds "_law_holds" = true)
    (k_holds : PySem.W.keepIn K (.ref f_holds) = true)
    {f_values : Addr} {od_values an_values : Option Addr} {sl_values : Array (Option Value)} {oc_values kV_values dc_values pm_values cd_values ct_values : Value}
    (n_values : PySem.W.nsIn K mainGlobals "_law_values" = some (some (.ref f_values)))
    (l_values : K.lookup f_values = some ⟨oc_values, od_values, .func (PySem.W.fnOf "_law_values" "_law_values" (defArgs s_values) (defBody s_values) (defScope s_values) .none kV_values dc_values pm_values an_values cd_values ct_values), sl_values⟩)
    (c_values : PySem.W.codeIn K cd_values "_law_values" = true)
    (k_values : PySem.W.keepIn K (.ref f_values) = true)
    {f_in_order : Addr} {od_in_order an_in_order : Option Addr} {sl_in_order : Array (Option Value)} {oc_in_order kV_in_order dc_in_order pm_in_order cd_in_order ct_in_order : Value}
    (n_in_order : PySem.W.nsIn K mainGlobals "_law_in_order" = some (some (.ref f_in_order)))
    (l_in_order : K.lookup f_in_order = some ⟨oc_in_order, od_in_order, .func (PySem.W.fnOf "_law_in_order" "_law_in_order" (defArgs s_in_order) (defBody s_in_order) (defScope s_in_order) .none kV_in_order dc_in_order pm_in_order an_in_order cd_in_order ct_in_order), sl_in_order⟩)
    (c_in_order : PySem.W.codeIn K cd_in_order "_law_in_order" = true)
    (k_in_order : PySem.W.keepIn K (.ref f_in_order) = true)
    {f_grid : Addr} {od_grid an_grid : Option Addr} {sl_grid : Array (Option Value)} {oc_grid kV_grid dc_grid pm_grid cd_grid ct_grid : Value}
    (n_grid : PySem.W.nsIn K mainGlobals "_law_grid" = some (some (.ref f_grid)))
    (l_grid : K.lookup f_grid = some ⟨oc_grid, od_grid, .func (PySem.W.fnOf "_law_grid" "_law_grid" (defArgs s_grid) (defBody s_grid) (defScope s_grid) .none kV_grid dc_grid pm_grid an_grid cd_grid ct_grid), sl_grid⟩)
    (c_grid : PySem.W.codeIn K cd_grid "_law_grid" = true)
    (k_grid : PySem.W.keepIn K (.ref f_grid) = true)
    {f_environment : Addr} {od_environment an_environment : Option Addr} {sl_environment : Array (Option Value)} {oc_environment kV_environment dc_environment pm_environment cd_environment ct_environment : Value}
    (n_environment : PySem.W.nsIn K mainGlobals "_law_environment" = some (some (.ref f_environment)))
    (l_environment : K.lookup f_environment = some ⟨oc_environment, od_environment, .func (PySem.W.fnOf "_law_environment" "_law_environment" (defArgs s_environment) (defBody s_environment) (defScope s_environment) .none kV_environment dc_environment pm_environment an_environment cd_environment ct_environment), sl_environment⟩)
    (c_environment : PySem.W.codeIn K cd_environment "_law_environment" = true)
    (k_environment : PySem.W.keepIn K (.ref f_environment) = true)
    {f_same : Addr} {od_same an_same : Option Addr} {sl_same : Array (Option Value)} {oc_same kV_same dc_same pm_same cd_same ct_same : Value}
    (n_same : PySem.W.nsIn K mainGlobals "_law_same" = some (some (.ref f_same)))
    (l_same : K.lookup f_same = some ⟨oc_same, od_same, .func (PySem.W.fnOf "_law_same" "_law_same" (defArgs s_same) (defBody s_same) (defScope s_same) .none kV_same dc_same pm_same an_same cd_same ct_same), sl_same⟩)
    (c_same : PySem.W.codeIn K cd_same "_law_same" = true)
    (k_same : PySem.W.keepIn K (.ref f_same) = true)
    {f_right : Addr} {od_right an_right : Option Addr} {sl_right : Array (Option Value)} {oc_right kV_right dc_right pm_right cd_right ct_right : Value}
    (n_right : PySem.W.nsIn K mainGlobals "_law_right" = some (some (.ref f_right)))
    (l_right : K.lookup f_right = some ⟨oc_right, od_right, .func (PySem.W.fnOf "_law_right" "_law_right" (defArgs s_right) (defBody s_right) (defScope s_right) .none kV_right dc_right pm_right an_right cd_right ct_right), sl_right⟩)
    (c_right : PySem.W.codeIn K cd_right "_law_right" = true)
    (k_right : PySem.W.keepIn K (.ref f_right) = true)
    {f_law : Addr} {od_law an_law : Option Addr} {sl_law : Array (Option Value)} {oc_law kV_law dc_law pm_law cd_law ct_law : Value}
    (n_law : PySem.W.nsIn K mainGlobals "law" = some (some (.ref f_law)))
    (l_law : K.lookup f_law = some ⟨oc_law, od_law, .func (PySem.W.fnOf "law" "law" (defArgs s_law) (defBody s_law) (defScope s_law) .none kV_law dc_law pm_law an_law cd_law ct_law), sl_law⟩)
    (c_law : PySem.W.codeIn K cd_law "law" = true)
    (k_law : PySem.W.keepIn K (.ref f_law) = true)
    {f_BadEnvironment : Addr}
    {f_BadEnvironment_init : Addr} {od_BadEnvironment_init an_BadEnvironment_init : Option Addr} {sl_BadEnvironment_init : Array (Option Value)} {oc_BadEnvironment_init kV_BadEnvironment_init dc_BadEnvironment_init pm_BadEnvironment_init cd_BadEnvironment_init ct_BadEnvironment_init : Value}
    (n_BadEnvironment : PySem.W.nsIn K mainGlobals "BadEnvironment" = some (some (.ref f_BadEnvironment)))
    (at_BadEnvironment_init : PySem.W.findIn K (.ref f_BadEnvironment) "__init__" = some (some (.ref f_BadEnvironment_init)))
    (l_BadEnvironment_init : K.lookup f_BadEnvironment_init = some ⟨oc_BadEnvironment_init, od_BadEnvironment_init, .func (PySem.W.fnOf "__init__" "BadEnvironment.__init__" (defArgs s_BadEnvironment_init) (defBody s_BadEnvironment_init) (defScope s_BadEnvironment_init) .none kV_BadEnvironment_init dc_BadEnvironment_init pm_BadEnvironment_init an_BadEnvironment_init cd_BadEnvironment_init ct_BadEnvironment_init), sl_BadEnvironment_init⟩)
    (c_BadEnvironment_init : PySem.W.codeIn K cd_BadEnvironment_init "BadEnvironment.__init__" = true)
    (k_BadEnvironment_init : PySem.W.keepIn K (.ref f_BadEnvironment_init) = true)
    {f_BadMarker : Addr}
    {f_BadMarker_init : Addr} {od_BadMarker_init an_BadMarker_init : Option Addr} {sl_BadMarker_init : Array (Option Value)} {oc_BadMarker_init kV_BadMarker_init dc_BadMarker_init pm_BadMarker_init cd_BadMarker_init ct_BadMarker_init : Value}
    (n_BadMarker : PySem.W.nsIn K mainGlobals "BadMarker" = some (some (.ref f_BadMarker)))
    (at_BadMarker_init : PySem.W.findIn K (.ref f_BadMarker) "__init__" = some (some (.ref f_BadMarker_init)))
    (l_BadMarker_init : K.lookup f_BadMarker_init = some ⟨oc_BadMarker_init, od_BadMarker_init, .func (PySem.W.fnOf "__init__" "BadMarker.__init__" (defArgs s_BadMarker_init) (defBody s_BadMarker_init) (defScope s_BadMarker_init) .none kV_BadMarker_init dc_BadMarker_init pm_BadMarker_init an_BadMarker_init cd_BadMarker_init ct_BadMarker_init), sl_BadMarker_init⟩)
    (c_BadMarker_init : PySem.W.codeIn K cd_BadMarker_init "BadMarker.__init__" = true)
    (k_BadMarker_init : PySem.W.keepIn K (.ref f_BadMarker_init) = true)
    {nm_BadMarker qn_BadMarker : Str} {N_BadMarker : Addr} {bs_BadMarker bm_BadMarker : List Value} {sn_BadMarker : List Str} {sub_BadMarker : List Value} {ab_BadMarker : Bool} {col_BadMarker : Option Bool} {dd_BadMarker : Option Addr} {k0_BadMarker k1_BadMarker k2_BadMarker k3_BadMarker k5_BadMarker : Option Value}
    (xl_BadMarker : K.lookup f_BadMarker = some (excClassObj nm_BadMarker qn_BadMarker f_BadMarker N_BadMarker bs_BadMarker bm_BadMarker true sn_BadMarker sub_BadMarker ab_BadMarker col_BadMarker dd_BadMarker k0_BadMarker k1_BadMarker k2_BadMarker k3_BadMarker k5_BadMarker "ValueError.__new__"))
    (xr_BadMarker : PySem.HandSPX.refsVE bm_BadMarker = true)
    (xsa_BadMarker : PySem.W.findIn K (.ref f_BadMarker) "__setattr__" = some (some (.builtin "object.__setattr__")))
    (xb_BadMarker : PySem.W.subIn K (.ref f_BadMarker) (.type "BaseException") = some true)
    (xd_BadMarker : PySem.W.hasDictIn K f_BadMarker = true)
    (xy_BadMarker : PySem.W.typeIn K (.ref f_BadMarker) = some (.type "type"))
    (xk_BadMarker : PySem.W.keepIn K (.ref f_BadMarker) = true)
    (xg_BadMarker : PySem.W.findIn K (.ref f_BadMarker) "__getattribute__" = some (some (.builtin "BaseException.__getattribute__")))
    (xh_BadMarker : PySem.W.findIn K (.ref f_BadMarker) "__getattr__" = some none)
    (xc_BadMarker : PySem.W.findIn K (.ref f_BadMarker) "__class__" = some (some (.builtin "object.__class__")))
    (xn_BadMarker : PySem.W.specialIn K (.builtin "object.__class__") "__get__" = some (some (.builtin "getset_descriptor.__get__")))
    (xq_BadMarker : PySem.W.takesIn K (.builtin "object.__class__") = some true)
    (xm_BadMarker : PySem.W.mroIn K f_BadMarker (.type "object") = some true)
    (xt_BadMarker : PySem.W.typeIn K (.ref f_BadMarker_init) = some (.type "function"))
    (xf_BadMarker : PySem.W.findIn K (.ref f_BadMarker) "given" = some none)
    {nm_BadEnvironment qn_BadEnvironment : Str} {N_BadEnvironment : Addr} {bs_BadEnvironment bm_BadEnvironment : List Value} {sn_BadEnvironment : List Str} {sub_BadEnvironment : List Value} {ab_BadEnvironment : Bool} {col_BadEnvironment : Option Bool} {dd_BadEnvironment : Option Addr} {k0_BadEnvironment k1_BadEnvironment k2_BadEnvironment k3_BadEnvironment k5_BadEnvironment : Option Value}
    (xl_BadEnvironment : K.lookup f_BadEnvironment = some (excClassObj nm_BadEnvironment qn_BadEnvironment f_BadEnvironment N_BadEnvironment bs_BadEnvironment bm_BadEnvironment true sn_BadEnvironment sub_BadEnvironment ab_BadEnvironment col_BadEnvironment dd_BadEnvironment k0_BadEnvironment k1_BadEnvironment k2_BadEnvironment k3_BadEnvironment k5_BadEnvironment "ValueError.__new__"))
    (xr_BadEnvironment : PySem.HandSPX.refsVE bm_BadEnvironment = true)
    (xsa_BadEnvironment : PySem.W.findIn K (.ref f_BadEnvironment) "__setattr__" = some (some (.builtin "object.__setattr__")))
    (xb_BadEnvironment : PySem.W.subIn K (.ref f_BadEnvironment) (.type "BaseException") = some true)
    (xd_BadEnvironment : PySem.W.hasDictIn K f_BadEnvironment = true)
    (xy_BadEnvironment : PySem.W.typeIn K (.ref f_BadEnvironment) = some (.type "type"))
    (xk_BadEnvironment : PySem.W.keepIn K (.ref f_BadEnvironment) = true)
    (xg_BadEnvironment : PySem.W.findIn K (.ref f_BadEnvironment) "__getattribute__" = some (some (.builtin "BaseException.__getattribute__")))
    (xh_BadEnvironment : PySem.W.findIn K (.ref f_BadEnvironment) "__getattr__" = some none)
    (xc_BadEnvironment : PySem.W.findIn K (.ref f_BadEnvironment) "__class__" = some (some (.builtin "object.__class__")))
    (xn_BadEnvironment : PySem.W.specialIn K (.builtin "object.__class__") "__get__" = some (some (.builtin "getset_descriptor.__get__")))
    (xq_BadEnvironment : PySem.W.takesIn K (.builtin "object.__class__") = some true)
    (xm_BadEnvironment : PySem.W.mroIn K f_BadEnvironment (.type "object") = some true)
    (xt_BadEnvironment : PySem.W.typeIn K (.ref f_BadEnvironment_init) = some (.type "function"))
    (xf_BadEnvironment : PySem.W.findIn K (.ref f_BadEnvironment) "given" = some none)
    (on_Marker : PySem.W.findIn K (.ref f_Marker) "__ne__" = some (some (.builtin "object.__ne__")))
    (on_Environment : PySem.W.findIn K (.ref f_Environment) "__ne__" = some (some (.builtin "object.__ne__")))
    (pg_Environment : PySem.W.plainGet K f_Environment Str.empty = true)
    (hd_Environment : PySem.W.hasDictIn K f_Environment = true)
    (po_Environment : PySem.W.plainOver K f_Environment = true)
    (sa_Environment : PySem.W.findIn K (.ref f_Environment) "__setattr__" = some (some (.builtin "object.__setattr__")))
    (mk_Environment : PySem.W.makesIn K f_Environment = true)
    (kc_Environment : PySem.W.keepIn K (.ref f_Environment) = true)
    (rd_Environment : PySem.W.readsIn K f_Environment (.type "type") = true)
    (ga_Environment : PySem.W.specialIn K (.ref f_Environment) "__getattribute__" = some (some (.builtin "type.__getattribute__")))
    (ca_Environment : PySem.W.findIn K (.ref f_Environment) "__class__" = some (some (.builtin "object.__class__")))
    (cn_Environment : PySem.W.specialIn K (.builtin "object.__class__") "__get__" = some (some (.builtin "getset_descriptor.__get__")))
    (ct_Environment : PySem.W.takesIn K (.builtin "object.__class__") = some true)
    (cm_Environment : PySem.W.mroIn K f_Environment (.type "object") = some true)
    (nf_Environment : PySem.W.notFirst K f_Environment (.ref f_Environment) = true)
    (fn_Environment_init : PySem.W.isFn K (.ref f_Environment_init) = true)
    (na_Environment_system : PySem.W.findIn K (.ref f_Environment) "_system" = some none)
    (na_Environment_machine : PySem.W.findIn K (.ref f_Environment) "_machine" = some none)
    (na_Environment_level : PySem.W.findIn K (.ref f_Environment) "_level" = some none)
    (na_Environment_place : PySem.W.findIn K (.ref f_Environment) "_place" = some none)
    (fn_Environment_eq : PySem.W.isFn K (.ref f_Environment_eq) = true)
    (pg_Marker : PySem.W.plainGet K f_Marker Str.empty = true)
    (hd_Marker : PySem.W.hasDictIn K f_Marker = true)
    (po_Marker : PySem.W.plainOver K f_Marker = true)
    (sa_Marker : PySem.W.findIn K (.ref f_Marker) "__setattr__" = some (some (.builtin "object.__setattr__")))
    (mk_Marker : PySem.W.makesIn K f_Marker = true)
    (kc_Marker : PySem.W.keepIn K (.ref f_Marker) = true)
    (rd_Marker : PySem.W.readsIn K f_Marker (.type "type") = true)
    (ga_Marker : PySem.W.specialIn K (.ref f_Marker) "__getattribute__" = some (some (.builtin "type.__getattribute__")))
    (ca_Marker : PySem.W.findIn K (.ref f_Marker) "__class__" = some (some (.builtin "object.__class__")))
    (cn_Marker : PySem.W.specialIn K (.builtin "object.__class__") "__get__" = some (some (.builtin "getset_descriptor.__get__")))
    (ct_Marker : PySem.W.takesIn K (.builtin "object.__class__") = some true)
    (cm_Marker : PySem.W.mroIn K f_Marker (.type "object") = some true)
    (nf_Marker : PySem.W.notFirst K f_Marker (.ref f_Marker) = true)
    (fn_Marker_init : PySem.W.isFn K (.ref f_Marker_init) = true)
    (sf_Marker : PySem.W.selfFirst K f_Marker = true)
    (na_Marker_steps : PySem.W.findIn K (.ref f_Marker) "_steps" = some none)
    (fn_Marker_eq : PySem.W.isFn K (.ref f_Marker_eq) = true)
    (fn_Marker_le : PySem.W.isFn K (.ref f_Marker_le) = true)
    (fn_Marker_bool : PySem.W.isFn K (.ref f_Marker_bool) = true)
    (fn_Marker_str : PySem.W.isFn K (.ref f_Marker_str) = true)
    {t_LETTERS : Tok}
    (g_LETTERS : PySem.W.nsIn K mainGlobals "LETTERS" = some (some (.str "abcdefghijklmnopqrstuvwxyz" t_LETTERS)))
    {t_DIGITS : Tok}
    (g_DIGITS : PySem.W.nsIn K mainGlobals "DIGITS" = some (some (.str "0123456789" t_DIGITS)))
    {t_HIGHEST : Tok}
    (g_HIGHEST : PySem.W.nsIn K mainGlobals "HIGHEST" = some (some (.int 99 t_HIGHEST)))
    {t_WORDS : Tok}
    (g_WORDS : PySem.W.nsIn K mainGlobals "WORDS" = some (some (.int 100000000000000000 t_WORDS)))
    {k_SIGNS : Addr} {od_SIGNS : Option Addr} {sl_SIGNS : Array (Option Value)} {nn_SIGNS : Nat} {t_SIGNS0 : Tok} {t_SIGNS1 : Tok} {t_SIGNS2 : Tok} {t_SIGNS3 : Tok} {t_SIGNS4 : Tok} {t_SIGNS5 : Tok} {t_SIGNS6 : Tok} {t_SIGNS7 : Tok}
    (g_SIGNS : PySem.W.nsIn K mainGlobals "SIGNS" = some (some (.ref k_SIGNS)))
    (w_SIGNS : K.lookup k_SIGNS = some ⟨.type "tuple", od_SIGNS, .seq #[.str "==" t_SIGNS0, .str "!=" t_SIGNS1, .str "<=" t_SIGNS2, .str ">=" t_SIGNS3, .str "<" t_SIGNS4, .str ">" t_SIGNS5, .str "(" t_SIGNS6, .str ")" t_SIGNS7] nn_SIGNS, sl_SIGNS⟩)
    {k_LEVEL_SIGNS : Addr} {od_LEVEL_SIGNS : Option Addr} {sl_LEVEL_SIGNS : Array (Option Value)} {nn_LEVEL_SIGNS : Nat} {t_LEVEL_SIGNS0 : Tok} {t_LEVEL_SIGNS1 : Tok} {t_LEVEL_SIGNS2 : Tok} {t_LEVEL_SIGNS3 : Tok} {t_LEVEL_SIGNS4 : Tok} {t_LEVEL_SIGNS5 : Tok}
    (g_LEVEL_SIGNS : PySem.W.nsIn K mainGlobals "LEVEL_SIGNS" = some (some (.ref k_LEVEL_SIGNS)))
    (w_LEVEL_SIGNS : K.lookup k_LEVEL_SIGNS = some ⟨.type "tuple", od_LEVEL_SIGNS, .seq #[.str "==" t_LEVEL_SIGNS0, .str "!=" t_LEVEL_SIGNS1, .str "<" t_LEVEL_SIGNS2, .str "<=" t_LEVEL_SIGNS3, .str ">" t_LEVEL_SIGNS4, .str ">=" t_LEVEL_SIGNS5] nn_LEVEL_SIGNS, sl_LEVEL_SIGNS⟩)
    {k_FIELDS : Addr} {od_FIELDS : Option Addr} {sl_FIELDS : Array (Option Value)} {nn_FIELDS : Nat} {t_FIELDS0 : Tok} {t_FIELDS1 : Tok} {t_FIELDS2 : Tok}
    (g_FIELDS : PySem.W.nsIn K mainGlobals "FIELDS" = some (some (.ref k_FIELDS)))
    (w_FIELDS : K.lookup k_FIELDS = some ⟨.type "tuple", od_FIELDS, .seq #[.str "system" t_FIELDS0, .str "machine" t_FIELDS1, .str "level" t_FIELDS2] nn_FIELDS, sl_FIELDS⟩)
    {k_OPERANDS : Addr} {od_OPERANDS : Option Addr} {sl_OPERANDS : Array (Option Value)} {nn_OPERANDS : Nat} {t_OPERANDS0 : Tok} {t_OPERANDS1 : Tok} {t_OPERANDS2 : Tok} {t_OPERANDS3 : Tok} {t_OPERANDS4 : Tok}
    (g_OPERANDS : PySem.W.nsIn K mainGlobals "OPERANDS" = some (some (.ref k_OPERANDS)))
    (w_OPERANDS : K.lookup k_OPERANDS = some ⟨.type "tuple", od_OPERANDS, .seq #[.str "always" t_OPERANDS0, .str "never" t_OPERANDS1, .str "system" t_OPERANDS2, .str "machine" t_OPERANDS3, .str "level" t_OPERANDS4] nn_OPERANDS, sl_OPERANDS⟩)
    {k_BINDINGS : Addr} {nn_BINDINGS : Nat} {t_BINDINGS0 u_BINDINGS0 : Tok} {t_BINDINGS1 u_BINDINGS1 : Tok} {t_BINDINGS2 u_BINDINGS2 : Tok} {t_BINDINGS3 u_BINDINGS3 : Tok} {t_BINDINGS4 u_BINDINGS4 : Tok}
    (g_BINDINGS : PySem.W.nsIn K mainGlobals "BINDINGS" = some (some (.ref k_BINDINGS)))
    (w_BINDINGS : K.lookup k_BINDINGS = some ⟨.type "dict", none, .dict #[⟨PyData.keyHash w.params "(", .str "(" t_BINDINGS0, .int 0 u_BINDINGS0⟩, ⟨PyData.keyHash w.params ")", .str ")" t_BINDINGS1, .int 1 u_BINDINGS1⟩, ⟨PyData.keyHash w.params "or", .str "or" t_BINDINGS2, .int 1 u_BINDINGS2⟩, ⟨PyData.keyHash w.params "and", .str "and" t_BINDINGS3, .int 2 u_BINDINGS3⟩, ⟨PyData.keyHash w.params "not", .str "not" t_BINDINGS4, .int 3 u_BINDINGS4⟩] nn_BINDINGS, #[]⟩)
    (s_BINDINGS : (k_BINDINGS == sysModules) = false)
    {t_TIGHTEST : Tok}
    (g_TIGHTEST : PySem.W.nsIn K mainGlobals "TIGHTEST" = some (some (.int 4 t_TIGHTEST)))
    {k_NOT0 : Addr} {od_NOT0 : Option Addr} {sl_NOT0 : Array (Option Value)} {nn_NOT0 : Nat} {t_NOT0_0 : Tok} {t_NOT0_1 : Tok} {t_NOT0_2 : Tok}
    {k_NOT : Addr} {od_NOT : Option Addr} {sl_NOT : Array (Option Value)} {nn_NOT : Nat} 
    (g_NOT : PySem.W.nsIn K mainGlobals "NOT" = some (some (.ref k_NOT)))
    (w_NOT : K.lookup k_NOT = some ⟨.type "tuple", od_NOT, .seq #[.ref k_NOT0] nn_NOT, sl_NOT⟩)
    (w_NOT0 : K.lookup k_NOT0 = some ⟨.type "tuple", od_NOT0, .seq #[.str "not" t_NOT0_0, .str "" t_NOT0_1, .str "" t_NOT0_2] nn_NOT0, sl_NOT0⟩)
    {k_AND0 : Addr} {od_AND0 : Option Addr} {sl_AND0 : Array (Option Value)} {nn_AND0 : Nat} {t_AND0_0 : Tok} {t_AND0_1 : Tok} {t_AND0_2 : Tok}
    {k_AND : Addr} {od_AND : Option Addr} {sl_AND : Array (Option Value)} {nn_AND : Nat} 
    (g_AND : PySem.W.nsIn K mainGlobals "AND" = some (some (.ref k_AND)))
    (w_AND : K.lookup k_AND = some ⟨.type "tuple", od_AND, .seq #[.ref k_AND0] nn_AND, sl_AND⟩)
    (w_AND0 : K.lookup k_AND0 = some ⟨.type "tuple", od_AND0, .seq #[.str "and" t_AND0_0, .str "" t_AND0_1, .str "" t_AND0_2] nn_AND0, sl_AND0⟩)
    {k_OR0 : Addr} {od_OR0 : Option Addr} {sl_OR0 : Array (Option Value)} {nn_OR0 : Nat} {t_OR0_0 : Tok} {t_OR0_1 : Tok} {t_OR0_2 : Tok}
    {k_OR : Addr} {od_OR : Option Addr} {sl_OR : Array (Option Value)} {nn_OR : Nat} 
    (g_OR : PySem.W.nsIn K mainGlobals "OR" = some (some (.ref k_OR)))
    (w_OR : K.lookup k_OR = some ⟨.type "tuple", od_OR, .seq #[.ref k_OR0] nn_OR, sl_OR⟩)
    (w_OR0 : K.lookup k_OR0 = some ⟨.type "tuple", od_OR0, .seq #[.str "or" t_OR0_0, .str "" t_OR0_1, .str "" t_OR0_2] nn_OR0, sl_OR0⟩)
    (z_all : PySem.W.nsIn K mainGlobals "all" = some none)
    (z_bool : PySem.W.nsIn K mainGlobals "bool" = some none)
    (z_divmod : PySem.W.nsIn K mainGlobals "divmod" = some none)
    (z_int : PySem.W.nsIn K mainGlobals "int" = some none)
    (z_isinstance : PySem.W.nsIn K mainGlobals "isinstance" = some none)
    (z_len : PySem.W.nsIn K mainGlobals "len" = some none)
    (z_max : PySem.W.nsIn K mainGlobals "max" = some none)
    (z_min : PySem.W.nsIn K mainGlobals "min" = some none)
    (z_range : PySem.W.nsIn K mainGlobals "range" = some none)
    (z_reversed : PySem.W.nsIn K mainGlobals "reversed" = some none)
    (z_sorted : PySem.W.nsIn K mainGlobals "sorted" = some none)
    (z_str : PySem.W.nsIn K mainGlobals "str" = some none)
    (z_tuple : PySem.W.nsIn K mainGlobals "tuple" = some none) :
    ∃ fd : FuncData, (∀ (s : Shared) (v : Value), BindsTo s fd ⟨[v], []⟩ [("_law_script", v)]) ∧ ∀ base : Heap, K.In base → base.Ns mainGlobals mg → FnG l.prog w K mg base 18 fa fd ["_law_script"] (spLaw K) := by
  have e0 := hfa.symm.trans (PySem.W.mg_of X G n_law)
  have e : f_law = fa := by
    cases e0
    rfl
  subst e
  have F_is_whole := fun_mk (st := s_is_whole) l_is_whole c_is_whole k_is_whole
  have B_is_whole := F_is_whole.binds (ps := P_is_whole) fun _ _ _ _ _ _ us hl => match us, hl with | [_], _ => rfl
  have F_is_count := fun_mk (st := s_is_count) l_is_count c_is_count k_is_count
  have B_is_count := F_is_count.binds (ps := P_is_count) fun _ _ _ _ _ _ us hl => match us, hl with | [_], _ => rfl
  have F_is_whole_to := fun_mk (st := s_is_whole_to) l_is_whole_to c_is_whole_to k_is_whole_to
  have B_is_whole_to := F_is_whole_to.binds (ps := P_is_whole_to) fun _ _ _ _ _ _ us hl => match us, hl with | [_, _], _ => rfl
  have F_consists_of := fun_mk (st := s_consists_of) l_consists_of c_consists_of k_consists_of
  have B_consists_of := F_consists_of.binds (ps := P_consists_of) fun _ _ _ _ _ _ us hl => match us, hl with | [_, _], _ => rfl
  have F_is_string_of := fun_mk (st := s_is_string_of) l_is_string_of c_is_string_of k_is_string_of
  have B_is_string_of := F_is_string_of.binds (ps := P_is_string_of) fun _ _ _ _ _ _ us hl => match us, hl with | [_, _, _], _ => rfl
  have F_number_in := fun_mk (st := s_number_in) l_number_in c_number_in k_number_in
  have B_number_in := F_number_in.binds (ps := P_number_in) fun _ _ _ _ _ _ us hl => match us, hl with | [_, _], _ => rfl
  have F_is_word := fun_mk (st := s_is_word) l_is_word c_is_word k_is_word
  have B_is_word := F_is_word.binds (ps := P_is_word) fun _ _ _ _ _ _ us hl => match us, hl with | [_], _ => rfl
  have F_place_of_word := fun_mk (st := s_place_of_word) l_place_of_word c_place_of_word k_place_of_word
  have B_place_of_word := F_place_of_word.binds (ps := P_place_of_word) fun _ _ _ _ _ _ us hl => match us, hl with | [_], _ => rfl
  have F_word_at := fun_mk (st := s_word_at) l_word_at c_word_at k_word_at
  have B_word_at := F_word_at.binds (ps := P_word_at) fun _ _ _ _ _ _ us hl => match us, hl with | [_], _ => rfl
  have F_place_of := fun_mk (st := s_place_of) l_place_of c_place_of k_place_of
  have B_place_of := F_place_of.binds (ps := P_place_of) fun _ _ _ _ _ _ us hl => match us, hl with | [_, _, _], _ => rfl
  have F_Environment_init : FunD K "__init__" "Environment.__init__" (defArgs s_Environment_init) (defBody s_Environment_init) (defScope s_Environment_init) [] [("system", .str "a"), ("machine", .str "a"), ("level", .int 0)] f_Environment_init (PySem.W.fnOf "__init__" "Environment.__init__" (defArgs s_Environment_init) (defBody s_Environment_init) (defScope s_Environment_init) .none (.ref kD_Environment_init) dc_Environment_init pm_Environment_init an_Environment_init cd_Environment_init ct_Environment_init) := ⟨⟨_, _, _, _, _, _, _, _, _, _, rfl, l_Environment_init, c_Environment_init, .inl ⟨rfl, rfl⟩, .inr ⟨kD_Environment_init, rfl, (List.forall_mem_cons.mpr ⟨⟨_, kd_Environment_init_system, ⟨_, rfl⟩⟩, (List.forall_mem_cons.mpr ⟨⟨_, kd_Environment_init_machine, ⟨_, rfl⟩⟩, (List.forall_mem_cons.mpr ⟨⟨_, kd_Environment_init_level, ⟨_, rfl⟩⟩, (fun q hq => nomatch hq)⟩)⟩)⟩)⟩⟩, k_Environment_init⟩
  have B0_Environment_init : ∃ ds : List Value, Vals [.str "a", .str "a", .int 0] ds ∧ Binds K (PySem.W.fnOf "__init__" "Environment.__init__" (defArgs s_Environment_init) (defBody s_Environment_init) (defScope s_Environment_init) .none (.ref kD_Environment_init) dc_Environment_init pm_Environment_init an_Environment_init cd_Environment_init ct_Environment_init) P_Environment_init ds := F_Environment_init.binds0 (ps := P_Environment_init) 1 (by simp) rfl fun _ _ _ _ _ _ us its h1 h2 => match us, its, h1, h2 with | [_], [_, _, _], _, _ => ⟨_, _, _, _, _, _, rfl, rfl, ⟨_, _, _, _, _, _, rfl, rfl, ⟨_, _, _, _, _, _, rfl, rfl, rfl⟩⟩⟩
  have F_Environment_eq := fun_mk (st := s_Environment_eq) l_Environment_eq c_Environment_eq k_Environment_eq
  have B_Environment_eq := F_Environment_eq.binds (ps := P_Environment_eq) fun _ _ _ _ _ _ us hl => match us, hl with | [_, _], _ => rfl
  have F_token_at := fun_mk (st := s_token_at) l_token_at c_token_at k_token_at
  have B_token_at := F_token_at.binds (ps := P_token_at) fun _ _ _ _ _ _ us hl => match us, hl with | [_, _], _ => rfl
  have F_tokens_of := fun_mk (st := s_tokens_of) l_tokens_of c_tokens_of k_tokens_of
  have B_tokens_of := F_tokens_of.binds (ps := P_tokens_of) fun _ _ _ _ _ _ us hl => match us, hl with | [_], _ => rfl
  have F_comparison_of := fun_mk (st := s_comparison_of) l_comparison_of c_comparison_of k_comparison_of
  have B_comparison_of := F_comparison_of.binds (ps := P_comparison_of) fun _ _ _ _ _ _ us hl => match us, hl with | [_], _ => rfl
  have F_terms_of := fun_mk (st := s_terms_of) l_terms_of c_terms_of k_terms_of
  have B_terms_of := F_terms_of.binds (ps := P_terms_of) fun _ _ _ _ _ _ us hl => match us, hl with | [_], _ => rfl
  have F_expression_of := fun_mk (st := s_expression_of) l_expression_of c_expression_of k_expression_of
  have B_expression_of := F_expression_of.binds (ps := P_expression_of) fun _ _ _ _ _ _ us hl => match us, hl with | [_], _ => rfl
  have F_expression_in := fun_mk (st := s_expression_in) l_expression_in c_expression_in k_expression_in
  have B_expression_in := F_expression_in.binds (ps := P_expression_in) fun _ _ _ _ _ _ us hl => match us, hl with | [_], _ => rfl
  have F_text_within := fun_mk (st := s_text_within) l_text_within c_text_within k_text_within
  have B_text_within := F_text_within.binds (ps := P_text_within) fun _ _ _ _ _ _ us hl => match us, hl with | [_, _, _], _ => rfl
  have F_text_of_operand := fun_mk (st := s_text_of_operand) l_text_of_operand c_text_of_operand k_text_of_operand
  have B_text_of_operand := F_text_of_operand.binds (ps := P_text_of_operand) fun _ _ _ _ _ _ us hl => match us, hl with | [_, _, _], _ => rfl
  have F_text_of_expression := fun_mk (st := s_text_of_expression) l_text_of_expression c_text_of_expression k_text_of_expression
  have B_text_of_expression := F_text_of_expression.binds (ps := P_text_of_expression) fun _ _ _ _ _ _ us hl => match us, hl with | [_], _ => rfl
  have F_compares := fun_mk (st := s_compares) l_compares c_compares k_compares
  have B_compares := F_compares.binds (ps := P_compares) fun _ _ _ _ _ _ us hl => match us, hl with | [_, _, _], _ => rfl
  have F_holds_at := fun_mk (st := s_holds_at) l_holds_at c_holds_at k_holds_at
  have B_holds_at := F_holds_at.binds (ps := P_holds_at) fun _ _ _ _ _ _ us hl => match us, hl with | [_, _], _ => rfl
  have F_words_to_look_at := fun_mk (st := s_words_to_look_at) l_words_to_look_at c_words_to_look_at k_words_to_look_at
  have B_words_to_look_at := F_words_to_look_at.binds (ps := P_words_to_look_at) fun _ _ _ _ _ _ us hl => match us, hl with | [_, _], _ => rfl
  have F_levels_to_look_at := fun_mk (st := s_levels_to_look_at) l_levels_to_look_at c_levels_to_look_at k_levels_to_look_at
  have B_levels_to_look_at := F_levels_to_look_at.binds (ps := P_levels_to_look_at) fun _ _ _ _ _ _ us hl => match us, hl with | [_], _ => rfl
  have F_spots_to_look_at := fun_mk (st := s_spots_to_look_at) l_spots_to_look_at c_spots_to_look_at k_spots_to_look_at
  have B_spots_to_look_at := F_spots_to_look_at.binds (ps := P_spots_to_look_at) fun _ _ _ _ _ _ us hl => match us, hl with | [_], _ => rfl
  have F_answers_at := fun_mk (st := s_answers_at) l_answers_at c_answers_at k_answers_at
  have B_answers_at := F_answers_at.binds (ps := P_answers_at) fun _ _ _ _ _ _ us hl => match us, hl with | [_, _], _ => rfl
  have F_first_spot := fun_mk (st := s_first_spot) l_first_spot c_first_spot k_first_spot
  have B_first_spot := F_first_spot.binds (ps := P_first_spot) fun _ _ _ _ _ _ us hl => match us, hl with | [_, _], _ => rfl
  have F_environment_at := fun_mk (st := s_environment_at) l_environment_at c_environment_at k_environment_at
  have B_environment_at := F_environment_at.binds (ps := P_environment_at) fun _ _ _ _ _ _ us hl => match us, hl with | [_], _ => rfl
  have F_Marker_init : FunD K "__init__" "Marker.__init__" (defArgs s_Marker_init) (defBody s_Marker_init) (defScope s_Marker_init) [.str "always"] [] f_Marker_init (PySem.W.fnOf "__init__" "Marker.__init__" (defArgs s_Marker_init) (defBody s_Marker_init) (defScope s_Marker_init) (.ref dt_Marker_init) kV_Marker_init dc_Marker_init pm_Marker_init an_Marker_init cd_Marker_init ct_Marker_init) := ⟨⟨_, _, _, _, _, _, _, _, _, _, rfl, l_Marker_init, c_Marker_init, .inr ⟨by simp, dt_Marker_init, _, _, _, rfl, w_Marker_init, rfl, .cons ⟨_, rfl⟩ (.nil)⟩, .inl rfl⟩, k_Marker_init⟩
  have B0_Marker_init : ∃ ds : List Value, Vals [.str "always"] ds ∧ Binds K (PySem.W.fnOf "__init__" "Marker.__init__" (defArgs s_Marker_init) (defBody s_Marker_init) (defScope s_Marker_init) (.ref dt_Marker_init) kV_Marker_init dc_Marker_init pm_Marker_init an_Marker_init cd_Marker_init ct_Marker_init) P_Marker_init ds := F_Marker_init.binds1 (ps := P_Marker_init) 1 0 (by simp) rfl fun _ _ _ _ _ _ _ us its h1 h2 => match us, its, h1, h2 with | [_], [_], _, _ => ⟨_, rfl, rfl⟩
  have B_Marker_init : Binds K (PySem.W.fnOf "__init__" "Marker.__init__" (defArgs s_Marker_init) (defBody s_Marker_init) (defScope s_Marker_init) (.ref dt_Marker_init) kV_Marker_init dc_Marker_init pm_Marker_init an_Marker_init cd_Marker_init ct_Marker_init) P_Marker_init [] := by
    obtain ⟨ds, hv, hb⟩ := F_Marker_init.binds1 (ps := P_Marker_init) 2 1 (by simp) rfl fun _ _ _ _ _ _ _ us its h1 h2 => match us, its, h1, h2 with | [_, _], [_], _, _ => ⟨_, rfl, rfl⟩
    cases hv
    exact hb
  have F_Marker_eq := fun_mk (st := s_Marker_eq) l_Marker_eq c_Marker_eq k_Marker_eq
  have B_Marker_eq := F_Marker_eq.binds (ps := P_Marker_eq) fun _ _ _ _ _ _ us hl => match us, hl with | [_, _], _ => rfl
  have F_Marker_le := fun_mk (st := s_Marker_le) l_Marker_le c_Marker_le k_Marker_le
  have B_Marker_le := F_Marker_le.binds (ps := P_Marker_le) fun _ _ _ _ _ _ us hl => match us, hl with | [_, _], _ => rfl
  have F_Marker_bool := fun_mk (st := s_Marker_bool) l_Marker_bool c_Marker_bool k_Marker_bool
  have B_Marker_bool := F_Marker_bool.binds (ps := P_Marker_bool) fun _ _ _ _ _ _ us hl => match us, hl with | [_], _ => rfl
  have F_Marker_str := fun_mk (st := s_Marker_str) l_Marker_str c_Marker_str k_Marker_str
  have B_Marker_str := F_Marker_str.binds (ps := P_Marker_str) fun _ _ _ _ _ _ us hl => match us, hl with | [_], _ => rfl
  have F_check_markers := fun_mk (st := s_check_markers) l_check_markers c_check_markers k_check_markers
  have B_check_markers := F_check_markers.binds (ps := P_check_markers) fun _ _ _ _ _ _ us hl => match us, hl with | [_], _ => rfl
  have F_apart := fun_mk (st := s_apart) l_apart c_apart k_apart
  have B_apart := F_apart.binds (ps := P_apart) fun _ _ _ _ _ _ us hl => match us, hl with | [_, _], _ => rfl
  have F_begin := fun_mk (st := s_begin) l_begin c_begin k_begin
  have B_begin := F_begin.binds (ps := P_begin) fun _ _ _ _ _ _ us hl => match us, hl with | [_], _ => rfl
  have F_mixed := fun_mk (st := s_mixed) l_mixed c_mixed k_mixed
  have B_mixed := F_mixed.binds (ps := P_mixed) fun _ _ _ _ _ _ us hl => match us, hl with | [_, _], _ => rfl
  have F_next := fun_mk (st := s_next) l_next c_next k_next
  have B_next := F_next.binds (ps := P_next) fun _ _ _ _ _ _ us hl => match us, hl with | [_, _], _ => rfl
  have F_tree := fun_mk (st := s_tree) l_tree c_tree k_tree
  have B_tree := F_tree.binds (ps := P_tree) fun _ _ _ _ _ _ us hl => match us, hl with | [_, _], _ => rfl
  have F_written := fun_mk (st := s_written) l_written c_written k_written
  have B_written := F_written.binds (ps := P_written) fun _ _ _ _ _ _ us hl => match us, hl with | [_], _ => rfl
  have F_holds := fun_mk (st := s_holds) l_holds c_holds k_holds
  have B_holds := F_holds.binds (ps := P_holds) fun _ _ _ _ _ _ us hl => match us, hl with | [_, _], _ => rfl
  have F_values := fun_mk (st := s_values) l_values c_values k_values
  have B_values := F_values.binds (ps := P_values) fun _ _ _ _ _ _ us hl => match us, hl with | [_, _], _ => rfl
  have F_in_order := fun_mk (st := s_in_order) l_in_order c_in_order k_in_order
  have B_in_order := F_in_order.binds (ps := P_in_order) fun _ _ _ _ _ _ us hl => match us, hl with | [_], _ => rfl
  have F_grid := fun_mk (st := s_grid) l_grid c_grid k_grid
  have B_grid := F_grid.binds (ps := P_grid) fun _ _ _ _ _ _ us hl => match us, hl with | [_], _ => rfl
  have F_environment := fun_mk (st := s_environment) l_environment c_environment k_environment
  have B_environment := F_environment.binds (ps := P_environment) fun _ _ _ _ _ _ us hl => match us, hl with | [_], _ => rfl
  have F_same := fun_mk (st := s_same) l_same c_same k_same
  have B_same := F_same.binds (ps := P_same) fun _ _ _ _ _ _ us hl => match us, hl with | [_, _], _ => rfl
  have F_right := fun_mk (st := s_right) l_right c_right k_right
  have B_right := F_right.binds (ps := P_right) fun _ _ _ _ _ _ us hl => match us, hl with | [_, _], _ => rfl
  have F_law := fun_mk (st := s_law) l_law c_law k_law
  have B_law := F_law.binds (ps := P_law) fun _ _ _ _ _ _ us hl => match us, hl with | [_], _ => rfl
  have F_BadEnvironment_init := fun_mk (st := s_BadEnvironment_init) l_BadEnvironment_init c_BadEnvironment_init k_BadEnvironment_init
  have B_BadEnvironment_init := F_BadEnvironment_init.binds (ps := P_BadEnvironment_init) fun _ _ _ _ _ _ us hl => match us, hl with | [_, _], _ => rfl
  have F_BadMarker_init := fun_mk (st := s_BadMarker_init) l_BadMarker_init c_BadMarker_init k_BadMarker_init
  have B_BadMarker_init := F_BadMarker_init.binds (ps := P_BadMarker_init) fun _ _ _ _ _ _ us hl => match us, hl with | [_, _], _ => rfl
  have KM_Environment_init_km_system_machine_level : ∃ g, KM K (PySem.W.fnOf "__init__" "Environment.__init__" (defArgs s_Environment_init) (defBody s_Environment_init) (defScope s_Environment_init) .none (.ref kD_Environment_init) dc_Environment_init pm_Environment_init an_Environment_init cd_Environment_init ct_Environment_init) P_Environment_init ["system", "machine", "level"] g (fun us => match us with | [x0, x1, x2] => [x0, x1, x2] | _ => []) := km_of (FunD_km F_Environment_init (ps := P_Environment_init) ["system", "machine", "level"] [] (fun mv ws => match mv, ws with | [], [z0, z1, z2] => [z0, z1, z2] | _, _ => []) (by simp) (by simp) (fun mz zs mv ws l1 l2 r2 r3 => match mz, mv, zs, ws, l1, l2, r2, r3 with | [], _, [_, _, _], _, _, _, .nil, .cons z0 (.cons z1 (.cons z2 (.nil))) => .cons z0 (.cons z1 (.cons z2 (.nil)))) (fun _ _ _ _ _ _ c mv ws h2 h3 => match mv, ws, h2, h3 with | [], [_, _, _], _, _ => rfl)) (fun zs hl => match zs, hl with | [_, _, _], _ => rfl)
  have KM_Environment_init_km_level : ∃ g, KM K (PySem.W.fnOf "__init__" "Environment.__init__" (defArgs s_Environment_init) (defBody s_Environment_init) (defScope s_Environment_init) .none (.ref kD_Environment_init) dc_Environment_init pm_Environment_init an_Environment_init cd_Environment_init ct_Environment_init) P_Environment_init ["level"] g (fun us => match us with | [x0] => [.str "a", .str "a", x0] | _ => []) := km_of (FunD_km F_Environment_init (ps := P_Environment_init) ["level"] [("system", .str "a"), ("machine", .str "a")] (fun mv ws => match mv, ws with | [m0, m1], [z0] => [m0, m1, z0] | _, _ => []) (by simp) (by simp) (fun mz zs mv ws l1 l2 r2 r3 => match mz, mv, zs, ws, l1, l2, r2, r3 with | [_, _], _, [_], _, _, _, .cons m0 (.cons m1 (.nil)), .cons z0 (.nil) => .cons m0 (.cons m1 (.cons z0 (.nil)))) (fun _ _ _ _ _ _ c mv ws h2 h3 => match mv, ws, h2, h3 with | [_, _], [_], _, _ => ⟨_, _, _, _, _, _, rfl, rfl, ⟨_, _, _, _, _, _, rfl, rfl, rfl⟩⟩)) (fun zs hl => match zs, hl with | [_], _ => rfl)
  have T : TexW w K mg { a_is_whole := f_is_whole, d_is_whole := (PySem.W.fnOf "is_whole" "is_whole" (defArgs s_is_whole) (defBody s_is_whole) (defScope s_is_whole) .none kV_is_whole dc_is_whole pm_is_whole an_is_whole cd_is_whole ct_is_whole), a_is_count := f_is_count, d_is_count := (PySem.W.fnOf "is_count" "is_count" (defArgs s_is_count) (defBody s_is_count) (defScope s_is_count) .none kV_is_count dc_is_count pm_is_count an_is_count cd_is_count ct_is_count), a_is_whole_to := f_is_whole_to, d_is_whole_to := (PySem.W.fnOf "is_whole_to" "is_whole_to" (defArgs s_is_whole_to) (defBody s_is_whole_to) (defScope s_is_whole_to) .none kV_is_whole_to dc_is_whole_to pm_is_whole_to an_is_whole_to cd_is_whole_to ct_is_whole_to), a_consists_of := f_consists_of, d_consists_of := (PySem.W.fnOf "consists_of" "consists_of" (defArgs s_consists_of) (defBody s_consists_of) (defScope s_consists_of) .none kV_consists_of dc_consists_of pm_consists_of an_consists_of cd_consists_of ct_consists_of), a_is_string_of := f_is_string_of, d_is_string_of := (PySem.W.fnOf "is_string_of" "is_string_of" (defArgs s_is_string_of) (defBody s_is_string_of) (defScope s_is_string_of) .none kV_is_string_of dc_is_string_of pm_is_string_of an_is_string_of cd_is_string_of ct_is_string_of), a_number_in := f_number_in, d_number_in := (PySem.W.fnOf "number_in" "number_in" (defArgs s_number_in) (defBody s_number_in) (defScope s_number_in) .none kV_number_in dc_number_in pm_number_in an_number_in cd_number_in ct_number_in), a_is_word := f_is_word, d_is_word := (PySem.W.fnOf "is_word" "is_word" (defArgs s_is_word) (defBody s_is_word) (defScope s_is_word) .none kV_is_word dc_is_word pm_is_word an_is_word cd_is_word ct_is_word), a_place_of_word := f_place_of_word, d_place_of_word := (PySem.W.fnOf "place_of_word" "place_of_word" (defArgs s_place_of_word) (defBody s_place_of_word) (defScope s_place_of_word) .none kV_place_of_word dc_place_of_word pm_place_of_word an_place_of_word cd_place_of_word ct_place_of_word), a_word_at := f_word_at, d_word_at := (PySem.W.fnOf "word_at" "word_at" (defArgs s_word_at) (defBody s_word_at) (defScope s_word_at) .none kV_word_at dc_word_at pm_word_at an_word_at cd_word_at ct_word_at), a_place_of := f_place_of, d_place_of := (PySem.W.fnOf "place_of" "place_of" (defArgs s_place_of) (defBody s_place_of) (defScope s_place_of) .none kV_place_of dc_place_of pm_place_of an_place_of cd_place_of ct_place_of), a_Environment_init := f_Environment_init, d_Environment_init := (PySem.W.fnOf "__init__" "Environment.__init__" (defArgs s_Environment_init) (defBody s_Environment_init) (defScope s_Environment_init) .none (.ref kD_Environment_init) dc_Environment_init pm_Environment_init an_Environment_init cd_Environment_init ct_Environment_init), a_Environment_eq := f_Environment_eq, d_Environment_eq := (PySem.W.fnOf "__eq__" "Environment.__eq__" (defArgs s_Environment_eq) (defBody s_Environment_eq) (defScope s_Environment_eq) .none kV_Environment_eq dc_Environment_eq pm_Environment_eq an_Environment_eq cd_Environment_eq ct_Environment_eq), a_token_at := f_token_at, d_token_at := (PySem.W.fnOf "token_at" "token_at" (defArgs s_token_at) (defBody s_token_at) (defScope s_token_at) .none kV_token_at dc_token_at pm_token_at an_token_at cd_token_at ct_token_at), a_tokens_of := f_tokens_of, d_tokens_of := (PySem.W.fnOf "tokens_of" "tokens_of" (defArgs s_tokens_of) (defBody s_tokens_of) (defScope s_tokens_of) .none kV_tokens_of dc_tokens_of pm_tokens_of an_tokens_of cd_tokens_of ct_tokens_of), a_comparison_of := f_comparison_of, d_comparison_of := (PySem.W.fnOf "comparison_of" "comparison_of" (defArgs s_comparison_of) (defBody s_comparison_of) (defScope s_comparison_of) .none kV_comparison_of dc_comparison_of pm_comparison_of an_comparison_of cd_comparison_of ct_comparison_of), a_terms_of := f_terms_of, d_terms_of := (PySem.W.fnOf "terms_of" "terms_of" (defArgs s_terms_of) (defBody s_terms_of) (defScope s_terms_of) .none kV_terms_of dc_terms_of pm_terms_of an_terms_of cd_terms_of ct_terms_of), a_expression_of := f_expression_of, d_expression_of := (PySem.W.fnOf "expression_of" "expression_of" (defArgs s_expression_of) (defBody s_expression_of) (defScope s_expression_of) .none kV_expression_of dc_expression_of pm_expression_of an_expression_of cd_expression_of ct_expression_of), a_expression_in := f_expression_in, d_expression_in := (PySem.W.fnOf "expression_in" "expression_in" (defArgs s_expression_in) (defBody s_expression_in) (defScope s_expression_in) .none kV_expression_in dc_expression_in pm_expression_in an_expression_in cd_expression_in ct_expression_in), a_text_within := f_text_within, d_text_within := (PySem.W.fnOf "text_within" "text_within" (defArgs s_text_within) (defBody s_text_within) (defScope s_text_within) .none kV_text_within dc_text_within pm_text_within an_text_within cd_text_within ct_text_within), a_text_of_operand := f_text_of_operand, d_text_of_operand := (PySem.W.fnOf "text_of_operand" "text_of_operand" (defArgs s_text_of_operand) (defBody s_text_of_operand) (defScope s_text_of_operand) .none kV_text_of_operand dc_text_of_operand pm_text_of_operand an_text_of_operand cd_text_of_operand ct_text_of_operand), a_text_of_expression := f_text_of_expression, d_text_of_expression := (PySem.W.fnOf "text_of_expression" "text_of_expression" (defArgs s_text_of_expression) (defBody s_text_of_expression) (defScope s_text_of_expression) .none kV_text_of_expression dc_text_of_expression pm_text_of_expression an_text_of_expression cd_text_of_expression ct_text_of_expression), a_compares := f_compares, d_compares := (PySem.W.fnOf "compares" "compares" (defArgs s_compares) (defBody s_compares) (defScope s_compares) .none kV_compares dc_compares pm_compares an_compares cd_compares ct_compares), a_holds_at := f_holds_at, d_holds_at := (PySem.W.fnOf "holds_at" "holds_at" (defArgs s_holds_at) (defBody s_holds_at) (defScope s_holds_at) .none kV_holds_at dc_holds_at pm_holds_at an_holds_at cd_holds_at ct_holds_at), a_words_to_look_at := f_words_to_look_at, d_words_to_look_at := (PySem.W.fnOf "words_to_look_at" "words_to_look_at" (defArgs s_words_to_look_at) (defBody s_words_to_look_at) (defScope s_words_to_look_at) .none kV_words_to_look_at dc_words_to_look_at pm_words_to_look_at an_words_to_look_at cd_words_to_look_at ct_words_to_look_at), a_levels_to_look_at := f_levels_to_look_at, d_levels_to_look_at := (PySem.W.fnOf "levels_to_look_at" "levels_to_look_at" (defArgs s_levels_to_look_at) (defBody s_levels_to_look_at) (defScope s_levels_to_look_at) .none kV_levels_to_look_at dc_levels_to_look_at pm_levels_to_look_at an_levels_to_look_at cd_levels_to_look_at ct_levels_to_look_at), a_spots_to_look_at := f_spots_to_look_at, d_spots_to_look_at := (PySem.W.fnOf "spots_to_look_at" "spots_to_look_at" (defArgs s_spots_to_look_at) (defBody s_spots_to_look_at) (defScope s_spots_to_look_at) .none kV_spots_to_look_at dc_spots_to_look_at pm_spots_to_look_at an_spots_to_look_at cd_spots_to_look_at ct_spots_to_look_at), a_answers_at := f_answers_at, d_answers_at := (PySem.W.fnOf "answers_at" "answers_at" (defArgs s_answers_at) (defBody s_answers_at) (defScope s_answers_at) .none kV_answers_at dc_answers_at pm_answers_at an_answers_at cd_answers_at ct_answers_at), a_first_spot := f_first_spot, d_first_spot := (PySem.W.fnOf "first_spot" "first_spot" (defArgs s_first_spot) (defBody s_first_spot) (defScope s_first_spot) .none kV_first_spot dc_first_spot pm_first_spot an_first_spot cd_first_spot ct_first_spot), a_environment_at := f_environment_at, d_environment_at := (PySem.W.fnOf "environment_at" "environment_at" (defArgs s_environment_at) (defBody s_environment_at) (defScope s_environment_at) .none kV_environment_at dc_environment_at pm_environment_at an_environment_at cd_environment_at ct_environment_at), a_Marker_init := f_Marker_init, d_Marker_init := (PySem.W.fnOf "__init__" "Marker.__init__" (defArgs s_Marker_init) (defBody s_Marker_init) (defScope s_Marker_init) (.ref dt_Marker_init) kV_Marker_init dc_Marker_init pm_Marker_init an_Marker_init cd_Marker_init ct_Marker_init), a_Marker_eq := f_Marker_eq, d_Marker_eq := (PySem.W.fnOf "__eq__" "Marker.__eq__" (defArgs s_Marker_eq) (defBody s_Marker_eq) (defScope s_Marker_eq) .none kV_Marker_eq dc_Marker_eq pm_Marker_eq an_Marker_eq cd_Marker_eq ct_Marker_eq), a_Marker_le := f_Marker_le, d_Marker_le := (PySem.W.fnOf "__le__" "Marker.__le__" (defArgs s_Marker_le) (defBody s_Marker_le) (defScope s_Marker_le) .none kV_Marker_le dc_Marker_le pm_Marker_le an_Marker_le cd_Marker_le ct_Marker_le), a_Marker_bool := f_Marker_bool, d_Marker_bool := (PySem.W.fnOf "__bool__" "Marker.__bool__" (defArgs s_Marker_bool) (defBody s_Marker_bool) (defScope s_Marker_bool) .none kV_Marker_bool dc_Marker_bool pm_Marker_bool an_Marker_bool cd_Marker_bool ct_Marker_bool), a_Marker_str := f_Marker_str, d_Marker_str := (PySem.W.fnOf "__str__" "Marker.__str__" (defArgs s_Marker_str) (defBody s_Marker_str) (defScope s_Marker_str) .none kV_Marker_str dc_Marker_str pm_Marker_str an_Marker_str cd_Marker_str ct_Marker_str), a_check_markers := f_check_markers, d_check_markers := (PySem.W.fnOf "check_markers" "check_markers" (defArgs s_check_markers) (defBody s_check_markers) (defScope s_check_markers) .none kV_check_markers dc_check_markers pm_check_markers an_check_markers cd_check_markers ct_check_markers), a_apart := f_apart, d_apart := (PySem.W.fnOf "apart" "apart" (defArgs s_apart) (defBody s_apart) (defScope s_apart) .none kV_apart dc_apart pm_apart an_apart cd_apart ct_apart), a_begin := f_begin, d_begin := (PySem.W.fnOf "_law_begin" "_law_begin" (defArgs s_begin) (defBody s_begin) (defScope s_begin) .none kV_begin dc_begin pm_begin an_begin cd_begin ct_begin), a_mixed := f_mixed, d_mixed := (PySem.W.fnOf "_law_mixed" "_law_mixed" (defArgs s_mixed) (defBody s_mixed) (defScope s_mixed) .none kV_mixed dc_mixed pm_mixed an_mixed cd_mixed ct_mixed), a_next := f_next, d_next := (PySem.W.fnOf "_law_next" "_law_next" (defArgs s_next) (defBody s_next) (defScope s_next) .none kV_next dc_next pm_next an_next cd_next ct_next), a_tree := f_tree, d_tree := (PySem.W.fnOf "_law_tree" "_law_tree" (defArgs s_tree) (defBody s_tree) (defScope s_tree) .none kV_tree dc_tree pm_tree an_tree cd_tree ct_tree), a_written := f_written, d_written := (PySem.W.fnOf "_law_written" "_law_written" (defArgs s_written) (defBody s_written) (defScope s_written) .none kV_written dc_written pm_written an_written cd_written ct_written), a_holds := f_holds, d_holds := (PySem.W.fnOf "_law_holds" "_law_holds" (defArgs s_holds) (defBody s_holds) (defScope s_holds) .none kV_holds dc_holds pm_holds an_holds cd_holds ct_holds), a_values := f_values, d_values := (PySem.W.fnOf "_law_values" "_law_values" (defArgs s_values) (defBody s_values) (defScope s_values) .none kV_values dc_values pm_values an_values cd_values ct_values), a_in_order := f_in_order, d_in_order := (PySem.W.fnOf "_law_in_order" "_law_in_order" (defArgs s_in_order) (defBody s_in_order) (defScope s_in_order) .none kV_in_order dc_in_order pm_in_order an_in_order cd_in_order ct_in_order), a_grid := f_grid, d_grid := (PySem.W.fnOf "_law_grid" "_law_grid" (defArgs s_grid) (defBody s_grid) (defScope s_grid) .none kV_grid dc_grid pm_grid an_grid cd_grid ct_grid), a_environment := f_environment, d_environment := (PySem.W.fnOf "_law_environment" "_law_environment" (defArgs s_environment) (defBody s_environment) (defScope s_environment) .none kV_environment dc_environment pm_environment an_environment cd_environment ct_environment), a_same := f_same, d_same := (PySem.W.fnOf "_law_same" "_law_same" (defArgs s_same) (defBody s_same) (defScope s_same) .none kV_same dc_same pm_same an_same cd_same ct_same), a_right := f_right, d_right := (PySem.W.fnOf "_law_right" "_law_right" (defArgs s_right) (defBody s_right) (defScope s_right) .none kV_right dc_right pm_right an_right cd_right ct_right), a_law := f_law, d_law := (PySem.W.fnOf "law" "law" (defArgs s_law) (defBody s_law) (defScope s_law) .none kV_law dc_law pm_law an_law cd_law ct_law), a_BadEnvironment_init := f_BadEnvironment_init, d_BadEnvironment_init := (PySem.W.fnOf "__init__" "BadEnvironment.__init__" (defArgs s_BadEnvironment_init) (defBody s_BadEnvironment_init) (defScope s_BadEnvironment_init) .none kV_BadEnvironment_init dc_BadEnvironment_init pm_BadEnvironment_init an_BadEnvironment_init cd_BadEnvironment_init ct_BadEnvironment_init), a_BadMarker_init := f_BadMarker_init, d_BadMarker_init := (PySem.W.fnOf "__init__" "BadMarker.__init__" (defArgs s_BadMarker_init) (defBody s_BadMarker_init) (defScope s_BadMarker_init) .none kV_BadMarker_init dc_BadMarker_init pm_BadMarker_init an_BadMarker_init cd_BadMarker_init ct_BadMarker_init), a_BadMarker := f_BadMarker, a_BadEnvironment := f_BadEnvironment, a_Environment := f_Environment, a_Marker := f_Marker, t_LETTERS := t_LETTERS, t_DIGITS := t_DIGITS, t_HIGHEST := t_HIGHEST, t_WORDS := t_WORDS, k_SIGNS := k_SIGNS, k_LEVEL_SIGNS := k_LEVEL_SIGNS, k_FIELDS := k_FIELDS, k_OPERANDS := k_OPERANDS, k_BINDINGS := k_BINDINGS, t_TIGHTEST := t_TIGHTEST, k_NOT0 := k_NOT0, k_NOT := k_NOT, k_AND0 := k_AND0, k_AND := k_AND, k_OR0 := k_OR0, k_OR := k_OR } := { is_whole_F := F_is_whole, is_whole_g := PySem.W.mg_of X G n_is_whole, is_whole_b := B_is_whole, is_count_F := F_is_count, is_count_g := PySem.W.mg_of X G n_is_count, is_count_b := B_is_count, is_whole_to_F := F_is_whole_to, is_whole_to_g := PySem.W.mg_of X G n_is_whole_to, is_whole_to_b := B_is_whole_to, consists_of_F := F_consists_of, consists_of_g := PySem.W.mg_of X G n_consists_of, consists_of_b := B_consists_of, is_string_of_F := F_is_string_of, is_string_of_g := PySem.W.mg_of X G n_is_string_of, is_string_of_b := B_is_string_of, number_in_F := F_number_in, number_in_g := PySem.W.mg_of X G n_number_in, number_in_b := B_number_in, is_word_F := F_is_word, is_word_g := PySem.W.mg_of X G n_is_word, is_word_b := B_is_word, place_of_word_F := F_place_of_word, place_of_word_g := PySem.W.mg_of X G n_place_of_word, place_of_word_b := B_place_of_word, word_at_F := F_word_at, word_at_g := PySem.W.mg_of X G n_word_at, word_at_b := B_word_at, place_of_F := F_place_of, place_of_g := PySem.W.mg_of X G n_place_of, place_of_b := B_place_of, Environment_init_b0 := B0_Environment_init, Environment_init_F := F_Environment_init, Environment_eq_F := F_Environment_eq, Environment_eq_b := B_Environment_eq, token_at_F := F_token_at, token_at_g := PySem.W.mg_of X G n_token_at, token_at_b := B_token_at, tokens_of_F := F_tokens_of, tokens_of_g := PySem.W.mg_of X G n_tokens_of, tokens_of_b := B_tokens_of, comparison_of_F := F_comparison_of, comparison_of_g := PySem.W.mg_of X G n_comparison_of, comparison_of_b := B_comparison_of, terms_of_F := F_terms_of, terms_of_g := PySem.W.mg_of X G n_terms_of, terms_of_b := B_terms_of, expression_of_F := F_expression_of, expression_of_g := PySem.W.mg_of X G n_expression_of, expression_of_b := B_expression_of, expression_in_F := F_expression_in, expression_in_g := PySem.W.mg_of X G n_expression_in, expression_in_b := B_expression_in, text_within_F := F_text_within, text_within_g := PySem.W.mg_of X G n_text_within, text_within_b := B_text_within, text_of_operand_F := F_text_of_operand, text_of_operand_g := PySem.W.mg_of X G n_text_of_operand, text_of_operand_b := B_text_of_operand, text_of_expression_F := F_text_of_expression, text_of_expression_g := PySem.W.mg_of X G n_text_of_expression, text_of_expression_b := B_text_of_expression, compares_F := F_compares, compares_g := PySem.W.mg_of X G n_compares, compares_b := B_compares, holds_at_F := F_holds_at, holds_at_g := PySem.W.mg_of X G n_holds_at, holds_at_b := B_holds_at, words_to_look_at_F := F_words_to_look_at, words_to_look_at_g := PySem.W.mg_of X G n_words_to_look_at, words_to_look_at_b := B_words_to_look_at, levels_to_look_at_F := F_levels_to_look_at, levels_to_look_at_g := PySem.W.mg_of X G n_levels_to_look_at, levels_to_look_at_b := B_levels_to_look_at, spots_to_look_at_F := F_spots_to_look_at, spots_to_look_at_g := PySem.W.mg_of X G n_spots_to_look_at, spots_to_look_at_b := B_spots_to_look_at, answers_at_F := F_answers_at, answers_at_g := PySem.W.mg_of X G n_answers_at, answers_at_b := B_answers_at, first_spot_F := F_first_spot, first_spot_g := PySem.W.mg_of X G n_first_spot, first_spot_b := B_first_spot, environment_at_F := F_environment_at, environment_at_g := PySem.W.mg_of X G n_environment_at, environment_at_b := B_environment_at, Marker_init_b0 := B0_Marker_init, Marker_init_F := F_Marker_init, Marker_init_b := B_Marker_init, Marker_eq_F := F_Marker_eq, Marker_eq_b := B_Marker_eq, Marker_le_F := F_Marker_le, Marker_le_b := B_Marker_le, Marker_bool_F := F_Marker_bool, Marker_bool_b := B_Marker_bool, Marker_str_F := F_Marker_str, Marker_str_b := B_Marker_str, check_markers_F := F_check_markers, check_markers_g := PySem.W.mg_of X G n_check_markers, check_markers_b := B_check_markers, apart_F := F_apart, apart_g := PySem.W.mg_of X G n_apart, apart_b := B_apart, begin_F := F_begin, begin_g := PySem.W.mg_of X G n_begin, begin_b := B_begin, mixed_F := F_mixed, mixed_g := PySem.W.mg_of X G n_mixed, mixed_b := B_mixed, next_F := F_next, next_g := PySem.W.mg_of X G n_next, next_b := B_next, tree_F := F_tree, tree_g := PySem.W.mg_of X G n_tree, tree_b := B_tree, written_F := F_written, written_g := PySem.W.mg_of X G n_written, written_b := B_written, holds_F := F_holds, holds_g := PySem.W.mg_of X G n_holds, holds_b := B_holds, values_F := F_values, values_g := PySem.W.mg_of X G n_values, values_b := B_values, in_order_F := F_in_order, in_order_g := PySem.W.mg_of X G n_in_order, in_order_b := B_in_order, grid_F := F_grid, grid_g := PySem.W.mg_of X G n_grid, grid_b := B_grid, environment_F := F_environment, environment_g := PySem.W.mg_of X G n_environment, environment_b := B_environment, same_F := F_same, same_g := PySem.W.mg_of X G n_same, same_b := B_same, right_F := F_right, right_g := PySem.W.mg_of X G n_right, right_b := B_right, law_F := F_law, law_g := PySem.W.mg_of X G n_law, law_b := B_law, BadEnvironment_init_F := F_BadEnvironment_init, BadEnvironment_init_b := B_BadEnvironment_init, BadMarker_init_F := F_BadMarker_init, BadMarker_init_b := B_BadMarker_init, BadMarker_g := PySem.W.mg_of X G n_BadMarker, BadMarker_xa := ⟨⟨⟨_, _, _, _, _, _, _, _, _, _, _, _, _, _, _, xl_BadMarker, xr_BadMarker⟩, xsa_BadMarker, xb_BadMarker, xy_BadMarker, xk_BadMarker⟩, ⟨xg_BadMarker, xh_BadMarker, xb_BadMarker, xd_BadMarker⟩, ⟨xg_BadMarker, xh_BadMarker, xb_BadMarker, xd_BadMarker, xc_BadMarker, xn_BadMarker, xq_BadMarker, xm_BadMarker⟩⟩, BadMarker_xt := xt_BadMarker, BadMarker_xf := xf_BadMarker, BadMarker_xi := at_BadMarker_init, BadEnvironment_g := PySem.W.mg_of X G n_BadEnvironment, BadEnvironment_xa := ⟨⟨⟨_, _, _, _, _, _, _, _, _, _, _, _, _, _, _, xl_BadEnvironment, xr_BadEnvironment⟩, xsa_BadEnvironment, xb_BadEnvironment, xy_BadEnvironment, xk_BadEnvironment⟩, ⟨xg_BadEnvironment, xh_BadEnvironment, xb_BadEnvironment, xd_BadEnvironment⟩, ⟨xg_BadEnvironment, xh_BadEnvironment, xb_BadEnvironment, xd_BadEnvironment, xc_BadEnvironment, xn_BadEnvironment, xq_BadEnvironment, xm_BadEnvironment⟩⟩, BadEnvironment_xt := xt_BadEnvironment, BadEnvironment_xf := xf_BadEnvironment, BadEnvironment_xi := at_BadEnvironment_init, Marker_ne_b := on_Marker, Environment_ne_b := on_Environment, Environment_init_km_system_machine_level := KM_Environment_init_km_system_machine_level, Environment_init_km_level := KM_Environment_init_km_level, Environment_g := PySem.W.mg_of X G n_Environment, Environment_cl := ⟨pg_Environment, hd_Environment, po_Environment, sa_Environment⟩, Environment_mk := ⟨mk_Environment, at_Environment_init, fn_Environment_init, kc_Environment⟩, Environment_rd := ⟨rd_Environment, ga_Environment⟩, Environment_si := ⟨ca_Environment, cn_Environment, ct_Environment, cm_Environment⟩, Environment_nf := nf_Environment, Environment_n_system := na_Environment_system, Environment_n_machine := na_Environment_machine, Environment_n_level := na_Environment_level, Environment_n_place := na_Environment_place, Environment_init_at := at_Environment_init, Environment_init_fn := fn_Environment_init, Environment_eq_at := at_Environment_eq, Environment_eq_fn := fn_Environment_eq, Marker_g := PySem.W.mg_of X G n_Marker, Marker_cl := ⟨pg_Marker, hd_Marker, po_Marker, sa_Marker⟩, Marker_mk := ⟨mk_Marker, at_Marker_init, fn_Marker_init, kc_Marker⟩, Marker_rd := ⟨rd_Marker, ga_Marker⟩, Marker_si := ⟨ca_Marker, cn_Marker, ct_Marker, cm_Marker⟩, Marker_nf := nf_Marker, Marker_sf := sf_Marker, Marker_n_steps := na_Marker_steps, Marker_init_at := at_Marker_init, Marker_init_fn := fn_Marker_init, Marker_eq_at := at_Marker_eq, Marker_eq_fn := fn_Marker_eq, Marker_le_at := at_Marker_le, Marker_le_fn := fn_Marker_le, Marker_bool_at := at_Marker_bool, Marker_bool_fn := fn_Marker_bool, Marker_str_at := at_Marker_str, Marker_str_fn := fn_Marker_str, c_LETTERS := PySem.W.mg_of X G g_LETTERS, c_DIGITS := PySem.W.mg_of X G g_DIGITS, c_HIGHEST := PySem.W.mg_of X G g_HIGHEST, c_WORDS := PySem.W.mg_of X G g_WORDS, c_SIGNS := PySem.W.mg_of X G g_SIGNS, v_SIGNS := .inr ⟨_, _, _, w_SIGNS, rfl, rfl, (by show 8 ≤ sizeLine; decide), .cons ⟨_, rfl⟩ (.cons ⟨_, rfl⟩ (.cons ⟨_, rfl⟩ (.cons ⟨_, rfl⟩ (.cons ⟨_, rfl⟩ (.cons ⟨_, rfl⟩ (.cons ⟨_, rfl⟩ (.cons ⟨_, rfl⟩ (.nil))))))))⟩, c_LEVEL_SIGNS := PySem.W.mg_of X G g_LEVEL_SIGNS, v_LEVEL_SIGNS := .inr ⟨_, _, _, w_LEVEL_SIGNS, rfl, rfl, (by show 6 ≤ sizeLine; decide), .cons ⟨_, rfl⟩ (.cons ⟨_, rfl⟩ (.cons ⟨_, rfl⟩ (.cons ⟨_, rfl⟩ (.cons ⟨_, rfl⟩ (.cons ⟨_, rfl⟩ (.nil))))))⟩, c_FIELDS := PySem.W.mg_of X G g_FIELDS, v_FIELDS := .inr ⟨_, _, _, w_FIELDS, rfl, rfl, (by show 3 ≤ sizeLine; decide), .cons ⟨_, rfl⟩ (.cons ⟨_, rfl⟩ (.cons ⟨_, rfl⟩ (.nil)))⟩, c_OPERANDS := PySem.W.mg_of X G g_OPERANDS, v_OPERANDS := .inr ⟨_, _, _, w_OPERANDS, rfl, rfl, (by show 5 ≤ sizeLine; decide), .cons ⟨_, rfl⟩ (.cons ⟨_, rfl⟩ (.cons ⟨_, rfl⟩ (.cons ⟨_, rfl⟩ (.cons ⟨_, rfl⟩ (.nil)))))⟩, c_BINDINGS := PySem.W.mg_of X G g_BINDINGS, v_BINDINGS := cdic_ints [("(", t_BINDINGS0, 0, u_BINDINGS0), (")", t_BINDINGS1, 1, u_BINDINGS1), ("or", t_BINDINGS2, 1, u_BINDINGS2), ("and", t_BINDINGS3, 2, u_BINDINGS3), ("not", t_BINDINGS4, 3, u_BINDINGS4)] w_BINDINGS s_BINDINGS, c_TIGHTEST := PySem.W.mg_of X G g_TIGHTEST, v_NOT0 := .inr ⟨_, _, _, w_NOT0, rfl, rfl, (by show 3 ≤ sizeLine; decide), .cons ⟨_, rfl⟩ (.cons ⟨_, rfl⟩ (.cons ⟨_, rfl⟩ (.nil)))⟩, c_NOT := PySem.W.mg_of X G g_NOT, v_NOT := .inr ⟨_, _, _, w_NOT, rfl, rfl, (by show 1 ≤ sizeLine; decide), .cons rfl (.nil)⟩, v_AND0 := .inr ⟨_, _, _, w_AND0, rfl, rfl, (by show 3 ≤ sizeLine; decide), .cons ⟨_, rfl⟩ (.cons ⟨_, rfl⟩ (.cons ⟨_, rfl⟩ (.nil)))⟩, c_AND := PySem.W.mg_of X G g_AND, v_AND := .inr ⟨_, _, _, w_AND, rfl, rfl, (by show 1 ≤ sizeLine; decide), .cons rfl (.nil)⟩, v_OR0 := .inr ⟨_, _, _, w_OR0, rfl, rfl, (by show 3 ≤ sizeLine; decide), .cons ⟨_, rfl⟩ (.cons ⟨_, rfl⟩ (.cons ⟨_, rfl⟩ (.nil)))⟩, c_OR := PySem.W.mg_of X G g_OR, v_OR := .inr ⟨_, _, _, w_OR, rfl, rfl, (by show 1 ≤ sizeLine; decide), .cons rfl (.nil)⟩, b_all := PySem.W.mg_none_of X G z_all, b_bool := PySem.W.mg_none_of X G z_bool, b_divmod := PySem.W.mg_none_of X G z_divmod, b_int := PySem.W.mg_none_of X G z_int, b_isinstance := PySem.W.mg_none_of X G z_isinstance, b_len := PySem.W.mg_none_of X G z_len, b_max := PySem.W.mg_none_of X G z_max, b_min := PySem.W.mg_none_of X G z_min, b_range := PySem.W.mg_none_of X G z_range, b_reversed := PySem.W.mg_none_of X G z_reversed, b_sorted := PySem.W.mg_none_of X G z_sorted, b_str := PySem.W.mg_none_of X G z_str, b_tuple := PySem.W.mg_none_of X G z_tuple }
  exact ⟨_, fun s v => .of_eq rfl, fun base _ _ => ok_law T⟩
end Pk
open PySem PySem.W PyProof.Rows
set_option maxRecDepth 100000 in
set_option maxHeartbeats 0 in
theorem PySem.Challenge.cw_parcelindex_k17_whole_equal_markers_holds : PySem.Challenge.rw_parcelindex_k17_whole_equal_markers.Holds := by
  w_on; o_law; k_head; (case hw => w_witness2)
  k_fill
  refine Pk.walkG (l := PySem.Challenge.rw_parcelindex_k17_whole_equal_markers) (k := 18) (x := "_law_script") (sp := Pk.spLaw) rfl rfl ⟨rfl, by decide, by decide⟩ (fun w h Y => PySem.W.kIn_of Y) ?F (fun K H a ns hl hS => ⟨a, ns, rfl, hS, hl, fun _ => rfl⟩)
  case F =>
    intro w mg fa h KX G hmg
    refine' Pk.all_mk KX G hmg ?n_is_whole ?l_is_whole ?c_is_whole ?k_is_whole ?n_is_count ?l_is_count ?c_is_count ?k_is_count ?n_is_whole_to ?l_is_whole_to ?c_is_whole_to ?k_is_whole_to ?n_consists_of ?l_consists_of ?c_consists_of ?k_consists_of ?n_is_string_of ?l_is_string_of ?c_is_string_of ?k_is_string_of ?n_number_in ?l_number_in ?c_number_in ?k_number_in ?n_is_word ?l_is_word ?c_is_word ?k_is_word ?n_place_of_word ?l_place_of_word ?c_place_of_word ?k_place_of_word ?n_word_at ?l_word_at ?c_word_at ?k_word_at ?n_place_of ?l_place_of ?c_place_of ?k_place_of ?n_Environment ?at_Environment_init ?l_Environment_init ?kd_Environment_init_system ?kd_Environment_init_machine ?kd_Environment_init_level ?c_Environment_init ?k_Environment_init ?at_Environment_eq ?l_Environment_eq ?c_Environment_eq ?k_Environment_eq ?n_token_at ?l_token_at ?c_token_at ?k_token_at ?n_tokens_of ?l_tokens_of ?c_tokens_of ?k_tokens_of ?n_comparison_of ?l_comparison_of ?c_comparison_of ?k_comparison_of ?n_terms_of ?l_terms_of ?c_terms_of ?k_terms_of ?n_expression_of ?l_expression_of ?c_expression_of ?k_expression_of ?n_expression_in ?l_expression_in ?c_expression_in ?k_expression_in ?n_text_within ?l_text_within ?c_text_within ?k_text_within ?n_text_of_operand ?l_text_of_operand ?c_text_of_operand ?k_text_of_operand ?n_text_of_expression ?l_text_of_expression ?c_text_of_expression ?k_text_of_expression ?n_compares ?l_compares ?c_compares ?k_compares ?n_holds_at ?l_holds_at ?c_holds_at ?k_holds_at ?n_words_to_look_at ?l_words_to_look_at ?c_words_to_look_at ?k_words_to_look_at ?n_levels_to_look_at ?l_levels_to_look_at ?c_levels_to_look_at ?k_levels_to_look_at ?n_spots_to_look_at ?l_spots_to_look_at ?c_spots_to_look_at ?k_spots_to_look_at ?n_answers_at ?l_answers_at ?c_answers_at ?k_answers_at ?n_first_spot ?l_first_spot ?c_first_spot ?k_first_spot ?n_environment_at ?l_environment_at ?c_environment_at ?k_environment_at ?n_Marker ?at_Marker_init ?l_Marker_init ?w_Marker_init ?c_Marker_init ?k_Marker_init ?at_Marker_eq ?l_Marker_eq ?c_Marker_eq ?k_Marker_eq ?at_Marker_le ?l_Marker_le ?c_Marker_le ?k_Marker_le ?at_Marker_bool ?l_Marker_bool ?c_Marker_bool ?k_Marker_bool ?at_Marker_str ?l_Marker_str ?c_Marker_str ?k_Marker_str ?n_check_markers ?l_check_markers ?c_check_markers ?k_check_markers ?n_apart ?l_apart ?c_apart ?k_apart ?n_begin ?l_begin ?c_begin ?k_begin ?n_mixed ?l_mixed ?c_mixed ?k_mixed ?n_next ?l_next ?c_next ?k_next ?n_tree ?l_tree ?c_tree ?k_tree ?n_written ?l_written ?c_written ?k_written ?n_holds ?l_holds ?c_holds ?k_holds ?n_values ?l_values ?c_values ?k_values ?n_in_order ?l_in_order ?c_in_order ?k_in_order ?n_grid ?l_grid ?c_grid ?k_grid ?n_environment ?l_environment ?c_environment ?k_environment ?n_same ?l_same ?c_same ?k_same ?n_right ?l_right ?c_right ?k_right ?n_law ?l_law ?c_law ?k_law ?n_BadEnvironment ?at_BadEnvironment_init ?l_BadEnvironment_init ?c_BadEnvironment_init ?k_BadEnvironment_init ?n_BadMarker ?at_BadMarker_init ?l_BadMarker_init ?c_BadMarker_init ?k_BadMarker_init ?xl_BadMarker ?xr_BadMarker ?xsa_BadMarker ?xb_BadMarker ?xd_BadMarker ?xy_BadMarker ?xk_BadMarker ?xg_BadMarker ?xh_BadMarker ?xc_BadMarker ?xn_BadMarker ?xq_BadMarker ?xm_BadMarker ?xt_BadMarker ?xf_BadMarker ?xl_BadEnvironment ?xr_BadEnvironment ?xsa_BadEnvironment ?xb_BadEnvironment ?xd_BadEnvironment ?xy_BadEnvironment ?xk_BadEnvironment ?xg_BadEnvironment ?xh_BadEnvironment ?xc_BadEnvironment ?xn_BadEnvironment ?xq_BadEnvironment ?xm_BadEnvironment ?xt_BadEnvironment ?xf_BadEnvironment ?on_Marker ?on_Environment ?pg_Environment ?hd_Environment ?po_Environment ?sa_Environment ?mk_Environment ?kc_Environment ?rd_Environment ?ga_Environment ?ca_Environment ?cn_Environment ?ct_Environment ?cm_Environment ?nf_Environment ?fn_Environment_init ?na_Environment_system ?na_Environment_machine ?na_Environment_level ?na_Environment_place ?fn_Environment_eq ?pg_Marker ?hd_Marker ?po_Marker ?sa_Marker ?mk_Marker ?kc_Marker ?rd_Marker ?ga_Marker ?ca_Marker ?cn_Marker ?ct_Marker ?cm_Marker ?nf_Marker ?fn_Marker_init ?sf_Marker ?na_Marker_steps ?fn_Marker_eq ?fn_Marker_le ?fn_Marker_bool ?fn_Marker_str ?g_LETTERS ?g_DIGITS ?g_HIGHEST ?g_WORDS ?g_SIGNS ?w_SIGNS ?g_LEVEL_SIGNS ?w_LEVEL_SIGNS ?g_FIELDS ?w_FIELDS ?g_OPERANDS ?w_OPERANDS ?g_BINDINGS ?w_BINDINGS ?s_BINDINGS ?g_TIGHTEST ?g_NOT ?w_NOT ?w_NOT0 ?g_AND ?w_AND ?w_AND0 ?g_OR ?w_OR ?w_OR0 ?z_all ?z_bool ?z_divmod ?z_int ?z_isinstance ?z_len ?z_max ?z_min ?z_range ?z_reversed ?z_sorted ?z_str ?z_tuple
    (case n_is_whole => k_is)
    (case l_is_whole => k_is)
    (case c_is_whole => k_is)
    (case k_is_whole => k_is)
    (case n_is_count => k_is)
    (case l_is_count => k_is)
    (case c_is_count => k_is)
    (case k_is_count => k_is)
    (case n_is_whole_to => k_is)
    (case l_is_whole_to => k_is)
    (case c_is_whole_to => k_is)
    (case k_is_whole_to => k_is)
    (case n_consists_of => k_is)
    (case l_consists_of => k_is)
    (case c_consists_of => k_is)
    (case k_consists_of => k_is)
    (case n_is_string_of => k_is)
    (case l_is_string_of => k_is)
    (case c_is_string_of => k_is)
    (case k_is_string_of => k_is)
    (case n_number_in => k_is)
    (case l_number_in => k_is)
    (case c_number_in => k_is)
    (case k_number_in => k_is)
    (case n_is_word => k_is)
    (case l_is_word => k_is)
    (case c_is_word => k_is)
    (case k_is_word => k_is)
    (case n_place_of_word => k_is)
    (case l_place_of_word => k_is)
    (case c_place_of_word => k_is)
    (case k_place_of_word => k_is)
    (case n_word_at => k_is)
    (case l_word_at => k_is)
    (case c_word_at => k_is)
    (case k_word_at => k_is)
    (case n_place_of => k_is)
    (case l_place_of => k_is)
    (case c_place_of => k_is)
    (case k_place_of => k_is)
    (case n_Environment => k_is)
    (case at_Environment_init => k_is)
    (case l_Environment_init => k_is)
    (case kd_Environment_init_system => k_is)
    (case kd_Environment_init_machine => k_is)
    (case kd_Environment_init_level => k_is)
    (case c_Environment_init => k_is)
    (case k_Environment_init => k_is)
    (case at_Environment_eq => k_is)
    (case l_Environment_eq => k_is)
    (case c_Environment_eq => k_is)
    (case k_Environment_eq => k_is)
    (case n_token_at => k_is)
    (case l_token_at => k_is)
    (case c_token_at => k_is)
    (case k_token_at => k_is)
    (case n_tokens_of => k_is)
    (case l_tokens_of => k_is)
    (case c_tokens_of => k_is)
    (case k_tokens_of => k_is)
    (case n_comparison_of => k_is)
    (case l_comparison_of => k_is)
    (case c_comparison_of => k_is)
    (case k_comparison_of => k_is)
    (case n_terms_of => k_is)
    (case l_terms_of => k_is)
    (case c_terms_of => k_is)
    (case k_terms_of => k_is)
    (case n_expression_of => k_is)
    (case l_expression_of => k_is)
    (case c_expression_of => k_is)
    (case k_expression_of => k_is)
    (case n_expression_in => k_is)
    (case l_expression_in => k_is)
    (case c_expression_in => k_is)
    (case k_expression_in => k_is)
    (case n_text_within => k_is)
    (case l_text_within => k_is)
    (case c_text_within => k_is)
    (case k_text_within => k_is)
    (case n_text_of_operand => k_is)
    (case l_text_of_operand => k_is)
    (case c_text_of_operand => k_is)
    (case k_text_of_operand => k_is)
    (case n_text_of_expression => k_is)
    (case l_text_of_expression => k_is)
    (case c_text_of_expression => k_is)
    (case k_text_of_expression => k_is)
    (case n_compares => k_is)
    (case l_compares => k_is)
    (case c_compares => k_is)
    (case k_compares => k_is)
    (case n_holds_at => k_is)
    (case l_holds_at => k_is)
    (case c_holds_at => k_is)
    (case k_holds_at => k_is)
    (case n_words_to_look_at => k_is)
    (case l_words_to_look_at => k_is)
    (case c_words_to_look_at => k_is)
    (case k_words_to_look_at => k_is)
    (case n_levels_to_look_at => k_is)
    (case l_levels_to_look_at => k_is)
    (case c_levels_to_look_at => k_is)
    (case k_levels_to_look_at => k_is)
    (case n_spots_to_look_at => k_is)
    (case l_spots_to_look_at => k_is)
    (case c_spots_to_look_at => k_is)
    (case k_spots_to_look_at => k_is)
    (case n_answers_at => k_is)
    (case l_answers_at => k_is)
    (case c_answers_at => k_is)
    (case k_answers_at => k_is)
    (case n_first_spot => k_is)
    (case l_first_spot => k_is)
    (case c_first_spot => k_is)
    (case k_first_spot => k_is)
    (case n_environment_at => k_is)
    (case l_environment_at => k_is)
    (case c_environment_at => k_is)
    (case k_environment_at => k_is)
    (case n_Marker => k_is)
    (case at_Marker_init => k_is)
    (case l_Marker_init => k_is)
    (case w_Marker_init => k_is)
    (case c_Marker_init => k_is)
    (case k_Marker_init => k_is)
    (case at_Marker_eq => k_is)
    (case l_Marker_eq => k_is)
    (case c_Marker_eq => k_is)
    (case k_Marker_eq => k_is)
    (case at_Marker_le => k_is)
    (case l_Marker_le => k_is)
    (case c_Marker_le => k_is)
    (case k_Marker_le => k_is)
    (case at_Marker_bool => k_is)
    (case l_Marker_bool => k_is)
    (case c_Marker_bool => k_is)
    (case k_Marker_bool => k_is)
    (case at_Marker_str => k_is)
    (case l_Marker_str => k_is)
    (case c_Marker_str => k_is)
    (case k_Marker_str => k_is)
    (case n_check_markers => k_is)
    (case l_check_markers => k_is)
    (case c_check_markers => k_is)
    (case k_check_markers => k_is)
    (case n_apart => k_is)
    (case l_apart => k_is)
    (case c_apart => k_is)
    (case k_apart => k_is)
    (case n_begin => k_is)
    (case l_begin => k_is)
    (case c_begin => k_is)
    (case k_begin => k_is)
    (case n_mixed => k_is)
    (case l_mixed => k_is)
    (case c_mixed => k_is)
    (case k_mixed => k_is)
    (case n_next => k_is)
    (case l_next => k_is)
    (case c_next => k_is)
    (case k_next => k_is)
    (case n_tree => k_is)
    (case l_tree => k_is)
    (case c_tree => k_is)
    (case k_tree => k_is)
    (case n_written => k_is)
    (case l_written => k_is)
    (case c_written => k_is)
    (case k_written => k_is)
    (case n_holds => k_is)
    (case l_holds => k_is)
    (case c_holds => k_is)
    (case k_holds => k_is)
    (case n_values => k_is)
    (case l_values => k_is)
    (case c_values => k_is)
    (case k_values => k_is)
    (case n_in_order => k_is)
    (case l_in_order => k_is)
    (case c_in_order => k_is)
    (case k_in_order => k_is)
    (case n_grid => k_is)
    (case l_grid => k_is)
    (case c_grid => k_is)
    (case k_grid => k_is)
    (case n_environment => k_is)
    (case l_environment => k_is)
    (case c_environment => k_is)
    (case k_environment => k_is)
    (case n_same => k_is)
    (case l_same => k_is)
    (case c_same => k_is)
    (case k_same => k_is)
    (case n_right => k_is)
    (case l_right => k_is)
    (case c_right => k_is)
    (case k_right => k_is)
    (case n_law => k_is)
    (case l_law => k_is)
    (case c_law => k_is)
    (case k_law => k_is)
    (case n_BadEnvironment => k_is)
    (case at_BadEnvironment_init => k_is)
    (case l_BadEnvironment_init => k_is)
    (case c_BadEnvironment_init => k_is)
    (case k_BadEnvironment_init => k_is)
    (case n_BadMarker => k_is)
    (case at_BadMarker_init => k_is)
    (case l_BadMarker_init => k_is)
    (case c_BadMarker_init => k_is)
    (case k_BadMarker_init => k_is)
    (case xl_BadMarker => k_is)
    (case xr_BadMarker => first | rfl | decide +kernel | k_is)
    (case xsa_BadMarker => k_is)
    (case xb_BadMarker => k_is)
    (case xd_BadMarker => k_is)
    (case xy_BadMarker => k_is)
    (case xk_BadMarker => k_is)
    (case xg_BadMarker => k_is)
    (case xh_BadMarker => k_is)
    (case xc_BadMarker => k_is)
    (case xn_BadMarker => k_is)
    (case xq_BadMarker => k_is)
    (case xm_BadMarker => k_is)
    (case xt_BadMarker => k_is)
    (case xf_BadMarker => k_is)
    (case xl_BadEnvironment => k_is)
    (case xr_BadEnvironment => first | rfl | decide +kernel | k_is)
    (case xsa_BadEnvironment => k_is)
    (case xb_BadEnvironment => k_is)
    (case xd_BadEnvironment => k_is)
    (case xy_BadEnvironment => k_is)
    (case xk_BadEnvironment => k_is)
    (case xg_BadEnvironment => k_is)
    (case xh_BadEnvironment => k_is)
    (case xc_BadEnvironment => k_is)
    (case xn_BadEnvironment => k_is)
    (case xq_BadEnvironment => k_is)
    (case xm_BadEnvironment => k_is)
    (case xt_BadEnvironment => k_is)
    (case xf_BadEnvironment => k_is)
    (case on_Marker => k_is)
    (case on_Environment => k_is)
    (case pg_Environment => k_is)
    (case hd_Environment => k_is)
    (case po_Environment => k_is)
    (case sa_Environment => k_is)
    (case mk_Environment => k_is)
    (case kc_Environment => k_is)
    (case rd_Environment => k_is)
    (case ga_Environment => k_is)
    (case ca_Environment => k_is)
    (case cn_Environment => k_is)
    (case ct_Environment => k_is)
    (case cm_Environment => k_is)
    (case nf_Environment => k_is)
    (case fn_Environment_init => k_is)
    (case na_Environment_system => k_is)
    (case na_Environment_machine => k_is)
    (case na_Environment_level => k_is)
    (case na_Environment_place => k_is)
    (case fn_Environment_eq => k_is)
    (case pg_Marker => k_is)
    (case hd_Marker => k_is)
    (case po_Marker => k_is)
    (case sa_Marker => k_is)
    (case mk_Marker => k_is)
    (case kc_Marker => k_is)
    (case rd_Marker => k_is)
    (case ga_Marker => k_is)
    (case ca_Marker => k_is)
    (case cn_Marker => k_is)
    (case ct_Marker => k_is)
    (case cm_Marker => k_is)
    (case nf_Marker => k_is)
    (case fn_Marker_init => k_is)
    (case sf_Marker => k_is)
    (case na_Marker_steps => k_is)
    (case fn_Marker_eq => k_is)
    (case fn_Marker_le => k_is)
    (case fn_Marker_bool => k_is)
    (case fn_Marker_str => k_is)
    (case g_LETTERS => k_is)
    (case g_DIGITS => k_is)
    (case g_HIGHEST => k_is)
    (case g_WORDS => k_is)
    (case g_SIGNS => k_is)
    (case w_SIGNS => k_is)
    (case g_LEVEL_SIGNS => k_is)
    (case w_LEVEL_SIGNS => k_is)
    (case g_FIELDS => k_is)
    (case w_FIELDS => k_is)
    (case g_OPERANDS => k_is)
    (case w_OPERANDS => k_is)
    (case g_BINDINGS => k_is)
    (case w_BINDINGS => k_is)
    (case s_BINDINGS => first | rfl | decide | k_is)
    (case g_TIGHTEST => k_is)
    (case g_NOT => k_is)
    (case w_NOT => k_is)
    (case w_NOT0 => k_is)
    (case g_AND => k_is)
    (case w_AND => k_is)
    (case w_AND0 => k_is)
    (case g_OR => k_is)
    (case w_OR => k_is)
    (case w_OR0 => k_is)
    (case z_all => k_is)
    (case z_bool => k_is)
    (case z_divmod => k_is)
    (case z_int => k_is)
    (case z_isinstance => k_is)
    (case z_len => k_is)
    (case z_max => k_is)
    (case z_min => k_is)
    (case z_range => k_is)
    (case z_reversed => k_is)
    (case z_sorted => k_is)
    (case z_str => k_is)
    (case z_tuple => k_is)
