import PyProof.Rows.All
import Wide.All
import OpenK.AllK
import Wide.FinOn
import PyProof.ReprRoads
import HandS.ForMost
import HandS.ForExc
import HandS.IsInst
import HandS.Walk
import HandS.Flow
import HandS.RaiseMore

import HandS.ClsMeth
import HandS.Property
import HandS.SlotsOwn
import HandS.FStr
import HandS.TupAny
import HandS.Codes
import KE.KCallOwn
import KE.GoesMore
import KE.GoesEnum
import KE.DatumOrd
import HandS.SortInts
import HandS.Defaults

import HandS.ExcInit
import HandS.ExcValue
import HandS.ExcField
import HandS.ExcIs
import HandS.TryMany

import HandS.Style
import HandS.Lambda
import HandS.DeepEq
import HandS.Dict
import HandS.MakeKw
import HandS.MakeKwOnly
import HandS.GenList
import HandS.Text
import HandS.Star
import HandS.DictComp
import HandS.More
import HandS.OwnEq
import HandS.Codes
import PyProof.ReprRoads
import KE.KExcInit
import KE.KDflt
import PySem.Challenge.RW_parcelindex_k59_disks_as_dicts
set_option Elab.async false
set_option maxRecDepth 100000
set_option maxHeartbeats 4000000

/-! ## Calls with the stack's repr marks known to be none: a def's promise, its body's rule, calls, the end -/
namespace Pk
open PySem PySem.Spec PyProof.Rows L2

/-- a def keeps its promise wherever no repr runs around it -/
structure FnG (P : Program) (w : World) (K : PySem.W.Frag) (mg : Str → Option Value) (base : Heap) (k : Nat) (f : Addr) (fd : FuncData) (ps : List Str) (sp : Sp) : Prop where
  lenG : ∀ vs H Q E, sp vs H Q E → vs.length = ps.length
  runG : ∀ (A : Around) (outer : List Env) (s : Shared) (H : Hp) (args : Args) (us : List Value) (vs : List V) (Q : VK),
    A.guards = some [] → Room k A → Env0 P w K mg base A outer s H →
    BindsTo s fd args (ps.zip us) → Vals vs us → sp vs H Q E0 →
    codeAny (model P w) A (.call (.ref f) args) (CR CX0 outer P w H s Q E0) s

section
variable {P : Program} {w : World} {K : PySem.W.Frag} {mg : Str → Option Value} {base : Heap}
theorem FnG.of {k : Nat} {f : Addr} {fd : FuncData} {ps : List Str} {sp : Sp} (F : FnOk P w K mg base CX0 k f fd ps sp) : FnG P w K mg base k f fd ps sp :=
  ⟨F.len, fun A outer s H args us vs Q _ h1 h2 h3 h4 h5 => F.run A outer s H args us vs Q E0 h1 h2 h3 h4 h5⟩

/-- the rule for a def's body, with the marks known -/
theorem fnG_of {x qual : Str} {st : Stmt} {f : Addr} {fd : FuncData} {N ps : List Str} {k : Nat} {sp : Sp} (F : Fun K x qual st f fd)
    (S : FnScope N ps (defScope st)) (len : ∀ vs H Q E, sp vs H Q E → vs.length = ps.length)
    (hbody : ∀ (cdv : Value) (A : Around) (outer : List Env) (s : Shared) (H : Hp) (vs : List V) (Q : VK),
      A.guards = some [] → Room k (A.deeper (envOfC qual (defScope st) s.heap.objs.size f cdv)) → sp vs H Q E0 →
      ∃ t, PSs (cxOf CX0 P w K mg base N qual (defScope st) f cdv A outer s H E0).nox (defBody st) t ∧
        t { nx := fun _ H' => Q .non H', rt := Q } (start N vs) H) :
    FnG P w K mg base (k + 1) f fd ps sp := by
  obtain ⟨oc, od, kV, doc, pm, an, cdv, ct, osl, rfl, lk, hcd⟩ := F.ex
  refine ⟨len, ?_⟩
  intro A outer s H args us vs Q hg hr e0 hb r hsp
  have hlen := len _ _ _ _ hsp
  have inK : K.In s.heap := e0.mod.kin.keeps (fun b o e => (e0.bs b o e).1)
  have nolim : s.heap.NoLimit := e0.mod.nolimit.keeps (fun b o e => (e0.bs b o e).1)
  have hk : ∀ y ∈ ps.zip us, (defScope st).names.lookup y.1 = some .local ∨ ((defScope st).names.lookup y.1 = some .cell ∧
      ((cellsFrom (s.heap.objs.size + 1) (defScope st).names []).lookup y.1).isSome = true) := by
    rintro ⟨n, v⟩ hy
    rcases S.par n (List.of_mem_zip hy).1 with q | q
    · exact Or.inl q
    · exact Or.inr ⟨q, PySem.W.cellsFrom_some _ _ _ (Or.inl q)⟩
  refine codeAny_call_function hr.depth (inK _ _ lk) rfl S.co S.gen rfl (PySem.W.codeRec_of inK hcd) (hb _ _ _ _ ?_)
  refine wpAny_newFunctionEnv_cells S.kind hk ?_
  intro env he s1 x
  subst he
  refine ⟨nolim.keeps x.toInCall.keep, codeAny_func ?_⟩
  obtain ⟨t, ht0, hq⟩ := hbody cdv A outer s H vs Q hg (hr.deeper _) hsp
  have ht := ht0.nox
  have J0 : Inv (cxOf CX0 P w K mg base N qual (defScope st) f cdv A outer s H E0) [] (start N vs) H s1 := inv_start S hr.hd e0 hlen r x
  have fin : ∀ {σ' : L2.St} {H' : Hp} {s' : Shared} {v : V} {u : Value},
      Inv (cxOf CX0 P w K mg base N qual (defScope st) f cdv A outer s H E0) [] σ' H' s' → RelV v u → Q v H' → CE outer P w H s Q u s' :=
    fun {σ' H' s' v u} J rv q => ⟨v, H', J.os, J.bare, J.base, J.hok, rv, q⟩
  refine wpAny_mono (ht.run [] s1 (start N vs) H _ J0 hq) ?_ (fun e s' hs => hs)
  rintro (_ | _ | _ | u) s' hs
  · obtain ⟨σ', H', J, q⟩ := hs
    exact fin (v := V.non) (u := Value.none) J rfl q
  · obtain ⟨_, _, _, q⟩ := hs
    exact q.elim
  · obtain ⟨_, _, _, q⟩ := hs
    exact q.elim
  · obtain ⟨v, σ', H', J, rv, q⟩ := hs
    exact fin J rv q
end

section
variable {X : Cx} {k : Nat} {f : Addr} {fd : FuncData} {ps ks : List Str} {sp : Sp} {x : Str} {p pos : Pos} {e : Expr} {es : List Expr} {t tk : TA} {kws : List Keyword}
theorem run_g {pins : List (Addr × Obj)} {σ : L2.St} {H : Hp} {s : Shared} {Q : VK} {args : Args} {us : List Value} {vs : List V}
    (F : FnG X.prog X.w X.K X.mg X.base k f fd ps sp) (hg : X.A.guards = some []) (hr : Room k X.A)
    (hb : BindsTo s fd args (ps.zip us)) (I : Inv X pins σ H s) (r : Vals vs us) (h : sp vs H Q E0) :
    codeAny (model X.prog X.w) X.A (.call (.ref f) args) (fun r s' => match r with | .ok (.ret v) => EP X pins σ Q v s' | .ok _ => False | .error e => X.xe e s') s := by
  refine codeAny_mono (F.runG X.A X.stack s H args us vs Q hg hr I.env0 hb r h) ?_
  rintro (e | fl) s' hq
  · exact (show False from hq).elim
  · cases fl with
    | ret u => exact I.after hq
    | next => exact (show False from hq).elim
    | brk => exact (show False from hq).elim
    | cont => exact (show False from hq).elim
/-- f(..), the parameters all given by position -/
theorem pe_callG (F : FnG X.prog X.w X.K X.mg X.base k f fd ps sp) (hgu : X.A.guards = some []) (hr : Room k X.A) (hg : Gl X x) (hm : X.mg x = some (.ref f))
    (hk : PySem.W.keepIn X.K (.ref f) = true) (hb : Binds X.K fd ps []) (ha : PA X (e :: es) t) (hdb : (x == ("__debug__" : Str)) = false := by decide)
    (he : starEach (e :: es) X.env = (false, eval e X.env) :: starEach es X.env := by rfl)
    (hpl : (backTo pos (starEach es X.env)).any (·.1) = false := by rfl) :
    PE X (.Call (.Name x p) (e :: es) [] pos) (tCall sp [] E0 t) := by
  constructor
  intro pins s σ H Q I h
  refine wpAny_Call_Name_kw (ld_glob I hg hm ?_ hdb)
  refine PySem.W.callWith_K (h₀ := X.base) I.ok.mod.kin hk (thn (ha.run pos pins s σ H _ I h) ?_) he hpl
  intro us s1 ⟨vs, H1, I1, r, q⟩
  have q' : sp vs H1 Q E0 := by
    have q0 : sp (vs ++ []) H1 Q E0 := q
    rw [List.append_nil] at q0
    exact q0
  have hl : (us ++ []).length = ps.length := by rw [List.append_nil, ← r.length]; exact F.lenG _ _ _ _ q'
  refine ⟨I1.kIn, wpAny_call (run_g F hgu hr ?_ I1 r q')⟩
  have hb1 := hb s1 us I1.kIn hl
  rw [List.append_nil] at hb1
  exact hb1
theorem pe_callG0 (F : FnG X.prog X.w X.K X.mg X.base k f fd ps sp) (hgu : X.A.guards = some []) (hr : Room k X.A) (hg : Gl X x) (hm : X.mg x = some (.ref f))
    (hk : PySem.W.keepIn X.K (.ref f) = true) (hb : Binds X.K fd ps []) (hdb : (x == ("__debug__" : Str)) = false := by decide) :
    PE X (.Call (.Name x p) [] [] pos) (tCall sp [] E0 tNil) := by
  constructor
  intro pins s σ H Q I h
  refine wpAny_Call_Name_kw (ld_glob I hg hm ?_ hdb)
  refine PySem.W.callWith_K0 I.kIn hk ?_
  have q' : sp [] H Q E0 := h
  have hl : (([] : List Value) ++ []).length = ps.length := by rw [List.append_nil]; exact F.lenG _ _ _ _ q'
  exact wpAny_call (run_g F hgu hr (hb s [] I.kIn hl) I .nil q')
/-- how keywords alone bind: the values are put in the parameters' order by pm -/
structure KB (K : PySem.W.Frag) (fd : FuncData) (ps ks : List Str) : Prop where
  toK : ∀ (s : Shared) (ws : List Value), K.In s.heap → ws.length = ps.length → BindsTo s fd ⟨[], ks.zip ws⟩ (ps.zip ws)
/-- f(k = v, ..), the keywords in the parameters' order -/
theorem pe_kwG (F : FnG X.prog X.w X.K X.mg X.base k f fd ps sp) (hgu : X.A.guards = some []) (hr : Room k X.A) (hg : Gl X x) (hm : X.mg x = some (.ref f))
    (hk : PySem.W.keepIn X.K (.ref f) = true) (hb : KB X.K fd ps ks) (hkw : PK X kws tk) (hall : (backToKw pos (keywordEach kws X.env)).all (·.1.isSome) = true := by rfl)
    (hks : (backToKw pos (keywordEach kws X.env)).filterMap (·.1) = ks := by rfl) (hdb : (x == ("__debug__" : Str)) = false := by decide)
    (hpl : ((backTo pos (starEach [] X.env)).any (·.1) || (backToKw pos (keywordEach kws X.env)).any (·.1.isNone)) = false := by rfl) :
    PE X (.Call (.Name x p) [] kws pos) (tCall sp [] E0 tk) := by
  constructor
  intro pins s σ H Q I h
  refine wpAny_Call_Name_kw (ld_glob I hg hm ?_ hdb)
  refine PySem.W.callWith_KW0 (h₀ := X.base) I.ok.mod.kin hk hall (thn (hkw.run pos pins s σ H _ I h) ?_) hpl
  intro ws s1 ⟨zs, H1, I1, r, q⟩
  have q' : sp zs H1 Q E0 := by
    have q0 : sp (zs ++ []) H1 Q E0 := q
    rw [List.append_nil] at q0
    exact q0
  rw [hks]
  exact ⟨I1.kIn, wpAny_call (run_g F hgu hr (hb.toK s1 ws I1.kIn (by rw [← r.length]; exact F.lenG _ _ _ _ q')) I1 r q')⟩
end

/-! ### repr of data -/
section
variable {X : Cx}
def rRepr (K : PySem.W.Frag) : List V → Hp → VK → Prop := fun xs H Q => ∃ x d, xs = [x] ∧ Dp K H x d ∧ d.showable = true ∧ d.hasDict = false ∧ d.depth ≤ 60 ∧ d.shown.length ≤ sizeLine ∧ Q (.str d.shown) H
theorem call_repr (hgu : X.A.guards = some []) (hu : X.A.units + 64 < cLine) : CallR X (.builtin "repr") (rRepr X.K) := by
  intro pins s σ H xs us Q I r h
  obtain ⟨x, d, rfl, hd, hs, hnd, hdp, hz, q⟩ := h
  obtain ⟨u, rfl, rx⟩ := vals1 r
  have hsm : ∀ as : List Addr, d.hasDict = true → sysModules ∉ as := fun as e => by
    rw [hnd] at e
    cases e
  obtain ⟨as, rd⟩ := Dp.reads I d x u hd rx
  cases hd with
  | non =>
    obtain rfl : u = Value.none := rx
    exact PySem.P.repr_of_none ⟨.str _, H, I.tok _, ⟨_, rfl⟩, q⟩
  | bl b =>
    obtain rfl : u = Value.bool b := rx
    exact PySem.P.repr_of_bool ⟨.str _, H, I.tok _, ⟨_, rfl⟩, by simpa only [PyData.shown] using q⟩
  | int i =>
    obtain ⟨t, rfl⟩ := rx
    exact PySem.P.repr_of_int (by simpa [PyData.showable] using hs) ⟨.str _, H, I.tok _, ⟨_, rfl⟩, by simpa only [PyData.shown] using q⟩
  | str y =>
    obtain ⟨t, rfl⟩ := rx
    exact PySem.P.repr_of_str ⟨.str _, H, I.tok _, ⟨_, rfl⟩, by simpa only [PyData.shown] using q⟩ (by simpa only [PyData.shown] using hz)
  | lst =>
    rename_i a _ _ _ _
    obtain rfl : u = Value.ref a := rx
    exact repr_of_reads' (h₀ := s.heap) rd hs (hsm as) hgu (by omega) (fun _ _ e => e) (fun h' v tk hk => ⟨.str _, H, I.kept hk, ⟨v, rfl⟩, q⟩) hz
  | tup =>
    rename_i a _ _ _ _
    obtain rfl : u = Value.ref a := rx
    exact repr_of_reads' (h₀ := s.heap) rd hs (hsm as) hgu (by omega) (fun _ _ e => e) (fun h' v tk hk => ⟨.str _, H, I.kept hk, ⟨v, rfl⟩, q⟩) hz
end

/-! ### the script + a list -/
/-- a list that stands with no dict and no slots of its own -/
def Bare (K : PySem.W.Frag) (H : Hp) (a : Addr) (xs : List V) : Prop :=
  (∃ (us : List Value) (n : Nat), H a = some (.frz { cls := .type "list", data := .seq us.toArray n } (.lst xs))) ∨
  (∃ (us : List Value) (n : Nat), K.lookup a = some { cls := .type "list", data := .seq us.toArray n } ∧ Vals xs us)
theorem Bare.seq {K : PySem.W.Frag} {H : Hp} {a : Addr} {xs : List V} (hz : xs.length ≤ sizeLine) (h : Bare K H a xs) : SqL K H a xs := by
  rcases h with ⟨us, n, e⟩ | ⟨us, n, e, r⟩
  · exact .inl (.inr ⟨_, e⟩)
  · refine .inr ⟨_, us.toArray, n, e, rfl, rfl, rfl, ?_, by simpa using r⟩
    rw [List.size_toArray, ← r.length]
    exact hz
theorem Bare.keep {K : PySem.W.Frag} {H H' : Hp} {a : Addr} {xs : List V} (h : Bare K H a xs) (e : Same H H') : Bare K H' a xs := by
  rcases h with ⟨us, n, q⟩ | h
  · exact .inl ⟨us, n, e _ _ q⟩
  · exact .inr h
section
variable {X : Cx}
def rCatS (K : PySem.W.Frag) : R2 := fun x y H Q => ∃ l b xs zs, x = .ref l ∧ y = .ref b ∧ Bare K H l xs ∧ H b = some (.lst zs) ∧ xs.length + zs.length ≤ sizeLine ∧
  ∀ p, H p = none → Q (.ref p) (upd H p (.lst (xs ++ zs)))
theorem op_catS : OpR X (binaryOp .Add) (rCatS X.K) := by
  intro pins s σ H x y v u Q I rx ry h
  obtain ⟨l, b, xs, zs, rfl, rfl, hl, hb, hz, q⟩ := h
  obtain rfl : v = Value.ref l := rx
  obtain rfl : u = Value.ref b := ry
  obtain ⟨z2, its2, n2, r2, hl2, e2⟩ := I.lstM hb
  have hfin : ∀ (its : List Value) (n : Nat), Vals xs its → s.heap.get? l = some { cls := .type "list", data := .seq its.toArray n } →
      wpAny (model X.prog X.w) X.A (binaryOp .Add (.ref l) (.ref b)) (EP X pins σ Q) X.xe s := by
    intro its n r e
    have hln := r.length
    refine PySem.P.add_list e e2 ?_ (by rw [List.size_toArray, List.size_toArray]; omega)
    rw [show its.toArray ++ its2.toArray = (its ++ its2).toArray by simp]
    exact ⟨.ref _, _, I.lnew (t' := s.toks) (r.append r2) (by rw [List.length_append]; exact hz), rfl, q _ I.fresh⟩
  rcases hl with ⟨us, n, e⟩ | ⟨us, n, e, r⟩
  · obtain ⟨e1, _, its, m, r, e3⟩ := I.hok l _ e
    rw [e1] at e3
    cases e3
    exact hfin _ _ r e1
  · exact hfin us n r (I.kIn l _ e)
end

/-! ### the end -/
/-- the law's own head, with the marks known and the script told to be bare -/
theorem enterG {P : Program} {w : World} {K : PySem.W.Frag} {mg mb : Str → Option Value} {k : Nat} {fa a : Addr} {fd : FuncData} {x : Str} {sp : Sp} {s₁ : Shared} {vs : List Value} {ns : List Int}
    (KX : K.In s₁.heap) (hns : s₁.heap.Ns mainGlobals mg) (hb : s₁.heap.Ns builtinsNs mb) (hbb : ∀ x : Str, x ≠ "__name__" → mb x = bootBuiltins x)
    (hlim : s₁.heap.NoLimit) (hg : s₁.gens = #[]) (ha : s₁.heap.get? a = some { cls := .type "list", data := .seq vs.toArray })
    (hi : IntsAre vs ns) (hl : ns.length ≤ sizeLine) (hr : Room k callerA)
    (F : ∀ base : Heap, K.In base → base.Ns mainGlobals mg → FnG P w K mg base k fa fd [x] sp)
    (hbind : ∀ (s : Shared) (u : Value), BindsTo s fd ⟨[u], []⟩ [(x, u)])
    (hsp : ∀ H : Hp, Bare K H a (ns.map V.int) → sp [.ref a] H (fun v _ => v = .bl true) E0) :
    codeAny (model P w) callerA (.call (.ref fa) ⟨[.ref a], []⟩)
      (fun r s' => r = .ok (.ret (.bool true)) ∧ OldK s₁.heap s'.heap ∧ s'.os = s₁.os ∧ AllBare s'.gens) s₁ := by
  have rv := vals_ints hi
  have nV := hi.length
  have core : ∀ H : Hp, Only H → Bare K H a (ns.map V.int) → HOk P w H s₁.heap → (∀ b, H b ≠ none → b = a) → (H a ≠ none → K.lookup a = none) →
      codeAny (model P w) callerA (.call (.ref fa) ⟨[.ref a], []⟩)
        (fun r s' => r = .ok (.ret (.bool true)) ∧ OldK s₁.heap s'.heap ∧ s'.os = s₁.os ∧ AllBare s'.gens) s₁ := by
    intro H hO hS hok hA hK
    have only_a : ∀ {b : Addr} {u : HO}, H b = some u → b = a := fun {b u} q => hA b (by rw [q]; simp)
    have un : ∀ {b : Addr} {o : Obj} {es : Array DictEntry} {ep : Nat}, s₁.heap.get? b = some o → o.data = .dict es ep → H b = none := by
      intro b o es ep e d
      cases q : H b with
      | none => rfl
      | some u =>
        have e' := only_a q
        rw [e', ha] at e
        cases e
        exact nomatch (show Data.seq vs.toArray _ = Data.dict es ep from d)
    have nsB : ∀ {b : Addr} {m : Str → Option Value}, s₁.heap.Ns b m → (hidT s₁.heap H).Ns b m :=
      fun {b m} ⟨o, es, ep, e, d, r⟩ => ⟨o, es, ep, hidT_get e (un e d), d, r⟩
    have inB : K.In (hidT s₁.heap H) := by
      intro b o e
      refine hidT_get (KX b o e) ?_
      cases q : H b with
      | none => rfl
      | some u =>
        have e' := only_a q
        rw [e', hK (by rw [← e', q]; simp)] at e
        cases e
    have md : Mod K mg (hidT s₁.heap H) := ⟨inB, nsB hns, ⟨mb, nsB hb, hbb⟩, let ⟨mc, h1, h2⟩ := hlim; ⟨mc, nsB h1, h2⟩⟩
    have e0 : Env0 P w K mg (hidT s₁.heap H) callerA [] s₁ H :=
      ⟨rfl, md, fun b o e => of_hidT e, Nat.le_of_eq (hidT_size _ _), trivial, fun b z => absurd (show b ∈ ([] : List Addr) from z) (by simp), hok, .of_eq hg⟩
    refine codeAny_mono ((F _ inB (nsB hns)).runG callerA [] s₁ H ⟨[.ref a], []⟩ [.ref a] [.ref a] _ rfl hr e0 (hbind s₁ (.ref a)) (.cons rfl .nil) (hsp H hS)) ?_
    rintro (e | fl) s' h
    · exact (show False from h).elim
    · cases fl with
      | next => exact (show False from h).elim
      | brk => exact (show False from h).elim
      | cont => exact (show False from h).elim
      | ret u =>
        obtain ⟨v, H', os, bare, uu, hok', r', q⟩ := h
        obtain rfl : v = .bl true := q
        obtain rfl : u = Value.bool true := r'
        refine ⟨rfl, OldK.of_keep ?_, os, bare⟩
        intro b o e
        cases q : H b with
        | none => exact uu.keep b o e q (fun z => absurd (show b ∈ ([] : List Addr) from z) (by simp)) (by simp)
        | some u =>
          rcases hO b with z | ⟨ob, xs, z⟩
          · rw [q] at z
            cases z
          · obtain ⟨e1, _⟩ := hok b _ z
            obtain ⟨e2, _⟩ := hok' b _ (uu.frzs b ob _ z)
            rw [e] at e1
            cases e1
            exact e2
  cases hk : K.lookup a with
  | some o =>
    have e := KX a o hk
    rw [ha] at e
    cases e
    exact core (fun _ => none) (fun _ => .inl rfl) (.inr ⟨vs, 0, hk, rv⟩) (fun b u z => nomatch (show (none : Option HO) = some u from z)) (fun b z => absurd rfl z) (fun z => absurd rfl z)
  | none =>
    have hat : ∀ b u, (if b = a then some (HO.frz { cls := .type "list", data := .seq vs.toArray } (.lst (ns.map V.int))) else none) = some u →
        b = a ∧ u = HO.frz { cls := .type "list", data := .seq vs.toArray } (.lst (ns.map V.int)) := by
      intro b u z
      by_cases hb : b = a
      · rw [if_pos hb] at z
        exact ⟨hb, (Option.some.inj z).symm⟩
      · rw [if_neg hb] at z
        cases z
    refine core (fun b => if b = a then some (.frz { cls := .type "list", data := .seq vs.toArray } (.lst (ns.map V.int))) else none) ?_ (.inl ⟨vs, 0, if_pos rfl⟩) ?_ ?_ (fun _ => hk)
    · intro b
      by_cases hb : b = a
      · exact .inr ⟨_, _, if_pos hb⟩
      · exact .inl (if_neg hb)
    · intro b u z
      obtain ⟨rfl, rfl⟩ := hat b u z
      exact ⟨ha, by rw [List.length_map]; exact hl, vs, _, rv, ha⟩
    · intro b z
      cases q : (if b = a then some (HO.frz { cls := .type "list", data := .seq vs.toArray } (.lst (ns.map V.int))) else none) with
      | none => exact absurd q z
      | some u => exact (hat b u q).1

/-- what the last theorem takes -/
theorem walkG {l : PySem.W.OpenLaw} {k : Nat} {q : Program} {loose : List Str} {XP : (Str → Option Value) → Heap → Prop} {YP : World → Heap → Prop} {d : DefRec} {K : Params → PySem.W.Frag} {sp : PySem.W.Frag → Sp} {x : Str}
    (hn : l.most = some 63) (hdf : d.params.defaults = []) (hr : Room k callerA) (hY : ∀ (w : World) (h : Heap), YP w h → (K w.params).In h)
    (F : ∀ (w : World) (mg : Str → Option Value) (fa : Addr) (h : Heap), (K w.params).In h → h.Ns mainGlobals mg → mg d.name = some (.ref fa) →
      ∃ fd : FuncData, (∀ (s : Shared) (u : Value), BindsTo s fd ⟨[u], []⟩ [(x, u)]) ∧
        ∀ base : Heap, (K w.params).In base → base.Ns mainGlobals mg → FnG l.prog w (K w.params) mg base k fa fd [x] (sp (K w.params)))
    (hsp : ∀ (K : PySem.W.Frag) (H : Hp) (a : Addr) (ns : List Int), ns.length ≤ 63 → Bare K H a (ns.map V.int) → sp K [.ref a] H (fun v _ => v = .bl true) E0) :
    PySem.W.WalkO q loose XP YP l.row.toRowW d [] (fun f vs => PySem.call f vs) := by
  refine Att.attach_call hn hdf ?_
  intro w s₀ s₁ mg mb fa o pm cd doc a vs ns G Y ho hd hcd hmg hobj hints hlen hg
  have KX := hY w _ Y
  obtain ⟨fd, hb, hF⟩ := F w mg fa _ KX G.T.g hmg
  exact enterG KX G.T.g G.T.b G.T.builtins G.T.nolimit hg hobj hints (Nat.le_trans hlen (by decide)) hr hF hb (fun H hS => hsp (K w.params) H a ns hlen hS)
end Pk

/-! ## Comprehensions whose element has a value that the heap does not change -/
namespace Pk
open PySem PySem.Spec PyProof.Rows L2
theorem posI {j : Int} (h : decide (0 < j) = true) : 0 < j := of_decide_eq_true h
theorem one_more {α : Type} {xs : List α} {i : Nat} {a : α} (h : xs[i]? = some a) : xs.take (i + 1) = xs.take i ++ [a] := by
  rw [List.take_add_one, h]
  rfl
theorem same_upd {H1 H : Hp} {D : Addr} {o : HO} (s : Same H1 H) (hD : H1 D = none) : Same H1 (upd H D o) := fun b u e => by
  rw [upd_ne (ne_of_none e hD)]
  exact s b u e
theorem same_new {H : Hp} {p : Addr} {o : HO} (h : H p = none) : Same H (upd H p o) := same_upd (Same.refl H) h
theorem lc_map {α : Type} {J : It} {n : Nat} {G : Hp → Prop} {Y : Nat → Hp → V → Hp → Prop} (w : Walk J n G Y) (xs : List α) (emb : α → V) (hn : n = xs.length)
    (hY : ∀ i H x H', Y i H x H' → H' = H ∧ ∃ a, xs[i]? = some a ∧ x = emb a)
    {g : TG} {tt : TT} {te : TE} {vs : List Nat} {σ : L2.St} {H1 : Hp} {D : Addr} {Qd : Hp → Prop} (p : α → Bool) (f : α → V) (hD : H1 D = none) (hz : n < sizeLine) (hG : ∀ H, Same H1 H → G H)
    (hs : ∀ a, a ∈ xs → ∀ (H : Hp) (R : VK) (S : Hp → Prop), Same H1 H → (p a = true → ∀ H', Same H H' → R (f a) H') → (p a = false → ∀ H', Same H H' → S H') →
      g (emb a) (wipe σ vs) H fun σ2 H2 => wipe σ2 vs = wipe σ vs ∧ tt σ2 H2 fun b H3 => if b = true then te σ2 H3 R else S H3)
    (hd : ∀ H, Same H1 H → H D = some (.lst ((xs.filter p).map f)) → Qd H) :
    ∃ W : Nat → Nat → Hp → Prop, (∃ m, W 0 m (upd H1 D (.lst []))) ∧ ∀ i m H, W i m H →
      (J.stop i H ∧ Qd H) ∨ (J.go i H ∧ ∃ Nx : Hp → Prop, (∀ H', Nx H' → ∃ m', m' < m ∧ W (i + 1) m' H') ∧
        ∀ x H', J.yld i H x H' → g x (wipe σ vs) H' fun σ2 H2 => wipe σ2 vs = wipe σ vs ∧ tt σ2 H2 fun b H3 =>
          if b = true then te σ2 H3 fun y H4 => ∃ acc, H4 D = some (.lst acc) ∧ acc.length < sizeLine ∧ Nx (upd H4 D (.lst (acc ++ [y]))) else Nx H3) := by
  refine lc_it w (fun i H => Same H1 H ∧ H D = some (.lst (((xs.take i).filter p).map f))) ⟨same_new hD, by rw [upd_same]; rfl⟩ (fun i H _ h => hG H h.1) ?_ ?_
  · rintro i x H H' hi ⟨s, hl⟩ y
    obtain ⟨rfl, a, ha, rfl⟩ := hY _ _ _ _ y
    have hlen : (((xs.take i).filter p).map f).length < sizeLine := by
      refine Nat.lt_of_le_of_lt ?_ hz
      rw [List.length_map]
      refine Nat.le_trans (List.length_filter_le _ _) ?_
      rw [List.length_take]
      omega
    refine hs a (List.mem_of_getElem? ha) H' _ _ s (fun hp H4 s4 => ?_) (fun hp H4 s4 => ?_)
    · refine ⟨_, s4 _ _ hl, hlen, same_upd (s.trans s4) hD, ?_⟩
      rw [upd_same, one_more ha, List.filter_append, List.map_append]
      simp [hp]
    · refine ⟨s.trans s4, ?_⟩
      rw [s4 _ _ hl, one_more ha, List.filter_append, List.map_append]
      simp [hp]
  · rintro H ⟨s, hl⟩
    refine hd H s ?_
    rw [hl, hn, List.take_length]
/-- over a text -/
theorem lc_txt {z : Str} {g : TG} {tt : TT} {te : TE} {vs : List Nat} {σ : L2.St} {H1 : Hp} {D : Addr} {Qd : Hp → Prop} (p : Nat → Bool) (f : Nat → V) (hD : H1 D = none) (hz : z.length < sizeLine)
    (hs : ∀ c, c ∈ z.cps.toList → ∀ (H : Hp) (R : VK) (S : Hp → Prop), Same H1 H → (p c = true → ∀ H', Same H H' → R (f c) H') → (p c = false → ∀ H', Same H H' → S H') →
      g (.str ⟨#[c]⟩) (wipe σ vs) H fun σ2 H2 => wipe σ2 vs = wipe σ vs ∧ tt σ2 H2 fun b H3 => if b = true then te σ2 H3 R else S H3)
    (hd : ∀ H, Same H1 H → H D = some (.lst ((z.cps.toList.filter p).map f)) → Qd H) :
    ∃ W : Nat → Nat → Hp → Prop, (∃ m, W 0 m (upd H1 D (.lst []))) ∧ ∀ i m H, W i m H →
      ((Its z).stop i H ∧ Qd H) ∨ ((Its z).go i H ∧ ∃ Nx : Hp → Prop, (∀ H', Nx H' → ∃ m', m' < m ∧ W (i + 1) m' H') ∧
        ∀ x H', (Its z).yld i H x H' → g x (wipe σ vs) H' fun σ2 H2 => wipe σ2 vs = wipe σ vs ∧ tt σ2 H2 fun b H3 =>
          if b = true then te σ2 H3 fun y H4 => ∃ acc, H4 D = some (.lst acc) ∧ acc.length < sizeLine ∧ Nx (upd H4 D (.lst (acc ++ [y]))) else Nx H3) :=
  lc_map (walk_str (z := z)) z.cps.toList (fun c => .str ⟨#[c]⟩) (by simp) (fun i H x H' ⟨e, c, h1, h2⟩ => ⟨e, c, by simpa using h1, h2⟩) p f hD hz (fun _ _ => trivial) hs hd
/-- over a list -/
theorem lc_lst {α : Type} {K : PySem.W.Frag} {a : Addr} (xs : List α) (emb : α → V) {g : TG} {tt : TT} {te : TE} {vs : List Nat} {σ : L2.St} {H1 : Hp} {D : Addr} {Qd : Hp → Prop} (p : α → Bool) (f : α → V) (hD : H1 D = none) (hz : xs.length < sizeLine)
    (ha : SqL K H1 a (xs.map emb))
    (hs : ∀ c, c ∈ xs → ∀ (H : Hp) (R : VK) (S : Hp → Prop), Same H1 H → (p c = true → ∀ H', Same H H' → R (f c) H') → (p c = false → ∀ H', Same H H' → S H') →
      g (emb c) (wipe σ vs) H fun σ2 H2 => wipe σ2 vs = wipe σ vs ∧ tt σ2 H2 fun b H3 => if b = true then te σ2 H3 R else S H3)
    (hd : ∀ H, Same H1 H → H D = some (.lst ((xs.filter p).map f)) → Qd H) :
    ∃ W : Nat → Nat → Hp → Prop, (∃ m, W 0 m (upd H1 D (.lst []))) ∧ ∀ i m H, W i m H →
      ((Itl K a).stop i H ∧ Qd H) ∨ ((Itl K a).go i H ∧ ∃ Nx : Hp → Prop, (∀ H', Nx H' → ∃ m', m' < m ∧ W (i + 1) m' H') ∧
        ∀ x H', (Itl K a).yld i H x H' → g x (wipe σ vs) H' fun σ2 H2 => wipe σ2 vs = wipe σ vs ∧ tt σ2 H2 fun b H3 =>
          if b = true then te σ2 H3 fun y H4 => ∃ acc, H4 D = some (.lst acc) ∧ acc.length < sizeLine ∧ Nx (upd H4 D (.lst (acc ++ [y]))) else Nx H3) :=
  lc_map (walk_list (K := K) (a := a) (xs := xs.map emb)) xs emb (by simp)
    (fun i H x H' ⟨e, h⟩ => ⟨e, by
      rw [List.getElem?_map] at h
      cases q : xs[i]? with
      | none =>
        rw [q] at h
        cases h
      | some c =>
        rw [q] at h
        exact ⟨c, rfl, (Option.some.inj h).symm⟩⟩) p f hD (by simpa using hz) (fun H s => s.seq ha) hs hd
end Pk

/-! ## Operators, str and construction of instances with a dict; enumerate over a tuple -/
namespace Pk
open PySem PySem.Spec PyProof.Rows L2
open SlX (cmpback)
section
variable {X : Cx} {k n : Nat} {f C g : Addr} {fd : FuncData} {ps : List Str} {sp : Sp} {E : XK} {CX : CXT}
/-- x op y, both instances of the class at C, whose def for op is at g -/
def rOwnD (C : Addr) (sp : Sp) (E : XK) : R2 := fun x y H Q => ∃ a dx fs b dy gs, x = .ref a ∧ y = .ref b ∧ H a = some (.ins C dx fs) ∧ H b = some (.ins C dy gs) ∧ sp [x, y] H Q E
theorem op_ownD {op : CmpOp} (hop : ∀ a b, compareOp op a b = richCompare op a b) (hs : PySem.W.findIn X.K (.ref C) (cmpInfo op).2.1 = some (some (.ref g)))
    (hf : PySem.W.isFn X.K (.ref g) = true) (hn : PySem.W.notFirst X.K C (.ref C) = true) (F : FnR X.prog X.w X.K X.mg X.base CX n g sp) (hr : Room n X.A) (hx : Passes CX X E) : OpR X (compareOp op) (rOwnD C sp E) := by
  intro pins s σ H x y v u Q I rx ry h
  obtain ⟨a, dx, fs, b, dy, gs, rfl, rfl, ha, hb, q⟩ := h
  obtain rfl : v = Value.ref a := rx
  obtain rfl : u = Value.ref b := ry
  obtain ⟨mA, O, _⟩ := ins_get I.hok ha
  obtain ⟨od, J, _⟩ := O.look
  obtain ⟨mB, O', _⟩ := ins_get I.hok hb
  obtain ⟨od', J', _⟩ := O'.look
  obtain ⟨m, hF⟩ := I.fr
  rw [hop]
  refine PySem.W.cmp_K (op := op) (tb := .ref C) hr.units0 hF I.ok.mod.kin J J'.type hn hs hf (wpAny_mono (wpAny_call (run_fnR (us := [.ref a, .ref b]) (vs := [.ref a, .ref b]) F hr hx I (.cons rfl (.cons rfl .nil)) q)) ?_ (fun _ _ x => x))
  rintro w s' ⟨z', H', I', rz, qz⟩
  exact cmpback rz ⟨z', H', I', rz, qz⟩
/-- str(x) of an instance -/
def rStrD (C : Addr) (sp : Sp) (E : XK) : List V → Hp → VK → Prop := fun xs H Q => ∃ a dx fs, xs = [.ref a] ∧ H a = some (.ins C dx fs) ∧ sp [.ref a] H (fun z H' => ∃ t, z = .str t ∧ Q z H') E
theorem call_strD (hs : PySem.W.findIn X.K (.ref C) "__str__" = some (some (.ref g))) (hf : PySem.W.isFn X.K (.ref g) = true) (F : FnR X.prog X.w X.K X.mg X.base CX n g sp) (hr : Room (n + 2) X.A) (hx : Passes CX X E) :
    CallR X (.type "str") (rStrD C sp E) := by
  intro pins s σ H xs us Q I r h
  obtain ⟨a, dx, fs, rfl, ha, q⟩ := h
  obtain ⟨u, rfl, ru⟩ := vals1 r
  obtain rfl : u = Value.ref a := ru
  obtain ⟨mA, O, _⟩ := ins_get I.hok ha
  obtain ⟨od, J, _⟩ := O.look
  have hr1 : Room (n + 1) X.A.in1 := Room.in1 hr
  have hr2 : Room n X.A.in1.in1 := hr1.in1
  refine PySem.W.kso_call hr2.units0 I.kIn J hs hf (wpAny_mono (wpAny_call (SlX.run_at (us := [.ref a]) (ws := [.ref a]) F hr2 I.env0.in1.in1 hx I (.cons rfl .nil) q)) ?_ (fun _ _ x => x))
  rintro w s' ⟨z', H', I', rz, t, rfl, qz⟩
  obtain ⟨tk, rfl⟩ := (show ∃ t', w = Value.str t t' from rz)
  exact ⟨.str t, H', I', ⟨tk, rfl⟩, qz⟩
/-- c(..), c a local name that holds the class at C -/
theorem pe_makeL {i : Nat} {x : Str} {p pos : Pos} {e : Expr} {es : List Expr} {t : TA} (M : Mk X.K C f) (F : FnOk X.prog X.w X.K X.mg X.base CX k f fd ps sp) (hr : Room (k + 1) X.A) (hN : X.N[i]? = some x) (hv : Vis X.env.scope x)
    (hb : Binds X.K fd ps []) (hx : Passes CX X E) (ha : PA X (e :: es) t) (hd : (x == ("__debug__" : Str)) = false := by decide) (hcd : (x == ("__classdict__" : Str)) = false := by decide)
    (he : starEach (e :: es) X.env = (false, eval e X.env) :: starEach es X.env := by rfl) (hpl : (backTo pos (starEach es X.env)).any (·.1) = false := by rfl) :
    PE X (.Call (.Name x p) (e :: es) [] pos) (fun σ H Q => σ[i]? = some (some (.ref C)) ∧ tMake C sp [] E t σ H Q) := by
  constructor
  intro pins s σ H Q I h
  obtain ⟨h1, h2⟩ := h
  refine wpAny_Call_Name_kw (thn ((pe_var hN hv hd hcd).run pins s σ H (fun v H' => v = .ref C ∧ H' = H) I ⟨.ref C, h1, rfl, rfl⟩) ?_)
  rintro u s1 ⟨v, H1, I1, rv, rfl, rfl⟩
  obtain rfl : u = Value.ref C := rv
  refine PySem.W.callWith_K (h₀ := X.base) I1.ok.mod.kin M.kp (thn (ha.run pos pins s1 σ H1 _ I1 h2) ?_) he hpl
  intro us s2 ⟨vs, H2, I2, r, q⟩
  exact ⟨I2.kIn, run_make M F hr hb .nil hx I2 r q⟩
end

/-! ### enumerate over a tuple -/
/-- the tuple at a, each item in a new pair -/
def ItT (K : PySem.W.Frag) (a : Addr) : It :=
  ⟨fun i H => ∃ (xs : List V) (x : V), SqT K H a xs ∧ xs[i]? = some x,
   fun i H v H' => ∃ T x, v = .ref T ∧ H T = none ∧ H' = upd H T (.tup [.int (i : Nat), x]) ∧ ∀ xs, SqT K H a xs → xs[i]? = some x,
   fun i H => ∃ xs : List V, SqT K H a xs ∧ xs.length = i⟩
theorem turn_enT {P : Program} {w : World} {K : PySem.W.Frag} {elts : List Expr} {kk : Nat} {tpos : Pos} (a e it : Addr) :
    Turn P w K (.Tuple elts kk tpos) (ItT K a) [e, it] e (fun i h => (∃ old, IsEnum h e it ((i : Nat) : Int) old) ∧ h.IsTupleIter it a i ∧ e ≠ it ∧ a ≠ it ∧ e ≠ a) where
  mem := by simp
  obj := by
    rintro i h ⟨⟨old, he⟩, ⟨o, ho, hc, hd⟩, _⟩ b hb
    rcases (show b = e ∨ b = it by simpa using hb) with rfl | rfl
    · exact ⟨_, he, fun v q => nomatch q⟩
    · exact ⟨o, ho, fun v q => by rw [hd] at q; cases q⟩
  keep := by
    rintro i h h' ⟨⟨old, he⟩, hi, hne⟩ k
    exact ⟨⟨old, k e (by simp) _ he⟩, hi.at fun o q => k it (by simp) o q, hne⟩
  item := by
    intro X hP hw hK hc i pins s σ H E I hf st hg
    subst hP hw hK
    obtain ⟨⟨old, he⟩, hit, hne, hai, hea⟩ := st
    obtain ⟨xs, x, hq, hx⟩ := hg
    obtain ⟨its, rv, ht, hz⟩ := I.tuple hq
    obtain ⟨u, hu, ru⟩ := rv.get hx
    have hlt : i < its.toArray.size := by
      have h1 := (List.getElem?_eq_some_iff.mp hu).1
      simpa using h1
    have hel : e < s.heap.objs.size := Heap.lt_size he
    have hil : it < s.heap.objs.size := by
      obtain ⟨_, q, _⟩ := hit
      exact Heap.lt_size q
    have D := Draws.tuple (prog := X.prog) (w := X.w) (A := X.A.in1) (I.ok.hd hc) it a hai its.toArray
    refine wpAny_pyNext_enum_itemD D he ⟨hit, ht⟩ hlt hne (by simp [hne, hea]) ?_
    intro y h' tk hy ho hst hT hsz hk
    obtain rfl : u = y := by
      have h1 : its[i]? = some y := by simpa using hy
      rw [hu] at h1
      exact Option.some.inj h1
    refine ⟨_, rfl, wpAny_letOwnedTupleGo_enum (s := { s with heap := h', toks := tk + 1 }) ho ?_⟩
    intro h'' he' sb
    have hT2 := (sb.2 _ (Nat.ne_of_gt hel)).trans hT
    have new : ObjOk X.prog X.w (upd H s.heap.objs.size (.tup [.int (i : Nat), x])) h'' s.heap.objs.size (.tup [.int (i : Nat), x]) :=
      ⟨by show 2 ≤ sizeLine; decide, [.int i tk, u], .cons ⟨_, rfl⟩ (.cons ru .nil), ⟨_, hT2, rfl, _, rfl⟩⟩
    have hk2 : ∀ b ob, b ∉ [e, it] → s.heap.get? b = some ob → h''.get? b = some ob := by
      intro b ob hb q
      have n1 : b ≠ e := fun z => hb (by simp [z])
      have n2 : b ≠ it := fun z => hb (by simp [z])
      exact (sb.2 b n1).trans (hk b ob n1 n2 q)
    have I1 : Inv X pins σ (upd H s.heap.objs.size (.tup [.int (i : Nat), x])) { s with heap := h'', toks := tk + 1 } :=
      I.turnedNew (ch := [e, it]) hk2 hf (Nat.le_refl _) new
    refine ⟨.ref s.heap.objs.size, _, I1, rfl, ⟨_, x, rfl, I.fresh, rfl, ?_⟩, ⟨⟨u, ?_⟩, hst.1.at (fun o q => (sb.2 it (Ne.symm hne)).trans q), hne, hai, hea⟩, ?_⟩
    · intro ys hys
      rw [I.tuple_inj hys hq]
      exact hx
    · rw [show ((i + 1 : Nat) : Int) = (i : Int) + 1 by omega]
      exact he'
    · intro b hb
      have hb' : b < s.heap.objs.size := by
        rcases (show b = e ∨ b = it by simpa using hb) with rfl | rfl
        · exact hel
        · exact hil
      rw [upd_ne (Nat.ne_of_lt hb')]
      exact (hf b hb).1
  done := by
    intro X hP hw hK hc i pins s σ H E I hf st hg
    subst hP hw hK
    obtain ⟨⟨old, he⟩, hit, hne, hai, hea⟩ := st
    obtain ⟨xs, hq, hx⟩ := hg
    obtain ⟨its, rv, ht, hz⟩ := I.tuple hq
    obtain ⟨f0, f1, f2, f3, f4, f5⟩ := hf it (by simp)
    have hln := rv.length
    have D := Draws.tuple (prog := X.prog) (w := X.w) (A := X.A.in1) (I.ok.hd hc) it a hai its.toArray
    have ei : i = its.toArray.size := by
      rw [List.size_toArray, ← hln]
      exact hx.symm
    rw [ei] at hit
    refine wpAny_pyNext_enum_endD D he ⟨hit, ht⟩ ?_
    intro h' eb
    exact ⟨rfl, I.turned (t' := s.toks) (fun b o hb q => eb b o hb q) f0 f1 f3 f4 f5⟩
  self := by
    rintro A i s Q E ⟨⟨_, he⟩, _⟩ h
    exact wpAny_pyIter_enum he h
/-- the making of enumerate(v), v told by what its iterator is -/
theorem new_enum {v : Value} {o : Obj} {W : Heap → Prop} (B : Begins v o W) :
    Meets (Builtin.«enumerate.__new__» ⟨[.type "enumerate", v], []⟩) (fun _ R s => W s.heap ∧ R (.ok (.ret (.ref (s.heap.push o).objs.size)))
      { s with heap := (s.heap.push o).push { cls := .type "enumerate", data := .fields #[.none, .bool false, .ref s.heap.objs.size, rawInt 0, .none, .none] } }) := by
  refine .of_wp ?_
  rintro prog w A R ⟨hp, g, d, tk, os⟩ ⟨h1, h⟩
  have hsub := sub_enumerate
  have q1 : ∀ {A' : Around} {E : Value → Shared → Prop} {Q : Value → Shared → Prop}, Q (.ref hp.objs.size) ⟨hp.push o, g, d, tk, os⟩ → wpAny (model prog w) A' (pyIter v) Q E ⟨hp, g, d, tk, os⟩ := by
    intro A' E Q q
    exact B.iter prog w _ _ ⟨hp, g, d, tk, os⟩ _ h1 q
  wp_walk using q1
  refine wpAny_stack_any (fun st => wpAny_pure ?_)
  split
  · rename_i c _ _ _ _ _
    cases (c == Value.type "enumerate") <;> (wp_walk using q1; exact ⟨_, rfl, h⟩)
  · wp_walk using q1
    exact ⟨_, rfl, h⟩
theorem call_enum {prog : Program} {w : World} {A : Around} {E : Value → Shared → Prop} {s : Shared} {v : Value} {o : Obj} {W : Heap → Prop} {Q : Value → Shared → Prop} (B : Begins v o W) (h1 : W s.heap)
    (h : ∀ h', IsEnum h' (s.heap.objs.size + 1) s.heap.objs.size 0 .none → h'.get? s.heap.objs.size = some o → (∀ b o, s.heap.get? b = some o → h'.get? b = some o) →
      Q (.ref (s.heap.objs.size + 1)) { s with heap := h' }) : wpAny (model prog w) A (call (.type "enumerate") [v]) Q E s := by
  refine callType_new F.called_enumerate (by decide) (F.typeCall_enumerate_1 _) (F.newCall_enumerate_1 _) (fun obj => F.args_object_init_2 obj _) F.entry_enumerate_new (new_enum B) ⟨h1, ?_⟩
  have hz : (s.heap.push o).objs.size = s.heap.objs.size + 1 := Heap.size_push ..
  show _ ∧ _
  rw [hz]
  have he : IsEnum ((s.heap.push o).push { cls := .type "enumerate", data := .fields #[.none, .bool false, .ref s.heap.objs.size, rawInt 0, .none, .none] }) (s.heap.objs.size + 1) s.heap.objs.size 0 .none := by
    have e1 := Heap.get?_push_size (s.heap.push o) (o := { cls := .type "enumerate", data := .fields #[.none, .bool false, .ref s.heap.objs.size, rawInt 0, .none, .none] }) rfl
    rw [hz] at e1
    exact e1
  exact ⟨⟨_, he, rfl⟩, h _ he (Heap.get?_push_of_some _ (Heap.get?_push_size _ B.free)) (fun b o x => Heap.get?_push_of_some _ (Heap.get?_push_of_some _ x))⟩
def iEnT (K : PySem.W.Frag) (ta : TA) : TI := fun σ H R => ta σ H fun vs H1 => ∃ a xs, vs = [.ref a] ∧ SqT K H1 a xs ∧ R (ItT K a) H1
/-- for i, x in enumerate(a tuple) -/
theorem pi_enT {X : Cx} {e : Expr} {ta : TA} {p pos tpos : Pos} {elts : List Expr} {kk : Nat} (hg : Gl X "enumerate") (hm : X.mg "enumerate" = none) (ha : PA X [e] ta)
    (hs : starEach [e] X.env = [(false, eval e X.env)] := by rfl) : PI X (.Tuple elts kk tpos) (.Call (.Name "enumerate" p) [e] [] pos) (iEnT X.K ta) := by
  constructor
  intro pins s σ H R I h
  refine Call_ (ld_blt I hg hm boot_enumerate (PyProof.Rows.callWith_type1 (thn (ha.run pos pins s σ H _ I h) ?_) hs rfl))
  rintro us s1 ⟨vs, H1, I1, r1, a, xs, rfl, hq, q⟩
  obtain ⟨u, rfl, rx⟩ := vals1 r1
  obtain rfl : u = Value.ref a := rx
  obtain ⟨its, rv, ht, hz⟩ := I1.tuple hq
  refine call_enum (begins_tuple a its.toArray) ht ?_
  intro h' he hit hk
  refine wpAny_pyIter_enum he ?_
  have I2 : Inv X pins σ H1 { s1 with heap := h' } := I1.kept (t' := s1.toks) hk
  have la : a < s1.heap.objs.size := ht.lt
  refine ⟨s1.heap.objs.size + 1, [s1.heap.objs.size + 1, s1.heap.objs.size], _, _, H1, rfl, I2, turn_enT a (s1.heap.objs.size + 1) s1.heap.objs.size,
    ⟨⟨.none, he⟩, ⟨_, hit, rfl, rfl⟩, Nat.succ_ne_self _, Nat.ne_of_lt la, Nat.ne_of_gt (Nat.lt_succ_of_lt la)⟩, ?_, q⟩
  intro b hb
  have hle : s1.heap.objs.size ≤ b := by
    rcases (show b = s1.heap.objs.size + 1 ∨ b = s1.heap.objs.size by simpa using hb) with rfl | rfl
    · exact Nat.le_succ _
    · exact Nat.le_refl _
  exact I1.fpOk hle (I1.hok.fresh hle)
theorem walk_enT {K : PySem.W.Frag} {a : Addr} {xs : List V} : Walk (ItT K a) xs.length (fun H => SqT K H a xs) (YPair (fun i => some (.int (i : Nat))) (fun i => xs[i]?)) := by
  refine ⟨fun i _ hi q => ⟨xs, xs[i], q, by simp [hi]⟩, fun _ q => ⟨xs, q, rfl⟩, ?_⟩
  rintro i H v H' _ q ⟨T, x, h1, h2, h3, h4⟩
  exact ⟨T, .int (i : Nat), x, h1, h2, h3, rfl, h4 xs q⟩
end Pk

/-! ## Versions: the mathematics of their texts -/
namespace Pk
open PySem L2 TL SX
def isDig (c : Nat) : Bool := decide (48 ≤ c ∧ c ≤ 57)
/-- number_of_text -/
def nT (l : List Nat) : Option Nat :=
  if (decide (1 ≤ l.length) && (decide (l.length ≤ 3) && l.all isDig)) = true then (if l.head? = some 48 ∧ l ≠ [48] then none else some (NumText.digitsVal l)) else none
def wd : Nat → List Nat
  | 0 => [97]
  | 1 => [98]
  | _ => [114, 99]
/-- stage_of_text, from the i-th word on -/
def sTn (l : List Nat) : Nat → Nat → List Nat × Option Nat
  | 0, _ => (l, some 3000)
  | k + 1, i => match par (wd i) [] l with
    | some (p, q) => (p, (nT q).map (fun n => i * 1000 + n))
    | none => sTn l k (i + 1)
def sT (l : List Nat) : List Nat × Option Nat := sTn l 3 0
def allSome : List (Option Nat) → Option (List Nat)
  | [] => some []
  | none :: _ => none
  | some n :: r => (allSome r).map (n :: ·)
/-- parts_of_text -/
def pT (l : List Nat) : Option (List Nat × Nat) :=
  match (sT l).2, allSome ((spl [46] 0 [] (sT l).1).map nT) with
  | some st, some ns => if ns.length > 4 then none else some (ns, st)
  | _, _ => none
def rk (ns : List Nat) (st : Nat) : Nat := ((ns ++ [0, 0, 0]).take 4).foldl (fun r n => r * 1000 + n) 0 * 3001 + st
def stg (st : Nat) : List Nat := if st = 3000 then [] else wd (st / 1000) ++ numL (st % 1000)
def wrt (figs : List Nat) (st : Nat) : List Nat := joinL [46] (figs.map numL) ++ stg st
theorem nT_num : ∀ n : Nat, n < 1000 → nT (numL n) = some n := by
  intro n hn
  have hd := numL_digits n
  have h1 : (numL n).length ≤ 3 := numL_len (by decide) hn
  have h2 : 1 ≤ (numL n).length := by
    have := numL_ne n
    cases e : numL n with
    | nil => exact absurd e this
    | cons c r => simp
  have h3 : (numL n).all isDig = true := by
    rw [List.all_eq_true]
    intro c hc
    have := hd c hc
    simp only [isDig, decide_eq_true_eq]
    omega
  have h4 : ¬ ((numL n).head? = some 48 ∧ numL n ≠ [48]) := by
    have key : ∀ n : Nat, n < 1000 → decide ((numL n).head? = some 48 ∧ numL n ≠ [48]) = false := by decide +kernel
    exact of_decide_eq_false (key n hn)
  unfold nT
  rw [decide_eq_true h1, decide_eq_true h2, h3]
  simp only [Bool.and_self, if_true]
  rw [if_neg h4, numL_val]
theorem join_chars : ∀ {figs : List Nat} {c : Nat}, c ∈ joinL [46] (figs.map numL) → c = 46 ∨ (48 ≤ c ∧ c ≤ 57)
  | [], c, h => by cases h
  | [n], c, h => by
    have := numL_digits n c h
    omega
  | n :: m :: r, c, h => by
    have h' : c ∈ numL n ++ ([46] ++ joinL [46] ((m :: r).map numL)) := h
    rcases List.mem_append.mp h' with h | h
    · have := numL_digits n c h
      omega
    · rcases List.mem_append.mp h with h | h
      · exact .inl (by simpa using h)
      · exact join_chars h
theorem allSome_map : ∀ figs : List Nat, allSome (figs.map some) = some figs
  | [] => rfl
  | n :: r => by
    show (allSome (r.map some)).map (n :: ·) = some (n :: r)
    rw [allSome_map r]
    rfl
theorem sT_wrt {figs : List Nat} {st : Nat} (hs : st ≤ 3000) : sT (wrt figs st) = (joinL [46] (figs.map numL), some st) := by
  have noc : ∀ c : Nat, 57 < c → c ∉ joinL [46] (figs.map numL) := fun c hc h => by
    have := join_chars h
    omega
  have nod : ∀ c n : Nat, 57 < c → c ∉ numL n := fun c n hc => numL_free (.inr hc)
  unfold wrt
  generalize joinL [46] (figs.map numL) = A at noc
  by_cases h3 : st = 3000
  · subst h3
    have e1 : par [97] [] A = none := par_none1 (noc 97 (by decide))
    have e2 : par [98] [] A = none := par_none1 (noc 98 (by decide))
    have e3 : par [114, 99] [] A = none := par_none1 (noc 114 (by decide))
    simp only [stg, if_true, List.append_nil, sT, sTn, wd, e1, e2, e3]
  · have hs0 : stg st = wd (st / 1000) ++ numL (st % 1000) := if_neg h3
    have hn : nT (numL (st % 1000)) = some (st % 1000) := nT_num _ (Nat.mod_lt _ (by decide))
    have hlt : st / 1000 < 3 := by omega
    rw [hs0]
    have hc : st / 1000 = 0 ∨ st / 1000 = 1 ∨ st / 1000 = 2 := by omega
    rcases hc with h | h | h
    · rw [h]
      have e1 : par [97] [] (A ++ ([97] ++ numL (st % 1000))) = some (A, numL (st % 1000)) := by
        have := par_part1 (s := 97) (S := []) (p := A) (rest := numL (st % 1000)) (acc := []) (noc 97 (by decide))
        simpa using this
      simp only [sT, sTn, wd, e1, hn, Option.map_some]
      congr 2
      omega
    · rw [h]
      have m1 : 97 ∉ A ++ ([98] ++ numL (st % 1000)) := by
        simp only [List.mem_append, List.mem_singleton]
        rintro (q | q | q)
        · exact noc 97 (by decide) q
        · exact absurd q (by decide)
        · exact nod 97 _ (by decide) q
      have e1 : par [97] [] (A ++ ([98] ++ numL (st % 1000))) = none := par_none1 m1
      have e2 : par [98] [] (A ++ ([98] ++ numL (st % 1000))) = some (A, numL (st % 1000)) := by
        have := par_part1 (s := 98) (S := []) (p := A) (rest := numL (st % 1000)) (acc := []) (noc 98 (by decide))
        simpa using this
      simp only [sT, sTn, wd, e1, e2, hn, Option.map_some]
      congr 2
      omega
    · rw [h]
      have m1 : 97 ∉ A ++ ([114, 99] ++ numL (st % 1000)) := by
        simp only [List.mem_append, List.mem_cons, List.not_mem_nil, or_false]
        rintro (q | (q | q) | q)
        · exact noc 97 (by decide) q
        · exact absurd q (by decide)
        · exact absurd q (by decide)
        · exact nod 97 _ (by decide) q
      have m2 : 98 ∉ A ++ ([114, 99] ++ numL (st % 1000)) := by
        simp only [List.mem_append, List.mem_cons, List.not_mem_nil, or_false]
        rintro (q | (q | q) | q)
        · exact noc 98 (by decide) q
        · exact absurd q (by decide)
        · exact absurd q (by decide)
        · exact nod 98 _ (by decide) q
      have e1 : par [97] [] (A ++ ([114, 99] ++ numL (st % 1000))) = none := par_none1 m1
      have e2 : par [98] [] (A ++ ([114, 99] ++ numL (st % 1000))) = none := par_none1 m2
      have e3 : par [114, 99] [] (A ++ ([114, 99] ++ numL (st % 1000))) = some (A, numL (st % 1000)) := by
        have := par_part1 (s := 114) (S := [99]) (p := A) (rest := numL (st % 1000)) (acc := []) (noc 114 (by decide))
        simpa using this
      simp only [sT, sTn, wd, e1, e2, e3, hn, Option.map_some]
      congr 2
      omega
theorem pT_wrt {figs : List Nat} {st : Nat} (hf : figs ≠ []) (h4 : figs.length ≤ 4) (hb : ∀ n ∈ figs, n < 1000) (hs : st ≤ 3000) : pT (wrt figs st) = some (figs, st) := by
  have e : (spl [46] 0 [] (joinL [46] (figs.map numL))).map nT = figs.map some := by
    rw [TL.spl_join (s := 46) (S := []) (by simpa using hf) (fun p hp => by
      obtain ⟨n, _, rfl⟩ := List.mem_map.mp hp
      exact numL_free (.inl (by decide))), List.map_map]
    exact List.map_congr_left fun n hn => nT_num n (hb n hn)
  unfold pT
  rw [sT_wrt hs, e, allSome_map]
  simp only
  rw [if_neg (by omega)]
/-- how many numbers are written -/
def many (ns : List Nat) : Nat → Nat
  | 0 => 0
  | 1 => 1
  | m + 2 => if ns[m + 1]? = some 0 then many ns (m + 1) else m + 2
theorem many_le (ns : List Nat) : ∀ m, many ns m ≤ m
  | 0 => Nat.le_refl _
  | 1 => Nat.le_refl _
  | m + 2 => by
    unfold many
    split
    · exact Nat.le_succ_of_le (many_le ns (m + 1))
    · exact Nat.le_refl _
theorem many_pos (ns : List Nat) : ∀ m, 0 < m → 0 < many ns m
  | 1, _ => Nat.one_pos
  | m + 2, _ => by
    unfold many
    split
    · exact many_pos ns (m + 1) (by omega)
    · omega
def trim (ns : List Nat) : List Nat := ns.take (many ns ns.length)
/-- text_at -/
def n4 (r : Nat) : List Nat := [r / 3001 / 1000000000, r / 3001 / 1000000 % 1000, r / 3001 / 1000 % 1000, r / 3001 % 1000]
def tA (r : Nat) : List Nat := wrt (trim (n4 r)) (r % 3001)
theorem n4_lt {r : Nat} (h : r ≤ 3000999999999999) : ∀ n ∈ n4 r, n < 1000 := by
  intro n hn
  simp only [n4, List.mem_cons, List.not_mem_nil, or_false] at hn
  rcases hn with rfl | rfl | rfl | rfl <;> omega
theorem trim_len (ns : List Nat) : (trim ns).length = many ns ns.length := by
  unfold trim
  rw [List.length_take]
  have := many_le ns ns.length
  omega
theorem pT_tA {r : Nat} (h : r ≤ 3000999999999999) : pT (tA r) = some (trim (n4 r), r % 3001) := by
  have hl : (n4 r).length = 4 := rfl
  refine pT_wrt ?_ ?_ (fun n hn => n4_lt h n (List.mem_of_mem_take hn)) (by omega)
  · intro e
    have h1 := trim_len (n4 r)
    rw [e, hl] at h1
    have := many_pos (n4 r) 4 (by decide)
    simp at h1
    omega
  · have h1 := trim_len (n4 r)
    have := many_le (n4 r) (n4 r).length
    omega
/-- what is left out is zero -/
theorem many_zero (ns : List Nat) : ∀ m i, many ns m ≤ i → i < m → ns[i]? = some 0 ∨ m = 0
  | 0, _, _, h => absurd h (Nat.not_lt_zero _)
  | 1, i, h1, h2 => by
    have : many ns 1 = 1 := rfl
    omega
  | m + 2, i, h1, h2 => by
    unfold many at h1
    split at h1
    · rename_i h0
      by_cases hi : i = m + 1
      · subst hi
        exact .inl h0
      · exact .inl ((many_zero ns (m + 1) i h1 (by omega)).resolve_right (by omega))
    · omega
theorem rk_n4 {r : Nat} (h : r ≤ 3000999999999999) : rk (n4 r) (r % 3001) = r := by
  simp only [rk, n4, List.cons_append, List.nil_append, List.take_succ_cons, List.take_zero, List.foldl_cons, List.foldl_nil]
  omega
theorem take4 {ns : List Nat} (h : ns.length = 4) : ((trim ns) ++ [0, 0, 0]).take 4 = (ns ++ [0, 0, 0]).take 4 := by
  have hz := many_zero ns 4
  have hp := many_pos ns 4 (by decide)
  have hl := many_le ns 4
  unfold trim
  rw [h]
  generalize many ns 4 = m at hz hp hl
  match ns, h with
  | [a, b, c, d], _ =>
    have hm : m = 1 ∨ m = 2 ∨ m = 3 ∨ m = 4 := by omega
    rcases hm with rfl | rfl | rfl | rfl
    · have h1 := (hz 1 (by decide) (by decide)).resolve_right (by decide)
      have h2 := (hz 2 (by decide) (by decide)).resolve_right (by decide)
      have h3 := (hz 3 (by decide) (by decide)).resolve_right (by decide)
      simp at h1 h2 h3
      subst h1 h2 h3
      rfl
    · have h2 := (hz 2 (by decide) (by decide)).resolve_right (by decide)
      have h3 := (hz 3 (by decide) (by decide)).resolve_right (by decide)
      simp at h2 h3
      subst h2 h3
      rfl
    · have h3 := (hz 3 (by decide) (by decide)).resolve_right (by decide)
      simp at h3
      subst h3
      rfl
    · rfl
theorem rk_trim {r : Nat} (h : r ≤ 3000999999999999) : rk (trim (n4 r)) (r % 3001) = r := by
  have e : rk (trim (n4 r)) (r % 3001) = rk (n4 r) (r % 3001) := by
    unfold rk
    rw [take4 rfl]
  rw [e, rk_n4 h]
end Pk

/-! ## An instance compared with any other object -/
namespace Pk
open PySem PySem.Spec PyProof.Rows L2
open SlX (cmpback)
section
variable {X : Cx} {k n : Nat} {f C g : Addr} {fd : FuncData} {ps : List Str} {sp : Sp} {E : XK} {CX : CXT}
/-- x op y, x an instance of the class at C, whose def for op is at g; y of a type that is not below C -/
def rOwnA (K : PySem.W.Frag) (C : Addr) (sp : Sp) (E : XK) : R2 := fun x y H Q => ∃ a dx fs t, x = .ref a ∧ H a = some (.ins C dx fs) ∧ TyX K H y t ∧ PySem.W.notFirst K C t = true ∧ sp [x, y] H Q E
theorem op_ownA {op : CmpOp} (hop : ∀ a b, compareOp op a b = richCompare op a b) (hs : PySem.W.findIn X.K (.ref C) (cmpInfo op).2.1 = some (some (.ref g)))
    (hf : PySem.W.isFn X.K (.ref g) = true) (F : FnR X.prog X.w X.K X.mg X.base CX n g sp) (hr : Room n X.A) (hx : Passes CX X E) : OpR X (compareOp op) (rOwnA X.K C sp E) := by
  intro pins s σ H x y v u Q I rx ry h
  obtain ⟨a, dx, fs, t, rfl, ha, ty, hn, q⟩ := h
  obtain rfl : v = Value.ref a := rx
  obtain ⟨mA, O, _⟩ := ins_get I.hok ha
  obtain ⟨od, J, _⟩ := O.look
  obtain ⟨m, hF⟩ := I.fr
  obtain ⟨P, Z, p, _⟩ := kit_of I ry ty
  rw [hop]
  refine PySem.W.cmp_K (op := op) (tb := t) hr.units0 hF I.ok.mod.kin J (Z.ty _ _ I.kIn p) hn hs hf (wpAny_mono (wpAny_call (run_fnR (us := [.ref a, u]) (vs := [.ref a, y]) F hr hx I (.cons rfl (.cons ry .nil)) q)) ?_ (fun _ _ x => x))
  rintro w s' ⟨z', H', I', rz, qz⟩
  exact cmpback rz ⟨z', H', I', rz, qz⟩
end
/-- no built-in type is an own class -/
theorem kit_not {K : PySem.W.Frag} {C : Addr} (cl : Cls K C) (rd : ClX.CRead K C (.type "type")) {T : String} (hT : (PySem.fastFind? T).isSome = true := by decide +kernel) :
    PySem.W.kitOne K (.type T) (.ref C) = some false ∧ PySem.W.notFirst K C (.type T) = true := by
  have hs : PySem.W.subIn K (.type T) (.ref C) = some false := by
    obtain ⟨d, hd⟩ := Option.isSome_iff_exists.mp hT
    show ((PySem.fastFind? T).map _).map _ = _
    rw [hd]
    show some (List.contains (d.mro.map Value.type) (.ref C)) = some false
    congr 1
    generalize d.mro = ts
    induction ts with
    | nil => rfl
    | cons t r ih =>
      rw [List.map_cons, List.contains_cons, ih]
      rfl
  have h1 : (PySem.W.clsIn K C).isSome = true := by
    have h := cl.hd
    unfold PySem.W.hasDictIn at h
    cases e : PySem.W.clsIn K C with
    | none =>
      rw [e] at h
      cases h
    | some c => rfl
  have h2 : PySem.W.typeIn K (.ref C) = some (.type "type") := by
    have h := rd.rd
    simp only [PySem.W.readsIn, Bool.and_eq_true, beq_iff_eq] at h
    exact h.1.1.1.2
  constructor
  · unfold PySem.W.kitOne
    rw [if_neg (by intro h; cases h)]
    show (if ((PySem.W.clsIn K C).isSome && PySem.W.typeIn K (.ref C) == some (.type "type")) = true then _ else _) = _
    rw [h1, h2, if_pos (by decide), hs]
  · unfold PySem.W.notFirst
    rw [hs]
    rfl
/-! ## Tuples of whole numbers: order -/
theorem dp_ints {K : PySem.W.Frag} {H : Hp} : ∀ {ns : List Int}, DpAll K H (ns.map V.int) (ns.map .int)
  | [] => .nil
  | n :: r => .cons (.int n) (dp_ints (ns := r))
theorem ints_lay : ∀ ns : List Int, PyData.canLayAll0 (ns.map .int) = true
  | [] => rfl
  | n :: r => by
    show (PyData.canLay0 (.int n) && PyData.canLayAll0 (r.map .int)) = true
    rw [ints_lay r]
    simp [PyData.canLay0]
theorem ints_depth : ∀ ns : List Int, PyData.depthAll (ns.map .int) = 0
  | [] => rfl
  | n :: r => by
    show max (PyData.depth (.int n)) (PyData.depthAll (r.map .int)) = 0
    rw [ints_depth r]
    rfl
theorem ints_shaped (ns : List Int) : SeqAt.shaped (.tuple (ns.map .int)) = true := by
  unfold SeqAt.shaped
  have e : PyData.canLay0 (.tuple (ns.map .int)) = true := by
    simp only [PyData.canLay0]
    exact ints_lay ns
  rw [e]
  simp only [PyData.depth, ints_depth]
  rfl
theorem ints_eqv (ns ms : List Int) : PyData.eqv (.tuple (ns.map .int)) (.tuple (ms.map .int)) = decide (ns = ms) := by
  have h := PySem.W.Datum.eqv (α := PySem.W.Tup Int) ⟨ns⟩ ⟨ms⟩
  refine h.trans (decide_eq_decide.mpr ⟨fun e => congrArg PySem.W.Tup.items e, fun e => by rw [e]⟩)
def rTupI (K : PySem.W.Frag) (f : List Int → List Int → Bool) : R2 := fun x y H Q => ∃ (a b : Addr) (ns ms : List Int), x = .ref a ∧ y = .ref b ∧ SqT K H a (ns.map V.int) ∧ SqT K H b (ms.map V.int) ∧ Q (.bl (f ns ms)) H
section
variable {X : Cx}
theorem holds_ints {pins : List (Addr × Obj)} {σ : L2.St} {H : Hp} {s : Shared} {a : Addr} {ns : List Int} {v : Value} (I : Inv X pins σ H s) (h : SqT X.K H a (ns.map V.int)) (r : RelV (.ref a) v) : PySem.W.Holds s.heap v (⟨ns⟩ : PySem.W.Tup Int) :=
  Dp.reads I _ _ v (.tup h dp_ints) r
theorem op_ltTI (hu : X.A.units + 64 < cLine) : OpR X (compareOp .Lt) (rTupI X.K fun ns ms => PySem.W.listLt ns ms) := by
  intro pins s σ H x y v u Q I rx ry h
  obtain ⟨a, b, ns, ms, rfl, rfl, ha, hb, q⟩ := h
  exact PySem.W.lt_datum (holds_ints I ha rx) (holds_ints I hb ry) (Nat.lt_of_le_of_lt (Nat.add_le_add_left (show (1 : Nat) ≤ 64 by decide) _) hu) ⟨.bl _, H, I, rfl, q⟩
theorem op_gtTI (hu : X.A.units + 64 < cLine) : OpR X (compareOp .Gt) (rTupI X.K fun ns ms => PySem.W.listLt ms ns) := by
  intro pins s σ H x y v u Q I rx ry h
  obtain ⟨a, b, ns, ms, rfl, rfl, ha, hb, q⟩ := h
  exact PySem.W.gt_datum (holds_ints I ha rx) (holds_ints I hb ry) (Nat.lt_of_le_of_lt (Nat.add_le_add_left (show (1 : Nat) ≤ 64 by decide) _) hu) ⟨.bl _, H, I, rfl, q⟩
theorem op_leTI (hu : X.A.units + 64 < cLine) : OpR X (compareOp .LtE) (rTupI X.K fun ns ms => !PySem.W.listLt ms ns) := by
  intro pins s σ H x y v u Q I rx ry h
  obtain ⟨a, b, ns, ms, rfl, rfl, ha, hb, q⟩ := h
  exact PySem.W.le_datum (holds_ints I ha rx) (holds_ints I hb ry) (Nat.lt_of_le_of_lt (Nat.add_le_add_left (show (1 : Nat) ≤ 64 by decide) _) hu) ⟨.bl _, H, I, rfl, q⟩
theorem op_geTI (hu : X.A.units + 64 < cLine) : OpR X (compareOp .GtE) (rTupI X.K fun ns ms => !PySem.W.listLt ns ms) := by
  intro pins s σ H x y v u Q I rx ry h
  obtain ⟨a, b, ns, ms, rfl, rfl, ha, hb, q⟩ := h
  exact PySem.W.ge_datum (holds_ints I ha rx) (holds_ints I hb ry) (Nat.lt_of_le_of_lt (Nat.add_le_add_left (show (1 : Nat) ≤ 64 by decide) _) hu) ⟨.bl _, H, I, rfl, q⟩
end
end Pk

/-! ## Own operators, truth and membership of dict instances -/
namespace Pk
open PySem PySem.Spec PyProof.Rows L2
open SlX (cmpback)
section
variable {X : Cx} {k n : Nat} {f C g : Addr} {fd : FuncData} {ps : List Str} {sp : Sp} {E : XK} {CX : CXT}
/-- x op y, both instances of the class at C, whose def for op is at g -/
theorem op_binD {op : Operator} (hc : PySem.W.selfFirst X.K C = true) (hs : PySem.W.findIn X.K (.ref C) (PySem.dunder op.info.2) = some (some (.ref g)))
    (hf : PySem.W.isFn X.K (.ref g) = true) (F : FnR X.prog X.w X.K X.mg X.base CX n g sp) (hr : Room n X.A) (hx : Passes CX X E) : OpR X (binaryOp op) (rOwnD C sp E) := by
  intro pins s σ H x y v u Q I rx ry h
  obtain ⟨a, dx, fs, b, dy, gs, rfl, rfl, ha, hb, q⟩ := h
  obtain rfl : v = Value.ref a := rx
  obtain rfl : u = Value.ref b := ry
  obtain ⟨mA, O, _⟩ := ins_get I.hok ha
  obtain ⟨od, J, _⟩ := O.look
  obtain ⟨mB, O', _⟩ := ins_get I.hok hb
  obtain ⟨od', J', _⟩ := O'.look
  obtain ⟨m, hF⟩ := I.fr
  refine PySem.W.binop_K (op := op) hF I.ok.mod.kin J J'.type hc hs hf (wpAny_mono (wpAny_call (run_fnR (us := [.ref a, .ref b]) (vs := [.ref a, .ref b]) F hr hx I (.cons rfl (.cons rfl .nil)) q)) ?_ (fun _ _ x => x))
  rintro w s' ⟨z', H', I', rz, qz⟩
  exact cmpback rz ⟨z', H', I', rz, qz⟩
/-- the answer of a def is a truth -/
def spB (sp : Sp) (x : List V) (E : XK) (Q : Bool → Hp → Prop) : Hp → Prop := fun H => sp x H (fun z H' => ∃ c, z = .bl c ∧ Q c H') E
/-- y in x, x an instance of the class at C -/
def rInD (C : Addr) (sp : Sp) (E : XK) : R2 := fun y x H Q => ∃ a dx fs, x = .ref a ∧ H a = some (.ins C dx fs) ∧ sp [x, y] H (fun z H' => ∃ c, z = .bl c ∧ Q (.bl c) H') E
theorem op_inD (hs : PySem.W.findIn X.K (.ref C) "__contains__" = some (some (.ref g))) (hf : PySem.W.isFn X.K (.ref g) = true) (F : FnR X.prog X.w X.K X.mg X.base CX n g sp) (hr : Room n X.A) (hx : Passes CX X E) :
    OpR X (compareOp .In) (rInD C sp E) := by
  intro pins s σ H y x u v Q I ry rx h
  obtain ⟨a, dx, fs, rfl, ha, q⟩ := h
  obtain rfl : v = Value.ref a := rx
  obtain ⟨mA, O, _⟩ := ins_get I.hok ha
  obtain ⟨od, J, _⟩ := O.look
  obtain ⟨m, hF⟩ := I.fr
  refine PySem.W.in_K hF I.ok.mod.kin J hs hf (wpAny_mono (wpAny_call (run_fnR (us := [.ref a, u]) (vs := [.ref a, y]) F hr hx I (.cons rfl (.cons ry .nil)) q)) ?_ (fun _ _ x => x))
  rintro w s' ⟨z', H', I', rz, c, rfl, qz⟩
  obtain rfl : w = Value.bool c := rz
  exact wpAny_truthy_bool ⟨.bl c, H', I', rfl, qz⟩
theorem truthy_D {pins : List (Addr × Obj)} {s : Shared} {σ : L2.St} {H : Hp} {a dx : Addr} {fs : List (Str × V)} {A : Around} {Q : Bool → Shared → Prop} {Q' : Bool → Hp → Prop}
    (hs : PySem.W.findIn X.K (.ref C) "__bool__" = some (some (.ref g))) (hf : PySem.W.isFn X.K (.ref g) = true) (F : FnR X.prog X.w X.K X.mg X.base CX n g sp) (hr : Room n A) (e0 : Env0 X.prog X.w X.K X.mg X.base A X.stack s H) (hx : Passes CX X E)
    (I : Inv X pins σ H s) (ha : H a = some (.ins C dx fs)) (q : spB sp [.ref a] E Q' H) (h : ∀ c s' H', Inv X pins σ H' s' → Q' c H' → Q c s') : wpAny (model X.prog X.w) A (truthy (.ref a)) Q X.xe s := by
  obtain ⟨mA, O, _⟩ := ins_get I.hok ha
  obtain ⟨od, J, _⟩ := O.look
  obtain ⟨m, hF⟩ := I.fr
  refine PySem.W.truthy_K hF I.ok.mod.kin J hs hf (wpAny_mono (wpAny_call (SlX.run_at (us := [.ref a]) (ws := [.ref a]) F hr e0 hx I (.cons rfl .nil) q)) ?_ (fun _ _ x => x))
  rintro w s' ⟨z', H', I', rz, c, rfl, qz⟩
  obtain rfl : w = Value.bool c := rz
  exact h c s' H' I' qz
/-- not e, e an instance with its own truth -/
def tNotD (C : Addr) (sp : Sp) (E : XK) (ta : TE) : TE := fun σ H Q => ta σ H fun x H1 => ∃ a dx fs, x = .ref a ∧ H1 a = some (.ins C dx fs) ∧ spB sp [.ref a] E (fun c H' => Q (.bl (!c)) H') H1
theorem pe_notD {e : Expr} {ta : TE} {pos : Pos} (he : PE X e ta) (hs : PySem.W.findIn X.K (.ref C) "__bool__" = some (some (.ref g))) (hf : PySem.W.isFn X.K (.ref g) = true) (F : FnR X.prog X.w X.K X.mg X.base CX n g sp) (hr : Room n X.A) (hx : Passes CX X E) :
    PE X (.UnaryOp .Not e pos) (tNotD C sp E ta) := by
  refine ⟨fun pins s σ H Q I h => ?_⟩
  refine UnaryOp_ (thn (he.run pins s σ H _ I h) fun v s1 ⟨x, H1, I1, r1, a, dx, fs, ex, ha, q⟩ => ?_)
  subst ex
  obtain rfl : v = Value.ref a := r1
  exact not_of (truthy_D hs hf F hr I1.env0 hx I1 ha q fun c s' H' I' q' => ⟨.bl (!c), H', I', rfl, q'⟩)
/-- bool(e) -/
def rBoolD (C : Addr) (sp : Sp) (E : XK) : List V → Hp → VK → Prop := fun xs H Q => ∃ a dx fs, xs = [.ref a] ∧ H a = some (.ins C dx fs) ∧ spB sp [.ref a] E (fun c H' => Q (.bl c) H') H
theorem call_boolD (hs : PySem.W.findIn X.K (.ref C) "__bool__" = some (some (.ref g))) (hf : PySem.W.isFn X.K (.ref g) = true) (G : FnR X.prog X.w X.K X.mg X.base CX n g sp) (hr : Room (n + 2) X.A) (hx : Passes CX X E) :
    CallR X (.type "bool") (rBoolD C sp E) := by
  intro pins s σ H xs us Q I r h
  obtain ⟨a, dx, fs, rfl, ha, q⟩ := h
  obtain ⟨u, rfl, ru⟩ := vals1 r
  obtain rfl : u = Value.ref a := ru
  have hr1 : Room (n + 1) X.A.in1 := Room.in1 hr
  have hr2 : Room n X.A.in1.in1 := hr1.in1
  refine callType_codes (T := "bool") (Bi := Builtin.«object.__init__») (Q₁ := fun v s₁ => ∃ c, v = .bool c ∧ EP X pins σ Q v s₁) F.called_bool (F.typeCall_bool_1 _) PySem.F.entry_object_init ?_ ?_
  · refine codeAny_of_tree ?_
    show wpAny _ X.A.in1.in1 (do checkBuiltinCall "bool.__new__" ⟨[.type "bool", .ref a], []⟩; again (.builtin "bool.__new__" ⟨[.type "bool", .ref a], []⟩)) _ _ s
    refine wpAny_bind (wpAny_of_eq (F.newCall_bool_1 _) (wpAny_pure ⟨plainId_quiet (by decide +kernel) _, codeAny_builtin F.entry_bool_new ?_⟩))
    rw [Around.under_plainId (by decide +kernel) _]
    obtain ⟨hp, gn, d, tk, os⟩ := s
    have f1 := F.conv_sub_bool
    have key : ∀ {Q₂ : Bool → Shared → Prop}, (∀ c s' , EP X pins σ Q (.bool c) s' → Q₂ c s') → wpAny (model X.prog X.w) X.A.in1.in1 (truthy (.ref a)) Q₂ X.xe ⟨hp, gn, d, tk, os⟩ := fun {Q₂} hQ =>
      truthy_D hs hf G hr2 I.env0.in1.in1 hx I ha q fun c s' H' I' q' => hQ c s' ⟨.bl c, H', I', rfl, q'⟩
    show wpAny _ _ (Builtin.«bool.__new__» ⟨[.type "bool", .ref a], []⟩) _ _ _
    wp_walk using key
    intro c s' hq
    exact wpAny_pure ⟨_, rfl, hq⟩
  · rintro obj s₁ ⟨c, rfl, hq⟩
    exact ⟨PySem.typeIs_bool _ _, F.args_object_init_2 _ _, object_init_meets F.called_bool.init.lookup F.called_bool.made (by decide) X.prog X.w X.A.in1 _ s₁ ⟨PySem.typeIs_bool _ _, rfl, hq⟩⟩
end
/-- what a for walks is told in one of two ways -/
theorem pi_or {X : Cx} {tg e : Expr} {t u : TI} (h : PI X tg e t) (g : PI X tg e u) : PI X tg e (fun σ H R => t σ H R ∨ u σ H R) := by
  constructor
  rintro pins s σ H R I (q | q)
  · exact h.run pins s σ H R I q
  · exact g.run pins s σ H R I q
open AutoSeq1 in
theorem extend_tup (l b : Addr) (xs ys : Array Value) (n m : Nat) (dd : Option Addr) (sl : Array (Option Value))
    (h0 : ¬ (!xs.isEmpty && Builtin.List.listTooLong (xs.size + ys.size)) = true) (h1 : xs.size ≤ sizeLine) (h2 : (xs ++ ys).size ≤ sizeLine + 1) :
    Meets (Builtin.«list.extend» ⟨[.ref l, .ref b], []⟩) (fun _ R s => s.heap.get? l = some ⟨.type "list", none, .seq xs n, #[]⟩ ∧
      s.heap.get? b = some ⟨.type "tuple", dd, .seq ys m, sl⟩ ∧ R (.ok (.ret Value.none)) ⟨s.heap.update l (Obj.mapSeq fun x => x ++ ys), s.gens, s.drawn, s.toks, s.os⟩) := by
  refine .of_wp ?_
  rintro prog w A R ⟨hp, g, d, tk, os⟩ ⟨hl, hb, h⟩
  have f1 := idx_int
  have f2 := PySem.AutoSeq1.sub_tuple_tuple
  have f3 := PySem.AutoSeq1.sub_list_list
  have f4 := PySem.AutoSeq1.sub_tuple_list
  have f5 := PySem.AutoSeq1.sub_list_tuple
  wp_walk using (wpAny_updateSeq hl rfl (hz := h1) (_hz' := h2)), wpAny_loadPart' hl, wpAny_loadPart' hb
  exact ⟨_, rfl, h⟩
/-- l.extend(t), t a tuple -/
def rExtendT (K : PySem.W.Frag) : V → List V → Hp → VK → Prop := fun x vs H Q => ∃ l b xs zs, x = .ref l ∧ vs = [.ref b] ∧ H l = some (.lst xs) ∧ SqT K H b zs ∧ xs.length + zs.length ≤ sizeLine ∧ Q .non (upd H l (.lst (xs ++ zs)))
theorem mt_extendT {X : Cx} : MtM X "list.extend" (rExtendT X.K) := by
  intro pins s σ H x vs v us Q I rx rv h
  obtain ⟨l, b, xs, zs, rfl, rfl, hH, hB, hz, q⟩ := h
  cases rx
  obtain ⟨u, rfl, ru⟩ := rv.one
  cases ru
  obtain ⟨z, its, n, r, hl, e⟩ := I.lstM hH
  obtain ⟨its2, r2, ⟨⟨cls2, dd2, data2, sl2⟩, e2, hc2, n2, hd2⟩, hz2⟩ := I.tuple hB
  simp only at hc2 hd2
  subst hc2 hd2
  have hl2 := r2.length
  have hsz : its.toArray.size + its2.toArray.size ≤ sizeLine := by rw [List.size_toArray, List.size_toArray]; omega
  have hlong : ¬ (!its.toArray.isEmpty && Builtin.List.listTooLong (its.toArray.size + its2.toArray.size)) = true := by
    rw [notLongL hsz, Bool.and_false]
    exact Bool.false_ne_true
  refine call_meets F.slot_list_extend ⟨_, e, rfl⟩ F.entry_list_extend (F.args_list_extend_2 _ _)
    (extend_tup l b its.toArray its2.toArray n n2 dd2 sl2 hlong (by rw [List.size_toArray]; omega) (by rw [Array.size_append]; omega)) ⟨e, e2, ?_⟩
  refine ⟨.non, _, I.lset (its' := its ++ its2) hH e (by simp) (r.append r2) ?_, rfl, q⟩
  rw [List.length_append]
  omega
/-- bool(t), t a tuple -/
theorem call_boolTup {X : Cx} : CallR X (.type "bool") (fun xs H Q => ∃ (a : Addr) (zs : List V), xs = [.ref a] ∧ SqT X.K H a zs ∧ Q (.bl (!zs.isEmpty)) H) := by
  intro pins s σ H xs us Q I r h
  obtain ⟨a, zs, rfl, hq, q⟩ := h
  obtain rfl := Vals.ref1 r
  obtain ⟨its, rv, pl, hz⟩ := I.tuple hq
  have hl := line63
  have hlen := rv.length
  refine callType_codes (T := "bool") (Bi := Builtin.«object.__init__») (Q₁ := fun v s₁ => ∃ c, v = .bool c ∧ EP X pins σ Q v s₁) F.called_bool (F.typeCall_bool_1 _) PySem.F.entry_object_init ?_ ?_
  · refine codeAny_of_tree ?_
    show wpAny _ X.A.in1.in1 (do checkBuiltinCall "bool.__new__" ⟨[.type "bool", .ref a], []⟩; again (.builtin "bool.__new__" ⟨[.type "bool", .ref a], []⟩)) _ _ s
    refine wpAny_bind (wpAny_of_eq (F.newCall_bool_1 _) (wpAny_pure ⟨plainId_quiet (by decide +kernel) _, codeAny_builtin F.entry_bool_new ?_⟩))
    rw [Around.under_plainId (by decide +kernel) _]
    obtain ⟨hp, gn, d, tk, os⟩ := s
    have f1 := F.conv_sub_bool
    have key : ∀ {Q₂ : Bool → Shared → Prop}, (∀ s', EP X pins σ Q (.bool (!zs.isEmpty)) s' → Q₂ (!zs.isEmpty) s') → wpAny (model X.prog X.w) X.A.in1.in1 (truthy (.ref a)) Q₂ X.xe ⟨hp, gn, d, tk, os⟩ := fun {Q₂} hQ =>
      truthy_tuple pl (by simp only [List.size_toArray]; omega) (by rw [isEmpty_of rv]; exact hQ _ ⟨.bl (!zs.isEmpty), H, I.tok _, rfl, q⟩)
    show wpAny _ _ (Builtin.«bool.__new__» ⟨[.type "bool", .ref a], []⟩) _ _ _
    wp_walk using key
    intro s' hq
    exact wpAny_pure ⟨_, rfl, hq⟩
  · rintro obj s₁ ⟨c, rfl, hq⟩
    exact ⟨PySem.typeIs_bool _ _, F.args_object_init_2 _ _, object_init_meets F.called_bool.init.lookup F.called_bool.made (by decide) X.prog X.w X.A.in1 _ s₁ ⟨PySem.typeIs_bool _ _, rfl, hq⟩⟩
end Pk

/-! ## Exceptions that are kept as values: made, caught under a name, their fields read -/
namespace Pk
open PySem PySem.Spec PyProof.Rows L2
/-- at a: an exception of the class cls that is in nobody's flight, its dict at d -/
def ExK (cls : Value) (d : Option Addr) (a : Addr) : HO := .ext fun h => ∃ (oe : Obj) (vs : Array Value), h.get? a = some oe ∧ Zc cls d oe ∧ oe.data = .fields vs
theorem exK_ok {P : Program} {w : World} {H : Hp} {h : Heap} {a : Addr} {cls : Value} {d : Option Addr} {oe : Obj} {vs : Array Value} (e : h.get? a = some oe) (z : Zc cls d oe) (q : oe.data = .fields vs) : ObjOk P w H h a (ExK cls d a) :=
  ⟨⟨oe, vs, e, z, q⟩, ⟨oe, e⟩, fun _ _ ⟨o1, v1, e1, z1, q1⟩ k => ⟨o1, v1, k _ e1, z1, q1⟩⟩
theorem exK_at {P : Program} {w : World} {H : Hp} {h : Heap} {a : Addr} {cls : Value} {d : Option Addr} (k : HOk P w H h) (e : H a = some (ExK cls d a)) : ∃ (oe : Obj) (vs : Array Value), h.get? a = some oe ∧ Zc cls d oe ∧ oe.data = .fields vs :=
  (show ObjOk P w H h a (.ext fun h => ∃ (oe : Obj) (vs : Array Value), h.get? a = some oe ∧ Zc cls d oe ∧ oe.data = .fields vs) from k a _ e).1
theorem exK_ne {cls : Value} {d : Option Addr} {a : Addr} : (∀ xs, ExK cls d a ≠ .tup xs) ∧ (∀ o u, ExK cls d a ≠ .frz o u) ∧ (∀ ps, ExK cls d a ≠ .tbl ps) ∧ ∀ x, ExK cls d a ≠ .own x := by
  refine ⟨fun _ z => ?_, fun _ _ z => ?_, fun _ z => ?_, fun _ z => ?_⟩ <;> (unfold ExK at z; cases z)
section
variable {X : Cx} {pins : List (Addr × Obj)} {σ : L2.St} {H : Hp} {s : Shared}
/-- a thing of the heap that is younger than the def's call, told from now on -/
theorem track {a : Addr} {o : HO} (I : Inv X pins σ H s) (young : X.s_0.heap.get? a = none) (untold : H a = none) (nl : X.env.locals ≠ a) (nc : ∀ x c, X.env.cells.lookup x = some c → c ≠ a)
    (np : ∀ p ∈ X.pn ++ pins, p.1 ≠ a) (new : ObjOk X.prog X.w (upd H a o) s.heap a o) : Inv X pins σ (upd H a o) s := by
  have off : ∀ {b : Addr} {u : HO}, H b = some u → b ≠ a := fun {b u} e z => by
    rw [z, untold] at e
    cases e
  have old : ∀ {b : Addr} {u : Obj}, X.s_0.heap.get? b = some u → b ≠ a := fun {b u} e z => by
    rw [z, young] at e
    cases e
  have at_ : ∀ {b : Addr} {u : HO}, H b = some u → upd H a o b = some u := fun {b u} e => by
    rw [upd_ne (off e)]
    exact e
  refine { ok := I.ok, os := I.os, bare := I.bare, loc := I.loc, cell := I.cell, len := I.len, base := { keep := I.base.keep, slot := I.base.slot, there := I.base.there, free := ?_, tups := ?_, frzs := ?_, tbls := ?_ }, free := ?_, freeC := ?_, pin := ?_, hok := ?_ }
  · intro b u e n hx
    rw [upd_ne (old e)]
    exact I.base.free b u e n hx
  · exact fun b xs e => at_ (I.base.tups b xs e)
  · exact fun b u v e => at_ (I.base.frzs b u v e)
  · intro b ps e
    obtain ⟨m, q⟩ := I.base.tbls b ps e
    exact ⟨m, at_ q⟩
  · rw [upd_ne nl]
    exact I.free
  · intro x c e
    rw [upd_ne (nc x c e)]
    exact I.freeC x c e
  · intro p hp
    obtain ⟨q1, q2, q3, q4, q5⟩ := I.pin p hp
    exact ⟨q1, by rw [upd_ne (np p hp)]; exact q2, q3, q4, q5⟩
  · intro b u e
    by_cases hb : b = a
    · subst hb
      rw [upd_same] at e
      cases e
      exact new
    · rw [upd_ne hb] at e
      exact (I.hok b u e).stay (fun _ _ _ q => q) (fun _ q => at_ q) (fun _ _ q => at_ q)
theorem moved {s' : Shared} (I : Inv X pins σ H s) (hh : s'.heap = s.heap) (os : s'.os = s.os) (ag : AllBare s'.gens) : Inv X pins σ H s' := by
  obtain ⟨h1, g1, d1, t1, o1⟩ := s
  obtain ⟨h2, g2, d2, t2, o2⟩ := s'
  dsimp only at hh os ag
  subst hh os
  exact { ok := I.ok, os := I.os, bare := ag, base := I.base, loc := I.loc, cell := I.cell, free := I.free, freeC := I.freeC, pin := I.pin, hok := I.hok, len := I.len }
/-- what was not there before the call -/
theorem young_of (I : Inv X pins σ H s) (hex : X.ex = []) {a : Addr} (n : s.heap.get? a = none) : X.s_0.heap.get? a = none := by
  cases e : X.s_0.heap.get? a with
  | none => rfl
  | some o =>
    obtain ⟨o', q⟩ := I.base.there a o e (by rw [hex]; exact fun z => nomatch z)
    rw [n] at q
    cases q
theorem notcell (I : Inv X pins σ H s) {a : Addr} {oe : Obj} {vs : Array Value} (e : s.heap.get? a = some oe) (q : oe.data = .fields vs) : ∀ x c, X.env.cells.lookup x = some c → c ≠ a := fun x c hc z => by
  obtain ⟨v, o, ho, hd⟩ := I.cell x c hc
  rw [z, e] at ho
  cases ho
  rw [q] at hd
  cases hd
theorem notlocals (I : Inv X pins σ H s) {a : Addr} (n : s.heap.get? a = none) : X.env.locals ≠ a := fun z => by
  obtain ⟨m, ⟨o, es, ep, ho, _⟩, _⟩ := I.loc
  rw [z, n] at ho
  cases ho
end
/-! ### C(..) as a value -/
def tMkV (t : L2.St → Hp → XK → Prop) : TE := fun σ H Q => t σ H fun cls d H' => ∀ a, H' a = none → Q (.ref a) (upd H' a (ExK cls d a))
theorem pe_mkV {X : Cx} {e : Expr} {t : L2.St → Hp → XK → Prop} (hex : X.ex = []) (he : PMk X e t) : PE X e (tMkV t) := by
  refine ⟨fun pins s σ H Q I h => wpAny_mono (he pins s σ H _ I h) ?_ fun _ _ x => x⟩
  rintro u s' ⟨a, oe, vs, sI, H', cls, d, rfl, J, k, gone, there, hz, hd, _, na, os, ag, _, q⟩
  have J1 : Inv X pins σ H' s' := moved (s := { sI with heap := s'.heap, toks := sI.toks }) (J.kept k) rfl os ag
  refine ⟨.ref a, _, track J1 (young_of J hex gone) na (notlocals J gone) (notcell J1 there hd) (fun p hp z => ?_) (exK_ok there hz hd), rfl, q a na⟩
  have := (J.pin p hp).1
  rw [z, gone] at this
  cases this
/-! ### e.f -/
def tXfV (K : PySem.W.Frag) (f : Str) (te : TE) : TE := fun σ H Q => te σ H fun x H1 => ∃ (a dd C : Addr) (fs : List (Str × V)) (v : V), x = .ref a ∧ XfC K C ∧ PySem.W.findIn K (.ref C) f = some none ∧
  H1 a = some (ExK (.ref C) (some dd) a) ∧ H1 dd = some (.xd fs) ∧ fs.lookup f = some v ∧ Q v H1
theorem pe_xfV {X : Cx} {e : Expr} {te : TE} {pos : Pos} {n : Str} (he : PE X e te) (hb : attributeBase e n X.env (eval e X.env) = eval e X.env := by rfl) : PE X (.Attribute e n pos) (tXfV X.K n te) := by
  refine ⟨fun pins s σ H Q I h => attr_of hb (thn (he.run pins s σ H _ I h) ?_)⟩
  rintro u s1 ⟨x, H1, I1, rx, a, dd, C, fs, v, rfl, T, no, hx, hd, hl, q⟩
  obtain rfl : u = Value.ref a := rx
  obtain ⟨oe, vs, there, hz, hf⟩ := exK_at I1.hok hx
  obtain ⟨mA, hns, hr⟩ : ObjOk X.prog X.w H1 s1.heap dd (.xd fs) := I1.hok dd _ hd
  obtain ⟨od, ho, hlk⟩ := lookIn_ns hns
  obtain ⟨u, hu, ru⟩ := RelO.some_of (v := v) (o := mA n) (by rw [← hl]; exact hr n)
  have J : PySem.W.InstAt s1.heap a oe C (some od) := ⟨there, hz.1, by unfold PySem.W.notCls; rw [hf] <;> rfl, by rw [hz.2]; exact ho⟩
  exact HandSPX.exc_get I1.kIn J T.ga T.gg T.exC (PySem.W.findObj_own T.hdC no rfl (by rw [hlk, hu])) (handed_of ru) ⟨v, H1, I1.tok _, ru, q⟩
/-! ### try: body / except x as n: suite, the exception kept -/
/-- what follows the suite: the name is gone, the exception is told -/
def behindV (i : Nat) (a : Addr) (cls : Value) (d : Option Addr) (D : Ends) : Ends where
  nx := fun σ H => H a = none → D.nx (σ.set i none) (upd H a (ExK cls d a))
  rt := D.rt
  bk := fun σ H => D.bk (σ.set i none) H
  ct := fun σ H => D.ct (σ.set i none) H
def wAsV (K : PySem.W.Frag) (c : Value) (i : Nat) (ts : Addr → Value → Option Addr → TS) (Wout : WX) (D : Ends) : WX := fun cls d σ H =>
  ∃ b, PySem.W.exmOne K cls c = some b ∧ (b = true → ∀ a, H a = none → ts a cls d (behindV i a cls d D) (σ.set i (some (.ref a))) H) ∧ (b = false → Wout cls d σ H)
section
variable {X : Cx} {x n : Str} {c : Value} {i : Nat} {body suite : List Stmt} {b₀ : Stmt} {np pos pos' : Pos} {tb : WX → TS} {ts : Addr → Value → Option Addr → TS} {Wout : WX}
theorem unsuiteK {a : Addr} {q : Addr × Obj} {pins : List (Addr × Obj)} {σ : L2.St} {H : Hp} {s : Shared} (I : Inv (X.suite a (q :: (X.pn ++ pins))) [] σ H s) (ok : X.Ok) : Inv X (q :: pins) σ H s :=
  { ok := ok, os := I.os, bare := I.bare, base := I.base, loc := I.loc, cell := I.cell, free := I.free, freeC := I.freeC, hok := I.hok, len := I.len
    pin := fun p hp => I.pin p (by
      rcases List.mem_append.mp hp with h | h
      · exact List.mem_append_left _ (List.mem_cons_of_mem _ (List.mem_append_left _ h))
      · rcases List.mem_cons.mp h with h | h
        · rw [h]
          exact List.mem_append_left _ List.mem_cons_self
        · exact List.mem_append_left _ (List.mem_cons_of_mem _ (List.mem_append_right _ h))) }
theorem unpin {q : Addr × Obj} {pins : List (Addr × Obj)} {σ : L2.St} {H : Hp} {s : Shared} (I : Inv X (q :: pins) σ H s) : Inv X pins σ H s :=
  { ok := I.ok, os := I.os, bare := I.bare, base := I.base, loc := I.loc, cell := I.cell, free := I.free, freeC := I.freeC, hok := I.hok, len := I.len
    pin := fun p hp => I.pin p (by
      rcases List.mem_append.mp hp with h | h
      · exact List.mem_append_left _ h
      · exact List.mem_append_right _ (List.mem_cons_of_mem _ h)) }
theorem ps_try_asV (hex : X.ex = []) (hs : X.stack = X.env :: X.outer) (hf : X.env.frame = some X.env.locals) (hN : X.N.Nodup) (hi : X.N[i]? = some n) (hln : X.env.kindOf n = some .local) (hc : Names X x c) (tk : Takes X Wout)
    (hb : ∀ (W : WX) (pn : List (Addr × Obj)) (xe : Value → Shared → Prop), Takes (X.tr pn xe) W → PassesOwn (model X.prog X.w) X.A X.env xe → PSs (X.tr pn xe) body (tb W))
    (hsu : ∀ (a : Addr) (oe : Obj) (cls : Value) (d : Option Addr) (pn : List (Addr × Obj)), Zc cls d oe → (∃ vs, oe.data = .fields vs) → PSs (X.suite a ((a, oe) :: pn)) (b₀ :: suite) (ts a cls d)) :
    PS X (.Try body [.ExceptHandler (some (.Name x np)) (some n) (b₀ :: suite) pos'] [] [] pos) (fun D σ H => tb (wAsV X.K c i ts Wout D) D σ H) := by
  constructor
  intro pins s σ H D I h
  have okX := I.ok
  have frames : X.A.frames = some (X.env :: X.outer) := okX.frames.trans (by rw [hs])
  refine wpAny_Try_except ?_
  let XC : Value → Shared → Prop := fun e s₁ => wpAny (model X.prog X.w) X.A (noteFrame e X.env) (fun _ s₂ => wpAny (model X.prog X.w) X.A (setFlight e none) (fun _ s₃ =>
    wpAny (model X.prog X.w) X.A (handleBy e X.env [.ExceptHandler (some (.Name x np)) (some n) (b₀ :: suite) pos']) (SP X pins D) X.xe s₃) X.xe s₂) X.xe s₁
  have caught : Takes (X.tr (X.pn ++ pins) XC) (wAsV X.K c i ts Wout D) := by
    rintro u s' ⟨a, B, sI, pins', σ', H', cls, d, rfl, J', nb, up, sky, na, os, ag, b, hb1, hyes, hno⟩
    have J : Inv X pins σ' H' sI := J'.ofTry okX
    have sky' : Sky B (X.env :: X.outer) a (Zc cls d) X.env.locals s'.heap := by
      rw [← hs]
      exact sky
    show wpAny (model X.prog X.w) X.A (noteFrame (.ref a) X.env) _ _ _
    refine Sky.land Zc.steady frames hf sky' fun hA flA upA => ?_
    have JA : Inv X pins σ' H' { s' with heap := hA } := J.landed nb flA.1 (up.trans upA) os ag
    obtain ⟨oA, vA, eA, zA, dA⟩ := flA.there
    have nofr : a ∉ frs (X.env :: X.outer) := fun hm => by
      obtain ⟨_, o', e', hnf⟩ := flA.2.2.1.mem hm
      rw [eA] at e'
      cases e'
      exact hnf _ dA
    have goneI : sI.heap.get? a = none := by
      cases e : sI.heap.get? a with
      | none => rfl
      | some o =>
        have := nb a o e (by rw [show (X.tr (X.pn ++ pins) XC).stack = X.env :: X.outer from hs]; exact nofr)
        rw [flA.2.1] at this
        cases this
    have nLoc : a ≠ X.env.locals := fun z => nofr (List.mem_filterMap.mpr ⟨X.env, List.mem_cons_self, by rw [hf, z]⟩)
    have nFs : a ∉ X.fs := fun hm => by
      obtain ⟨e, he, q⟩ := List.mem_filterMap.mp hm
      exact nofr (List.mem_filterMap.mpr ⟨e, List.mem_cons_of_mem _ he, q⟩)
    have SA := JA.suite eA dA na nLoc nFs
    refine wpAny_handleBy_cons (codeAny_handlers_test ?_) (by intro q; cases q)
    have lookT : PySem.W.Looks (model X.prog X.w) hA (typeOf (.ref a)) cls := fun A Q E s k q => wpAny_typeOf_ref (k _ _ eA) (by rw [zA.1]; exact q)
    have lookM := PySem.W.exm_one (M := model X.prog X.w) JA.kIn lookT hb1
    have nameC : ∀ {Q : Value → Shared → Prop} {E : Value → Shared → Prop}, Q c { s' with heap := hA } → wpAny (model X.prog X.w) (X.A.mark (some (.ref a))) (eval (.Name x np) X.env) Q E { s' with heap := hA } := by
      intro Q E q
      obtain ⟨glo, dbg, m1 | ⟨m1, m2, m3⟩⟩ := hc
      · exact ld_glob (X := X.suite a ((a, oA) :: (X.pn ++ pins))) SA glo m1 q dbg
      · exact ld_blt (X := X.suite a ((a, oA) :: (X.pn ++ pins))) SA glo m1 m2 q m3 dbg
    refine nameC (lookM.here ?_)
    cases b with
    | true =>
      refine codeAny_handlers_suite_as (HandSPX.lands_againZ flA fun hB flB upB => ?_)
      have JB : Inv X pins σ' H' { s' with heap := hB } := J.landed nb flB.1 ((up.trans upA).trans upB) os ag
      obtain ⟨oB, vB, eB, zB, dB⟩ := flB.there
      refine store_ok (X := X.suite a ((a, oB) :: (X.pn ++ pins))) (v := .ref a) (JB.suite eB dB na nLoc nFs) hN hi (.inl hln) rfl (fun sS SS => ?_) (.inr hln)
      have inside := (hsu a oB cls d (X.pn ++ pins) zB ⟨_, dB⟩).run [] sS _ H' _ SS (hyes rfl a na)
      refine wpAny_mono inside (fun f sE hsp => ?_) (fun _ _ z => False.elim z)
      have close : ∀ {σE : L2.St} {HE : Hp} {Q : Shared → Prop}, Inv (X.suite a ((a, oB) :: (X.pn ++ pins))) [] σE HE sE → (∀ sZ, Inv X ((a, oB) :: pins) (σE.set i none) HE sZ → Q sZ) →
          wpAny (model X.prog X.w) X.A (do bindName X.env n .none; unbindBehindTheSuite X.env n pos') (fun _ sZ => Q sZ) X.xe sE := fun {σE HE Q} SE hq => gone_ok (unsuiteK SE okX) hN hi hln hq
      cases f with
      | next =>
        obtain ⟨σE, HE, SE, qE⟩ := hsp
        refine close SE fun sZ JZ => ?_
        obtain ⟨g1, g2, g3, _, _⟩ := JZ.pin (a, oB) (List.mem_append_right _ List.mem_cons_self)
        refine ⟨_, _, track (unpin JZ) (young_of J hex goneI) g2 (Ne.symm g3) (notcell (unpin JZ) g1 dB) (fun p hp z => ?_) (exK_ok g1 zB dB), qE g2⟩
        have := (J.pin p hp).1
        rw [z, goneI] at this
        cases this
      | brk =>
        obtain ⟨σE, HE, SE, qE⟩ := hsp
        exact close SE fun sZ JZ => ⟨_, _, unpin JZ, qE⟩
      | cont =>
        obtain ⟨σE, HE, SE, qE⟩ := hsp
        exact close SE fun sZ JZ => ⟨_, _, unpin JZ, qE⟩
      | ret u =>
        obtain ⟨vE, σE, HE, SE, rE, qE⟩ := hsp
        exact close SE fun sZ JZ => ⟨_, _, _, unpin JZ, rE, qE⟩
    | false =>
      show wpAny _ X.A (handleBy (.ref a) X.env []) _ _ _
      refine wpAny_handleBy_nil ?_
      obtain ⟨k1, k2, k3, oe, vs, T, oT, tt, eT, zT, dT, h1, hr⟩ := id flA
      unfold PySem.passOn
      refine wpAny_bind (wpAny_field eT dT h1 ?_)
      rw [if_neg (show ¬ ((Value.ref T == Value.none) = true) from by simp)]
      have away : wpAny (model X.prog X.w) X.A (setFlight (.ref a) X.env.frame) (fun _ s4 => wpAny (model X.prog X.w) X.A (throw (.ref a) : Sem Flow) (SP X pins D) X.xe s4) X.xe { s' with heap := hA } := by
        rw [hf]
        refine HandSPX.setFlight_upZ flA fun hB hhB upB => wpAny_throw (tk _ _ ?_)
        exact ⟨a, B, sI, pins, σ', H', cls, d, rfl, J, nb, (up.trans upA).trans upB, .inr (.inr (by rw [hs]; exact hhB)), na, os, ag, hno rfl⟩
      first
        | exact wpAny_bind (wpAny_pure (wpAny_bind away))
        | exact wpAny_bind away
  have through := (hb (wAsV X.K c i ts Wout D) (X.pn ++ pins) XC caught PassesOwn.looking).run [] s σ H D (I.toTry _) h
  refine wpAny_mono through (fun f s1 hsp => ?_) (fun _ _ he => he)
  cases f with
  | next =>
    obtain ⟨σ', H', JJ, q⟩ := hsp
    exact wpAny_execs_nil ⟨σ', H', JJ.ofTry okX, q⟩
  | brk =>
    obtain ⟨σ', H', JJ, q⟩ := hsp
    exact ⟨σ', H', JJ.ofTry okX, q⟩
  | cont =>
    obtain ⟨σ', H', JJ, q⟩ := hsp
    exact ⟨σ', H', JJ.ofTry okX, q⟩
  | ret u =>
    obtain ⟨v, σ', H', JJ, r, q⟩ := hsp
    exact ⟨v, σ', H', JJ.ofTry okX, r, q⟩
end
end Pk

/-! ## A clause of several classes: except (A, B, C) as e, the exception kept as a value -/
namespace Pk
open PySem PySem.Spec PyProof.Rows L2
/-- the test of a clause answers m for the class of what is caught; it may lay a tuple -/
def HT (X : Cx) (t : Expr) (m : Value → Option Bool) : Prop :=
  ∀ {a : Addr} {oe : Obj} {pn : List (Addr × Obj)} {σ : L2.St} {H : Hp} {s : Shared} {cls : Value} {b : Bool} {Q : Bool → Shared → Prop} {E : Value → Shared → Prop}, Inv (X.suite a ((a, oe) :: pn)) [] σ H s → s.heap.get? a = some oe → oe.cls = cls → m cls = some b →
    (∀ h', (∀ q o, s.heap.get? q = some o → h'.get? q = some o) → Q b { s with heap := h' }) →
    wpAny (model X.prog X.w) (X.A.mark (some (.ref a))) (eval t X.env) (fun c s₁ => wpAny (model X.prog X.w) (X.A.mark (some (.ref a))) (excMatches (.ref a) c) Q E s₁) E s
section
variable {X : Cx}
theorem ht_looks {a : Addr} {oe : Obj} {h : Heap} {cls : Value} (ha : h.get? a = some oe) (hc : oe.cls = cls) : PySem.W.Looks (model X.prog X.w) h (typeOf (.ref a)) cls := fun A Q E s k q => wpAny_typeOf_ref (k _ _ ha) (by rw [hc]; exact q)
theorem ht_name {x : Str} {c : Value} {np : Pos} {a : Addr} {oe : Obj} {pn : List (Addr × Obj)} {σ : L2.St} {H : Hp} {s : Shared} {Q : Value → Shared → Prop} {E : Value → Shared → Prop} (hc : Names X x c) (SA : Inv (X.suite a ((a, oe) :: pn)) [] σ H s) (q : Q c s) :
    wpAny (model X.prog X.w) (X.A.mark (some (.ref a))) (eval (.Name x np) X.env) Q E s := by
  obtain ⟨glo, dbg, m1 | ⟨m1, m2, m3⟩⟩ := hc
  · exact ld_glob (X := X.suite a ((a, oe) :: pn)) SA glo m1 q dbg
  · exact ld_blt (X := X.suite a ((a, oe) :: pn)) SA glo m1 m2 q m3 dbg
theorem ht_one {x : Str} {c : Value} {np : Pos} (hc : Names X x c) : HT X (.Name x np) (fun cls => PySem.W.exmOne X.K cls c) := by
  intro a oe pn σ H s cls b Q E SA ha hcl hb q
  exact ht_name hc SA ((PySem.W.exm_one (M := model X.prog X.w) SA.kIn (ht_looks ha hcl) hb).here (q _ fun _ _ z => z))
theorem ht_tup3 {x1 x2 x3 : Str} {c1 c2 c3 : Value} {p1 p2 p3 tpos : Pos} {kk : Nat} (n1 : Names X x1 c1) (n2 : Names X x2 c2) (n3 : Names X x3 c3) :
    HT X (.Tuple [.Name x1 p1, .Name x2 p2, .Name x3 p3] kk tpos) (fun cls => PySem.W.exmAny X.K cls [c1, c2, c3]) := by
  intro a oe pn σ H s cls b Q E SA ha hcl hb q
  refine wpAny_Tuple ?_
  refine wpAny_items_cons (ht_name n1 SA ?_)
  refine wpAny_items_cons (ht_name n2 SA ?_)
  refine wpAny_items_cons (ht_name n3 SA ?_)
  refine wpAny_items_nil ⟨by show (3 : Nat) ≤ sizeLine; rw [sizeLine_eq]; omega, ?_⟩
  have kp : ∀ q o, s.heap.get? q = some o → (s.heap.push { cls := .type "tuple", data := .seq [c1, c2, c3].toArray }).get? q = some o := fun _ _ z => Heap.get?_push_of_some _ z
  exact (PySem.W.exm_tup3 (SA.kIn.keeps kp) ((ht_looks ha hcl).keeps kp) (Heap.get?_push_size s.heap rfl) hb).here (q _ kp)
end
theorem flyingZ_keeps {B : Heap} {l : List Env} {a : Addr} {Z : Obj → Prop} {h h' : Heap} (f : HandSPX.FlyingZ B l a Z h) (k : ∀ b o, h.get? b = some o → h'.get? b = some o) : HandSPX.FlyingZ B l a Z h' := by
  obtain ⟨f1, f2, f3, oe, vs, T, oT, ts, he, hz, hd, h1, hnT, hTe, hT, hdT, h3⟩ := f
  exact ⟨fun b o q => k b o (f1 b o q), f2, f3.of_keeps fun b o q _ => ⟨o, k b o q, rfl⟩, oe, vs, T, oT, ts, k _ _ he, hz, hd, h1, hnT, hTe, k _ _ hT, hdT, h3⟩
def wAsT (m : Value → Option Bool) (i : Nat) (ts : Addr → Value → Option Addr → TS) (Wout : WX) (D : Ends) : WX := fun cls d σ H =>
  ∃ b, m cls = some b ∧ (b = true → ∀ a, H a = none → ts a cls d (behindV i a cls d D) (σ.set i (some (.ref a))) H) ∧ (b = false → Wout cls d σ H)
section
variable {X : Cx} {t : Expr} {n : Str} {m : Value → Option Bool} {i : Nat} {body suite : List Stmt} {b₀ : Stmt} {pos pos' : Pos} {tb : WX → TS} {ts : Addr → Value → Option Addr → TS} {Wout : WX}
theorem ps_try_asT (hex : X.ex = []) (hs : X.stack = X.env :: X.outer) (hf : X.env.frame = some X.env.locals) (hN : X.N.Nodup) (hi : X.N[i]? = some n) (hln : X.env.kindOf n = some .local) (ht : HT X t m) (tk : Takes X Wout)
    (hb : ∀ (W : WX) (pn : List (Addr × Obj)) (xe : Value → Shared → Prop), Takes (X.tr pn xe) W → PassesOwn (model X.prog X.w) X.A X.env xe → PSs (X.tr pn xe) body (tb W))
    (hsu : ∀ (a : Addr) (oe : Obj) (cls : Value) (d : Option Addr) (pn : List (Addr × Obj)), Zc cls d oe → (∃ vs, oe.data = .fields vs) → PSs (X.suite a ((a, oe) :: pn)) (b₀ :: suite) (ts a cls d)) :
    PS X (.Try body [.ExceptHandler (some t) (some n) (b₀ :: suite) pos'] [] [] pos) (fun D σ H => tb (wAsT m i ts Wout D) D σ H) := by
  constructor
  intro pins s σ H D I h
  have okX := I.ok
  have frames : X.A.frames = some (X.env :: X.outer) := okX.frames.trans (by rw [hs])
  refine wpAny_Try_except ?_
  let XC : Value → Shared → Prop := fun e s₁ => wpAny (model X.prog X.w) X.A (noteFrame e X.env) (fun _ s₂ => wpAny (model X.prog X.w) X.A (setFlight e none) (fun _ s₃ =>
    wpAny (model X.prog X.w) X.A (handleBy e X.env [.ExceptHandler (some t) (some n) (b₀ :: suite) pos']) (SP X pins D) X.xe s₃) X.xe s₂) X.xe s₁
  have caught : Takes (X.tr (X.pn ++ pins) XC) (wAsT m i ts Wout D) := by
    rintro u s' ⟨a, B, sI, pins', σ', H', cls, d, rfl, J', nb, up, sky, na, os, ag, b, hb1, hyes, hno⟩
    have J : Inv X pins σ' H' sI := J'.ofTry okX
    have sky' : Sky B (X.env :: X.outer) a (Zc cls d) X.env.locals s'.heap := by
      rw [← hs]
      exact sky
    show wpAny (model X.prog X.w) X.A (noteFrame (.ref a) X.env) _ _ _
    refine Sky.land Zc.steady frames hf sky' fun hA flA upA => ?_
    have JA : Inv X pins σ' H' { s' with heap := hA } := J.landed nb flA.1 (up.trans upA) os ag
    obtain ⟨oA, vA, eA, zA, dA⟩ := flA.there
    have nofr : a ∉ frs (X.env :: X.outer) := fun hm => by
      obtain ⟨_, o', e', hnf⟩ := flA.2.2.1.mem hm
      rw [eA] at e'
      cases e'
      exact hnf _ dA
    have goneI : sI.heap.get? a = none := by
      cases e : sI.heap.get? a with
      | none => rfl
      | some o =>
        have := nb a o e (by rw [show (X.tr (X.pn ++ pins) XC).stack = X.env :: X.outer from hs]; exact nofr)
        rw [flA.2.1] at this
        cases this
    have nLoc : a ≠ X.env.locals := fun z => nofr (List.mem_filterMap.mpr ⟨X.env, List.mem_cons_self, by rw [hf, z]⟩)
    have nFs : a ∉ X.fs := fun hm => by
      obtain ⟨e, he, q⟩ := List.mem_filterMap.mp hm
      exact nofr (List.mem_filterMap.mpr ⟨e, List.mem_cons_of_mem _ he, q⟩)
    have SA := JA.suite eA dA na nLoc nFs
    refine wpAny_handleBy_cons (codeAny_handlers_test ?_) (by intro q; cases q)
    refine ht (oe := oA) (pn := X.pn ++ pins) SA eA zA.1 hb1 fun hP kP => ?_
    have flP := flyingZ_keeps flA kP
    have upP : s'.heap.UpToSlots hP := upA.trans (Heap.UpToSlots.of_keeps kP)
    cases b with
    | true =>
      refine codeAny_handlers_suite_as (HandSPX.lands_againZ (s := { s' with heap := hP }) flP fun hB flB upB => ?_)
      have JB : Inv X pins σ' H' { s' with heap := hB } := J.landed nb flB.1 ((up.trans upP).trans upB) os ag
      obtain ⟨oB, vB, eB, zB, dB⟩ := flB.there
      refine store_ok (X := X.suite a ((a, oB) :: (X.pn ++ pins))) (v := .ref a) (JB.suite eB dB na nLoc nFs) hN hi (.inl hln) rfl (fun sS SS => ?_) (.inr hln)
      have inside := (hsu a oB cls d (X.pn ++ pins) zB ⟨_, dB⟩).run [] sS _ H' _ SS (hyes rfl a na)
      refine wpAny_mono inside (fun f sE hsp => ?_) (fun _ _ z => False.elim z)
      have close : ∀ {σE : L2.St} {HE : Hp} {Q : Shared → Prop}, Inv (X.suite a ((a, oB) :: (X.pn ++ pins))) [] σE HE sE → (∀ sZ, Inv X ((a, oB) :: pins) (σE.set i none) HE sZ → Q sZ) →
          wpAny (model X.prog X.w) X.A (do bindName X.env n .none; unbindBehindTheSuite X.env n pos') (fun _ sZ => Q sZ) X.xe sE := fun {σE HE Q} SE hq => gone_ok (unsuiteK SE okX) hN hi hln hq
      cases f with
      | next =>
        obtain ⟨σE, HE, SE, qE⟩ := hsp
        refine close SE fun sZ JZ => ?_
        obtain ⟨g1, g2, g3, _, _⟩ := JZ.pin (a, oB) (List.mem_append_right _ List.mem_cons_self)
        refine ⟨_, _, track (unpin JZ) (young_of J hex goneI) g2 (Ne.symm g3) (notcell (unpin JZ) g1 dB) (fun p hp z => ?_) (exK_ok g1 zB dB), qE g2⟩
        have := (J.pin p hp).1
        rw [z, goneI] at this
        cases this
      | brk =>
        obtain ⟨σE, HE, SE, qE⟩ := hsp
        exact close SE fun sZ JZ => ⟨_, _, unpin JZ, qE⟩
      | cont =>
        obtain ⟨σE, HE, SE, qE⟩ := hsp
        exact close SE fun sZ JZ => ⟨_, _, unpin JZ, qE⟩
      | ret u =>
        obtain ⟨vE, σE, HE, SE, rE, qE⟩ := hsp
        exact close SE fun sZ JZ => ⟨_, _, _, unpin JZ, rE, qE⟩
    | false =>
      show wpAny _ X.A (handleBy (.ref a) X.env []) _ _ _
      refine wpAny_handleBy_nil ?_
      obtain ⟨k1, k2, k3, oe, vs, T, oT, tt, eT, zT, dT, h1, hr⟩ := id flP
      unfold PySem.passOn
      refine wpAny_bind (wpAny_field eT dT h1 ?_)
      rw [if_neg (show ¬ ((Value.ref T == Value.none) = true) from by simp)]
      have away : wpAny (model X.prog X.w) X.A (setFlight (.ref a) X.env.frame) (fun _ s4 => wpAny (model X.prog X.w) X.A (throw (.ref a) : Sem Flow) (SP X pins D) X.xe s4) X.xe { s' with heap := hP } := by
        rw [hf]
        refine HandSPX.setFlight_upZ (s := { s' with heap := hP }) flP fun hB hhB upB => wpAny_throw (tk _ _ ?_)
        exact ⟨a, B, sI, pins, σ', H', cls, d, rfl, J, nb, (up.trans upP).trans upB, .inr (.inr (by rw [hs]; exact hhB)), na, os, ag, hno rfl⟩
      first
        | exact wpAny_bind (wpAny_pure (wpAny_bind away))
        | exact wpAny_bind away
  have through := (hb (wAsT m i ts Wout D) (X.pn ++ pins) XC caught PassesOwn.looking).run [] s σ H D (I.toTry _) h
  refine wpAny_mono through (fun f s1 hsp => ?_) (fun _ _ he => he)
  cases f with
  | next =>
    obtain ⟨σ', H', JJ, q⟩ := hsp
    exact wpAny_execs_nil ⟨σ', H', JJ.ofTry okX, q⟩
  | brk =>
    obtain ⟨σ', H', JJ, q⟩ := hsp
    exact ⟨σ', H', JJ.ofTry okX, q⟩
  | cont =>
    obtain ⟨σ', H', JJ, q⟩ := hsp
    exact ⟨σ', H', JJ.ofTry okX, q⟩
  | ret u =>
    obtain ⟨v, σ', H', JJ, r, q⟩ := hsp
    exact ⟨v, σ', H', JJ.ofTry okX, r, q⟩
end
end Pk

/-! ## Calls whose exceptions are told with the slots as they stand: classmethods and classes, by position and by name -/
namespace Pk
open PySem PySem.Spec PyProof.Rows L2
section
variable {X : Cx} {CX : CXT} {k : Nat} {σ : L2.St} {H : Hp} {s : Shared} {pins : List (Addr × Obj)} {E : L2.St → XK} {sp : Sp}
theorem run_fnRS {f : Addr} {Q : VK} {us : List Value} {vs : List V} (F : FnR X.prog X.w X.K X.mg X.base CX k f sp) (hr : Room k X.A) (hx : PassesAt CX X σ (E σ)) (I : Inv X pins σ H s) (r : Vals vs us) (h : sp vs H Q (E σ)) :
    codeAny (model X.prog X.w) X.A (.call (.ref f) ⟨us, []⟩) (fun r s' => match r with | .ok (.ret v) => EP X pins σ Q v s' | .ok _ => False | .error e => X.xe e s') s := by
  refine codeAny_mono (F X.A X.stack s H us vs Q (E σ) hr I.env0 r h) fun r s' hq => ?_
  cases r with
  | error e => exact hx pins H s e s' I hq
  | ok fl =>
    cases fl with
    | ret u => exact I.after hq
    | next => exact False.elim hq
    | brk => exact False.elim hq
    | cont => exact False.elim hq
/-- C.m(..), m a classmethod, by position -/
def tCMethS (C : Addr) (sp : Sp) (E : L2.St → XK) (ta : TE) (t : TA) : TE := fun σ H Q => ta σ H fun x H1 => x = .ref C ∧ t σ H1 fun vs H2 => sp (.ref C :: vs) H2 Q (E σ)
theorem pe_cmethS {C p g : Addr} {mc : Value} {o e : Expr} {es : List Expr} {m : Str} {pos apos : Pos} {ta : TE} {t : TA} {pl : Sem Bool} (he : PE X o ta) (r : ClX.CRead X.K C mc) (c : ClX.CMet X.K C mc m p g) (F : FnR X.prog X.w X.K X.mg X.base CX k g sp) (hr : Room k X.A)
    (hx : ∀ σ, PassesAt CX X σ (E σ)) (ha : PA X (e :: es) t)
    (hst : starEach (e :: es) X.env = (false, eval e X.env) :: starEach es X.env := by rfl) (hpl : (backTo pos (starEach es X.env)).any (·.1) = false := by rfl)
    (ht : eval (.Call (.Attribute o m apos) (e :: es) [] pos) X.env = (do
      let ov ← eval o X.env
      standAt apos.atName
      let (f, first) ← holding [ov] (getMethod ov m pl)
      callWith pos f first (backTo pos (starEach (e :: es) X.env)) (backToKw pos (keywordEach [] X.env))) := by rfl) :
    PE X (.Call (.Attribute o m apos) (e :: es) [] pos) (tCMethS C sp E ta t) := by
  refine ⟨fun pins s σ H Q I h => ?_⟩
  refine PySem.W.methodCall_KW (pl := pl) (thn (he.run pins s σ H _ I h) fun u s1 ⟨x, H1, I1, rx, ex, q⟩ => ?_) ht
  subst ex
  obtain rfl : u = Value.ref C := rx
  refine ClX.getmethcm_ok I1 r c fun s2 I2 => ?_
  refine ClX.callwith_cm I2 (ClX.base_none I1 (Nat.le_refl _)) c.fi (thn (ha.run pos _ s2 σ H1 _ I2 q) fun us s3 ⟨vs, H2, I3, rv, q2⟩ => ⟨⟨ClX.pin_at I3, I3.kIn⟩, ?_⟩) hst hpl
  have z := wpAny_call (PySem.W.method_call (ClX.pin_at I3) (run_fnRS (us := .ref C :: us) (vs := .ref C :: vs) F hr (hx σ) I3 (.cons rfl rv) q2))
  exact thn z fun _ _ y => ClX.unpinE y
/-- how the parameters behind the first one bind, all by name -/
structure KM (K : PySem.W.Frag) (fd : FuncData) (ps ks : List Str) (g : List Value → List Value) (gV : List V → List V) : Prop where
  to : ∀ (s : Shared) (c : Value) (ws : List Value), K.In s.heap → ws.length = ks.length → BindsTo s fd ⟨[c], ks.zip ws⟩ (ps.zip (c :: g ws))
  rel : ∀ {zs : List V} {ws : List Value}, zs.length = ks.length → Vals zs ws → Vals (gV zs) (g ws)
/-- C.m(k = v, ..), m a classmethod -/
def tCMethK (C : Addr) (n : Nat) (sp : Sp) (gV : List V → List V) (E : L2.St → XK) (ta : TE) (tk : TA) : TE := fun σ H Q => ta σ H fun x H1 => x = .ref C ∧ tk σ H1 fun zs H2 => zs.length = n ∧ sp (.ref C :: gV zs) H2 Q (E σ)
theorem pe_cmethK {C p f : Addr} {fd : FuncData} {ps ks : List Str} {g : List Value → List Value} {gV : List V → List V} {mc : Value} {o : Expr} {kws : List Keyword} {m : Str} {pos apos : Pos} {ta : TE} {tk : TA} {pl : Sem Bool}
    (he : PE X o ta) (r : ClX.CRead X.K C mc) (c : ClX.CMet X.K C mc m p f) (F : FnOk X.prog X.w X.K X.mg X.base CX k f fd ps sp) (hb : KM X.K fd ps ks g gV) (hr : Room k X.A)
    (hx : ∀ σ, PassesAt CX X σ (E σ)) (hkw : PK X kws tk)
    (hall : (backToKw pos (keywordEach kws X.env)).all (·.1.isSome) = true := by rfl) (hks : (backToKw pos (keywordEach kws X.env)).filterMap (·.1) = ks := by rfl)
    (hpl : ((backTo pos (starEach [] X.env)).any (·.1) || (backToKw pos (keywordEach kws X.env)).any (·.1.isNone)) = false := by rfl)
    (ht : eval (.Call (.Attribute o m apos) [] kws pos) X.env = (do
      let ov ← eval o X.env
      standAt apos.atName
      let (f, first) ← holding [ov] (getMethod ov m pl)
      callWith pos f first (backTo pos (starEach [] X.env)) (backToKw pos (keywordEach kws X.env))) := by rfl) :
    PE X (.Call (.Attribute o m apos) [] kws pos) (tCMethK C ks.length sp gV E ta tk) := by
  refine ⟨fun pins s σ H Q I h => ?_⟩
  refine PySem.W.methodCall_KW (pl := pl) (thn (he.run pins s σ H _ I h) fun u s1 ⟨x, H1, I1, rx, ex, q⟩ => ?_) ht
  subst ex
  obtain rfl : u = Value.ref C := rx
  refine ClX.getmethcm_ok I1 r c fun s2 I2 => ?_
  refine PySem.W.callWith_of hpl (PySem.W.keeps_M (self := Value.ref C) c.fi) (evalArgs_kw2_nil hall ?_)
  refine thn (hkw.run pos _ s2 σ H1 _ I2 q) fun ws s3 ⟨zs, H2, I3, rz, l2, q2⟩ => ⟨⟨ClX.pin_at I3, I3.kIn⟩, ?_⟩
  rw [hks]
  have r2 : Vals (V.ref C :: gV zs) (Value.ref C :: g ws) := .cons rfl (hb.rel l2 rz)
  have z : wpAny (model X.prog X.w) X.A (call (.ref s1.heap.objs.size) ([] ++ []) (ks.zip ws)) (EP X ((s1.heap.objs.size, PySem.W.methodObj (.ref f) (.ref C)) :: pins) σ Q) X.xe s3 := by
    refine wpAny_call (PySem.W.method_call (ClX.pin_at I3) (codeAny_mono (F.run X.A X.stack s3 H2 ⟨[Value.ref C], ks.zip ws⟩ (Value.ref C :: g ws) (V.ref C :: gV zs) Q (E σ) hr I3.env0 (hb.to s3 _ ws I3.kIn (rz.length.symm.trans l2)) r2 q2) fun r s' hq => ?_))
    cases r with
    | error e => exact hx σ _ H2 s3 e s' I3 hq
    | ok fl =>
      cases fl with
      | ret u => exact I3.after hq
      | next => exact False.elim hq
      | brk => exact False.elim hq
      | cont => exact False.elim hq
  exact thn z fun _ _ y => ClX.unpinE y
/-- C(k = v, ..) -/
def tMakeKS (C : Addr) (n : Nat) (sp : Sp) (gV : List V → List V) (E : L2.St → XK) (tk : TA) : TE := fun σ H Q => tk σ H fun zs H2 => zs.length = n ∧ ∀ x dx, H2 x = none → H2 dx = none → dx ≠ x →
  sp (.ref x :: gV zs) (upd (upd H2 dx (.own x)) x (.ins C dx [])) (fun v H3 => v = .non ∧ Q (.ref x) H3) (E σ)
theorem pe_makeKS {C f : Addr} {fd : FuncData} {ps ks : List Str} {g : List Value → List Value} {gV : List V → List V} {x : Str} {p pos : Pos} {kws : List Keyword} {tk : TA}
    (M : Mk X.K C f) (F : FnOk X.prog X.w X.K X.mg X.base CX k f fd ps sp) (hr : Room (k + 1) X.A) (hg : Gl X x) (hm : X.mg x = some (.ref C)) (hb : KM X.K fd ps ks g gV) (hx : ∀ σ, PassesAt CX X σ (E σ)) (hkw : PK X kws tk)
    (hall : (backToKw pos (keywordEach kws X.env)).all (·.1.isSome) = true := by rfl) (hks : (backToKw pos (keywordEach kws X.env)).filterMap (·.1) = ks := by rfl) (hdb : (x == ("__debug__" : Str)) = false := by decide)
    (hpl : ((backTo pos (starEach [] X.env)).any (·.1) || (backToKw pos (keywordEach kws X.env)).any (·.1.isNone)) = false := by rfl) :
    PE X (.Call (.Name x p) [] kws pos) (tMakeKS C ks.length sp gV E tk) := by
  refine ⟨fun pins s σ H Q I h => ?_⟩
  refine wpAny_Call_Name_kw (ld_glob I hg hm ?_ hdb)
  refine PySem.W.callWith_KW0 (h₀ := X.base) I.ok.mod.kin M.kp hall ?_ hpl
  refine thn (hkw.run pos pins s σ H _ I h) fun ws s2 ⟨zs, H2, I2, rz, l2, q2⟩ => ⟨I2.kIn, ?_⟩
  rw [hks]
  have hq := q2 (s2.heap.objs.size + 1) s2.heap.objs.size (I2.hok.fresh (Nat.le_succ _)) (I2.hok.fresh (Nat.le_refl _)) (Nat.ne_of_lt (Nat.lt_succ_self _))
  have I3 := Inv.made (C := C) I2
  have r2 : Vals (V.ref (s2.heap.objs.size + 1) :: gV zs) (Value.ref (s2.heap.objs.size + 1) :: g ws) := .cons rfl (hb.rel l2 rz)
  refine wpAny_call (make_map (f := f) I2.kIn M.makes M.init (beq_iff_eq.mp M.fn) (codeAny_mono (F.run _ X.stack _ _ ⟨[Value.ref (s2.heap.objs.size + 1)], ks.zip ws⟩ (Value.ref (s2.heap.objs.size + 1) :: g ws) _ _ (E σ) (hr.make C [] (ks.zip ws))
    (I3.env0.make C [] (ks.zip ws)) (hb.to _ _ ws I3.kIn (rz.length.symm.trans l2)) r2 hq) fun r s' hq' => ?_))
  cases r with
  | error e => exact hx σ pins _ _ e s' I3 hq'
  | ok fl =>
    cases fl with
    | ret u =>
      obtain ⟨v, H', I4, rv, ev, q3⟩ := I3.after hq'
      subst ev
      exact ⟨rv, ⟨V.ref (s2.heap.objs.size + 1), H', I4, rfl, q3⟩⟩
    | next => exact False.elim hq'
    | brk => exact False.elim hq'
    | cont => exact False.elim hq'
end
end Pk

/-! ## Own exceptions: their facts in one answer; isinstance of a kept one; lists of the same things -/
namespace PySem.W
open PySem PySem.Spec PySem.Calls PyProof.Rows
section
variable {prog : Program} {w : World} {A : Around} {E : Value → Shared → Prop} {s : Shared} {K : Frag} {x D : Addr} {ox od : Obj}
theorem pk_classE {Q : Option Value → Shared → Prop} (hga : findIn K (.ref D) "__getattribute__" = some (some (.builtin "BaseException.__getattribute__"))) (hgt : findIn K (.ref D) "__getattr__" = some none) (hsub : subIn K (.ref D) (.type "BaseException") = some true)
    (hdct : hasDictIn K D = true) (ha : findIn K (.ref D) "__class__" = some (some (.builtin "object.__class__")))
    (hn : specialIn K (.builtin "object.__class__") "__get__" = some (some (.builtin "getset_descriptor.__get__"))) (htk : takesIn K (.builtin "object.__class__") = some true) (hm : mroIn K D (.type "object") = some true)
    (X : K.In s.heap) (I : InstAt s.heap x ox D (some od)) (h : Q (some (.ref D)) { s with toks := s.toks + 1 }) : wpAny (model prog w) A (getAttr? (.ref x) "__class__") Q E s := by
  have hf : findObj K D (some od) "__class__" = some (.bind (.builtin "getset_descriptor.__get__") (.builtin "object.__class__")) := findObj_data (by obtain ⟨cd, hc, _⟩ := any_some hdct; rw [hc]; rfl) ha hn htk
  obtain ⟨hp, g, d, t, os⟩ := s
  have L0 := I.type (M := model prog w)
  have L1 := looks_findIn (M := model prog w) X hga
  have L2 := looks_findIn (M := model prog w) X hgt
  have L3 := looks_find (M := model prog w) X I hf
  have sub : Looks (model prog w) hp (isInstance (.ref x) (.type "BaseException")) true := L0.andThen (looks_subIn X hsub)
  have hx0 : (false && onTheHeap (Value.builtin "BaseException.__getattribute__")) = false := rfl
  have hx2 : (Value.builtin "BaseException.__getattribute__" == Value.builtin "object.__getattribute__") = false := by decide +kernel
  have hx1 : (onTheHeap (Value.ref D) && Value.builtin "BaseException.__getattribute__" == Value.builtin "object.__getattribute__") = false := by rw [hx2]; rfl
  unfold getAttr? getAttrBy? getAttrBy
  refine wpAny_bind (wpAny_mkText (wpAny_bind (wpAny_attempt (wpAny_holding (wpAny_bind (L0.at (wpAny_bind (L1.at ?_))))))))
  show wpAny _ _ (if (onTheHeap (Value.ref D) && Value.builtin "BaseException.__getattribute__" == Value.builtin "object.__getattribute__") = true then _ else _) _ _ _
  rw [hx1, if_neg Bool.false_ne_true]
  unfold getAttrByItsOwn hookBefore
  refine wpAny_bind ?_
  rw [if_pos (show onTheHeap (Value.ref D) = true from rfl)]
  refine L2.at ?_
  refine wpAny_bind (wpAny_attempt (wpAny_holding ?_))
  unfold callGetattribute
  rw [hx0, if_neg Bool.false_ne_true]
  unfold boundAndCalled
  rw [PySem.F.excAttr_ValueError.ga.bind (.ref x)]
  refine wpAny_bind (wpAny_pure ?_)
  show wpAny _ _ (call (.builtin "BaseException.__getattribute__") [.ref x, .str "__class__" t]) _ _ _
  refine wpAny_call (codeAny_call_builtin PySem.F.excAttr_ValueError.ga.plain PySem.F.entry_bexc_ga ?_)
  refine @check_slot (model prog w) _ _ ⟨hp, g, d, t + 1, os⟩ "BaseException.__getattribute__" "BaseException" "__getattribute__" (.ref x) [.str "__class__" t] [] _ (by decide +kernel) (by decide +kernel) sub (PySem.F.args_bexc_ga (.ref x) (.str "__class__" t)) ?_
  unfold Builtin.«object.__getattribute__»
  refine wpAny_bind (wpAny_of_eq (a := ((Value.ref x : Value), [Value.str "__class__" t])) (by first | rfl | (simp only [slotArgs]; rfl)) ?_)
  refine wpAny_bind (wpAny_pure (wpAny_bind (L0.at (wpAny_bind (L3.at ?_)))))
  show wpAny _ _ (holding [Value.builtin "object.__class__"] (call (.builtin "getset_descriptor.__get__") [.builtin "object.__class__", .ref x, .ref D]) >>= ret) _ _ _
  refine wpAny_bind (wpAny_holding (wpAny_call (class_get (s := ⟨hp, g, d, t + 1, os⟩) (ox := ox) (od := some od) X I hm ?_)))
  refine wpAny_pure ?_
  show wpAny _ _ (handedOut (.ref D)) _ _ _
  rw [handedOut_of (v := .ref D) rfl]
  first
    | exact wpAny_pure (wpAny_pure h)
    | exact wpAny_pure h
    | exact wpAny_pure (wpAny_bind (wpAny_pure (wpAny_pure h)))
theorem pk_kitxE (hga : findIn K (.ref D) "__getattribute__" = some (some (.builtin "BaseException.__getattribute__"))) (hgt : findIn K (.ref D) "__getattr__" = some none) (hsub : subIn K (.ref D) (.type "BaseException") = some true) (hdct : hasDictIn K D = true) (ha : findIn K (.ref D) "__class__" = some (some (.builtin "object.__class__")))
    (hn : specialIn K (.builtin "object.__class__") "__get__" = some (some (.builtin "getset_descriptor.__get__"))) (htk : takesIn K (.builtin "object.__class__") = some true) (hm : mroIn K D (.type "object") = some true) :
    KitX K (.ref x) (.ref D) (fun h => InstAt h x ox D (some od)) where
  ty := fun _ _ _ I => I.type
  it := fun _ _ X _ => by
    obtain ⟨cdD, hcD, _⟩ := any_some hdct
    unfold clsIn at hcD
    split at hcD
    · rename_i c' d' cd' sl' ho
      intro A' Q' E' s' k q
      unfold isType loadHead
      exact wpAny_bind (wpAny_loadPart (k _ _ (X _ _ ho)) (wpAny_pure q))
    · cases hcD
  ne := fun h tp dd its n sl X htp => by
    obtain ⟨cdD, hcD, _⟩ := any_some hdct
    refine Bool.eq_false_iff.mpr fun q => ?_
    have e : D = tp := Value.ref.inj (beq_iff_eq.mp q)
    subst e
    unfold clsIn at hcD
    split at hcD
    · rename_i c' d' cd' sl' ho
      have z := (X _ _ ho).symm.trans htp
      cases z
    · cases hcD
  ca := fun X I k => pk_classE hga hgt hsub hdct ha hn htk hm X I k
end
end PySem.W
namespace Pk
open PySem PySem.Spec PyProof.Rows L2
/-- the class object, as OexC asks it -/
def oexB (K : PySem.W.Frag) (C : Addr) : Bool := match K.lookup C with
  | some ⟨.type "type", _, .cls cd, sl⟩ => (match cd.mro, sl.toList with
    | .ref C' :: bm, [_, _, _, _, some (.builtin n), _] => C' == C && n == "ValueError.__new__" && cd.hasDict && !cd.hasDel && PySem.HandSPX.refsVE bm
    | _, _ => false)
  | _ => false
theorem oexB_ok {K : PySem.W.Frag} {C : Addr} (q : oexB K C = true) :
    ∃ nm qn N bs bm sn sub ab col dd k0 k1 k2 k3 k5, K.lookup C = some (excClassObj nm qn C N bs bm true sn sub ab col dd k0 k1 k2 k3 k5 "ValueError.__new__") ∧ PySem.HandSPX.refsVE bm = true := by
  unfold oexB at q
  split at q
  · rename_i dd cd sl ho
    split at q
    · rename_i C' bm k0 k1 k2 k3 n k5 hm hs
      simp only [Bool.and_eq_true, beq_iff_eq, Bool.not_eq_true'] at q
      obtain ⟨⟨⟨⟨rfl, rfl⟩, hd⟩, hdel⟩, hr⟩ := q
      obtain ⟨nm, bs, mro, ns, qn, hd', sn, sub, ab, col, del⟩ := cd
      dsimp only at hm hdel hd
      subst hm hdel hd
      have hsl : sl = #[k0, k1, k2, k3, some (.builtin "ValueError.__new__"), k5] := by
        obtain ⟨l⟩ := sl
        simp only at hs
        rw [hs]
      subst hsl
      exact ⟨nm, qn, ns, bs, bm, sn, sub, ab, col, dd, k0, k1, k2, k3, k5, ho, hr⟩
    · cases q
  · cases q
/-- a raised own exception class -/
structure ExA (K : PySem.W.Frag) (C : Addr) : Prop where
  o : OexC K C
  x : XfC K C
  e : ExcC K C
def exaB (K : PySem.W.Frag) (C : Addr) : Bool := oexB K C && (decide (PySem.W.findIn K (.ref C) "__setattr__" = some (some (.builtin "object.__setattr__"))) && (decide (PySem.W.typeIn K (.ref C) = some (.type "type")) && (PySem.W.keepIn K (.ref C) && (xfB K C &&
  (decide (PySem.W.findIn K (.ref C) "__class__" = some (some (.builtin "object.__class__"))) && (decide (PySem.W.specialIn K (.builtin "object.__class__") "__get__" = some (some (.builtin "getset_descriptor.__get__"))) &&
  (decide (PySem.W.takesIn K (.builtin "object.__class__") = some true) && decide (PySem.W.mroIn K C (.type "object") = some true))))))))
theorem exaB_ok {K : PySem.W.Frag} {C : Addr} (h : exaB K C = true) : ExA K C := by
  obtain ⟨h1, h⟩ := Bool.and_eq_true_iff.mp h
  obtain ⟨h2, h⟩ := Bool.and_eq_true_iff.mp h
  obtain ⟨h3, h⟩ := Bool.and_eq_true_iff.mp h
  obtain ⟨h4, h⟩ := Bool.and_eq_true_iff.mp h
  obtain ⟨h5, h⟩ := Bool.and_eq_true_iff.mp h
  obtain ⟨h6, h⟩ := Bool.and_eq_true_iff.mp h
  obtain ⟨h7, h⟩ := Bool.and_eq_true_iff.mp h
  obtain ⟨h8, h9⟩ := Bool.and_eq_true_iff.mp h
  have x := xfB_ok h5
  exact ⟨⟨oexB_ok h1, of_decide_eq_true h2, x.exC, of_decide_eq_true h3, h4⟩, x, ⟨x.ga, x.gg, x.exC, x.hdC, of_decide_eq_true h6, of_decide_eq_true h7, of_decide_eq_true h8, of_decide_eq_true h9⟩⟩
/-- a class that a clause or isinstance names -/
structure NmC (K : PySem.W.Frag) (C : Addr) : Prop where
  be : PySem.W.subIn K (.ref C) (.type "BaseException") = some true
  hd : PySem.W.hasDictIn K C = true
  ty : PySem.W.typeIn K (.ref C) = some (.type "type")
  se : PySem.W.subIn K (.ref C) (.ref C) = some true
def nmB (K : PySem.W.Frag) (C : Addr) : Bool := decide (PySem.W.subIn K (.ref C) (.type "BaseException") = some true) && (PySem.W.hasDictIn K C && (decide (PySem.W.typeIn K (.ref C) = some (.type "type")) && decide (PySem.W.subIn K (.ref C) (.ref C) = some true)))
theorem nmB_ok {K : PySem.W.Frag} {C : Addr} (h : nmB K C = true) : NmC K C := by
  obtain ⟨h1, h⟩ := Bool.and_eq_true_iff.mp h
  obtain ⟨h2, h⟩ := Bool.and_eq_true_iff.mp h
  obtain ⟨h3, h4⟩ := Bool.and_eq_true_iff.mp h
  exact ⟨of_decide_eq_true h1, h2, of_decide_eq_true h3, of_decide_eq_true h4⟩
theorem exm_sub {K : PySem.W.Frag} {C : Addr} {t : Value} {b : Bool} (N : NmC K C) (h : PySem.W.subIn K t (.ref C) = some b) : PySem.W.exmOne K t (.ref C) = some b := PySem.W.exm_ref N.be N.hd N.ty h
theorem exm_any3 {K : PySem.W.Frag} {t c1 c2 c3 : Value} {b1 b2 b3 : Bool} (h1 : PySem.W.exmOne K t c1 = some b1) (h2 : PySem.W.exmOne K t c2 = some b2) (h3 : PySem.W.exmOne K t c3 = some b3) : PySem.W.exmAny K t [c1, c2, c3] = some (b1 || (b2 || (b3 || false))) := by
  unfold PySem.W.exmAny PySem.W.exmAny PySem.W.exmAny PySem.W.exmAny
  rw [h1, h2, h3]
theorem kit_sub {K : PySem.W.Frag} {C D : Addr} {b : Bool} (N : NmC K C) (h : PySem.W.subIn K (.ref D) (.ref C) = some b) : PySem.W.kitOne K (.ref D) (.ref C) = some b := by
  unfold PySem.W.kitOne
  by_cases e : D = C
  · subst e
    rw [if_pos (by simp)]
    rw [N.se] at h
    exact h
  · rw [if_neg (by simp [e])]
    obtain ⟨cd, hc, _⟩ := PySem.W.any_some N.hd
    have e2 : ((PySem.W.clsIn K C).isSome && PySem.W.typeIn K (.ref C) == some (.type "type")) = true := by rw [hc, N.ty] <;> rfl
    show (if ((PySem.W.clsIn K C).isSome && PySem.W.typeIn K (.ref C) == some (.type "type")) = true then PySem.W.subIn K (.ref D) (.ref C) else none) = some b
    rw [if_pos e2]
    exact h
/-- isinstance(e, C), e a kept exception -/
def rIsEV (K : PySem.W.Frag) : List V → Hp → VK → Prop := fun xs H Q => ∃ (a D dd : Addr) (fs : List (Str × V)) (c : V) (cv : Value) (b : Bool), xs = [.ref a, c] ∧ ExcC K D ∧ H a = some (ExK (.ref D) (some dd) a) ∧ H dd = some (.xd fs) ∧ (∀ u, RelV c u → u = cv) ∧ PySem.W.kitOne K (.ref D) cv = some b ∧ Q (.bl b) H
theorem call_isEV {X : Cx} : CallR X (.builtin "isinstance") (rIsEV X.K) := by
  intro pins s σ H xs us Q I r h
  obtain ⟨a, D, dd, fs, c, cv, b, rfl, C, hx, hd, hcv, e, q⟩ := h
  obtain ⟨u1, u2, rfl, r1, r2⟩ := vals2 r
  obtain rfl : u1 = Value.ref a := r1
  have ec := hcv _ r2
  subst ec
  obtain ⟨oe, vs, there, hz, hf⟩ := exK_at I.hok hx
  obtain ⟨mA, hns, _⟩ : ObjOk X.prog X.w H s.heap dd (.xd fs) := I.hok dd _ hd
  obtain ⟨od, ho, _⟩ := lookIn_ns hns
  have J : PySem.W.InstAt s.heap a oe D (some od) := ⟨there, hz.1, by unfold PySem.W.notCls; rw [hf] <;> rfl, by rw [hz.2]; exact ho⟩
  exact PySem.W.kia_one (PySem.W.pk_kitxE C.hg C.hk C.hs C.hd C.ha C.hn C.ht C.hm) I.kIn J e (fun z => nomatch z) fun tk => ⟨.bl b, H, I.kept (t' := tk) fun _ _ z => z, rfl, q⟩
/-- lists of the same things: each pair one plain value, or one object -/
def SameV (x y : V) : Prop := x = y ∧ (flatB x = true ∨ ∃ a, x = .ref a)
def rNeSm (K : PySem.W.Frag) : R2 := fun x y H Q => ∃ a b xs, x = .ref a ∧ y = .ref b ∧ SqL K H a xs ∧ SqL K H b xs ∧ (∀ v ∈ xs, flatB v = true ∨ ∃ p, v = .ref p) ∧ Q (.bl false) H
theorem sm_run {A : Around} {s : Shared} : ∀ {xs : List V} {us ws : List Value}, (∀ v ∈ xs, flatB v = true ∨ ∃ p, v = .ref p) → Vals xs us → Vals xs ws → ∀ j (h1 : j < us.length) (h2 : j < ws.length), SeqAt.EqAt A s us[j] ws[j] true
  | [], _, _, _, r1, _, j, h1, _ => by
    cases r1
    exact absurd h1 (Nat.not_lt_zero j)
  | x :: xs, _, _, hx, .cons a1 b1, .cons a2 b2, j, h1, h2 => by
    cases j with
    | zero =>
      rcases hx x List.mem_cons_self with f | ⟨p, rfl⟩
      · exact eqAt_same a1 a2 f
      · cases (show _ = Value.ref p from a1)
        cases (show _ = Value.ref p from a2)
        exact SeqAt.EqAt.same _
    | succ j => exact sm_run (fun v hv => hx v (List.mem_cons_of_mem _ hv)) b1 b2 j (Nat.lt_of_succ_lt_succ h1) (Nat.lt_of_succ_lt_succ h2)
theorem op_neSm {X : Cx} (hu : X.A.units + 64 < cLine) : OpR X (compareOp .NotEq) (rNeSm X.K) := by
  intro pins s σ H x y v u Q I rx ry h
  obtain ⟨a, b, xs, rfl, rfl, ha, hb, hp, q⟩ := h
  cases (show v = Value.ref a from rx)
  cases (show u = Value.ref b from ry)
  obtain ⟨us, r1, p1, _⟩ := I.list ha
  obtain ⟨ws, r2, p2, _⟩ := I.list hb
  have hsz : us.toArray.size = ws.toArray.size := by
    rw [List.size_toArray, List.size_toArray, ← r1.length, ← r2.length]
  refine SeqAt.RcNeAt.lists (e := fun _ => true) p1.isList p2.isList hsz (by omega) (fun j h1 h2 => ?_) X.prog X.w _ _ ?_
  · have k := sm_run (A := X.A.in1) (s := s) hp r1 r2 j (by simpa using h1) (by simpa using h2)
    simpa using k
  · rw [show ((List.range us.toArray.size).all fun _ => true) = true from List.all_eq_true.mpr fun _ _ => rfl]
    exact ⟨.bl false, H, I, rfl, q⟩
end Pk

/-! ## More rules: a classmethod without arguments, texts times numbers, repr of a list with an empty dict, find -/
namespace Pk
open PySem PySem.Spec PyProof.Rows L2 TL SX
section
variable {X : Cx} {CX : CXT} {k : Nat} {E : L2.St → XK} {sp : Sp}
/-- C.m(), m a classmethod -/
theorem pe_cmeth0S {C p g : Addr} {mc : Value} {o : Expr} {m : Str} {pos apos : Pos} {ta : TE} {pl : Sem Bool} (he : PE X o ta) (r : ClX.CRead X.K C mc) (c : ClX.CMet X.K C mc m p g) (F : FnR X.prog X.w X.K X.mg X.base CX k g sp) (hr : Room k X.A)
    (hx : ∀ σ, PassesAt CX X σ (E σ))
    (ht : eval (.Call (.Attribute o m apos) [] [] pos) X.env = (do
      let ov ← eval o X.env
      standAt apos.atName
      let (f, first) ← holding [ov] (getMethod ov m pl)
      callWith pos f first (backTo pos (starEach [] X.env)) (backToKw pos (keywordEach [] X.env))) := by rfl) :
    PE X (.Call (.Attribute o m apos) [] [] pos) (tCMethS C sp E ta tNil) := by
  refine ⟨fun pins s σ H Q I h => ?_⟩
  refine PySem.W.methodCall_KW (pl := pl) (thn (he.run pins s σ H _ I h) fun u s1 ⟨x, H1, I1, rx, ex, q⟩ => ?_) ht
  subst ex
  obtain rfl : u = Value.ref C := rx
  refine ClX.getmethcm_ok I1 r c fun s2 I2 => ?_
  refine PySem.W.callWith_M0 (K := X.K) (self := Value.ref C) (g := g) ⟨ClX.pin_at I2, I2.kIn⟩ c.fi ?_
  have z := wpAny_call (PySem.W.method_call (ClX.pin_at I2) (run_fnRS (us := [Value.ref C]) (vs := [V.ref C]) F hr (hx σ) I2 (.cons rfl .nil) q))
  exact thn z fun _ _ y => ClX.unpinE y
end
/-! ### a text times a number -/
theorem fold_reps (a : Array Nat) : ∀ (n : Nat) (b : Array Nat), ((List.replicate n a).foldl (· ++ ·) b).toList = b.toList ++ (List.replicate n a.toList).flatten
  | 0, b => by simp
  | n + 1, b => by
    rw [List.replicate_succ, List.foldl_cons, fold_reps a n, List.replicate_succ, List.flatten_cons, Array.toList_append, List.append_assoc]
theorem len_reps (l : List Nat) : ∀ n, (List.replicate n l).flatten.length = l.length * n
  | 0 => by simp
  | n + 1 => by
    rw [List.replicate_succ, List.flatten_cons, List.length_append, len_reps l n, Nat.mul_succ]
    omega
def rMulS : R2 := fun x y H Q => ∃ (l : List Nat) (n : Nat), x = .str (S l) ∧ y = .int (n : Int) ∧ l ≠ [] ∧ 2 ≤ n ∧ l.length * n ≤ 100000 ∧ Q (.str (S (List.replicate n l).flatten)) H
theorem op_mulS {X : Cx} : OpR X (binaryOp .Mult) rMulS := by
  intro pins s σ H x y v u Q I rx ry h
  obtain ⟨l, n, rfl, rfl, hne, h2, hz, q⟩ := h
  obtain ⟨t, rfl⟩ := rx
  obtain ⟨t', rfl⟩ := ry
  have hl : (S l).length = l.length := S_len l
  have hn : n ≤ 100000 := Nat.le_trans (Nat.le_mul_of_pos_left n (List.length_pos_iff.mpr hne)) hz
  have h0 : ((n : Int) == 1 || (S l).length == 0) = false := by
    have h1 : l.length ≠ 0 := fun e => hne (List.length_eq_zero_iff.mp e)
    rw [hl]
    rw [Bool.or_eq_false_iff]
    exact ⟨beq_eq_false_iff_ne.mpr (by omega), beq_eq_false_iff_ne.mpr h1⟩
  have et : (⟨(List.replicate ((n : Int)).toNat (S l).cps).foldl (· ++ ·) #[]⟩ : Str) = S (List.replicate n l).flatten := by
    refine ext_tl ?_
    show ((List.replicate ((n : Int)).toNat (S l).cps).foldl (· ++ ·) #[]).toList = (S (List.replicate n l).flatten).cps.toList
    rw [fold_reps, Int.toNat_natCast]
    show [] ++ (List.replicate n (S l).cps.toList).flatten = _
    rw [List.nil_append]
  have hz2 : l.length * n ≤ sizeLine := by
    rw [sizeLine_eq]
    omega
  refine PySem.P.mul_str (x := S l) (n := (n : Int)) ?_ ?_ ?_ ?_
  · rw [Bool.or_eq_false_iff]
    exact ⟨decide_eq_false (by omega), decide_eq_false (by omega)⟩
  · intro _ _
    rw [hl]
    have h1 : l.length ≤ 100000 := Nat.le_trans (Nat.le_mul_of_pos_right _ (by omega)) hz
    have : (2 ^ 63 - 1 : Int) / (n : Int) ≥ 100000 := by
      refine (Int.le_ediv_iff_mul_le (by omega)).mpr ?_
      omega
    omega
  · intro _ _
    rw [hl, Int.toNat_natCast]
    show decide (l.length * n > sizeLine) = false
    exact decide_eq_false (by omega)
  · rw [if_neg (by omega), if_neg (by rw [h0]; exact Bool.false_ne_true), et]
    have hlen : (S (List.replicate n l).flatten).length ≤ sizeLine := by
      rw [S_len, len_reps]
      exact hz2
    exact ⟨hlen, ⟨.str _, H, I.tok _, ⟨_, rfl⟩, q⟩⟩
/-! ### repr of a list of a text and an empty dict -/
def rReprD : List V → Hp → VK → Prop := fun xs H Q => ∃ (a dd : Addr), xs = [.ref a] ∧ a ≠ sysModules ∧ H a = some (.lst [.str "version", .ref dd]) ∧ H dd = some (.dK []) ∧ Q (.str (PyData.shown (.list [.str "version", .dict []]))) H
theorem call_reprD {X : Cx} (hgu : X.A.guards = some []) (hu : X.A.units + 64 < cLine) : CallR X (.builtin "repr") rReprD := by
  intro pins s σ H xs us Q I r h
  obtain ⟨a, dd, rfl, na, ha, hd, q⟩ := h
  obtain ⟨u, rfl, rx⟩ := vals1 r
  obtain rfl : u = Value.ref a := rx
  obtain ⟨us, rv, ⟨o, n, ho, hc, _, hdt⟩, _⟩ := I.list (.inl (.inl ha))
  obtain ⟨hz, hS, vs, r, m⟩ : ([] : List (Key × V)).length ≤ sizeLine ∧ (dd == sysModules) = false ∧ ∃ vs, KV [] vs ∧ s.heap.DictOf (mixKind X.prog X.w) dd vs := I.hok dd _ hd
  cases r
  obtain ⟨o2, es, ep, ho2, hx, hd2, _, hp, _⟩ := m
  have he : es.toList = [] := by
    cases h : es.toList with
    | nil => rfl
    | cons e r =>
      rw [h] at hp
      cases hp
  cases rv with
  | cons r1 rr =>
    cases rr with
    | cons r2 rr =>
      cases rr
      obtain ⟨tk, rfl⟩ := r1
      have r2' : _ = Value.ref dd := r2
      subst r2'
      have rd : Reads s.heap (.ref dd) (.dict []) _ := Reads.dict ho2 hx.1 hd2 (by rw [he]; exact ReadsAll.nil) (by rw [he]; exact ReadsAll.nil)
      have rl := Reads.list ho hc hdt (ReadsAll.cons (Reads.str _ tk) (ReadsAll.cons rd ReadsAll.nil))
      refine repr_of_reads' (h₀ := s.heap) rl (by decide +kernel) (fun _ => ?_) hgu (by show X.A.units + (2 + 1) < cLine; omega) (fun _ _ e => e) (fun h' v tk hk => ⟨.str _, H, I.kept hk, ⟨v, rfl⟩, q⟩) (by decide +kernel)
      have nd : dd ≠ sysModules := by
        rintro rfl
        simp at hS
      simp [Ne.symm na, Ne.symm nd]
/-- either rule -/
theorem callR_or {X : Cx} {f : Value} {r1 r2 : List V → Hp → VK → Prop} (h1 : CallR X f r1) (h2 : CallR X f r2) : CallR X f (fun xs H Q => r1 xs H Q ∨ r2 xs H Q) := by
  intro pins s σ H xs us Q I r h
  rcases h with h | h
  · exact h1 pins s σ H xs us Q I r h
  · exact h2 pins s σ H xs us Q I r h
/-- a list whose place is none of the first ones -/
def tLstN (t : TA) : TE := fun σ H Q => t σ H fun xs H1 => xs.length ≤ sizeLine ∧ ∀ p, H1 p = none → p ≠ sysModules → Q (.ref p) (upd H1 p (.lst xs))
theorem pe_lstN {X : Cx} {es : List Expr} {pos : Pos} {t : TA} (h : PA X es t) : PE X (.List es pos) (tLstN t) := by
  refine ⟨fun pins s σ H Q I hq => ?_⟩
  refine wpAny_List_spliced (thn (h.run pos pins s σ H _ I hq) fun us s1 ⟨xs, H1, I1, r, z, q⟩ => ⟨by rw [← r.length]; exact z, ?_⟩)
  have hf : H1 s1.heap.objs.size = none := I1.hok.fresh (Nat.le_refl _)
  have hb : s1.heap.objs.size ≠ sysModules := by
    have lt : mainGlobals < s1.heap.objs.size := by
      obtain ⟨o, es, ep, e, _⟩ := I1.ok.mod.glob
      exact Heap.lt_size (I1.bk _ _ e)
    intro e
    rw [e] at lt
    exact absurd lt (by decide)
  refine ⟨.ref s1.heap.objs.size, upd H1 s1.heap.objs.size (.lst xs), I1.laid (t' := s1.toks) (fun b u e => Heap.get?_push_of_some _ e) (Nat.le_refl _) ?_, rfl, q _ hf hb⟩
  exact ⟨z, us, 0, r, Heap.get?_push_size _ rfl⟩
/-! ### find -/
theorem find_par (x y : Str) (hy : tl y ≠ []) : (∃ p q, par (tl y) [] (tl x) = some (p, q) ∧ Txt.find x y = (p.length : Int) ∧ tl x = p ++ (tl y ++ q)) ∨ (par (tl y) [] (tl x) = none ∧ Txt.find x y = -1) := by
  have hl := len_tl y
  have hx := len_tl x
  unfold Txt.find
  rcases StrLaws.occ_head x y 1 (Nat.le_refl 1) with ⟨e, hn⟩ | ⟨i, r, e, hi, hn⟩
  · have run := par_run (tl y) (tl x) (tl x).length 0 [] (by omega) (fun k _ _ => no_at hy (hn k))
    rw [List.drop_zero, Nat.zero_add, List.drop_length] at run
    rw [e, run]
    exact .inr ⟨rfl, rfl⟩
  · have hb : i + y.length ≤ x.length := hi.1
    have run := par_run (tl y) (tl x) i 0 [] (by omega) (fun k _ k2 => no_at hy (hn k (by omega)))
    rw [List.drop_zero, Nat.zero_add, List.nil_append, par_at hy ((at_iff hy i).mp hi)] at run
    rw [e, run]
    refine .inl ⟨_, _, rfl, ?_, ?_⟩
    · show (i : Int) = _
      rw [List.length_take]
      omega
    · have hp := (at_iff hy i).mp hi
      have e3 : ((tl x).drop i).take (tl y).length = tl y := by
        unfold pre at hp
        simpa using hp
      conv => lhs; rw [← List.take_append_drop i (tl x), ← List.take_append_drop (tl y).length ((tl x).drop i), e3, List.drop_drop]
/-! ### a list compared with the empty one -/
def rEqNil (K : PySem.W.Frag) : R2 := fun x y H Q => ∃ a b xs, x = .ref a ∧ y = .ref b ∧ SqL K H a xs ∧ SqL K H b [] ∧ Q (.bl xs.isEmpty) H
def rNeNil (K : PySem.W.Frag) : R2 := fun x y H Q => ∃ a b xs, x = .ref a ∧ y = .ref b ∧ SqL K H a xs ∧ SqL K H b [] ∧ Q (.bl (!xs.isEmpty)) H
theorem op_neNil {X : Cx} (hu : X.A.units + 64 < cLine) : OpR X (compareOp .NotEq) (rNeNil X.K) := by
  intro pins s σ H x y v u Q I rx ry h
  obtain ⟨a, b, xs, rfl, rfl, ha, hb, q⟩ := h
  cases (show v = Value.ref a from rx)
  cases (show u = Value.ref b from ry)
  obtain ⟨us, r1, p1, _⟩ := I.list ha
  obtain ⟨ws, r2, p2, _⟩ := I.list hb
  cases r2
  cases xs with
  | nil =>
    cases r1
    refine SeqAt.RcNeAt.lists (e := fun _ => true) p1.isList p2.isList rfl (by omega) (fun j h1 _ => absurd h1 (by simp)) X.prog X.w _ _ ?_
    exact ⟨.bl false, H, I, rfl, q⟩
  | cons x xs =>
    cases r1 with
    | cons ra rb => exact SeqAt.RcNeAt.lists_lengths p1.isList p2.isList (by simp [bne]) (by omega) X.prog X.w _ _ ⟨.bl true, H, I, rfl, q⟩
theorem op_eqNil {X : Cx} (hu : X.A.units + 64 < cLine) : OpR X (compareOp .Eq) (rEqNil X.K) := by
  intro pins s σ H x y v u Q I rx ry h
  obtain ⟨a, b, xs, rfl, rfl, ha, hb, q⟩ := h
  cases (show v = Value.ref a from rx)
  cases (show u = Value.ref b from ry)
  obtain ⟨us, r1, p1, _⟩ := I.list ha
  obtain ⟨ws, r2, p2, _⟩ := I.list hb
  cases r2
  cases xs with
  | nil =>
    cases r1
    refine SeqAt.RcAt.lists (e := fun _ => true) p1.isList p2.isList rfl (by omega) (fun j h1 _ => absurd h1 (by simp)) X.prog X.w _ _ ?_
    exact ⟨.bl true, H, I, rfl, q⟩
  | cons x xs =>
    cases r1 with
    | cons ra rb => exact SeqAt.RcAt.lists_lengths p1.isList p2.isList (by simp [bne]) (by omega) X.prog X.w _ _ ⟨.bl false, H, I, rfl, q⟩
end Pk

/-! ## != of an instance with an own ==, by the default __ne__ -/
namespace Pk
open PySem PySem.Spec PyProof.Rows L2 PySem.SeqAt
section
variable {M : Model} {prog : Program} {w : World} {A : Around} {E : Value → Shared → Prop} {s : Shared} {K : PySem.W.Frag} {x C L g : Addr} {ox : Obj} {od : Option Obj} {b : Value} {h₀ : Heap} {m : Str → Option Value}
theorem ifBound_objNe {args : List Value} {Q : Option Value → Shared → Prop} (X : K.In s.heap) (I : PySem.W.InstAt s.heap x ox C od) (hs : PySem.W.findIn K (.ref C) "__ne__" = some (some (.builtin "object.__ne__")))
    (h : wpAny M A (call (.builtin "object.__ne__") (.ref x :: args)) (fun v => Q (some v)) E s) : wpAny M A (callSpecialIfBound? (.ref x) "__ne__" args) Q E s := by
  simp only [callSpecialIfBound?, bindSpecialIfBound?]
  refine wpAny_holding (wpAny_bind (wpAny_bind (wpAny_bind (I.type.here ((PySem.W.looks_findIn X hs).here ?_)))))
  refine wpAny_bind (wpAny_askSetting (wpAny_ite ?_))
  have fin : wpAny M A (call (.builtin "object.__ne__") ([.ref x] ++ args) >>= fun v => pure (some v)) Q E s := wpAny_bind (wpAny_mono h (fun v s' h' => wpAny_pure h') fun _ _ h' => h')
  split
  · exact wpAny_bind (wpAny_of_eq (F.cmp_object.ne.bind _) (wpAny_pure (by exact fin)))
  · exact wpAny_tryCatch (wpAny_bind (wpAny_of_eq (F.cmp_object.ne.bind _) (wpAny_pure (by exact fin))))
theorem call_objNe {Q : Value → Shared → Prop} (hu : A.in1.units < cLine) (X : K.In s.heap) (I : PySem.W.InstAt s.heap x ox C od) (hm : PySem.W.mroIn K C (.type "object") = some true)
    (hs : PySem.W.findIn K (.ref C) "__eq__" = some (some (.ref g))) (hf : PySem.W.isFn K (.ref g) = true)
    (h : wpAny (model prog w) A.in1 (call (.ref g) [.ref x, b]) (fun v s' => ∃ c, v = .bool c ∧ Q (.bool (!c)) s') E s) :
    wpAny (model prog w) A (call (.builtin "object.__ne__") [.ref x, b]) Q E s := by
  refine wpAny_call (codeAny_call_builtin F.cmp_object.ne.plain F.cmpEntry_ne (PySem.W.check_slot F.cmpKind_ne F.cmpSplit_ne (I.type.andThen (PySem.W.looks_mroIn X hm)) (F.cmpArgs_ne _ _) ?_))
  unfold Builtin.«object.__ne__»
  refine wpAny_bind (wpAny_pure ?_)
  refine wpAny_bind (m := cRoomFor _ _) (wpAny_cRoomFor hu ?_)
  refine wpAny_bind (m := callSpecialIfBound? (.ref x) (Str.ofString "__eq__") _) (PySem.W.ifBound_K X I hs hf (wpAny_mono h (fun r s' hr => ?_) fun _ _ e => e))
  obtain ⟨c, rfl, hq⟩ := hr
  refine wpAny_bind (m := truthy (.bool c)) (wpAny_truthy_bool ?_)
  exact wpAny_pure hq
theorem cmp_ne {Q : Value → Shared → Prop} (hu : A.units < cLine) (hu1 : A.in1.units < cLine) (X : K.In s.heap) (I : PySem.W.InstAt s.heap x ox C od) (hb : PySem.W.Looks (model prog w) s.heap (typeOf b) (.ref C))
    (hn : PySem.W.findIn K (.ref C) "__ne__" = some (some (.builtin "object.__ne__"))) (hm : PySem.W.mroIn K C (.type "object") = some true)
    (hs : PySem.W.findIn K (.ref C) "__eq__" = some (some (.ref g))) (hf : PySem.W.isFn K (.ref g) = true)
    (h : wpAny (model prog w) A.in1 (call (.ref g) [.ref x, b]) (fun v s' => ∃ c, v = .bool c ∧ Q (.bool (!c)) s') E s) : wpAny (model prog w) A (richCompare .NotEq (.ref x) b) Q E s := by
  have one : wpAny (model prog w) A (tryCompare (.ref x) "__ne__" b) (fun r s' => ∃ v, r = some v ∧ Q v s') E s := by
    unfold tryCompare
    refine wpAny_bind (ifBound_objNe X I hn (call_objNe hu1 X I hm hs hf (wpAny_mono h (fun v s' hv => ?_) fun _ _ e => e)))
    obtain ⟨c, rfl, hq⟩ := hv
    exact ⟨c, rfl, wpAny_pure ⟨_, rfl, hq⟩⟩
  unfold richCompare
  simp only [oneThing_ref]
  refine wpAny_holding (wpAny_bind (wpAny_cRoomFor hu ?_))
  rw [cmpInfo_NotEq]
  refine wpAny_bind (I.type.here (wpAny_bind (hb.here ?_)))
  rw [show (Value.ref C != Value.ref C) = false from by simp]
  simp only [Bool.false_eq_true, if_false]
  refine wpAny_bind (wpAny_pure ?_)
  simp only [Bool.false_eq_true, if_false]
  refine wpAny_bind (wpAny_mono one (fun r s' z => ?_) fun _ _ e => e)
  obtain ⟨v, rfl, hq⟩ := z
  exact wpAny_pure hq
end
section
variable {X : Cx} {n : Nat} {C g : Addr} {sp : Sp} {E : XK} {CX : CXT}
/-- x != y, both instances of the class at C, whose == is at g -/
def rNeOwn (C : Addr) (sp : Sp) (E : XK) : R2 := fun x y H Q => ∃ a dx fs b dy gs, x = .ref a ∧ y = .ref b ∧ H a = some (.ins C dx fs) ∧ H b = some (.ins C dy gs) ∧ sp [x, y] H (fun z H' => ∃ c, z = .bl c ∧ Q (.bl (!c)) H') E
theorem op_neOwn (hn : PySem.W.findIn X.K (.ref C) "__ne__" = some (some (.builtin "object.__ne__"))) (hm : PySem.W.mroIn X.K C (.type "object") = some true) (hs : PySem.W.findIn X.K (.ref C) "__eq__" = some (some (.ref g)))
    (hf : PySem.W.isFn X.K (.ref g) = true) (F : FnR X.prog X.w X.K X.mg X.base CX n g sp) (hr : Room (n + 1) X.A) (hx : Passes CX X E) : OpR X (compareOp .NotEq) (rNeOwn C sp E) := by
  intro pins s σ H x y v u Q I rx ry h
  obtain ⟨a, dx, fs, b, dy, gs, rfl, rfl, ha, hb, q⟩ := h
  obtain rfl : v = Value.ref a := rx
  obtain rfl : u = Value.ref b := ry
  obtain ⟨mA, O, _⟩ := ins_get I.hok ha
  obtain ⟨od, J, _⟩ := O.look
  obtain ⟨mB, O', _⟩ := ins_get I.hok hb
  obtain ⟨od', J', _⟩ := O'.look
  have hr1 : Room n X.A.in1 := Room.in1 hr
  refine cmp_ne hr.units0 hr1.units0 I.kIn J J'.type hn hm hs hf (wpAny_mono (wpAny_call (SlX.run_at (us := [.ref a, .ref b]) (ws := [.ref a, .ref b]) F hr1 I.env0.in1 hx I (.cons rfl (.cons rfl .nil)) q)) ?_ (fun _ _ x => x))
  rintro w s' ⟨z', H', I', rz, c, rfl, qz⟩
  obtain rfl : w = Value.bool c := rz
  exact ⟨c, rfl, .bl (!c), H', I', rfl, qz⟩
/-- one rule or another -/
theorem opR_or {f : Value → Value → Sem Value} {r1 r2 : R2} (h1 : OpR X f r1) (h2 : OpR X f r2) : OpR X f (fun x y H Q => r1 x y H Q ∨ r2 x y H Q) := by
  intro pins s σ H x y v u Q I rx ry h
  rcases h with h | h
  · exact h1 pins s σ H x y v u Q I rx ry h
  · exact h2 pins s σ H x y v u Q I rx ry h
end
end Pk

/-! ## Own errors below any built-in family, made by position and by name -/
namespace Pk
open PySem PySem.Spec PyProof.Rows L2 PySem.HandSPX
open Builtin Builtin.ObjectAttr
section
variable {M : Model} {A : Around} {E : Value → Shared → Prop} {h : Heap} {g : Array GenState} {d : Drawn} {t : Nat} {os : OsState}
variable {nm q : Str} {C N : Addr} {bs bm bmB : List Value} {hdct : Bool} {sn : List Str} {sub : List Value} {ab : Bool} {col : Option Bool} {dd : Option Addr} {k0 k1 k2 k3 k5 : Option Value} {B newId initId : String}
theorem er_check (F : ExcBaseFacts B newId initId bmB) (hT : ∀ X : String, bm.contains (.type X) = bmB.contains (.type X)) {rest : List Value} {kw : List (Str × Value)} {Q : Unit → Shared → Prop}
    (hC : h.get? C = some (excClassObj nm q C N bs bm hdct sn sub ab col dd k0 k1 k2 k3 k5 newId)) (hq : Q () ⟨h, g, d, t, os⟩) : wpAny M A (checkBuiltinCall newId ⟨.ref C :: rest, kw⟩) Q E ⟨h, g, d, t, os⟩ := by
  have hcont : (Value.ref C :: bm).contains (.type B) = true := by rw [List.contains_cons, hT, F.hasB, Bool.or_true]
  have hstar := F.noStar
  simp only [checkBuiltinCall, F.newKind, F.newSplit, F.newRow]
  repeat (first | refine wpAny_loadPart_at hC ?_ | (refine wpAny_isSubtype_exc hC ?_; rw [hcont]) | refine wpAny_staticBase_exc hC ?_ | refine wpAny_madeBy_exc hC ?_ | simp only [bne_self_eq_false, Bool.false_eq_true, if_false] | wp_step)
  exact hq
theorem er_check_type {rest : List Value} {kw : List (Str × Value)} {Q : Unit → Shared → Prop} (hC : h.get? C = some (excClassObj nm q C N bs bm hdct sn sub ab col dd k0 k1 k2 k3 k5 newId))
    (hq : Q () ⟨h, g, d, t, os⟩) : wpAny M A (checkBuiltinCall "type.__call__" ⟨.ref C :: rest, kw⟩) Q E ⟨h, g, d, t, os⟩ := by
  have f3 := tc_sub
  have hT : (⟨h, g, d, t, os⟩ : Shared).TypeIs (.ref C) "type" := ⟨_, hC, rfl⟩
  simp only [checkBuiltinCall, tc_kind, tc_split]
  repeat (any_goals (first | assumption | with_reducible refine wpAny_loadPart_at hC ?_ | with_reducible refine wpAny_onRaise ?_ | with_reducible refine wpAny_map ?_ | wp_step))
end
section
variable {prog : Program} {w : World} {A : Around} {E : Value → Shared → Prop} {R : Result → Shared → Prop} {h : Heap} {g : Array GenState} {d : Drawn} {t : Nat} {os : OsState}
variable {nm q : Str} {C N : Addr} {bs bm bmB : List Value} {hdct : Bool} {sn : List Str} {sub : List Value} {ab : Bool} {col : Option Bool} {dd : Option Addr} {k0 k1 k2 k3 k5 : Option Value} {B newId initId : String}
theorem er_new (F : ExcBaseFacts B newId initId bmB) (hT : ∀ X : String, bm.contains (.type X) = bmB.contains (.type X)) {rest : List Value} {kw : List (Str × Value)}
    (hC : h.get? C = some (excClassObj nm q C N bs bm hdct sn sub ab col dd k0 k1 k2 k3 k5 newId))
    (hq : R (.ok (.ret (.ref (h.objs.size + 1)))) ⟨(h.push { cls := .type "tuple", data := .seq rest.toArray }).push
      { cls := .ref C, data := .fields #[.ref h.objs.size, .none, .none, .none, .bool false, .none] }, g, d, t, os⟩) (hrest : rest.length ≤ sizeLine) :
    codeAny (model prog w) A (.builtin newId ⟨.ref C :: rest, kw⟩) R ⟨h, g, d, t, os⟩ := by
  have hends := F.ends
  have hcB : (Value.ref C :: bm).contains (.type B) = true := by rw [List.contains_cons, hT, F.hasB, Bool.or_true]
  have hcA : (Value.ref C :: bm).contains (.type "AttributeError") = false := by rw [List.contains_cons, hT, F.noAttr]; rfl
  have hcN : (Value.ref C :: bm).contains (.type "NameError") = false := by rw [List.contains_cons, hT, F.noName]; rfl
  refine PySem.codeAny_builtinAt F.entry ?_
  unfold Builtin.«BaseException.__new__»
  refine PySem.wpAt_bind ?_
  show PySem.wpAt _ _ _ (stack >>= _) _ _ _
  refine PySem.wpAt_bind (PySem.wpAt_stack fun p below => PySem.wpAt_of_wpAny ?_)
  wp_walk
  refine PySem.wpAt_of_wpAny ?_
  rw [F.owner]
  repeat (first | with_reducible refine wpAny_madeHere_exc F.canon hC ?_ | with_reducible refine wpAny_loadPart_at hC ?_ | (with_reducible refine wpAny_isSubtype_exc hC ?_; first | rw [hcB] | rw [hcA] | rw [hcN]) | wp_step)
  show R _ _
  rw [Heap.size_push]
  exact hq
theorem er_type_call (F : ExcBaseFacts B newId initId bmB) (hT : ∀ X : String, bm.contains (.type X) = bmB.contains (.type X)) {rest : List Value} {kw : List (Str × Value)} {fI : Addr} {Q : Fin → Shared → Prop}
    (hC : h.get? C = some (excClassObj nm q C N bs bm hdct sn sub ab col dd k0 k1 k2 k3 k5 newId))
    (hi : W.Looks (model prog w) h (typeLookup (.ref C) "__init__") (some (.ref fI))) (hb : ∀ self, W.Looks (model prog w) h (bindSpecial (.ref fI) self) (.ref fI, [self])) (hrest : rest.length ≤ sizeLine)
    (hq : codeAny (model prog w) A (.call (.ref fI) ⟨.ref (h.objs.size + 1) :: rest, kw⟩)
      (fun r s' => match r with | .ok (.ret v) => v = .none ∧ Q (.done (.ret (.ref (h.objs.size + 1)))) s' | .ok _ => False | .error e => E e s')
      ⟨(h.push (W.kdv_tup rest)).push (excO C h.objs.size), g, d, t, os⟩) :
    wpAny (model prog w) A (Builtin.«type.__call__» ⟨.ref C :: rest, kw⟩) Q E ⟨h, g, d, t, os⟩ := by
  repeat (first | with_reducible refine wpAny_loadPart_at hC ?_ | with_reducible refine wpAny_madeBy_exc hC ?_ | wp_step)
  refine codeAny_call_builtin_code (Code.quiet_builtin _ F.quiet) (er_check F hT hC ?_)
  refine er_new F hT hC ?_ hrest
  show wpAny _ _ _ _ _ _
  have k : ∀ b o, h.get? b = some o → ((h.push (W.kdv_tup rest)).push (excO C h.objs.size)).get? b = some o := fun b o e => Heap.get?_push_of_some _ (Heap.get?_push_of_some _ e)
  have hC₁ := k _ _ hC
  have hget : ((h.push (W.kdv_tup rest)).push (excO C h.objs.size)).get? (h.objs.size + 1) = some (excO C h.objs.size) := by heap_get
  have hcC : (Value.ref C :: bm).contains (.ref C) = true := by simp
  have i1 := hi.keeps k
  have b1 := (hb (.ref (h.objs.size + 1))).keeps k
  unfold isInstance
  repeat (first | with_reducible refine wpAny_loadPart_at hget ?_ | (with_reducible refine wpAny_isSubtype_exc hC₁ ?_; rw [hcC]) | wp_step)
  show wpAny _ _ (typeLookup (.ref C) _) _ _ _
  refine i1.at ?_
  refine wpAny_holding (wpAny_bind (b1.at ?_))
  refine wpAny_bind (wpAny_call (codeAny_mono hq fun r s' z => ?_))
  rcases r with e | (v | _ | _ | _) <;> first | exact z | exact z.elim | skip
  obtain ⟨rfl, z⟩ := z
  first
    | exact wpAny_pure (wpAny_pure z)
    | (wp_walk; exact z)
theorem er_call (F : ExcBaseFacts B newId initId bmB) (hT : ∀ X : String, bm.contains (.type X) = bmB.contains (.type X)) {rest : List Value} {kw : List (Str × Value)} {fI : Addr}
    (hC : h.get? C = some (excClassObj nm q C N bs bm hdct sn sub ab col dd k0 k1 k2 k3 k5 newId))
    (hi : W.Looks (model prog w) h (typeLookup (.ref C) "__init__") (some (.ref fI))) (hb : ∀ self, W.Looks (model prog w) h (bindSpecial (.ref fI) self) (.ref fI, [self])) (hrest : rest.length ≤ sizeLine)
    (hq : codeAny (model prog w) (A.under (.builtin "type.__call__" ⟨.ref C :: rest, kw⟩)) (.call (.ref fI) ⟨.ref (h.objs.size + 1) :: rest, kw⟩) (W.InitBack (h.objs.size + 1) R)
      ⟨(h.push (W.kdv_tup rest)).push (excO C h.objs.size), g, d, t, os⟩) :
    codeAny (model prog w) A (.call (.ref C) ⟨rest, kw⟩) R ⟨h, g, d, t, os⟩ := by
  have f1 := tc_lookup
  have f2 := tc_bind (.ref C)
  have hTy : (⟨h, g, d, t, os⟩ : Shared).TypeIs (.ref C) "type" := ⟨_, hC, rfl⟩
  refine codeAny_of_tree ?_
  show wpAny _ _ (callAny (.ref C) _) _ _ _
  repeat (any_goals (first | assumption | with_reducible refine wpAny_loadPart_at hC ?_ | wp_step))
  refine ⟨rfl, ?_⟩
  refine codeAny_call_builtin_at (Code.quiet_builtin _ (by decide +kernel)) entry_typeCall (er_check_type hC (er_type_call F hT hC hi hb hrest ?_))
  refine codeAny_mono hq fun r s' z => ?_
  rcases r with e | (v | _ | _ | _) <;> exact z
end
end Pk

/-! ## Own errors below any built-in family: the class, self.f = x, C(x), C(k = x) -/
namespace Pk
open PySem PySem.Spec PyProof.Rows L2 PySem.HandSPX
open Builtin Builtin.ObjectAttr
/-- own classes, then a built-in's mro -/
def refsOf (tl : List Value) : List Value → Bool
  | .ref _ :: r => refsOf tl r
  | l => l == tl
theorem refsOf_ind {tl : List Value} {Pr : List Value → Prop} (h0 : Pr tl) (h1 : ∀ c r, Pr r → Pr (.ref c :: r)) : ∀ l : List Value, refsOf tl l = true → Pr l
  | [], e => by rw [show [] = tl from beq_iff_eq.mp e]; exact h0
  | .ref c :: r, e => h1 c r (refsOf_ind h0 h1 r e)
  | .none :: _, e => by rw [show _ = tl from beq_iff_eq.mp e]; exact h0
  | .ellipsis :: _, e => by rw [show _ = tl from beq_iff_eq.mp e]; exact h0
  | .notImplemented :: _, e => by rw [show _ = tl from beq_iff_eq.mp e]; exact h0
  | .bool _ :: _, e => by rw [show _ = tl from beq_iff_eq.mp e]; exact h0
  | .int _ _ :: _, e => by rw [show _ = tl from beq_iff_eq.mp e]; exact h0
  | .float _ _ :: _, e => by rw [show _ = tl from beq_iff_eq.mp e]; exact h0
  | .str _ _ :: _, e => by rw [show _ = tl from beq_iff_eq.mp e]; exact h0
  | .bytes _ _ :: _, e => by rw [show _ = tl from beq_iff_eq.mp e]; exact h0
  | .type _ :: _, e => by rw [show _ = tl from beq_iff_eq.mp e]; exact h0
  | .builtin _ :: _, e => by rw [show _ = tl from beq_iff_eq.mp e]; exact h0
/-- what is asked of an mro behind the class itself -/
structure MroG (bm bmB : List Value) : Prop where
  has : ∀ X : String, bm.contains (.type X) = bmB.contains (.type X)
  ob : bm.contains (.type "object") = true
  ne : bm.isEmpty = false
  pass : ∀ self, refuseLoop self "__setattr__" bm = pure ()
theorem mroG_of {B : String} {tl bm : List Value} (S : StoreFacts B tl "object.__setattr__" "object") (ho : tl.contains (.type "object") = true) (hn : tl.isEmpty = false) (h : refsOf tl bm = true) : MroG bm tl where
  has := fun X => refsOf_ind (Pr := fun l => l.contains (.type X) = tl.contains (.type X)) rfl (fun c r e => by rw [List.contains_cons, e]; rfl) bm h
  ob := refsOf_ind (Pr := fun l => l.contains (.type "object") = true) ho (fun c r e => by rw [List.contains_cons, e]; rfl) bm h
  ne := refsOf_ind (Pr := fun l => l.isEmpty = false) hn (fun c r e => rfl) bm h
  pass := fun self => refsOf_ind (Pr := fun l => refuseLoop self "__setattr__" l = pure ()) (S.passes self) (fun c r e => by rw [refuseLoop_ref]; exact e) bm h
/-- an own error's class -/
structure OexG (K : PySem.W.Frag) (C : Addr) : Prop where
  cls : ∃ B newId initId bmB nm q N bs bm sn sub ab col dd k0 k1 k2 k3 k5, ExcBaseFacts B newId initId bmB ∧ MroG bm bmB ∧ K.lookup C = some (excClassObj nm q C N bs bm true sn sub ab col dd k0 k1 k2 k3 k5 newId)
  sa : PySem.W.findIn K (.ref C) "__setattr__" = some (some (.builtin "object.__setattr__"))
  exC : PySem.W.subIn K (.ref C) (.type "BaseException") = some true
  tyC : PySem.W.typeIn K (.ref C) = some (.type "type")
  kC : PySem.W.keepIn K (.ref C) = true
section
variable {prog : Program} {w : World} {A : Around} {E : Value → Shared → Prop} {R : Result → Shared → Prop} {hp : Heap} {g : Array GenState} {d : Drawn} {t : Nat} {os : OsState}
theorem osaG {K : W.Frag} {name : Str} {tk : Tok} {v : Value} {x C : Addr} {fv : Array Value} {cd : ClassData} {bm bmB : List Value}
    (X : K.In hp) (hx : hp.get? x = some { cls := .ref C, data := .fields fv }) (hcd : W.clsIn K C = some cd) (hmm : cd.mro = .ref C :: bm) (G : MroG bm bmB) (hh : cd.hasDict = true) (ha : W.findIn K (.ref C) name = some none)
    (hq : ∀ h' tk' dx, (∀ b o, b ≠ x → hp.get? b = some o → h'.get? b = some o) → hp.objs.size ≤ dx → dx ≠ x → h'.get? x = some { cls := .ref C, dict := some dx, data := .fields fv } →
      h'.Ns1 dx (fun y => if y = name then some v else none) → R (.ok (.ret .none)) ⟨h', g, d, tk', os⟩) :
    codeAny (model prog w) A (.call (.builtin "object.__setattr__") ⟨[.ref x, .str name tk, v], []⟩) R ⟨hp, g, d, t, os⟩ := by
  have I : W.InstAt hp x { cls := .ref C, data := .fields fv } C none := ⟨hx, rfl, rfl, trivial⟩
  have SF := PySem.F.store_object
  have ne : cd.mro.isEmpty = false := by rw [hmm] <;> rfl
  have hob : cd.mro.contains (.type "object") = true := by rw [hmm, List.contains_cons, G.ob, Bool.or_true]
  have hxs : x ≠ hp.objs.size := Nat.ne_of_lt (Heap.lt_size hx)
  have sub : W.Looks (model prog w) hp (isInstance (.ref x) (.type "object")) true := I.type.andThen (W.looks_mroIn X (by unfold W.mroIn; rw [hcd, Option.bind_some, if_neg (by rw [ne]; decide), hob]))
  refine codeAny_call_builtin SF.slot.plain SF.entry (@W.check_slot (model prog w) _ _ ⟨hp, g, d, t, os⟩ "object.__setattr__" "object" "__setattr__" (.ref x) [.str name tk, v] [] _ SF.kind SF.split sub (SF.args (.ref x) (.str name tk) v) ?_)
  have hmr : W.Looks (model prog w) hp (mroOf (.ref C)) cd.mro := (W.looks_clsIn X hcd).andThen .now
  have L3 : W.Looks (model prog w) hp (storeTaker? none) none := .now
  have hcls : W.Looks (model prog w) hp (classData C) cd := W.looks_clsIn X hcd
  rw [W.osa_eq, refuse_eq]
  refine wpAny_bind (wpAny_bind (I.type.at (wpAny_bind (hmr.at ?_))))
  rw [hmm, refuseLoop_ref, G.pass]
  refine wpAny_pure (wpAny_bind (I.type.at (wpAny_bind ((W.looks_findIn X ha).at (wpAny_bind (L3.at ?_))))))
  show wpAny _ _ (storeInOwnDict (.ref x) (.ref C) (.str name tk) name v false) _ _ _
  obtain ⟨nm, bs, mro, ns, qn, hd, sn, sb, ab, col, del⟩ := cd
  dsimp only at hh
  subst hh
  unfold storeInOwnDict ownDictForStores
  repeat (first | with_reducible refine store_in_new ?_ ?_ | with_reducible refine wpAny_loadPart_at hx ?_ | with_reducible refine hcls.at ?_ | wp_step)
  · exact ⟨_, #[], _, (Heap.get?_update_ne _ _ _ _ hxs.symm).trans (Heap.get?_push_at rfl rfl), rfl, fun e he => absurd he (by simp), fun _ => rfl⟩
  · intro h' tk' hn' hs
    have hx₁ : (hp.push { cls := .type "dict", data := .dict #[] }).get? x = some { cls := .ref C, data := .fields fv } := Heap.get?_push_of_some _ hx
    refine hq h' tk' hp.objs.size (fun b o hb ho => ?_) (Nat.le_refl _) hxs.symm ?_ hn'
    · exact (hs.2 b (Nat.ne_of_lt (Heap.lt_size ho))).trans ((Heap.get?_update_ne _ _ _ _ hb).trans (Heap.get?_push_of_some _ ho))
    · exact (hs.2 x hxs).trans (Heap.get?_update_self _ hx₁ rfl)
end
section
variable {X : Cx} {pins : List (Addr × Obj)} {σ : L2.St} {H : Hp} {s : Shared} {a C dx : Addr} {f : Str} {y : V} {u : Value} {fs : List (Str × V)} {Q : Unit → Shared → Prop} {E : Value → Shared → Prop} {A : Around}
/-- self.f = y, the first one -/
theorem ostG (T : OexG X.K C) (I : Inv X pins σ H s) (e : H a = some (exo a C none)) (hno : PySem.W.findIn X.K (.ref C) f = some none) (ry : RelV y u)
    (h : ∀ dx s', H dx = none → dx ≠ a → Inv X pins σ (upd (upd H dx (exd dx [(f, y)])) a (exo a C (some dx))) s' → Q () s') : wpAny (model X.prog X.w) A (setAttr (.ref a) f u) Q E s := by
  obtain ⟨B, newId, initId, bmB, nm, q, N, bs, bm, sn, sub, ab, col, dd, k0, k1, k2, k3, k5, F, G, hC⟩ := T.cls
  have hcl : PySem.W.clsIn X.K C = some { name := nm, bases := bs, mro := .ref C :: bm, ns := N, qualname := q, hasDict := true, slotNames := sn, subclasses := sub, abstract := ab, collection := col, hasDel := false } := by unfold PySem.W.clsIn; rw [hC] <;> rfl
  obtain ⟨t1, ho⟩ := exo_at I.hok e
  obtain ⟨hp, g, d, t, os⟩ := s
  refine PySem.W.set_plain I.kIn (ox := { cls := .ref C, dict := none, data := .fields #[.ref t1, .none, .none, .none, .bool false, .none] }) (od := none) ⟨ho, rfl, rfl, trivial⟩ T.sa ?_
  refine osaG I.kIn ho hcl rfl G rfl hno (fun h' tk' dx k dn dne hx hn => ?_)
  have hnd : H dx = none := I.hok.fresh dn
  have nd : ∀ {b : Addr} {o : Obj}, hp.get? b = some o → b ≠ dx := fun {b o} q => Nat.ne_of_lt (Nat.lt_of_lt_of_le (Heap.lt_size q) dn)
  have na : ∀ {b : Addr}, H b = none → b ≠ a := fun {b} n z => by
    rw [z, e] at n
    cases n
  have Un1 : Un X.fs [] H (upd (upd H dx (exd dx [(f, y)])) a (exo a C (some dx))) hp h' := {
    keep := fun b o q n _ _ => k b o (na n) q
    slot := fun b o q n _ _ => ⟨o.slots, k b o (na n) q⟩
    free := fun b o q n _ => by rw [upd_ne (na n), upd_ne (nd q)]; exact n
    there := fun b o q _ => by
      by_cases hb : b = a
      · exact ⟨_, by rw [hb]; exact hx⟩
      · exact ⟨o, k b o hb q⟩
    tups := fun b xs q => by rw [upd_ne (at_ne e q exo_tup), upd_ne (ne_of_none q hnd)]; exact q
    frzs := fun b o v q => by rw [upd_ne (at_ne e q exo_frz), upd_ne (ne_of_none q hnd)]; exact q
    tbls := fun b ps q => ⟨#[], by rw [upd_ne (at_ne e q exo_tbl), upd_ne (ne_of_none q hnd), q]; simp⟩ }
  refine h dx _ hnd dne (I.un (t' := tk') Un1 fun b o q => ?_)
  by_cases hb : b = a
  · subst hb
    rw [upd_same] at q
    cases q
    exact exo_ok hx
  · rw [upd_ne hb] at q
    by_cases hd : b = dx
    · subst hd
      rw [upd_same] at q
      cases q
      exact exd_ok hn (relO_put (fs := []) ry fun g => True.intro)
    · rw [upd_ne hd] at q
      exact (I.hok b o q).stay (fun c v hc z => k c v (by
          rcases hc with hc | hc
          · rw [hc]
            exact hb
          · exact at_ne e hc exo_own) z)
        (fun c hc => by rw [upd_ne (at_ne e hc exo_own), upd_ne (ne_of_none hc hnd)]; exact hc) (fun c xs hc => by rw [upd_ne (at_ne e hc exo_tup), upd_ne (ne_of_none hc hnd)]; exact hc)
end
/-- self.f = e, the first one -/
def tOstG (K : PySem.W.Frag) (f : Str) (to te : TE) : TS := fun D σ H => te σ H fun y H1 => to σ H1 fun x H2 => ∃ a C : Addr, x = .ref a ∧ OexG K C ∧ PySem.W.findIn K (.ref C) f = some none ∧
  H2 a = some (exo a C none) ∧ ∀ dx, H2 dx = none → dx ≠ a → D.nx σ (upd (upd H2 dx (exd dx [(f, y)])) a (exo a C (some dx)))
section
variable {X : Cx} {o e : Expr} {es : List Expr} {to te : TE} {ta : TA} {f : Str} {p p' p1 p2 pos : Pos}
theorem ps_ostG (ho : PE X o to) (he : PE X e te) (hs : swapsWith e (some (.Attribute o f p')) pos.line X.env = pure false := by rfl) : PS X (.Assign [.Attribute o f p'] e pos) (tOstG X.K f to te) := by
  refine ⟨fun pins s σ H D I h => ?_⟩
  refine plainObj_wpAny_Assign_Attribute (thn (he.run pins s σ H _ I h) fun v s1 ⟨y, H1, I1, r1, q1⟩ => thn (ho.run pins s1 σ H1 _ I1 q1) fun u s2 ⟨x, H2, I2, r2, a, C, ex, T, hno, ea, q⟩ => ?_) hs
  subst ex
  obtain rfl : u = Value.ref a := r2
  exact ostG T I2 ea hno r1 fun dx s' n ne J => ⟨σ, _, J, q dx n ne⟩
/-- C(e, ..), the error kept as a value is pe_mkV of this -/
theorem pmk_oexG {CX : CXT} {x : Str} {C fI : Addr} {k : Nat} {fd : FuncData} {ps : List Str} {sp : Sp} {ds : List Value} {dvs : List V} (T : OexG X.K C) (iC : PySem.W.findIn X.K (.ref C) "__init__" = some (some (.ref fI))) (tI : PySem.W.typeIn X.K (.ref fI) = some (.type "function"))
    (F1 : FnOk X.prog X.w X.K X.mg X.base CX k fI fd ps sp) (hr : Room (k + 1) X.A) (hb : Binds X.K fd ps ds) (hd : Vals dvs ds) (hx : Passes CX X (fun _ _ _ => False)) (hg : Gl X x) (hm : X.mg x = some (.ref C)) (ha : PA X (e :: es) ta)
    (hdb : (x == ("__debug__" : Str)) = false := by decide) (he : starEach (e :: es) X.env = (false, eval e X.env) :: starEach es X.env := by rfl) (hpl : (backTo pos (starEach es X.env)).any (·.1) = false := by rfl) :
    PMk X (.Call (.Name x p) (e :: es) [] pos) (tMkO C sp dvs ta) := by
  intro pins s σ H Q I h
  obtain ⟨B, newId, initId, bmB, nm, q, N, bs, bm, sn, sub, ab, col, dd, k0, k1, k2, k3, k5, F, G, hC⟩ := T.cls
  refine wpAny_Call_Name_kw (ld_glob I hg hm ?_ hdb)
  refine PySem.W.callWith_K (h₀ := X.base) I.ok.mod.kin T.kC (thn (ha.run pos pins s σ H _ I h) fun us s1 ⟨vs, H1, I1, r1, hz, q1⟩ => ⟨I1.kIn, ?_⟩) he hpl
  show wpAny _ _ (call (.ref C) us) _ _ _
  obtain ⟨hp, g, dr, tk, os⟩ := s1
  have hsz : hp.objs.size ≤ hp.objs.size + 1 := Nat.le_succ _
  have hn : H1 (hp.objs.size + 1) = none := I1.hok.fresh hsz
  have hq := q1 (hp.objs.size + 1) hn
  have kk : ∀ b o, hp.get? b = some o → ((hp.push (PySem.W.kdv_tup us)).push (PySem.HandSPX.excO C hp.objs.size)).get? b = some o := fun b o e => Heap.get?_push_of_some _ (Heap.get?_push_of_some _ e)
  have hget : ((hp.push (PySem.W.kdv_tup us)).push (PySem.HandSPX.excO C hp.objs.size)).get? (hp.objs.size + 1) = some (PySem.HandSPX.excO C hp.objs.size) := by heap_get
  have I2 : Inv X pins σ (upd H1 (hp.objs.size + 1) (exo (hp.objs.size + 1) C none)) ⟨(hp.push (PySem.W.kdv_tup us)).push (PySem.HandSPX.excO C hp.objs.size), g, dr, tk, os⟩ :=
    I1.laid (t' := tk) (a := hp.objs.size + 1) (o := exo (hp.objs.size + 1) C none) (h' := (hp.push (PySem.W.kdv_tup us)).push (PySem.HandSPX.excO C hp.objs.size)) kk hsz (exo_ok hget)
  have r2 : Vals (V.ref (hp.objs.size + 1) :: (vs ++ dvs)) (Value.ref (hp.objs.size + 1) :: (us ++ ds)) := .cons rfl (r1.append hd)
  have hl : (Value.ref (hp.objs.size + 1) :: us ++ ds).length = ps.length := by
    have e := r2.length
    rw [F1.len _ _ _ _ hq] at e
    exact e.symm
  have hus : us.length ≤ sizeLine := by
    rw [← Paired.length r1, sizeLine_eq]
    omega
  refine wpAny_call (er_call F G.has (I1.kIn _ _ hC) (PySem.W.looks_findIn I1.kIn iC) (fun self => PySem.W.bind_fn I1.kIn self tI) hus
    (codeAny_mono (F1.run _ X.stack _ _ ⟨Value.ref (hp.objs.size + 1) :: us, []⟩ (Value.ref (hp.objs.size + 1) :: (us ++ ds)) _ _ (fun _ _ _ => False) (hr.make C us []) (I2.env0.make C us []) (hb _ (Value.ref (hp.objs.size + 1) :: us) I2.kIn hl) r2 hq) fun r s' hq' => ?_))
  cases r with
  | error er => exact hx pins σ _ _ er s' I2 hq'
  | ok fl =>
    cases fl with
    | ret u =>
      obtain ⟨v, H2, os2, bare2, un2, hok2, rv, ev, d, fs, ea, ed, hd1, q2⟩ := hq'
      subst ev
      obtain ⟨h2, g2, d2, t2, os'⟩ := s'
      exact ⟨rv, mk_end (raises_own T.exC T.tyC) I1 hsz kk un2 hok2 os2 bare2 ea ed hd1 q2⟩
    | next => exact False.elim hq'
    | brk => exact False.elim hq'
    | cont => exact False.elim hq'
/-- C(k = v, ..), C's own __init__ keeping sp -/
def tMkOK (C : Addr) (n : Nat) (sp : Sp) (gV : List V → List V) (tk : TA) : L2.St → Hp → XK → Prop := fun σ H Q => tk σ H fun zs H1 => zs.length = n ∧ ∀ a, H1 a = none → sp (.ref a :: gV zs) (upd H1 a (exo a C none))
  (fun v H2 => v = .non ∧ ∃ (d : Addr) (fs : List (Str × V)), H2 a = some (exo a C (some d)) ∧ H2 d = some (exd d fs) ∧ H1 d = none ∧ Q (.ref C) (some d) (upd (del H2 a) d (.xd fs))) (fun _ _ _ => False)
theorem pmk_oexK {CX : CXT} {x : Str} {C fI : Addr} {k : Nat} {fd : FuncData} {ps ks : List Str} {gg : List Value → List Value} {gV : List V → List V} {sp : Sp} {kws : List Keyword} {tk : TA} (T : OexG X.K C) (iC : PySem.W.findIn X.K (.ref C) "__init__" = some (some (.ref fI))) (tI : PySem.W.typeIn X.K (.ref fI) = some (.type "function"))
    (F1 : FnOk X.prog X.w X.K X.mg X.base CX k fI fd ps sp) (hr : Room (k + 1) X.A) (hb : KM X.K fd ps ks gg gV) (hx : Passes CX X (fun _ _ _ => False)) (hg : Gl X x) (hm : X.mg x = some (.ref C)) (hkw : PK X kws tk)
    (hall : (backToKw pos (keywordEach kws X.env)).all (·.1.isSome) = true := by rfl) (hks : (backToKw pos (keywordEach kws X.env)).filterMap (·.1) = ks := by rfl) (hdb : (x == ("__debug__" : Str)) = false := by decide)
    (hpl : ((backTo pos (starEach [] X.env)).any (·.1) || (backToKw pos (keywordEach kws X.env)).any (·.1.isNone)) = false := by rfl) :
    PMk X (.Call (.Name x p) [] kws pos) (tMkOK C ks.length sp gV tk) := by
  intro pins s σ H Q I h
  obtain ⟨B, newId, initId, bmB, nm, q, N, bs, bm, sn, sub, ab, col, dd, k0, k1, k2, k3, k5, F, G, hC⟩ := T.cls
  refine wpAny_Call_Name_kw (ld_glob I hg hm ?_ hdb)
  refine PySem.W.callWith_KW0 (h₀ := X.base) I.ok.mod.kin T.kC hall ?_ hpl
  refine thn (hkw.run pos pins s σ H _ I h) fun ws s1 ⟨zs, H1, I1, rz, l2, q1⟩ => ⟨I1.kIn, ?_⟩
  rw [hks]
  show wpAny _ _ (call (.ref C) [] (ks.zip ws)) _ _ _
  obtain ⟨hp, g, dr, tk, os⟩ := s1
  have hsz : hp.objs.size ≤ hp.objs.size + 1 := Nat.le_succ _
  have hn : H1 (hp.objs.size + 1) = none := I1.hok.fresh hsz
  have hq := q1 (hp.objs.size + 1) hn
  have kk : ∀ b o, hp.get? b = some o → ((hp.push (PySem.W.kdv_tup [])).push (PySem.HandSPX.excO C hp.objs.size)).get? b = some o := fun b o e => Heap.get?_push_of_some _ (Heap.get?_push_of_some _ e)
  have hget : ((hp.push (PySem.W.kdv_tup [])).push (PySem.HandSPX.excO C hp.objs.size)).get? (hp.objs.size + 1) = some (PySem.HandSPX.excO C hp.objs.size) := by heap_get
  have I2 : Inv X pins σ (upd H1 (hp.objs.size + 1) (exo (hp.objs.size + 1) C none)) ⟨(hp.push (PySem.W.kdv_tup [])).push (PySem.HandSPX.excO C hp.objs.size), g, dr, tk, os⟩ :=
    I1.laid (t' := tk) (a := hp.objs.size + 1) (o := exo (hp.objs.size + 1) C none) (h' := (hp.push (PySem.W.kdv_tup [])).push (PySem.HandSPX.excO C hp.objs.size)) kk hsz (exo_ok hget)
  have r2 : Vals (V.ref (hp.objs.size + 1) :: gV zs) (Value.ref (hp.objs.size + 1) :: gg ws) := .cons rfl (hb.rel l2 rz)
  refine wpAny_call (er_call F G.has (I1.kIn _ _ hC) (PySem.W.looks_findIn I1.kIn iC) (fun self => PySem.W.bind_fn I1.kIn self tI) (Nat.zero_le _)
    (codeAny_mono (F1.run _ X.stack _ _ ⟨[Value.ref (hp.objs.size + 1)], ks.zip ws⟩ (Value.ref (hp.objs.size + 1) :: gg ws) _ _ (fun _ _ _ => False) (hr.make C [] (ks.zip ws)) (I2.env0.make C [] (ks.zip ws)) (hb.to _ _ ws I2.kIn (rz.length.symm.trans l2)) r2 hq) fun r s' hq' => ?_))
  cases r with
  | error er => exact hx pins σ _ _ er s' I2 hq'
  | ok fl =>
    cases fl with
    | ret u =>
      obtain ⟨v, H2, os2, bare2, un2, hok2, rv, ev, d, fs, ea, ed, hd1, q2⟩ := hq'
      subst ev
      obtain ⟨h2, g2, d2, t2, os'⟩ := s'
      exact ⟨rv, mk_end (raises_own T.exC T.tyC) I1 hsz kk un2 hok2 os2 bare2 ea ed hd1 q2⟩
    | next => exact False.elim hq'
    | brk => exact False.elim hq'
    | cont => exact False.elim hq'
end
/-! ### the class object, asked -/
def veT (n : String) : List Value := [.type n, .type "Exception", .type "BaseException", .type "object"]
def oexGB (K : PySem.W.Frag) (C : Addr) : Bool := match K.lookup C with
  | some ⟨.type "type", _, .cls cd, sl⟩ => (match cd.mro, sl.toList with
    | .ref C' :: bm, [_, _, _, _, some (.builtin n), _] => C' == C && cd.hasDict && !cd.hasDel && ((n == "ValueError.__new__" && refsOf (veT "ValueError") bm) || (n == "RuntimeError.__new__" && refsOf (veT "RuntimeError") bm) || (n == "LookupError.__new__" && refsOf (veT "LookupError") bm))
    | _, _ => false)
  | _ => false
theorem oexGB_ok {K : PySem.W.Frag} {C : Addr} (q : oexGB K C = true) :
    ∃ B newId initId bmB nm qn N bs bm sn sub ab col dd k0 k1 k2 k3 k5, ExcBaseFacts B newId initId bmB ∧ MroG bm bmB ∧ K.lookup C = some (excClassObj nm qn C N bs bm true sn sub ab col dd k0 k1 k2 k3 k5 newId) := by
  unfold oexGB at q
  split at q
  · rename_i dd cd sl ho
    split at q
    · rename_i C' bm k0 k1 k2 k3 n k5 hm hs
      simp only [Bool.and_eq_true, Bool.or_eq_true, beq_iff_eq, Bool.not_eq_true'] at q
      obtain ⟨⟨⟨rfl, hd⟩, hdel⟩, hr⟩ := q
      obtain ⟨nm, bs, mro, ns, qn, hd', sn, sub, ab, col, del⟩ := cd
      dsimp only at hm hdel hd
      subst hm hdel hd
      have hsl : sl = #[k0, k1, k2, k3, some (.builtin n), k5] := by
        obtain ⟨l⟩ := sl
        simp only at hs
        rw [hs]
      subst hsl
      rcases hr with (⟨rfl, hr⟩ | ⟨rfl, hr⟩) | ⟨rfl, hr⟩
      · exact ⟨_, _, _, _, nm, qn, ns, bs, bm, sn, sub, ab, col, dd, k0, k1, k2, k3, k5, PySem.F.excBase_ValueError, mroG_of PySem.F.store_ValueError (by decide +kernel) rfl hr, ho⟩
      · exact ⟨_, _, _, _, nm, qn, ns, bs, bm, sn, sub, ab, col, dd, k0, k1, k2, k3, k5, PySem.F.excBase_RuntimeError, mroG_of PySem.F.store_RuntimeError (by decide +kernel) rfl hr, ho⟩
      · exact ⟨_, _, _, _, nm, qn, ns, bs, bm, sn, sub, ab, col, dd, k0, k1, k2, k3, k5, PySem.F.excBase_LookupError, mroG_of PySem.F.store_LookupError (by decide +kernel) rfl hr, ho⟩
    · cases q
  · cases q
end Pk

/-! ## Own errors: one fact for a class, its families, isinstance -/
namespace Pk
open PySem PySem.Spec PyProof.Rows L2 PySem.HandSPX
/-- the class at C, directly under the own class at Pa, which is directly under the built-in B -/
structure ExG (K : PySem.W.Frag) (C Pa : Addr) (B : String) : Prop where
  o : OexG K C
  x : XfC K C
  e : ExcC K C
  sub : ∀ c : Value, PySem.W.subIn K (.ref C) c = some ((Value.ref C :: .ref Pa :: veT B).contains c)
theorem mro_sub {K : PySem.W.Frag} {C : Addr} {cd : ClassData} {bm : List Value} (h : PySem.W.clsIn K C = some cd) (hm : cd.mro = .ref C :: bm) (c : Value) : PySem.W.subIn K (.ref C) c = some ((Value.ref C :: bm).contains c) := by
  show PySem.W.mroIn K C c = _
  unfold PySem.W.mroIn
  rw [h]
  show (if cd.mro.isEmpty = true then none else some (cd.mro.contains c)) = _
  rw [hm]
  rfl
section
variable {K : PySem.W.Frag} {C Pa N : Addr} {B newId : String} {nm q : Str} {bs : List Value} {sn : List Str} {sub : List Value} {ab : Bool} {col : Option Bool} {dd : Option Addr} {k0 k1 k2 k3 k5 : Option Value}
theorem exG_of {initId : String} (F : ExcBaseFacts B newId initId (veT B)) (S : StoreFacts B (veT B) "object.__setattr__" "object")
    (hl : K.lookup C = some (excClassObj nm q C N bs (.ref Pa :: veT B) true sn sub ab col dd k0 k1 k2 k3 k5 newId))
    (sa : PySem.W.findIn K (.ref C) "__setattr__" = some (some (.builtin "object.__setattr__"))) (ga : PySem.W.findIn K (.ref C) "__getattribute__" = some (some (.builtin "BaseException.__getattribute__"))) (gg : PySem.W.findIn K (.ref C) "__getattr__" = some none)
    (cc : PySem.W.findIn K (.ref C) "__class__" = some (some (.builtin "object.__class__"))) (kp : PySem.W.keepIn K (.ref C) = true)
    (cn : PySem.W.specialIn K (.builtin "object.__class__") "__get__" = some (some (.builtin "getset_descriptor.__get__"))) (ct : PySem.W.takesIn K (.builtin "object.__class__") = some true) : ExG K C Pa B := by
  have hcl : PySem.W.clsIn K C = some { name := nm, bases := bs, mro := .ref C :: .ref Pa :: veT B, ns := N, qualname := q, hasDict := true, slotNames := sn, subclasses := sub, abstract := ab, collection := col, hasDel := false } := by unfold PySem.W.clsIn; rw [hl] <;> rfl
  have hs := mro_sub hcl rfl
  have hty : PySem.W.typeIn K (.ref C) = some (.type "type") := by
    show (K.lookup C).map (·.cls) = _
    rw [hl] <;> rfl
  have hbe : PySem.W.subIn K (.ref C) (.type "BaseException") = some true := by
    rw [hs]
    simp [veT]
  have hd : PySem.W.hasDictIn K C = true := by
    unfold PySem.W.hasDictIn
    rw [hcl] <;> rfl
  have hob : PySem.W.mroIn K C (.type "object") = some true := by
    have h := hs (.type "object")
    have h' : PySem.W.mroIn K C (.type "object") = _ := h
    rw [h']
    simp [veT]
  have hr : refsOf (veT B) (.ref Pa :: veT B) = true := by
    show (veT B == veT B) = true
    simp
  exact ⟨⟨⟨B, newId, initId, veT B, nm, q, N, bs, _, sn, sub, ab, col, dd, k0, k1, k2, k3, k5, F, mroG_of S (by simp [veT]) rfl hr, hl⟩, sa, hbe, hty, kp⟩, ⟨ga, gg, hbe, hd⟩, ⟨ga, gg, hbe, hd, cc, cn, ct, hob⟩, hs⟩
theorem ExG.named (G : ExG K C Pa B) : NmC K C := ⟨by rw [G.sub]; simp [veT], G.x.hdC, G.o.tyC, by rw [G.sub]; simp⟩
theorem ExG.kit (G : ExG K C Pa B) {T : Addr} (M : NmC K T) : PySem.W.kitOne K (.ref C) (.ref T) = some (decide (T = C) || decide (T = Pa)) := by
  refine kit_sub M ?_
  rw [G.sub]
  congr 1
  by_cases h1 : T = C
  · simp [h1]
  · by_cases h2 : T = Pa
    · simp [h2]
    · simp [h1, h2, veT]
theorem ExG.kitB (G : ExG K C Pa B) {T : String} (hT : PySem.W.kitMeta T = true) : PySem.W.kitOne K (.ref C) (.type T) = some ((veT B).contains (.type T)) := by
  unfold PySem.W.kitOne
  rw [if_neg (by simp)]
  show (if PySem.W.kitMeta T = true then PySem.W.subIn K (.ref C) (.type T) else none) = _
  rw [if_pos hT, G.sub]
  simp
end
/-- isinstance(e, (C1, C2, ..)), e a kept exception -/
def rIsEVT (K : PySem.W.Frag) : List V → Hp → VK → Prop := fun xs H Q => ∃ (a D dd : Addr) (fs : List (Str × V)) (tp : Addr) (cs : List V) (us : List Value) (b : Bool), xs = [.ref a, .ref tp] ∧ ExcC K D ∧ H a = some (ExK (.ref D) (some dd) a) ∧ H dd = some (.xd fs) ∧
  H tp = some (.tup cs) ∧ Paired ClsV cs us ∧ PySem.W.kitAny K (.ref D) us = some b ∧ Q (.bl b) H
theorem call_isEVT {X : Cx} : CallR X (.builtin "isinstance") (rIsEVT X.K) := by
  intro pins s σ H xs us Q I r h
  obtain ⟨a, D, dd, fs, tp, cs, ws, b, rfl, C, hx, hd, hT, k, e, q⟩ := h
  obtain ⟨u1, u2, rfl, r1, r2⟩ := vals2 r
  obtain rfl : u1 = Value.ref a := r1
  cases (show u2 = Value.ref tp from r2)
  obtain ⟨oe, vs, there, hz, hf⟩ := exK_at I.hok hx
  obtain ⟨mA, hns, _⟩ : ObjOk X.prog X.w H s.heap dd (.xd fs) := I.hok dd _ hd
  obtain ⟨od, ho, _⟩ := lookIn_ns hns
  have J : PySem.W.InstAt s.heap a oe D (some od) := ⟨there, hz.1, by unfold PySem.W.notCls; rw [hf] <;> rfl, by rw [hz.2]; exact ho⟩
  obtain ⟨_, its, rv, o, h1, h2, n, h3⟩ := (show ObjOk X.prog X.w H s.heap tp (.tup cs) from I.hok tp _ hT)
  have e3 := ClsV.all k rv
  subst e3
  obtain ⟨oc, od2, dt, sl⟩ := o
  simp only at h2 h3
  subst h2 h3
  exact PySem.W.kia_tup (PySem.W.pk_kitxE C.hg C.hk C.hs C.hd C.ha C.hn C.ht C.hm) I.kIn J h1 e (fun z => nomatch z) fun tk => ⟨.bl b, H, I.kept (t' := tk) fun _ _ z => z, rfl, q⟩
/-- at b stands a kept error of the class at C whose field f has the value v -/
def ErrO (C : Addr) (f : Str) (H : Hp) (b : Addr) (v : V) : Prop := ∃ dd, H b = some (ExK (.ref C) (some dd) b) ∧ H dd = some (.xd [(f, v)])
theorem ErrO.keep {C b : Addr} {f : Str} {H H' : Hp} {v : V} (h : ErrO C f H b v) (s : Same H H') : ErrO C f H' b v := let ⟨dd, h1, h2⟩ := h; ⟨dd, s _ _ h1, s _ _ h2⟩
/-- what an own error's __init__ does: self.f = v -/
def spErr (C : Addr) (f : Str) : Sp := fun vs H Q _ => ∃ (a : Addr) (v : V), vs = [.ref a, v] ∧ H a = some (exo a C none) ∧ ∀ dx, H dx = none → dx ≠ a → Q .non (upd (upd H dx (exd dx [(f, v)])) a (exo a C (some dx)))
theorem err_end {C a dx : Addr} {f : Str} {H1 : Hp} {v : V} {Q : XK} (ha : H1 a = none) (hd : H1 dx = none) (hne : dx ≠ a) (q : ∀ H', Same H1 H' → H' dx = some (.xd [(f, v)]) → H' a = none → Q (.ref C) (some dx) H') :
    ∃ (d : Addr) (fs : List (Str × V)), (upd (upd (upd H1 a (exo a C none)) dx (exd dx [(f, v)])) a (exo a C (some dx))) a = some (exo a C (some d)) ∧ (upd (upd (upd H1 a (exo a C none)) dx (exd dx [(f, v)])) a (exo a C (some dx))) d = some (exd d fs) ∧ H1 d = none ∧
      Q (.ref C) (some d) (upd (del (upd (upd (upd H1 a (exo a C none)) dx (exd dx [(f, v)])) a (exo a C (some dx))) a) d (.xd fs)) := by
  refine ⟨dx, [(f, v)], upd_same, by rw [upd_ne hne, upd_same], hd, q _ (fun b o e => ?_) upd_same (by rw [upd_ne (Ne.symm hne), del_same])⟩
  have n1 : b ≠ a := fun z => by rw [z, ha] at e; cases e
  have n2 : b ≠ dx := fun z => by rw [z, hd] at e; cases e
  rw [upd_ne n2, del_ne n1, upd_ne n1, upd_ne n2, upd_ne n1]
  exact e
/-- C(v) in a def: the new error is kept -/
theorem mk_step {C : Addr} {f : Str} {i : Nat} {v : V} {σ : L2.St} {H : Hp} {Q : VK} (hσ : σ[i]? = some (some v)) (next : ∀ b H', Same H H' → ErrO C f H' b v → H b = none → Q (.ref b) H') :
    tMkV (tMkO C (spErr C f) [] (tCons (tVar i) tNil)) σ H Q := by
  refine ⟨v, hσ, by show 1 ≤ 1000; decide, fun a ha => ⟨a, v, rfl, upd_same, fun dx hdx hne => ⟨rfl, ?_⟩⟩⟩
  have hd : H dx = none := by
    rw [upd_ne hne] at hdx
    exact hdx
  refine err_end (Q := fun cls d H' => ∀ b, H' b = none → Q (.ref b) (upd H' b (ExK cls d b))) ha hd hne (fun H' s hx _ b hb => ?_)
  exact next b _ (s.trans (fun c o e => by rw [upd_ne (fun z => by rw [z, hb] at e; cases e)]; exact e)) ⟨dx, upd_same, by rw [upd_ne (fun z => by rw [z, hb] at hx; cases hx)]; exact hx⟩ (s.free hb)
end Pk

/-! ## list.count(True) of Booleans; repr of a list of the same empty dict -/
namespace Pk
open PySem PySem.Spec PyProof.Rows L2
def eqb (k : Bool) (v : Value) : Bool := match v with
  | .bool n => n == k
  | _ => false
theorem bools_of : ∀ {us : List Value} {bs : List Bool}, Vals (bs.map V.bl) us → us = bs.map Value.bool
  | _, [], h => by cases h; rfl
  | _, b :: bs, h => by
    cases h with
    | cons a t => rw [show _ = Value.bool b from a, bools_of t]; rfl
section
variable {X : Cx}
def rCntB (K : PySem.W.Frag) : V → List V → Hp → VK → Prop := fun x xs H Q => ∃ (p : Addr) (bs : List Bool) (k : Bool), x = .ref p ∧ xs = [.bl k] ∧ SqL K H p (bs.map V.bl) ∧ Q (.int (bs.count k : Nat)) H
theorem mt_bcount : MtR X "list.count" (rCntB X.K) := by
  intro pins s σ H x xs v us Q I rx rxs h
  obtain ⟨p, bs, k, rfl, rfl, hs, q⟩ := h
  cases rx
  obtain ⟨u, rfl, ru⟩ := rxs.one
  obtain rfl : u = Value.bool k := ru
  obtain ⟨its, rv, ⟨⟨cls, dd, data, sl⟩, n, ho, hc, hdn, hd⟩, hlen⟩ := I.list hs
  simp only at hc hd
  subst hc hd
  have hi := bools_of rv
  refine call_meets PySem.F.slot_list_count ⟨_, ho, rfl⟩ PySem.F.entry_list_count (PySem.F.args_list_count_2 _ _)
    (SeqAt.list_countAt p its.toArray n dd sl (.bool k) (eqb k)) ⟨ho, fun y hy => ?_, ?_⟩
  · have hy' : y ∈ bs.map Value.bool := by
      rw [← hi]
      simpa using hy
    obtain ⟨b, _, rfl⟩ := List.mem_map.mp hy'
    exact SeqAt.EqAt.bool_bool b k
  have ec : its.toArray.toList.countP (eqb k) = bs.count k := by
    show its.countP (eqb k) = bs.count k
    rw [hi, List.countP_map]
    rfl
  refine ⟨.int (bs.count k : Nat), H, I.tok _, ⟨s.toks, ?_⟩, q⟩
  show Value.int ((its.toArray.toList.countP (eqb k) : Nat) : Int) s.toks = Value.int ((bs.count k : Nat) : Int) s.toks
  rw [ec]
end
/-- a list of n times the same empty dict -/
def rReprN : List V → Hp → VK → Prop := fun xs H Q => ∃ (a dd : Addr) (n : Nat), xs = [.ref a] ∧ a ≠ sysModules ∧ n = 35 ∧ H a = some (.lst (List.replicate n (.ref dd))) ∧ H dd = some (.dK []) ∧ Q (.str (PyData.shown (.list (List.replicate n (.dict []))))) H
theorem vals_rep {dd : Addr} : ∀ {n : Nat} {us : List Value}, Vals (List.replicate n (V.ref dd)) us → us = List.replicate n (Value.ref dd)
  | 0, _, h => by cases h; rfl
  | n + 1, _, h => by
    rw [List.replicate_succ] at h
    cases h with
    | cons a t => rw [show _ = Value.ref dd from a, vals_rep t]; rfl
theorem readsAll_rep {h : Heap} {dd : Addr} {d : PyData} {as : List Addr} (r : Reads h (.ref dd) d as) : ∀ n : Nat, ∃ bs, ReadsAll h (List.replicate n (Value.ref dd)) (List.replicate n d) bs ∧ ∀ b ∈ bs, b ∈ as
  | 0 => ⟨[], .nil, fun b hb => by cases hb⟩
  | n + 1 => by
    obtain ⟨bs, h1, h2⟩ := readsAll_rep r n
    exact ⟨_, .cons r h1, fun b hb => (List.mem_append.mp hb).elim id (h2 b)⟩
theorem call_reprN {X : Cx} (hgu : X.A.guards = some []) (hu : X.A.units + 64 < cLine) : CallR X (.builtin "repr") rReprN := by
  intro pins s σ H xs us Q I r h
  obtain ⟨a, dd, n, rfl, na, hn, ha, hd, q⟩ := h
  obtain ⟨u, rfl, rx⟩ := vals1 r
  obtain rfl : u = Value.ref a := rx
  obtain ⟨us, rv, ⟨o, k, ho, hc, _, hdt⟩, _⟩ := I.list (.inl (.inl ha))
  obtain ⟨hz, hS, vs, r, m⟩ : ([] : List (Key × V)).length ≤ sizeLine ∧ (dd == sysModules) = false ∧ ∃ vs, KV [] vs ∧ s.heap.DictOf (mixKind X.prog X.w) dd vs := I.hok dd _ hd
  cases r
  obtain ⟨o2, es, ep, ho2, hx, hd2, _, hp, _⟩ := m
  have he : es.toList = [] := by
    cases h : es.toList with
    | nil => rfl
    | cons e r =>
      rw [h] at hp
      cases hp
  have e1 := vals_rep rv
  subst e1
  have rd : Reads s.heap (.ref dd) (.dict []) _ := Reads.dict ho2 hx.1 hd2 (by rw [he]; exact ReadsAll.nil) (by rw [he]; exact ReadsAll.nil)
  obtain ⟨bs, hb1, hb2⟩ := readsAll_rep rd n
  have rl := Reads.list ho hc hdt hb1
  subst hn
  refine repr_of_reads' (h₀ := s.heap) rl (by decide +kernel) (fun _ => ?_) hgu (by show X.A.units + (2 + 1) < cLine; omega) (fun _ _ e => e) (fun h' v tk hk => ⟨.str _, H, I.kept hk, ⟨v, rfl⟩, q⟩) (by decide +kernel)
  have nd : dd ≠ sysModules := by
    rintro rfl
    simp at hS
  intro hm
  rcases List.mem_cons.mp hm with e | e
  · exact na e.symm
  · have := hb2 _ e
    simp at this
    exact nd this.symm
end Pk
/-! ## List sums and multiples that are not sys.modules -/
namespace Pk
open PySem PySem.Spec PyProof.Rows L2
section
variable {X : Cx}
def rCatN : R2 := fun x y H Q => ∃ l b xs zs, x = .ref l ∧ y = .ref b ∧ H l = some (.lst xs) ∧ H b = some (.lst zs) ∧ xs.length + zs.length ≤ sizeLine ∧ ∀ p, H p = none → p ≠ sysModules → Q (.ref p) (upd H p (.lst (xs ++ zs)))
theorem op_catN : OpR X (binaryOp .Add) rCatN := by
  intro pins s σ H x y v u Q I rx ry h
  obtain ⟨l, b, xs, zs, rfl, rfl, hH, hB, hz, q⟩ := h
  cases rx
  cases ry
  obtain ⟨z, its, n, r, hl, e⟩ := I.lstM hH
  obtain ⟨z2, its2, n2, r2, hl2, e2⟩ := I.lstM hB
  refine PySem.P.add_list e e2 ?_ (by rw [List.size_toArray, List.size_toArray]; omega)
  have ea : its.toArray ++ its2.toArray = (its ++ its2).toArray := by simp
  rw [ea]
  exact ⟨.ref _, _, I.lnew (t' := s.toks) (r.append r2) (by rw [List.length_append]; omega), rfl, q _ I.fresh (Nat.ne_of_gt I.big)⟩
def rRepN : R2 := fun x y H Q => ∃ l k xs, x = .ref l ∧ y = .int k ∧ H l = some (.lst xs) ∧ -(2 ^ 63) ≤ k ∧ k < 2 ^ 63 ∧ xs.length * k.toNat ≤ sizeLine ∧
  ∀ p, H p = none → p ≠ sysModules → Q (.ref p) (upd H p (.lst (List.replicate k.toNat xs).flatten))
theorem op_repN : OpR X (binaryOp .Mult) rRepN := by
  intro pins s σ H x y v u Q I rx ry h
  obtain ⟨l, k, xs, rfl, rfl, hH, h1, h2, hz, q⟩ := h
  cases rx
  obtain ⟨t, rfl⟩ := ry
  obtain ⟨z, its, n, r, hl, e⟩ := I.lstM hH
  have hlen : its.toArray.size * k.toNat ≤ sizeLine := by rw [List.size_toArray, ← hl]; exact hz
  have hcap : ¬ its.toArray.size * k.toNat > (2 ^ 63 - 1) / 8 := by
    have : (sizeLine : Nat) ≤ (2 ^ 63 - 1) / 8 := by decide
    omega
  have hfit : ¬ (!Builtin.List.listFitsIndex k) = true := by
    rw [fitsIndex_both h1 h2]
    exact Bool.false_ne_true
  have hlong : ¬ Builtin.List.listTooLong (its.toArray.size * k.toNat) = true := by
    rw [notLongL hlen]
    exact Bool.false_ne_true
  have hnew : List.foldl (fun x1 x2 => x1 ++ x2) #[] (List.replicate (if its.toArray.isEmpty = true then 0 else k.toNat) its.toArray) = (List.replicate k.toNat its).flatten.toArray := by
    have f0 : ∀ m : Nat, List.foldl (fun x1 x2 => x1 ++ x2) #[] (List.replicate m its.toArray) = (List.replicate m its).flatten.toArray := fun m => by
      have := foldl_rep its m []
      rw [List.nil_append] at this
      exact this
    rw [f0]
    cases its with
    | nil => simp
    | cons a r' => rw [if_neg (by simp)]
  refine wpAny_binaryOp_repeat_ref (T := "list") (U := "int") (by decide) ⟨_, e, rfl⟩ (fun s' => typeIs_int s' k t) noFill_list_mul F.fills_int_mul F.slot_int_rmul repeat_list F.slot_int_index.lookup
    (call_meets F.slot_int_rmul (typeIs_int s k t) F.entry_int_rmul (F.args_int_rmul_2 _ _) (int___rmul___int_list k t l its.toArray n)
      ⟨e, rfl, ⟨_, e, rfl⟩, call_meets F.slot_list_mul ⟨_, e, rfl⟩ F.entry_list_mul (F.args_list_mul_2 _ _) (AutoListH.list___mul___list_int_3 l its.toArray n k t hfit hcap hlong) ⟨e, ?_⟩⟩)
  rw [hnew]
  exact ⟨.ref _, _, I.lnew (t' := s.toks) (r.rep k.toNat) (by rw [PyProof.Rows.lm_len_rep_flat, Nat.mul_comm]; exact hz), rfl, q _ I.fresh (Nat.ne_of_gt I.big)⟩

end
end Pk

/-! ## Lambdas without parameters, handed to a def that calls them within a try: what is raised is told with the caller's slots -/
namespace Pk
open PySem PySem.Spec PyProof.Rows L2 LamX
/-- a def whose code object stands at c -/
structure FunC (K : PySem.W.Frag) (x qual : Str) (st : Stmt) (f : Addr) (fd : FuncData) (c : Addr) : Prop where
  ex : ∃ (oc : Value) (od : Option Addr) (kV doc pm : Value) (an : Option Addr) (ct : Value) (osl : Array (Option Value)),
    fd = PySem.W.fnOf x qual (defArgs st) (defBody st) (defScope st) .none kV doc pm an (.ref c) ct ∧ K.lookup f = some ⟨oc, od, .func fd, osl⟩ ∧ PySem.W.codeIn K (.ref c) qual = true
  kp : PySem.W.keepIn K (.ref f) = true
theorem FunC.toFun {K : PySem.W.Frag} {x qual : Str} {st : Stmt} {f : Addr} {fd : FuncData} {c : Addr} (F : FunC K x qual st f fd c) : Fun K x qual st f fd :=
  let ⟨oc, od, kV, doc, pm, an, ct, osl, h⟩ := F.ex
  ⟨⟨oc, od, kV, doc, pm, an, .ref c, ct, osl, h⟩, F.kp⟩
section
variable {P : Program} {w : World} {K : PySem.W.Frag} {mg : Str → Option Value} {base : Heap}
/-- a def's body, its code object told -/
theorem FunC.okC {x qual : Str} {st : Stmt} {f : Addr} {fd : FuncData} {c : Addr} {N ps : List Str} {k : Nat} {sp : Sp} (F : FunC K x qual st f fd c) (S : FnScope N ps (defScope st)) (len : ∀ vs H Q E, sp vs H Q E → vs.length = ps.length)
    (body : ∀ (A : Around) (outer : List Env) (s : Shared) (H : Hp) (vs : List V) (Q : VK) (E : XK), Room k (A.deeper (envOfC qual (defScope st) s.heap.objs.size f (.ref c))) → sp vs H Q E →
      ∃ t, PSs (cxOf CX0 P w K mg base N qual (defScope st) f (.ref c) A outer s H E).nox (defBody st) t ∧ t { nx := fun _ H' => Q .non H', rt := Q } (start N vs) H) : FnOk P w K mg base CX0 (k + 1) f fd ps sp := by
  obtain ⟨oc, od, kV, doc, pm, an, ct, osl, rfl, lk, hcd⟩ := F.ex
  exact fn_of lk hcd S len fun A outer s H vs Q E hr h =>
    let ⟨t, h1, h2⟩ := body A outer s H vs Q E hr h
    ⟨t, h1.nox, h2⟩
/-- .. the marks known -/
theorem FunC.okG {x qual : Str} {st : Stmt} {f : Addr} {fd : FuncData} {c : Addr} {N ps : List Str} {k : Nat} {sp : Sp} (F : FunC K x qual st f fd c) (S : FnScope N ps (defScope st)) (len : ∀ vs H Q E, sp vs H Q E → vs.length = ps.length)
    (body : ∀ (A : Around) (outer : List Env) (s : Shared) (H : Hp) (vs : List V) (Q : VK), A.guards = some [] → Room k (A.deeper (envOfC qual (defScope st) s.heap.objs.size f (.ref c))) → sp vs H Q E0 →
      ∃ t, PSs (cxOf CX0 P w K mg base N qual (defScope st) f (.ref c) A outer s H E0).nox (defBody st) t ∧ t { nx := fun _ H' => Q .non H', rt := Q } (start N vs) H) : FnG P w K mg base (k + 1) f fd ps sp := by
  obtain ⟨oc, od, kV, doc, pm, an, ct, osl, rfl, lk, hcd⟩ := F.ex
  refine ⟨len, fun A outer s H args us vs Q hg hr e0 hb r h => ?_⟩
  exact run_ofS (N := N) (ps := ps) lk hcd S hr e0 hb r (len _ _ _ _ h) fun hr' =>
    let ⟨t, h1, h2⟩ := body A outer s H vs Q hg hr' h
    ⟨t, h1.nox, h2⟩
end
section
variable {X : Cx} {pins : List (Addr × Obj)} {σ : L2.St} {H : Hp} {s : Shared}
/-- x() in the def that got the lambda: what the lambda raises is taken where the caller stands -/
theorem pe_actS {CXg : CXT} {Eg : XK} {Ng : List Str} {qg : Str} {sg : Scope} {g f c' : Addr} {cdg pm ctv : Value} {params : Arguments} {body : Expr} {scope : Scope} {k i : Nat} {a : Str} {pn : List (Addr × Obj)} {xe : Value → Shared → Prop} {W : WX} {tb : XK → TE} {p1 p2 : Pos}
    (I : Inv X pins σ H s) (L : LamS X.env.scope scope)
    (hf : s.heap.get? f = some (PySem.W.kla_obj "<lambda>" (X.env.qual ++ "<lambda>") params body scope (cloFrom X.env.cells scope.names []) pm c' ctv)) (hfn : H f = none) (hfr : f ∉ frs X.stack)
    (hbind : bindArgs (PySem.W.kla_fn "<lambda>" (X.env.qual ++ "<lambda>") params body scope (cloFrom X.env.cells scope.names []) pm (.ref c') ctv) ⟨[], []⟩ = pure [])
    (tk : Takes ((cxOf CXg X.prog X.w X.K X.mg X.base Ng qg sg g cdg X.A X.stack s H Eg).tr pn xe) W) (hr : Room (k + 1) (X.A.deeper (envOfC qg sg s.heap.objs.size g cdg)))
    (hbody : ∀ (A : Around) (outer : List Env) (s : Shared) (H : Hp) (E : XK), Room k (A.deeper (lamEnv X scope s.heap.objs.size f c')) → PE (lamCx X A outer s H E scope f c') body (tb E))
    (hN : Ng[i]? = some a) (hv : Vis sg a) (hd : (a == ("__debug__" : Str)) = false := by decide) (hcd : (a == ("__classdict__" : Str)) = false := by decide) :
    PE ((cxOf CXg X.prog X.w X.K X.mg X.base Ng qg sg g cdg X.A X.stack s H Eg).tr pn xe) (.Call (.Name a p1) [] [] p2)
      (fun σZ HZ Q => σZ[i]? = some (some (.ref f)) ∧ HZ c' = some (CodeO c' (X.env.qual ++ "<lambda>")) ∧ tb (fun cls d H' => W cls d σZ H') σ HZ Q) := by
  refine ⟨fun pinsZ sZ σZ HZ Q IZ ⟨hs, hc, ht⟩ => ?_⟩
  have name := (pe_var (pos := p1) (i := i) hN hv hd hcd).run pinsZ sZ σZ HZ (fun v H1 => v = .ref f ∧ H1 = HZ) IZ ⟨.ref f, hs, rfl, rfl⟩
  refine wpAny_Call_Name_kw (thn name fun u s1 ⟨v, H1, I1, r1, ev, eH⟩ => ?_)
  subst ev eH
  obtain rfl : u = Value.ref f := r1
  have there := I1.base.keep f _ hf hfn hfr (fun z => nomatch (show f ∈ ([] : List Addr) from z))
  have un : Un (frs X.stack) [] H H1 s.heap s1.heap := I1.base
  obtain ⟨⟨oc, vs, t, hoc, hdc, hvc⟩, _, _⟩ := I1.hok c' _ hc
  refine PySem.W.callWith_F0 ⟨_, _, _, _, there⟩ (wpAny_call (codeAny_mono (R := CR (L2.CX X.prog X.w) (envOfC qg sg s.heap.objs.size g cdg :: X.stack) X.prog X.w H1 s1 Q (fun cls d H' => W cls d σZ H')) ?_ fun r s' hq => ?_))
  · show codeAny (model X.prog X.w) (X.A.deeper (envOfC qg sg s.heap.objs.size g cdg)) (.call (.ref f) ⟨[], []⟩) _ s1
    refine PySem.W.kla_callFunE hr.depth there rfl L.co L.gen rfl ⟨c', oc, vs, t, rfl, hoc, hdc, hvc⟩ ?_
    rw [hbind]
    refine wpAny_pure (wpAny_newFunctionEnv (fun y hy => (L.own y hy).2) (fun y hy => absurd hy (by simp)) (fun h₁ hns hsb => ⟨I1.nolimit.fresh _ hsb, ?_⟩) L.kind)
    have old : ∀ b o, s1.heap.get? b = some o → h₁.get? b = some o := fun b o e => hsb.extBut b o (Nat.ne_of_lt (Heap.lt_size e)) (Heap.get?_push_of_some _ e)
    have J := lam_start2 (f := f) (c' := c') (E := fun cls d H' => W cls d σZ H') (tk := s1.toks + ([] : List (Str × Value)).length) (A := X.A.deeper (envOfC qg sg s.heap.objs.size g cdg)) (outer := envOfC qg sg s.heap.objs.size g cdg :: X.stack) I L I1.env0 hr.hd un hns old
    refine PySem.W.kla_codeExpr (wpAny_mono ((hbody _ _ s1 H1 _ (hr.deeper _)).run [] _ _ H1 Q J ht) (fun v s' ⟨w', H', J', rv, q⟩ => ?_) fun e s' hq => hq)
    exact ⟨w', H', J'.os, J'.bare, J'.base, J'.hok, rv, q⟩
  · cases r with
    | error e => exact tk e s' (XE.of_call I1 (fun cls d H' h => h) hq)
    | ok fl =>
      cases fl with
      | ret u => exact I1.after hq
      | next => exact False.elim hq
      | brk => exact False.elim hq
      | cont => exact False.elim hq
end
/-- what the def that got the lambda makes of it: tl is the lambda's reading, the wish for what it raises first -/
def Gives (X : Cx) (Ng : List Str) (x : Str) (st : Stmt) (g : Addr) (a q : Str) (TT : (XK → Hp → VK → Prop) → Hp → VK → Prop) : Prop :=
  ∀ (cdg : Value) (f c' : Addr) (s : Shared) (H : Hp) (Q : VK) (tl : XK → Hp → VK → Prop),
    (∀ (W : WX) (pn : List (Addr × Obj)) (xe : Value → Shared → Prop) (p1 p2 : Pos), Takes ((cxOf CX0 X.prog X.w X.K X.mg X.base Ng x (defScope st) g cdg X.A X.stack s H E0).tr pn xe) W →
      PE ((cxOf CX0 X.prog X.w X.K X.mg X.base Ng x (defScope st) g cdg X.A X.stack s H E0).tr pn xe) (.Call (.Name a p1) [] [] p2)
        (fun σZ HZ Q => σZ[0]? = some (some (.ref f)) ∧ HZ c' = some (CodeO c' q) ∧ tl (fun cls d H' => W cls d σZ H') HZ Q)) →
    H c' = some (CodeO c' q) → TT tl H Q →
    ∃ t, PSs (cxOf CX0 X.prog X.w X.K X.mg X.base Ng x (defScope st) g cdg X.A X.stack s H E0).nox (defBody st) t ∧ t { nx := fun _ H' => Q .non H', rt := Q } (L2.start Ng [.ref f]) H
section
variable {X : Cx}
/-- x(lambda: body) -/
theorem pe_lam {T : List (Addr × Str)} {TT : (XK → Hp → VK → Prop) → Hp → VK → Prop} {x a : Str} {st : Stmt} {g c P : Addr} {k : Nat} {fd : FuncData} {Ng : List Str} {params : Arguments} {body : Expr} {scope : Scope} {t : XK → TE} {p lpos pos : Pos}
    (F : Fun X.K x x st g fd) (hb : L2.Binds X.K fd [a] []) (Sg : FnScope Ng [a] (defScope st)) (hva : Vis (defScope st) a) (hNg : Ng[0]? = some a) (hg : Gl X x) (hm : X.mg x = some (.ref g))
    (hG : Gives X Ng x st g a (X.env.qual ++ "<lambda>") TT) (TB : TabB X.base X.mg c P) (hcode : X.env.code = .ref c) (hmT : (P, X.env.qual ++ "<lambda>") ∈ T) (hu : ∀ p ∈ T, p.1 = P → p.2 = X.env.qual ++ "<lambda>")
    (hr : Room (k + 2) X.A) (L : LamS X.env.scope scope) (hdef : defaultsOf params X.env = ([], []))
    (hbind : ∀ (q : Str) (cl : List (Str × Addr)) (pm cv ctv : Value), bindArgs (PySem.W.kla_fn "<lambda>" q params body scope cl pm cv ctv) ⟨[], []⟩ = pure [])
    (hbody : ∀ (A : Around) (outer : List Env) (s : Shared) (H : Hp) (E : XK) (f c' : Addr), Room k (A.deeper (lamEnv X scope s.heap.objs.size f c')) → PE (lamCx X A outer s H E scope f c') body (t E))
    (hdb : (x == ("__debug__" : Str)) = false := by decide) (hd : (a == ("__debug__" : Str)) = false := by decide) (hcd : (a == ("__classdict__" : Str)) = false := by decide) :
    PE X (.Call (.Name x p) [.Lambda params body scope lpos] [] pos) (tLam T TT t) := by
  refine ⟨fun pins s σ H Q I ⟨hT, h⟩ => ?_⟩
  obtain ⟨oc, od, kV, doc, pm, an, cdv, ct, osl, rfl, lk, hcg⟩ := F.ex
  refine wpAny_Call_Name_kw (ld_glob I hg hm (PySem.W.callWith_K (h₀ := X.base) I.ok.mod.kin F.kp ?_ (by rfl) (by rfl)) hdb)
  refine Calls.spliced_cons (lam_make2 I TB hcode hmT hu hT hdef (L.has I.ok) fun f c' pm' ctv H1 s' I1 eN T1 hf hfn hfr hco => Calls.spliced_nil ⟨I1.kIn, ?_⟩)
  refine wpAny_call (codeAny_mono (R := CR CX0 X.stack X.prog X.w H1 s' Q E0) ?_ fun r s2 hq => ?_)
  · refine run_ofS (N := Ng) (ps := [a]) (us := [.ref f]) (vs := [.ref f]) lk hcg Sg hr I1.env0 (hb s' [.ref f] I1.kIn rfl) (.cons rfl .nil) rfl fun hr' => ?_
    obtain ⟨t', h1, h2⟩ := hG cdv f c' s' H1 Q (fun E H' Q' => t E σ H' Q') (fun W pn xe p1 p2 tk =>
      pe_actS (i := 0) I1 L hf hfn hfr (hbind _ _ _ _ _) tk hr' (fun A outer s H E hr2 => hbody A outer s H E f c' hr2) hNg hva hd hcd) hco (h H1 eN T1)
    exact ⟨t', h1.nox, h2⟩
  · cases r with
    | error e => exact (show False from hq).elim
    | ok fl =>
      cases fl with
      | ret u => exact I1.after hq
      | next => exact False.elim hq
      | brk => exact False.elim hq
      | cont => exact False.elim hq
/-- within a lambda: what a callee raises leaves the lambda -/
theorem passLam {A : Around} {outer : List Env} {s : Shared} {H : Hp} {E : XK} {scope : Scope} {f c' : Addr} : Passes (L2.CX X.prog X.w) (lamCx X A outer s H E scope f c') E :=
  passes_call (X := lamCx X A outer s H E scope f c') (W := fun cls d _ H => E cls d H) (takes_of rfl rfl rfl rfl) fun _ _ _ _ h => h
end
end Pk

/-! ## The end of a law that makes lambdas: the makers' tables are told, empty at first -/
namespace Pk
open PySem PySem.Spec PyProof.Rows L2 LamX
/-- the makers: code objects and their tables, in the heap in front of the law's call -/
structure Makers (K : PySem.W.Frag) (h : Heap) (cs : List (Addr × Addr)) : Prop where
  empty : ∀ p ∈ cs, h.get? p.2 = some { cls := .none, data := .fields #[] }
  out : ∀ p ∈ cs, K.lookup p.2 = none
  code : ∀ p ∈ cs, PySem.W.CodeHd h p.1 p.2
def hasTab (cs : List (Addr × Addr)) (b : Addr) : Prop := ∃ p ∈ cs, p.2 = b
theorem Makers.at {K : PySem.W.Frag} {h : Heap} {cs : List (Addr × Addr)} (M : Makers K h cs) {b : Addr} (hb : hasTab cs b) : h.get? b = some { cls := .none, data := .fields #[] } ∧ K.lookup b = none := by
  obtain ⟨p, hp, rfl⟩ := hb
  exact ⟨M.empty p hp, M.out p hp⟩
instance (cs : List (Addr × Addr)) (b : Addr) : Decidable (hasTab cs b) := by unfold hasTab; infer_instance
/-- what is told at the entry: the tables, and the script if the text does not hold it -/
def entryH (cs : List (Addr × Addr)) (u : Option (Addr × HO)) : Hp := fun b => match u with
  | some (a, o) => if b = a then some o else if hasTab cs b then some (.tbl #[]) else none
  | none => if hasTab cs b then some (.tbl #[]) else none
theorem enterGT {P : Program} {w : World} {K : PySem.W.Frag} {mg mb : Str → Option Value} {k : Nat} {fa a : Addr} {cs : List (Addr × Addr)} {fd : FuncData} {x : Str} {sp : Sp} {s₁ : Shared} {vs : List Value} {ns : List Int}
    (KX : K.In s₁.heap) (hns : s₁.heap.Ns mainGlobals mg) (hb : s₁.heap.Ns builtinsNs mb) (hbb : ∀ x : Str, x ≠ "__name__" → mb x = bootBuiltins x)
    (hlim : s₁.heap.NoLimit) (hg : s₁.gens = #[]) (M : Makers K s₁.heap cs)
    (hbm : ∃ (m : Addr) (om : Obj), mg "__builtins__" = some (.ref m) ∧ m ≠ builtinsNs ∧ s₁.heap.get? m = some om ∧ om.cls = .type "module" ∧ om.dict = some builtinsNs ∧ om.data = .plain)
    (ha : s₁.heap.get? a = some { cls := .type "list", data := .seq vs.toArray })
    (hi : IntsAre vs ns) (hl : ns.length ≤ sizeLine) (hr : Room k callerA)
    (F : ∀ base : Heap, K.In base → base.Ns mainGlobals mg → (∀ p ∈ cs, TabB base mg p.1 p.2) → FnG P w K mg base k fa fd [x] sp)
    (hbind : ∀ (s : Shared) (u : Value), BindsTo s fd ⟨[u], []⟩ [(x, u)])
    (hsp : ∀ H : Hp, (∀ p ∈ cs, H p.2 = some (.tbl #[])) → Bare K H a (ns.map V.int) → sp [.ref a] H (fun v _ => v = .bl true) E0) :
    codeAny (model P w) callerA (.call (.ref fa) ⟨[.ref a], []⟩)
      (fun r s' => r = .ok (.ret (.bool true)) ∧ OldK s₁.heap s'.heap ∧ s'.os = s₁.os ∧ AllBare s'.gens) s₁ := by
  have rv := vals_ints hi
  have notab : ¬ hasTab cs a := fun z => by
    have q := (M.at z).1
    rw [ha] at q
    exact nomatch (show Data.seq vs.toArray _ = Data.fields #[] from congrArg Obj.data (Option.some.inj q))
  have core : ∀ H : Hp, (∀ p ∈ cs, H p.2 = some (.tbl #[])) → (∀ b u, H b = some u → (hasTab cs b ∧ u = .tbl #[]) ∨ (b = a ∧ K.lookup a = none ∧ ∃ ob xs, u = .frz ob (.lst xs))) → Bare K H a (ns.map V.int) → HOk P w H s₁.heap →
      codeAny (model P w) callerA (.call (.ref fa) ⟨[.ref a], []⟩)
        (fun r s' => r = .ok (.ret (.bool true)) ∧ OldK s₁.heap s'.heap ∧ s'.os = s₁.os ∧ AllBare s'.gens) s₁ := by
    intro H hH hO hS hok
    have un : ∀ {b : Addr} {o : Obj}, s₁.heap.get? b = some o → (∀ z n, o.data ≠ .seq z n) → o.data ≠ .fields #[] → H b = none := by
      intro b o e d1 d2
      cases q : H b with
      | none => rfl
      | some u =>
        rcases hO b u q with ⟨ht, _⟩ | ⟨rfl, _⟩
        · rw [(M.at ht).1] at e
          cases e
          exact absurd rfl d2
        · rw [ha] at e
          cases e
          exact absurd rfl (d1 _ _)
    have unD : ∀ {b : Addr} {o : Obj} {es : Array DictEntry} {ep : Nat}, s₁.heap.get? b = some o → o.data = .dict es ep → H b = none := fun e d => un e (fun z n y => by rw [d] at y; cases y) (fun y => by rw [d] at y; cases y)
    have nsB : ∀ {b : Addr} {m : Str → Option Value}, s₁.heap.Ns b m → (hidT s₁.heap H).Ns b m :=
      fun {b m} ⟨o, es, ep, e, d, r⟩ => ⟨o, es, ep, hidT_get e (unD e d), d, r⟩
    have inB : K.In (hidT s₁.heap H) := by
      intro b o e
      refine hidT_get (KX b o e) ?_
      cases q : H b with
      | none => rfl
      | some u =>
        rcases hO b u q with ⟨ht, _⟩ | ⟨rfl, hk, _⟩
        · rw [(M.at ht).2] at e
          cases e
        · rw [hk] at e
          cases e
    have md : Mod K mg (hidT s₁.heap H) := ⟨inB, nsB hns, ⟨mb, nsB hb, hbb⟩, let ⟨mc, h1, h2⟩ := hlim; ⟨mc, nsB h1, h2⟩⟩
    have TB : ∀ p ∈ cs, TabB (hidT s₁.heap H) mg p.1 p.2 := by
      intro p hp
      have tp := M.empty p hp
      refine ⟨?_, ?_, fun z => ?_⟩
      · obtain ⟨o, us, f1, f2, f3, f4, f5, f6, f7, e1, r1, r2, r3, r⟩ := M.code p hp
        refine ⟨o, us, f1, f2, f3, f4, f5, f6, f7, hidT_get e1 (un e1 (fun z n y => ?_) fun y => ?_), r1, r2, r3, r⟩
        · rw [r2] at y
          cases y
        · rw [r2] at y
          injection y with y
          rw [y] at r3
          simp at r3
      · obtain ⟨m, om, b1, b2, b3, b4, b5, b6⟩ := hbm
        refine ⟨m, om, b1, b2, fun z => ?_, fun z => ?_, hidT_get b3 (un b3 (fun z n y => by rw [b6] at y; cases y) fun y => by rw [b6] at y; cases y), b4, b5, b6⟩
        · obtain ⟨o, es, ep, e, d, _⟩ := hns
          rw [z, e] at b3
          rw [← Option.some.inj b3, d] at b6
          cases b6
        · rw [z, tp] at b3
          rw [← Option.some.inj b3] at b6
          cases b6
      · obtain ⟨o, es, ep, e, d, _⟩ := hns
        rw [z, tp] at e
        rw [← Option.some.inj e] at d
        cases d
    have e0 : Env0 P w K mg (hidT s₁.heap H) callerA [] s₁ H :=
      ⟨rfl, md, fun b o e => of_hidT e, Nat.le_of_eq (hidT_size _ _), trivial, fun b z => absurd (show b ∈ ([] : List Addr) from z) (by simp), hok, .of_eq hg⟩
    refine codeAny_mono ((F _ inB (nsB hns) TB).runG callerA [] s₁ H ⟨[.ref a], []⟩ [.ref a] [.ref a] _ rfl hr e0 (hbind s₁ (.ref a)) (.cons rfl .nil) (hsp H hH hS)) ?_
    rintro (e | fl) s' h
    · exact (show False from h).elim
    · cases fl with
      | next => exact (show False from h).elim
      | brk => exact (show False from h).elim
      | cont => exact (show False from h).elim
      | ret u =>
        obtain ⟨v, H', os, bare, uu, hok', r', q⟩ := h
        obtain rfl : v = .bl true := q
        obtain rfl : u = Value.bool true := r'
        have still : ∀ b o, ¬ hasTab cs b → s₁.heap.get? b = some o → s'.heap.get? b = some o := by
          intro b o nt e
          cases q : H b with
          | none => exact uu.keep b o e q (fun z => absurd (show b ∈ ([] : List Addr) from z) (by simp)) (by simp)
          | some u =>
            rcases hO b u q with ⟨ht, _⟩ | ⟨_, _, ob, xs, rfl⟩
            · exact absurd ht nt
            · obtain ⟨e1, _⟩ := hok b _ q
              obtain ⟨e2, _⟩ := hok' b _ (uu.frzs b ob _ q)
              rw [e] at e1
              cases e1
              exact e2
        have more : ∀ p ∈ cs, ∃ ps : Array Value, s'.heap.get? p.2 = some { cls := .none, data := .fields ps } := fun p hp =>
          let ⟨_, z⟩ := uu.tbls p.2 #[] (hH p hp)
          ⟨_, hok' p.2 _ z⟩
        refine ⟨rfl, ⟨fun b o e => ?_, fun b o e => ?_⟩, os, bare⟩
        · by_cases ht : hasTab cs b
          · obtain ⟨p, hp, rfl⟩ := ht
            obtain ⟨ps, hm⟩ := more p hp
            rw [M.empty p hp] at e
            obtain rfl := Option.some.inj e
            exact .inr (.inl ⟨((M.code p hp).tab (M.empty p hp)).isCodeTable, rfl, #[], ps, rfl, by simpa using hm⟩)
          · exact .inl (still b o ht e)
        · by_cases ht : hasTab cs b
          · obtain ⟨p, hp, rfl⟩ := ht
            obtain ⟨ps, hm⟩ := more p hp
            exact ⟨_, hm⟩
          · exact ⟨o, still b o ht e⟩
  cases hk : K.lookup a with
  | some o =>
    have e := KX a o hk
    rw [ha] at e
    cases e
    have h0 : ∀ b, entryH cs none b = if hasTab cs b then some (.tbl #[]) else none := fun b => rfl
    refine core (entryH cs none) (fun p hp => by rw [h0, if_pos ⟨p, hp, rfl⟩]) (fun b u z => ?_) (.inr ⟨vs, 0, hk, rv⟩) (fun b u z => ?_)
    · rw [h0] at z
      split at z
      · exact .inl ⟨by assumption, (Option.some.inj z).symm⟩
      · cases z
    · rw [h0] at z
      split at z
      · rename_i ht
        obtain rfl := Option.some.inj z
        exact (M.at ht).1
      · cases z
  | none =>
    let fo : HO := .frz { cls := .type "list", data := .seq vs.toArray } (.lst (ns.map V.int))
    have ea : entryH cs (some (a, fo)) a = some fo := if_pos rfl
    have ne : ∀ b, b ≠ a → entryH cs (some (a, fo)) b = if hasTab cs b then some (.tbl #[]) else none := fun b hb => if_neg hb
    refine core (entryH cs (some (a, fo))) (fun p hp => ?_) (fun b u z => ?_) (.inl ⟨vs, 0, ea⟩) (fun b u z => ?_)
    · rw [ne p.2 (fun z => notab ⟨p, hp, z⟩), if_pos ⟨p, hp, rfl⟩]
    · by_cases hba : b = a
      · subst hba
        rw [ea] at z
        exact .inr ⟨rfl, hk, _, _, (Option.some.inj z).symm⟩
      · rw [ne b hba] at z
        split at z
        · exact .inl ⟨by assumption, (Option.some.inj z).symm⟩
        · cases z
    · by_cases hba : b = a
      · subst hba
        rw [ea] at z
        obtain rfl := Option.some.inj z
        exact ⟨ha, by rw [List.length_map]; exact hl, vs, _, rv, ha⟩
      · rw [ne b hba] at z
        split at z
        · rename_i ht
          obtain rfl := Option.some.inj z
          exact (M.at ht).1
        · cases z
/-- what the last theorem takes -/
theorem walkGT {l : PySem.W.OpenLaw} {k : Nat} {q : Program} {loose : List Str} {XP : (Str → Option Value) → Heap → Prop} {YP : World → Heap → Prop} {d : DefRec} {K : Params → PySem.W.Frag} {sp : PySem.W.Frag → List (Addr × Addr) → Sp} {x : Str}
    (hn : l.most = some 63) (hdf : d.params.defaults = []) (hr : Room k callerA) (hY : ∀ (w : World) (h : Heap), YP w h → (K w.params).In h)
    (F : ∀ (w : World) (mg : Str → Option Value) (fa : Addr) (h : Heap), YP w h → (K w.params).In h → h.Ns mainGlobals mg → mg d.name = some (.ref fa) →
      ∃ (fd : FuncData) (cs : List (Addr × Addr)), Makers (K w.params) h cs ∧ (∀ (s : Shared) (u : Value), BindsTo s fd ⟨[u], []⟩ [(x, u)]) ∧
        ∀ base : Heap, (K w.params).In base → base.Ns mainGlobals mg → (∀ p ∈ cs, TabB base mg p.1 p.2) → FnG l.prog w (K w.params) mg base k fa fd [x] (sp (K w.params) cs))
    (hsp : ∀ (K : PySem.W.Frag) (cs : List (Addr × Addr)) (H : Hp) (a : Addr) (ns : List Int), ns.length ≤ 63 → (∀ p ∈ cs, H p.2 = some (.tbl #[])) → Bare K H a (ns.map V.int) → sp K cs [.ref a] H (fun v _ => v = .bl true) E0) :
    PySem.W.WalkO q loose XP YP l.row.toRowW d [] (fun f vs => PySem.call f vs) := by
  refine Att.attach_call hn hdf ?_
  intro w s₀ s₁ mg mb fa o pm cd doc a vs ns G Y ho hd hcd hmg hobj hints hlen hg
  have KX := hY w _ Y
  obtain ⟨fd, cs, M, hb, hF⟩ := F w mg fa _ Y KX G.T.g hmg
  exact enterGT KX G.T.g G.T.b G.T.builtins G.T.nolimit hg M G.T.bmain hobj hints (Nat.le_trans hlen (by decide)) hr hF hb (fun H hH hS => hsp (K w.params) cs H a ns hlen hH hS)
end Pk

/-! ## Lambdas with one parameter that has a default, handed to a def that calls them without arguments -/
namespace Pk
open PySem PySem.Spec PyProof.Rows L2 LamX
/-- one parameter q, no other name of its own -/
structure LamD (sc scope : Scope) (q : Str) : Prop where
  kd : scope.kind = .function
  nc : scope.isCoroutine = false
  ng : scope.isGenerator = false
  at_ : scope.names.lookup q = some .local
  only : ∀ y ∈ scope.names, y.2 ≠ .cell ∧ (y.2 = .local → y.1 = q)
  fr : ∀ y ∈ scope.names, y.2 = .free → sc.names.lookup y.1 = some .cell ∨ sc.names.lookup y.1 = some .free
def lamDB (sc scope : Scope) (q : Str) : Bool :=
  decide (scope.kind = .function) && (!scope.isCoroutine && (!scope.isGenerator && (decide (scope.names.lookup q = some .local) && scope.names.all fun y =>
    !decide (y.2 = .cell) && ((!decide (y.2 = .local) || decide (y.1 = q)) && (!decide (y.2 = .free) || (decide (sc.names.lookup y.1 = some .cell) || decide (sc.names.lookup y.1 = some .free)))))))
theorem lamD_by {sc scope : Scope} {q : Str} (h : lamDB sc scope q = true) : LamD sc scope q := by
  unfold lamDB at h
  simp only [Bool.and_eq_true, Bool.or_eq_true, Bool.not_eq_true', decide_eq_true_eq, decide_eq_false_iff_not, List.all_eq_true] at h
  obtain ⟨a, b, c, d, e⟩ := h
  refine ⟨a, b, c, d, fun y hy => ⟨(e y hy).1, fun z => ?_⟩, fun y hy z => ?_⟩
  · rcases (e y hy).2.1 with k | k
    · exact absurd z k
    · exact k
  · rcases (e y hy).2.2 with k | k
    · exact absurd z k
    · exact k
theorem LamD.caught {X : Cx} {scope : Scope} {q : Str} (L : LamD X.env.scope scope q) (ok : X.Ok) : ∀ y ∈ scope.names, y.2 = .free → ∃ c, X.env.cells.lookup y.1 = some c := fun y hy e =>
  (L.fr y hy e).elim (fun k => ok.has _ (.inl k)) fun k => ok.has _ (.inr k)
section
variable {X : Cx} {pins : List (Addr × Obj)} {σ : L2.St} {H HZ : Hp} {s s1 : Shared}
theorem lam_startD {A : Around} {outer : List Env} {E : XK} {scope : Scope} {q : Str} {f c' : Addr} {hN : Heap} {tk : Nat} {m : Str → Option Value} (I : Inv X pins σ H s) (L : LamD X.env.scope scope q) (hq : q ∉ X.N) (e0 : Env0 X.prog X.w X.K X.mg X.base A outer s1 HZ) (hd : A.handled = none)
    (un : Un (frs X.stack) [] H HZ s.heap s1.heap) (ns : hN.Ns s1.heap.objs.size m) (old : ∀ b o, s1.heap.get? b = some o → hN.get? b = some o) :
    Inv (lamCx X A outer s1 HZ E scope f c') [] σ HZ { s1 with heap := hN, toks := tk } := by
  have caught := L.caught I.ok
  have up : ∀ {y c}, (cloFrom X.env.cells scope.names []).lookup y = some c → X.env.cells.lookup y = some c := fun {y c} e => by
    rcases cloFrom_mem (PySem.mem_of_lookup e) with z | ⟨z, z'⟩
    · exact nomatch z
    · obtain ⟨c1, k⟩ := caught _ z rfl
      have k : X.env.cells.lookup y = some c1 := k
      have : c = c1 := by
        rw [z', k] <;> rfl
      rw [this]
      exact k
  have dn : ∀ {y}, scope.names.lookup y = some .free → ∃ c, (cloFrom X.env.cells scope.names []).lookup y = some c := fun {y} k =>
    have k : (y, NameKind.free) ∈ scope.names := PySem.mem_of_lookup k
    mem_lookup (cloFrom_has (cells := X.env.cells) (acc := []) k)
  have stays : ∀ {c : Addr} {v : Option Value}, H c = none → s.heap.IsCell c v → hN.IsCell c v := fun {c v} n ⟨o, ho, z⟩ =>
    let ⟨_, k⟩ := un.any ho n (by simp)
    ⟨_, old _ _ k, z⟩
  have none_ : ∀ b : Addr, b ∉ (lamCx X A outer s1 HZ E scope f c').ex := fun b z => nomatch (show b ∈ ([] : List Addr) from z)
  refine ⟨⟨e0.mod, L.kd, rfl, rfl, Nat.le_refl _, fun y z c a b => I.ok.inj y z c (up a) (up b), fun y k => ?_, fun y c z _ => (nomatch (show false = true from z)), fun _ => hd, Around.frames_deeper e0.frames, .inr ⟨rfl, rfl⟩, fun b z => absurd z (none_ b), e0.bs, e0.bsz, fun b _ _ => none_ b,
      fun b z => absurd z (none_ b), e0.funs, e0.frf⟩,
    rfl, e0.bare, Un.kept old, ⟨_, ns, fun i y v a b k => ?_⟩, fun y c e => ?_, e0.hok.fresh (Nat.le_refl _), fun y c e => ?_, fun p hp => (nomatch (show p ∈ ([] : List (Addr × Obj)) ++ [] from hp)), e0.hok.kept old, I.len⟩
  · rcases (show scope.names.lookup y = some .cell ∨ scope.names.lookup y = some .free from k) with z | z
    · exact absurd rfl (L.only _ (PySem.mem_of_lookup z)).1
    · exact dn z
  · rcases (show Vis scope y from k) with z | z | z
    · exact absurd ((L.only _ (PySem.mem_of_lookup z)).2 rfl) fun w => hq (w ▸ List.mem_of_getElem? a)
    · exact absurd rfl (L.only _ (PySem.mem_of_lookup z)).1
    · obtain ⟨m', _, at'⟩ := I.loc
      have seen : Vis X.env.scope y := (L.fr _ (PySem.mem_of_lookup z) rfl).elim (fun k => .inr (.inl k)) fun k => .inr (.inr k)
      obtain ⟨u, r, w⟩ := at' i y v a b seen
      obtain ⟨c2, h2⟩ := dn z
      refine ⟨u, r, .inr ⟨.inr z, c2, h2, ?_⟩⟩
      have c1 := up h2
      rcases w with ⟨w, _⟩ | ⟨_, c3, w, g⟩
      · have w : X.env.scope.names.lookup y = some .local := w
        rcases L.fr _ (PySem.mem_of_lookup z) rfl with k2 | k2 <;> rw [show X.env.scope.names.lookup y = _ from k2] at w <;> cases w
      · obtain rfl := Option.some.inj (c1.symm.trans w)
        exact stays (I.freeC y _ c1) g
  · obtain ⟨u, z⟩ := I.cell y c (up e)
    exact ⟨u, stays (I.freeC y c (up e)) z⟩
  · obtain ⟨v, o, ho, _⟩ := I.cell y c (up e)
    exact un.free c o ho (I.freeC y c (up e)) (by simp)
/-- the lambda is made, behind the tuple of its default -/
theorem lam_makeD {T : List (Addr × Str)} {c P : Addr} {params : Arguments} {body : Expr} {scope : Scope} {pos : Pos} {d : Expr} {n : Int} {Q : Value → Shared → Prop} (I : Inv X pins σ H s) (TB : TabB X.base X.mg c P) (hcode : X.env.code = .ref c)
    (hm : (P, X.env.qual ++ "<lambda>") ∈ T) (hu : ∀ p ∈ T, p.1 = P → p.2 = X.env.qual ++ "<lambda>") (hT : Tabs T H) (hd : params.defaults = [d]) (hk0 : params.kw_defaults = []) (hp : PE X d fun σ H Q => Q (.int n) H)
    (caught : ∀ y ∈ scope.names, y.2 = .free → ∃ c, X.env.cells.lookup y.1 = some c)
    (h : ∀ (f c' t : Addr) (pm doc ctv u : Value) (H1 : Hp) (s' : Shared), RelV (.int n) u → Inv X pins σ H1 s' → ExtN H H1 → Tabs T H1 →
      s'.heap.get? f = some (PySem.W.kdv_obj "<lambda>" (X.env.qual ++ "<lambda>") params (.expr body) scope (cloFrom X.env.cells scope.names []) (.ref t) doc pm c' ctv) → H1 f = none → f ∉ frs X.stack →
      s'.heap.get? t = some (PySem.W.kdv_tup [u]) → H1 t = none → t ∉ frs X.stack → H1 c' = some (CodeO c' (X.env.qual ++ "<lambda>")) → Q (.ref f) s') :
    wpAny (model X.prog X.w) X.A (eval (.Lambda params body scope pos) X.env) Q X.xe s := by
  refine PySem.W.kdv_lam (by rw [hd]; rfl) hk0 ?_
  rw [hd]
  refine PySem.W.kdv_all1 (thn (hp.run pins s σ H (fun v H1 => v = .int n ∧ H1 = H) I ⟨rfl, rfl⟩) fun u s1 ⟨x, H1, I1, ru, ex, eH⟩ => PySem.W.kdv_all0 ?_)
  subst ex eH
  rw [PySem.makeFunction_eq]
  simp only [List.zip_nil_right, List.filterMap_nil, List.isEmpty_nil, if_true, pure_bind, List.isEmpty_cons, Bool.false_eq_true, if_false]
  refine wpAny_bind (wpAny_newTextTuple ?_)
  have out : ∀ b, s1.heap.objs.size ≤ b → b ∉ frs X.stack := fun b hb z => (List.mem_cons.mp (I1.stkSub _ z)).elim (fun e => Nat.lt_irrefl _ (Nat.lt_of_lt_of_le (e ▸ I1.lt) hb)) (fun e => I1.nofs hb e)
  have nt : H1 s1.heap.objs.size = none := I1.hok.fresh (Nat.le_refl _)
  have ot := out _ (Nat.le_refl _)
  have gt : (s1.heap.push (PySem.W.kdv_tup [u])).get? s1.heap.objs.size = some (PySem.W.kdv_tup [u]) := Heap.get?_push_size _ rfl
  have I2 : Inv X pins σ H1 { s1 with heap := s1.heap.push (PySem.W.kdv_tup [u]) } := I1.kept (t' := s1.toks) fun b o e => Heap.get?_push_of_some _ e
  have sz2 : s1.heap.objs.size < (s1.heap.push (PySem.W.kdv_tup [u])).objs.size := by rw [Heap.size_push]; omega
  revert I2
  show Inv X pins σ H1 ⟨s1.heap.push (PySem.W.kdv_tup [u]), s1.gens, s1.drawn, s1.toks, s1.os⟩ → wpAny _ _ (PySem.makeTail "<lambda>" (X.env.qual ++ "<lambda>") params (.expr body) scope X.env (.ref s1.heap.objs.size) .none none pos pos.line) _ _ ⟨s1.heap.push (PySem.W.kdv_tup [u]), s1.gens, s1.drawn, s1.toks, s1.os⟩
  generalize s1.heap.objs.size = t at *
  generalize s1.heap.push (PySem.W.kdv_tup [u]) = g2 at *
  intro I2
  obtain ⟨ps, tP, tOk, tAll⟩ := hT _ hm
  have bP := TB.bm.keeps I2.bk
  have gP : g2.get? P = some { cls := .none, data := .fields ps } := I2.hok P _ tP
  cases hc : codeAmong pos ps.toList with
  | some cv =>
    obtain ⟨c', rfl, co⟩ := tAll pos cv hc
    refine PySem.W.kdv_makeTailHit (mg := X.mg) (P := P) (ps := ps) (closure_ok caught) I2.ok.glob (I2.mod.glob.keeps I2.bk) hcode (TB.code.keeps I2.bk) gP tOk hc bP fun ctv doc h' tk old more => ?_
    have I3 : Inv X pins σ H1 { s1 with heap := h'.push (PySem.W.kdv_obj "<lambda>" (X.env.qual ++ "<lambda>") params (.expr body) scope (cloFrom X.env.cells scope.names []) (.ref t) doc ((X.mg "__name__").getD .none) c' ctv), toks := tk } :=
      I2.kept fun b o e => Heap.get?_push_of_some _ (old b o e)
    exact h _ c' t _ doc ctv u H1 _ ru I3 (ExtN.refl H1) hT (Heap.get?_push_size _ rfl) (I2.hok.fresh more) (out _ (Nat.le_trans (Nat.le_of_lt sz2) more)) (Heap.get?_push_of_some _ (old _ _ gt)) nt ot co
  | none =>
    refine PySem.W.kdv_makeTail (mg := X.mg) (c := c) (P := P) (ps := ps) (closure_ok caught) I2.ok.glob (I2.mod.glob.keeps I2.bk) hcode (TB.code.keeps I2.bk) gP tOk hc TB.gP bP fun c' ctv doc h' tk old more lt rec tab => ?_
    obtain ⟨c2, oc, vs, w, e2, o1, o2, o3⟩ := rec
    cases e2
    have sz : g2.objs.size ≤ h'.objs.size := Nat.le_trans more (Nat.le_of_lt lt)
    have nC : H1 c' = none := I2.hok.fresh more
    have I3 := inv_table (t' := tk) (more := #[rawInt pos.line, rawInt pos.col, .ref c'])
      (h' := h'.push (PySem.W.kdv_obj "<lambda>" (X.env.qual ++ "<lambda>") params (.expr body) scope (cloFrom X.env.cells scope.names []) (.ref t) doc ((X.mg "__name__").getD .none) c' ctv)) I2 tP
      (fun b o z e => Heap.get?_push_of_some _ (old b o z e)) (Heap.get?_push_of_some _ tab) more ⟨oc, vs, w, Heap.get?_push_of_some _ o1, o2, o3⟩
    have nP : P ≠ c' := ne_of_none tP nC
    have eN : ExtN H1 (upd (upd H1 P (.tbl (ps ++ #[rawInt pos.line, rawInt pos.col, .ref c']))) c' (CodeO c' (X.env.qual ++ "<lambda>"))) := fun b o e no => by
      rw [upd_ne (ne_of_none e nC), upd_ne (fun z => no ps (Option.some.inj (e.symm.trans (by rw [z]; exact tP))))]
      exact e
    have eL : (ps ++ #[rawInt pos.line, rawInt pos.col, .ref c']).toList = ps.toList ++ [rawInt pos.line, rawInt pos.col, .ref c'] := by simp
    have tT : t ≠ P := fun z => by
      rw [z, tP] at nt
      cases nt
    have ltc : t < c' := Nat.lt_of_lt_of_le sz2 more
    refine h h'.objs.size c' t _ doc ctv u _ _ ru I3 eN (fun p hp => ?_) (Heap.get?_push_size _ rfl) ?_ (out _ (Nat.le_trans (Nat.le_of_lt sz2) sz)) (Heap.get?_push_of_some _ (old _ _ tT gt)) ?_ ot upd_same
    · by_cases hb : p.1 = P
      · rw [hu p hp hb, hb]
        refine ⟨_, by rw [upd_ne nP, upd_same], by rw [eL]; exact PySem.TriplesOk_snoc _ _ _ _ tOk, fun pos' cv z => ?_⟩
        rw [eL] at z
        rcases among_app _ tOk z with z | z
        · obtain ⟨c0, a, b⟩ := tAll pos' cv z
          exact ⟨c0, a, eN _ _ b codeO_ne⟩
        · exact ⟨c', z, upd_same⟩
      · obtain ⟨qs, a1, a2, a3⟩ := hT p hp
        refine ⟨qs, by rw [upd_ne (ne_of_none a1 nC), upd_ne hb]; exact a1, a2, fun pos' cv z => ?_⟩
        obtain ⟨c0, a, b⟩ := a3 pos' cv z
        exact ⟨c0, a, eN _ _ b codeO_ne⟩
    · have n2 : h'.objs.size ≠ P := Nat.ne_of_gt (Nat.lt_of_lt_of_le (Heap.lt_size gP) sz)
      rw [upd_ne (Nat.ne_of_gt lt), upd_ne n2]
      exact I2.hok.fresh sz
    · rw [upd_ne (Nat.ne_of_lt ltc), upd_ne tT]
      exact nt
/-- how such a lambda binds, called without arguments -/
def BindD (params : Arguments) (body : Expr) (scope : Scope) (q : Str) : Prop := ∀ (qn : Str) (cl : List (Str × Addr)) (t : Addr) (doc pm cv ctv u : Value),
  ∃ k, bindArgs (PySem.W.kdv_fn "<lambda>" qn params (.expr body) scope cl (.ref t) doc pm cv ctv) ⟨[], []⟩ = seqItems? (.ref t) >>= k ∧ k (some #[u]) = pure [(q, u)]
/-- x() in the def that got such a lambda -/
theorem pe_actD {CXg : CXT} {Eg : XK} {Ng : List Str} {qg : Str} {sg : Scope} {g f c' t : Addr} {cdg pm doc ctv u : Value} {params : Arguments} {body : Expr} {scope : Scope} {q : Str} {k i : Nat} {a : Str} {pn : List (Addr × Obj)} {xe : Value → Shared → Prop} {W : WX} {tb : XK → TE} {p1 p2 : Pos}
    (I : Inv X pins σ H s) (L : LamD X.env.scope scope q) (hq : q ∉ X.N)
    (hf : s.heap.get? f = some (PySem.W.kdv_obj "<lambda>" (X.env.qual ++ "<lambda>") params (.expr body) scope (cloFrom X.env.cells scope.names []) (.ref t) doc pm c' ctv)) (hfn : H f = none) (hfr : f ∉ frs X.stack)
    (hu : s.heap.get? t = some (PySem.W.kdv_tup [u])) (hun : H t = none) (hur : t ∉ frs X.stack) (hbind : BindD params body scope q)
    (tk : Takes ((cxOf CXg X.prog X.w X.K X.mg X.base Ng qg sg g cdg X.A X.stack s H Eg).tr pn xe) W) (hr : Room (k + 1) (X.A.deeper (envOfC qg sg s.heap.objs.size g cdg)))
    (hbody : ∀ (A : Around) (outer : List Env) (s : Shared) (H : Hp) (E : XK), Room k (A.deeper (lamEnv X scope s.heap.objs.size f c')) → PE (lamCx X A outer s H E scope f c') body (tb E))
    (hN : Ng[i]? = some a) (hv : Vis sg a) (hd : (a == ("__debug__" : Str)) = false := by decide) (hcd : (a == ("__classdict__" : Str)) = false := by decide) :
    PE ((cxOf CXg X.prog X.w X.K X.mg X.base Ng qg sg g cdg X.A X.stack s H Eg).tr pn xe) (.Call (.Name a p1) [] [] p2)
      (fun σZ HZ Q => σZ[i]? = some (some (.ref f)) ∧ HZ c' = some (CodeO c' (X.env.qual ++ "<lambda>")) ∧ tb (fun cls d H' => W cls d σZ H') σ HZ Q) := by
  refine ⟨fun pinsZ sZ σZ HZ Q IZ ⟨hs, hc, hb⟩ => ?_⟩
  have name := (pe_var (pos := p1) (i := i) hN hv hd hcd).run pinsZ sZ σZ HZ (fun v H1 => v = .ref f ∧ H1 = HZ) IZ ⟨.ref f, hs, rfl, rfl⟩
  refine wpAny_Call_Name_kw (thn name fun w s1 ⟨v, H1, I1, r1, ev, eH⟩ => ?_)
  subst ev eH
  obtain rfl : w = Value.ref f := r1
  have none_ : ∀ b : Addr, b ∉ ([] : List Addr) := fun b z => nomatch z
  have thereF := I1.base.keep f _ hf hfn hfr (none_ f)
  have thereT := I1.base.keep t _ hu hun hur (none_ t)
  have un : Un (frs X.stack) [] H H1 s.heap s1.heap := I1.base
  obtain ⟨⟨oc, vs, tq, hoc, hdc, hvc⟩, _, _⟩ := I1.hok c' _ hc
  refine PySem.W.callWith_F0 ⟨_, _, _, _, thereF⟩ (wpAny_call (codeAny_mono (R := CR (L2.CX X.prog X.w) (envOfC qg sg s.heap.objs.size g cdg :: X.stack) X.prog X.w H1 s1 Q (fun cls d H' => W cls d σZ H')) ?_ fun r s' hq' => ?_))
  · show codeAny (model X.prog X.w) (X.A.deeper (envOfC qg sg s.heap.objs.size g cdg)) (.call (.ref f) ⟨[], []⟩) _ s1
    refine PySem.W.kla_callFunE hr.depth thereF rfl L.nc L.ng rfl ⟨c', oc, vs, tq, rfl, hoc, hdc, hvc⟩ ?_
    obtain ⟨kk, b1, b2⟩ := hbind (X.env.qual ++ "<lambda>") (cloFrom X.env.cells scope.names []) t doc pm (.ref c') ctv u
    refine BindsTo.of_defaults (T := t) rfl thereT rfl b1 b2 _ _ _ _ ?_
    refine wpAny_newFunctionEnv (fun y hy => (L.only y hy).1) (fun y hy => ?_) (fun hN' ns' hsb => ⟨I1.nolimit.fresh _ hsb, ?_⟩) L.kd
    · rw [List.mem_singleton.mp hy]
      exact L.at_
    have old : ∀ b o, s1.heap.get? b = some o → hN'.get? b = some o := fun b o e => hsb.extBut b o (Nat.ne_of_lt (Heap.lt_size e)) (Heap.get?_push_of_some _ e)
    have J := lam_startD (f := f) (c' := c') (E := fun cls d H' => W cls d σZ H') (tk := s1.toks + ([(q, u)] : List (Str × Value)).length) (A := X.A.deeper (envOfC qg sg s.heap.objs.size g cdg)) (outer := envOfC qg sg s.heap.objs.size g cdg :: X.stack) I L hq I1.env0 hr.hd un ns' old
    refine PySem.W.kla_codeExpr (wpAny_mono ((hbody _ _ s1 H1 _ (hr.deeper _)).run [] _ _ H1 Q J hb) (fun v s' ⟨w', H', J', rv, q'⟩ => ?_) fun e s' z => z)
    exact ⟨w', H', J'.os, J'.bare, J'.base, J'.hok, rv, q'⟩
  · cases r with
    | error e => exact tk e s' (XE.of_call I1 (fun cls d H' h => h) hq')
    | ok fl =>
      cases fl with
      | ret w => exact I1.after hq'
      | next => exact False.elim hq'
      | brk => exact False.elim hq'
      | cont => exact False.elim hq'
end
/-- what the def that got the lambda makes of it, where there is room for j calls -/
def GivesR (j : Nat) (X : Cx) (Ng : List Str) (x : Str) (st : Stmt) (g : Addr) (a q : Str) (TT : (XK → Hp → VK → Prop) → Hp → VK → Prop) : Prop :=
  ∀ (cdg : Value) (f c' : Addr) (s : Shared) (H : Hp) (Q : VK) (tl : XK → Hp → VK → Prop), Room j (X.A.deeper (envOfC x (defScope st) s.heap.objs.size g cdg)) →
    (∀ (W : WX) (pn : List (Addr × Obj)) (xe : Value → Shared → Prop) (p1 p2 : Pos), Takes ((cxOf CX0 X.prog X.w X.K X.mg X.base Ng x (defScope st) g cdg X.A X.stack s H E0).tr pn xe) W →
      PE ((cxOf CX0 X.prog X.w X.K X.mg X.base Ng x (defScope st) g cdg X.A X.stack s H E0).tr pn xe) (.Call (.Name a p1) [] [] p2)
        (fun σZ HZ Q => σZ[0]? = some (some (.ref f)) ∧ HZ c' = some (CodeO c' q) ∧ tl (fun cls d H' => W cls d σZ H') HZ Q)) →
    H c' = some (CodeO c' q) → TT tl H Q →
    ∃ t, PSs (cxOf CX0 X.prog X.w X.K X.mg X.base Ng x (defScope st) g cdg X.A X.stack s H E0).nox (defBody st) t ∧ t { nx := fun _ H' => Q .non H', rt := Q } (L2.start Ng [.ref f]) H
section
variable {X : Cx}
/-- x(lambda: body), with room -/
theorem pe_lamR {T : List (Addr × Str)} {TT : (XK → Hp → VK → Prop) → Hp → VK → Prop} {x a : Str} {st : Stmt} {g c P : Addr} {k : Nat} {fd : FuncData} {Ng : List Str} {params : Arguments} {body : Expr} {scope : Scope} {t : XK → TE} {p lpos pos : Pos}
    (F : Fun X.K x x st g fd) (hb : L2.Binds X.K fd [a] []) (Sg : FnScope Ng [a] (defScope st)) (hva : Vis (defScope st) a) (hNg : Ng[0]? = some a) (hg : Gl X x) (hm : X.mg x = some (.ref g))
    (hG : GivesR (k + 1) X Ng x st g a (X.env.qual ++ "<lambda>") TT) (TB : TabB X.base X.mg c P) (hcode : X.env.code = .ref c) (hmT : (P, X.env.qual ++ "<lambda>") ∈ T) (hu : ∀ p ∈ T, p.1 = P → p.2 = X.env.qual ++ "<lambda>")
    (hr : Room (k + 2) X.A) (L : LamS X.env.scope scope) (hdef : defaultsOf params X.env = ([], []))
    (hbind : ∀ (q : Str) (cl : List (Str × Addr)) (pm cv ctv : Value), bindArgs (PySem.W.kla_fn "<lambda>" q params body scope cl pm cv ctv) ⟨[], []⟩ = pure [])
    (hbody : ∀ (A : Around) (outer : List Env) (s : Shared) (H : Hp) (E : XK) (f c' : Addr), Room k (A.deeper (lamEnv X scope s.heap.objs.size f c')) → PE (lamCx X A outer s H E scope f c') body (t E))
    (hdb : (x == ("__debug__" : Str)) = false := by decide) (hd : (a == ("__debug__" : Str)) = false := by decide) (hcd : (a == ("__classdict__" : Str)) = false := by decide) :
    PE X (.Call (.Name x p) [.Lambda params body scope lpos] [] pos) (tLam T TT t) := by
  refine ⟨fun pins s σ H Q I ⟨hT, h⟩ => ?_⟩
  obtain ⟨oc, od, kV, doc, pm, an, cdv, ct, osl, rfl, lk, hcg⟩ := F.ex
  refine wpAny_Call_Name_kw (ld_glob I hg hm (PySem.W.callWith_K (h₀ := X.base) I.ok.mod.kin F.kp ?_ (by rfl) (by rfl)) hdb)
  refine Calls.spliced_cons (lam_make2 I TB hcode hmT hu hT hdef (L.has I.ok) fun f c' pm' ctv H1 s' I1 eN T1 hf hfn hfr hco => Calls.spliced_nil ⟨I1.kIn, ?_⟩)
  refine wpAny_call (codeAny_mono (R := CR CX0 X.stack X.prog X.w H1 s' Q E0) ?_ fun r s2 hq => ?_)
  · refine run_ofS (N := Ng) (ps := [a]) (us := [.ref f]) (vs := [.ref f]) lk hcg Sg hr I1.env0 (hb s' [.ref f] I1.kIn rfl) (.cons rfl .nil) rfl fun hr' => ?_
    obtain ⟨t', h1, h2⟩ := hG cdv f c' s' H1 Q (fun E H' Q' => t E σ H' Q') hr' (fun W pn xe p1 p2 tk =>
      pe_actS (i := 0) I1 L hf hfn hfr (hbind _ _ _ _ _) tk hr' (fun A outer s H E hr2 => hbody A outer s H E f c' hr2) hNg hva hd hcd) hco (h H1 eN T1)
    exact ⟨t', h1.nox, h2⟩
  · cases r with
    | error e => exact (show False from hq).elim
    | ok fl =>
      cases fl with
      | ret u => exact I1.after hq
      | next => exact False.elim hq
      | brk => exact False.elim hq
      | cont => exact False.elim hq
/-- x(lambda q = d: body) -/
theorem pe_lamD {T : List (Addr × Str)} {TT : (XK → Hp → VK → Prop) → Hp → VK → Prop} {x a q : Str} {st : Stmt} {g c P : Addr} {k : Nat} {fd : FuncData} {Ng : List Str} {params : Arguments} {body d : Expr} {scope : Scope} {t : XK → TE} {n : Int} {p lpos pos : Pos}
    (F : Fun X.K x x st g fd) (hb : L2.Binds X.K fd [a] []) (Sg : FnScope Ng [a] (defScope st)) (hva : Vis (defScope st) a) (hNg : Ng[0]? = some a) (hg : Gl X x) (hm : X.mg x = some (.ref g))
    (hG : GivesR (k + 1) X Ng x st g a (X.env.qual ++ "<lambda>") TT) (TB : TabB X.base X.mg c P) (hcode : X.env.code = .ref c) (hmT : (P, X.env.qual ++ "<lambda>") ∈ T) (hu : ∀ p ∈ T, p.1 = P → p.2 = X.env.qual ++ "<lambda>")
    (hr : Room (k + 2) X.A) (L : LamD X.env.scope scope q) (hq : q ∉ X.N) (hd : params.defaults = [d]) (hk0 : params.kw_defaults = []) (hp : PE X d fun σ H Q => Q (.int n) H) (hbind : BindD params body scope q)
    (hbody : ∀ (A : Around) (outer : List Env) (s : Shared) (H : Hp) (E : XK) (f c' : Addr), Room k (A.deeper (lamEnv X scope s.heap.objs.size f c')) → PE (lamCx X A outer s H E scope f c') body (t E))
    (hdb : (x == ("__debug__" : Str)) = false := by decide) (hda : (a == ("__debug__" : Str)) = false := by decide) (hcd : (a == ("__classdict__" : Str)) = false := by decide) :
    PE X (.Call (.Name x p) [.Lambda params body scope lpos] [] pos) (tLam T TT t) := by
  refine ⟨fun pins s σ H Q I ⟨hT, h⟩ => ?_⟩
  obtain ⟨oc, od, kV, doc, pm, an, cdv, ct, osl, rfl, lk, hcg⟩ := F.ex
  refine wpAny_Call_Name_kw (ld_glob I hg hm (PySem.W.callWith_K (h₀ := X.base) I.ok.mod.kin F.kp ?_ (by rfl) (by rfl)) hdb)
  refine Calls.spliced_cons (lam_makeD I TB hcode hmT hu hT hd hk0 hp (L.caught I.ok) fun f c' tt pm' doc' ctv u H1 s' ru I1 eN T1 hf hfn hfr hu' hun hur hco => Calls.spliced_nil ⟨I1.kIn, ?_⟩)
  refine wpAny_call (codeAny_mono (R := CR CX0 X.stack X.prog X.w H1 s' Q E0) ?_ fun r s2 hq2 => ?_)
  · refine run_ofS (N := Ng) (ps := [a]) (us := [.ref f]) (vs := [.ref f]) lk hcg Sg hr I1.env0 (hb s' [.ref f] I1.kIn rfl) (.cons rfl .nil) rfl fun hr' => ?_
    obtain ⟨t', h1, h2⟩ := hG cdv f c' s' H1 Q (fun E H' Q' => t E σ H' Q') hr' (fun W pn xe p1 p2 tk =>
      pe_actD (i := 0) I1 L hq hf hfn hfr hu' hun hur hbind tk hr' (fun A outer s H E hr2 => hbody A outer s H E f c' hr2) hNg hva hda hcd) hco (h H1 eN T1)
    exact ⟨t', h1.nox, h2⟩
  · cases r with
    | error e => exact (show False from hq2).elim
    | ok fl =>
      cases fl with
      | ret u => exact I1.after hq2
      | next => exact False.elim hq2
      | brk => exact False.elim hq2
      | cont => exact False.elim hq2
end
end Pk

/-! ## Own len, own `not in`, methods called by keyword, repr of an empty dict -/
namespace Pk
open PySem PySem.Spec PyProof.Rows L2
section
variable {X : Cx} {k n : Nat} {f C g : Addr} {fd : FuncData} {ps ks : List Str} {sp : Sp} {E : XK} {CX : CXT}
/-- y not in x, x an instance of the class at C -/
def rNotInO (C : Addr) (sp : Sp) (E : XK) : R2 := fun y x H Q => ∃ a dx fs, x = .ref a ∧ H a = some (.ins C dx fs) ∧ sp [x, y] H (fun z H' => ∃ c, z = .bl c ∧ Q (.bl (!c)) H') E
theorem op_notInO (hs : PySem.W.findIn X.K (.ref C) "__contains__" = some (some (.ref g))) (hf : PySem.W.isFn X.K (.ref g) = true) (F : FnR X.prog X.w X.K X.mg X.base CX n g sp) (hr : Room n X.A) (hx : Passes CX X E) :
    OpR X (compareOp .NotIn) (rNotInO C sp E) := by
  intro pins s σ H y x u v Q I ry rx h
  obtain ⟨a, dx, fs, rfl, ha, q⟩ := h
  obtain rfl : v = Value.ref a := rx
  obtain ⟨mA, O, _⟩ := ins_get I.hok ha
  obtain ⟨od, J, _⟩ := O.look
  obtain ⟨m, hF⟩ := I.fr
  have run := wpAny_call (run_fnR (us := [.ref a, u]) (vs := [.ref a, y]) F hr hx I (.cons rfl (.cons ry .nil)) q)
  refine PySem.W.notIn_K hF I.ok.mod.kin J hs hf (thn run fun w s' ⟨z', H', I', rz, c, ez, qz⟩ => ?_)
  subst ez
  obtain rfl : w = Value.bool c := rz
  exact wpAny_truthy_bool ⟨.bl (!c), H', I', rfl, qz⟩
/-- len(x) of an instance -/
def rLenO (C : Addr) (sp : Sp) (E : XK) : List V → Hp → VK → Prop := fun xs H Q => ∃ a dx fs, xs = [.ref a] ∧ H a = some (.ins C dx fs) ∧ sp [.ref a] H (fun z H' => ∃ n : Nat, z = .int (n : Int) ∧ n ≤ sizeLine ∧ Q (.int (n : Int)) H') E
theorem call_lenO (hs : PySem.W.findIn X.K (.ref C) "__len__" = some (some (.ref g))) (hf : PySem.W.isFn X.K (.ref g) = true) (F : FnR X.prog X.w X.K X.mg X.base CX n g sp) (hr : Room (n + 1) X.A) (hx : Passes CX X E) :
    CallR X (.builtin "len") (rLenO C sp E) := by
  intro pins s σ H xs us Q I r h
  obtain ⟨a, dx, fs, rfl, ha, q⟩ := h
  obtain ⟨u, rfl, ru⟩ := vals1 r
  obtain rfl : u = Value.ref a := ru
  obtain ⟨mA, O, _⟩ := ins_get I.hok ha
  obtain ⟨od, J, _⟩ := O.look
  refine Calls.call_function_entry kind_len plain_len entry_len (args_len1 _) ?_
  unfold Builtin.«len»
  refine wpAny_bind (m := oneArg "len" _) (wpAny_pure ?_)
  have hr1 : Room n X.A.in1 := Room.in1 hr
  have run := wpAny_call (SlX.run_at (us := [.ref a]) (ws := [.ref a]) F hr1 I.env0.in1 hx I (.cons rfl .nil) q)
  refine wpAny_bind (m := callSpecial? (.ref a) (Str.ofString "__len__")) (PySem.W.special_fn I.kIn J hs (beq_iff_eq.mp hf) (thn run fun w s' ⟨z', H', I', rz, m, ez, hm, qz⟩ => ?_))
  subst ez
  obtain ⟨tk, rfl⟩ := (show ∃ t, w = Value.int (m : Int) t from rz)
  rw [sizeLine_eq] at hm
  refine wpAny_bind (wpAny_holding (wpAny_pure ?_))
  refine wpAny_bind (wpAny_letGo ?_)
  have neg : ¬ (((m : Nat) : Int) < 0) := by omega
  have big : ¬ (((m : Nat) : Int) ≥ 2 ^ 63) := by omega
  show wpAny _ _ (if ((m : Nat) : Int) < 0 then _ else _) _ _ _
  rw [if_neg neg]
  show wpAny _ _ (if ((m : Nat) : Int) ≥ 2 ^ 63 then _ else _) _ _ _
  rw [if_neg big]
  exact wpAny_bind (wpAny_mkInt (wpAny_pure ⟨_, rfl, ⟨.int (m : Int), H', I'.tok _, ⟨_, rfl⟩, qz⟩⟩))
/-- o.m(e, .., k = v, ..) -/
def tMethKA (C : Addr) (m : Str) (n j : Nat) (sp : Sp) (gV : List V → List V → List V) (E : XK) (ta : TE) (t tk : TA) : TE := fun σ H Q => ta σ H fun x H1 => ∃ a dx fs, x = .ref a ∧ H1 a = some (.ins C dx fs) ∧ fs.lookup m = none ∧
  t σ H1 fun vs H2 => tk σ H2 fun zs H3 => vs.length = n ∧ zs.length = j ∧ sp (gV (x :: vs) zs) H3 Q E
theorem run_methK {pins : List (Addr × Obj)} {σ : L2.St} {H : Hp} {s : Shared} {Q : VK} {us ws : List Value} {vs zs : List V} {gU : List Value → List Value → List Value} {gV : List V → List V → List V} (F : FnOk X.prog X.w X.K X.mg X.base CX k f fd ps sp) (hr : Room k X.A)
    (hb : KBn X.K fd ps n ks gU gV) (hx : Passes CX X E) (I : Inv X pins σ H s) (r : Vals vs us) (rz : Vals zs ws) (l1 : vs.length = n) (l2 : zs.length = ks.length) (h : sp (gV vs zs) H Q E) :
    wpAny (model X.prog X.w) X.A (call (.ref f) us (ks.zip ws)) (EP X pins σ Q) X.xe s := by
  refine wpAny_call (codeAny_mono (F.run X.A X.stack s H ⟨us, ks.zip ws⟩ (gU us ws) (gV vs zs) Q E hr I.env0 (hb.to s us ws I.kIn (r.length.symm.trans l1) (rz.length.symm.trans l2)) (hb.rel r rz) h) fun r s' hq => ?_)
  cases r with
  | error e => exact hx pins σ H s e s' I hq
  | ok fl =>
    cases fl with
    | ret u => exact I.after hq
    | next => exact False.elim hq
    | brk => exact False.elim hq
    | cont => exact False.elim hq
theorem pe_methKA {o e : Expr} {es : List Expr} {kws : List Keyword} {m : Str} {pos apos : Pos} {ta : TE} {t tk : TA} {pl : Sem Bool} {gU : List Value → List Value → List Value} {gV : List V → List V → List V} (he : PE X o ta) (c : Cls X.K C) (hm : Meth X.K C m f)
    (F : FnOk X.prog X.w X.K X.mg X.base CX k f fd ps sp) (hr : Room k X.A) (hb : KBn X.K fd ps (n + 1) ks gU gV) (hx : Passes CX X E) (ha : PA X (e :: es) t) (hkw : PK X kws tk)
    (hall : (backToKw pos (keywordEach kws X.env)).all (·.1.isSome) = true := by rfl) (hks : (backToKw pos (keywordEach kws X.env)).filterMap (·.1) = ks := by rfl)
    (hst : starEach (e :: es) X.env = (false, eval e X.env) :: starEach es X.env := by rfl) (hpl : ((backTo pos (starEach (e :: es) X.env)).any (·.1) || (backToKw pos (keywordEach kws X.env)).any (·.1.isNone)) = false := by rfl)
    (ht : eval (.Call (.Attribute o m apos) (e :: es) kws pos) X.env = (do
      let ov ← eval o X.env
      standAt apos.atName
      let (f, first) ← holding [ov] (getMethod ov m pl)
      callWith pos f first (backTo pos (starEach (e :: es) X.env)) (backToKw pos (keywordEach kws X.env))) := by rfl) :
    PE X (.Call (.Attribute o m apos) (e :: es) kws pos) (tMethKA C m n ks.length sp gV E ta t tk) := by
  refine ⟨fun pins s σ H Q I h => ?_⟩
  refine PySem.W.methodCall_KW (pl := pl) (thn (he.run pins s σ H _ I h) fun u s1 ⟨x, H1, I1, rx, a, dx, fs, ex, ea, l, q⟩ => ?_) ht
  subst ex
  obtain rfl : u = Value.ref a := rx
  refine getmeth_ok I1 ea c hm l ?_
  refine PySem.W.callWith_KW (first := [.ref a]) (h₀ := X.base) I.ok.mod.kin hm.kp hall (thn (ha.run pos pins s1 σ H1 _ I1 q) fun us s2 ⟨vs, H2, I2, r, q2⟩ => ?_) hpl hst
  refine thn (hkw.run pos pins s2 σ H2 _ I2 q2) fun ws s3 ⟨zs, H3, I3, rz, l1, l2, q3⟩ => ⟨I3.kIn, ?_⟩
  rw [hks]
  exact run_methK (us := .ref a :: us) (vs := .ref a :: vs) F hr hb hx I3 (.cons rfl r) rz (by rw [List.length_cons, l1]) l2 q3
/-- o.m(k = v, ..) -/
theorem pe_methK0 {o : Expr} {kws : List Keyword} {m : Str} {pos apos : Pos} {ta : TE} {tk : TA} {pl : Sem Bool} {gU : List Value → List Value → List Value} {gV : List V → List V → List V} (he : PE X o ta) (c : Cls X.K C) (hm : Meth X.K C m f)
    (F : FnOk X.prog X.w X.K X.mg X.base CX k f fd ps sp) (hr : Room k X.A) (hb : KBn X.K fd ps 1 ks gU gV) (hx : Passes CX X E) (hkw : PK X kws tk)
    (hall : (backToKw pos (keywordEach kws X.env)).all (·.1.isSome) = true := by rfl) (hks : (backToKw pos (keywordEach kws X.env)).filterMap (·.1) = ks := by rfl)
    (hpl : ((backTo pos (starEach [] X.env)).any (·.1) || (backToKw pos (keywordEach kws X.env)).any (·.1.isNone)) = false := by rfl)
    (ht : eval (.Call (.Attribute o m apos) [] kws pos) X.env = (do
      let ov ← eval o X.env
      standAt apos.atName
      let (f, first) ← holding [ov] (getMethod ov m pl)
      callWith pos f first (backTo pos (starEach [] X.env)) (backToKw pos (keywordEach kws X.env))) := by rfl) :
    PE X (.Call (.Attribute o m apos) [] kws pos) (tMethKA C m 0 ks.length sp gV E ta tNil tk) := by
  refine ⟨fun pins s σ H Q I h => ?_⟩
  refine PySem.W.methodCall_KW (pl := pl) (thn (he.run pins s σ H _ I h) fun u s1 ⟨x, H1, I1, rx, a, dx, fs, ex, ea, l, q⟩ => ?_) ht
  subst ex
  obtain rfl : u = Value.ref a := rx
  refine getmeth_ok I1 ea c hm l ?_
  refine PySem.W.callWith_KW0 (first := [.ref a]) (h₀ := X.base) I.ok.mod.kin hm.kp hall ?_ hpl
  refine thn (hkw.run pos pins s1 σ H1 _ I1 q) fun ws s3 ⟨zs, H3, I3, rz, l1, l2, q3⟩ => ⟨I3.kIn, ?_⟩
  rw [hks]
  exact run_methK (us := [.ref a]) (vs := [.ref a]) F hr hb hx I3 (.cons rfl .nil) rz rfl l2 q3
/-- repr of an empty dict -/
def rReprE : List V → Hp → VK → Prop := fun xs H Q => ∃ dd : Addr, xs = [.ref dd] ∧ H dd = some (.dK []) ∧ Q (.str (PyData.shown (.dict []))) H
theorem call_reprE (hgu : X.A.guards = some []) (hu : X.A.units + 64 < cLine) : CallR X (.builtin "repr") rReprE := by
  intro pins s σ H xs us Q I r h
  obtain ⟨dd, rfl, hd, q⟩ := h
  obtain ⟨u, rfl, rx⟩ := vals1 r
  obtain rfl : u = Value.ref dd := rx
  obtain ⟨_, hS, vs, rk, m⟩ : ([] : List (Key × V)).length ≤ sizeLine ∧ (dd == sysModules) = false ∧ ∃ vs, KV [] vs ∧ s.heap.DictOf (mixKind X.prog X.w) dd vs := I.hok dd _ hd
  cases rk
  obtain ⟨od, es, ep, hod, hx, hdd, _, hp, _⟩ := m
  have none_ : es.toList = [] := by
    cases h : es.toList with
    | nil => rfl
    | cons e r =>
      rw [h] at hp
      cases hp
  have rd : Reads s.heap (.ref dd) (.dict []) _ := Reads.dict hod hx.1 hdd (by rw [none_]; exact ReadsAll.nil) (by rw [none_]; exact ReadsAll.nil)
  refine repr_of_reads' (h₀ := s.heap) rd (by decide +kernel) (fun _ => ?_) hgu (by show X.A.units + (1 + 1) < cLine; omega) (fun _ _ e => e) (fun h' v tk hk => ⟨.str _, H, I.kept hk, ⟨v, rfl⟩, q⟩) (by decide +kernel)
  have nd : dd ≠ sysModules := by
    rintro rfl
    simp at hS
  simp [Ne.symm nd]
end
end Pk

/-! ## if and for in a generator def's body -/
namespace Pk
open PySem PySem.Spec PyProof.Rows L2 GenW
section
variable {X : Cx} {pos : Pos} {tg : Expr}
def tGIf (tc : TT) (tb te : TGn) : TGn := fun D ys σ H => tc σ H fun b H1 => if b = true then tb D ys σ H1 else te D ys σ H1
theorem gs_if {test : Expr} {body orelse : List Stmt} {tc : TT} {tb te : TGn} (hc : PT X test tc) (hb : GSs X body tb) (he : GSs X orelse te) : GS X (.If test body orelse pos) (tGIf tc tb te) := by
  refine ⟨fun A S ip R n ys s₀ c fs K J gd lv s σ H D g hn k hI ht => ?_⟩
  show Seg _ _ _ _ n s₀ c (.at pos fun _ => ((isTrue test X.env (eval test X.env) >>= fun b => if b = true then execs body X.env else execs orelse X.env)).wrap K J gd lv) fs s
  refine seg_at ?_
  obtain ⟨acc, cc, r, I⟩ := hI
  refine seg_bind_wrap ?_
  rw [g.over]
  refine wpAny_mono (hc.run _ s σ H _ I ht) (fun b s1 hq => ?_) fun x s1 hx => k.exc n s₀ x s1 hx
  obtain ⟨H1, I1, q⟩ := hq
  cases b with
  | true => exact hb.run A S ip R n ys s₀ c fs K J gd lv s1 σ H1 D g hn k ⟨acc, cc, r, I1⟩ q
  | false => exact he.run A S ip R n ys s₀ c fs K J gd lv s1 σ H1 D g hn k ⟨acc, cc, r, I1⟩ q
def tGFor (wi : TI) (g : TG) (tb : TGn) : TGn := fun D ys σ H => wi σ H fun J H1 => ∃ W : Nat → Nat → List V → L2.St → Hp → Prop, (∃ m, W 0 m ys σ H1) ∧ ∀ i m ys σ H, W i m ys σ H →
  (J.stop i H ∧ D.nx ys σ H) ∨ (J.go i H ∧ ∃ N : List V → L2.St → Hp → Prop, (∀ ys' σ' H', N ys' σ' H' → ∃ m', m' < m ∧ W (i + 1) m' ys' σ' H') ∧ ∀ x H', J.yld i H x H' → g x σ H' fun σ2 H2 => tb { D with nx := N, ct := N, bk := D.nx } ys σ2 H2)
/-- what a for's turn does with an exception -/
def noted (env : Env) (x : Value) : Sem PySem.Fin := (do noteFrame x env; theTreesLotGoes x : Sem Unit).wrap (fun _ => .raise x) .raise id id
theorem seg_forLoop {prog : Program} {w : World} {A : Around} {R : GenEnd} {Y : Protocol} {n : Nat} {s₀ : Shared} {fs : List Frame} {s : Shared} {env : Env} {it : Value} {body : List Stmt}
    (h : wpAny (model prog w) (A.over (.forLoop tg it body [] env) fs) (pyNext it) (fun r s' => match r with
        | none => Seg (model prog w) A R Y n s₀ (.block [] env) ((model prog w).den (.block [] env)) fs s'
        | some v => wpAny (model prog w) (A.over (.forLoop tg it body [] env) fs) (letOwnedTupleGo tg it v) (fun _ s2 => wpAny (model prog w) (A.over (.forLoop tg it body [] env) fs) (assign tg env v) (fun _ s3 =>
            Seg (model prog w) A R Y n s₀ (.forLoop tg it body [] env) ((execs body env).wrap (fun f => match f with
              | .next | .cont => .pure (.again (.forLoop tg it body [] env))
              | .brk => .pure (.done .next)
              | .ret v => .pure (.done (.ret v))) (noted env) id id) fs s3)
            (fun x s3 => Seg (model prog w) A R Y n s₀ (.forLoop tg it body [] env) (noted env x) fs s3) s2)
            (fun x s2 => Seg (model prog w) A R Y n s₀ (.forLoop tg it body [] env) (noted env x) fs s2) s')
      (fun x s' => Seg (model prog w) A R Y n s₀ (.forLoop tg it body [] env) (noted env x) fs s') s) :
    Seg (model prog w) A R Y n s₀ (.forLoop tg it body [] env) ((model prog w).den (.forLoop tg it body [] env)) fs s := by
  show Seg _ A R Y n s₀ _ ((forTurn tg it body [] env).onRaise (fun x => do noteFrame x env; theTreesLotGoes x)) fs s
  have eH : ∀ e, (do noteFrame e env; theTreesLotGoes e : Sem Unit).bind (fun _ => (Sem.raise e : Sem PySem.Fin)) = noted env e := fun e => by
    unfold noted
    rw [Sem.bind_eq_wrap]
  unfold forTurn
  rw [Sem.onRaise_eq_wrap]
  refine seg_bind_wrap (wpAny_standAt ?_)
  refine seg_bind_wrap (wpAny_onRaise (wpAny_mono h (fun r s1 h1 => ?_) fun x s1 h1 => wpAny_standAt ?_))
  · cases r with
    | none =>
      show Seg _ A R Y n s₀ _ (.pure (.again (.block [] env))) fs s1
      exact seg_again rfl h1
    | some v =>
      refine seg_bind_wrap (wpAny_mono h1 (fun _ s2 h2 => ?_) fun x s2 h2 => by first | exact h2 | (rw [← eH] at h2; exact h2))
      refine seg_bind_wrap (wpAny_mono h2 (fun _ s3 h3 => ?_) fun x s3 h3 => by first | exact h3 | (rw [← eH] at h3; exact h3))
      rw [Sem.bind_eq_wrap', Sem.wrap_wrap]
      rw [Sem.wrap_congr (execs body env) _ _ (K' := fun f => match f with
            | .next | .cont => .pure (.again (.forLoop tg it body [] env))
            | .brk => .pure (.done .next)
            | .ret v => .pure (.done (.ret v))) (H' := noted env) (fun f => by cases f <;> rfl) (fun e => by exact eH e)]
      exact h3
  · first | exact h1 | (rw [← eH] at h1; exact h1)
/-- for x in e, in a generator def's body -/
theorem gs_for {iter : Expr} {body : List Stmt} {wi : TI} {gt : TG} {tb : TGn} (hp : PassesOwn (model X.prog X.w) X.A X.env X.xe) (hc : X.calm = true) (hi : PI X tg iter wi) (hg : PG X tg gt) (hb : GSs X body tb)
    (hs : ∀ x, foldedSetIterable iter X.env x = pure x := by intro _; rfl) : GS X (.For tg iter body [] pos) (tGFor wi gt tb) := by
  refine ⟨fun A S ip R n ys s₀ c fs K J gd lv s σ H D g hn k hI ht => ?_⟩
  show Seg _ _ _ _ n s₀ c (.at pos fun _ => ((eval iter X.env >>= fun v => (foldedSetIterable iter X.env v >>= fun x => (standAt iter.pos >>= fun _ => (holding [x] (pyIter x) >>= fun it => runOwn (.forLoop tg it body [] X.env) X.env))))).wrap K J gd lv) fs s
  refine seg_at ?_
  obtain ⟨acc, cc, r, I⟩ := hI
  refine seg_bind_wrap ?_
  rw [g.over]
  refine wpAny_mono (hi.run _ s σ H _ I ht) (fun v s1 h1 => ?_) fun x s1 hx => k.exc n s₀ x s1 hx
  refine seg_bind_wrap ?_
  rw [hs v]
  refine wpAny_pure (seg_bind_wrap (wpAny_standAt (seg_bind_wrap (wpAny_holding ?_))))
  rw [g.over]
  refine wpAny_mono h1 (fun itv s2 h2 => ?_) fun x s2 hx => k.exc n s₀ x s2 hx
  obtain ⟨it, fp, tn, JJ, H2, rfl, I2, T, st2, f2, W, ⟨m0, w0⟩, turn⟩ := h2
  refine seg_call fun p => ?_
  have gl := fun (kk : Result → Sem PySem.Fin) => gc_loop (k := kk) (c' := .forLoop tg (.ref it) body [] X.env) (l := lv []) (kp := []) (p := p) g rfl rfl
  have glb := fun (kk : Result → Sem PySem.Fin) => gc_loop (k := kk) (c' := .block [] X.env) (l := lv []) (kp := []) (p := p) g rfl rfl
  have stat : ∀ {a' : Array Value} {c' : Nat} {H' : Hp}, (∀ b ∈ fp, H' b = none) → ∀ b ∈ fp, FpOk X ((S, lstObj a' c') :: ip) H' b := fun {a' c' H'} hz b hbm => by
    obtain ⟨_, e1, e2, e3, e4, e5⟩ := f2 b hbm
    refine ⟨hz b hbm, e1, e2, e3, e4, fun q hq => ?_⟩
    rcases List.mem_append.mp hq with z | z
    · exact e5 q (List.mem_append_left _ z)
    · rcases List.mem_cons.mp z with z | z
      · rw [z]
        exact e5 (S, lstObj acc cc) (List.mem_append_right _ List.mem_cons_self)
      · exact e5 q (List.mem_append_right _ (List.mem_cons_of_mem _ z))
  have fpS : ∀ b ∈ fp, b ≠ S := fun b hbm z => (f2 b hbm).2.2.2.2.2 (S, lstObj acc cc) (List.mem_append_right _ List.mem_cons_self) z.symm
  have loop : ∀ (m i n : Nat) (ys : List V) (s₀ s : Shared) (σ : L2.St) (H : Hp), n + ys.length = sizeLine → W i m ys σ H → GI X S ip ys σ H s → tn i s.heap → (∀ b ∈ fp, H b = none) →
      Seg (model X.prog X.w) A R (GY X S) n s₀ (.forLoop tg (.ref it) body [] X.env) ((model X.prog X.w).den (.forLoop tg (.ref it) body [] X.env))
        (.ret (fun r => ((match r with | .ok f => (.pure f : Sem Flow) | .error e => .raise e).onRaise (cameBack X.env)).wrap K J gd lv) none (gd false) (lv []) c p [] :: fs) s := by
    intro m
    induction m using Nat.strongRecOn with
    | ind m ih =>
      intro i n ys s₀ s σ H hn w hI hst hfr
      have ee : ∀ (n : Nat) (s₀ : Shared) (x : Value) (s' : Shared), X.xe x s' → Seg (model X.prog X.w) A R (GY X S) n s₀ (.forLoop tg (.ref it) body [] X.env) (noted X.env x)
          (.ret (fun r => ((match r with | .ok f => (.pure f : Sem Flow) | .error e => .raise e).onRaise (cameBack X.env)).wrap K J gd lv) none (gd false) (lv []) c p [] :: fs) s' := fun n s₀ x s' hx => by
        unfold noted
        refine seg_wrap ?_
        rw [(gl _).over]
        refine wpAny_bind (wpAny_mono (hp x s' hx) (fun _ s'' hcb => wpAny_theTreesLotGoes ?_) fun y s'' hcb => ?_)
        · exact seg_leaf (.error x) (seg_cameBack g k hcb)
        · exact seg_leaf (.error y) (seg_cameBack g k hcb)
      refine seg_forLoop ?_
      rw [(gl _).over]
      obtain ⟨acc1, c1, r1, I1⟩ := hI
      rcases turn i m ys σ H w with ⟨stop, qn⟩ | ⟨go, N, hN, step⟩
      · refine wpAny_mono (T.done X rfl rfl rfl hc i _ s σ H X.xe I1 (stat hfr) hst stop) (fun r' s' ⟨hr, I4⟩ => ?_) fun x s' hx => ee n s₀ x s' hx
        subst hr
        show Seg _ _ _ _ n s₀ _ ((execs [] X.env).onRaise (fun x => do noteFrame x X.env; theTreesLotGoes x) >>= fun f => pure (Fin.done f)) _ s'
        exact seg_leaf (.ok .next) (k.ok n ys s₀ s' .next hn ⟨σ, H, ⟨acc1, c1, r1, I4⟩, qn⟩)
      · refine wpAny_mono (T.item X rfl rfl rfl hc i _ s σ H X.xe I1 (stat hfr) hst go) (fun r' s' ⟨u, hr, h4⟩ => ?_) fun x s' hx => ee n s₀ x s' hx
        subst hr
        refine wpAny_mono h4 (fun _ s5 h5 => ?_) fun x s' hx => ee n s₀ x s' hx
        obtain ⟨x, H5, I5, r5, y5, st5, fr5⟩ := h5
        have I5' := I5.pinned (stat fr5) (T.obj _ _ st5)
        refine wpAny_mono (hg.run _ s5 σ H5 x u _ I5' r5 (step x H5 y5)) (fun _ s6 h6 => ?_) fun x s' hx => ee n s₀ x s' hx
        obtain ⟨σ6, H6, I6, q6⟩ := h6
        have g2 : GC X S (ip ++ pinsAt fp s5.heap) A (.forLoop tg (.ref it) body [] X.env) (.ret (fun r => ((match r with | .ok f => (.pure f : Sem Flow) | .error e => .raise e).onRaise (cameBack X.env)).wrap K J gd lv) none (gd false) (lv []) c p [] :: fs) id :=
          { gl _ with ip := fun q hq => (List.mem_append.mp hq).elim (fun z => g.ip q z) fun z => fpS q.1 (of_pinsAt z).1 }
        have again : ∀ (n' : Nat) (ys' : List V) (s₀' s7 : Shared) (σ7 : L2.St) (H7 : Hp), n' + ys'.length = sizeLine → GI X S (ip ++ pinsAt fp s5.heap) ys' σ7 H7 s7 → N ys' σ7 H7 →
            Seg (model X.prog X.w) A R (GY X S) n' s₀' (.forLoop tg (.ref it) body [] X.env) (.pure (.again (.forLoop tg (.ref it) body [] X.env)))
              (.ret (fun r => ((match r with | .ok f => (.pure f : Sem Flow) | .error e => .raise e).onRaise (cameBack X.env)).wrap K J gd lv) none (gd false) (lv []) c p [] :: fs) s7 := fun n' ys' s₀' s7 σ7 H7 hn' hI7 n7 => by
          obtain ⟨m', hm, w7⟩ := hN ys' σ7 H7 n7
          obtain ⟨acc7, c7, r7, I7⟩ := hI7
          have at7 : ∀ b ∈ fp, ∀ o, s5.heap.get? b = some o → (s7.heap.get? b = some o ∧ H7 b = none) := fun b hbm o e => by
            have z := I7.pin (b, o) (List.mem_append_right _ (List.mem_cons_of_mem _ (List.mem_append_right _ (mem_pinsAt hbm e))))
            exact ⟨z.1, z.2.1⟩
          refine seg_again rfl (ih m' hm (i + 1) n' ys' s₀' s7 σ7 H7 hn' w7 ⟨acc7, c7, r7, ?_⟩ (T.keep _ _ _ st5 fun b hbm o e => (at7 b hbm o e).1) fun b hbm => ?_)
          · exact I7.pins_of fun q hq => I7.pin q (List.mem_append_right _ ((List.mem_cons.mp hq).elim (fun z => z ▸ List.mem_cons_self) fun z => List.mem_cons_of_mem _ (List.mem_append_left _ z)))
          · obtain ⟨o, e, _⟩ := T.obj _ _ st5 b hbm
            exact (at7 b hbm o e).2
        have out : ∀ {ys' : List V} {σ7 : L2.St} {H7 : Hp} {s7 : Shared}, GI X S (ip ++ pinsAt fp s5.heap) ys' σ7 H7 s7 → GI X S ip ys' σ7 H7 s7 := fun ⟨acc7, c7, r7, I7⟩ =>
          ⟨acc7, c7, r7, I7.pins_of fun q hq => I7.pin q (List.mem_append_right _ ((List.mem_cons.mp hq).elim (fun z => z ▸ List.mem_cons_self) fun z => List.mem_cons_of_mem _ (List.mem_append_left _ z)))⟩
        refine hb.run A S (ip ++ pinsAt fp s5.heap) R n ys s₀ _ _ _ _ id id s6 σ6 H6 { D with nx := N, ct := N, bk := D.nx } g2 hn ⟨fun n' ys' s₀' s7 f hn' hf => ?_, fun n' s₀' x s7 hx => ee n' s₀' x s7 hx⟩ ⟨acc1, c1, r1, I6⟩ q6
        cases f with
        | next =>
          obtain ⟨σ7, H7, I7, n7⟩ := hf
          exact again n' ys' s₀' s7 σ7 H7 hn' I7 n7
        | cont =>
          obtain ⟨σ7, H7, I7, n7⟩ := hf
          exact again n' ys' s₀' s7 σ7 H7 hn' I7 n7
        | brk =>
          obtain ⟨σ7, H7, I7, n7⟩ := hf
          exact seg_leaf (.ok .next) (k.ok n' ys' s₀' s7 .next hn' ⟨σ7, H7, out I7, n7⟩)
        | ret v =>
          obtain ⟨x7, σ7, H7, I7, r7, n7⟩ := hf
          exact seg_leaf (.ok (.ret v)) (k.ok n' ys' s₀' s7 (.ret v) hn' ⟨x7, σ7, H7, out I7, r7, n7⟩)
  exact loop m0 0 n ys s₀ s2 σ H2 hn w0 ⟨acc, cc, r, I2⟩ st2 fun b hbm => (f2 b hbm).1
end
section
variable {P : Program} {w : World} {K : PySem.W.Frag} {mg : Str → Option Value} {base : Heap}
/-- a generator def with defaults, by its body -/
theorem okGen {x qual : Str} {params : Arguments} {body : List Stmt} {scope : Scope} {dvs : List V} {kws : List (Str × V)} {f : Addr} {fd : FuncData} {N ps : List Str} {k : Nat} {sp : SpG} (F : FunD K x qual params body scope dvs kws f fd) (S : GScope N ps scope)
    (len : ∀ vs H Q E, sp vs H Q E → vs.length = ps.length)
    (hbody : ∀ (cdv : Value) (A : Around) (outer : List Env) (s : Shared) (H : Hp) (vs : List V) (Q : List V → Hp → Prop) (E : XK) (pn : List (Addr × Obj)), Room k (A.deeper (envOfC qual scope s.heap.objs.size f cdv)) → sp vs H Q E →
      ∃ t, GSs (gcxOf P w K mg base N qual scope f cdv A outer s H E pn) body t ∧ t { nx := fun ys _ H' => Q ys H', rt := fun ys v H' => v = .non ∧ Q ys H' } [] (L2.start N vs) H) : GFn P w K mg base (k + 1) f fd ps sp := by
  obtain ⟨oc, od, dV, kV, doc, pm, an, cdv, ct, osl, rfl, lk, hcd, _, _⟩ := F.ex
  exact gfn_of lk hcd S len fun A outer s H vs Q E pn hr h => hbody cdv A outer s H vs Q E pn hr h
end
/-- for over a list that the body leaves as it is -/
theorem gfor_list {K : PySem.W.Frag} {a : Addr} {xs : List V} {g : TG} {tb : TGn} {D : GEnds} {ys : List V} {σ : L2.St} {H : Hp} (Pv : Nat → List V → L2.St → Hp → Prop) (h0 : Pv 0 ys σ H) (hl : ∀ i ys σ H, i ≤ xs.length → Pv i ys σ H → SqL K H a xs)
    (hs : ∀ i x ys σ H, xs[i]? = some x → Pv i ys σ H → g x σ H fun σ2 H2 => tb { D with nx := Pv (i + 1), ct := Pv (i + 1), bk := D.nx } ys σ2 H2) (hd : ∀ ys σ H, Pv xs.length ys σ H → D.nx ys σ H) :
    ∃ W : Nat → Nat → List V → L2.St → Hp → Prop, (∃ m, W 0 m ys σ H) ∧ ∀ i m ys σ H, W i m ys σ H → ((Itl K a).stop i H ∧ D.nx ys σ H) ∨ ((Itl K a).go i H ∧ ∃ N : List V → L2.St → Hp → Prop,
      (∀ ys' σ' H', N ys' σ' H' → ∃ m', m' < m ∧ W (i + 1) m' ys' σ' H') ∧ ∀ x H', (Itl K a).yld i H x H' → g x σ H' fun σ2 H2 => tb { D with nx := N, ct := N, bk := D.nx } ys σ2 H2) := by
  refine ⟨fun i m ys σ H => m = xs.length - i ∧ i ≤ xs.length ∧ Pv i ys σ H, ⟨xs.length, by simp, Nat.zero_le _, h0⟩, ?_⟩
  rintro i m ys σ H ⟨rfl, hi, p⟩
  have sq := hl i ys σ H hi p
  by_cases lt : i < xs.length
  · refine .inr ⟨⟨xs, xs[i], sq, by simp [lt]⟩, Pv (i + 1), fun ys' σ' H' p' => ⟨xs.length - (i + 1), by omega, rfl, lt, p'⟩, fun x H' ⟨e, y⟩ => ?_⟩
    subst e
    exact hs i x ys σ _ (y xs sq) p
  · obtain rfl : i = xs.length := by omega
    exact .inl ⟨⟨xs, sq, Nat.le_refl _⟩, hd ys σ H p⟩
end Pk

/-! ## != of lists whose items have an own ==; != of an instance and anything; C(e, ..) in a try -/
namespace Pk
open PySem PySem.Spec PyProof.Rows L2 PySem.SeqAt
open AutoSeq1 (wpAny_loadPart')
open MeetsSeq MeetsSeq2 MeetsSeq3
section
variable {prog : Program} {w : World} {A : Around} {R : Result → Shared → Prop}
theorem nl_turns (la lb : Addr) (many : Nat) (J : Nat → Shared → Prop) (each : GQ.ListI prog w A (fun e s' => R (.error e) s') la lb many J) (done : ∀ z, J many z → R (.ok (.ret (.bool false))) z) :
    ∀ (left i : Nat), many - i = left → i ≤ many → ∀ z, J i z →
      wpAny (model prog w) A.in1 (Builtin.«list.__eq__.loop» ⟨[.ref la, .ref lb, rawInt i, rawInt 3], []⟩) (GQ.FinOf prog w A R) (fun e s' => R (.error e) s') z
  | 0, i, hk, hi, z, hJ => by
    obtain ⟨xs, ys, c1, c2, ga, gb, n1, n2, _⟩ := each _ _ hJ
    have same : i = many := by omega
    have good : R (.ok (.ret (.bool false))) z := done z (same ▸ hJ)
    obtain ⟨hp, g, d, tk, os⟩ := z
    wp_walk using wpAny_loadPart' ga, wpAny_loadPart' gb
    rw [show xs[((i : Nat) : Int).toNat]? = none from by simp; omega, show ys[((i : Nat) : Int).toNat]? = none from by simp; omega]
    wp_walk using wpAny_loadPart' ga, wpAny_loadPart' gb
    show R (.ok (.ret (.bool (xs.size != ys.size)))) _
    rw [n1, n2]
    simpa using good
  | left + 1, i, hk, hi, z, hJ => by
    obtain ⟨xs, ys, c1, c2, ga, gb, n1, n2, one⟩ := each _ _ hJ
    have k1 : i < xs.size := by omega
    have k2 : i < ys.size := by omega
    have one' := one k1 k2
    obtain ⟨hp, g, d, tk, os⟩ := z
    wp_walk using wpAny_loadPart' ga, wpAny_loadPart' gb
    rw [show xs[((i : Nat) : Int).toNat]? = some xs[i] from by simp [k1], show ys[((i : Nat) : Int).toNat]? = some ys[i] from by simp [k2]]
    refine wpAny_bind (wpAny_mono one' (fun yes z2 q2 => ?_) fun _ _ bad => bad)
    obtain ⟨rfl, q2⟩ := q2
    have more := nl_turns la lb many J each done left (i + 1) (by omega) (by omega) z2 q2
    obtain ⟨hp2, g2, d2, tk2, os2⟩ := z2
    wp_walk
    rw [show ((i : Int) + 1) = ((i + 1 : Nat) : Int) from by omega]
    exact ⟨plainId_quiet plain_eq_loop _, codeAny_builtin entry_eq_loop (by
      rw [Around.under_plainId plain_eq_loop _]
      exact more)⟩
theorem nl_all (la lb : Addr) (many : Nat) (J : Nat → Shared → Prop) (each : GQ.ListI prog w A (fun e s' => R (.error e) s') la lb many J) (done : ∀ z, J many z → R (.ok (.ret (.bool false))) z) {z : Shared} (h0 : J 0 z) :
    wpAny (model prog w) A.in1 (Builtin.«list.__ne__» ⟨[.ref la, .ref lb], []⟩) (GQ.FinOf prog w A R) (fun e s' => R (.error e) s') z := by
  obtain ⟨xs, ys, c1, c2, ga, gb, n1, n2, _⟩ := each _ _ h0
  have from0 := nl_turns (A := A) (R := R) la lb many J each done _ 0 rfl (Nat.zero_le _) z h0
  obtain ⟨hp, g, d, tk, os⟩ := z
  have isl := AutoSeq1.sub_list_list
  have alike : ¬ (xs.size != ys.size) = true := by simp [n1, n2]
  wp_walk using wpAny_loadPart' ga, wpAny_loadPart' gb
  exact ⟨plainId_quiet plain_eq_loop _, codeAny_builtin entry_eq_loop (by
    rw [Around.under_plainId plain_eq_loop _]
    exact from0)⟩
theorem rc_listNe {la lb : Addr} {many : Nat} {Q E : Value → Shared → Prop} {z : Shared} (hu : A.units < cLine) (J : Nat → Shared → Prop) (each : GQ.ListI prog w A E la lb many J) (done : ∀ z, J many z → Q (.bool false) z) (h0 : J 0 z) :
    wpAny (model prog w) A (richCompare .NotEq (.ref la) (.ref lb)) Q E z := by
  obtain ⟨xs, ys, c1, c2, ga, gb, _, _, _⟩ := each _ _ h0
  refine wpAny_richCompare_same_room (op := .NotEq) ⟨_, ga, rfl⟩ ⟨_, gb, rfl⟩ F.slot_list_ne (GQ.call_here F.slot_list_ne ⟨_, ga, rfl⟩ F.entry_list_ne (F.args_list_ne_2 _ _) ?_) hu
  exact nl_all (R := wants (fun v s' => v ≠ .notImplemented ∧ Q v s') E) la lb many J each (fun s' q => ⟨(fun x => nomatch x), done s' q⟩) h0
end
section
variable {X : Cx} {n : Nat} {D : Eqv}
/-- xs != ys, two lists whose items are equal one by one -/
def rNeG (D : Eqv) : R2 := fun x y H Q => DList D x y H ∧ ∀ H', Ext H H' → Q (.bl false) H'
theorem op_neG (hD : Mon D) (h : EqG X n D) (hr : Room (n + 1) X.A) : OpR X (compareOp .NotEq) (rNeG D) := by
  intro pins s σ H x y v u Q I rx ry hq
  obtain ⟨⟨a, b, xs, ys, rfl, rfl, ha, hb, p⟩, q⟩ := hq
  cases rx
  cases ry
  show wpAny (model X.prog X.w) X.A (richCompare .NotEq (.ref a) (.ref b)) (EP X pins σ Q) X.xe s
  refine rc_listNe (many := xs.length) hr.units0 (fun _ s' => LoopI X pins σ H s') (fun i s' L => ?_) (fun s' L => ?_) ⟨H, I, Ext.rfl'⟩
  · obtain ⟨H1, I1, e1⟩ := id L
    obtain ⟨z1, its, k1, r1, g1⟩ := I1.hok a _ (e1 _ _ ha)
    obtain ⟨z2, its2, k2, r2, g2⟩ := I1.hok b _ (e1 _ _ hb)
    exact ⟨its.toArray, its2.toArray, k1, k2, g1, g2, by rw [List.size_toArray, ← r1.length], by rw [List.size_toArray, ← r2.length, ← p.1], fun h1 h2 => turnG hD h ⟨hr, rfl⟩ p r1 r2 i h1 h2 s' L⟩
  · obtain ⟨H1, I1, e1⟩ := L
    exact ⟨.bl false, H1, I1, rfl, q H1 e1⟩
end
section
variable {M : Model} {prog : Program} {w : World} {A : Around} {E : Value → Shared → Prop} {s : Shared} {K : PySem.W.Frag} {x C g : Addr} {ox : Obj} {od : Option Obj} {b tb : Value}
theorem cmp_neA {Q : Value → Shared → Prop} (hu : A.units < cLine) (hu1 : A.in1.units < cLine) (X : K.In s.heap) (I : PySem.W.InstAt s.heap x ox C od) (hb : PySem.W.Looks (model prog w) s.heap (typeOf b) tb) (hnf : PySem.W.notFirst K C tb = true)
    (hn : PySem.W.findIn K (.ref C) "__ne__" = some (some (.builtin "object.__ne__"))) (hm : PySem.W.mroIn K C (.type "object") = some true)
    (hs : PySem.W.findIn K (.ref C) "__eq__" = some (some (.ref g))) (hf : PySem.W.isFn K (.ref g) = true)
    (h : wpAny (model prog w) A.in1 (call (.ref g) [.ref x, b]) (fun v s' => ∃ c, v = .bool c ∧ Q (.bool (!c)) s') E s) : wpAny (model prog w) A (richCompare .NotEq (.ref x) b) Q E s := by
  have mine : wpAny (model prog w) A (tryCompare (.ref x) "__ne__" b) (fun r s' => ∃ v, r = some v ∧ Q v s') E s := by
    unfold tryCompare
    refine wpAny_bind (ifBound_objNe X I hn (call_objNe hu1 X I hm hs hf (wpAny_mono h (fun v s' hv => ?_) fun _ _ e => e)))
    obtain ⟨c, rfl, hq⟩ := hv
    exact ⟨c, rfl, wpAny_pure ⟨_, rfl, hq⟩⟩
  unfold richCompare
  simp only [oneThing_ref]
  refine wpAny_holding (wpAny_bind (wpAny_cRoomFor hu ?_))
  rw [cmpInfo_NotEq]
  refine wpAny_bind (I.type.here (wpAny_bind (hb.here ?_)))
  split
  · rename_i away
    have no : PySem.W.subIn K tb (.ref C) = some false := by
      rcases Bool.or_eq_true_iff.mp hnf with same | no
      · rw [beq_iff_eq.mp same] at away
        simp at away
      · exact beq_iff_eq.mp no
    refine wpAny_bind ((PySem.W.looks_subIn X no).here ?_)
    simp only [Bool.false_eq_true, if_false]
    refine wpAny_bind (wpAny_mono mine (fun r s' got => ?_) fun _ _ e => e)
    obtain ⟨v, rfl, hq⟩ := got
    exact wpAny_pure hq
  · refine wpAny_bind (wpAny_pure ?_)
    simp only [Bool.false_eq_true, if_false]
    refine wpAny_bind (wpAny_mono mine (fun r s' got => ?_) fun _ _ e => e)
    obtain ⟨v, rfl, hq⟩ := got
    exact wpAny_pure hq
end
section
variable {X : Cx} {n : Nat} {C g : Addr} {sp : Sp} {E : XK} {CX : CXT}
/-- x != y, x an instance of the class at C, whose == is at g, y anything that does not come first -/
def rNeOwnA (K : PySem.W.Frag) (C : Addr) (sp : Sp) (E : XK) : R2 := fun x y H Q => ∃ a dx fs t, x = .ref a ∧ H a = some (.ins C dx fs) ∧ TyX K H y t ∧ PySem.W.notFirst K C t = true ∧ sp [x, y] H (fun z H' => ∃ c, z = .bl c ∧ Q (.bl (!c)) H') E
theorem op_neOwnA {KK : PySem.W.Frag} (hK : X.K = KK) (hn : PySem.W.findIn X.K (.ref C) "__ne__" = some (some (.builtin "object.__ne__"))) (hm : PySem.W.mroIn X.K C (.type "object") = some true) (hs : PySem.W.findIn X.K (.ref C) "__eq__" = some (some (.ref g)))
    (hf : PySem.W.isFn X.K (.ref g) = true) (F : FnR X.prog X.w X.K X.mg X.base CX n g sp) (hr : Room (n + 1) X.A) (hx : Passes CX X E) : OpR X (compareOp .NotEq) (rNeOwnA KK C sp E) := by
  subst hK
  intro pins s σ H x y v u Q I rx ry h
  obtain ⟨a, dx, fs, t, rfl, ha, ty, hnf, q⟩ := h
  obtain rfl : v = Value.ref a := rx
  obtain ⟨mA, O, _⟩ := ins_get I.hok ha
  obtain ⟨od, J, _⟩ := O.look
  obtain ⟨P, Z, p, _⟩ := kit_of I ry ty
  have hr1 : Room n X.A.in1 := Room.in1 hr
  refine cmp_neA hr.units0 hr1.units0 I.kIn J (Z.ty _ _ I.kIn p) hnf hn hm hs hf (wpAny_mono (wpAny_call (SlX.run_at (us := [.ref a, u]) (ws := [.ref a, y]) F hr1 I.env0.in1 hx I (.cons rfl (.cons ry .nil)) q)) ?_ (fun _ _ x => x))
  rintro w s' ⟨z', H', I', rz, c, rfl, qz⟩
  obtain rfl : w = Value.bool c := rz
  exact ⟨c, rfl, .bl (!c), H', I', rfl, qz⟩
end
section
variable {X : Cx}
/-- x != y of two lists, or two tuples, of the very same things -/
def rNeSmT (K : PySem.W.Frag) : R2 := fun x y H Q => ∃ a b xs, x = .ref a ∧ y = .ref b ∧ SqT K H a xs ∧ SqT K H b xs ∧ (∀ v ∈ xs, flatB v = true ∨ ∃ p, v = .ref p) ∧ Q (.bl false) H
theorem op_neSmT (hu : X.A.units + 64 < cLine) : OpR X (compareOp .NotEq) (rNeSmT X.K) := by
  intro pins s σ H x y v u Q I rx ry h
  obtain ⟨a, b, xs, rfl, rfl, ha, hb, hp, q⟩ := h
  cases (show v = Value.ref a from rx)
  cases (show u = Value.ref b from ry)
  obtain ⟨us, r1, p1, _⟩ := I.tuple ha
  obtain ⟨ws, r2, p2, _⟩ := I.tuple hb
  have hsz : us.toArray.size = ws.toArray.size := by
    rw [List.size_toArray, List.size_toArray, ← r1.length, ← r2.length]
  refine SeqAt.RcNeAt.tuples (e := fun _ => true) p1 p2 (by omega) (fun j h1 h2 => ?_) X.prog X.w _ _ ?_
  · have k := sm_run (A := X.A.in1) (s := s) hp r1 r2 j (by simpa using h1) (by simpa using h2)
    simpa using k
  · rw [show ((List.range (min us.toArray.size ws.toArray.size)).all fun _ => true) = true from List.all_eq_true.mpr fun _ _ => rfl, hsz]
    simp only [BEq.rfl, Bool.and_self, Bool.not_true]
    exact ⟨.bl false, H, I, rfl, q⟩
end
section
variable {X : Cx} {k : Nat} {CX : CXT} {sp : Sp}
/-- C(e, ..) where an exception may leave to a clause here -/
def tMakeS (C : Addr) (dvs : List V) (sp : Sp) (E : L2.St → XK) (t : TA) : TE := fun σ H Q => t σ H fun vs H2 => ∀ x dx, H2 x = none → H2 dx = none → dx ≠ x →
  sp (.ref x :: (vs ++ dvs)) (upd (upd H2 dx (.own x)) x (.ins C dx [])) (fun v H3 => v = .non ∧ Q (.ref x) H3) (E σ)
theorem pe_makeS {C f : Addr} {fd : FuncData} {ps : List Str} {dvs : List V} {ds : List Value} {E : L2.St → XK} {x : Str} {p pos : Pos} {e : Expr} {es : List Expr} {t : TA}
    (M : Mk X.K C f) (F : FnOk X.prog X.w X.K X.mg X.base CX k f fd ps sp) (hr : Room (k + 1) X.A) (hg : Gl X x) (hm : X.mg x = some (.ref C)) (hb : Binds X.K fd ps ds) (hd : Vals dvs ds) (hx : ∀ σ, PassesAt CX X σ (E σ)) (ha : PA X (e :: es) t)
    (hdb : (x == ("__debug__" : Str)) = false := by decide) (he : starEach (e :: es) X.env = (false, eval e X.env) :: starEach es X.env := by rfl) (hpl : (backTo pos (starEach es X.env)).any (·.1) = false := by rfl) :
    PE X (.Call (.Name x p) (e :: es) [] pos) (tMakeS C dvs sp E t) := by
  refine ⟨fun pins s σ H Q I h => ?_⟩
  refine wpAny_Call_Name_kw (ld_glob I hg hm ?_ hdb)
  refine PySem.W.callWith_K (h₀ := X.base) I.ok.mod.kin M.kp (thn (ha.run pos pins s σ H _ I h) fun us s1 ⟨vs, H1, I1, r, q⟩ => ⟨I1.kIn, ?_⟩) he hpl
  have hq := q (s1.heap.objs.size + 1) s1.heap.objs.size (I1.hok.fresh (Nat.le_succ _)) (I1.hok.fresh (Nat.le_refl _)) (Nat.ne_of_lt (Nat.lt_succ_self _))
  have I3 := Inv.made (C := C) I1
  have r2 : Vals (V.ref (s1.heap.objs.size + 1) :: (vs ++ dvs)) (Value.ref (s1.heap.objs.size + 1) :: (us ++ ds)) := .cons rfl (r.append hd)
  have hl : (Value.ref (s1.heap.objs.size + 1) :: us ++ ds).length = ps.length := by
    have e := r2.length
    rw [F.len _ _ _ _ hq] at e
    exact e.symm
  refine wpAny_call (make_map (f := f) I1.kIn M.makes M.init (beq_iff_eq.mp M.fn) (codeAny_mono (F.run _ X.stack _ _ ⟨Value.ref (s1.heap.objs.size + 1) :: us, []⟩ (Value.ref (s1.heap.objs.size + 1) :: (us ++ ds)) _ _ (E σ) (hr.make C us [])
    (I3.env0.make C us []) (hb _ (Value.ref (s1.heap.objs.size + 1) :: us) I3.kIn hl) r2 hq) fun r s' hq' => ?_))
  cases r with
  | error e => exact hx σ pins _ _ e s' I3 hq'
  | ok fl =>
    cases fl with
    | ret u =>
      obtain ⟨v, H', I4, rv, ev, q3⟩ := I3.after hq'
      subst ev
      exact ⟨rv, ⟨V.ref (s1.heap.objs.size + 1), H', I4, rfl, q3⟩⟩
    | next => exact False.elim hq'
    | brk => exact False.elim hq'
    | cont => exact False.elim hq'
end
end Pk

/-! ## Several clauses, each keeps the exception as a value under the same name -/
namespace Pk
open PySem PySem.Spec PyProof.Rows L2
abbrev ClL := List ((Value → Option Bool) × (Addr → Value → Option Addr → TS))
def wAsM (i : Nat) (Wout : WX) (D : Ends) : ClL → WX
  | [] => Wout
  | (m, ts) :: r => fun cls d σ H => ∃ b, m cls = some b ∧ (b = true → ∀ a, H a = none → ts a cls d (behindV i a cls d D) (σ.set i (some (.ref a))) H) ∧ (b = false → wAsM i Wout D r cls d σ H)
inductive HdsA (X : Cx) (n : Str) : List ExceptHandler → ClL → Prop
  | nil : HdsA X n [] []
  | cons {t : Expr} {m : Value → Option Bool} {ts : Addr → Value → Option Addr → TS} {b₀ : Stmt} {suite : List Stmt} {pos' : Pos} {hds : List ExceptHandler} {l : ClL} (ht : HT X t m)
      (hsu : ∀ (a : Addr) (oe : Obj) (cls : Value) (d : Option Addr) (pn : List (Addr × Obj)), Zc cls d oe → (∃ vs, oe.data = .fields vs) → PSs (X.suite a ((a, oe) :: pn)) (b₀ :: suite) (ts a cls d)) (r : HdsA X n hds l) :
      HdsA X n (.ExceptHandler (some t) (some n) (b₀ :: suite) pos' :: hds) ((m, ts) :: l)
section
variable {X : Cx} {n : Str} {i : Nat} {body : List Stmt} {h₀ : ExceptHandler} {hds : List ExceptHandler} {l : ClL} {pos : Pos} {tb : WX → TS} {Wout : WX}
theorem ps_try_asM (hex : X.ex = []) (hs : X.stack = X.env :: X.outer) (hf : X.env.frame = some X.env.locals) (hN : X.N.Nodup) (hi : X.N[i]? = some n) (hln : X.env.kindOf n = some .local) (hh : HdsA X n (h₀ :: hds) l) (tk : Takes X Wout)
    (hb : ∀ (W : WX) (pn : List (Addr × Obj)) (xe : Value → Shared → Prop), Takes (X.tr pn xe) W → PassesOwn (model X.prog X.w) X.A X.env xe → PSs (X.tr pn xe) body (tb W)) :
    PS X (.Try body (h₀ :: hds) [] [] pos) (fun D σ H => tb (wAsM i Wout D l) D σ H) := by
  constructor
  intro pins s σ H D I h
  have okX := I.ok
  have frames : X.A.frames = some (X.env :: X.outer) := okX.frames.trans (by rw [hs])
  refine wpAny_Try_except ?_
  let XC : Value → Shared → Prop := fun e s₁ => wpAny (model X.prog X.w) X.A (noteFrame e X.env) (fun _ s₂ => wpAny (model X.prog X.w) X.A (setFlight e none) (fun _ s₃ =>
    wpAny (model X.prog X.w) X.A (handleBy e X.env (h₀ :: hds)) (SP X pins D) X.xe s₃) X.xe s₂) X.xe s₁
  have caught : Takes (X.tr (X.pn ++ pins) XC) (wAsM i Wout D l) := by
    rintro u s' ⟨a, B, sI, pins', σ', H', cls, d, rfl, J', nb, up, sky, na, os, ag, wish⟩
    have J : Inv X pins σ' H' sI := J'.ofTry okX
    have sky' : Sky B (X.env :: X.outer) a (Zc cls d) X.env.locals s'.heap := by
      rw [← hs]
      exact sky
    show wpAny (model X.prog X.w) X.A (noteFrame (.ref a) X.env) _ _ _
    refine Sky.land Zc.steady frames hf sky' fun hA flA upA => ?_
    obtain ⟨oA, vA, eA, zA, dA⟩ := flA.there
    have nofr : a ∉ frs (X.env :: X.outer) := fun hm => by
      obtain ⟨_, o', e', hnf⟩ := flA.2.2.1.mem hm
      rw [eA] at e'
      cases e'
      exact hnf _ dA
    have goneI : sI.heap.get? a = none := by
      cases e : sI.heap.get? a with
      | none => rfl
      | some o =>
        have := nb a o e (by rw [show (X.tr (X.pn ++ pins) XC).stack = X.env :: X.outer from hs]; exact nofr)
        rw [flA.2.1] at this
        cases this
    have nLoc : a ≠ X.env.locals := fun z => nofr (List.mem_filterMap.mpr ⟨X.env, List.mem_cons_self, by rw [hf, z]⟩)
    have nFs : a ∉ X.fs := fun hm => by
      obtain ⟨e, he, q⟩ := List.mem_filterMap.mp hm
      exact nofr (List.mem_filterMap.mpr ⟨e, List.mem_cons_of_mem _ he, q⟩)
    have each : ∀ {hds' : List ExceptHandler} {l' : ClL}, HdsA X n hds' l' → wAsM i Wout D l' cls d σ' H' → ∀ hZ, HandSPX.FlyingZ B (X.env :: X.outer) a (Zc cls d) hZ → s'.heap.UpToSlots hZ →
        wpAny (model X.prog X.w) X.A (handleBy (.ref a) X.env hds') (SP X pins D) X.xe { s' with heap := hZ } := by
      intro hds' l' hk
      induction hk with
      | nil =>
        intro wend hP flP upP
        refine wpAny_handleBy_nil ?_
        obtain ⟨k1, k2, k3, oe, vs, T, oT, tt, eT, zT, dT, h1, hr⟩ := id flP
        unfold PySem.passOn
        refine wpAny_bind (wpAny_field eT dT h1 ?_)
        rw [if_neg (show ¬ ((Value.ref T == Value.none) = true) from by simp)]
        have away : wpAny (model X.prog X.w) X.A (setFlight (.ref a) X.env.frame) (fun _ s4 => wpAny (model X.prog X.w) X.A (throw (.ref a) : Sem Flow) (SP X pins D) X.xe s4) X.xe { s' with heap := hP } := by
          rw [hf]
          refine HandSPX.setFlight_upZ (s := { s' with heap := hP }) flP fun hB hhB upB => wpAny_throw (tk _ _ ?_)
          exact ⟨a, B, sI, pins, σ', H', cls, d, rfl, J, nb, (up.trans upP).trans upB, .inr (.inr (by rw [hs]; exact hhB)), na, os, ag, wend⟩
        first
          | exact wpAny_bind (wpAny_pure (wpAny_bind away))
          | exact wpAny_bind away
      | @cons t m ts b₀ suite pos' hds2 l2 ht hsu r ih =>
        intro wend hA flA upA
        obtain ⟨b, hb1, hyes, hno⟩ := wend
        have JA : Inv X pins σ' H' { s' with heap := hA } := J.landed nb flA.1 (up.trans upA) os ag
        obtain ⟨oA, vA, eA, zA, dA⟩ := flA.there
        have SA := JA.suite eA dA na nLoc nFs
        refine wpAny_handleBy_cons (codeAny_handlers_test ?_) (by intro q; cases q)
        refine ht (oe := oA) (pn := X.pn ++ pins) SA eA zA.1 hb1 fun hP kP => ?_
        have flP := flyingZ_keeps flA kP
        have upP : s'.heap.UpToSlots hP := upA.trans (Heap.UpToSlots.of_keeps kP)
        cases b with
        | true =>
          refine codeAny_handlers_suite_as (HandSPX.lands_againZ (s := { s' with heap := hP }) flP fun hB flB upB => ?_)
          have JB : Inv X pins σ' H' { s' with heap := hB } := J.landed nb flB.1 ((up.trans upP).trans upB) os ag
          obtain ⟨oB, vB, eB, zB, dB⟩ := flB.there
          refine store_ok (X := X.suite a ((a, oB) :: (X.pn ++ pins))) (v := .ref a) (JB.suite eB dB na nLoc nFs) hN hi (.inl hln) rfl (fun sS SS => ?_) (.inr hln)
          have inside := (hsu a oB cls d (X.pn ++ pins) zB ⟨_, dB⟩).run [] sS _ H' _ SS (hyes rfl a na)
          refine wpAny_mono inside (fun f sE hsp => ?_) (fun _ _ z => False.elim z)
          have close : ∀ {σE : L2.St} {HE : Hp} {Q : Shared → Prop}, Inv (X.suite a ((a, oB) :: (X.pn ++ pins))) [] σE HE sE → (∀ sZ, Inv X ((a, oB) :: pins) (σE.set i none) HE sZ → Q sZ) →
              wpAny (model X.prog X.w) X.A (do bindName X.env n .none; unbindBehindTheSuite X.env n pos') (fun _ sZ => Q sZ) X.xe sE := fun {σE HE Q} SE hq => gone_ok (unsuiteK SE okX) hN hi hln hq
          cases f with
          | next =>
            obtain ⟨σE, HE, SE, qE⟩ := hsp
            refine close SE fun sZ JZ => ?_
            obtain ⟨g1, g2, g3, _, _⟩ := JZ.pin (a, oB) (List.mem_append_right _ List.mem_cons_self)
            refine ⟨_, _, track (unpin JZ) (young_of J hex goneI) g2 (Ne.symm g3) (notcell (unpin JZ) g1 dB) (fun p hp z => ?_) (exK_ok g1 zB dB), qE g2⟩
            have := (J.pin p hp).1
            rw [z, goneI] at this
            cases this
          | brk =>
            obtain ⟨σE, HE, SE, qE⟩ := hsp
            exact close SE fun sZ JZ => ⟨_, _, unpin JZ, qE⟩
          | cont =>
            obtain ⟨σE, HE, SE, qE⟩ := hsp
            exact close SE fun sZ JZ => ⟨_, _, unpin JZ, qE⟩
          | ret u =>
            obtain ⟨vE, σE, HE, SE, rE, qE⟩ := hsp
            exact close SE fun sZ JZ => ⟨_, _, _, unpin JZ, rE, qE⟩
        | false =>
          show wpAny _ X.A (handleBy (.ref a) X.env hds2) _ _ _
          exact ih (hno rfl) hP flP upP
    exact each hh wish hA flA upA
  have through := (hb (wAsM i Wout D l) (X.pn ++ pins) XC caught PassesOwn.looking).run [] s σ H D (I.toTry _) h
  refine wpAny_mono through (fun f s1 hsp => ?_) (fun _ _ he => he)
  cases f with
  | next =>
    obtain ⟨σ', H', JJ, q⟩ := hsp
    exact wpAny_execs_nil ⟨σ', H', JJ.ofTry okX, q⟩
  | brk =>
    obtain ⟨σ', H', JJ, q⟩ := hsp
    exact ⟨σ', H', JJ.ofTry okX, q⟩
  | cont =>
    obtain ⟨σ', H', JJ, q⟩ := hsp
    exact ⟨σ', H', JJ.ofTry okX, q⟩
  | ret u =>
    obtain ⟨v, σ', H', JJ, r, q⟩ := hsp
    exact ⟨v, σ', H', JJ.ofTry okX, r, q⟩
end
end Pk

/-! ## What runs while generators sleep: nothing in it wakes them -/
namespace Pk
open PySem PySem.Spec PyProof.Rows L2 GenW
/-- a generator that sleeps, as one that cannot be woken -/
def pz : GenState → GenState
  | .suspended _ l c p fs cl => .suspended (fun _ => .unsupported "asleep") l c p fs cl
  | x => x
def nogen : GenState → Prop
  | .suspended _ _ _ _ fs _ => splitAtGen fs = none
  | _ => True
def nogenE : PySem.End → Prop
  | .susp _ _ _ _ _ _ fs => splitAtGen fs = none
  | _ => True
def Slot (a b : Option GenState) : Prop := match a, b with
  | none, none => True
  | some x, some y => (x = y ∧ nogen x) ∨ (x = pz y ∧ ∃ k l c p fs cl, y = .suspended k l c p fs cl)
  | _, _ => False
structure Sl (a b : Array GenState) : Prop where
  sz : a.size = b.size
  sl : ∀ i : Nat, Slot a[i]? b[i]?
def Kp (a b a' b' : Array GenState) : Prop := ∀ (i : Nat) (k : Resume → Sem PySem.Fin) (l : List Value) (c : Code) (p : Pos) (fs : List Frame) (cl : Bool), b[i]? = some (GenState.suspended k l c p fs cl) → a[i]? = some (pz (.suspended k l c p fs cl)) → a'[i]? = a[i]? ∧ b'[i]? = b[i]?
theorem Kp.refl {a b : Array GenState} : Kp a b a b := fun _ _ _ _ _ _ _ _ _ => ⟨rfl, rfl⟩
theorem Kp.trans {a b a1 b1 a2 b2 : Array GenState} (x : Kp a b a1 b1) (y : Kp a1 b1 a2 b2) : Kp a b a2 b2 := fun i k l c p fs cl hb ha => by
  obtain ⟨e1, e2⟩ := x i k l c p fs cl hb ha
  obtain ⟨e3, e4⟩ := y i k l c p fs cl (by rw [e2]; exact hb) (by rw [e1]; exact ha)
  exact ⟨e3.trans e1, e4.trans e2⟩
theorem set_ne {a : Array GenState} {g i : Nat} {x : GenState} (h : i ≠ g) : (a.setIfInBounds g x)[i]? = a[i]? := by
  rw [Array.getElem?_setIfInBounds_ne (Ne.symm h)]
theorem set_at {a : Array GenState} {g : Nat} {x : GenState} : (a.setIfInBounds g x)[g]? = if g < a.size then some x else none := by
  by_cases h : g < a.size
  · rw [if_pos h]; simp [h]
  · rw [if_neg h]; simp [h]
theorem Kp.pre {a b a' b' : Array GenState} {g : Nat} {x y : GenState} (hg : a[g]? = some x) (n : ∀ k l c p fs cl, x ≠ .suspended k l c p fs cl) (h : Kp (a.setIfInBounds g y) (b.setIfInBounds g y) a' b') : Kp a b a' b' := fun i k l c p fs cl hb ha => by
  have hi : i ≠ g := fun z => by
    subst z
    rw [hg] at ha
    injection ha with ha
    exact n _ _ _ _ _ _ ha
  obtain ⟨x1, x2⟩ := h i k l c p fs cl ((set_ne hi).trans hb) ((set_ne hi).trans ha)
  exact ⟨x1.trans (set_ne hi), x2.trans (set_ne hi)⟩
theorem Sl.set {a b : Array GenState} (h : Sl a b) (g : Nat) {x : GenState} (n : nogen x) : Sl (a.setIfInBounds g x) (b.setIfInBounds g x) := by
  refine ⟨by simp [h.sz], fun i => ?_⟩
  by_cases hi : i = g
  · subst hi
    rw [set_at, set_at, ← h.sz]
    by_cases hl : i < a.size
    · rw [if_pos hl]; exact .inl ⟨rfl, n⟩
    · rw [if_neg hl]; trivial
  · rw [set_ne hi, set_ne hi]; exact h.sl i
theorem Sl.push {a b : Array GenState} (h : Sl a b) {x : GenState} (n : nogen x) : Sl (a.push x) (b.push x) := by
  refine ⟨by simp [h.sz], fun i => ?_⟩
  rw [Array.getElem?_push, Array.getElem?_push, h.sz]
  by_cases hi : i = b.size
  · rw [if_pos hi, if_pos hi]; exact .inl ⟨rfl, n⟩
  · rw [if_neg hi, if_neg hi]; exact h.sl i
theorem push_old {a : Array GenState} {i : Nat} {x y : GenState} (h : a[i]? = some y) : (a.push x)[i]? = some y := by
  obtain ⟨hl, e⟩ := Array.getElem?_eq_some_iff.mp h
  rw [Array.getElem?_push, if_neg (Nat.ne_of_lt hl)]
  exact h
theorem Slot.same {x : GenState} {o : Option GenState} (h : Slot (some x) o) (n : ∀ k l c p fs cl, x ≠ .suspended k l c p fs cl) : o = some x := by
  cases o with
  | none => exact h.elim
  | some y =>
    rcases h with ⟨e, _⟩ | ⟨e, k, l, c, p, fs, cl, ey⟩
    · rw [e]
    · subst ey
      exact absurd e (n _ _ _ _ _ _)
theorem Sl.get {a b : Array GenState} {i : Nat} {x : GenState} (h : Sl a b) (e : a[i]? = some x) : ∃ y, b[i]? = some y ∧ ((x = y ∧ nogen x) ∨ (x = pz y ∧ ∃ k l c p fs cl, y = .suspended k l c p fs cl)) := by
  have z := h.sl i
  rw [e] at z
  cases eb : b[i]? with
  | none => rw [eb] at z; exact z.elim
  | some y => rw [eb] at z; exact ⟨y, rfl, z⟩
theorem Sl.same {a b : Array GenState} {i : Nat} {x : GenState} (h : Sl a b) (e : a[i]? = some x) (n : ∀ k l c p fs cl, x ≠ .suspended k l c p fs cl) : b[i]? = some x := by
  have z := h.sl i
  rw [e] at z
  exact z.same n
theorem nogen_end {e : PySem.End} (h : nogenE e) : nogen e.genState := by
  cases e with
  | ret r => trivial
  | susp v g l k c p fs => exact h
theorem no_unsup {M : Model} {Γ : PySem.Ctx} {q : Pos} {u : Sem PySem.Fin} {F : List Frame} {s s' : Shared} {e : PySem.End} (h : Runs M Γ q u F s e s') : ∀ w, u ≠ .unsupported w := by
  induction h with
  | segRet _ _ ih _ => exact ih
  | segGen _ _ ih _ => exact ih
  | segSuspOut _ _ ih => exact ih
  | segSuspGen _ _ _ _ ih _ => exact ih
  | _ => intro w hu; cases hu
theorem split_cons {f : Frame} {fs : List Frame} (h : splitAtGen (f :: fs) = none) : splitAtGen fs = none := by
  cases f with
  | gen g k l c p => simp [splitAtGen] at h
  | ret k hd g l c p kp =>
    have h : (splitAtGen fs).map _ = none := h
    cases e : splitAtGen fs with
    | none => rfl
    | some x => rw [e] at h; simp at h
theorem split_append {a b : List Frame} (ha : splitAtGen a = none) (hb : splitAtGen b = none) : splitAtGen (a ++ b) = none := by
  induction a with
  | nil => exact hb
  | cons f fs ih =>
    have z := ih (split_cons ha)
    cases f with
    | gen g k l c p => simp [splitAtGen] at ha
    | ret k hd g l c p kp =>
      show (splitAtGen (fs ++ b)).map _ = none
      rw [z]; rfl
theorem seen_pz {x y : GenState} (z : (x = y ∧ nogen x) ∨ (x = pz y ∧ ∃ k l c p fs cl, y = .suspended k l c p fs cl)) : x.seen = y.seen := by
  rcases z with ⟨e, _⟩ | ⟨e, _⟩
  · rw [e]
  · rw [e]; cases y <;> rfl
theorem runs_asleep {M : Model} {Γ : PySem.Ctx} {q : Pos} {u : Sem PySem.Fin} {F : List Frame} {s s' : Shared} {e : PySem.End} (h : Runs M Γ q u F s e s') :
    splitAtGen F = none → ∀ G, Sl s.gens G → ∃ G', Runs M Γ q u F { s with gens := G } e { s' with gens := G' } ∧ Sl s'.gens G' ∧ Kp s.gens G s'.gens G' ∧ nogenE e := by
  induction h with
  | done => exact fun _ G hG => ⟨G, .done, hG, .refl, trivial⟩
  | raise => exact fun _ G hG => ⟨G, .raise, hG, .refl, trivial⟩
  | again hq _ ih => exact fun hF G hG => let ⟨G', r, a, b, c⟩ := ih hF G hG; ⟨G', .again hq r, a, b, c⟩
  | rule _ ih => exact fun hF G hG => let ⟨G', r, a, b, c⟩ := ih hF G hG; ⟨G', .rule r, a, b, c⟩
  | «at» _ ih => exact fun hF G hG => let ⟨G', r, a, b, c⟩ := ih hF G hG; ⟨G', .at r, a, b, c⟩
  | load ho _ ih => exact fun hF G hG => let ⟨G', r, a, b, c⟩ := ih hF G hG; ⟨G', .load ho r, a, b, c⟩
  | update ho _ ih => exact fun hF G hG => let ⟨G', r, a, b, c⟩ := ih hF G hG; ⟨G', .update ho r, a, b, c⟩
  | loadIfAlive _ ih => exact fun hF G hG => let ⟨G', r, a, b, c⟩ := ih hF G hG; ⟨G', .loadIfAlive r, a, b, c⟩
  | point _ ih => exact fun hF G hG => let ⟨G', r, a, b, c⟩ := ih hF G hG; ⟨G', .point r, a, b, c⟩
  | alloc _ ih => exact fun hF G hG => let ⟨G', r, a, b, c⟩ := ih hF G hG; ⟨G', .alloc r, a, b, c⟩
  | fresh _ ih => exact fun hF G hG => let ⟨G', r, a, b, c⟩ := ih hF G hG; ⟨G', .fresh r, a, b, c⟩
  | ask _ ih => exact fun hF G hG => let ⟨G', r, a, b, c⟩ := ih hF G hG; ⟨G', .ask r, a, b, c⟩
  | choose hn _ ih => exact fun hF G hG => let ⟨G', r, a, b, c⟩ := ih hF G hG; ⟨G', .choose hn r, a, b, c⟩
  | os _ ih => exact fun hF G hG => let ⟨G', r, a, b, c⟩ := ih hF G hG; ⟨G', .os r, a, b, c⟩
  | handled _ ih => exact fun hF G hG => let ⟨G', r, a, b, c⟩ := ih hF G hG; ⟨G', .handled r, a, b, c⟩
  | genState hg _ ih =>
    intro hF G hG
    obtain ⟨G', r, a, b, c⟩ := ih hF G hG
    obtain ⟨y, eg, z⟩ := hG.get hg
    have es := seen_pz z
    rw [es] at r
    exact ⟨G', .genState eg r, a, b, c⟩
  | stack _ ih => exact fun hF G hG => let ⟨G', r, a, b, c⟩ := ih hF G hG; ⟨G', .stack r, a, b, c⟩
  | thread _ ih => exact fun hF G hG => let ⟨G', r, a, b, c⟩ := ih hF G hG; ⟨G', .thread r, a, b, c⟩
  | newGen _ ih =>
    intro hF G hG
    obtain ⟨G', r, a, b, c⟩ := ih hF (G.push _) (hG.push trivial)
    refine ⟨G', .newGen ?_, a, fun i k l c p fs cl hb ha => ?_, c⟩
    · rw [hG.sz] at r; exact r
    · obtain ⟨e1, e2⟩ := b i k l c p fs cl (push_old hb) (push_old ha)
      exact ⟨e1.trans ((push_old ha).trans ha.symm), e2.trans ((push_old hb).trans hb.symm)⟩
  | call _ _ ih1 ih2 =>
    intro hF G hG
    obtain ⟨G1, r1, a1, b1, _⟩ := ih1 rfl G hG
    obtain ⟨G2, r2, a2, b2, c2⟩ := ih2 hF G1 a1
    exact ⟨G2, .call r1 r2, a2, b1.trans b2, c2⟩
  | callSusp _ ih =>
    intro hF G hG
    obtain ⟨G', r, a, b, c⟩ := ih rfl G hG
    exact ⟨G', .callSusp r, a, b, split_append c rfl⟩
  | yield => exact fun _ G hG => ⟨G, .yield, hG, .refl, rfl⟩
  | @resumeFresh Γ p g l k s c e₁ s₁ e s' hg _ hq _ ih1 ih2 =>
    intro hF G hG
    have eg : G[g]? = some (.fresh c) := hG.same hg (by intros; simp)
    obtain ⟨G1, r1, a1, b1, c1⟩ := ih1 rfl (G.setIfInBounds g .running) (hG.set g trivial)
    obtain ⟨G2, r2, a2, b2, c2⟩ := ih2 hF (G1.setIfInBounds g e₁.genState) (a1.set g (nogen_end c1))
    refine ⟨G2, .resumeFresh (s := { s with gens := G }) eg r1 hq r2, a2, fun i k l c p fs cl hb ha => ?_, c2⟩
    have hi : i ≠ g := fun z => by subst z; rw [hg] at ha; cases ha
    obtain ⟨x1, x2⟩ := b1 i k l c p fs cl ((set_ne hi).trans hb) ((set_ne hi).trans ha)
    have y1 : (s₁.gens.setIfInBounds g e₁.genState)[i]? = s.gens[i]? := (set_ne hi).trans (x1.trans (set_ne hi))
    have y2 : (G1.setIfInBounds g e₁.genState)[i]? = G[i]? := (set_ne hi).trans (x2.trans (set_ne hi))
    obtain ⟨z1, z2⟩ := b2 i k l c p fs cl (y2.trans hb) (y1.trans ha)
    exact ⟨z1.trans y1, z2.trans y2⟩
  | @resumeSuspended Γ p g r l k s k₀ l₀ c₀ p₀ fs cl e₁ s₁ e s' hg h1 hq _ ih1 ih2 =>
    intro hF G hG
    have real : ∀ w, k₀ r ≠ .unsupported w := no_unsup h1
    have z := hG.sl g
    rw [hg] at z
    cases eg : G[g]? with
    | none => rw [eg] at z; exact z.elim
    | some y =>
      rw [eg] at z
      rcases z with ⟨e, n⟩ | ⟨e, k1, l1, c1, p1, f1, cl1, ey⟩
      · subst e
        obtain ⟨G1, r1, a1, b1, c1⟩ := ih1 n (G.setIfInBounds g .running) (hG.set g trivial)
        obtain ⟨G2, r2, a2, b2, c2⟩ := ih2 hF (G1.setIfInBounds g e₁.genState) (a1.set g (nogen_end c1))
        refine ⟨G2, .resumeSuspended (s := { s with gens := G }) eg r1 hq r2, a2, fun i k l c p fs cl hb ha => ?_, c2⟩
        have hi : i ≠ g := fun z => by
          subst z
          rw [hg] at ha
          injection ha with ha
          injection ha with ha
          exact real "asleep" (by rw [ha])
        obtain ⟨x1, x2⟩ := b1 i k l c p fs cl ((set_ne hi).trans hb) ((set_ne hi).trans ha)
        have y1 : (s₁.gens.setIfInBounds g e₁.genState)[i]? = s.gens[i]? := (set_ne hi).trans (x1.trans (set_ne hi))
        have y2 : (G1.setIfInBounds g e₁.genState)[i]? = G[i]? := (set_ne hi).trans (x2.trans (set_ne hi))
        obtain ⟨z1, z2⟩ := b2 i k l c p fs cl (y2.trans hb) (y1.trans ha)
        exact ⟨z1.trans y1, z2.trans y2⟩
      · subst ey
        injection e with e
        exact absurd (by rw [e]) (real "asleep")
  | resumeJustStarted hg hv _ ih =>
    intro hF G hG
    have eg := hG.same hg (by intros; simp)
    obtain ⟨G', r, a, b, c⟩ := ih hF G hG
    exact ⟨G', .resumeJustStarted eg hv r, a, b, c⟩
  | resumeThrowFresh hg _ ih =>
    intro hF G hG
    have eg := hG.same hg (by intros; simp)
    obtain ⟨G', r, a, b, c⟩ := ih hF (G.setIfInBounds _ .finished) (hG.set _ trivial)
    exact ⟨G', .resumeThrowFresh eg r, a, Kp.pre hg (by intros; simp) b, c⟩
  | resumeRunning hg _ ih =>
    intro hF G hG
    have eg := hG.same hg (by intros; simp)
    obtain ⟨G', r, a, b, c⟩ := ih hF G hG
    exact ⟨G', .resumeRunning eg r, a, b, c⟩
  | resumeFinished hg _ ih =>
    intro hF G hG
    have eg := hG.same hg (by intros; simp)
    obtain ⟨G', r, a, b, c⟩ := ih hF G hG
    exact ⟨G', .resumeFinished eg r, a, b, c⟩
  | segRet _ _ ih1 ih2 =>
    intro hF G hG
    obtain ⟨G1, r1, a1, b1, _⟩ := ih1 rfl G hG
    obtain ⟨G2, r2, a2, b2, c2⟩ := ih2 (split_cons hF) G1 a1
    exact ⟨G2, .segRet r1 r2, a2, b1.trans b2, c2⟩
  | segGen _ _ ih1 ih2 => intro hF; simp [splitAtGen] at hF
  | segSuspOut hs _ ih =>
    intro hF G hG
    obtain ⟨G', r, a, b, c⟩ := ih rfl G hG
    exact ⟨G', .segSuspOut hs r, a, b, split_append c hF⟩
  | segSuspGen hs _ _ _ ih1 ih2 => intro hF; rw [hF] at hs; cases hs
/-- the world where all that sleeps cannot be woken -/
def asleep (s : Shared) : Shared := { s with gens := s.gens.map pz }
theorem sl_asleep {s : Shared} : Sl (asleep s).gens s.gens := by
  refine ⟨by simp [asleep], fun i => ?_⟩
  show Slot (s.gens.map pz)[i]? s.gens[i]?
  rw [Array.getElem?_map]
  cases e : s.gens[i]? with
  | none => trivial
  | some x =>
    cases x with
    | suspended k l c p fs cl => exact .inr ⟨rfl, k, l, c, p, fs, cl, rfl⟩
    | fresh c => exact .inl ⟨rfl, trivial⟩
    | running => exact .inl ⟨rfl, trivial⟩
    | finished => exact .inl ⟨rfl, trivial⟩
theorem bare_pz {x : GenState} : (pz x).bare = x.bare := by cases x <;> rfl
theorem Sl.bare {a b : Array GenState} (h : Sl a b) (ha : AllBare a) : AllBare b := fun y hy => by
  obtain ⟨i, hi, e⟩ := Array.mem_iff_getElem.mp hy
  have z := h.sl i
  rw [Array.getElem?_eq_getElem hi, e] at z
  cases ea : a[i]? with
  | none => rw [ea] at z; exact z.elim
  | some x =>
    rw [ea] at z
    have hx := ha x (Array.mem_of_getElem? ea)
    rcases z with ⟨e1, _⟩ | ⟨e1, _⟩
    · rw [← e1]; exact hx
    · rw [e1, bare_pz] at hx; exact hx
theorem Sl.bare' {a b : Array GenState} (h : Sl a b) (hb : AllBare b) : AllBare a := fun x hx => by
  obtain ⟨i, hi, e⟩ := Array.mem_iff_getElem.mp hx
  have z := h.sl i
  rw [Array.getElem?_eq_getElem hi, e] at z
  cases eb : b[i]? with
  | none => rw [eb] at z; exact z.elim
  | some y =>
    rw [eb] at z
    have hy := hb y (Array.mem_of_getElem? eb)
    rcases z with ⟨e1, _⟩ | ⟨e1, _⟩
    · rw [e1]; exact hy
    · rw [e1, bare_pz]; exact hy
theorem wp_slp {α : Type} {M : Model} {Γ : PySem.Ctx} (m : Sem α) : ∀ {Q : α → Pos → Shared → Prop} {E : Value → Pos → Shared → Prop} {p : Pos} {s : Shared} (G : Array GenState), Sl s.gens G → Sem.wp M Γ m Q E p s →
    Sem.wp M Γ m (fun a p' s' => ∃ s1, Q a p' s1 ∧ s' = { s1 with gens := s'.gens } ∧ Sl s1.gens s'.gens ∧ Kp s.gens G s1.gens s'.gens) (fun x p' s' => ∃ s1, E x p' s1 ∧ s' = { s1 with gens := s'.gens } ∧ Sl s1.gens s'.gens ∧ Kp s.gens G s1.gens s'.gens) p { s with gens := G } := by
  induction m with
  | pure a => exact fun G hG h => ⟨_, h, rfl, hG, .refl⟩
  | raise x => exact fun G hG h => ⟨_, h, rfl, hG, .refl⟩
  | unsupported | finish | yield | fork | await | register => exact fun G hG h => h.elim
  | rule _ k ih | «at» _ k ih | loadIfAlive _ k ih | point _ k ih | ask k ih | handled _ k ih | stack k ih | thread k ih => exact fun G hG h => ih _ G hG h
  | alloc o k ih => intro Q E p s G hG h; exact ih _ (s := { s with heap := s.heap.push o }) G hG h
  | fresh k ih => intro Q E p s G hG h; exact ih _ (s := { s with toks := s.toks + 1 }) G hG h
  | os q _ k ih => intro Q E p s G hG h; exact ih _ (s := { s with os := (Os.step s.os q).1 }) G hG h
  | load a _ k ih => exact fun G hG ⟨o, ho, h⟩ => ⟨o, ho, ih _ G hG h⟩
  | update a _ f k ih => intro Q E p s G hG ⟨ha, h⟩; exact ⟨ha, ih _ (s := { s with heap := s.heap.update a f }) G hG h⟩
  | choose src n k ih => intro Q E p s G hG ⟨ha, h⟩; exact ⟨ha, ih _ (s := { s with drawn := s.drawn.bump src }) G hG h⟩
  | genState g k ih =>
    intro Q E p s G hG ⟨st, hg, h⟩
    obtain ⟨y, eg, z⟩ := hG.get hg
    rw [seen_pz z] at h
    exact ⟨y, eg, ih _ G hG h⟩
  | newGen c k ih =>
    intro Q E p s G hG h
    have q := ih s.gens.size (s := { s with gens := s.gens.push (.fresh c) }) (G.push (.fresh c)) (hG.push trivial) h
    have kp : ∀ {a' b' : Array GenState}, Kp (s.gens.push (.fresh c)) (G.push (.fresh c)) a' b' → Kp s.gens G a' b' := fun b i k l c p fs cl hb ha => by
      obtain ⟨e1, e2⟩ := b i k l c p fs cl (push_old hb) (push_old ha)
      exact ⟨e1.trans ((push_old ha).trans ha.symm), e2.trans ((push_old hb).trans hb.symm)⟩
    show Sem.wp M Γ (k G.size) _ _ p _
    rw [← hG.sz]
    exact Sem.wp_mono M Γ _ (fun x p' s' ⟨s1, a, b, c, d⟩ => ⟨s1, a, b, c, kp d⟩) (fun x p' s' ⟨s1, a, b, c, d⟩ => ⟨s1, a, b, c, kp d⟩) p _ q
  | call c h g l k ih =>
    intro Q E p s G hG ⟨r, s1, hr, hw⟩
    obtain ⟨G1, r1, a1, b1, _⟩ := runs_asleep hr rfl G hG
    exact ⟨r, _, r1, Sem.wp_mono M Γ _ (fun x p' s' ⟨s2, a, b, c, d⟩ => ⟨s2, a, b, c, b1.trans d⟩) (fun x p' s' ⟨s2, a, b, c, d⟩ => ⟨s2, a, b, c, b1.trans d⟩) p _ (ih r G1 a1 hw)⟩
  | resume g r l k ih =>
    intro Q E p s G hG ⟨res, s1, hw, h2⟩
    have main : ∃ G1, Wakes M Γ p g r { s with gens := G } res { s1 with gens := G1 } ∧ Sl s1.gens G1 ∧ Kp s.gens G s1.gens G1 := by
      unfold Wakes at hw
      cases hg : s.gens[g]? with
      | none => simp only [hg] at hw
      | some gs =>
        simp only [hg] at hw
        have z := hG.sl g
        rw [hg] at z
        have wk : ∀ {q0 : Pos} {c0 : Code} {t0 : Sem PySem.Fin} {fs0 : List Frame} {e₁ : PySem.End} {s₁ : Shared}, Runs M (Γ.wake c0 p) q0 t0 fs0 (s.setGen g .running) e₁ s₁ → splitAtGen fs0 = none → (∀ k l c p fs cl, gs = GenState.suspended k l c p fs cl → k ≠ fun _ => .unsupported "asleep") →
            ∃ G1, Runs M (Γ.wake c0 p) q0 t0 fs0 { s.setGen g .running with gens := G.setIfInBounds g .running } e₁ { s₁ with gens := G1 } ∧ Sl (s₁.setGen g e₁.genState).gens (G1.setIfInBounds g e₁.genState) ∧ Kp s.gens G (s₁.setGen g e₁.genState).gens (G1.setIfInBounds g e₁.genState) := fun {q0 c0 t0 fs0 e₁ s₁} h1 hn hk => by
          obtain ⟨G1, r1, a1, b1, c1⟩ := runs_asleep h1 hn (G.setIfInBounds g .running) (hG.set g trivial)
          refine ⟨G1, r1, a1.set g (nogen_end c1), fun i k l c p fs cl hb ha => ?_⟩
          have hi : i ≠ g := fun z => by
            subst z
            rw [hg] at ha
            injection ha with ha
            exact hk _ _ _ _ _ _ ha rfl
          obtain ⟨x1, x2⟩ := b1 i k l c p fs cl ((set_ne hi).trans hb) ((set_ne hi).trans ha)
          exact ⟨(set_ne hi).trans (x1.trans (set_ne hi)), (set_ne hi).trans (x2.trans (set_ne hi))⟩
        cases gs with
        | fresh c =>
          have eg : G[g]? = some (.fresh c) := hG.same hg (by intros; simp)
          cases r with
          | send v =>
            by_cases hv : v = .none
            · subst hv
              obtain ⟨e₁, s₁, h1, hq, e1, e2⟩ := hw
              subst e1 e2
              obtain ⟨G1, r1, a1, b1⟩ := wk h1 rfl (by intros; simp_all)
              exact ⟨_, by unfold Wakes; simp only [eg]; exact ⟨e₁, _, r1, hq, rfl, rfl⟩, a1, b1⟩
            · have hw2 : res = .justStarted ∧ s1 = s := by cases v <;> first | exact absurd rfl hv | exact hw
              obtain ⟨e1, e2⟩ := hw2
              subst e1 e2
              refine ⟨G, ?_, hG, .refl⟩
              unfold Wakes
              simp only [eg]
              cases v <;> first | exact absurd rfl hv | exact ⟨rfl, rfl⟩ | exact ⟨trivial, rfl⟩ | simp
          | throw x =>
            obtain ⟨e1, e2⟩ := hw
            subst e1 e2
            refine ⟨G.setIfInBounds g .finished, ?_, hG.set g trivial, fun i k l c p fs cl hb ha => ?_⟩
            · unfold Wakes
              simp only [eg]
              first | exact ⟨rfl, rfl⟩ | exact ⟨trivial, rfl⟩ | simp
            · have hi : i ≠ g := fun z => by subst z; rw [hg] at ha; cases ha
              exact ⟨set_ne hi, set_ne hi⟩
        | suspended k₀ l₀ c₀ p₀ fs cl =>
          obtain ⟨e₁, s₁, h1, hq, e1, e2⟩ := hw
          subst e1 e2
          have real : ∀ w, k₀ r ≠ .unsupported w := no_unsup h1
          have notp : k₀ ≠ fun _ => .unsupported "asleep" := fun z => real "asleep" (by rw [z])
          cases eg : G[g]? with
          | none => rw [eg] at z; exact z.elim
          | some y =>
            rw [eg] at z
            rcases z with ⟨e, n⟩ | ⟨e, k1, l1, c1, p1, f1, cl1, ey⟩
            · subst e
              obtain ⟨G1, r1, a1, b1⟩ := wk h1 n (fun k l c p fs cl hh => by injection hh with hh; rw [← hh]; exact notp)
              exact ⟨_, by unfold Wakes; simp only [eg]; exact ⟨e₁, _, r1, hq, rfl, rfl⟩, a1, b1⟩
            · subst ey
              injection e with e
              exact absurd e notp
        | running =>
          have eg : G[g]? = some .running := hG.same hg (by intros; simp)
          obtain ⟨e1, e2⟩ := hw
          subst e1 e2
          exact ⟨G, by unfold Wakes; simp only [eg]; first | exact ⟨rfl, rfl⟩ | exact ⟨trivial, rfl⟩ | simp, hG, .refl⟩
        | finished =>
          have eg : G[g]? = some .finished := hG.same hg (by intros; simp)
          obtain ⟨e1, e2⟩ := hw
          subst e1 e2
          exact ⟨G, by unfold Wakes; simp only [eg]; first | exact ⟨rfl, rfl⟩ | exact ⟨trivial, rfl⟩ | simp, hG, .refl⟩
    obtain ⟨G1, w1, a1, b1⟩ := main
    exact ⟨res, _, w1, Sem.wp_mono M Γ _ (fun x p' s' ⟨s2, a, b, c, d⟩ => ⟨s2, a, b, c, b1.trans d⟩) (fun x p' s' ⟨s2, a, b, c, d⟩ => ⟨s2, a, b, c, b1.trans d⟩) p _ (ih res G1 a1 h2)⟩
/-- THE RULE: what holds where the sleepers cannot be woken holds as it is, and they sleep on -/
theorem wpAny_asleep {α : Type} {M : Model} {A : Around} {m : Sem α} {Q : α → Shared → Prop} {E : Value → Shared → Prop} {s : Shared} (h : wpAny M A m Q E (asleep s)) :
    wpAny M A m (fun a s' => ∃ s1, Q a s1 ∧ s' = { s1 with gens := s'.gens } ∧ Sl s1.gens s'.gens ∧ Kp (asleep s).gens s.gens s1.gens s'.gens)
      (fun x s' => ∃ s1, E x s1 ∧ s' = { s1 with gens := s'.gens } ∧ Sl s1.gens s'.gens ∧ Kp (asleep s).gens s.gens s1.gens s'.gens) s := fun Γ p hΓ =>
  wp_slp m s.gens sl_asleep (h Γ p hΓ)
theorem Kp.sleeps {s : Shared} {a' b' : Array GenState} {g : Nat} {k : Resume → Sem PySem.Fin} {l : List Value} {c : Code} {p : Pos} {fs : List Frame} {cl : Bool} (h : Kp (asleep s).gens s.gens a' b') (e : s.gens[g]? = some (.suspended k l c p fs cl)) :
    b'[g]? = some (.suspended k l c p fs cl) := by
  refine ((h g k l c p fs cl e ?_).2).trans e
  show (s.gens.map pz)[g]? = _
  rw [Array.getElem?_map, e]
  rfl
end Pk

/-! ## Generators whose consumer does things between two turns: the body -/
namespace Pk
open PySem PySem.Spec PyProof.Rows L2 GenW
/-- what the two sides have agreed on: CA the consumer's untracked objects; Md what it may turn; Cv what it knows; Yp what is handed out -/
structure Pt where
  CA : List Addr
  Md : Addr → Prop
  Cv : List V → Hp → Prop
  Yp : List V → V → Hp → Prop
def RlM (Md : Addr → Prop) (H H' : Hp) : Prop := ∀ b o, ¬ Md b → H b = some o → H' b = some o
def CpAt (CA : List Addr) (s₀ : Shared) (cp : List (Addr × Obj)) : Prop := ∀ b ∈ CA, ∃ o, s₀.heap.get? b = some o ∧ (b, o) ∈ cp
def GJ (X : Cx) (p : Pt) (ip : List (Addr × Obj)) (s₀ : Shared) (σ : L2.St) (H : Hp) (s : Shared) : Prop := (∀ q ∈ ip, q.1 ∉ p.CA) ∧ ∃ cp, CpAt p.CA s₀ cp ∧ Inv X (cp ++ ip) σ H s
def GZ (X : Cx) (p : Pt) : Protocol := fun n s₀ v s kap =>
  ∃ ys x ip σ H, n + 1 + ys.length = sizeLine ∧ ys.length + 1 < sizeLine ∧ RelV x v ∧ GJ X p ip s₀ σ H s ∧ p.Cv ys H ∧ p.Yp ys x H ∧
    ∀ cp' s' H2, CpAt p.CA s' cp' → Inv X (cp' ++ ip) σ H2 s' → RlM p.Md H H2 → p.Cv (ys ++ [x]) H2 → kap (.send .none) s'
def GE (X : Cx) (p : Pt) (Q : List V → VK) (F : Value → Shared → Prop) : GenEnd := fun n s₀ r s => match r with
  | .ok (.ret u) => ∃ ys v ip σ H, GJ X p ip s₀ σ H s ∧ RelV v u ∧ Q ys v H
  | .ok _ => False
  | .error e => F e s
def GSQ (X : Cx) (p : Pt) (ip : List (Addr × Obj)) (s₀ : Shared) (D : GEnds) (ys : List V) (f : Flow) (s : Shared) : Prop :=
  match f with
  | .next => ∃ σ H, GJ X p ip s₀ σ H s ∧ D.nx ys σ H
  | .brk => ∃ σ H, GJ X p ip s₀ σ H s ∧ D.bk ys σ H
  | .cont => ∃ σ H, GJ X p ip s₀ σ H s ∧ D.ct ys σ H
  | .ret u => ∃ v σ H, GJ X p ip s₀ σ H s ∧ RelV v u ∧ D.rt ys v H
structure HC (X : Cx) (A : Around) (c : Code) (fs : List Frame) (gd : Bool → Bool) : Prop where
  over : A.over c fs = X.A
  split : splitAtGen fs = none
  guard : fs.any Frame.guarded = false
  gd : gd false = false
structure HK (X : Cx) (p : Pt) (ip : List (Addr × Obj)) (A : Around) (R : GenEnd) (c : Code) (fs : List Frame) (K : Flow → Sem PySem.Fin) (J : Value → Sem PySem.Fin) (D : GEnds) : Prop where
  ok : ∀ (n : Nat) (ys : List V) (s₀ s : Shared) (f : Flow), n + ys.length = sizeLine → GSQ X p ip s₀ D ys f s → Seg (model X.prog X.w) A R (GZ X p) n s₀ c (K f) fs s
  exc : ∀ (n : Nat) (s₀ : Shared) (e : Value) (s : Shared), X.xe e s → Seg (model X.prog X.w) A R (GZ X p) n s₀ c (J e) fs s
structure HS (X : Cx) (p : Pt) (st : Stmt) (t : TGn) : Prop where
  run : ∀ (A : Around) (ip : List (Addr × Obj)) (R : GenEnd) (n : Nat) (ys : List V) (s₀ : Shared) (c : Code) (fs : List Frame) (K : Flow → Sem PySem.Fin) (J : Value → Sem PySem.Fin) (gd : Bool → Bool) (lv : List Value → List Value) (s : Shared) (σ : L2.St) (H : Hp) (D : GEnds),
    HC X A c fs gd → n + ys.length = sizeLine → HK X p ip A R c fs K J D → GJ X p ip s₀ σ H s → t D ys σ H → Seg (model X.prog X.w) A R (GZ X p) n s₀ c ((exec st X.env).wrap K J gd lv) fs s
structure HSs (X : Cx) (p : Pt) (st : List Stmt) (t : TGn) : Prop where
  run : ∀ (A : Around) (ip : List (Addr × Obj)) (R : GenEnd) (n : Nat) (ys : List V) (s₀ : Shared) (c : Code) (fs : List Frame) (K : Flow → Sem PySem.Fin) (J : Value → Sem PySem.Fin) (gd : Bool → Bool) (lv : List Value → List Value) (s : Shared) (σ : L2.St) (H : Hp) (D : GEnds),
    HC X A c fs gd → n + ys.length = sizeLine → HK X p ip A R c fs K J D → GJ X p ip s₀ σ H s → t D ys σ H → Seg (model X.prog X.w) A R (GZ X p) n s₀ c ((execs st X.env).wrap K J gd lv) fs s
section
variable {X : Cx} {pt : Pt} {st : Stmt} {rest : List Stmt} {pos : Pos} {tg : Expr}
theorem sq_of {cp ip : List (Addr × Obj)} {s₀ s : Shared} {D : GEnds} {ys : List V} {f : Flow} (hd : ∀ q ∈ ip, q.1 ∉ pt.CA) (hc : CpAt pt.CA s₀ cp) (h : SP X (cp ++ ip) (D.at ys) f s) : GSQ X pt ip s₀ D ys f s := by
  cases f with
  | next => obtain ⟨σ, H, I, q⟩ := h; exact ⟨σ, H, ⟨hd, cp, hc, I⟩, q⟩
  | brk => obtain ⟨σ, H, I, q⟩ := h; exact ⟨σ, H, ⟨hd, cp, hc, I⟩, q⟩
  | cont => obtain ⟨σ, H, I, q⟩ := h; exact ⟨σ, H, ⟨hd, cp, hc, I⟩, q⟩
  | ret u => obtain ⟨v, σ, H, I, r1, q⟩ := h; exact ⟨v, σ, H, ⟨hd, cp, hc, I⟩, r1, q⟩
theorem hs_ps {t : TS} (h : PS X st t) : HS X pt st (tPlain t) := by
  refine ⟨fun A ip R n ys s₀ c fs K J gd lv s σ H D g hn k hI ht => ?_⟩
  obtain ⟨hd, cp, hc, I⟩ := hI
  refine seg_wrap ?_
  rw [g.over]
  exact wpAny_mono (h.run _ s σ H (D.at ys) I ht) (fun f s' hs => k.ok n ys s₀ s' f hn (sq_of hd hc hs)) fun x s' hx => k.exc n s₀ x s' hx
theorem hss_nil : HSs X pt [] tG0 := by
  refine ⟨fun A ip R n ys s₀ c fs K J gd lv s σ H D g hn k hI ht => ?_⟩
  exact seg_execs_nil (k.ok n ys s₀ s .next hn ⟨σ, H, hI, ht⟩)
theorem hss_cons {t u : TGn} (a : HS X pt st t) (b : HSs X pt rest u) : HSs X pt (st :: rest) (tGThen t u) := by
  refine ⟨fun A ip R n ys s₀ c fs K J gd lv s σ H D g hn k hI ht => ?_⟩
  refine seg_execs_cons ?_
  refine a.run A ip R n ys s₀ c fs _ J gd lv s σ H { D with nx := fun ys' σ' H' => u D ys' σ' H' } g hn ⟨fun n' ys' s₀' s' f hn' hs => ?_, k.exc⟩ hI ht
  cases f with
  | next =>
    obtain ⟨σ', H', I', q⟩ := hs
    exact b.run A ip R n' ys' s₀' c fs K J gd lv s' σ' H' D g hn' k I' q
  | brk => exact k.ok n' ys' s₀' s' .brk hn' hs
  | cont => exact k.ok n' ys' s₀' s' .cont hn' hs
  | ret u => exact k.ok n' ys' s₀' s' (.ret u) hn' hs
theorem hc_loop {A : Around} {c c' : Code} {fs : List Frame} {gd : Bool → Bool} {k : Result → Sem PySem.Fin} {l kp : List Value} {p : Pos} (g : HC X A c fs gd) (hw : c'.weight = 0) (hu : c'.cUnits = 0) : HC X A c' (.ret k none (gd false) l c p kp :: fs) id where
  over := (over_loop hw hu).trans g.over
  split := by
    show (splitAtGen fs).map _ = none
    rw [g.split]; rfl
  guard := by
    show (gd false || fs.any Frame.guarded) = false
    rw [g.gd, g.guard]; rfl
  gd := rfl
theorem seg_cameB {ip : List (Addr × Obj)} {A : Around} {R : GenEnd} {c : Code} {fs : List Frame} {K : Flow → Sem PySem.Fin} {J : Value → Sem PySem.Fin} {gd : Bool → Bool} {lv : List Value → List Value} {D : GEnds} {n : Nat} {s₀ s : Shared} {e : Value}
    (g : HC X A c fs gd) (k : HK X pt ip A R c fs K J D) (h : cameBackBy (model X.prog X.w) X.A X.env X.xe e s) : Seg (model X.prog X.w) A R (GZ X pt) n s₀ c (((Sem.raise e : Sem Flow).onRaise (cameBack X.env)).wrap K J gd lv) fs s := by
  show Seg _ _ _ _ _ _ _ (((cameBack X.env e).bind fun _ => (Sem.raise e : Sem Flow)).wrap K J gd lv) _ _
  rw [Sem.bind_eq_wrap, Sem.wrap_wrap]
  refine seg_wrap ?_
  rw [g.over]
  exact wpAny_mono h (fun _ s' hx => k.exc n s₀ e s' hx) fun x s' hx => k.exc n s₀ x s' hx
theorem hs_if {test : Expr} {body orelse : List Stmt} {tc : TT} {tb te : TGn} (hc : PT X test tc) (hb : HSs X pt body tb) (he : HSs X pt orelse te) : HS X pt (.If test body orelse pos) (tGIf tc tb te) := by
  refine ⟨fun A ip R n ys s₀ c fs K J gd lv s σ H D g hn k hI ht => ?_⟩
  show Seg _ _ _ _ n s₀ c (.at pos fun _ => ((isTrue test X.env (eval test X.env) >>= fun b => if b = true then execs body X.env else execs orelse X.env)).wrap K J gd lv) fs s
  refine seg_at ?_
  obtain ⟨hdj, cp, hcp, I⟩ := hI
  refine seg_bind_wrap ?_
  rw [g.over]
  refine wpAny_mono (hc.run _ s σ H _ I ht) (fun b s1 hq => ?_) fun x s1 hx => k.exc n s₀ x s1 hx
  obtain ⟨H1, I1, q⟩ := hq
  cases b with
  | true => exact hb.run A ip R n ys s₀ c fs K J gd lv s1 σ H1 D g hn k ⟨hdj, cp, hcp, I1⟩ q
  | false => exact he.run A ip R n ys s₀ c fs K J gd lv s1 σ H1 D g hn k ⟨hdj, cp, hcp, I1⟩ q
/-- yield: the consumer may have turned what is its own -/
def tHYield (pt : Pt) (te : TE) : TGn := fun D ys σ H => ys.length + 1 < sizeLine ∧ te σ H fun x H1 => pt.Cv ys H1 ∧ pt.Yp ys x H1 ∧ ∀ H2, RlM pt.Md H1 H2 → pt.Cv (ys ++ [x]) H2 → D.nx (ys ++ [x]) σ H2
theorem hs_yield {e : Expr} {yp : Pos} {te : TE} (he : PE X e te) (hco : X.env.scope.isCoroutine = false := by rfl) (hi : interactive X.env = false := by rfl) : HS X pt (.Expr (.Yield (some e) yp) pos) (tHYield pt te) := by
  refine ⟨fun A ip R n ys s₀ c fs K J gd lv s σ H D g hn k hI ht => ?_⟩
  obtain ⟨hlt, ht⟩ := ht
  obtain ⟨n, rfl⟩ : ∃ m, n = m + 1 := ⟨n - 1, by omega⟩
  obtain ⟨hdj, cp, hcp, I⟩ := hI
  refine seg_Expr_Yield g.split g.gd g.guard ?_ hco hi
  rw [g.over]
  refine wpAny_mono (he.run _ s σ H _ I ht) (fun v s' hv => ?_) fun x s' hx => k.exc _ s₀ x s' hx
  obtain ⟨x, H1, I1, rv, q1, q2, q3⟩ := hv
  intro kap hk
  refine ⟨ys, x, ip, σ, H1, hn, hlt, rv, ⟨hdj, cp, hcp, I1⟩, q1, q2, fun cp' s'' H2 hcp' I2 rl cv => hk .none s'' ?_⟩
  refine k.ok n (ys ++ [x]) s'' s'' .next ?_ ⟨σ, H2, ⟨hdj, cp', hcp', I2⟩, q3 H2 rl cv⟩
  rw [List.length_append, List.length_singleton]; omega
theorem hs_for {iter : Expr} {body : List Stmt} {wi : TI} {gt : TG} {tb : TGn} (hp : PassesOwn (model X.prog X.w) X.A X.env X.xe) (hc : X.calm = true) (hi : PI X tg iter wi) (hg : PG X tg gt) (hb : HSs X pt body tb)
    (hs : ∀ x, foldedSetIterable iter X.env x = pure x := by intro _; rfl) : HS X pt (.For tg iter body [] pos) (tGFor wi gt tb) := by
  refine ⟨fun A ip R n ys s₀ c fs K J gd lv s σ H D g hn k hI ht => ?_⟩
  show Seg _ _ _ _ n s₀ c (.at pos fun _ => ((eval iter X.env >>= fun v => (foldedSetIterable iter X.env v >>= fun x => (standAt iter.pos >>= fun _ => (holding [x] (pyIter x) >>= fun it => runOwn (.forLoop tg it body [] X.env) X.env))))).wrap K J gd lv) fs s
  refine seg_at ?_
  obtain ⟨hdj, cp, hcp, I⟩ := hI
  refine seg_bind_wrap ?_
  rw [g.over]
  refine wpAny_mono (hi.run _ s σ H _ I ht) (fun v s1 h1 => ?_) fun x s1 hx => k.exc n s₀ x s1 hx
  refine seg_bind_wrap ?_
  rw [hs v]
  refine wpAny_pure (seg_bind_wrap (wpAny_standAt (seg_bind_wrap (wpAny_holding ?_))))
  rw [g.over]
  refine wpAny_mono h1 (fun itv s2 h2 => ?_) fun x s2 hx => k.exc n s₀ x s2 hx
  obtain ⟨it, fp, tn, JJ, H2, rfl, I2, T, st2, f2, W, ⟨m0, w0⟩, turn⟩ := h2
  refine seg_call fun p => ?_
  have gl := fun (kk : Result → Sem PySem.Fin) => hc_loop (k := kk) (c' := .forLoop tg (.ref it) body [] X.env) (l := lv []) (kp := []) (p := p) g rfl rfl
  -- what is true of the iterator's own objects, whatever is pinned beside them
  have stat : ∀ {cp' : List (Addr × Obj)} {σ' : L2.St} {H' : Hp} {s' : Shared}, Inv X (cp' ++ ip) σ' H' s' → (∀ b ∈ fp, H' b = none) → (∀ q ∈ cp', q.1 ∉ fp) → ∀ b ∈ fp, FpOk X (cp' ++ ip) H' b := fun {cp' σ' H' s'} _ hz hd b hbm => by
    obtain ⟨_, e1, e2, e3, e4, e5⟩ := f2 b hbm
    refine ⟨hz b hbm, e1, e2, e3, e4, fun q hq => ?_⟩
    rcases List.mem_append.mp hq with z | z
    · exact e5 q (List.mem_append_left _ z)
    · rcases List.mem_append.mp z with z | z
      · intro y
        exact hd q z (by rw [y]; exact hbm)
      · exact e5 q (List.mem_append_right _ (List.mem_append_right _ z))
  -- the consumer's pins without the iterator's own objects
  have trim : ∀ {cp' : List (Addr × Obj)} {s₀' : Shared}, CpAt pt.CA s₀' cp' → (∀ b ∈ pt.CA, b ∉ fp) → CpAt pt.CA s₀' (cp'.filter fun q => decide (q.1 ∉ fp)) := fun {cp' s₀'} h hn b hb => by
    obtain ⟨o, e, m⟩ := h b hb
    exact ⟨o, e, List.mem_filter.mpr ⟨m, decide_eq_true (hn b hb)⟩⟩
  have hCA : ∀ b ∈ pt.CA, b ∉ fp := fun b hb hm => by
    obtain ⟨o, e, m⟩ := hcp b hb
    exact (f2 b hm).2.2.2.2.2 (b, o) (List.mem_append_right _ (List.mem_append_left _ m)) rfl
  have ee : ∀ (n : Nat) (s₀ : Shared) (x : Value) (s' : Shared), X.xe x s' → Seg (model X.prog X.w) A R (GZ X pt) n s₀ (.forLoop tg (.ref it) body [] X.env) (noted X.env x)
      (.ret (fun r => ((match r with | .ok f => (.pure f : Sem Flow) | .error e => .raise e).onRaise (cameBack X.env)).wrap K J gd lv) none (gd false) (lv []) c p [] :: fs) s' := fun n s₀ x s' hx => by
    unfold noted
    refine seg_wrap ?_
    rw [(gl _).over]
    refine wpAny_bind (wpAny_mono (hp x s' hx) (fun _ s'' hcb => wpAny_theTreesLotGoes ?_) fun y s'' hcb => ?_)
    · exact seg_leaf (.error x) (seg_cameB g k hcb)
    · exact seg_leaf (.error y) (seg_cameB g k hcb)
  have loop : ∀ (m i n : Nat) (ys : List V) (s₀ s : Shared) (σ : L2.St) (H : Hp) (cp : List (Addr × Obj)), n + ys.length = sizeLine → W i m ys σ H → CpAt pt.CA s₀ cp → Inv X (cp ++ ip) σ H s → tn i s.heap → (∀ b ∈ fp, H b = none) →
      Seg (model X.prog X.w) A R (GZ X pt) n s₀ (.forLoop tg (.ref it) body [] X.env) ((model X.prog X.w).den (.forLoop tg (.ref it) body [] X.env))
        (.ret (fun r => ((match r with | .ok f => (.pure f : Sem Flow) | .error e => .raise e).onRaise (cameBack X.env)).wrap K J gd lv) none (gd false) (lv []) c p [] :: fs) s := by
    intro m
    induction m using Nat.strongRecOn with
    | ind m ih =>
      intro i n ys s₀ s σ H cp0 hn w hcp0 I0 hst hfr
      obtain ⟨cp, hcp, I1, hd⟩ : ∃ cp, CpAt pt.CA s₀ cp ∧ Inv X (cp ++ ip) σ H s ∧ ∀ q ∈ cp, q.1 ∉ fp := ⟨_, trim hcp0 hCA, I0.pins_of fun q hq => I0.pin q (by
        rcases List.mem_append.mp hq with z | z
        · exact List.mem_append_right _ (List.mem_append_left _ ((List.mem_filter.mp z).1))
        · exact List.mem_append_right _ (List.mem_append_right _ z)), fun q hq => of_decide_eq_true (List.mem_filter.mp hq).2⟩
      refine seg_forLoop ?_
      rw [(gl _).over]
      rcases turn i m ys σ H w with ⟨stop, qn⟩ | ⟨go, N, hN, step⟩
      · refine wpAny_mono (T.done X rfl rfl rfl hc i _ s σ H X.xe I1 (stat I1 hfr hd) hst stop) (fun r' s' ⟨hr, I4⟩ => ?_) fun x s' hx => ee n s₀ x s' hx
        subst hr
        show Seg _ _ _ _ n s₀ _ ((execs [] X.env).onRaise (fun x => do noteFrame x X.env; theTreesLotGoes x) >>= fun f => pure (Fin.done f)) _ s'
        exact seg_leaf (.ok .next) (k.ok n ys s₀ s' .next hn ⟨σ, H, ⟨hdj, cp, hcp, I4⟩, qn⟩)
      · refine wpAny_mono (T.item X rfl rfl rfl hc i _ s σ H X.xe I1 (stat I1 hfr hd) hst go) (fun r' s' ⟨u, hr, h4⟩ => ?_) fun x s' hx => ee n s₀ x s' hx
        subst hr
        refine wpAny_mono h4 (fun _ s5 h5 => ?_) fun x s' hx => ee n s₀ x s' hx
        obtain ⟨x, H5, I5, r5, y5, st5, fr5⟩ := h5
        have I5' := I5.pinned (stat I5 fr5 hd) (T.obj _ _ st5)
        rw [List.append_assoc] at I5'
        refine wpAny_mono (hg.run _ s5 σ H5 x u _ I5' r5 (step x H5 y5)) (fun _ s6 h6 => ?_) fun x s' hx => ee n s₀ x s' hx
        obtain ⟨σ6, H6, I6, q6⟩ := h6
        have again : ∀ (n' : Nat) (ys' : List V) (s₀' s7 : Shared) (σ7 : L2.St) (H7 : Hp), n' + ys'.length = sizeLine → GJ X pt (ip ++ pinsAt fp s5.heap) s₀' σ7 H7 s7 → N ys' σ7 H7 →
            Seg (model X.prog X.w) A R (GZ X pt) n' s₀' (.forLoop tg (.ref it) body [] X.env) (.pure (.again (.forLoop tg (.ref it) body [] X.env)))
              (.ret (fun r => ((match r with | .ok f => (.pure f : Sem Flow) | .error e => .raise e).onRaise (cameBack X.env)).wrap K J gd lv) none (gd false) (lv []) c p [] :: fs) s7 := fun n' ys' s₀' s7 σ7 H7 hn' hI7 n7 => by
          obtain ⟨m', hm, w7⟩ := hN ys' σ7 H7 n7
          obtain ⟨_, cp7, hcp7, I7⟩ := hI7
          have at7 : ∀ b ∈ fp, ∀ o, s5.heap.get? b = some o → (s7.heap.get? b = some o ∧ H7 b = none) := fun b hbm o e => by
            have z := I7.pin (b, o) (List.mem_append_right _ (List.mem_append_right _ (List.mem_append_right _ (mem_pinsAt hbm e))))
            exact ⟨z.1, z.2.1⟩
          refine seg_again rfl (ih m' hm (i + 1) n' ys' s₀' s7 σ7 H7 cp7 hn' w7 hcp7 ?_ (T.keep _ _ _ st5 fun b hbm o e => (at7 b hbm o e).1) fun b hbm => ?_)
          · rw [← List.append_assoc] at I7
            exact I7.pins_of fun q hq => I7.pin q (List.mem_append_right _ (List.mem_append_left _ hq))
          · obtain ⟨o, e, _⟩ := T.obj _ _ st5 b hbm
            exact (at7 b hbm o e).2
        have out : ∀ {s₀' : Shared} {σ7 : L2.St} {H7 : Hp} {s7 : Shared}, GJ X pt (ip ++ pinsAt fp s5.heap) s₀' σ7 H7 s7 → GJ X pt ip s₀' σ7 H7 s7 := fun ⟨_, cp7, hcp7, I7⟩ =>
          ⟨hdj, cp7, hcp7, by
            rw [← List.append_assoc] at I7
            exact I7.pins_of fun q hq => I7.pin q (List.mem_append_right _ (List.mem_append_left _ hq))⟩
        refine hb.run A (ip ++ pinsAt fp s5.heap) R n ys s₀ _ _ _ _ id id s6 σ6 H6 { D with nx := N, ct := N, bk := D.nx } (gl _) hn ⟨fun n' ys' s₀' s7 f hn' hf => ?_, fun n' s₀' x s7 hx => ee n' s₀' x s7 hx⟩ ⟨fun q hq => (List.mem_append.mp hq).elim (hdj q) fun z hm => hCA q.1 hm (of_pinsAt z).1, cp, hcp, I6⟩ q6
        cases f with
        | next =>
          obtain ⟨σ7, H7, I7, n7⟩ := hf
          exact again n' ys' s₀' s7 σ7 H7 hn' I7 n7
        | cont =>
          obtain ⟨σ7, H7, I7, n7⟩ := hf
          exact again n' ys' s₀' s7 σ7 H7 hn' I7 n7
        | brk =>
          obtain ⟨σ7, H7, I7, n7⟩ := hf
          exact seg_leaf (.ok .next) (k.ok n' ys' s₀' s7 .next hn' ⟨σ7, H7, out I7, n7⟩)
        | ret v =>
          obtain ⟨x7, σ7, H7, I7, r7, n7⟩ := hf
          exact seg_leaf (.ok (.ret v)) (k.ok n' ys' s₀' s7 (.ret v) hn' ⟨x7, σ7, H7, out I7, r7, n7⟩)
  exact loop m0 0 n ys s₀ s2 σ H2 cp hn w0 hcp I2 st2 fun b hb => (f2 b hb).1
end
end Pk

/-! ## What is dead stays dead -/
namespace Pk
open PySem PySem.Spec PyProof.Rows L2 GenW
structure Dead (h h' : Heap) : Prop where
  sz : h.objs.size ≤ h'.objs.size
  dd : ∀ b, b < h.objs.size → h.get? b = none → h'.get? b = none
theorem Dead.refl {h : Heap} : Dead h h := ⟨Nat.le_refl _, fun _ _ e => e⟩
theorem Dead.trans {a b c : Heap} (x : Dead a b) (y : Dead b c) : Dead a c := ⟨Nat.le_trans x.sz y.sz, fun n hn e => y.dd n (Nat.lt_of_lt_of_le hn x.sz) (x.dd n hn e)⟩
theorem Dead.push {h : Heap} {o : Obj} : Dead h (h.push o) := by
  obtain ⟨os, l⟩ := h
  refine ⟨by simp [Heap.push], fun b hb e => ?_⟩
  have hb : b < os.size := hb
  unfold Heap.get? at e ⊢
  show (match (os.push o)[b]? with | some ⟨_, _, .freed, _⟩ => none | o => o) = none
  rw [Array.getElem?_push_lt hb]
  rw [show (Heap.mk os l).objs[b]? = some os[b] from Array.getElem?_eq_getElem hb] at e
  exact e
theorem Dead.update {h : Heap} {a : Addr} {f : Obj → Obj} (ha : (h.get? a).isSome) : Dead h (h.update a f) := by
  refine ⟨by obtain ⟨os, l⟩ := h; simp [Heap.update], fun b hb e => ?_⟩
  have : a ≠ b := fun z => by subst z; rw [e] at ha; cases ha
  exact (Heap.get?_update_other _ _ this).trans e
theorem runs_dead {M : Model} {Γ : PySem.Ctx} {p : Pos} {t : Sem PySem.Fin} {fs : List Frame} {s s' : Shared} {e : PySem.End} (h : Runs M Γ p t fs s e s') : Dead s.heap s'.heap := by
  induction h with
  | done | raise | yield => exact .refl
  | again _ _ ih | rule _ ih | «at» _ ih | load _ _ ih | loadIfAlive _ ih | point _ ih | fresh _ ih | ask _ ih | choose _ _ ih | os _ ih | handled _ ih | genState _ _ ih | stack _ ih | thread _ ih | newGen _ ih | callSusp _ ih
  | resumeJustStarted _ _ _ ih | resumeThrowFresh _ _ ih | resumeRunning _ _ ih | resumeFinished _ _ ih | segSuspOut _ _ ih => exact ih
  | update ha _ ih => exact (Dead.update ha).trans ih
  | alloc _ ih => exact Dead.push.trans ih
  | call _ _ a b | segRet _ _ a b | segGen _ _ a b => exact Dead.trans a b
  | resumeFresh _ _ _ _ a b | resumeSuspended _ _ _ _ a b | segSuspGen _ _ _ _ a b => exact Dead.trans a b
theorem codeAny_dead {M : Model} {A : Around} {c : Code} {R : Result → Shared → Prop} {s : Shared} (h : codeAny M A c (fun r s' => Dead s.heap s'.heap → R r s') s) : codeAny M A c R s := fun Γ p hc hb => by
  obtain ⟨r, s', hr, hR⟩ := h Γ p hc hb
  exact ⟨r, s', hr, hR (runs_dead hr)⟩
end Pk

/-! ## Generators whose consumer does things between two turns: the call, next -/
namespace Pk
open PySem PySem.Spec PyProof.Rows L2 GenW
abbrev SpZ := List V → Hp → (List V → V → Hp → Prop) → (List V → Hp → Prop) → Prop
/-- what the consumer knows stays true while the heap only grows -/
def Stab (p : Pt) : Prop := ∀ ys H H', p.Cv ys H → Same H H' → p.Cv ys H'
/-- a generator that has not begun -/
def ZMade (P : Program) (w : World) (k : Nat) (outer : List Env) (H : Hp) (s : Shared) (Yp : List V → V → Hp → Prop) (Qe : List V → Hp → Prop) (u : Value) (s' : Shared) : Prop :=
  ∃ (a : Addr) (g : Nat) (c : Code) (go : Obj) (XA : Around → Cx) (σ : L2.St), u = .ref a ∧ s.heap.objs.size ≤ a ∧ (∀ h : Heap, h.get? a = some go → h.IsGen a g) ∧ s'.gens[g]? = some (.fresh c) ∧ s'.os = s.os ∧ AllBare s'.gens ∧
    (∀ b o, s.heap.get? b = some o → s'.heap.get? b = some o) ∧ Dead s.heap s'.heap ∧
    ∀ A, Room k A → A.frames = some outer → ((XA A).prog = P ∧ (XA A).w = w ∧ (XA A).s_0 = s ∧ (XA A).H_0 = H ∧ (XA A).outer = outer ∧ (XA A).ex = [] ∧ (∀ x, (XA A).env.cells.lookup x = none) ∧ s.heap.objs.size ≤ (XA A).env.locals ∧ (XA A).pn = [(a, go)]) ∧
      Inv (XA A) [] σ H s' ∧ ∀ (p : Pt) (s2 : Shared) (H2 : Hp) (cp : List (Addr × Obj)), CpAt p.CA s2 cp → Inv (XA A) cp σ H2 s2 → (∀ b, p.Md b → H b = none) → (∀ b, p.Md b → H2 b ≠ none) → Same H H2 → Stab p → p.Yp = Yp → p.Cv [] H2 →
        Seg (model P w) A (GE (XA A) p (fun ys v H' => v = .non ∧ p.Cv ys H' ∧ Qe ys H') fun _ _ => False) (GZ (XA A) p) sizeLine s2 c ((model P w).den c) [] s2
structure ZFn (P : Program) (w : World) (K : PySem.W.Frag) (mg : Str → Option Value) (base : Heap) (k : Nat) (f : Addr) (fd : FuncData) (ps : List Str) (sp : SpZ) : Prop where
  len : ∀ vs H Y Q, sp vs H Y Q → vs.length = ps.length
  run : ∀ (A : Around) (outer : List Env) (s : Shared) (H : Hp) (args : Args) (us : List Value) (vs : List V) (Y : List V → V → Hp → Prop) (Q : List V → Hp → Prop), Room k A → Env0 P w K mg base A outer s H → BindsTo s fd args (ps.zip us) → Vals vs us → sp vs H Y Q →
    codeAny (model P w) A (.call (.ref f) args) (fun r s' => match r with | .ok (.ret u) => ZMade P w k outer H s Y Q u s' | _ => False) s
theorem nocells {names : List (Str × NameKind)} {n : Nat} (h : ∀ y ∈ names, y.2 ≠ .cell) : ∀ {acc : List (Str × Addr)}, cellsFrom n names acc = acc := by
  induction names with
  | nil => intro acc; rfl
  | cons q r ih =>
    intro acc
    obtain ⟨y, k⟩ := q
    unfold cellsFrom
    have hk : ¬ ((k == NameKind.cell) = true) := fun z => h (y, k) List.mem_cons_self (by simpa using z)
    rw [if_neg hk]
    exact ih fun z hz => h z (List.mem_cons_of_mem _ hz)
/-- THE RULE: such a generator def, by its body -/
theorem zfn_of {P : Program} {w : World} {K : PySem.W.Frag} {mg : Str → Option Value} {base : Heap} {k : Nat} {f : Addr} {name qual : Str} {params : Arguments} {body : List Stmt} {scope : Scope} {dV kV doc pm cdv ct oc : Value} {an od : Option Addr}
    {osl : Array (Option Value)} {N ps : List Str} {sp : SpZ} (lk : K.lookup f = some ⟨oc, od, .func (PySem.W.fnOf name qual params body scope dV kV doc pm an cdv ct), osl⟩) (hcd : PySem.W.codeIn K cdv qual = true) (S : GScope N ps scope) (nc : ∀ y ∈ scope.names, y.2 ≠ .cell)
    (len : ∀ vs H Y Q, sp vs H Y Q → vs.length = ps.length)
    (hbody : ∀ (A : Around) (outer : List Env) (s : Shared) (H : Hp) (vs : List V) (Y : List V → V → Hp → Prop) (Q : List V → Hp → Prop) (pn : List (Addr × Obj)), Room k (A.deeper (envOfC qual scope s.heap.objs.size f cdv)) → sp vs H Y Q →
      ∀ (p : Pt) (H2 : Hp), (∀ b, p.Md b → H b = none) → (∀ b, p.Md b → H2 b ≠ none) → Same H H2 → Stab p → p.Yp = Y → p.Cv [] H2 →
      ∃ t, HSs (gcxOf P w K mg base N qual scope f cdv A outer s H (fun _ _ _ => False) pn) p body t ∧ t { nx := fun ys _ H' => p.Cv ys H' ∧ Q ys H', rt := fun ys v H' => v = .non ∧ p.Cv ys H' ∧ Q ys H' } [] (start N vs) H2) :
    ZFn P w K mg base (k + 1) f (PySem.W.fnOf name qual params body scope dV kV doc pm an cdv ct) ps sp := by
  refine ⟨len, fun A outer s H args us vs Y Q hr e0 hb r hsp => codeAny_dead ?_⟩
  have hl := len _ _ _ _ hsp
  have KX : K.In s.heap := e0.mod.kin.keeps fun b o e => (e0.bs b o e).1
  have lim : s.heap.NoLimit := e0.mod.nolimit.keeps fun b o e => (e0.bs b o e).1
  have hkind : ∀ y ∈ ps.zip us, scope.names.lookup y.1 = some .local ∨ (scope.names.lookup y.1 = some .cell ∧ ((cellsFrom (s.heap.objs.size + 1) scope.names []).lookup y.1).isSome = true) := fun ⟨n, v⟩ hy => by
    rcases S.par n (List.of_mem_zip hy).1 with q | q
    · exact .inl q
    · exact .inr ⟨q, PySem.W.cellsFrom_some _ _ _ (.inl q)⟩
  refine codeAny_call_generator hr.depth (KX _ _ lk) rfl S.co S.gen rfl (PySem.W.codeRec_of KX hcd) (hb _ _ _ _ ?_)
  refine wpAny_newFunctionEnv_cells S.kind hkind fun env he s1 x => ?_
  subst he
  have lim1 : s1.heap.NoLimit := lim.keeps x.toInCall.keep
  refine ⟨lim1, ?_⟩
  obtain ⟨h1, tk, es1, hk1⟩ := x.done
  have os1 : s1.os = s.os := by rw [es1]
  have gen1 : s1.gens = s.gens := by rw [es1]
  have lt1 : s.heap.objs.size < s1.heap.objs.size := x.toInCall.ns.lt
  have sz1 : s.heap.objs.size ≤ s1.heap.objs.size := Nat.le_of_lt lt1
  have kp1 : ∀ b o, s.heap.get? b = some o → s1.heap.get? b = some o := x.toInCall.keep
  have main : ∀ (go : Obj) (nm qn : Value) (tk2 : Nat), go.cls = .type "generator" → go.data = .fields #[.int s1.gens.size 0, nm, qn] → go.slots = #[] → (∀ h : Heap, (h.push go).get? h.objs.size = some go) → Dead s.heap (s1.heap.push go) →
      ZMade P w (k + 1) outer H s Y Q (.ref s1.heap.objs.size) { s1 with gens := s1.gens.push (.fresh (.func body (envOfC qual scope s.heap.objs.size f cdv))), toks := tk2, heap := s1.heap.push go } := by
    intro go nm qn tk2 hgc hgd0 hgs hgp dd
    have hpushed : (s1.heap.push go).get? s1.heap.objs.size = some go := hgp _
    have hgd : ∀ v, go.data ≠ .cell v := fun v q => by rw [hgd0] at q; cases q
    have hbare : AllBare (s1.gens.push (.fresh (.func body (envOfC qual scope s.heap.objs.size f cdv)))) := AllBare.push (by rw [gen1]; exact e0.bare) rfl
    refine ⟨s1.heap.objs.size, s1.gens.size, _, go, fun A => gcxOf P w K mg base N qual scope f cdv A outer s H (fun _ _ _ => False) [(s1.heap.objs.size, go)], start N vs, rfl, sz1, fun h e => ⟨go, nm, qn, e, hgc, hgd0, hgs⟩, Array.getElem?_push_size .., os1, hbare,
      fun b o e => Heap.get?_push_of_some _ (kp1 b o e), dd, fun Aw hrw hfr => ⟨⟨rfl, rfl, rfl, rfl, rfl, rfl, fun y => ?_, Nat.le_refl _, rfl⟩, ?_, fun p s2 H2 cp hcp I2 m1 m2 sm stb hY cv => ?_⟩⟩
    · show (cellsFrom (s.heap.objs.size + 1) scope.names []).lookup y = none
      rw [nocells nc]; rfl
    · have e0w : Env0 P w K mg base Aw outer s H := ⟨hfr, e0.mod, e0.bs, e0.bsz, e0.funs, e0.frf, e0.hok, e0.bare⟩
      have I1 : Inv (gcxOf P w K mg base N qual scope f cdv Aw outer s H (fun _ _ _ => False) []) [] (start N vs) H s1 := inv_startG S hrw.hd e0w hl r x
      have I2 : Inv (gcxOf P w K mg base N qual scope f cdv Aw outer s H (fun _ _ _ => False) []) [] (start N vs) H { s1 with gens := s1.gens.push (.fresh (.func body (envOfC qual scope s.heap.objs.size f cdv))), toks := tk2, heap := s1.heap.push go } :=
        I1.call' (ch := []) rfl (Un.kept fun b o e => Heap.get?_push_of_some _ e) (I1.hok.kept fun b o e => Heap.get?_push_of_some _ e) hbare fun b z => by simp at z
      refine Inv.pinnedG I2 fun q hq => ?_
      rw [List.mem_singleton.mp hq]
      exact ⟨hpushed, I1.hok.fresh (Nat.le_refl _), Nat.ne_of_gt lt1, I1.nofs (Nat.le_refl _), hgd⟩
    · obtain ⟨t, ht, hq⟩ := hbody Aw outer s H vs Y Q [(s1.heap.objs.size, go)] (hrw.deeper _) hsp p H2 m1 m2 sm stb hY cv
      refine seg_func ?_
      refine ht.run Aw [] _ sizeLine [] s2 _ [] _ _ id id s2 (start N vs) H2 _ ⟨over_func, rfl, rfl, rfl⟩ (Nat.add_zero _) ⟨fun n ys s₀ s' fl hn hs => ?_, fun n s₀ e s' hx => ?_⟩ ⟨fun q z => by simp at z, cp, hcp, by rw [List.append_nil]; exact I2⟩ hq
      · cases fl with
        | next =>
          obtain ⟨σ', H', hI, hQ⟩ := hs
          exact seg_end (.ok (.ret .none)) ⟨ys, .non, [], σ', H', hI, rfl, rfl, hQ⟩
        | brk => obtain ⟨_, _, _, q⟩ := hs; exact False.elim q
        | cont => obtain ⟨_, _, _, q⟩ := hs; exact False.elim q
        | ret u =>
          obtain ⟨v, σ', H', hI, rv, ev, hQ⟩ := hs
          exact seg_end (.ok (.ret u)) ⟨ys, v, [], σ', H', hI, rv, ev, hQ⟩
      · refine seg_wrap ?_
        rw [over_func]
        refine wpAny_mono (show wpAny (model P w) (Aw.deeper (envOfC qual scope s.heap.objs.size f cdv)) (leaving (envOfC qual scope s.heap.objs.size f cdv) e) (fun _ s'' => CX P w outer H s (fun _ _ _ => False) e s'' ∧ ∀ p ∈ [(s1.heap.objs.size, go)], s''.heap.get? p.1 = some p.2) (fun _ _ => False) s' from hx) (fun _ s'' q => ?_) fun _ s'' q => q.elim
        obtain ⟨⟨_, _, _, _, _, _, _, _, _, _, _, _, z⟩, _⟩ := q
        exact z.elim
  exact fun dd => main _ _ _ _ rfl rfl rfl (fun h => Heap.get?_push_size _ rfl) dd
/-- .. with defaults -/
theorem okZ {P : Program} {w : World} {K : PySem.W.Frag} {mg : Str → Option Value} {base : Heap} {x qual : Str} {params : Arguments} {body : List Stmt} {scope : Scope} {dvs : List V} {kws : List (Str × V)} {f : Addr} {fd : FuncData} {N ps : List Str} {k : Nat} {sp : SpZ} (F : FunD K x qual params body scope dvs kws f fd) (S : GScope N ps scope)
    (nc : ∀ y ∈ scope.names, y.2 ≠ .cell) (len : ∀ vs H Y Q, sp vs H Y Q → vs.length = ps.length)
    (hbody : ∀ (cdv : Value) (A : Around) (outer : List Env) (s : Shared) (H : Hp) (vs : List V) (Y : List V → V → Hp → Prop) (Q : List V → Hp → Prop) (pn : List (Addr × Obj)), Room k (A.deeper (envOfC qual scope s.heap.objs.size f cdv)) → sp vs H Y Q →
      ∀ (p : Pt) (H2 : Hp), (∀ b, p.Md b → H b = none) → (∀ b, p.Md b → H2 b ≠ none) → Same H H2 → Stab p → p.Yp = Y → p.Cv [] H2 →
      ∃ t, HSs (gcxOf P w K mg base N qual scope f cdv A outer s H (fun _ _ _ => False) pn) p body t ∧ t { nx := fun ys _ H' => p.Cv ys H' ∧ Q ys H', rt := fun ys v H' => v = .non ∧ p.Cv ys H' ∧ Q ys H' } [] (start N vs) H2) : ZFn P w K mg base (k + 1) f fd ps sp := by
  obtain ⟨oc, od, dV, kV, doc, pm, an, cdv, ct, osl, rfl, lk, hcd, _, _⟩ := F.ex
  exact zfn_of lk hcd S nc len fun A outer s H vs Y Q pn hr h => hbody cdv A outer s H vs Y Q pn hr h
/-- a resumed generator that hands out is one that sleeps -/
theorem wpAny_resumeZ {M : Model} {A : Around} {R : GenEnd} {Y : Protocol} {n : Nat} {E : Value → Shared → Prop} {s : Shared} {g : Nat} {gs : GenState} {r : Resume} {l : List Value} {α : Type} {k : GenResult → Sem α} {Q : α → Shared → Prop} (hg : s.gens[g]? = some gs)
    (hgo : gs.Goes M A R Y n r (s.setGen g .running)) (hR : ∀ x s₁, R n (s.setGen g .running) x s₁ → wpAny M A (k (End.ret x).result) Q E (s₁.setGen g .finished))
    (hY : ∀ v s₁ k₀ l₀ c₀ p₀ fs₀ cl, (GenState.suspended k₀ l₀ c₀ p₀ fs₀ cl).bare = true → Y (n - 1) (s.setGen g .running) v s₁ (fun r' s'' => Seg.next M A R Y n c₀ (k₀ r') fs₀ s'') → wpAny M A (k (.yielded v)) Q E (s₁.setGen g (.suspended k₀ l₀ c₀ p₀ fs₀ cl))) :
    wpAny M A (.resume g r l k) Q E s := by
  intro Γ p hΓ
  rw [Sem.wp_resume]
  have fin : ∀ e₁ s₁, SegEnd R Y n (Seg.next M A R Y n) (s.setGen g .running) e₁ s₁ → e₁.quiet = true ∧ Sem.wp M Γ (k e₁.result) (fun a _ s' => Q a s') (fun e _ s' => E e s') p (s₁.setGen g e₁.genState) := by
    intro e₁ s₁ he
    cases e₁ with
    | ret x => exact ⟨rfl, hR x s₁ he Γ p hΓ⟩
    | susp v g₀ l₀ k₀ c₀ p₀ fs₀ =>
      exact ⟨he.1, hY v s₁ k₀ l₀ c₀ p₀ fs₀ _ (End.bare_of_quiet he.1) he.2 Γ p hΓ⟩
  cases gs with
  | fresh c =>
    obtain ⟨rfl, hs⟩ := hgo
    obtain ⟨e₁, s₁, hr, he⟩ := seg_iff.mp hs (Γ.wake c p) p rfl (hΓ.wake c p)
    exact ⟨_, _, by unfold Wakes; rw [hg]; exact ⟨e₁, s₁, hr, (fin e₁ s₁ he).1, rfl, rfl⟩, (fin e₁ s₁ he).2⟩
  | suspended k₀ l₀ c₀ p₀ fs₀ cl =>
    obtain ⟨e₁, s₁, hr, he⟩ := seg_iff.mp hgo (Γ.wake c₀ p) p₀ rfl (hΓ.wake c₀ p)
    exact ⟨_, _, by unfold Wakes; rw [hg]; exact ⟨e₁, s₁, hr, (fin e₁ s₁ he).1, rfl, rfl⟩, (fin e₁ s₁ he).2⟩
  | running => exact hgo.elim
  | finished => exact hgo.elim
theorem next_Z {P : Program} {w : World} {A : Around} {E : Value → Shared → Prop} {s : Shared} {a : Addr} {g n : Nat} {gs : GenState} {R : GenEnd} {Y : Protocol} {Q : Option Value → Shared → Prop} (hh : A.handled = none) (hl : s.heap.NoLimit) (hroom : A.depth < recursionLimit) (hg : s.heap.IsGen a g) (hgs : s.gens[g]? = some gs)
    (hgo : gs.Goes (model P w) A.in1 R Y n (.send .none) (s.setGen g .running)) (hres : ∀ r s₁, R n (s.setGen g .running) r s₁ → r = .ok (.ret .none))
    (hY : ∀ v s₁ k₀ l₀ c₀ p₀ fs₀ cl, (GenState.suspended k₀ l₀ c₀ p₀ fs₀ cl).bare = true → Y (n - 1) (s.setGen g .running) v s₁ (fun r' s'' => Seg.next (model P w) A.in1 R Y n c₀ (k₀ r') fs₀ s'') → Q (some v) (s₁.setGen g (.suspended k₀ l₀ c₀ p₀ fs₀ cl)))
    (hP : ∀ s₁, R n (s.setGen g .running) (.ok (.ret .none)) s₁ → ∀ h', (∀ b o, s₁.heap.get? b = some o → h'.get? b = some o) → Q none { s₁.setGen g .finished with heap := h' }) : wpAny (model P w) A (pyNext (.ref a)) Q E s := by
  unfold pyNext
  refine wpAny_bind (wpAny_attempt (wpAny_callSpecial?_slot (name := Str.ofString "__next__") hg.typeIs slot_gen_next (wpAny_call_entry slot_gen_next hg.typeIs entry_gen_next ?_ (args_gen_next _))))
  show wpAny _ A.in1 (Builtin.Generator.genWake (.ref a) (.send .none)) _ _ s
  unfold Builtin.Generator.genWake
  refine wpAny_bind (wpAny_holding (wpAny_genNumber hg (wpAny_bind (wpAny_genState hgs ?_))))
  cases gs with
  | running => exact hgo.elim
  | finished => exact hgo.elim
  | _ =>
    refine wpAny_bind (wpAny_roomToWake hl hroom ?_)
    show wpAny _ A.in1 (.resume g (.send .none) [] _) _ _ s
    refine wpAny_resumeZ hgs hgo (fun x s₁ hx => ?_) (fun v s₁ k₀ l₀ c₀ p₀ fs₀ cl hb hv => ?_)
    · obtain rfl := hres x s₁ hx
      show wpAny _ A.in1 (newExc (.type "StopIteration") [] >>= _) _ _ _
      refine wpAny_bind ?_
      simp only [newExc, newTuple]
      refine wpAny_bind (wpAny_newObj_type ?_ (by size_fits))
      refine wpAny_bind (m := firstArgMember _ _) (wpAny_of_eq (a := Value.none) (by first | rfl | (simp only [firstArgMember]; rfl)) ?_)
      refine wpAny_newObj_type ?_ (by size_fits)
      simp only [raiseNew]
      refine wpAny_bind (wpAny_bind (wpAny_handled ?_))
      first | rw [show A.in1.handled = none from hh] | rw [hh]
      refine wpAny_throw ?_
      refine wpAny_bind (wpAny_isInstance (T := "StopIteration") (b := true) ⟨_, Heap.get?_push_size _ rfl, rfl⟩ isSubtype_stop ?_)
      exact wpAny_pure (hP s₁ hx _ fun b o hb => Heap.get?_push_of_some _ (Heap.get?_push_of_some _ hb))
    · exact wpAny_pure ⟨v, rfl, wpAny_pure (hY v s₁ k₀ l₀ c₀ p₀ fs₀ cl hb hv)⟩
end Pk

/-! ## Comprehensions that walk a generator -/
namespace Pk
open PySem PySem.Spec PyProof.Rows L2 GenW
abbrev TZ := L2.St → Hp → (Hp → (List V → V → Hp → Prop) → (List V → Hp → Prop) → Prop) → Prop
structure PZ (X : Cx) (k : Nat) (e : Expr) (tz : TZ) : Prop where
  run : ∀ (pins : List (Addr × Obj)) (s : Shared) (σ : L2.St) (H : Hp) (C : Hp → (List V → V → Hp → Prop) → (List V → Hp → Prop) → Prop), Inv X pins σ H s → tz σ H C → wpAny (model X.prog X.w) X.A (eval e X.env)
    (fun u s' => ∃ H1 sc Y Q, Inv X pins σ H1 sc ∧ ZMade X.prog X.w k X.stack H1 sc Y Q u s' ∧ C H1 Y Q) X.xe s
section
variable {X : Cx} {k : Nat} {f C : Addr} {fd : FuncData} {ps : List Str} {sp : SpZ} {dvs : List V} {ds : List Value} {x m : Str} {p pos pos' apos : Pos} {o : Expr} {ta : TE}
theorem run_zfn {pins : List (Addr × Obj)} {σ : L2.St} {H : Hp} {s : Shared} {us : List Value} {vs : List V} {Y : List V → V → Hp → Prop} {Q : List V → Hp → Prop} {Cc : Hp → (List V → V → Hp → Prop) → (List V → Hp → Prop) → Prop} {E1 : Value → Shared → Prop}
    (F : ZFn X.prog X.w X.K X.mg X.base k f fd ps sp) (hr : Room k X.A) (hb : Binds X.K fd ps ds) (hd : Vals dvs ds) (I : Inv X pins σ H s) (r : Vals vs us) (h : sp (vs ++ dvs) H Y Q) (hc : Cc H Y Q) :
    wpAny (model X.prog X.w) X.A (call (.ref f) us) (fun u s' => ∃ H1 sc Y Q, Inv X pins σ H1 sc ∧ ZMade X.prog X.w k X.stack H1 sc Y Q u s' ∧ Cc H1 Y Q) E1 s := by
  have r2 : Vals (vs ++ dvs) (us ++ ds) := r.append hd
  have hl2 : (us ++ ds).length = ps.length := by rw [← r2.length]; exact F.len _ _ _ _ h
  refine wpAny_call (codeAny_mono (F.run X.A X.stack s H ⟨us, []⟩ (us ++ ds) (vs ++ dvs) Y Q hr I.env0 (hb s us I.kIn hl2) r2 h) fun r s' hq => ?_)
  cases r with
  | error e => exact False.elim hq
  | ok fl =>
    cases fl with
    | ret u => exact ⟨H, s, Y, Q, I, hq, hc⟩
    | next => exact False.elim hq
    | brk => exact False.elim hq
    | cont => exact False.elim hq
def tMethZ (C : Addr) (m : Str) (sp : SpZ) (dvs : List V) (ta : TE) (t : TA) : TZ := fun σ H Cc => ta σ H fun x H1 => ∃ a dx fs, x = .ref a ∧ H1 a = some (.ins C dx fs) ∧ fs.lookup m = none ∧
  t σ H1 fun vs H2 => ∃ Y Q, sp (x :: (vs ++ dvs)) H2 Y Q ∧ Cc H2 Y Q
/-- o.m() of such a generator method -/
theorem pz_meth0 {pl : Sem Bool} (he : PE X o ta) (c : Cls X.K C) (hm : Meth X.K C m f) (F : ZFn X.prog X.w X.K X.mg X.base k f fd ps sp) (hr : Room k X.A) (hb : Binds X.K fd ps ds) (hd : Vals dvs ds)
    (ht : eval (.Call (.Attribute o m apos) [] [] pos') X.env = (do
      let ov ← eval o X.env
      standAt apos.atName
      let (f, first) ← holding [ov] (getMethod ov m pl)
      callWith pos' f first (backTo pos' (starEach [] X.env)) (backToKw pos' (keywordEach [] X.env))) := by rfl) : PZ X k (.Call (.Attribute o m apos) [] [] pos') (tMethZ C m sp dvs ta tNil) := by
  refine ⟨fun pins s σ H Cc I h => ?_⟩
  refine PySem.W.methodCall_KW (pl := pl) (thn (he.run pins s σ H _ I h) fun u s1 ⟨x, H1, I1, rx, a, dx, fs, ex, ea, l, Y, Q, q, cc⟩ => ?_) ht
  subst ex
  obtain rfl : u = Value.ref a := rx
  refine getmeth_ok I1 ea c hm l ?_
  exact PySem.W.callWith_K0 (first := [.ref a]) I1.kIn hm.kp (run_zfn (us := [.ref a]) (vs := [.ref a]) F hr hb hd I1 (.cons rfl .nil) q cc)
/-- [elt for target in o.m()] -/
def tLcZ (tz : TZ) (g : TG) (te : TE) (vs : List Nat) : TE := fun σ H Qf => tz σ H fun H1 Y Qe => ∃ Cv : Addr → List V → Hp → Prop,
  (∀ D ys H H', Cv D ys H → Same H H' → Cv D ys H') ∧ (∀ D ys H, Cv D ys H → ∃ acc, H D = some (.lst acc)) ∧ ∀ D, H1 D = none → Cv D [] (upd H1 D (.lst [])) ∧
    (∀ ys x H, Cv D ys H → Y ys x H → RlM (· = D) (upd H1 D (.lst [])) H → g x (wipe σ vs) H fun σ2 H2 => wipe σ2 vs = wipe σ vs ∧ te σ2 H2 fun y H4 => ∃ acc, H4 D = some (.lst acc) ∧ acc.length < sizeLine ∧
      RlM (· = D) H (upd H4 D (.lst (acc ++ [y]))) ∧ Cv D (ys ++ [x]) (upd H4 D (.lst (acc ++ [y])))) ∧
    ∀ ys H, Cv D ys H → Qe ys H → RlM (· = D) (upd H1 D (.lst [])) H → Qf (.ref D) H
theorem inv_gens {X : Cx} {pins : List (Addr × Obj)} {σ : L2.St} {H : Hp} {s : Shared} {G : Array GenState} (I : Inv X pins σ H s) (hG : AllBare G) : Inv X pins σ H { s with gens := G } :=
  ⟨I.ok, I.os, hG, I.base, I.loc, I.cell, I.free, I.freeC, I.pin, I.hok, I.len⟩
theorem bare_asleep {s : Shared} (h : AllBare s.gens) : AllBare (asleep s).gens := Sl.bare' sl_asleep h
/-- a step in the world where they sleep -/
theorem thnZ {α : Type} {M : Model} {A : Around} {m : Sem α} {Q Q' : α → Shared → Prop} {E : Value → Shared → Prop} {s : Shared} (h : wpAny M A m Q (fun _ _ => False) (asleep s))
    (hQ : ∀ a s1 G, Q a s1 → (AllBare s1.gens → AllBare G) → (∀ (g : Nat) k l c p fs cl, s.gens[g]? = some (GenState.suspended k l c p fs cl) → G[g]? = some (GenState.suspended k l c p fs cl)) → Q' a { s1 with gens := G }) : wpAny M A m Q' E s := by
  refine wpAny_mono (wpAny_asleep h) (fun a s' ⟨s1, q, e, sl, kp⟩ => ?_) fun x s' ⟨s1, z, _⟩ => z.elim
  rw [e]
  exact hQ a s1 s'.gens q sl.bare fun g k l c p fs cl eg => kp.sleeps eg
end
end Pk

/-! ## [elt for target in o.m()], o.m a generator method: the proof -/
namespace Pk
open PySem PySem.Spec PyProof.Rows L2 GenW
section
variable {X : Cx} {k : Nat}
/-- the two sides of such a comprehension: the generator's context Xg, the block's Xb; sc the state at the call, s3 where the block begins -/
structure TwoS (X Xg Xb : Cx) (H1 H3 : Hp) (sc s3 : Shared) (D C : Addr) (fp : List Addr) : Prop where
  gs0 : Xg.s_0 = sc
  gH0 : Xg.H_0 = H1
  gfs : Xg.fs = frs X.stack
  gex : Xg.ex = []
  gcl : ∀ x, Xg.env.cells.lookup x = none
  gp : Xg.prog = Xb.prog
  gw : Xg.w = Xb.w
  bs0 : Xb.s_0 = s3
  bH0 : Xb.H_0 = H3
  bfs : Xb.fs = frs X.stack
  bex : Xb.ex = fp
  bpn : Xb.pn = []
  bL : Xb.env.locals = C
  gL : Xg.env.locals < C
  gLs : Xg.env.locals ∉ frs X.stack
  pnC : ∀ q ∈ Xg.pn, q.1 ≠ C
  Cfs : C ∉ frs X.stack
  os : s3.os = sc.os
  old : ∀ b o, s3.heap.get? b = some o → b ∉ fp → b ≠ D → sc.heap.get? b = some o ∧ H1 b = H3 b
  new : ∀ b o, sc.heap.get? b = some o → s3.heap.get? b = some o ∧ b ∉ fp ∧ b ≠ D ∧ H1 b = H3 b
  hD : H3 D = some (.lst [])
  hD1 : H1 D = none
  hup : ∀ b, b ≠ D → H3 b = H1 b
  bcl : ∀ x c, Xb.env.cells.lookup x = some c → ∃ o v, sc.heap.get? c = some o ∧ o.data = .cell v ∧ H1 c = none
variable {Xg Xb : Cx} {H1 H3 : Hp} {sc s3 : Shared} {D C : Addr} {fp : List Addr}
theorem TwoS.unB (T : TwoS X Xg Xb H1 H3 sc s3 D C fp) {H' : Hp} {h' : Heap} (u : Un Xg.fs Xg.ex Xg.H_0 H' Xg.s_0.heap h') (hok : ∃ acc, H' D = some (.lst acc) ∧ ∃ o, h'.get? D = some o) (rl : RlM (· = D) H3 H') : Un (frs X.stack) fp H3 H' s3.heap h' := by
  rw [T.gfs, T.gex, T.gH0, T.gs0] at u
  have nD : ∀ b, H3 b = none → b ≠ D := fun b n z => by rw [z, T.hD] at n; cases n
  refine ⟨fun b o e n hb hx => ?_, fun b o e n hb hx => ?_, fun b o e n hx => ?_, fun b o e hx => ?_, fun b xs e => rl b _ (fun z => by rw [z, T.hD] at e; cases e) e, fun b o v e => rl b _ (fun z => by rw [z, T.hD] at e; cases e) e,
    fun b qs e => ⟨#[], by rw [rl b _ (fun z => by rw [z, T.hD] at e; cases e) e]; simp⟩⟩
  · obtain ⟨e0, hh⟩ := T.old b o e hx (nD b n)
    exact u.keep b o e0 (hh.trans n) hb (by simp)
  · obtain ⟨e0, hh⟩ := T.old b o e hx (nD b n)
    exact u.slot b o e0 (hh.trans n) hb (by simp)
  · obtain ⟨e0, hh⟩ := T.old b o e hx (nD b n)
    exact u.free b o e0 (hh.trans n) (by simp)
  · by_cases hb : b = D
    · obtain ⟨_, _, h⟩ := hok
      rw [hb]; exact h
    · obtain ⟨e0, hh⟩ := T.old b o e hx hb
      exact u.there b o e0 (by simp)
theorem TwoS.unG (T : TwoS X Xg Xb H1 H3 sc s3 D C fp) {H' : Hp} {h' : Heap} (u : Un Xb.fs Xb.ex Xb.H_0 H' Xb.s_0.heap h') : Un Xg.fs Xg.ex Xg.H_0 H' Xg.s_0.heap h' := by
  rw [T.bfs, T.bex, T.bH0, T.bs0] at u
  rw [T.gfs, T.gex, T.gH0, T.gs0]
  have up : ∀ b o, H1 b = some o → H3 b = some o := fun b o e => (T.hup b fun z => by rw [z, T.hD1] at e; cases e).trans e
  refine ⟨fun b o e n hb _ => ?_, fun b o e n hb _ => ?_, fun b o e n _ => ?_, fun b o e _ => ?_, fun b xs e => u.tups b xs (up _ _ e), fun b o v e => u.frzs b o v (up _ _ e), fun b qs e => u.tbls b qs (up _ _ e)⟩
  · obtain ⟨e0, nf, nd, hh⟩ := T.new b o e
    exact u.keep b o e0 (hh.symm.trans n) hb nf
  · obtain ⟨e0, nf, nd, hh⟩ := T.new b o e
    exact u.slot b o e0 (hh.symm.trans n) hb nf
  · obtain ⟨e0, nf, nd, hh⟩ := T.new b o e
    exact u.free b o e0 (hh.symm.trans n) nf
  · obtain ⟨e0, nf, nd, hh⟩ := T.new b o e
    exact u.there b o e0 nf
/-- from the generator's side back to the block's -/
theorem TwoS.toB (T : TwoS X Xg Xb H1 H3 sc s3 D C fp) {ip cp : List (Addr × Obj)} {σb σg : L2.St} {H5 H' : Hp} {s5 s' : Shared} (I5 : Inv Xb [] σb H5 s5) (I' : Inv Xg (cp ++ ip) σg H' s') (hcp : ∃ o, s5.heap.get? C = some o ∧ (C, o) ∈ cp) (rl : RlM (· = D) H3 H') (hD : ∃ acc, H' D = some (.lst acc)) : Inv Xb [] σb H' s' := by
  obtain ⟨oC, eC, mC⟩ := hcp
  obtain ⟨pC1, pC2, _, _, _⟩ := I'.pin (C, oC) (List.mem_append_right _ (List.mem_append_left _ mC))
  obtain ⟨acc, eD⟩ := hD
  have uB := T.unB I'.base ⟨acc, eD, by obtain ⟨_, its, n, _, e⟩ := I'.hok D _ eD; exact ⟨_, e⟩⟩ rl
  have cellS : ∀ x c v, Xb.env.cells.lookup x = some c → s5.heap.IsCell c v → s'.heap.IsCell c v := fun x c v e hv => by
    obtain ⟨o, v0, eo, ed, en⟩ := T.bcl x c e
    obtain ⟨e3, nf, nd, hh⟩ := T.new c o eo
    have u5 := I5.base
    rw [T.bfs, T.bex, T.bH0, T.bs0] at u5
    obtain ⟨sl, e5⟩ := u5.any e3 (hh.symm.trans en) nf
    obtain ⟨sl', e'⟩ := uB.any e3 (hh.symm.trans en) nf
    obtain ⟨o5, q5, d5⟩ := hv
    rw [e5] at q5; cases q5
    exact ⟨_, e', d5⟩
  refine ⟨I5.ok, ?_, I'.bare, ?_, ?_, fun x c e => ?_, ?_, fun x c e => ?_, fun p hp => ?_, ?_, I5.len⟩
  · rw [I'.os, T.gs0, T.bs0, T.os]
  · rw [T.bfs, T.bex, T.bH0, T.bs0]; exact uB
  · obtain ⟨m, hn, hl⟩ := I5.loc
    refine ⟨m, hn.at fun o e => ?_, fun i x v e1 e2 e3 => ?_⟩
    · rw [T.bL] at e ⊢
      rw [eC] at e; cases e
      exact pC1
    · obtain ⟨u, r, q⟩ := hl i x v e1 e2 e3
      refine ⟨u, r, ?_⟩
      rcases q with q | ⟨q1, c, q2, q3⟩
      · exact .inl q
      · exact .inr ⟨q1, c, q2, cellS x c _ q2 q3⟩
  · obtain ⟨v, hv⟩ := I5.cell x c e
    exact ⟨v, cellS x c v e hv⟩
  · rw [T.bL]; exact pC2
  · obtain ⟨o, v0, eo, ed, en⟩ := T.bcl x c e
    obtain ⟨e3, nf, nd, hh⟩ := T.new c o eo
    exact uB.free c o e3 (hh.symm.trans en) nf
  · rw [T.bpn] at hp
    exact absurd hp (by simp)
  · rw [← T.gp, ← T.gw]; exact I'.hok
/-- from the block's side to the generator's: what it owns has been pinned -/
theorem TwoS.toG (T : TwoS X Xg Xb H1 H3 sc s3 D C fp) {ip cp ow : List (Addr × Obj)} {σb σg : L2.St} {H6 H' : Hp} {s6 s' : Shared} {oL : Obj} (I6 : Inv Xg (cp ++ ip) σg H6 s6) (hL : s6.heap.get? Xg.env.locals = some oL) (I' : Inv Xb ow σb H' s') (hoL : (Xg.env.locals, oL) ∈ ow) (how : ∀ q ∈ Xg.pn ++ ip, q ∈ ow) : Inv Xg ip σg H' s' := by
  obtain ⟨l1, l2, _, _, _⟩ := I'.pin _ (List.mem_append_right _ hoL)
  refine ⟨I6.ok, ?_, I'.bare, T.unG I'.base, ?_, fun x c e => ?_, l2, fun x c e => ?_, fun p hp => ?_, ?_, I6.len⟩
  · rw [I'.os, T.gs0, T.bs0, T.os]
  · obtain ⟨m, hn, hl⟩ := I6.loc
    refine ⟨m, hn.at fun o e => ?_, fun i x v e1 e2 e3 => ?_⟩
    · rw [hL] at e; cases e; exact l1
    · obtain ⟨u, r, q⟩ := hl i x v e1 e2 e3
      refine ⟨u, r, ?_⟩
      rcases q with q | ⟨_, c, q2, _⟩
      · exact .inl q
      · rw [T.gcl] at q2; cases q2
  · rw [T.gcl] at e; cases e
  · rw [T.gcl] at e; cases e
  · obtain ⟨a1, a2, _, _, _⟩ := I'.pin p (List.mem_append_right _ (how p hp))
    obtain ⟨_, _, b3, b4, b5⟩ := I6.pin p (by
      rcases List.mem_append.mp hp with z | z
      · exact List.mem_append_left _ z
      · exact List.mem_append_right _ (List.mem_append_right _ z))
    exact ⟨a1, a2, b3, b4, b5⟩
  · rw [T.gp, T.gw]; exact I'.hok
/-- the block's own object is pinned while the generator runs -/
theorem TwoS.pinC (T : TwoS X Xg Xb H1 H3 sc s3 D C fp) {ip : List (Addr × Obj)} {σb σg : L2.St} {H' : Hp} {s' : Shared} (Ig : Inv Xg ip σg H' s') (Ib : Inv Xb [] σb H' s') : ∃ oC, s'.heap.get? C = some oC ∧ Inv Xg ([(C, oC)] ++ ip) σg H' s' := by
  obtain ⟨m, ⟨oC, es, ep, e, d, _⟩, _⟩ := Ib.loc
  have f := Ib.free
  rw [T.bL] at e f
  refine ⟨oC, e, Ig.pins_of fun q hq => ?_⟩
  rcases List.mem_append.mp hq with z | z
  · rw [List.mem_singleton.mp z]
    exact ⟨e, f, Nat.ne_of_gt T.gL, by rw [T.gfs]; exact T.Cfs, fun v y => by rw [d] at y; cases y⟩
  · exact Ig.pin q (List.mem_append_right _ z)
/-- the generator's own objects are pinned while the block runs -/
theorem TwoS.pinG (T : TwoS X Xg Xb H1 H3 sc s3 D C fp) {ip cp : List (Addr × Obj)} {σb σg : L2.St} {H' : Hp} {s' : Shared} (Ig : Inv Xg (cp ++ ip) σg H' s') (hd : ∀ q ∈ ip, q.1 ≠ C) (Ib : Inv Xb [] σb H' s') : ∃ oL, s'.heap.get? Xg.env.locals = some oL ∧ Inv Xb ((Xg.env.locals, oL) :: (Xg.pn ++ ip)) σb H' s' := by
  obtain ⟨m, ⟨oL, es, ep, e, d, _⟩, _⟩ := Ig.loc
  refine ⟨oL, e, Ib.pins_of fun q hq => ?_⟩
  rcases List.mem_cons.mp hq with z | z
  · rw [z]
    exact ⟨e, Ig.free, by rw [T.bL]; exact Nat.ne_of_lt T.gL, by rw [T.bfs]; exact T.gLs, fun v y => by rw [d] at y; cases y⟩
  · obtain ⟨a1, a2, _, a4, a5⟩ := Ig.pin q (by
      rcases List.mem_append.mp z with z | z
      · exact List.mem_append_left _ z
      · exact List.mem_append_right _ (List.mem_append_right _ z))
    refine ⟨a1, a2, ?_, by rw [T.bfs, ← T.gfs]; exact a4, a5⟩
    rw [T.bL]
    rcases List.mem_append.mp z with z | z
    · exact T.pnC q z
    · exact hd q z
end
end Pk

/-! ## [elt for target in o.m()], o.m a generator method: the rule -/
namespace Pk
open PySem PySem.Spec PyProof.Rows L2 GenW
section
variable {X : Cx} {k : Nat}
theorem lc_coreZ {pins : List (Addr × Obj)} {s : Shared} {σ : L2.St} {H : Hp} {Q : VK} {elt tg iter : Expr} {scope : Scope} {own : List (Str × Nat)} {pos pos' : Pos} {tz : TZ} {g : TG} {te : TE} {use : Option (Value → Sem Unit)} {Qf : Value → Shared → Prop}
    (hc : X.calm = true) (hN : X.N.Nodup) (I : Inv X pins σ H s) (hi : PZ X k iter tz) (hr : Room (k + 1) X.A) (ok : BlkOk X.N X.env.scope scope own) (nc : ∀ y ∈ scope.names, y.2 ≠ .cell)
    (hg : ∀ (s : Shared) (H : Hp) (C : Addr) (cl : List (Str × Addr)) (fp : List Addr), PG (X.blk s H scope (compEnvC scope cl C X.env) fp) tg g)
    (he : ∀ (s : Shared) (H : Hp) (C : Addr) (cl : List (Str × Addr)) (fp : List Addr), PE (X.blk s H scope (compEnvC scope cl C X.env) fp) elt te) (hs : ∀ x, foldedSetIterable iter X.env x = pure x)
    (h : tLcZ tz g te (own.map (·.2)) σ H Q)
    (hRR : ∀ D C s' m H', Inv X pins σ H' s' → Q (.ref D) H' → s'.heap.Ns C m → FpOk X pins H' C → compPost (model X.prog X.w) X.A X.xe use Qf (.ref D) C (.ok .next) s') :
    wpAny (model X.prog X.w) X.A (comprehension (.ListComp elt [⟨tg, iter, [], 0⟩] scope pos) scope X.env pos' (newList []) false (eval iter X.env) use) Qf X.xe s := by
  have hfree : ∀ y ∈ scope.names, y.2 = .free → ∃ c, X.env.cells.lookup y.1 = some c := fun y hy e => by
    rcases ok.free y hy e with k | k
    · exact I.ok.has _ (.inl k)
    · exact I.ok.has _ (.inr k)
  have hA1 : Room k X.A.in1 := ⟨hr.hd, by have := hr.dp; show X.A.depth + 3 * k + 5 < _; omega, by have := hr.un; show X.A.units + 1 + 16 * k + 200 < _; omega⟩
  refine wpAny_comprehension_free (use := use) rfl hs (closure_ok hfree) ok.kind (fun y hy e => by rw [ok.uniq y hy, e]) (thn (hi.run pins s σ H _ I h) fun xv s1 hx => ?_)
  obtain ⟨H1, sc, Y, Qe, Isc, ⟨a, gn, cg, go, XA, σ0, rfl, ha, hgo, hgs, os1, b1, kp1, dd1, wake⟩, Cv, stb, trk, q⟩ := hx
  obtain ⟨⟨eP, ew, e0, eH, eo, eex, ecl, eL, epn⟩, IG, wk⟩ := wake X.A.in1 hA1 Isc.ok.frames
  generalize XA X.A.in1 = Xg at eP ew e0 eH eo eex ecl eL epn IG wk
  have genAt : ∀ {cp : List (Addr × Obj)} {σ' : L2.St} {H' : Hp} {s' : Shared}, Inv Xg cp σ' H' s' → s'.heap.IsGen a gn := fun {cp σ' H' s'} I' => hgo _ (I'.pin (a, go) (List.mem_append_left _ (by rw [epn]; exact List.mem_singleton.mpr rfl))).1
  refine wpAny_pyIter_gen (genAt IG) ?_
  refine wpAny_newObj_type (newEnv_comp ?_) (by show 0 ≤ sizeLine; decide)
  have I2 : Inv X pins σ H1 s1 := Isc.call' (ch := []) os1 (Un.kept kp1) (Isc.hok.kept kp1) b1 (fun b z => by simp at z)
  generalize hD : s1.heap.objs.size = D
  have hDn : H1 D = none := I2.hok.fresh (Nat.le_of_eq hD)
  obtain ⟨c0, cstep, cend⟩ := q D hDn
  generalize hs3 : ({ s1 with heap := s1.heap.push { cls := .type "list", data := .seq ([] : List Value).toArray } } : Shared) = s3
  have h3 : s3.heap = s1.heap.push { cls := .type "list", data := .seq ([] : List Value).toArray } := by rw [← hs3]
  have I3 : Inv X pins σ (upd H1 D (.lst [])) s3 := by
    rw [← hs3]
    refine I2.laid (t' := s1.toks) (fun b o e => Heap.get?_push_of_some _ e) (Nat.le_of_eq hD) ⟨Nat.zero_le _, [], 0, .nil, ?_⟩
    rw [← hD]
    exact Heap.get?_push_size _ rfl
  have sz3 : s3.heap.objs.size = D + 1 := by rw [h3, Heap.size_push, hD]
  have scD : sc.heap.objs.size ≤ D := by rw [← hD]; exact dd1.sz
  generalize hfp : (List.range s1.heap.objs.size).filter (fun b => decide (sc.heap.objs.size ≤ b)) = fp
  have mfp : ∀ b, b ∈ fp ↔ b < D ∧ sc.heap.objs.size ≤ b := fun b => by
    rw [← hfp, List.mem_filter, List.mem_range, hD, decide_eq_true_iff]
  have f3 : ∀ b ∈ fp, FpOk X pins (upd H1 D (.lst [])) b ∧ b < s3.heap.objs.size := fun b hb => by
    obtain ⟨z1, z2⟩ := (mfp b).mp hb
    refine ⟨Isc.fpOk z2 ?_, by rw [sz3]; omega⟩
    rw [upd_ne (Nat.ne_of_lt z1)]
    exact Isc.hok.fresh z2
  have I4 := block_start I3 ok hN f3
  have pg := hg s3 (upd H1 D (.lst [])) s3.heap.objs.size (cellsFrom (s3.heap.objs.size + 1) scope.names (cloFrom X.env.cells scope.names [])) fp
  have pe := he s3 (upd H1 D (.lst [])) s3.heap.objs.size (cellsFrom (s3.heap.objs.size + 1) scope.names (cloFrom X.env.cells scope.names [])) fp
  show codeAny _ _ (.compStart (.ListComp elt [⟨tg, iter, [], 0⟩] scope pos) 0 (.ref a) (.ref D) (compEnvC scope (cellsFrom (s3.heap.objs.size + 1) scope.names (cloFrom X.env.cells scope.names [])) s3.heap.objs.size X.env)) (compPost (model X.prog X.w) X.A X.xe use Qf (.ref D) s3.heap.objs.size) { s3 with heap := pushCells (s3.heap.push { cls := .type "dict", data := .dict #[] }) scope.names }
  have hcells : (compEnvC scope (cellsFrom (s3.heap.objs.size + 1) scope.names (cloFrom X.env.cells scope.names [])) s3.heap.objs.size X.env).cells = cloFrom X.env.cells scope.names [] := by
    show cellsFrom _ _ _ = _
    exact nocells nc
  generalize hce : compEnvC scope (cellsFrom (s3.heap.objs.size + 1) scope.names (cloFrom X.env.cells scope.names [])) s3.heap.objs.size X.env = ce at I4 pg pe hcells ⊢
  have cL : ce.locals = s3.heap.objs.size := by subst hce; rfl
  generalize hH3 : upd H1 D (.lst []) = H3 at I3 I4 pg pe f3 c0 cstep cend
  generalize hs4 : ({ s3 with heap := pushCells (s3.heap.push { cls := .type "dict", data := .dict #[] }) scope.names } : Shared) = s4 at I4 ⊢
  have k13 : ∀ b o, s1.heap.get? b = some o → s3.heap.get? b = some o := fun b o e => by rw [h3]; exact Heap.get?_push_of_some _ e
  have k34 : ∀ b o, s3.heap.get? b = some o → s4.heap.get? b = some o := fun b o e => by rw [← hs4]; exact pushCells_keeps _ _ _ _ (Heap.get?_push_of_some _ e)
  have gens4 : s4.gens = s1.gens := by rw [← hs4, ← hs3]
  have os4 : s4.os = s1.os := by rw [← hs4, ← hs3]
  have hup : ∀ b, b ≠ D → H3 b = H1 b := fun b hb => by rw [← hH3]; exact upd_ne hb
  have h3D : H3 D = some (.lst []) := by rw [← hH3]; exact upd_same
  have LgD : Xg.env.locals < D := by rw [← hD]; exact IG.lt
  have stk : ∀ b, sc.heap.objs.size ≤ b → b ∉ frs X.stack := fun b hb hm => by
    rcases List.mem_cons.mp (Isc.stkSub b hm) with z | z
    · rw [z] at hb; exact absurd (Nat.lt_of_lt_of_le Isc.lt hb) (Nat.lt_irrefl _)
    · exact Isc.nofs hb z
  have aD : a < D := by rw [← hD]; exact (genAt IG).elim fun o ho => by obtain ⟨_, _, e, _⟩ := ho; exact Heap.lt_size e
  have T : TwoS X Xg (X.blk s3 H3 scope ce fp) H1 H3 sc s3 D s3.heap.objs.size fp := by
    refine ⟨e0, eH, by show frs Xg.outer = _; rw [eo], eex, ecl, eP, ew, rfl, rfl, rfl, rfl, rfl, cL, by rw [sz3]; exact Nat.lt_succ_of_lt LgD, stk _ eL, fun q hq => ?_, stk _ (by rw [sz3]; exact Nat.le_succ_of_le scD), by rw [← hs3]; exact os1, fun b o e nf nd => ?_, fun b o e => ?_, h3D, hDn, hup, fun x c e => ?_⟩
    · rw [epn] at hq
      rw [List.mem_singleton.mp hq]
      show a ≠ _
      rw [sz3]; exact Nat.ne_of_lt (Nat.lt_succ_of_lt aD)
    · have hb : b < D := by
        have := Heap.lt_size e
        rw [sz3] at this
        exact Nat.lt_of_le_of_ne (Nat.le_of_lt_succ this) nd
      have hb2 : b < sc.heap.objs.size := by
        by_cases z : sc.heap.objs.size ≤ b
        · exact absurd ((mfp b).mpr ⟨hb, z⟩) nf
        · exact Nat.lt_of_not_le z
      refine ⟨?_, (hup b nd).symm⟩
      cases e5 : sc.heap.get? b with
      | some o' =>
        have := k13 b o' (kp1 b o' e5)
        rw [e] at this; exact this.symm
      | none =>
        have z := dd1.dd b hb2 e5
        have : s3.heap.get? b = none := by
          have hb3 : b < s1.heap.objs.size := by rw [hD]; exact hb
          rw [h3]
          exact (Dead.push (h := s1.heap)).dd b hb3 z
        rw [e] at this; cases this
    · have hb := Heap.lt_size e
      have nd : b ≠ D := Nat.ne_of_lt (Nat.lt_of_lt_of_le hb scD)
      exact ⟨k13 b o (kp1 b o e), fun hm => absurd ((mfp b).mp hm).2 (Nat.not_le_of_lt hb), nd, (hup b nd).symm⟩
    · have e : ce.cells.lookup x = some c := e
      rw [hcells] at e
      rcases cloFrom_mem (PySem.mem_of_lookup e) with z | ⟨z1, z2⟩
      · cases z
      · obtain ⟨c', hc'⟩ := hfree _ z1 rfl
        rw [hc'] at z2
        have z2 : c = c' := z2
        subst z2
        obtain ⟨v, o, eo, ed⟩ := Isc.cell _ _ hc'
        exact ⟨o, v, eo, ed, Isc.freeC _ _ hc'⟩
  have IG4 : Inv Xg [] σ0 H3 s4 := by
    obtain ⟨oL, eL1, IGb⟩ : ∃ oL, s1.heap.get? Xg.env.locals = some oL ∧ True := by
      obtain ⟨m, ⟨oL, es, ep, e, _⟩, _⟩ := IG.loc
      exact ⟨oL, e, trivial⟩
    have pin4 : ∀ p : Addr × Obj, s1.heap.get? p.1 = some p.2 → H1 p.1 = none → s4.heap.get? p.1 = some p.2 ∧ H3 p.1 = none := fun p e n => by
      have hb := Heap.lt_size e
      rw [hD] at hb
      exact ⟨k34 _ _ (k13 _ _ e), by rw [hup _ (Nat.ne_of_lt hb)]; exact n⟩
    refine ⟨IG.ok, ?_, I4.bare, T.unG I4.base, ?_, fun x c e => ?_, ?_, fun x c e => ?_, fun p hp => ?_, ?_, IG.len⟩
    · rw [os4]; exact IG.os
    · obtain ⟨m, hn, hl⟩ := IG.loc
      refine ⟨m, hn.keeps fun b o e => k34 _ _ (k13 _ _ e), fun i x v e1 e2 e3 => ?_⟩
      obtain ⟨u, r, qq⟩ := hl i x v e1 e2 e3
      refine ⟨u, r, ?_⟩
      rcases qq with qq | ⟨_, c, q2, _⟩
      · exact .inl qq
      · rw [ecl] at q2; cases q2
    · rw [ecl] at e; cases e
    · rw [hup _ (Nat.ne_of_lt LgD)]; exact IG.free
    · rw [ecl] at e; cases e
    · obtain ⟨a1, a2, a3, a4, a5⟩ := IG.pin p hp
      exact ⟨(pin4 p a1 a2).1, (pin4 p a1 a2).2, a3, a4, a5⟩
    · rw [eP, ew]; exact I4.hok
  have rl3 : RlM (· = D) H3 H3 := fun b o _ e => e
  have loop : codeAny (model X.prog X.w) X.A (.compLoop (.ListComp elt [⟨tg, iter, [], 0⟩] scope pos) 0 (.ref a) (.ref D) ce) (compPost (model X.prog X.w) X.A X.xe use Qf (.ref D) s3.heap.objs.size) s4 := by
    generalize hpt : ({ CA := [s3.heap.objs.size], Md := fun b => b = D, Cv := fun ys H => Cv D ys H ∧ RlM (· = D) H3 H, Yp := Y } : Pt) = pt
    have hstab : Stab pt := by
      subst hpt
      exact fun ys H H' ⟨c1, c2⟩ sm => ⟨stb D ys H H' c1 sm, fun b o nb e => sm b o (c2 b o nb e)⟩
    generalize hGE : GE Xg pt (fun ys v H' => v = .non ∧ pt.Cv ys H' ∧ Qe ys H') (fun _ _ => False) = RR at wk
    refine compLoop_any (fun n s' => ∃ ys ip σg H' gs, Inv (X.blk s3 H3 scope ce fp) [] (wipe σ (own.map (·.2))) H' s' ∧ Inv Xg ip σg H' s' ∧ (∀ q ∈ ip, q.1 ≠ s3.heap.objs.size) ∧ RlM (· = D) H3 H' ∧ Cv D ys H' ∧ s'.gens[gn]? = some gs ∧
      ∀ cp' s'', CpAt [s3.heap.objs.size] s'' cp' → Inv Xg (cp' ++ ip) σg H' s'' → gs.Goes (model X.prog X.w) X.A.in1 RR (GZ Xg pt) n (.send .none) s'') ?_ sizeLine ⟨[], [], σ0, H3, .fresh cg, I4, IG4, (fun q z => by simp at z), rl3, c0, by rw [gens4]; exact hgs, fun cp' s'' hcp' I' => ⟨rfl, ?_⟩⟩
    · rintro n s5 ⟨ys0, ip, σg, H5, gs, I5, IG5, hd5, rl5, cv5, hg5, go5⟩
      have hgl : gn < s5.gens.size := (Array.getElem?_eq_some_iff.mp hg5).1
      obtain ⟨oC, eC, IGc⟩ := T.pinC IG5 I5
      have IGr : Inv Xg ([(s3.heap.objs.size, oC)] ++ ip) σg H5 (s5.setGen gn .running) := inv_gens IGc (allBare_setGen I5.bare rfl)
      have cpr : CpAt [s3.heap.objs.size] (s5.setGen gn .running) [(s3.heap.objs.size, oC)] := fun b hb => by
        rw [List.mem_singleton.mp hb]
        exact ⟨oC, eC, List.mem_singleton.mpr rfl⟩
      have goes := go5 _ _ cpr IGr
      refine wpAny_gsz (n := gn + 1) hgl (next_Z (A := X.A) (I.ok.hd hc) I5.nolimit (by have := hr.dp; omega) (genAt IG5) hg5 goes (fun r s₁ hRr => ?_) (fun v s₁ k₀ l₀ c₀ p₀ fs₀ cl hb hv hsz => ?_) (fun s₁ hRr h' hk hsz => ?_))
      · rw [← hGE] at hRr
        cases r with
        | error e => exact hRr.elim
        | ok fl =>
          cases fl with
          | ret u =>
            obtain ⟨ys, v, ip', σ', H', _, rv, ev, _⟩ := hRr
            subst ev
            have eu : u = Value.none := rv
            rw [eu]
          | next => exact hRr.elim
          | brk => exact hRr.elim
          | cont => exact hRr.elim
      · obtain ⟨ys, x, ip', σg', H6, hn, hlt, rv, ⟨hdj, cp, hcp, I6⟩, hcv, hyp, kapw⟩ := hv
        have hn0 : n ≠ 0 := fun z => by rw [z] at hn; omega
        obtain ⟨m, rfl⟩ : ∃ m, n = m + 1 := ⟨n - 1, by omega⟩
        have hcp' : CpAt [s3.heap.objs.size] (s5.setGen gn .running) cp := by rw [← hpt] at hcp; exact hcp
        have hdj' : ∀ q ∈ ip', q.1 ≠ s3.heap.objs.size := fun q hq z => by
          have y := hdj q hq
          rw [← hpt] at y
          exact y (by rw [z]; exact List.mem_singleton.mpr rfl)
        obtain ⟨cv6, rl6⟩ : Cv D ys H6 ∧ RlM (· = D) H3 H6 := by rw [← hpt] at hcv; exact hcv
        have hyp : Y ys x H6 := by rw [← hpt] at hyp; exact hyp
        have g6 : (s₁.setGen gn (.suspended k₀ l₀ c₀ p₀ fs₀ cl)).gens[gn]? = some (.suspended k₀ l₀ c₀ p₀ fs₀ cl) := setGen_at (by
          have q1 : (s₁.setGen gn (.suspended k₀ l₀ c₀ p₀ fs₀ cl)).gens.size = s₁.gens.size := setGen_size _ _ _
          have q2 : gn + 1 ≤ (s₁.setGen gn (.suspended k₀ l₀ c₀ p₀ fs₀ cl)).gens.size := hsz
          omega)
        have I6s : Inv Xg (cp ++ ip') σg' H6 (s₁.setGen gn (.suspended k₀ l₀ c₀ p₀ fs₀ cl)) := inv_gens I6 (allBare_setGen I6.bare hb)
        generalize s₁.setGen gn (.suspended k₀ l₀ c₀ p₀ fs₀ cl) = s6 at g6 I6s ⊢
        have IB6 : Inv (X.blk s3 H3 scope ce fp) [] (wipe σ (own.map (·.2))) H6 s6 := T.toB I5 I6s (hcp' _ (List.mem_singleton.mpr rfl)) rl6 (trk D ys H6 cv6)
        obtain ⟨oL, eL6, IB6w⟩ := T.pinG I6s hdj' IB6
        obtain ⟨oa, nm, qn, ha6, hca, hda, _⟩ := genAt I6s
        refine go_of ha6 hca hda (by decide) ?_
        refine thnZ (pg.run _ (asleep s6) _ H6 x v _ (inv_gens IB6w (bare_asleep IB6w.bare)) rv (cstep ys x H6 cv6 hyp rl6)) fun _ s8 G8 ⟨σ8, H8, I8, hw8, q8⟩ hb8 hs8 => ?_
        refine wpAny_tests_nil ?_
        rw [if_pos rfl]
        have I8' := inv_gens I8 (hb8 I8.bare)
        refine thnZ (pe.run _ (asleep { s8 with gens := G8 }) σ8 H8 _ (inv_gens I8' (bare_asleep I8'.bare)) q8) fun z s10 G10 ⟨yv, H10, I10, r10, acc, hD10, hz10, rl10, cv10⟩ hb10 hs10 => ?_
        have I10' := inv_gens I10 (hb10 I10.bare)
        refine thnZ (app_ok (X := X.blk s3 H3 scope ce fp) (Q := fun _ s' => Inv (X.blk s3 H3 scope ce fp) ((Xg.env.locals, oL) :: (Xg.pn ++ ip')) σ8 (upd H10 D (.lst (acc ++ [yv]))) s') (inv_gens I10' (bare_asleep I10'.bare)) hD10 hz10 r10 fun s11 I11 => I11) fun _ s11 G11 I11 hb11 hs11 => ?_
        have I11' := inv_gens I11 (hb11 I11.bare)
        have rl11 : RlM (· = D) H3 (upd H10 D (.lst (acc ++ [yv]))) := fun b o nb e => rl10 b o nb (rl6 b o nb e)
        have hl : (wipe σ (own.map (·.2))).length = σ8.length := by rw [← hw8, wipe_length]
        refine ⟨m, Nat.lt_succ_self m, ys ++ [x], ip', σg', _, .suspended k₀ l₀ c₀ p₀ fs₀ cl, (I11'.pins_of (pins' := []) fun p hp => by simp at hp).weak hl (fun j v e => ?_), T.toG I6s eL6 I11' List.mem_cons_self (fun q hq => List.mem_cons_of_mem _ hq), hdj', rl11, cv10, hs11 _ _ _ _ _ _ _ (hs10 _ _ _ _ _ _ _ (hs8 _ _ _ _ _ _ _ g6)), fun cp' s'' hc'' I'' => ?_⟩
        · rw [← hw8] at e
          exact (wipe_some e).1
        · exact kapw cp' s'' _ (by rw [← hpt]; exact hc'') I'' (by rw [← hpt]; exact rl10) (by rw [← hpt]; exact ⟨cv10, rl11⟩)
      · rw [← hGE] at hRr
        obtain ⟨ys, v, ip', σ', H', ⟨hdj, cp, hcp, I6⟩, rv, ev, hcv, qe⟩ := hRr
        have hcp' : CpAt [s3.heap.objs.size] (s5.setGen gn .running) cp := by rw [← hpt] at hcp; exact hcp
        obtain ⟨cv6, rl6⟩ : Cv D ys H' ∧ RlM (· = D) H3 H' := by rw [← hpt] at hcv; exact hcv
        obtain ⟨acc, eD⟩ := trk D ys H' cv6
        have uB := T.unB I6.base ⟨acc, eD, by obtain ⟨_, its, n, _, e⟩ := I6.hok D _ eD; exact ⟨_, e⟩⟩ rl6
        have hok6 : HOk X.prog X.w H' s₁.heap := by rw [← eP, ← ew]; exact I6.hok
        have I7 : Inv X pins σ H' { s₁.setGen gn .finished with heap := h' } := by
          refine I3.call' (ch := fp) ?_ (uB.trans (Un.kept hk)) (hok6.kept hk) (allBare_setGen I6.bare rfl) fun b hb => ⟨(f3 b hb).1.2.2.2.1, (f3 b hb).1.2.1, (f3 b hb).1.2.2.2.2.1, (f3 b hb).1.2.2.2.2.2⟩
          show s₁.os = s3.os
          rw [I6.os, T.gs0, T.os]
        obtain ⟨oC', e5, mC⟩ := hcp' _ (List.mem_singleton.mpr rfl)
        obtain ⟨p1, p2, _, _, _⟩ := I6.pin (s3.heap.objs.size, oC') (List.mem_append_right _ (List.mem_append_left _ mC))
        obtain ⟨m, hnC, _⟩ := I5.loc
        have hnC : s5.heap.Ns ce.locals m := hnC
        rw [cL] at hnC
        refine hRR D s3.heap.objs.size _ m H' I7 (cend ys H' cv6 qe rl6) (hnC.at fun o e => ?_) (I3.fpOk (Nat.le_refl _) p2)
        have e5 : s5.heap.get? s3.heap.objs.size = some oC' := e5
        rw [e5] at e; cases e
        exact hk _ _ p1
    · rw [← hGE]
      subst hpt
      rw [List.append_nil] at I'
      exact wk _ s'' H3 cp' hcp' I' (fun b hb => by rw [show b = D from hb]; exact hDn) (fun b hb => by rw [show b = D from hb, h3D]; simp) (fun b o e => (hup b fun z => by rw [z, hDn] at e; cases e).trans e) hstab rfl ⟨c0, rl3⟩
  exact codeAny_compStart_list loop (wpAny_pyIter_gen (genAt IG4) loop)
/-- as a value -/
theorem pe_lcZ {elt tg iter : Expr} {scope : Scope} {own : List (Str × Nat)} {pos : Pos} {tz : TZ} {g : TG} {te : TE} (hc : X.calm = true) (hN : X.N.Nodup) (hi : PZ X k iter tz) (hr : Room (k + 1) X.A) (ok : BlkOk X.N X.env.scope scope own) (nc : ∀ y ∈ scope.names, y.2 ≠ .cell)
    (hg : ∀ (s : Shared) (H : Hp) (C : Addr) (cl : List (Str × Addr)) (fp : List Addr), PG (X.blk s H scope (compEnvC scope cl C X.env) fp) tg g)
    (he : ∀ (s : Shared) (H : Hp) (C : Addr) (cl : List (Str × Addr)) (fp : List Addr), PE (X.blk s H scope (compEnvC scope cl C X.env) fp) elt te) (hs : ∀ x, foldedSetIterable iter X.env x = pure x := by intro _; rfl) :
    PE X (.ListComp elt [⟨tg, iter, [], 0⟩] scope pos) (tLcZ tz g te (own.map (·.2))) := by
  refine ⟨fun pins s σ H Q I h => ?_⟩
  rw [eval_ListComp]
  refine lc_coreZ hc hN I hi hr ok nc hg he hs h fun D C s' m H' I' q hn f => ⟨m, hn, fun h'' sb => ?_⟩
  obtain ⟨f0, f1, f2, f3, f4, f5⟩ := f
  exact ⟨.ref D, H', I'.turned (t' := s'.toks) (fun b o hb e => (sb.2 b hb).trans e) f0 f1 f3 f4 f5, rfl, q⟩
/-- name = [..] on one line, the name a local -/
theorem ps_setLcZ {i : Nat} {y : Str} {py : Pos} {elt tg iter : Expr} {scope : Scope} {own : List (Str × Nat)} {pos spos : Pos} {tz : TZ} {g : TG} {te : TE} (hc : X.calm = true) (hN : X.N.Nodup) (hy : X.N[i]? = some y) (hyl : X.env.scope.names.lookup y = some .local)
    (hsw : swapsWith (.ListComp elt [⟨tg, iter, [], 0⟩] scope pos) (some (.Name y py)) spos.line X.env = pure true) (hi : PZ X k iter tz) (hr : Room (k + 1) X.A) (ok : BlkOk X.N X.env.scope scope own) (nc : ∀ y ∈ scope.names, y.2 ≠ .cell)
    (hg : ∀ (s : Shared) (H : Hp) (C : Addr) (cl : List (Str × Addr)) (fp : List Addr), PG (X.blk s H scope (compEnvC scope cl C X.env) fp) tg g)
    (he : ∀ (s : Shared) (H : Hp) (C : Addr) (cl : List (Str × Addr)) (fp : List Addr), PE (X.blk s H scope (compEnvC scope cl C X.env) fp) elt te) (hs : ∀ x, foldedSetIterable iter X.env x = pure x := by intro _; rfl) :
    PS X (.Assign [.Name y py] (.ListComp elt [⟨tg, iter, [], 0⟩] scope pos) spos) (tAsg (tLcZ tz g te (own.map (·.2))) (gName i)) := by
  refine ⟨fun pins s σ H D I h => ?_⟩
  rw [exec_Assign_Name_used _ _ _ _ hsw]
  refine wpAny_bind (wpAny_standAt (wpAny_bind ?_))
  show wpAny _ X.A (do let _ ← comprehension (.ListComp elt [⟨tg, iter, [], 0⟩] scope pos) scope X.env (firstIterPos [⟨tg, iter, [], 0⟩] pos) (newList []) false (eval iter X.env) (some (assign (.Name y py) X.env))) _ _ s
  have h : tLcZ tz g te (own.map (·.2)) σ H (fun x H1 => gName i x σ H1 D.nx) := h
  refine wpAny_bind (thn (lc_coreZ (Qf := fun _ s' => SP X pins D .next s') hc hN I hi hr ok nc hg he hs h fun L C s' m H' I' q hn f => ?_) fun _ s' hq => wpAny_pure (wpAny_pure hq))
  show wpAny _ _ (assign (.Name y py) X.env (.ref L)) _ _ _
  refine wpAny_assign_Name (store_ok2 (v := V.ref L) I' hN hy (.inl hyl) rfl (fun s2 I2 ⟨a, sb, ha⟩ => ?_) (.inr hyl))
  obtain ⟨f0, f1, f2, f3, f4, f5⟩ := f
  have haC : C ≠ a := by
    rcases ha with z | z
    · rw [z]; exact f1
    · exact fun e => f4 y a z e.symm
  refine ⟨m, hn.sameBut sb haC, fun h3 sb3 => ?_⟩
  exact ⟨_, H', I2.turned (t' := s2.toks) (fun b o hb e => (sb3.2 b hb).trans e) f0 f1 f3 f4 f5, q⟩
end
end Pk

/-! ## Generator methods by keyword -/
namespace Pk
open PySem PySem.Spec PyProof.Rows L2 PySem.SeqAt
section
variable {X : Cx} {n k : Nat} {C g f : Addr} {sp : Sp} {E : XK} {CX : CXT} {fd : FuncData} {ps : List Str}
/-- o.m(k = v) of a generator method -/
def tMethGK (C : Addr) (m : Str) (j : Nat) (sp : SpG) (gV : List V → List V → List V) (E : XK) (ta : TE) (tk : TA) : TGen := fun σ H cont => ta σ H fun x H1 => ∃ a dx fs, x = .ref a ∧ H1 a = some (.ins C dx fs) ∧ fs.lookup m = none ∧
  tk σ H1 fun zs H3 => zs.length = j ∧ sp (gV [x] zs) H3 cont E
theorem pgen_methK0 {ks : List Str} {sp : SpG} {o : Expr} {kws : List Keyword} {m : Str} {pos apos : Pos} {ta : TE} {tk : TA} {pl : Sem Bool} {gU : List Value → List Value → List Value} {gV : List V → List V → List V} (he : PE X o ta) (c : Cls X.K C) (hm : Meth X.K C m f)
    (F : GFn X.prog X.w X.K X.mg X.base k f fd ps sp) (hr : Room k X.A) (hb : KBn X.K fd ps 1 ks gU gV) (hkw : PK X kws tk)
    (hall : (backToKw pos (keywordEach kws X.env)).all (·.1.isSome) = true := by rfl) (hks : (backToKw pos (keywordEach kws X.env)).filterMap (·.1) = ks := by rfl)
    (hpl : ((backTo pos (starEach [] X.env)).any (·.1) || (backToKw pos (keywordEach kws X.env)).any (·.1.isNone)) = false := by rfl)
    (ht : eval (.Call (.Attribute o m apos) [] kws pos) X.env = (do
      let ov ← eval o X.env
      standAt apos.atName
      let (f, first) ← holding [ov] (getMethod ov m pl)
      callWith pos f first (backTo pos (starEach [] X.env)) (backToKw pos (keywordEach kws X.env))) := by rfl) :
    PGen X k (.Call (.Attribute o m apos) [] kws pos) (tMethGK C m ks.length sp gV E ta tk) E := by
  refine ⟨fun pins s σ H cont I h => ?_⟩
  refine PySem.W.methodCall_KW (pl := pl) (thn (he.run pins s σ H _ I h) fun u s1 ⟨x, H1, I1, rx, a, dx, fs, ex, ea, l, q⟩ => ?_) ht
  subst ex
  obtain rfl : u = Value.ref a := rx
  refine getmeth_ok I1 ea c hm l ?_
  refine PySem.W.callWith_KW0 (first := [.ref a]) (h₀ := X.base) I.ok.mod.kin hm.kp hall ?_ hpl
  refine thn (hkw.run pos pins s1 σ H1 _ I1 q) fun ws s3 ⟨zs, H3, I3, rz, l1, q3⟩ => ⟨I3.kIn, ?_⟩
  rw [hks]
  have rv : Vals [V.ref a] [Value.ref a] := .cons rfl .nil
  have r2 := hb.rel rv rz
  have hl2 : (gU [.ref a] ws).length = ps.length := by rw [← r2.length]; exact F.len _ _ _ _ q3
  refine wpAny_call (codeAny_mono (F.run X.A X.stack s3 H3 ⟨[.ref a], ks.zip ws⟩ (gU [.ref a] ws) (gV [.ref a] zs) cont E hr I3.env0 (hb.to s3 [.ref a] ws I3.kIn rfl (rz.length.symm.trans l1)) r2 q3) fun r s' hq => ?_)
  cases r with
  | error e => exact False.elim hq
  | ok fl =>
    cases fl with
    | ret u => exact ⟨H3, s3, [], I3, .nil, hq⟩
    | next => exact False.elim hq
    | brk => exact False.elim hq
    | cont => exact False.elim hq
end
end Pk

namespace Pk
open PySem L2
open ClX (CRead CMet CVal)
def top (i : Nat) : Stmt := PySem.Challenge.pw_parcelindex_k59_disks_as_dicts.main.body.getD i (.Pass ⟨0, 0, 0, 0⟩)
abbrev s_is_whole : Stmt := top 4
abbrev N_is_whole : List Str := ["thing"]
abbrev P_is_whole : List Str := ["thing"]
theorem S_is_whole : FnScope N_is_whole P_is_whole (defScope s_is_whole) := ⟨rfl, rfl, rfl, by decide +kernel, rfl, by decide +kernel, by decide +kernel⟩
abbrev s_is_count : Stmt := top 5
abbrev N_is_count : List Str := ["thing"]
abbrev P_is_count : List Str := ["thing"]
theorem S_is_count : FnScope N_is_count P_is_count (defScope s_is_count) := ⟨rfl, rfl, rfl, by decide +kernel, rfl, by decide +kernel, by decide +kernel⟩
abbrev s_consists_of : Stmt := top 6
abbrev N_consists_of : List Str := ["text", "signs", "sign"]
abbrev P_consists_of : List Str := ["text", "signs"]
theorem S_consists_of : FnScope N_consists_of P_consists_of (defScope s_consists_of) := ⟨rfl, rfl, rfl, by decide +kernel, rfl, by decide +kernel, by decide +kernel⟩
abbrev s_is_string_of : Stmt := top 7
abbrev N_is_string_of : List Str := ["thing", "signs", "most"]
abbrev P_is_string_of : List Str := ["thing", "signs", "most"]
theorem S_is_string_of : FnScope N_is_string_of P_is_string_of (defScope s_is_string_of) := ⟨rfl, rfl, rfl, by decide +kernel, rfl, by decide +kernel, by decide +kernel⟩
abbrev s_is_text_sign : Stmt := top 8
abbrev N_is_text_sign : List Str := ["sign", "code"]
abbrev P_is_text_sign : List Str := ["sign"]
theorem S_is_text_sign : FnScope N_is_text_sign P_is_text_sign (defScope s_is_text_sign) := ⟨rfl, rfl, rfl, by decide +kernel, rfl, by decide +kernel, by decide +kernel⟩
abbrev s_is_text : Stmt := top 9
abbrev N_is_text : List Str := ["thing", "sign"]
abbrev P_is_text : List Str := ["thing"]
theorem S_is_text : FnScope N_is_text P_is_text (defScope s_is_text) := ⟨rfl, rfl, rfl, by decide +kernel, rfl, by decide +kernel, by decide +kernel⟩
abbrev s_Disk_init : Stmt := inClass (top 22) 0
abbrev N_Disk_init : List Str := ["self", "room"]
abbrev P_Disk_init : List Str := ["self", "room"]
theorem S_Disk_init : FnScope N_Disk_init P_Disk_init (defScope s_Disk_init) := ⟨rfl, rfl, rfl, by decide +kernel, rfl, by decide +kernel, by decide +kernel⟩
abbrev s_Disk_write : Stmt := inClass (top 22) 1
abbrev N_Disk_write : List Str := ["self", "path", "text", "wanted"]
abbrev P_Disk_write : List Str := ["self", "path", "text"]
theorem S_Disk_write : FnScope N_Disk_write P_Disk_write (defScope s_Disk_write) := ⟨rfl, rfl, rfl, by decide +kernel, rfl, by decide +kernel, by decide +kernel⟩
abbrev s_Disk_remove : Stmt := inClass (top 22) 2
abbrev N_Disk_remove : List Str := ["self", "path", "text"]
abbrev P_Disk_remove : List Str := ["self", "path"]
theorem S_Disk_remove : FnScope N_Disk_remove P_Disk_remove (defScope s_Disk_remove) := ⟨rfl, rfl, rfl, by decide +kernel, rfl, by decide +kernel, by decide +kernel⟩
abbrev s_Disk_text_at : Stmt := inClass (top 22) 3
abbrev N_Disk_text_at : List Str := ["self", "path"]
abbrev P_Disk_text_at : List Str := ["self", "path"]
theorem S_Disk_text_at : FnScope N_Disk_text_at P_Disk_text_at (defScope s_Disk_text_at) := ⟨rfl, rfl, rfl, by decide +kernel, rfl, by decide +kernel, by decide +kernel⟩
abbrev s_Disk_paths : Stmt := inClass (top 22) 4
abbrev N_Disk_paths : List Str := ["self", "beginning", "path", "key"]
abbrev P_Disk_paths : List Str := ["self", "beginning"]
theorem S_Disk_paths : GScope N_Disk_paths P_Disk_paths (defScope s_Disk_paths) := ⟨rfl, rfl, rfl, by decide +kernel, rfl, by decide +kernel, by decide +kernel⟩
abbrev s_Disk_room : Stmt := inClass (top 22) 5
abbrev N_Disk_room : List Str := ["self"]
abbrev P_Disk_room : List Str := ["self"]
theorem S_Disk_room : FnScope N_Disk_room P_Disk_room (defScope s_Disk_room) := ⟨rfl, rfl, rfl, by decide +kernel, rfl, by decide +kernel, by decide +kernel⟩
abbrev s_Disk_used : Stmt := inClass (top 22) 6
abbrev N_Disk_used : List Str := ["self"]
abbrev P_Disk_used : List Str := ["self"]
theorem S_Disk_used : FnScope N_Disk_used P_Disk_used (defScope s_Disk_used) := ⟨rfl, rfl, rfl, by decide +kernel, rfl, by decide +kernel, by decide +kernel⟩
abbrev s_Disk_acts : Stmt := inClass (top 22) 7
abbrev N_Disk_acts : List Str := ["self"]
abbrev P_Disk_acts : List Str := ["self"]
theorem S_Disk_acts : FnScope N_Disk_acts P_Disk_acts (defScope s_Disk_acts) := ⟨rfl, rfl, rfl, by decide +kernel, rfl, by decide +kernel, by decide +kernel⟩
abbrev s_Disk_cut_after : Stmt := inClass (top 22) 8
abbrev N_Disk_cut_after : List Str := ["self", "number"]
abbrev P_Disk_cut_after : List Str := ["self", "number"]
theorem S_Disk_cut_after : FnScope N_Disk_cut_after P_Disk_cut_after (defScope s_Disk_cut_after) := ⟨rfl, rfl, rfl, by decide +kernel, rfl, by decide +kernel, by decide +kernel⟩
abbrev s_Disk_power_on : Stmt := inClass (top 22) 9
abbrev N_Disk_power_on : List Str := ["self"]
abbrev P_Disk_power_on : List Str := ["self"]
theorem S_Disk_power_on : FnScope N_Disk_power_on P_Disk_power_on (defScope s_Disk_power_on) := ⟨rfl, rfl, rfl, by decide +kernel, rfl, by decide +kernel, by decide +kernel⟩
abbrev s_Disk_twin : Stmt := inClass (top 22) 10
abbrev N_Disk_twin : List Str := ["self", "made"]
abbrev P_Disk_twin : List Str := ["self"]
theorem S_Disk_twin : FnScope N_Disk_twin P_Disk_twin (defScope s_Disk_twin) := ⟨rfl, rfl, rfl, by decide +kernel, rfl, by decide +kernel, by decide +kernel⟩
abbrev s_Disk_check_power : Stmt := inClass (top 22) 11
abbrev N_Disk_check_power : List Str := ["self"]
abbrev P_Disk_check_power : List Str := ["self"]
theorem S_Disk_check_power : FnScope N_Disk_check_power P_Disk_check_power (defScope s_Disk_check_power) := ⟨rfl, rfl, rfl, by decide +kernel, rfl, by decide +kernel, by decide +kernel⟩
abbrev s_Disk_act : Stmt := inClass (top 22) 12
abbrev N_Disk_act : List Str := ["self"]
abbrev P_Disk_act : List Str := ["self"]
theorem S_Disk_act : FnScope N_Disk_act P_Disk_act (defScope s_Disk_act) := ⟨rfl, rfl, rfl, by decide +kernel, rfl, by decide +kernel, by decide +kernel⟩
abbrev s_Disk_contains : Stmt := inClass (top 22) 13
abbrev N_Disk_contains : List Str := ["self", "path"]
abbrev P_Disk_contains : List Str := ["self", "path"]
theorem S_Disk_contains : FnScope N_Disk_contains P_Disk_contains (defScope s_Disk_contains) := ⟨rfl, rfl, rfl, by decide +kernel, rfl, by decide +kernel, by decide +kernel⟩
abbrev s_Disk_len : Stmt := inClass (top 22) 14
abbrev N_Disk_len : List Str := ["self"]
abbrev P_Disk_len : List Str := ["self"]
theorem S_Disk_len : FnScope N_Disk_len P_Disk_len (defScope s_Disk_len) := ⟨rfl, rfl, rfl, by decide +kernel, rfl, by decide +kernel, by decide +kernel⟩
abbrev s_Disk_eq : Stmt := inClass (top 22) 15
abbrev N_Disk_eq : List Str := ["self", "other"]
abbrev P_Disk_eq : List Str := ["self", "other"]
theorem S_Disk_eq : FnScope N_Disk_eq P_Disk_eq (defScope s_Disk_eq) := ⟨rfl, rfl, rfl, by decide +kernel, rfl, by decide +kernel, by decide +kernel⟩
abbrev s_begin : Stmt := top 24
abbrev N_begin : List Str := ["_law_script"]
abbrev P_begin : List Str := ["_law_script"]
theorem S_begin : FnScope N_begin P_begin (defScope s_begin) := ⟨rfl, rfl, rfl, by decide +kernel, rfl, by decide +kernel, by decide +kernel⟩
abbrev s_mixed : Stmt := top 25
abbrev N_mixed : List Str := ["_law_cell", "_law_k", "_law_mixed_here"]
abbrev P_mixed : List Str := ["_law_cell", "_law_k"]
theorem S_mixed : FnScope N_mixed P_mixed (defScope s_mixed) := ⟨rfl, rfl, rfl, by decide +kernel, rfl, by decide +kernel, by decide +kernel⟩
abbrev s_next : Stmt := top 26
abbrev N_next : List Str := ["_law_draw", "_law_bound", "_law_found", "_law_rows", "_law_cell"]
abbrev P_next : List Str := ["_law_draw", "_law_bound"]
theorem S_next : FnScope N_next P_next (defScope s_next) := ⟨rfl, rfl, rfl, by decide +kernel, rfl, by decide +kernel, by decide +kernel⟩
abbrev s_pick : Stmt := top 27
abbrev N_pick : List Str := ["_law_draw", "_law_some"]
abbrev P_pick : List Str := ["_law_draw", "_law_some"]
theorem S_pick : FnScope N_pick P_pick (defScope s_pick) := ⟨rfl, rfl, rfl, by decide +kernel, rfl, by decide +kernel, by decide +kernel⟩
abbrev s_place : Stmt := top 28
abbrev N_place : List Str := ["_law_draw", "_law_some"]
abbrev P_place : List Str := ["_law_draw"]
theorem S_place : FnScope N_place P_place (defScope s_place) := ⟨rfl, rfl, rfl, by decide +kernel, rfl, by decide +kernel, by decide +kernel⟩
abbrev s_words : Stmt := top 29
abbrev N_words : List Str := ["_law_draw"]
abbrev P_words : List Str := ["_law_draw"]
theorem S_words : FnScope N_words P_words (defScope s_words) := ⟨rfl, rfl, rfl, by decide +kernel, rfl, by decide +kernel, by decide +kernel⟩
abbrev s_shows : Stmt := top 30
abbrev N_shows : List Str := ["_law_box", "_law_texts", "_law_acts", "_law_found", "_law_due", "_law_spot", "_law_one"]
abbrev P_shows : List Str := ["_law_box", "_law_texts", "_law_acts"]
theorem S_shows : FnScope N_shows P_shows (defScope s_shows) := ⟨rfl, rfl, rfl, by decide +kernel, rfl, by decide +kernel, by decide +kernel⟩
abbrev s_paths_right : Stmt := top 31
abbrev N_paths_right : List Str := ["_law_box", "_law_texts", "_law_front", "_law_due", "_law_spot", "_law_one"]
abbrev P_paths_right : List Str := ["_law_box", "_law_texts"]
theorem S_paths_right : FnScope N_paths_right P_paths_right (defScope s_paths_right) := ⟨rfl, rfl, rfl, by decide +kernel, rfl, by decide +kernel, by decide +kernel⟩
abbrev s_twin_right : Stmt := top 32
abbrev N_twin_right : List Str := ["_law_draw", "_law_box", "_law_texts", "_law_acts", "_law_twin", "_law_spot", "_law_words_here", "_law_more"]
abbrev P_twin_right : List Str := ["_law_draw", "_law_box", "_law_texts", "_law_acts"]
theorem S_twin_right : FnScope N_twin_right P_twin_right (defScope s_twin_right) := ⟨rfl, rfl, rfl, by decide +kernel, rfl, by decide +kernel, by decide +kernel⟩
abbrev s_acted : Stmt := top 33
abbrev N_acted : List Str := ["_law_draw", "_law_box", "_law_texts", "_law_spot", "_law_words_here"]
abbrev P_acted : List Str := ["_law_draw", "_law_box", "_law_texts"]
theorem S_acted : FnScope N_acted P_acted (defScope s_acted) := ⟨rfl, rfl, rfl, by decide +kernel, rfl, by decide +kernel, by decide +kernel⟩
abbrev s_law : Stmt := top 34
abbrev N_law : List Str := ["_law_script", "_law_draw", "_law_turn", "_law_box", "_law_texts", "_law_acts", "_law_near", "_law_far"]
abbrev P_law : List Str := ["_law_script"]
theorem S_law : FnScope N_law P_law (defScope s_law) := ⟨rfl, rfl, rfl, by decide +kernel, rfl, by decide +kernel, by decide +kernel⟩
abbrev s_BadPath_init : Stmt := inClass (top 12) 0
abbrev N_BadPath_init : List Str := ["self", "given"]
abbrev P_BadPath_init : List Str := ["self", "given"]
theorem S_BadPath_init : FnScope N_BadPath_init P_BadPath_init (defScope s_BadPath_init) := ⟨rfl, rfl, rfl, by decide +kernel, rfl, by decide +kernel, by decide +kernel⟩
abbrev s_BadText_init : Stmt := inClass (top 13) 0
abbrev N_BadText_init : List Str := ["self", "given"]
abbrev P_BadText_init : List Str := ["self", "given"]
theorem S_BadText_init : FnScope N_BadText_init P_BadText_init (defScope s_BadText_init) := ⟨rfl, rfl, rfl, by decide +kernel, rfl, by decide +kernel, by decide +kernel⟩
abbrev s_BadCount_init : Stmt := inClass (top 14) 0
abbrev N_BadCount_init : List Str := ["self", "given"]
abbrev P_BadCount_init : List Str := ["self", "given"]
theorem S_BadCount_init : FnScope N_BadCount_init P_BadCount_init (defScope s_BadCount_init) := ⟨rfl, rfl, rfl, by decide +kernel, rfl, by decide +kernel, by decide +kernel⟩
abbrev s_NoRoom_init : Stmt := inClass (top 16) 0
abbrev N_NoRoom_init : List Str := ["self", "wanted"]
abbrev P_NoRoom_init : List Str := ["self", "wanted"]
theorem S_NoRoom_init : FnScope N_NoRoom_init P_NoRoom_init (defScope s_NoRoom_init) := ⟨rfl, rfl, rfl, by decide +kernel, rfl, by decide +kernel, by decide +kernel⟩
abbrev s_PowerCut_init : Stmt := inClass (top 17) 0
abbrev N_PowerCut_init : List Str := ["self", "done"]
abbrev P_PowerCut_init : List Str := ["self", "done"]
theorem S_PowerCut_init : FnScope N_PowerCut_init P_PowerCut_init (defScope s_PowerCut_init) := ⟨rfl, rfl, rfl, by decide +kernel, rfl, by decide +kernel, by decide +kernel⟩
abbrev s_NoPath_init : Stmt := inClass (top 19) 0
abbrev N_NoPath_init : List Str := ["self", "given"]
abbrev P_NoPath_init : List Str := ["self", "given"]
theorem S_NoPath_init : FnScope N_NoPath_init P_NoPath_init (defScope s_NoPath_init) := ⟨rfl, rfl, rfl, by decide +kernel, rfl, by decide +kernel, by decide +kernel⟩
structure Ad where
  a_is_whole : Addr
  d_is_whole : FuncData
  a_is_count : Addr
  d_is_count : FuncData
  a_consists_of : Addr
  d_consists_of : FuncData
  a_is_string_of : Addr
  d_is_string_of : FuncData
  a_is_text_sign : Addr
  d_is_text_sign : FuncData
  a_is_text : Addr
  d_is_text : FuncData
  a_Disk_init : Addr
  d_Disk_init : FuncData
  a_Disk_write : Addr
  d_Disk_write : FuncData
  a_Disk_remove : Addr
  d_Disk_remove : FuncData
  a_Disk_text_at : Addr
  d_Disk_text_at : FuncData
  a_Disk_paths : Addr
  d_Disk_paths : FuncData
  a_Disk_room : Addr
  d_Disk_room : FuncData
  a_Disk_used : Addr
  d_Disk_used : FuncData
  a_Disk_acts : Addr
  d_Disk_acts : FuncData
  a_Disk_cut_after : Addr
  d_Disk_cut_after : FuncData
  a_Disk_power_on : Addr
  d_Disk_power_on : FuncData
  a_Disk_twin : Addr
  d_Disk_twin : FuncData
  a_Disk_check_power : Addr
  d_Disk_check_power : FuncData
  a_Disk_act : Addr
  d_Disk_act : FuncData
  a_Disk_contains : Addr
  d_Disk_contains : FuncData
  a_Disk_len : Addr
  d_Disk_len : FuncData
  a_Disk_eq : Addr
  d_Disk_eq : FuncData
  a_begin : Addr
  d_begin : FuncData
  a_mixed : Addr
  d_mixed : FuncData
  a_next : Addr
  d_next : FuncData
  a_pick : Addr
  d_pick : FuncData
  a_place : Addr
  d_place : FuncData
  a_words : Addr
  d_words : FuncData
  a_shows : Addr
  d_shows : FuncData
  a_paths_right : Addr
  d_paths_right : FuncData
  a_twin_right : Addr
  d_twin_right : FuncData
  a_acted : Addr
  d_acted : FuncData
  a_law : Addr
  d_law : FuncData
  a_BadPath_init : Addr
  d_BadPath_init : FuncData
  a_BadText_init : Addr
  d_BadText_init : FuncData
  a_BadCount_init : Addr
  d_BadCount_init : FuncData
  a_NoRoom_init : Addr
  d_NoRoom_init : FuncData
  a_PowerCut_init : Addr
  d_PowerCut_init : FuncData
  a_NoPath_init : Addr
  d_NoPath_init : FuncData
  a_Disk : Addr
  p_Disk_room : Addr
  p_Disk_used : Addr
  p_Disk_acts : Addr
  a_ParcelError : Addr
  a_ChoiceError : Addr
  a_AbsentError : Addr
  a_BadPath : Addr
  a_BadText : Addr
  a_BadCount : Addr
  a_NoRoom : Addr
  a_PowerCut : Addr
  a_NoPath : Addr
  t_LETTERS : Tok
  t_DIGITS : Tok
  t_PERCENT : Tok
  t_LONGEST_PATH : Tok
structure Tex (K : PySem.W.Frag) (mg : Str → Option Value) (D : Ad) : Prop where
  is_whole_F : Fun K "is_whole" "is_whole" s_is_whole D.a_is_whole D.d_is_whole
  is_whole_g : mg "is_whole" = some (.ref D.a_is_whole)
  is_whole_b : Binds K D.d_is_whole P_is_whole []
  is_count_F : Fun K "is_count" "is_count" s_is_count D.a_is_count D.d_is_count
  is_count_g : mg "is_count" = some (.ref D.a_is_count)
  is_count_b : Binds K D.d_is_count P_is_count []
  consists_of_F : Fun K "consists_of" "consists_of" s_consists_of D.a_consists_of D.d_consists_of
  consists_of_g : mg "consists_of" = some (.ref D.a_consists_of)
  consists_of_b : Binds K D.d_consists_of P_consists_of []
  is_string_of_F : Fun K "is_string_of" "is_string_of" s_is_string_of D.a_is_string_of D.d_is_string_of
  is_string_of_g : mg "is_string_of" = some (.ref D.a_is_string_of)
  is_string_of_b : Binds K D.d_is_string_of P_is_string_of []
  is_text_sign_F : Fun K "is_text_sign" "is_text_sign" s_is_text_sign D.a_is_text_sign D.d_is_text_sign
  is_text_sign_g : mg "is_text_sign" = some (.ref D.a_is_text_sign)
  is_text_sign_b : Binds K D.d_is_text_sign P_is_text_sign []
  is_text_F : Fun K "is_text" "is_text" s_is_text D.a_is_text D.d_is_text
  is_text_g : mg "is_text" = some (.ref D.a_is_text)
  is_text_b : Binds K D.d_is_text P_is_text []
  Disk_init_F : FunD K "__init__" "Disk.__init__" (defArgs s_Disk_init) (defBody s_Disk_init) (defScope s_Disk_init) [.non] [] D.a_Disk_init D.d_Disk_init
  Disk_init_b : Binds K D.d_Disk_init P_Disk_init []
  Disk_init_b0 : ∃ ds : List Value, Vals [.non] ds ∧ Binds K D.d_Disk_init P_Disk_init ds
  Disk_write_F : Fun K "write" "Disk.write" s_Disk_write D.a_Disk_write D.d_Disk_write
  Disk_write_b : Binds K D.d_Disk_write P_Disk_write []
  Disk_remove_F : Fun K "remove" "Disk.remove" s_Disk_remove D.a_Disk_remove D.d_Disk_remove
  Disk_remove_b : Binds K D.d_Disk_remove P_Disk_remove []
  Disk_text_at_F : Fun K "text_at" "Disk.text_at" s_Disk_text_at D.a_Disk_text_at D.d_Disk_text_at
  Disk_text_at_b : Binds K D.d_Disk_text_at P_Disk_text_at []
  Disk_paths_F : FunD K "paths" "Disk.paths" (defArgs s_Disk_paths) (defBody s_Disk_paths) (defScope s_Disk_paths) [.str ""] [] D.a_Disk_paths D.d_Disk_paths
  Disk_paths_b : Binds K D.d_Disk_paths P_Disk_paths []
  Disk_paths_b0 : ∃ ds : List Value, Vals [.str ""] ds ∧ Binds K D.d_Disk_paths P_Disk_paths ds
  Disk_room_F : Fun K "room" "Disk.room" s_Disk_room D.a_Disk_room D.d_Disk_room
  Disk_room_b : Binds K D.d_Disk_room P_Disk_room []
  Disk_used_F : Fun K "used" "Disk.used" s_Disk_used D.a_Disk_used D.d_Disk_used
  Disk_used_b : Binds K D.d_Disk_used P_Disk_used []
  Disk_acts_F : Fun K "acts" "Disk.acts" s_Disk_acts D.a_Disk_acts D.d_Disk_acts
  Disk_acts_b : Binds K D.d_Disk_acts P_Disk_acts []
  Disk_cut_after_F : Fun K "cut_after" "Disk.cut_after" s_Disk_cut_after D.a_Disk_cut_after D.d_Disk_cut_after
  Disk_cut_after_b : Binds K D.d_Disk_cut_after P_Disk_cut_after []
  Disk_power_on_F : Fun K "power_on" "Disk.power_on" s_Disk_power_on D.a_Disk_power_on D.d_Disk_power_on
  Disk_power_on_b : Binds K D.d_Disk_power_on P_Disk_power_on []
  Disk_twin_F : Fun K "twin" "Disk.twin" s_Disk_twin D.a_Disk_twin D.d_Disk_twin
  Disk_twin_b : Binds K D.d_Disk_twin P_Disk_twin []
  Disk_check_power_F : Fun K "_check_power" "Disk._check_power" s_Disk_check_power D.a_Disk_check_power D.d_Disk_check_power
  Disk_check_power_b : Binds K D.d_Disk_check_power P_Disk_check_power []
  Disk_act_F : Fun K "_act" "Disk._act" s_Disk_act D.a_Disk_act D.d_Disk_act
  Disk_act_b : Binds K D.d_Disk_act P_Disk_act []
  Disk_contains_F : Fun K "__contains__" "Disk.__contains__" s_Disk_contains D.a_Disk_contains D.d_Disk_contains
  Disk_contains_b : Binds K D.d_Disk_contains P_Disk_contains []
  Disk_len_F : Fun K "__len__" "Disk.__len__" s_Disk_len D.a_Disk_len D.d_Disk_len
  Disk_len_b : Binds K D.d_Disk_len P_Disk_len []
  Disk_eq_F : Fun K "__eq__" "Disk.__eq__" s_Disk_eq D.a_Disk_eq D.d_Disk_eq
  Disk_eq_b : Binds K D.d_Disk_eq P_Disk_eq []
  begin_F : Fun K "_law_begin" "_law_begin" s_begin D.a_begin D.d_begin
  begin_g : mg "_law_begin" = some (.ref D.a_begin)
  begin_b : Binds K D.d_begin P_begin []
  mixed_F : Fun K "_law_mixed" "_law_mixed" s_mixed D.a_mixed D.d_mixed
  mixed_g : mg "_law_mixed" = some (.ref D.a_mixed)
  mixed_b : Binds K D.d_mixed P_mixed []
  next_F : Fun K "_law_next" "_law_next" s_next D.a_next D.d_next
  next_g : mg "_law_next" = some (.ref D.a_next)
  next_b : Binds K D.d_next P_next []
  pick_F : Fun K "_law_pick" "_law_pick" s_pick D.a_pick D.d_pick
  pick_g : mg "_law_pick" = some (.ref D.a_pick)
  pick_b : Binds K D.d_pick P_pick []
  place_F : Fun K "_law_place" "_law_place" s_place D.a_place D.d_place
  place_g : mg "_law_place" = some (.ref D.a_place)
  place_b : Binds K D.d_place P_place []
  words_F : Fun K "_law_words" "_law_words" s_words D.a_words D.d_words
  words_g : mg "_law_words" = some (.ref D.a_words)
  words_b : Binds K D.d_words P_words []
  shows_F : Fun K "_law_shows" "_law_shows" s_shows D.a_shows D.d_shows
  shows_g : mg "_law_shows" = some (.ref D.a_shows)
  shows_b : Binds K D.d_shows P_shows []
  paths_right_F : Fun K "_law_paths_right" "_law_paths_right" s_paths_right D.a_paths_right D.d_paths_right
  paths_right_g : mg "_law_paths_right" = some (.ref D.a_paths_right)
  paths_right_b : Binds K D.d_paths_right P_paths_right []
  twin_right_F : Fun K "_law_twin_right" "_law_twin_right" s_twin_right D.a_twin_right D.d_twin_right
  twin_right_g : mg "_law_twin_right" = some (.ref D.a_twin_right)
  twin_right_b : Binds K D.d_twin_right P_twin_right []
  acted_F : Fun K "_law_acted" "_law_acted" s_acted D.a_acted D.d_acted
  acted_g : mg "_law_acted" = some (.ref D.a_acted)
  acted_b : Binds K D.d_acted P_acted []
  law_F : Fun K "law" "law" s_law D.a_law D.d_law
  law_g : mg "law" = some (.ref D.a_law)
  law_b : Binds K D.d_law P_law []
  BadPath_init_F : Fun K "__init__" "BadPath.__init__" s_BadPath_init D.a_BadPath_init D.d_BadPath_init
  BadPath_init_b : Binds K D.d_BadPath_init P_BadPath_init []
  BadText_init_F : Fun K "__init__" "BadText.__init__" s_BadText_init D.a_BadText_init D.d_BadText_init
  BadText_init_b : Binds K D.d_BadText_init P_BadText_init []
  BadCount_init_F : Fun K "__init__" "BadCount.__init__" s_BadCount_init D.a_BadCount_init D.d_BadCount_init
  BadCount_init_b : Binds K D.d_BadCount_init P_BadCount_init []
  NoRoom_init_F : Fun K "__init__" "NoRoom.__init__" s_NoRoom_init D.a_NoRoom_init D.d_NoRoom_init
  NoRoom_init_b : Binds K D.d_NoRoom_init P_NoRoom_init []
  PowerCut_init_F : Fun K "__init__" "PowerCut.__init__" s_PowerCut_init D.a_PowerCut_init D.d_PowerCut_init
  PowerCut_init_b : Binds K D.d_PowerCut_init P_PowerCut_init []
  NoPath_init_F : Fun K "__init__" "NoPath.__init__" s_NoPath_init D.a_NoPath_init D.d_NoPath_init
  NoPath_init_b : Binds K D.d_NoPath_init P_NoPath_init []
  Disk_g : mg "Disk" = some (.ref D.a_Disk)
  Disk_cl : Cls K D.a_Disk
  Disk_mk : Mk K D.a_Disk D.a_Disk_init
  Disk_rd : CRead K D.a_Disk (.type "type")
  Disk_si : SlX.SIsi K D.a_Disk
  Disk_nf : PySem.W.notFirst K D.a_Disk (.ref D.a_Disk) = true
  Disk_n_room : NoAttr K D.a_Disk "_room"
  Disk_n_texts : NoAttr K D.a_Disk "_texts"
  Disk_n_used : NoAttr K D.a_Disk "_used"
  Disk_n_acts : NoAttr K D.a_Disk "_acts"
  Disk_n_power : NoAttr K D.a_Disk "_power"
  Disk_init_at : PySem.W.findIn K (.ref D.a_Disk) "__init__" = some (some (.ref D.a_Disk_init))
  Disk_init_fn : PySem.W.isFn K (.ref D.a_Disk_init) = true
  Disk_write_at : PySem.W.findIn K (.ref D.a_Disk) "write" = some (some (.ref D.a_Disk_write))
  Disk_write_fn : PySem.W.isFn K (.ref D.a_Disk_write) = true
  Disk_remove_at : PySem.W.findIn K (.ref D.a_Disk) "remove" = some (some (.ref D.a_Disk_remove))
  Disk_remove_fn : PySem.W.isFn K (.ref D.a_Disk_remove) = true
  Disk_text_at_at : PySem.W.findIn K (.ref D.a_Disk) "text_at" = some (some (.ref D.a_Disk_text_at))
  Disk_text_at_fn : PySem.W.isFn K (.ref D.a_Disk_text_at) = true
  Disk_paths_at : PySem.W.findIn K (.ref D.a_Disk) "paths" = some (some (.ref D.a_Disk_paths))
  Disk_paths_fn : PySem.W.isFn K (.ref D.a_Disk_paths) = true
  Disk_room_p : PropOf K D.a_Disk "room" D.p_Disk_room D.a_Disk_room
  Disk_used_p : PropOf K D.a_Disk "used" D.p_Disk_used D.a_Disk_used
  Disk_acts_p : PropOf K D.a_Disk "acts" D.p_Disk_acts D.a_Disk_acts
  Disk_cut_after_at : PySem.W.findIn K (.ref D.a_Disk) "cut_after" = some (some (.ref D.a_Disk_cut_after))
  Disk_cut_after_fn : PySem.W.isFn K (.ref D.a_Disk_cut_after) = true
  Disk_power_on_at : PySem.W.findIn K (.ref D.a_Disk) "power_on" = some (some (.ref D.a_Disk_power_on))
  Disk_power_on_fn : PySem.W.isFn K (.ref D.a_Disk_power_on) = true
  Disk_twin_at : PySem.W.findIn K (.ref D.a_Disk) "twin" = some (some (.ref D.a_Disk_twin))
  Disk_twin_fn : PySem.W.isFn K (.ref D.a_Disk_twin) = true
  Disk_check_power_at : PySem.W.findIn K (.ref D.a_Disk) "_check_power" = some (some (.ref D.a_Disk_check_power))
  Disk_check_power_fn : PySem.W.isFn K (.ref D.a_Disk_check_power) = true
  Disk_act_at : PySem.W.findIn K (.ref D.a_Disk) "_act" = some (some (.ref D.a_Disk_act))
  Disk_act_fn : PySem.W.isFn K (.ref D.a_Disk_act) = true
  Disk_contains_at : PySem.W.findIn K (.ref D.a_Disk) "__contains__" = some (some (.ref D.a_Disk_contains))
  Disk_contains_fn : PySem.W.isFn K (.ref D.a_Disk_contains) = true
  Disk_len_at : PySem.W.findIn K (.ref D.a_Disk) "__len__" = some (some (.ref D.a_Disk_len))
  Disk_len_fn : PySem.W.isFn K (.ref D.a_Disk_len) = true
  Disk_eq_at : PySem.W.findIn K (.ref D.a_Disk) "__eq__" = some (some (.ref D.a_Disk_eq))
  Disk_eq_fn : PySem.W.isFn K (.ref D.a_Disk_eq) = true
  ParcelError_g : mg "ParcelError" = some (.ref D.a_ParcelError)
  ParcelError_nm : NmC K D.a_ParcelError
  ChoiceError_g : mg "ChoiceError" = some (.ref D.a_ChoiceError)
  ChoiceError_nm : NmC K D.a_ChoiceError
  AbsentError_g : mg "AbsentError" = some (.ref D.a_AbsentError)
  AbsentError_nm : NmC K D.a_AbsentError
  BadPath_g : mg "BadPath" = some (.ref D.a_BadPath)
  BadPath_xa : ExG K D.a_BadPath D.a_ParcelError "ValueError"
  BadPath_xi : PySem.W.findIn K (.ref D.a_BadPath) "__init__" = some (some (.ref D.a_BadPath_init))
  BadPath_xt : PySem.W.typeIn K (.ref D.a_BadPath_init) = some (.type "function")
  BadPath_xf : PySem.W.findIn K (.ref D.a_BadPath) "given" = some none
  BadText_g : mg "BadText" = some (.ref D.a_BadText)
  BadText_xa : ExG K D.a_BadText D.a_ParcelError "ValueError"
  BadText_xi : PySem.W.findIn K (.ref D.a_BadText) "__init__" = some (some (.ref D.a_BadText_init))
  BadText_xt : PySem.W.typeIn K (.ref D.a_BadText_init) = some (.type "function")
  BadText_xf : PySem.W.findIn K (.ref D.a_BadText) "given" = some none
  BadCount_g : mg "BadCount" = some (.ref D.a_BadCount)
  BadCount_xa : ExG K D.a_BadCount D.a_ParcelError "ValueError"
  BadCount_xi : PySem.W.findIn K (.ref D.a_BadCount) "__init__" = some (some (.ref D.a_BadCount_init))
  BadCount_xt : PySem.W.typeIn K (.ref D.a_BadCount_init) = some (.type "function")
  BadCount_xf : PySem.W.findIn K (.ref D.a_BadCount) "given" = some none
  NoRoom_g : mg "NoRoom" = some (.ref D.a_NoRoom)
  NoRoom_xa : ExG K D.a_NoRoom D.a_ChoiceError "RuntimeError"
  NoRoom_xi : PySem.W.findIn K (.ref D.a_NoRoom) "__init__" = some (some (.ref D.a_NoRoom_init))
  NoRoom_xt : PySem.W.typeIn K (.ref D.a_NoRoom_init) = some (.type "function")
  NoRoom_xf : PySem.W.findIn K (.ref D.a_NoRoom) "wanted" = some none
  PowerCut_g : mg "PowerCut" = some (.ref D.a_PowerCut)
  PowerCut_xa : ExG K D.a_PowerCut D.a_ChoiceError "RuntimeError"
  PowerCut_xi : PySem.W.findIn K (.ref D.a_PowerCut) "__init__" = some (some (.ref D.a_PowerCut_init))
  PowerCut_xt : PySem.W.typeIn K (.ref D.a_PowerCut_init) = some (.type "function")
  PowerCut_xf : PySem.W.findIn K (.ref D.a_PowerCut) "done" = some none
  NoPath_g : mg "NoPath" = some (.ref D.a_NoPath)
  NoPath_xa : ExG K D.a_NoPath D.a_AbsentError "LookupError"
  NoPath_xi : PySem.W.findIn K (.ref D.a_NoPath) "__init__" = some (some (.ref D.a_NoPath_init))
  NoPath_xt : PySem.W.typeIn K (.ref D.a_NoPath_init) = some (.type "function")
  NoPath_xf : PySem.W.findIn K (.ref D.a_NoPath) "given" = some none
  exd : ([D.a_BadPath, D.a_BadText, D.a_BadCount, D.a_NoRoom, D.a_PowerCut, D.a_NoPath, D.a_ParcelError, D.a_ChoiceError, D.a_AbsentError] : List Addr).Nodup
  Disk_ne_b : PySem.W.findIn K (.ref D.a_Disk) "__ne__" = some (some (.builtin "object.__ne__"))
  Disk_write_kn2_text : KBn K D.d_Disk_write P_Disk_write 2 ["text"] (fun us ws => us ++ ws) (fun us ws => us ++ ws)
  Disk_paths_kn1_beginning : KBn K D.d_Disk_paths P_Disk_paths 1 ["beginning"] (fun us ws => us ++ ws) (fun us ws => us ++ ws)
  Disk_init_km : KM K D.d_Disk_init P_Disk_init ["room"] (fun us => match us with | [x0] => [x0] | _ => []) (fun us => match us with | [x0] => [x0] | _ => [])
  c_LETTERS : mg "LETTERS" = some (.str "abcdefghijklmnopqrstuvwxyz" D.t_LETTERS)
  c_DIGITS : mg "DIGITS" = some (.str "0123456789" D.t_DIGITS)
  c_PERCENT : mg "PERCENT" = some (.int 37 D.t_PERCENT)
  c_LONGEST_PATH : mg "LONGEST_PATH" = some (.int 80 D.t_LONGEST_PATH)
  b_all : mg "all" = none
  b_bool : mg "bool" = none
  b_dict : mg "dict" = none
  b_int : mg "int" = none
  b_isinstance : mg "isinstance" = none
  b_len : mg "len" = none
  b_list : mg "list" = none
  b_min : mg "min" = none
  b_ord : mg "ord" = none
  b_range : mg "range" = none
  b_sorted : mg "sorted" = none
  b_str : mg "str" = none
  b_sum : mg "sum" = none
/-! ## The draws -/
section
variable {P : Program} {w : World} {K : PySem.W.Frag} {mg : Str → Option Value} {base : Heap} {D : Ad}
def drK (c : Addr) (a l u : Int) : List (Key × V) := [(.inr "cells", .ref c), (.inr "at", .int a), (.inr "left", .int l), (.inr "used", .int u)]
theorem ne_ca : ¬ (("cells" : Str) = "at") := by decide +kernel
theorem ne_cl : ¬ (("cells" : Str) = "left") := by decide +kernel
theorem ne_cu : ¬ (("cells" : Str) = "used") := by decide +kernel
theorem ne_al : ¬ (("at" : Str) = "left") := by decide +kernel
theorem ne_au : ¬ (("at" : Str) = "used") := by decide +kernel
theorem ne_lu : ¬ (("left" : Str) = "used") := by decide +kernel
theorem ne_la : ¬ (("left" : Str) = "at") := by decide +kernel
theorem ne_ua : ¬ (("used" : Str) = "at") := by decide +kernel
theorem ne_ul : ¬ (("used" : Str) = "left") := by decide +kernel
theorem dr_cells (c : Addr) (a l u : Int) : valV (drK c a l u) (.inr "cells" : Key) = some (.ref c) := by simp [valV, drK]
theorem dr_at (c : Addr) (a l u : Int) : valV (drK c a l u) (.inr "at" : Key) = some (.int a) := by simp [valV, drK, ne_ca]
theorem dr_left (c : Addr) (a l u : Int) : valV (drK c a l u) (.inr "left" : Key) = some (.int l) := by simp [valV, drK, ne_cl, ne_al]
theorem dr_used (c : Addr) (a l u : Int) : valV (drK c a l u) (.inr "used" : Key) = some (.int u) := by simp [valV, drK, ne_cu, ne_au, ne_lu]
theorem dr_pat (c : Addr) (a l u x : Int) : putK (drK c a l u) (.inr "at" : Key) (.int x) = drK c x l u := by simp [putK, drK, ne_ca, ne_la, ne_ua]
theorem dr_pleft (c : Addr) (a l u x : Int) : putK (drK c a l u) (.inr "left" : Key) (.int x) = drK c a x u := by simp [putK, drK, ne_cl, ne_al, ne_ul]
theorem dr_pused (c : Addr) (a l u x : Int) : putK (drK c a l u) (.inr "used" : Key) (.int x) = drK c a l x := by simp [putK, drK, ne_cu, ne_au, ne_lu]

/-- a draw stands at d, its cells at c, at most n steps were made -/
def Dr (H : Hp) (d c : Addr) (n : Nat) : Prop := ∃ (cs : List Int) (a l u : Int), H d = some (.dK (drK c a l u)) ∧ H c = some (.lst (cs.map V.int)) ∧
  cs ≠ [] ∧ cs.length ≤ 64 ∧ 0 ≤ a ∧ a ≤ n ∧ 0 ≤ l ∧ 0 ≤ u ∧ u ≤ n
/-- all stands but what is at d -/
def But (d : Addr) (H H' : Hp) : Prop := ∀ b o, H b = some o → b ≠ d → H' b = some o
theorem But.refl {d : Addr} {H : Hp} : But d H H := fun _ _ e _ => e
theorem But.trans {d : Addr} {H H1 H2 : Hp} (x : But d H H1) (y : But d H1 H2) : But d H H2 := fun b o e n => y b o (x b o e n) n
theorem But.upd {d : Addr} {H : Hp} {o : HO} : But d H (upd H d o) := fun b u e n => by rw [upd_ne n]; exact e
theorem But.new {d p : Addr} {H H1 : Hp} {o : HO} (x : But d H H1) (h : H1 p = none) : But d H (L2.upd H1 p o) := fun b u e n => by
  have e1 := x b u e n
  rw [upd_ne (ne_of_none e1 h)]
  exact e1
theorem But.free {d p : Addr} {H H' : Hp} (x : But d H H') (hd : d ≠ p) (h : H' p = none) : H p = none := by
  cases q : H p with
  | none => rfl
  | some o =>
    rw [x p o q (Ne.symm hd)] at h
    cases h
theorem But.of_same {d : Addr} {H H' : Hp} (x : Same H H') : But d H H' := fun b o e _ => x b o e
theorem Dr.dict {H : Hp} {d c : Addr} {n : Nat} (h : Dr H d c n) : ∃ o, H d = some (.dK o) := let ⟨_, _, _, _, e, _⟩ := h; ⟨_, e⟩
theorem Dr.cells {H : Hp} {d c : Addr} {n : Nat} (h : Dr H d c n) : ∃ xs, H c = some (.lst xs) := let ⟨_, _, _, _, _, e, _⟩ := h; ⟨_, e⟩
theorem Dr.mono {H : Hp} {d c : Addr} {n m : Nat} (h : Dr H d c n) (q : n ≤ m) : Dr H d c m := by
  obtain ⟨cs, a, l, u, h1, h2, h3, h4, h5, h6, h7, h8, h9⟩ := h
  exact ⟨cs, a, l, u, h1, h2, h3, h4, h5, by omega, h7, h8, by omega⟩
theorem Dr.keep {H H' : Hp} {d c : Addr} {n : Nat} (h : Dr H d c n) (e : Same H H') : Dr H' d c n := by
  obtain ⟨cs, a, l, u, h1, h2, r⟩ := h
  exact ⟨cs, a, l, u, e _ _ h1, e _ _ h2, r⟩
theorem Dr.new {H : Hp} {d c p : Addr} {n : Nat} {o : HO} (h : Dr H d c n) (q : H p = none) : Dr (upd H p o) d c n :=
  h.keep fun b u e => by rw [upd_ne (ne_of_none e q)]; exact e
/-- what is at p changes -/
theorem Dr.off {H : Hp} {d c p : Addr} {n : Nat} {o : HO} (h : Dr H d c n) (hd : d ≠ p) (hc : c ≠ p) : Dr (upd H p o) d c n := by
  obtain ⟨cs, a, l, u, h1, h2, r⟩ := h
  exact ⟨cs, a, l, u, by rw [upd_ne hd]; exact h1, by rw [upd_ne hc]; exact h2, r⟩
theorem Dr.ne_new {H : Hp} {d c p : Addr} {n : Nat} (h : Dr H d c n) (q : H p = none) : d ≠ p := let ⟨_, e⟩ := h.dict; ne_of_none e q
theorem Dr.nc_new {H : Hp} {d c p : Addr} {n : Nat} (h : Dr H d c n) (q : H p = none) : c ≠ p := let ⟨_, e⟩ := h.cells; ne_of_none e q

def spMixed : Sp := fun vs H Q _ => ∃ c k : Int, vs = [.int c, .int k] ∧ 0 ≤ k ∧ k < 2 ^ 60 ∧ ∀ v, Q (.int v) H
theorem ok_mixed (T : Tex K mg D) : FnOk P w K mg base CX0 1 D.a_mixed D.d_mixed P_mixed spMixed := by
  refine T.mixed_F.ok S_mixed (fun vs H Q E h => ?_) (fun cdv A outer s H vs Q E hr h => ?_)
  · obtain ⟨c, k, rfl, _⟩ := h
    rfl
  · obtain ⟨c, k, rfl, h0, h1, q⟩ := h
    refine ⟨_, (pss_cons (ps_set (i := 2) S_mixed.nd rfl (Or.inl rfl) (pe_op op_mod (pe_op op_add (pe_op op_add (pe_op op_add (pe_op op_mod (pv 0) pe_int) (pe_op op_mul (pe_op op_mul pe_int (pv 1)) (pv 1))) (pe_op op_mul pe_int (pv 1))) pe_int) pe_int))
      (pss_cons (ps_set (i := 2) S_mixed.nd rfl (Or.inl rfl) (pe_op op_mod (pe_op op_mul (pe_op op_mod (pe_op op_mul (pv 2) (pv 2)) pe_int) (pv 2)) pe_int))
      (pss_one (ps_ret (pe_op op_fdiv (pe_op op_mod (pe_op op_mul (pv 2) (pe_op op_add pe_int (pe_op op_mul pe_int (pe_op op_mod (pv 1) pe_int)))) pe_int) pe_int))))), ?_⟩
    refine ⟨_, rfl, _, _, rfl, rfl, (posI rfl), ?_⟩
    refine ⟨_, rfl, _, _, rfl, rfl, .inl ⟨by decide, by decide⟩, ?_⟩
    refine ⟨_, rfl, _, _, rfl, rfl, .inr ⟨by omega, by omega⟩, _, _, rfl, rfl, ?_⟩
    refine ⟨_, rfl, _, _, rfl, rfl, .inl ⟨by decide, by decide⟩, _, _, rfl, rfl, _, _, rfl, rfl, _, _, rfl, rfl, (posI rfl), ?_⟩
    generalize hm : (c % 1000000007 + 7919 * k * k + 31 * k + 7) % 2147483647 = m
    have m0 : 0 ≤ m := by rw [← hm]; exact Int.emod_nonneg _ (by decide)
    have m1 : m < 2147483647 := by rw [← hm]; exact Int.emod_lt_of_pos _ (by decide)
    refine ⟨_, rfl, _, rfl, _, _, rfl, rfl, .inl ⟨by omega, by omega⟩, _, _, rfl, rfl, (posI rfl), ?_⟩
    refine ⟨_, rfl, _, _, rfl, rfl, .inr ⟨by omega, by omega⟩, _, _, rfl, rfl, (posI rfl), ?_⟩
    generalize hn : m * m % 2147483647 * m % 2147483629 = n
    have n0 : 0 ≤ n := by rw [← hn]; exact Int.emod_nonneg _ (by decide)
    have n1 : n < 2147483629 := by rw [← hn]; exact Int.emod_lt_of_pos _ (by decide)
    refine ⟨_, rfl, _, rfl, _, _, rfl, rfl, (posI rfl), _, _, rfl, rfl, .inl ⟨by decide, by decide⟩, _, _, rfl, rfl, _, _, rfl, rfl, .inl ⟨by omega, by omega⟩, ?_⟩
    refine ⟨_, _, rfl, rfl, (posI rfl), _, _, rfl, rfl, ⟨by decide, by decide⟩, ?_⟩
    exact q _

def spNext : Sp := fun vs H Q _ => ∃ (d c : Addr) (b : Int) (n : Nat), vs = [.ref d, .int b] ∧ Dr H d c n ∧ n ≤ 10 ^ 12 ∧ 0 < b ∧ b < 2 ^ 30 ∧
  ∀ (v : Int) (H' : Hp), 0 ≤ v → v < b → Dr H' d c (n + 1) → But d H H' → Q (.int v) H'
theorem ok_next (T : Tex K mg D) : FnOk P w K mg base CX0 2 D.a_next D.d_next P_next spNext := by
  have G_mixed : FnOk P w K mg base CX0 1 D.a_mixed D.d_mixed P_mixed spMixed := ok_mixed T
  refine T.next_F.ok S_next (fun vs H Q E h => ?_) (fun cdv A outer s H vs Q E hr h => ?_)
  · obtain ⟨d, c, b, n, rfl, _⟩ := h
    rfl
  · obtain ⟨d, c, b, n, rfl, ⟨cs, a, l, u, hd, hc, c0, c64, a0, an, l0, u0, un⟩, hn, b0, b1, q⟩ := h
    have hu := hu_of hr
    have ndc : d ≠ c := ne_of hd hc (by intro z; cases z)
    have sz : ∀ c' a' l' u', (drK c' a' l' u').length < sizeLine := fun _ _ _ _ => by show 4 < sizeLine; decide
    have cs0 : 0 < cs.length := List.length_pos_iff.mpr c0
    refine ⟨_, (pss_cons (ps_if (pt_cmpR op_gt (pe_dget hu (pv 0) pe_str (fun _ _ => rfl)) pe_int (nomark _)) (pss_cons (ps_set (i := 2) S_next.nd rfl (Or.inl rfl) (pe_op op_mod (pe_dget hu (pv 0) pe_str (fun _ _ => rfl)) (pv 1)))
      (pss_cons (ps_dput hu (pv 0) pe_str (pe_op op_fdiv (pe_dget hu (pv 0) pe_str (fun _ _ => rfl)) (pv 1)) rfl)
      (pss_one (ps_ret (pv 2))))) pss_nil)
      (pss_cons (ps_set (i := 3) S_next.nd rfl (Or.inl rfl) (pe_dget hu (pv 0) pe_str (fun _ _ => rfl)))
      (pss_cons (ps_set (i := 4) S_next.nd rfl (Or.inl rfl) (pe_ix ix_list (pv 3) (pe_op op_mod (pe_dget hu (pv 0) pe_str (fun _ _ => rfl)) (pe_callB call_len_seq (by rfl) T.b_len (by decide +kernel) (pa_cons (pv 3) pa_nil))) (fun _ _ => rfl)))
      (pss_cons (ps_dput hu (pv 0) pe_str (pe_op op_add (pe_dget hu (pv 0) pe_str (fun _ _ => rfl)) pe_int) rfl)
      (pss_cons (ps_if (PW.pt (pw_and (pt_cmpR op_ge (pv 4) (pe_op op_pow pe_int pe_int) (nomark _)) (pw_and1 (pt_cmpR op_le (pe_dget hu (pv 0) pe_str (fun _ _ => rfl)) (pe_callB call_len_seq (by rfl) T.b_len (by decide +kernel) (pa_cons (pv 3) pa_nil)) (nomark _))))) (pss_cons (ps_dput hu (pv 0) pe_str (pe_op op_fdiv (pv 4) (pv 1)) rfl)
      (pss_one (ps_ret (pe_op op_mod (pv 4) (pv 1))))) pss_nil)
      (pss_cons (ps_dput hu (pv 0) pe_str (pe_op op_add (pe_dget hu (pv 0) pe_str (fun _ _ => rfl)) pe_int) rfl)
      (pss_one (ps_ret (pe_op op_mod (pe_call G_mixed (hr.mono (by decide)) (by rfl) T.mixed_g T.mixed_F.kp T.mixed_b .nil pass0 (pa_cons (pe_call G_mixed (hr.mono (by decide)) (by rfl) T.mixed_g T.mixed_F.kp T.mixed_b .nil pass0 (pa_cons (pv 4) (pa_cons (pe_dget hu (pv 0) pe_str (fun _ _ => rfl)) pa_nil))) (pa_cons (pe_dget hu (pv 0) pe_str (fun _ _ => rfl)) pa_nil))) (pv 1)))))))))), ?_⟩
    refine ⟨_, rfl, d, _, rfl, (by have g := DGet.k (k := .inr "left") hd; rw [dr_left] at g; exact g), _, _, rfl, rfl, _, rfl, ?_⟩
    refine ite2 (fun hl => ?_) (fun hl => ?_)
    · refine ⟨_, rfl, d, _, rfl, (by have g := DGet.k (k := .inr "left") hd; rw [dr_left] at g; exact g), _, rfl, _, _, rfl, rfl, b0, ?_⟩
      refine ⟨_, rfl, d, _, rfl, (by have g := DGet.k (k := .inr "left") hd; rw [dr_left] at g; exact g), _, rfl, _, _, rfl, rfl, ⟨b0, b1⟩, _, rfl, d, _, rfl, DPut.k (k := .inr "left") hd (sz _ _ _ _), ?_⟩
      refine ⟨_, rfl, ?_⟩
      refine q _ _ (Int.emod_nonneg _ (by omega)) (Int.emod_lt_of_pos _ b0) ⟨cs, a, l / b, u, ?_, ?_, c0, c64, a0, by omega, Int.ediv_nonneg l0 (by omega), u0, by omega⟩ But.upd
      · rw [upd_same, dr_pleft]
      · rw [upd_ne ndc.symm]; exact hc
    · refine ⟨_, rfl, d, _, rfl, (by have g := DGet.k (k := .inr "cells") hd; rw [dr_cells] at g; exact g), ?_⟩
      refine ⟨_, rfl, _, rfl, d, _, rfl, (by have g := DGet.k (k := .inr "at") hd; rw [dr_at] at g; exact g), _, rfl, c, _, rfl, .inl (SqL.of hc), _, _, rfl, rfl, (by rw [List.length_map]; show (0 : Int) < (cs.length : Int); omega), ?_⟩
      have hix : 0 ≤ a % ((cs.map V.int).length : Int) ∧ a % ((cs.map V.int).length : Int) < ((cs.map V.int).length : Int) := by
        have e : ((cs.map V.int).length : Int) = (cs.length : Int) := by rw [List.length_map]
        rw [e]
        exact ⟨Int.emod_nonneg _ (by omega), Int.emod_lt_of_pos _ (by omega)⟩
      obtain ⟨x, hx⟩ : ∃ x, (cs.map V.int)[(a % ((cs.map V.int).length : Int)).toNat]? = some (V.int x) := by
        have hlt : (a % ((cs.map V.int).length : Int)).toNat < cs.length := by
          have e : ((cs.map V.int).length : Int) = (cs.length : Int) := by rw [List.length_map]
          omega
        exact ⟨cs[(a % ((cs.map V.int).length : Int)).toNat], by rw [List.getElem?_map, List.getElem?_eq_getElem hlt]; rfl⟩
      refine ⟨c, _, _, _, rfl, rfl, SqL.of hc, (by
        have e : a % ((cs.map V.int).length : Int) = ((a % ((cs.map V.int).length : Int)).toNat : Int) := (Int.toNat_of_nonneg hix.1).symm
        rw [e]
        exact atI_nat hx), ?_⟩
      -- at += 1
      refine ⟨_, rfl, d, _, rfl, (by have g := DGet.k (k := .inr "at") hd; rw [dr_at] at g; exact g), _, _, rfl, rfl, _, rfl, d, _, rfl, DPut.k (k := .inr "at") hd (sz _ _ _ _), ?_⟩
      rw [dr_pat]
      have hd1 : (upd H d (.dK (drK c (a + 1) l u))) d = some (.dK (drK c (a + 1) l u)) := upd_same
      have hc1 : (upd H d (.dK (drK c (a + 1) l u))) c = some (.lst (cs.map V.int)) := by rw [upd_ne ndc.symm]; exact hc
      have bu1 : But d H (upd H d (.dK (drK c (a + 1) l u))) := But.upd
      revert hd1 hc1 bu1
      generalize upd H d (.dK (drK c (a + 1) l u)) = H1
      intro hd1 hc1 bu1
      refine ⟨_, rfl, _, _, rfl, rfl, ⟨by decide, by decide, by decide⟩, _, _, rfl, rfl, _, rfl, ?_⟩
      refine ite2 (fun h18 => ?_) (fun h18 => ?_)
      · refine ⟨_, rfl, d, _, rfl, (by have g := DGet.k (k := .inr "at") hd1; rw [dr_at] at g; exact g), _, rfl, c, _, rfl, .inl (SqL.of hc1), _, _, rfl, rfl, _, rfl, ?_⟩
        refine ite2 (fun hat => ?_) (fun hat => ?_)
        · have x0 : 0 ≤ x := by
            have h2 := of_decide_eq_true h18
            have h3 : (0 : Int) ≤ 10 ^ (18 : Int).toNat := by decide
            omega
          refine ⟨_, rfl, _, rfl, _, _, rfl, rfl, ⟨b0, b1⟩, _, rfl, d, _, rfl, DPut.k (k := .inr "left") hd1 (sz _ _ _ _), ?_⟩
          refine ⟨_, rfl, _, rfl, _, _, rfl, rfl, b0, ?_⟩
          refine q _ _ (Int.emod_nonneg _ (by omega)) (Int.emod_lt_of_pos _ b0) ⟨cs, a + 1, x / b, u, ?_, ?_, c0, c64, by omega, by omega, Int.ediv_nonneg x0 (by omega), u0, by omega⟩ (bu1.trans But.upd)
          · rw [upd_same, dr_pleft]
          · rw [upd_ne ndc.symm]; exact hc1
        ·
          refine ⟨_, rfl, d, _, rfl, (by have g := DGet.k (k := .inr "used") hd1; rw [dr_used] at g; exact g), _, _, rfl, rfl, _, rfl, d, _, rfl, DPut.k (k := .inr "used") hd1 (sz _ _ _ _), ?_⟩
          rw [dr_pused]
          have hd2 : (upd H1 d (.dK (drK c (a + 1) l (u + 1)))) d = some (.dK (drK c (a + 1) l (u + 1))) := upd_same
          have hc2 : (upd H1 d (.dK (drK c (a + 1) l (u + 1)))) c = some (.lst (cs.map V.int)) := by rw [upd_ne ndc.symm]; exact hc1
          refine ⟨_, rfl, _, rfl, d, _, rfl, (by have g := DGet.k (k := .inr "at") hd2; rw [dr_at] at g; exact g), x, a + 1, rfl, by omega, by omega, fun v1 => ?_⟩
          refine ⟨_, rfl, d, _, rfl, (by have g := DGet.k (k := .inr "used") hd2; rw [dr_used] at g; exact g), v1, u + 1, rfl, by omega, by omega, fun v2 => ?_⟩
          refine ⟨_, rfl, _, _, rfl, rfl, b0, ?_⟩
          exact q _ _ (Int.emod_nonneg _ (by omega)) (Int.emod_lt_of_pos _ b0) ⟨cs, a + 1, l, u + 1, hd2, hc2, c0, c64, by omega, by omega, l0, by omega, by omega⟩ (bu1.trans But.upd)
      ·
        refine ⟨_, rfl, d, _, rfl, (by have g := DGet.k (k := .inr "used") hd1; rw [dr_used] at g; exact g), _, _, rfl, rfl, _, rfl, d, _, rfl, DPut.k (k := .inr "used") hd1 (sz _ _ _ _), ?_⟩
        rw [dr_pused]
        have hd2 : (upd H1 d (.dK (drK c (a + 1) l (u + 1)))) d = some (.dK (drK c (a + 1) l (u + 1))) := upd_same
        have hc2 : (upd H1 d (.dK (drK c (a + 1) l (u + 1)))) c = some (.lst (cs.map V.int)) := by rw [upd_ne ndc.symm]; exact hc1
        refine ⟨_, rfl, _, rfl, d, _, rfl, (by have g := DGet.k (k := .inr "at") hd2; rw [dr_at] at g; exact g), x, a + 1, rfl, by omega, by omega, fun v1 => ?_⟩
        refine ⟨_, rfl, d, _, rfl, (by have g := DGet.k (k := .inr "used") hd2; rw [dr_used] at g; exact g), v1, u + 1, rfl, by omega, by omega, fun v2 => ?_⟩
        refine ⟨_, rfl, _, _, rfl, rfl, b0, ?_⟩
        exact q _ _ (Int.emod_nonneg _ (by omega)) (Int.emod_lt_of_pos _ b0) ⟨cs, a + 1, l, u + 1, hd2, hc2, c0, c64, by omega, by omega, l0, by omega, by omega⟩ (bu1.trans But.upd)
end

/-! ## The draws begin -/
section
variable {P : Program} {w : World} {K : PySem.W.Frag} {mg : Str → Option Value} {base : Heap} {D : Ad}
theorem len_app (a b : Str) : (a ++ b).length = a.length + b.length := PySem.strLen_append a b

theorem at_in {α : Type} {xs : List α} {v : Int} (h0 : 0 ≤ v) (h1 : v < (xs.length : Int)) : ∃ x, atI xs v = some x ∧ x ∈ xs := by
  obtain ⟨j, rfl⟩ := Int.eq_ofNat_of_zero_le h0
  have hj : j < xs.length := by omega
  exact ⟨xs[j], atI_nat (List.getElem?_eq_getElem hj), List.getElem_mem hj⟩

/-! ### begin -/
theorem merge_dr (c : Addr) (a l u : Int) : mergeK [] (drK c a l u) = drK c a l u := by simp [mergeK, putK, drK, ne_ca, ne_cl, ne_cu, ne_al, ne_au, ne_lu]
def spBegin (K : PySem.W.Frag) : Sp := fun vs H Q _ => ∃ (a : Addr) (ns : List Int), vs = [.ref a] ∧ Bare K H a (ns.map V.int) ∧ ns.length ≤ 63 ∧ ∀ d c H', H d = none → Same H H' → Dr H' d c 0 → Q (.ref d) H'
theorem ok_begin (T : Tex K mg D) : FnOk P w K mg base CX0 1 D.a_begin D.d_begin P_begin (spBegin K) := by
  refine T.begin_F.ok S_begin (fun vs H Q E h => ?_) (fun cdv A outer s H vs Q E hr h => ?_)
  · obtain ⟨a, ns, rfl, _⟩ := h
    rfl
  · obtain ⟨a, ns, rfl, hb, hl, q⟩ := h
    refine ⟨_, (pss_one (ps_ret (pe_disp (pps_cons pe_str (pe_op op_catS (pv 0) (pe_lst (pa_cons pe_int pa_nil))) (pps_cons pe_str pe_int (pps_cons pe_str pe_int (pps_cons pe_str pe_int pps_nil)))) (by rfl) (by rfl) (fun z => by cases z) (by decide)))), ?_⟩
    intro p hp
    have s1 : Same H (upd H p (.dK [])) := same_new hp
    refine ⟨_, rfl, (by show 1 ≤ sizeLine; decide), fun l hl1 => ⟨a, l, _, _, rfl, rfl, (hb.keep s1).keep (same_new hl1), upd_same, Nat.le_trans (show _ ≤ 1000 by simp; omega) (by decide), fun c hc => ?_⟩⟩
    have s2 := s1.trans (same_new (o := .lst [.int 0]) hl1)
    have s3 := s2.trans (same_new (o := .lst (ns.map V.int ++ [.int 0])) hc)
    have npl : p ≠ l := ne_of_none upd_same hl1
    have npc : p ≠ c := by
      have e : (upd (upd H p (.dK [])) l (.lst [.int 0])) p = some (.dK []) := by rw [upd_ne npl, upd_same]
      exact ne_of_none e hc
    refine ⟨by rw [upd_ne npc, upd_ne npl, upd_same], drK c 0 0 0, rfl, (by show 4 ≤ 15; decide), ?_⟩
    rw [merge_dr]
    refine q p c _ hp (same_upd s3 hp) ⟨ns ++ [0], 0, 0, 0, upd_same, ?_, by simp, by simp; omega, by decide, by decide, by decide, by decide, by decide⟩
    rw [upd_ne npc.symm, upd_same]
    simp

end

/-! ## What stays where lambdas are made: all but the draw and the tables -/
section
open LamX
def ButN (d : Addr) (H H' : Hp) : Prop := ∀ b o, H b = some o → b ≠ d → (∀ ps, o ≠ .tbl ps) → H' b = some o
theorem ButN.refl {d : Addr} {H : Hp} : ButN d H H := fun _ _ e _ _ => e
theorem ButN.trans {d : Addr} {H H1 H2 : Hp} (x : ButN d H H1) (y : ButN d H1 H2) : ButN d H H2 := fun b o e n t => y b o (x b o e n t) n t
theorem But.toN {d : Addr} {H H' : Hp} (x : But d H H') : ButN d H H' := fun b o e n _ => x b o e n
theorem ButN.of_same {d : Addr} {H H' : Hp} (x : Same H H') : ButN d H H' := fun b o e _ _ => x b o e
theorem ButN.of_ext {d : Addr} {H H' : Hp} (x : ExtN H H') : ButN d H H' := fun b o e _ t => x b o e t
theorem Dr.ext {H H' : Hp} {d c : Addr} {n : Nat} (h : Dr H d c n) (e : ExtN H H') : Dr H' d c n := by
  obtain ⟨cs, a, l, u, h1, h2, r⟩ := h
  exact ⟨cs, a, l, u, e _ _ h1 (fun _ z => nomatch z), e _ _ h2 (fun _ z => nomatch z), r⟩
theorem Tabs.same {T : List (Addr × Str)} {H H' : Hp} (t : Tabs T H) (e : Same H H') : Tabs T H' := t.ext e
theorem Tabs.but {T : List (Addr × Str)} {H H' : Hp} {d c : Addr} {n : Nat} (t : Tabs T H) (hd : Dr H d c n) (e : But d H H') : Tabs T H' := by
  intro p hp
  obtain ⟨ps, h1, h2, h3⟩ := t p hp
  obtain ⟨o, ho⟩ := hd.dict
  refine ⟨ps, e _ _ h1 (ne_of h1 ho (by intro z; cases z)), h2, fun pos cv hc => ?_⟩
  obtain ⟨c0, e1, e2⟩ := h3 pos cv hc
  exact ⟨c0, e1, e _ _ e2 (ne_of e2 ho (by unfold CodeO; intro z; cases z))⟩
theorem tup_n {xs : List V} : ∀ ps, HO.tup xs ≠ .tbl ps := fun _ z => nomatch z
theorem lst_n {xs : List V} : ∀ ps, HO.lst xs ≠ .tbl ps := fun _ z => nomatch z
theorem ins_n {C dx : Addr} {fs : List (Str × V)} : ∀ ps, HO.ins C dx fs ≠ .tbl ps := fun _ z => nomatch z
end

/-! ## Questions about objects of every kind -/
section
variable {P : Program} {w : World} {K : PySem.W.Frag} {mg : Str → Option Value} {base : Heap} {D : Ad}
open TL SX
/-- a plain object that is no whole number -/
def Plain (K : PySem.W.Frag) (H : Hp) (x : V) : Prop := ∃ S ∈ (["NoneType", "bool", "str", "tuple", "list", "dict"] : List String), TyX K H x (.type S)
def spWholeA (K : PySem.W.Frag) : Sp := fun vs H Q _ => ∃ (x : V) (b : Bool), vs = [x] ∧ ((∃ i, x = .int i ∧ b = true) ∨ (Plain K H x ∧ b = false)) ∧ Q (.bl b) H
theorem ok_is_whole (T : Tex K mg D) : FnOk P w K mg base CX0 1 D.a_is_whole D.d_is_whole P_is_whole (spWholeA K) := by
  refine T.is_whole_F.ok S_is_whole (fun vs H Q E h => ?_) (fun cdv A outer s H vs Q E hr h => ?_)
  · obtain ⟨x, b, rfl, _⟩ := h
    rfl
  · obtain ⟨x, b, rfl, h, q⟩ := h
    refine ⟨_, (pss_one (ps_ret (pe_and (pe_callB call_isi (by rfl) T.b_isinstance (by decide +kernel) (pa_cons (pv 0) (pa_cons (pe_bltn (v := .ty "int") (u := .type "int") (by rfl) T.b_int (by decide +kernel) rfl) pa_nil))) (pe_one (pe_not (pe_callB call_isi (by rfl) T.b_isinstance (by decide +kernel) (pa_cons (pv 0) (pa_cons (pe_bltn (v := .ty "bool") (u := .type "bool") (by rfl) T.b_bool (by decide +kernel) rfl) pa_nil)))))))), ?_⟩
    rcases h with ⟨i, rfl, rfl⟩ | ⟨⟨St, hS, ty⟩, rfl⟩
    · refine ⟨_, rfl, .int i, .ty "int", .type "int", .type "int", true, rfl, .ty _, .base (.int i), kit_ty (by decide +kernel), true, rfl, iteT ?_⟩
      exact ⟨_, rfl, .int i, .ty "bool", .type "int", .type "bool", false, rfl, .ty _, .base (.int i), kit_ty (by decide +kernel), false, rfl, q⟩
    · simp only [List.mem_cons, List.not_mem_nil, or_false] at hS
      rcases hS with rfl | rfl | rfl | rfl | rfl | rfl
      · exact ⟨_, rfl, x, .ty "int", _, .type "int", false, rfl, .ty _, ty, kit_ty (by decide +kernel), false, rfl, iteF q⟩
      · refine ⟨_, rfl, x, .ty "int", _, .type "int", true, rfl, .ty _, ty, kit_ty (by decide +kernel), true, rfl, iteT ?_⟩
        exact ⟨_, rfl, x, .ty "bool", _, .type "bool", true, rfl, .ty _, ty, kit_ty (by decide +kernel), true, rfl, q⟩
      · exact ⟨_, rfl, x, .ty "int", _, .type "int", false, rfl, .ty _, ty, kit_ty (by decide +kernel), false, rfl, iteF q⟩
      · exact ⟨_, rfl, x, .ty "int", _, .type "int", false, rfl, .ty _, ty, kit_ty (by decide +kernel), false, rfl, iteF q⟩
      · exact ⟨_, rfl, x, .ty "int", _, .type "int", false, rfl, .ty _, ty, kit_ty (by decide +kernel), false, rfl, iteF q⟩
      · exact ⟨_, rfl, x, .ty "int", _, .type "int", false, rfl, .ty _, ty, kit_ty (by decide +kernel), false, rfl, iteF q⟩
def spCntA (K : PySem.W.Frag) : Sp := fun vs H Q _ => ∃ (x : V) (b : Bool), vs = [x] ∧ ((∃ i, x = .int i ∧ b = decide (0 ≤ i)) ∨ (Plain K H x ∧ b = false)) ∧ Q (.bl b) H
theorem ok_is_count (T : Tex K mg D) : FnOk P w K mg base CX0 2 D.a_is_count D.d_is_count P_is_count (spCntA K) := by
  have G_is_whole : FnOk P w K mg base CX0 1 D.a_is_whole D.d_is_whole P_is_whole (spWholeA K) := ok_is_whole T
  refine T.is_count_F.ok S_is_count (fun vs H Q E h => ?_) (fun cdv A outer s H vs Q E hr h => ?_)
  · obtain ⟨x, b, rfl, _⟩ := h
    rfl
  · obtain ⟨x, b, rfl, h, q⟩ := h
    refine ⟨_, (pss_one (ps_ret (pe_and (pe_call G_is_whole (hr.mono (by decide)) (by rfl) T.is_whole_g T.is_whole_F.kp T.is_whole_b .nil pass0 (pa_cons (pv 0) pa_nil)) (pe_one (pe_cmpR op_ge (pv 0) pe_int (nomark _)))))), ?_⟩
    rcases h with ⟨i, rfl, rfl⟩ | ⟨pl, rfl⟩
    · exact ⟨_, rfl, _, true, rfl, .inl ⟨i, rfl, rfl⟩, true, rfl, iteT ⟨_, rfl, _, _, rfl, rfl, q⟩⟩
    · exact ⟨_, rfl, _, false, rfl, .inr ⟨pl, rfl⟩, false, rfl, iteF q⟩
end

/-! ## Versions: the program's defs -/
section
variable {P : Program} {w : World} {K : PySem.W.Frag} {mg : Str → Option Value} {base : Heap} {D : Ad}
open TL SX
theorem szl {n : Nat} (h : n ≤ 1000) : n ≤ sizeLine := Nat.le_trans h (by decide)
theorem szt {n : Nat} (h : n ≤ 1000) : n < sizeLine := Nat.lt_of_le_of_lt h (by decide)
theorem szL {n : Nat} (h : n ≤ 100000) : n ≤ sizeLine := Nat.le_trans h (by decide)
theorem szT {n : Nat} (h : n ≤ 100000) : n < sizeLine := Nat.lt_of_le_of_lt h (by decide)
theorem kit_self {C : Addr} : PySem.W.kitOne K (.ref C) (.ref C) = some true := by
  unfold PySem.W.kitOne
  simp
def inS (sg : Str) (c : Nat) : Bool := decide (c ∈ sg.cps.toList)
theorem filt1 {α : Type} {xs : List α} : xs.filter (fun _ => true) = xs := List.filter_eq_self.mpr (by simp)
def spConsistsOf : Sp := fun vs H Q _ => ∃ t sg : Str, vs = [.str t, .str sg] ∧ t.length ≤ 200 ∧ ∀ H', Same H H' → Q (.bl (t.cps.toList.all (inS sg))) H'
theorem ok_consists_of (T : Tex K mg D) : FnOk P w K mg base CX0 1 D.a_consists_of D.d_consists_of P_consists_of spConsistsOf := by
  refine T.consists_of_F.ok S_consists_of (fun vs H Q E h => ?_) (fun cdv A outer s H vs Q E hr h => ?_)
  · obtain ⟨t, sg, rfl, _⟩ := h
    rfl
  · obtain ⟨t, sg, rfl, hl, q⟩ := h
    refine ⟨_, (pss_one (ps_ret (pe_callB (cr_all rfl) (by rfl) T.b_all (by decide +kernel) (pa_cons (pe_lc (own := [(("sign" : Str), 2)]) (g := gName 2) (tt := tYes) rfl S_consists_of.nd (pi_str (pv 0)) (blkOk_by (N := N_consists_of) (sc := defScope s_consists_of) (by decide +kernel)) (fun _ _ _ _ _ => pg_name (i := 2) S_consists_of.nd rfl (Or.inl rfl)) (fun _ _ _ _ _ => pts_nil) (fun _ _ _ _ _ => (pe_cmpR op_in_sign (pv 2) (pv 1) rfl))) pa_nil)))), ?_⟩
    refine ⟨_, rfl, t, rfl, fun D hD => lc_txt (fun _ => true) (fun c => .bl (inS sg c)) hD (szt (by omega)) (fun c hc H2 R S s2 h1 h2 => ?_) (fun H2 s2 h2 => ?_)⟩
    · exact ⟨rfl, ⟨_, rfl, _, rfl, c, sg, rfl, rfl, h1 rfl _ (Same.refl _)⟩⟩
    · refine ⟨D, t.cps.toList.map (inS sg), rfl, SqL.of (by rw [h2, filt1, List.map_map]; rfl), ?_⟩
      rw [List.all_map]
      exact q _ s2
def goodT (t sg : Str) (m : Int) : Bool := decide (1 ≤ (t.length : Int)) && (decide ((t.length : Int) ≤ m) && t.cps.toList.all (inS sg))
def spStrT : Sp := fun vs H Q _ => ∃ (t sg : Str) (m : Int), vs = [.str t, .str sg, .int m] ∧ t.length ≤ 100000 ∧ m ≤ 100 ∧ ∀ H', Same H H' → Q (.bl (goodT t sg m)) H'
theorem ok_is_string_of (T : Tex K mg D) : FnOk P w K mg base CX0 2 D.a_is_string_of D.d_is_string_of P_is_string_of spStrT := by
  have G_consists_of : FnOk P w K mg base CX0 1 D.a_consists_of D.d_consists_of P_consists_of spConsistsOf := ok_consists_of T
  refine T.is_string_of_F.ok S_is_string_of (fun vs H Q E h => ?_) (fun cdv A outer s H vs Q E hr h => ?_)
  · obtain ⟨x, sg, m, rfl, _⟩ := h
    rfl
  · obtain ⟨t, sg, m, rfl, hl, hm, q⟩ := h
    refine ⟨_, (pss_one (ps_ret (pe_and (pe_callB call_isi (by rfl) T.b_isinstance (by decide +kernel) (pa_cons (pv 0) (pa_cons (pe_bltn (v := .ty "str") (u := .type "str") (by rfl) T.b_str (by decide +kernel) rfl) pa_nil))) (pe_and (pe_chain op_le op_le pe_int (pe_callB call_len_str (by rfl) T.b_len (by decide +kernel) (pa_cons (pv 0) pa_nil)) (pv 2)) (pe_one (pe_call G_consists_of (hr.mono (by decide)) (by rfl) T.consists_of_g T.consists_of_F.kp T.consists_of_b .nil pass0 (pa_cons (pv 0) (pa_cons (pv 1) pa_nil)))))))), ?_⟩
    refine ⟨_, rfl, .str t, .ty "str", .type "str", .type "str", true, rfl, .ty _, .base (.str t), kit_ty (by decide +kernel), true, rfl, iteT ?_⟩
    refine ⟨_, rfl, t, rfl, szL (by omega), _, _, rfl, rfl, _, rfl, ?_⟩
    unfold goodT at q
    refine ite2 (fun h1 => ?_) (fun h1 => ?_)
    · refine ⟨_, rfl, _, _, rfl, rfl, _, rfl, ite2 (fun h2 => ?_) (fun h2 => ?_)⟩
      · have h2' := of_decide_eq_true h2
        refine ⟨_, rfl, _, rfl, t, sg, rfl, by omega, fun H' s' => ?_⟩
        have q2 := q H' s'
        rw [h1, h2] at q2
        exact q2
      · have q2 := q H (Same.refl H)
        rw [h1, Bool.eq_false_iff.mpr h2] at q2
        exact q2
    · refine ⟨_, rfl, iteF ?_⟩
      have q2 := q H (Same.refl H)
      rw [Bool.eq_false_iff.mpr h1] at q2
      exact q2
def oV : Option Nat → V
  | none => .non
  | some n => .int (n : Int)
theorem inS_dig (c : Nat) : inS (("0123456789" : String) : Str) c = isDig c := by
  unfold inS isDig
  have e : ((("0123456789" : String) : Str)).cps.toList = [48, 49, 50, 51, 52, 53, 54, 55, 56, 57] := by decide +kernel
  rw [e, Bool.eq_iff_iff, decide_eq_true_eq, decide_eq_true_eq]
  simp only [List.mem_cons, List.not_mem_nil, or_false]
  omega
theorem good_nT (l : List Nat) (k : Nat) : goodT (S l) (("0123456789" : String) : Str) (k : Int) = (decide (1 ≤ l.length) && (decide (l.length ≤ k) && l.all isDig)) := by
  unfold goodT
  have e1 : decide (1 ≤ ((S l).length : Int)) = decide (1 ≤ l.length) := by rw [S_len]; exact decide_eq_decide.mpr (by omega)
  have e2 : decide (((S l).length : Int) ≤ (k : Int)) = decide (l.length ≤ k) := by rw [S_len]; exact decide_eq_decide.mpr (by omega)
  have e3 : (S l).cps.toList.all (inS (("0123456789" : String) : Str)) = l.all isDig := by
    show l.all _ = _
    congr 1
    funext c
    exact inS_dig c
  rw [e1, e2, e3]
theorem str_num (n : Nat) : Str.ofString (toString ((n : Nat) : Int)) = S (numL n) := ext_tl (tl_num n)
theorem log_num {n : Nat} (h : n < 100000) : ((n : Nat) : Int).natAbs.log2 < 1920 := by
  rw [Int.natAbs_natCast]
  by_cases h0 : n = 0
  · rw [h0]
    decide
  · exact Nat.lt_trans ((Nat.log2_lt h0).mpr (Nat.lt_of_lt_of_le h (by decide : 100000 ≤ 2 ^ 17))) (by decide)
theorem dv_lt : ∀ (l : List Nat), NumText.AllDigits l → NumText.digitsVal l < 10 ^ l.length := by
  intro l
  induction h : l.length generalizing l with
  | zero =>
    intro _
    have : l = [] := List.length_eq_zero_iff.mp h
    subst this
    decide
  | succ n ih =>
    intro hd
    obtain ⟨r, c, rfl⟩ : ∃ r c, l = r ++ [c] := ⟨l.dropLast, l.getLast (by intro e; rw [e] at h; cases h), (List.dropLast_concat_getLast _).symm⟩
    have hr : r.length = n := by simpa using h
    have h1 := ih r hr (fun x hx => hd x (List.mem_append_left _ hx))
    have h2 := hd c (by simp)
    rw [NumText.digitsVal_snoc, Nat.pow_succ]
    omega
/-- number_in, with the last number -/
def nTL (L : Nat) (l : List Nat) : Option Nat :=
  if (decide (1 ≤ l.length) && (decide (l.length ≤ (numL L).length) && l.all isDig)) = true then (if l.head? = some 48 ∧ l ≠ [48] then none else if NumText.digitsVal l ≤ L then some (NumText.digitsVal l) else none) else none
theorem allD {l : List Nat} (h : l.all isDig = true) : NumText.AllDigits l := by
  intro c hc
  have := List.all_eq_true.mp h c hc
  simp only [isDig, decide_eq_true_eq] at this
  omega
theorem nTL_999 (l : List Nat) : nTL 999 l = nT l := by
  unfold nTL nT
  have e : (numL 999).length = 3 := by decide +kernel
  rw [e]
  by_cases h : (decide (1 ≤ l.length) && (decide (l.length ≤ 3) && l.all isDig)) = true
  · rw [if_pos h, if_pos h]
    simp only [Bool.and_eq_true, decide_eq_true_eq] at h
    have hv := dv_lt l (allD h.2.2)
    have : NumText.digitsVal l ≤ 999 := by
      have h3 : (10 : Nat) ^ l.length ≤ 10 ^ 3 := Nat.pow_le_pow_right (by decide) h.2.1
      have : (10 : Nat) ^ 3 = 1000 := rfl
      omega
    rw [if_pos this]
  · rw [if_neg h, if_neg h]
/-! ### stage_of_text -/
/-! ### parts_of_text -/
/-! ### ranks -/
end

/-! ## Texts of given signs, asked of objects of every kind -/
section
variable {P : Program} {w : World} {K : PySem.W.Frag} {mg : Str → Option Value} {base : Heap} {D : Ad}
open TL SX
theorem tyx_keep {H H' : Hp} {x : V} {t : Value} (h : TyX K H x t) (s : Same H H') : TyX K H' x t := by
  cases h with
  | base h =>
    cases h with
    | non => exact .base .non
    | bl b => exact .base (.bl b)
    | int i => exact .base (.int i)
    | str i => exact .base (.str i)
    | flt i => exact .base (.flt i)
    | lst e => exact .base (.lst (s _ _ e))
    | frz e => exact .base (.frz (s _ _ e))
    | tup e => exact .base (.tup (s _ _ e))
    | dK e => exact .base (.dK (s _ _ e))
    | dT e => exact .base (.dT (s _ _ e))
    | ins e a b c d f => exact .base (.ins (s _ _ e) a b c d f)
  | byt b => exact .byt b
  | set e => exact .set (s _ _ e)
  | kList e c => exact .kList e c
  | kTuple e c => exact .kTuple e c
  | kDict e c => exact .kDict e c
  | fTuple e => exact .fTuple (s _ _ e)
  | fDict e => exact .fDict (s _ _ e)
theorem sqT_of {H : Hp} {b : Addr} {xs : List V} (h : H b = some (.tup xs)) : SqT K H b xs := .inl (.inl h)
theorem sqT_keep {H1 H2 : Hp} {b : Addr} {xs : List V} (e : Same H1 H2) (h : SqT K H1 b xs) : SqT K H2 b xs := by
  rcases h with (h | ⟨o, h⟩) | h
  · exact .inl (.inl (e _ _ h))
  · exact .inl (.inr ⟨o, e _ _ h⟩)
  · exact .inr h
/-- no text -/
def NoTxt (K : PySem.W.Frag) (H : Hp) (x : V) : Prop := ∃ t, TyX K H x t ∧ PySem.W.kitOne K t (.type "str") = some false
theorem NoTxt.keep {H H' : Hp} {x : V} (h : NoTxt K H x) (s : Same H H') : NoTxt K H' x := let ⟨t, a, b⟩ := h; ⟨t, tyx_keep a s, b⟩
theorem Plain.keep {H H' : Hp} {x : V} (h : Plain K H x) (s : Same H H') : Plain K H' x := let ⟨S, hS, a⟩ := h; ⟨S, hS, tyx_keep a s⟩
def spStrG (K : PySem.W.Frag) : Sp := fun vs H Q _ => ∃ (x : V) (sg : Str) (m : Int) (b : Bool), vs = [x, .str sg, .int m] ∧ m ≤ 100 ∧ ((∃ t : Str, x = .str t ∧ t.length ≤ 100000 ∧ b = goodT t sg m) ∨ (NoTxt K H x ∧ b = false)) ∧ ∀ H', Same H H' → Q (.bl b) H'
theorem ok_is_string_ofG (T : Tex K mg D) : FnOk P w K mg base CX0 2 D.a_is_string_of D.d_is_string_of P_is_string_of (spStrG K) := by
  have G_consists_of : FnOk P w K mg base CX0 1 D.a_consists_of D.d_consists_of P_consists_of spConsistsOf := ok_consists_of T
  refine T.is_string_of_F.ok S_is_string_of (fun vs H Q E h => ?_) (fun cdv A outer s H vs Q E hr h => ?_)
  · obtain ⟨x, sg, m, b, rfl, _⟩ := h
    rfl
  · obtain ⟨x, sg, m, b, rfl, hm, hx, q⟩ := h
    refine ⟨_, (pss_one (ps_ret (pe_and (pe_callB call_isi (by rfl) T.b_isinstance (by decide +kernel) (pa_cons (pv 0) (pa_cons (pe_bltn (v := .ty "str") (u := .type "str") (by rfl) T.b_str (by decide +kernel) rfl) pa_nil))) (pe_and (pe_chain op_le op_le pe_int (pe_callB call_len_str (by rfl) T.b_len (by decide +kernel) (pa_cons (pv 0) pa_nil)) (pv 2)) (pe_one (pe_call G_consists_of (hr.mono (by decide)) (by rfl) T.consists_of_g T.consists_of_F.kp T.consists_of_b .nil pass0 (pa_cons (pv 0) (pa_cons (pv 1) pa_nil)))))))), ?_⟩
    rcases hx with ⟨t, rfl, hl, rfl⟩ | ⟨⟨ty, hty, hk⟩, rfl⟩
    · refine ⟨_, rfl, .str t, .ty "str", .type "str", .type "str", true, rfl, .ty _, .base (.str t), kit_ty (by decide +kernel), true, rfl, iteT ?_⟩
      refine ⟨_, rfl, t, rfl, szL hl, _, _, rfl, rfl, _, rfl, ?_⟩
      have eg : goodT t sg m = (decide (1 ≤ (t.length : Int)) && (decide ((t.length : Int) ≤ m) && t.cps.toList.all (inS sg))) := rfl
      rw [eg] at q
      refine ite2 (fun h1 => ?_) (fun h1 => ?_)
      · refine ⟨_, rfl, _, _, rfl, rfl, _, rfl, ite2 (fun h2 => ?_) (fun h2 => ?_)⟩
        · have h2' := of_decide_eq_true h2
          refine ⟨_, rfl, _, rfl, t, sg, rfl, by omega, fun H' s' => ?_⟩
          have q2 := q H' s'
          rw [h1, h2] at q2
          exact q2
        · have q2 := q H (Same.refl H)
          rw [h1, Bool.eq_false_iff.mpr h2] at q2
          exact q2
      · refine ⟨_, rfl, iteF ?_⟩
        have q2 := q H (Same.refl H)
        rw [Bool.eq_false_iff.mpr h1] at q2
        exact q2
    · exact ⟨_, rfl, x, .ty "str", _, .type "str", false, rfl, .ty _, hty, hk, false, rfl, iteF (q H (Same.refl H))⟩
end

/-! ## Disks as mathematics: texts by paths -/
section
open TL SX
def isTx (c : Nat) : Bool := decide (c = 10) || (decide (32 ≤ c) && (decide (c ≤ 126) && !decide (c = 37)))
def textT (z : Str) : Bool := z.cps.toList.all isTx
def SIGNS : Str := (("abcdefghijklmnopqrstuvwxyz" : String) : Str) ++ (("0123456789" : String) : Str) ++ ((".-/" : String) : Str)
def pathT (p : Str) : Bool := goodT p SIGNS 80
def lkS : List (Str × Str) → Str → Option Str
  | [], _ => none
  | (k, v) :: r, p => if k = p then some v else lkS r p
def putS : List (Str × Str) → Str → Str → List (Str × Str)
  | [], p, z => [(p, z)]
  | (k, v) :: r, p, z => if k = p then (k, z) :: r else (k, v) :: putS r p z
def dropS (l : List (Str × Str)) (p : Str) : List (Str × Str) := l.filter fun q => !decide (q.1 = p)
def usedOf (l : List (Str × Str)) : Nat := (l.map fun q => q.2.length).sum
def oldOf (l : List (Str × Str)) (p : Str) : Str := (lkS l p).getD ""
def kvV (l : List (Str × Str)) : List (Key × V) := l.map fun q => (.inr q.1, .str q.2)
theorem inr_eq {k p : Str} : ((Sum.inr k : Key) = Sum.inr p) ↔ k = p := ⟨fun h => by injection h, fun h => by rw [h]⟩
theorem valV_kv (p : Str) : ∀ l : List (Str × Str), valV (kvV l) (.inr p : Key) = (lkS l p).map V.str
  | [] => rfl
  | (k, v) :: r => by
    by_cases h : k = p
    · rw [show kvV ((k, v) :: r) = (.inr k, .str v) :: kvV r from rfl, valV_pos (p := ((.inr k : Key), V.str v)) (inr_eq.mpr h)]
      simp [lkS, h]
    · rw [show kvV ((k, v) :: r) = (.inr k, .str v) :: kvV r from rfl, valV_neg (p := ((.inr k : Key), V.str v)) (fun e => h (inr_eq.mp e)), valV_kv p r]
      simp [lkS, h]
theorem putK_kv (p z : Str) : ∀ l : List (Str × Str), (l.map (·.1)).Nodup → putK (kvV l) (.inr p : Key) (.str z) = kvV (putS l p z)
  | [], _ => rfl
  | (k, v) :: r, nd => by
    simp only [List.map_cons, List.nodup_cons] at nd
    have e : kvV ((k, v) :: r) = (.inr k, .str v) :: kvV r := rfl
    by_cases h : k = p
    · have same : (kvV r).map (fun kv => if kv.1 = (.inr p : Key) then (kv.1, V.str z) else kv) = kvV r := by
        refine (List.map_congr_left fun q hq => ?_).trans (List.map_id _)
        obtain ⟨q', hq', rfl⟩ := List.mem_map.mp hq
        have : q'.1 ≠ p := fun z => nd.1 (by rw [h, ← z]; exact List.mem_map_of_mem hq')
        rw [if_neg (fun e => this (inr_eq.mp e))]
        rfl
      rw [e]
      simp only [putK, putS, if_pos h, List.any_cons, inr_eq.mpr h, decide_true, Bool.true_or, if_true, List.map_cons]
      rw [same, ← h]
      rfl
    · have ih := putK_kv p z r nd.2
      have hne : ¬ ((.inr k : Key) = .inr p) := fun e => h (inr_eq.mp e)
      rw [e]
      simp only [putK, putS, if_neg h, List.any_cons, hne, decide_false, Bool.false_or, List.map_cons, if_false] at ih ⊢
      split
      · rename_i ha
        rw [if_pos ha] at ih
        rw [ih]
        rfl
      · rename_i ha
        rw [if_neg ha] at ih
        rw [List.cons_append, ih]
        rfl
theorem dropK_kv (p : Str) : ∀ l : List (Str × Str), dropK (kvV l) (.inr p : Key) = kvV (dropS l p)
  | [] => rfl
  | (k, v) :: r => by
    have e : kvV ((k, v) :: r) = (.inr k, .str v) :: kvV r := rfl
    by_cases h : k = p
    · rw [e, dropK_pos (p := ((.inr k : Key), V.str v)) (inr_eq.mpr h), dropK_kv p r]
      simp [dropS, h]
    · rw [e, dropK_neg (p := ((.inr k : Key), V.str v)) (fun e => h (inr_eq.mp e)), dropK_kv p r]
      simp [dropS, h, kvV]
theorem lk_mem {p z : Str} : ∀ {l : List (Str × Str)}, lkS l p = some z → (p, z) ∈ l
  | (k, v) :: r, h => by
    unfold lkS at h
    split at h
    · rename_i e
      rw [← e, Option.some.inj h]
      exact List.mem_cons_self
    · exact List.mem_cons_of_mem _ (lk_mem h)
theorem lk_none {p : Str} : ∀ {l : List (Str × Str)}, lkS l p = none → ∀ q ∈ l, q.1 ≠ p
  | (k, v) :: r, h, q, hq => by
    unfold lkS at h
    split at h
    · cases h
    · rename_i e
      rcases List.mem_cons.mp hq with rfl | hq
      · exact e
      · exact lk_none h q hq
/-- behind a writing the lengths are these -/
theorem used_put (p z : Str) : ∀ l : List (Str × Str), ((usedOf (putS l p z) : Nat) : Int) = (usedOf l : Int) + (z.length : Int) - ((oldOf l p).length : Int)
  | [] => by
    simp [usedOf, putS, oldOf, lkS, show (("" : String) : Str).length = 0 from by decide]
  | (k, v) :: r => by
    have ih := used_put p z r
    by_cases h : k = p
    · simp only [usedOf, putS, oldOf, lkS, if_pos h, List.map_cons, List.sum_cons, Option.getD_some]
      omega
    · simp only [usedOf, putS, oldOf, lkS, if_neg h, List.map_cons, List.sum_cons] at ih ⊢
      omega
theorem used_drop {p z : Str} : ∀ {l : List (Str × Str)}, (l.map (·.1)).Nodup → lkS l p = some z → ((usedOf (dropS l p) : Nat) : Int) = (usedOf l : Int) - (z.length : Int)
  | (k, v) :: r, nd, h => by
    simp only [List.map_cons, List.nodup_cons] at nd
    unfold lkS at h
    split at h
    · rename_i e
      obtain rfl := Option.some.inj h
      have hr : dropS r p = r := by
        refine List.filter_eq_self.mpr fun q hq => ?_
        have : q.1 ≠ p := fun z => nd.1 (by rw [e, ← z]; exact List.mem_map_of_mem hq)
        simp [this]
      have e2 : dropS ((k, v) :: r) p = r := by
        rw [show dropS ((k, v) :: r) p = dropS r p from by simp [dropS, e]]
        exact hr
      rw [e2]
      simp only [usedOf, List.map_cons, List.sum_cons]
      omega
    · rename_i e
      have ih := used_drop nd.2 h
      have e2 : dropS ((k, v) :: r) p = (k, v) :: dropS r p := by simp [dropS, e]
      rw [e2]
      simp only [usedOf, List.map_cons, List.sum_cons] at ih ⊢
      omega
theorem keys_put (p z : Str) : ∀ {l : List (Str × Str)}, (l.map (·.1)).Nodup → ((putS l p z).map (·.1)).Nodup ∧ ∀ k, k ∈ (putS l p z).map (·.1) → k = p ∨ k ∈ l.map (·.1)
  | [], _ => by simp [putS]
  | (k, v) :: r, nd => by
    simp only [List.map_cons, List.nodup_cons] at nd
    obtain ⟨h1, h2⟩ := keys_put p z nd.2
    by_cases h : k = p
    · simp only [putS, if_pos h, List.map_cons, List.nodup_cons]
      exact ⟨nd, fun q hq => .inr hq⟩
    · simp only [putS, if_neg h, List.map_cons, List.nodup_cons]
      refine ⟨⟨fun hm => (h2 k hm).elim h nd.1, h1⟩, fun q hq => ?_⟩
      rcases List.mem_cons.mp hq with rfl | hq
      · exact .inr List.mem_cons_self
      · exact (h2 q hq).imp id fun z => List.mem_cons_of_mem _ z
theorem len_put (p z : Str) : ∀ l : List (Str × Str), (putS l p z).length ≤ l.length + 1
  | [] => by simp [putS]
  | (k, v) :: r => by
    have ih := len_put p z r
    unfold putS
    split <;> simp <;> omega
theorem nd_drop {l : List (Str × Str)} (p : Str) (h : (l.map (·.1)).Nodup) : ((dropS l p).map (·.1)).Nodup := h.sublist (List.Sublist.map _ List.filter_sublist)
theorem mem_drop {l : List (Str × Str)} {p : Str} {q : Str × Str} (h : q ∈ dropS l p) : q ∈ l := (List.mem_filter.mp h).1
def oN : Option Nat → V
  | none => .non
  | some n => .int (n : Int)
/-- what a disk is -/
structure DS where
  kvs : List (Str × Str)
  room : Option Nat
  acts : Nat
  power : Option Nat
def down : Option Nat → Option Nat
  | none => none
  | some n => some (n - 1)
def DS.wanted (S : DS) (p z : Str) : Int := (usedOf S.kvs : Int) + (z.length : Int) - ((oldOf S.kvs p).length : Int)
def DS.put (S : DS) (p z : Str) : DS := { S with kvs := putS S.kvs p z, acts := S.acts + 1, power := down S.power }
def DS.drop (S : DS) (p : Str) : DS := { S with kvs := dropS S.kvs p, acts := S.acts + 1, power := down S.power }
structure DS.Ok (S : DS) : Prop where
  nd : (S.kvs.map (·.1)).Nodup
  few : S.kvs.length ≤ 1000
  short : ∀ q ∈ S.kvs, q.2.length ≤ 1000 ∧ q.1.length ≤ 80
theorem DS.Ok.put {S : DS} {p z : Str} (h : S.Ok) (hl : S.kvs.length < 1000) (hz : z.length ≤ 1000) (hp : p.length ≤ 80) : (S.put p z).Ok where
  nd := (keys_put p z h.nd).1
  few := Nat.le_trans (len_put p z S.kvs) hl
  short := by
    have : ∀ l : List (Str × Str), (∀ q ∈ l, q.2.length ≤ 1000 ∧ q.1.length ≤ 80) → ∀ q ∈ putS l p z, q.2.length ≤ 1000 ∧ q.1.length ≤ 80 := by
      intro l
      induction l with
      | nil =>
        intro _ q hq
        rw [List.mem_singleton.mp hq]
        exact ⟨hz, hp⟩
      | cons a r ih =>
        intro ha q hq
        obtain ⟨k, v⟩ := a
        unfold putS at hq
        split at hq
        · rcases List.mem_cons.mp hq with rfl | hq
          · exact ⟨hz, (ha (k, v) List.mem_cons_self).2⟩
          · exact ha q (List.mem_cons_of_mem _ hq)
        · rcases List.mem_cons.mp hq with rfl | hq
          · exact ha _ List.mem_cons_self
          · exact ih (fun q hq => ha q (List.mem_cons_of_mem _ hq)) q hq
    exact this S.kvs h.short
theorem DS.Ok.drop {S : DS} (h : S.Ok) (p : Str) : (S.drop p).Ok where
  nd := nd_drop p h.nd
  few := Nat.le_trans (List.length_filter_le _ _) h.few
  short := fun q hq => h.short q (mem_drop hq)
theorem DS.Ok.old {S : DS} (h : S.Ok) (p : Str) : (oldOf S.kvs p).length ≤ 1000 := by
  unfold oldOf
  cases e : lkS S.kvs p with
  | none => exact (by decide : (("" : String) : Str).length ≤ 1000)
  | some z => exact (h.short _ (lk_mem e)).1
end

/-! ## Disks: the class's defs -/
section
variable {P : Program} {w : World} {K : PySem.W.Frag} {mg : Str → Option Value} {base : Heap} {D : Ad}
open TL SX
theorem xrt : ¬ (("_room" : Str) = "_texts") := by decide +kernel
theorem xru : ¬ (("_room" : Str) = "_used") := by decide +kernel
theorem xra : ¬ (("_room" : Str) = "_acts") := by decide +kernel
theorem xrp : ¬ (("_room" : Str) = "_power") := by decide +kernel
theorem xtu : ¬ (("_texts" : Str) = "_used") := by decide +kernel
theorem xta : ¬ (("_texts" : Str) = "_acts") := by decide +kernel
theorem xtp : ¬ (("_texts" : Str) = "_power") := by decide +kernel
theorem xua : ¬ (("_used" : Str) = "_acts") := by decide +kernel
theorem xup : ¬ (("_used" : Str) = "_power") := by decide +kernel
theorem xap : ¬ (("_acts" : Str) = "_power") := by decide +kernel
def d1 (r : V) : List (Str × V) := [("_room", r)]
def d2 (r t : V) : List (Str × V) := [("_room", r), ("_texts", t)]
def d3 (r t u : V) : List (Str × V) := [("_room", r), ("_texts", t), ("_used", u)]
def d4 (r t u n : V) : List (Str × V) := [("_room", r), ("_texts", t), ("_used", u), ("_acts", n)]
def d5 (r t u n p : V) : List (Str × V) := [("_room", r), ("_texts", t), ("_used", u), ("_acts", n), ("_power", p)]
theorem dp1 (r : V) : putF ("_room" : Str) r [] = d1 r := rfl
theorem dp2 (r t : V) : putF ("_texts" : Str) t (d1 r) = d2 r t := by simp [putF, xrt, d1, d2]
theorem dp3 (r t u : V) : putF ("_used" : Str) u (d2 r t) = d3 r t u := by simp [putF, xru, xtu, d2, d3]
theorem dp4 (r t u n : V) : putF ("_acts" : Str) n (d3 r t u) = d4 r t u n := by simp [putF, xra, xta, xua, d3, d4]
theorem dp5 (r t u n p : V) : putF ("_power" : Str) p (d4 r t u n) = d5 r t u n p := by simp [putF, xrp, xtp, xup, xap, d4, d5]
theorem du (r t u n p x : V) : putF ("_used" : Str) x (d5 r t u n p) = d5 r t x n p := by simp [putF, xru, xtu, Ne.symm xua, Ne.symm xup, d5]
theorem da (r t u n p x : V) : putF ("_acts" : Str) x (d5 r t u n p) = d5 r t u x p := by simp [putF, xra, xta, xua, Ne.symm xap, d5]
theorem dq (r t u n p x : V) : putF ("_power" : Str) x (d5 r t u n p) = d5 r t u n x := by simp [putF, xrp, xtp, xup, xap, d5]
theorem beqf {a b : Str} (h : ¬ a = b) : (b == a) = false := by simp [Ne.symm h]
theorem gr (r t u n p : V) : (d5 r t u n p).lookup ("_room" : Str) = some r := by simp [d5, List.lookup]
theorem gt' (r t u n p : V) : (d5 r t u n p).lookup ("_texts" : Str) = some t := by simp [d5, List.lookup, beqf xrt]
theorem gu (r t u n p : V) : (d5 r t u n p).lookup ("_used" : Str) = some u := by simp [d5, List.lookup, beqf xru, beqf xtu]
theorem ga (r t u n p : V) : (d5 r t u n p).lookup ("_acts" : Str) = some n := by simp [d5, List.lookup, beqf xra, beqf xta, beqf xua]
theorem gp (r t u n p : V) : (d5 r t u n p).lookup ("_power" : Str) = some p := by simp [d5, List.lookup, beqf xrp, beqf xtp, beqf xup, beqf xap]
theorem d5_none {m : Str} (h1 : (m == "_room") = false) (h2 : (m == "_texts") = false) (h3 : (m == "_used") = false) (h4 : (m == "_acts") = false) (h5 : (m == "_power") = false) (r t u n p : V) : (d5 r t u n p).lookup m = none := by
  simp [d5, List.lookup, h1, h2, h3, h4, h5]
def dF (t : Addr) (S : DS) : List (Str × V) := d5 (oN S.room) (.ref t) (.int (usedOf S.kvs : Nat)) (.int (S.acts : Nat)) (oN S.power)
/-- a disk stands at a, its texts at t -/
def Dk (C : Addr) (H : Hp) (a t : Addr) (S : DS) : Prop := (∃ dx, H a = some (.ins C dx (dF t S))) ∧ H t = some (.dK (kvV S.kvs)) ∧ S.Ok
theorem Dk.keep {C a t : Addr} {H H' : Hp} {S : DS} (h : Dk C H a t S) (e : Same H H') : Dk C H' a t S := let ⟨⟨dx, h1⟩, h2, h3⟩ := h; ⟨⟨dx, e _ _ h1⟩, e _ _ h2, h3⟩
/-- all stands but the disk -/
def But2 (a t : Addr) (H H' : Hp) : Prop := ∀ b o, H b = some o → b ≠ a → b ≠ t → H' b = some o
theorem But2.of {a t : Addr} {H H' : Hp} (s : Same H H') : But2 a t H H' := fun b o e _ _ => s b o e
theorem But2.trans {a t : Addr} {H H1 H2 : Hp} (x : But2 a t H H1) (y : But2 a t H1 H2) : But2 a t H H2 := fun b o e n m => y b o (x b o e n m) n m
theorem But2.at {a t : Addr} {H : Hp} {o : HO} : But2 a t H (upd H a o) := fun b u e n _ => by rw [upd_ne n]; exact e
theorem But2.tx {a t : Addr} {H : Hp} {o : HO} : But2 a t H (upd H t o) := fun b u e _ n => by rw [upd_ne n]; exact e
/-- what a callee raises leaves the def that raises -/
theorem passD {N : List Str} {qual : Str} {scope : Scope} {f : Addr} {cd : Value} {A : Around} {outer : List Env} {s : Shared} {H : Hp} {E : XK} : Passes (L2.CX P w) (cxOf (L2.CX P w) P w K mg base N qual scope f cd A outer s H E) E :=
  passes_call (X := cxOf (L2.CX P w) P w K mg base N qual scope f cd A outer s H E) (W := fun cls d _ H => E cls d H) (takes_of rfl rfl rfl rfl) fun _ _ _ _ h => h
/-- what is wanted of an error -/
def ErrE (E : XK) (C : Addr) (f : Str) (v : V) (H : Hp) : Prop := ∀ d H', Same H H' → H' d = some (.xd [(f, v)]) → E (.ref C) (some d) H'
theorem ErrE.mono {E : XK} {C : Addr} {f : Str} {v : V} {H H1 : Hp} (h : ErrE E C f v H) (s : Same H H1) : ErrE E C f v H1 := fun d H' s' e => h d H' (s.trans s') e
theorem raiseG {C : Addr} {f : Str} {v : V} {H : Hp} {E : XK} (q : ErrE E C f v H) : (1 : Nat) ≤ 1000 ∧ ∀ a, H a = none → spErr C f (.ref a :: ([v] ++ [])) (upd H a (exo a C none))
    (fun z H2 => z = .non ∧ ∃ (d : Addr) (fs : List (Str × V)), H2 a = some (exo a C (some d)) ∧ H2 d = some (exd d fs) ∧ H d = none ∧ E (.ref C) (some d) (upd (del H2 a) d (.xd fs))) (fun _ _ _ => False) := by
  refine ⟨by decide, fun a ha => ⟨a, v, rfl, upd_same, fun dx hdx hne => ⟨rfl, ?_⟩⟩⟩
  have hd : H dx = none := by
    rw [upd_ne hne] at hdx
    exact hdx
  exact err_end ha hd hne fun H' s hx _ => q dx H' s hx
theorem ok_BadPath_init (T : Tex K mg D) : FnOk P w K mg base CX0 1 D.a_BadPath_init D.d_BadPath_init P_BadPath_init (spErr D.a_BadPath "given") := by
  refine T.BadPath_init_F.ok S_BadPath_init (fun vs H Q E h => ?_) (fun cdv A outer s H vs Q E hr h => ?_)
  · obtain ⟨a, v, rfl, _⟩ := h
    rfl
  · obtain ⟨a, v, rfl, ha, q⟩ := h
    exact ⟨_, (pss_one (ps_ostG (pv 0) (pv 1))), _, rfl, _, rfl, a, _, rfl, T.BadPath_xa.o, T.BadPath_xf, ha, fun dx h1 h2 => q dx h1 h2⟩
theorem ok_BadText_init (T : Tex K mg D) : FnOk P w K mg base CX0 1 D.a_BadText_init D.d_BadText_init P_BadText_init (spErr D.a_BadText "given") := by
  refine T.BadText_init_F.ok S_BadText_init (fun vs H Q E h => ?_) (fun cdv A outer s H vs Q E hr h => ?_)
  · obtain ⟨a, v, rfl, _⟩ := h
    rfl
  · obtain ⟨a, v, rfl, ha, q⟩ := h
    exact ⟨_, (pss_one (ps_ostG (pv 0) (pv 1))), _, rfl, _, rfl, a, _, rfl, T.BadText_xa.o, T.BadText_xf, ha, fun dx h1 h2 => q dx h1 h2⟩
theorem ok_BadCount_init (T : Tex K mg D) : FnOk P w K mg base CX0 1 D.a_BadCount_init D.d_BadCount_init P_BadCount_init (spErr D.a_BadCount "given") := by
  refine T.BadCount_init_F.ok S_BadCount_init (fun vs H Q E h => ?_) (fun cdv A outer s H vs Q E hr h => ?_)
  · obtain ⟨a, v, rfl, _⟩ := h
    rfl
  · obtain ⟨a, v, rfl, ha, q⟩ := h
    exact ⟨_, (pss_one (ps_ostG (pv 0) (pv 1))), _, rfl, _, rfl, a, _, rfl, T.BadCount_xa.o, T.BadCount_xf, ha, fun dx h1 h2 => q dx h1 h2⟩
theorem ok_NoRoom_init (T : Tex K mg D) : FnOk P w K mg base CX0 1 D.a_NoRoom_init D.d_NoRoom_init P_NoRoom_init (spErr D.a_NoRoom "wanted") := by
  refine T.NoRoom_init_F.ok S_NoRoom_init (fun vs H Q E h => ?_) (fun cdv A outer s H vs Q E hr h => ?_)
  · obtain ⟨a, v, rfl, _⟩ := h
    rfl
  · obtain ⟨a, v, rfl, ha, q⟩ := h
    exact ⟨_, (pss_one (ps_ostG (pv 0) (pv 1))), _, rfl, _, rfl, a, _, rfl, T.NoRoom_xa.o, T.NoRoom_xf, ha, fun dx h1 h2 => q dx h1 h2⟩
theorem ok_PowerCut_init (T : Tex K mg D) : FnOk P w K mg base CX0 1 D.a_PowerCut_init D.d_PowerCut_init P_PowerCut_init (spErr D.a_PowerCut "done") := by
  refine T.PowerCut_init_F.ok S_PowerCut_init (fun vs H Q E h => ?_) (fun cdv A outer s H vs Q E hr h => ?_)
  · obtain ⟨a, v, rfl, _⟩ := h
    rfl
  · obtain ⟨a, v, rfl, ha, q⟩ := h
    exact ⟨_, (pss_one (ps_ostG (pv 0) (pv 1))), _, rfl, _, rfl, a, _, rfl, T.PowerCut_xa.o, T.PowerCut_xf, ha, fun dx h1 h2 => q dx h1 h2⟩
theorem ok_NoPath_init (T : Tex K mg D) : FnOk P w K mg base CX0 1 D.a_NoPath_init D.d_NoPath_init P_NoPath_init (spErr D.a_NoPath "given") := by
  refine T.NoPath_init_F.ok S_NoPath_init (fun vs H Q E h => ?_) (fun cdv A outer s H vs Q E hr h => ?_)
  · obtain ⟨a, v, rfl, _⟩ := h
    rfl
  · obtain ⟨a, v, rfl, ha, q⟩ := h
    exact ⟨_, (pss_one (ps_ostG (pv 0) (pv 1))), _, rfl, _, rfl, a, _, rfl, T.NoPath_xa.o, T.NoPath_xf, ha, fun dx h1 h2 => q dx h1 h2⟩
/-! ### texts -/
def spTxSign : Sp := fun vs H Q _ => ∃ c : Nat, vs = [.str ⟨#[c]⟩] ∧ Q (.bl (isTx c)) H
theorem nl_eq (c : Nat) : decide ((V.str ⟨#[c]⟩) = V.str (("\n" : String) : Str)) = decide (c = 10) := decide_eq_decide.mpr ⟨fun e => by
  injection e with e
  have e2 : (⟨#[c]⟩ : Str).cps.toList = (("\n" : String) : Str).cps.toList := by rw [e]
  have e3 : (("\n" : String) : Str).cps.toList = [10] := by decide +kernel
  rw [e3] at e2
  simpa using e2, fun e => by
  subst e
  exact congrArg V.str (by decide +kernel)⟩
theorem ok_is_text_sign (T : Tex K mg D) : FnOk P w K mg base CX0 1 D.a_is_text_sign D.d_is_text_sign P_is_text_sign spTxSign := by
  refine T.is_text_sign_F.ok S_is_text_sign (fun vs H Q E h => ?_) (fun cdv A outer s H vs Q E hr h => ?_)
  · obtain ⟨c, rfl, _⟩ := h
    rfl
  · obtain ⟨c, rfl, q⟩ := h
    refine ⟨_, (pss_cons (ps_set (i := 1) S_is_text_sign.nd rfl (Or.inl rfl) (pe_callB call_ord (by rfl) T.b_ord (by decide +kernel) (pa_cons (pv 0) pa_nil)))
      (pss_one (ps_ret (pe_or (pe_cmpR op_eq (pv 0) pe_str (nomark _)) (pe_one (pe_and (pe_chain op_le op_le pe_int (pv 1) pe_int) (pe_one (pe_cmpR op_ne (pv 1) (pe_glob (v := .int 37) rfl T.c_PERCENT ⟨_, rfl⟩) (nomark _))))))))), ?_⟩
    refine ⟨_, rfl, _, rfl, rfl, ?_⟩
    refine ⟨_, rfl, rfl, _, rfl, ?_⟩
    rw [nl_eq]
    by_cases h0 : c = 10
    · rw [decide_eq_true h0]
      have e : isTx c = true := by simp [isTx, h0]
      rw [e] at q
      exact iteT q
    · rw [decide_eq_false h0]
      refine iteF ⟨_, rfl, _, _, rfl, rfl, _, rfl, ?_⟩
      have e : isTx c = (decide (32 ≤ c) && (decide (c ≤ 126) && !decide (c = 37))) := by simp [isTx, h0]
      rw [e] at q
      have e1 : decide ((32 : Int) ≤ ((((⟨#[c]⟩ : Str).cps.getD 0 0 : Nat)) : Int)) = decide (32 ≤ c) := decide_eq_decide.mpr (by show (32 : Int) ≤ (c : Int) ↔ _; omega)
      have e2 : decide (((((⟨#[c]⟩ : Str).cps.getD 0 0 : Nat)) : Int) ≤ (126 : Int)) = decide (c ≤ 126) := decide_eq_decide.mpr (by show (c : Int) ≤ 126 ↔ _; omega)
      have e3 : decide (V.int ((((⟨#[c]⟩ : Str).cps.getD 0 0 : Nat)) : Int) = V.int 37) = decide (c = 37) := decide_eq_decide.mpr ⟨fun e => by
        injection e with e
        have e : (c : Int) = 37 := e
        omega, fun e => by subst e; rfl⟩
      rw [e1]
      by_cases h1 : 32 ≤ c
      · rw [decide_eq_true h1] at q ⊢
        refine iteT ⟨_, _, rfl, rfl, _, rfl, ?_⟩
        rw [e2]
        by_cases h2 : c ≤ 126
        · rw [decide_eq_true h2] at q ⊢
          refine iteT ⟨_, rfl, rfl, ?_⟩
          rw [e3]
          exact q
        · rw [decide_eq_false h2] at q ⊢
          exact iteF q
      · rw [decide_eq_false h1] at q ⊢
        exact iteF ⟨_, rfl, iteF q⟩
/-- a text, or not -/
def TextQ (K : PySem.W.Frag) (H : Hp) (x : V) (b : Bool) : Prop := (∃ z : Str, x = .str z ∧ z.length ≤ 1000 ∧ b = textT z) ∨ (NoTxt K H x ∧ b = false)
theorem TextQ.keep {H H' : Hp} {x : V} {b : Bool} (h : TextQ K H x b) (s : Same H H') : TextQ K H' x b := h.imp id fun ⟨a, e⟩ => ⟨a.keep s, e⟩
def spIsText (K : PySem.W.Frag) : Sp := fun vs H Q _ => ∃ (x : V) (b : Bool), vs = [x] ∧ TextQ K H x b ∧ ∀ H', Same H H' → Q (.bl b) H'
theorem ok_is_text (T : Tex K mg D) : FnOk P w K mg base CX0 2 D.a_is_text D.d_is_text P_is_text (spIsText K) := by
  have G_is_text_sign : FnOk P w K mg base CX0 1 D.a_is_text_sign D.d_is_text_sign P_is_text_sign spTxSign := ok_is_text_sign T
  refine T.is_text_F.ok S_is_text (fun vs H Q E h => ?_) (fun cdv A outer s H vs Q E hr h => ?_)
  · obtain ⟨x, b, rfl, _⟩ := h
    rfl
  · obtain ⟨x, b, rfl, hx, q⟩ := h
    refine ⟨_, (pss_one (ps_ret (pe_and (pe_callB call_isi (by rfl) T.b_isinstance (by decide +kernel) (pa_cons (pv 0) (pa_cons (pe_bltn (v := .ty "str") (u := .type "str") (by rfl) T.b_str (by decide +kernel) rfl) pa_nil))) (pe_one (pe_callB (cr_all rfl) (by rfl) T.b_all (by decide +kernel) (pa_cons (pe_lc (own := [(("sign" : Str), 1)]) (g := gName 1) (tt := tYes) rfl S_is_text.nd (pi_str (pv 0)) (blkOk_by (N := N_is_text) (sc := defScope s_is_text) (by decide +kernel)) (fun _ _ _ _ _ => pg_name (i := 1) S_is_text.nd rfl (Or.inl rfl)) (fun _ _ _ _ _ => pts_nil) (fun _ _ _ _ _ => (pe_call G_is_text_sign (hr.mono (by decide)) (by rfl) T.is_text_sign_g T.is_text_sign_F.kp T.is_text_sign_b .nil pass0 (pa_cons (pv 1) pa_nil)))) pa_nil)))))), ?_⟩
    rcases hx with ⟨z, rfl, hl, rfl⟩ | ⟨⟨ty, hty, hk⟩, rfl⟩
    · refine ⟨_, rfl, .str z, .ty "str", .type "str", .type "str", true, rfl, .ty _, .base (.str z), kit_ty (by decide +kernel), true, rfl, iteT ?_⟩
      refine ⟨_, rfl, z, rfl, fun D' hD => lc_txt (fun _ => true) (fun c => .bl (isTx c)) hD (szt hl) (fun c hc H2 R S s2 h1 h2 => ?_) (fun H2 s2 h2 => ?_)⟩
      · exact ⟨rfl, ⟨_, rfl, c, rfl, h1 rfl _ (Same.refl _)⟩⟩
      · refine ⟨D', z.cps.toList.map isTx, rfl, SqL.of (by rw [h2, filt1, List.map_map]; rfl), ?_⟩
        rw [List.all_map]
        exact q _ s2
    · exact ⟨_, rfl, x, .ty "str", _, .type "str", false, rfl, .ty _, hty, hk, false, rfl, iteF (q H (Same.refl H))⟩
/-- a path, or not -/
def PathQ (K : PySem.W.Frag) (H : Hp) (x : V) (b : Bool) : Prop := (∃ p : Str, x = .str p ∧ p.length ≤ 100000 ∧ b = pathT p) ∨ (NoTxt K H x ∧ b = false)
theorem PathQ.keep {H H' : Hp} {x : V} {b : Bool} (h : PathQ K H x b) (s : Same H H') : PathQ K H' x b := h.imp id fun ⟨a, e⟩ => ⟨a.keep s, e⟩
theorem path_len {p : Str} (h : pathT p = true) : p.length ≤ 80 := by
  unfold pathT goodT at h
  simp only [Bool.and_eq_true, decide_eq_true_eq] at h
  omega
/-! ### what a disk is asked -/
def CntBad (K : PySem.W.Frag) (H : Hp) (x : V) : Prop := (∃ i : Int, x = .int i ∧ i < 0) ∨ Plain K H x
theorem oN_eq0 (o : Option Nat) : decide (oN o = V.int 0) = decide (o = some 0) := decide_eq_decide.mpr (by
  cases o with
  | none => simp [oN]
  | some n => simp [oN])
theorem oN_scal (o : Option Nat) : scal (oN o) (.int 0) = true := by
  cases o <;> rfl
def spUsed (C : Addr) : Sp := fun vs H Q _ => ∃ (a t : Addr) (S : DS), vs = [.ref a] ∧ Dk C H a t S ∧ Q (.int (usedOf S.kvs : Nat)) H
theorem ok_Disk_used (T : Tex K mg D) : FnOk P w K mg base CX0 1 D.a_Disk_used D.d_Disk_used P_Disk_used (spUsed D.a_Disk) := by
  refine T.Disk_used_F.ok S_Disk_used (fun vs H Q E h => ?_) (fun cdv A outer s H vs Q E hr h => ?_)
  · obtain ⟨a, t, S, rfl, _⟩ := h
    rfl
  · obtain ⟨a, t, S, rfl, ⟨⟨dx, ha⟩, _⟩, q⟩ := h
    exact ⟨_, (pss_one (ps_ret (pe_fld (pv 0) rfl))), _, rfl, a, _, dx, _, _, rfl, ha, T.Disk_cl, T.Disk_n_used, gu _ _ _ _ _, q⟩
def spActs (C : Addr) : Sp := fun vs H Q _ => ∃ (a t : Addr) (S : DS), vs = [.ref a] ∧ Dk C H a t S ∧ Q (.int (S.acts : Nat)) H
theorem ok_Disk_acts (T : Tex K mg D) : FnOk P w K mg base CX0 1 D.a_Disk_acts D.d_Disk_acts P_Disk_acts (spActs D.a_Disk) := by
  refine T.Disk_acts_F.ok S_Disk_acts (fun vs H Q E h => ?_) (fun cdv A outer s H vs Q E hr h => ?_)
  · obtain ⟨a, t, S, rfl, _⟩ := h
    rfl
  · obtain ⟨a, t, S, rfl, ⟨⟨dx, ha⟩, _⟩, q⟩ := h
    exact ⟨_, (pss_one (ps_ret (pe_fld (pv 0) rfl))), _, rfl, a, _, dx, _, _, rfl, ha, T.Disk_cl, T.Disk_n_acts, ga _ _ _ _ _, q⟩
/-- a path with a text, or not -/
def HasQ (K : PySem.W.Frag) (H : Hp) (x : V) (S : DS) (b : Bool) : Prop := (∃ p : Str, x = .str p ∧ b = (lkS S.kvs p).isSome) ∨ (NoTxt K H x ∧ b = false)
theorem HasQ.keep {H H' : Hp} {x : V} {S : DS} {b : Bool} (h : HasQ K H x S b) (s : Same H H') : HasQ K H' x S b := h.imp id fun ⟨a, e⟩ => ⟨a.keep s, e⟩
def spHas (K : PySem.W.Frag) (C : Addr) : Sp := fun vs H Q _ => ∃ (a t : Addr) (S : DS) (x : V) (b : Bool), vs = [.ref a, x] ∧ Dk C H a t S ∧ HasQ K H x S b ∧ Q (.bl b) H
theorem ok_Disk_contains (T : Tex K mg D) : FnOk P w K mg base CX0 1 D.a_Disk_contains D.d_Disk_contains P_Disk_contains (spHas K D.a_Disk) := by
  refine T.Disk_contains_F.ok S_Disk_contains (fun vs H Q E h => ?_) (fun cdv A outer s H vs Q E hr h => ?_)
  · obtain ⟨a, t, S, x, b, rfl, _⟩ := h
    rfl
  · obtain ⟨a, t, S, x, b, rfl, ⟨⟨dx, ha⟩, ht, hS⟩, hx, q⟩ := h
    have hu := hu_of hr
    refine ⟨_, (pss_one (ps_ret (pe_and (pe_callB call_isi (by rfl) T.b_isinstance (by decide +kernel) (pa_cons (pv 1) (pa_cons (pe_bltn (v := .ty "str") (u := .type "str") (by rfl) T.b_str (by decide +kernel) rfl) pa_nil))) (pe_one (pe_cmp (pc_din hu (pv 1) (pe_fld (pv 0) rfl))))))), ?_⟩
    rcases hx with ⟨p, rfl, rfl⟩ | ⟨⟨ty, hty, hk⟩, rfl⟩
    · refine ⟨_, rfl, .str p, .ty "str", .type "str", .type "str", true, rfl, .ty _, .base (.str p), kit_ty (by decide +kernel), true, rfl, iteT ?_⟩
      refine ⟨_, rfl, _, rfl, a, _, dx, _, _, rfl, ha, T.Disk_cl, T.Disk_n_texts, gt' _ _ _ _ _, t, _, rfl, DGet.k (k := .inr p) ht, ?_⟩
      rw [valV_kv, Option.isSome_map]
      exact q
    · exact ⟨_, rfl, x, .ty "str", _, .type "str", false, rfl, .ty _, hty, hk, false, rfl, iteF q⟩
def spLenD (C : Addr) : Sp := fun vs H Q _ => ∃ (a t : Addr) (S : DS), vs = [.ref a] ∧ Dk C H a t S ∧ Q (.int (S.kvs.length : Nat)) H
theorem ok_Disk_len (T : Tex K mg D) : FnOk P w K mg base CX0 1 D.a_Disk_len D.d_Disk_len P_Disk_len (spLenD D.a_Disk) := by
  refine T.Disk_len_F.ok S_Disk_len (fun vs H Q E h => ?_) (fun cdv A outer s H vs Q E hr h => ?_)
  · obtain ⟨a, t, S, rfl, _⟩ := h
    rfl
  · obtain ⟨a, t, S, rfl, ⟨⟨dx, ha⟩, ht, hS⟩, q⟩ := h
    refine ⟨_, (pss_one (ps_ret (pe_callB call_lenD (by rfl) T.b_len (by decide +kernel) (pa_cons (pe_fld (pv 0) rfl) pa_nil)))), ?_⟩
    refine ⟨_, rfl, a, _, dx, _, _, rfl, ha, T.Disk_cl, T.Disk_n_texts, gt' _ _ _ _ _, t, _, rfl, ht, ?_⟩
    have e : (kvV S.kvs).length = S.kvs.length := List.length_map _
    rw [e]
    exact q
/-! ### acts -/
def spPow (C B : Addr) : Sp := fun vs H Q E => ∃ (a t : Addr) (S : DS), vs = [.ref a] ∧ Dk C H a t S ∧ ((S.power = some 0 ∧ ErrE E B "done" (.int (S.acts : Nat)) H) ∨ (S.power ≠ some 0 ∧ Q .non H))
theorem ok_Disk_check_power (T : Tex K mg D) : FnOk P w K mg base (L2.CX P w) 3 D.a_Disk_check_power D.d_Disk_check_power P_Disk_check_power (spPow D.a_Disk D.a_PowerCut) := by
  have G_PowerCut_init : FnOk P w K mg base CX0 1 D.a_PowerCut_init D.d_PowerCut_init P_PowerCut_init (spErr D.a_PowerCut "done") := ok_PowerCut_init T
  refine T.Disk_check_power_F.okX S_Disk_check_power (fun vs H Q E h => ?_) (fun cdv A outer s H vs Q E hr h => ?_)
  · obtain ⟨a, t, S, rfl, _⟩ := h
    rfl
  · obtain ⟨a, t, S, rfl, ⟨⟨dx, ha⟩, ht, hS⟩, q⟩ := h
    refine ⟨_, (pss_one (ps_if (pt_cmpR op_eq (pe_fld (pv 0) rfl) pe_int (nomark _)) (pss_one (ps_raise rfl (takes_of rfl rfl rfl rfl) (pmk_oexG T.PowerCut_xa.o T.PowerCut_xi T.PowerCut_xt G_PowerCut_init (hr.mono (by decide)) T.PowerCut_init_b .nil pass0 rfl T.PowerCut_g (pa_cons (pe_fld (pv 0) rfl) pa_nil)))) pss_nil)), ?_⟩
    refine ⟨_, rfl, a, _, dx, _, _, rfl, ha, T.Disk_cl, T.Disk_n_power, gp _ _ _ _ _, oN_scal _, _, rfl, ?_⟩
    rw [oN_eq0]
    rcases q with ⟨h0, q⟩ | ⟨h0, q⟩
    · rw [decide_eq_true h0]
      refine iteT ⟨_, rfl, a, _, dx, _, _, rfl, ha, T.Disk_cl, T.Disk_n_acts, ga _ _ _ _ _, raiseG q⟩
    · rw [decide_eq_false h0]
      exact iteF q
def spAct (C : Addr) : Sp := fun vs H Q _ => ∃ (a t : Addr) (S : DS), vs = [.ref a] ∧ Dk C H a t S ∧ S.power ≠ some 0 ∧
  ∀ H', (∃ dx, H' a = some (.ins C dx (dF t { S with acts := S.acts + 1, power := down S.power }))) → (∀ b, b ≠ a → H' b = H b) → Q .non H'
theorem ok_Disk_act (T : Tex K mg D) : FnOk P w K mg base CX0 1 D.a_Disk_act D.d_Disk_act P_Disk_act (spAct D.a_Disk) := by
  refine T.Disk_act_F.ok S_Disk_act (fun vs H Q E h => ?_) (fun cdv A outer s H vs Q E hr h => ?_)
  · obtain ⟨a, t, S, rfl, _⟩ := h
    rfl
  · obtain ⟨a, t, S, rfl, ⟨⟨dx, ha⟩, ht, hS⟩, h0, q⟩ := h
    refine ⟨_, (pss_cons (ps_fldaug (pv 0) pe_int in_add)
      (pss_one (ps_if (pt_cmpR op_notN (pe_fld (pv 0) rfl) pe_non (nomark _)) (pss_one (ps_fld (pv 0) (pe_op op_sub (pe_fld (pv 0) rfl) pe_int) rfl)) pss_nil))), ?_⟩
    refine ⟨_, rfl, a, _, dx, _, _, rfl, ha, T.Disk_cl, T.Disk_n_acts, ga _ _ _ _ _, _, _, rfl, rfl, dx, _, ha, by show 5 < 1000; decide, ?_⟩
    have e5 : putF ("_acts" : Str) (V.int (((S.acts : Nat) : Int) + 1)) (dF t S) = d5 (oN S.room) (.ref t) (.int (usedOf S.kvs : Nat)) (.int ((S.acts + 1 : Nat) : Int)) (oN S.power) := da _ _ _ _ _ _
    rw [e5]
    refine ⟨_, rfl, a, _, dx, _, _, rfl, upd_same, T.Disk_cl, T.Disk_n_power, gp _ _ _ _ _, rfl, _, rfl, ?_⟩
    cases hp : S.power with
    | none =>
      refine iteF ?_
      exact q _ ⟨dx, by rw [upd_same]; simp only [dF, hp]; rfl⟩ fun b hb => by rw [upd_ne hb]
    | some n =>
      have hn : n ≠ 0 := fun z => h0 (by rw [hp, z])
      refine iteT ?_
      refine ⟨_, rfl, a, _, dx, _, _, rfl, upd_same, T.Disk_cl, T.Disk_n_power, gp _ _ _ _ _, _, _, rfl, rfl, _, rfl, a, _, dx, _, rfl, upd_same, T.Disk_cl, T.Disk_n_power, by show 5 < 1000; decide, ?_⟩
      rw [dq, upd_upd]
      refine q _ ⟨dx, ?_⟩ fun b hb => by rw [upd_ne hb]
      rw [upd_same]
      have e : ((n : Nat) : Int) - 1 = ((n - 1 : Nat) : Int) := by omega
      show some (HO.ins _ dx (d5 _ _ _ _ (V.int (((n : Nat) : Int) - 1)))) = _
      rw [e]
      simp only [dF, hp]
      rfl
end

/-! ## Disks: made, written, removed, read, cut -/
section
variable {P : Program} {w : World} {K : PySem.W.Frag} {mg : Str → Option Value} {base : Heap} {D : Ad}
open TL SX
theorem Plain.ne {H : Hp} {x : V} (h : CntBad K H x) : ∃ b : Bool, ((∃ i, x = .int i ∧ b = decide (0 ≤ i)) ∨ (Plain K H x ∧ b = false)) ∧ b = false := by
  rcases h with ⟨i, rfl, hi⟩ | h
  · exact ⟨false, .inl ⟨i, rfl, (decide_eq_false (by omega)).symm⟩, rfl⟩
  · exact ⟨false, .inr ⟨h, rfl⟩, rfl⟩
def spDInit (K : PySem.W.Frag) (C B : Addr) : Sp := fun vs H Q E => ∃ (x dx : Addr) (r : V), vs = [.ref x, r] ∧ H x = some (.ins C dx []) ∧
  ((∃ o : Option Nat, r = oN o ∧ ∀ t H', H t = none → (∀ b u, H b = some u → b ≠ x → H' b = some u) → Dk C H' x t ⟨[], o, 0, none⟩ → Q .non H') ∨ (r ≠ .non ∧ CntBad K H r ∧ ErrE E B "given" r H))
theorem ok_Disk_init (T : Tex K mg D) : FnOk P w K mg base (L2.CX P w) 4 D.a_Disk_init D.d_Disk_init P_Disk_init (spDInit K D.a_Disk D.a_BadCount) := by
  have G_is_count : FnOk P w K mg base CX0 2 D.a_is_count D.d_is_count P_is_count (spCntA K) := ok_is_count T
  have G_BadCount_init : FnOk P w K mg base CX0 1 D.a_BadCount_init D.d_BadCount_init P_BadCount_init (spErr D.a_BadCount "given") := ok_BadCount_init T
  refine T.Disk_init_F.ok S_Disk_init (fun vs H Q E h => ?_) (fun cdv A outer s H vs Q E hr h => ?_)
  · obtain ⟨x, dx, r, rfl, _⟩ := h
    rfl
  · obtain ⟨x, dx, r, rfl, hx, h⟩ := h
    refine ⟨_, (pss_cons (ps_if (PW.pt (pw_and (pt_cmpR op_notN (pv 1) pe_non (nomark _)) (pw_and1 (pt_not (pt_val (pe_call G_is_count (hr.mono (by decide)) (by rfl) T.is_count_g T.is_count_F.kp T.is_count_b .nil pass0 (pa_cons (pv 1) pa_nil))))))) (pss_one (ps_raise rfl (takes_of rfl rfl rfl rfl) (pmk_oexG T.BadCount_xa.o T.BadCount_xi T.BadCount_xt G_BadCount_init (hr.mono (by decide)) T.BadCount_init_b .nil pass0 rfl T.BadCount_g (pa_cons (pv 1) pa_nil)))) pss_nil)
      (pss_cons (ps_fld (pv 0) (pv 1) rfl)
      (pss_cons (ps_fld (pv 0) pe_dnewK rfl)
      (pss_cons (ps_fld (pv 0) pe_int rfl)
      (pss_cons (ps_fld (pv 0) pe_int rfl)
      (pss_one (ps_fld (pv 0) pe_non rfl))))))), ?_⟩
    rcases h with ⟨o, rfl, q⟩ | ⟨hne, hb, q⟩
    · refine ⟨_, rfl, rfl, _, rfl, ?_⟩
      refine ite2 (fun hn => ?_) (fun hn => ?_)
      · obtain ⟨n, hv⟩ : ∃ n : Nat, oN o = .int (n : Int) := by
          cases o with
          | none => exact absurd hn (by decide)
          | some n => exact ⟨n, rfl⟩
        refine ⟨_, rfl, _, true, rfl, .inl ⟨(n : Int), hv, (decide_eq_true (Int.natCast_nonneg n)).symm⟩, _, rfl, iteF ?_⟩
        refine ⟨_, rfl, _, rfl, x, _, dx, [], rfl, hx, T.Disk_cl, T.Disk_n_room, by decide, ?_⟩
        rw [dp1]
        refine fun p hp => ?_
        have hx2 : (upd (upd H x (.ins D.a_Disk dx (d1 (oN o)))) p (.dK [])) x = some (.ins D.a_Disk dx (d1 (oN o))) := by rw [upd_ne (ne_of_none upd_same hp), upd_same]
        refine ⟨_, rfl, x, _, dx, _, rfl, hx2, T.Disk_cl, T.Disk_n_texts, by show 1 < 1000; decide, ?_⟩
        rw [dp2]
        have px : p ≠ x := (ne_of_none upd_same hp).symm
        refine ⟨_, rfl, x, _, dx, _, rfl, upd_same, T.Disk_cl, T.Disk_n_used, by show 2 < 1000; decide, ?_⟩
        rw [dp3]
        refine ⟨_, rfl, x, _, dx, _, rfl, upd_same, T.Disk_cl, T.Disk_n_acts, by show 3 < 1000; decide, ?_⟩
        rw [dp4]
        refine ⟨_, rfl, x, _, dx, _, rfl, upd_same, T.Disk_cl, T.Disk_n_power, by show 4 < 1000; decide, ?_⟩
        rw [dp5, upd_upd, upd_upd, upd_upd]
        rw [upd_ne px] at hp
        refine q p _ hp (fun b u e n => ?_) ⟨⟨dx, by rw [upd_same]; rfl⟩, ?_, ⟨List.nodup_nil, Nat.zero_le _, fun q hq => nomatch hq⟩⟩
        · rw [upd_ne n, upd_ne (ne_of_none e hp), upd_ne n]
          exact e
        · rw [upd_ne px, upd_same]
          rfl
      ·
        refine ⟨_, rfl, _, rfl, x, _, dx, [], rfl, hx, T.Disk_cl, T.Disk_n_room, by decide, ?_⟩
        rw [dp1]
        refine fun p hp => ?_
        have hx2 : (upd (upd H x (.ins D.a_Disk dx (d1 (oN o)))) p (.dK [])) x = some (.ins D.a_Disk dx (d1 (oN o))) := by rw [upd_ne (ne_of_none upd_same hp), upd_same]
        refine ⟨_, rfl, x, _, dx, _, rfl, hx2, T.Disk_cl, T.Disk_n_texts, by show 1 < 1000; decide, ?_⟩
        rw [dp2]
        have px : p ≠ x := (ne_of_none upd_same hp).symm
        refine ⟨_, rfl, x, _, dx, _, rfl, upd_same, T.Disk_cl, T.Disk_n_used, by show 2 < 1000; decide, ?_⟩
        rw [dp3]
        refine ⟨_, rfl, x, _, dx, _, rfl, upd_same, T.Disk_cl, T.Disk_n_acts, by show 3 < 1000; decide, ?_⟩
        rw [dp4]
        refine ⟨_, rfl, x, _, dx, _, rfl, upd_same, T.Disk_cl, T.Disk_n_power, by show 4 < 1000; decide, ?_⟩
        rw [dp5, upd_upd, upd_upd, upd_upd]
        rw [upd_ne px] at hp
        refine q p _ hp (fun b u e n => ?_) ⟨⟨dx, by rw [upd_same]; rfl⟩, ?_, ⟨List.nodup_nil, Nat.zero_le _, fun q hq => nomatch hq⟩⟩
        · rw [upd_ne n, upd_ne (ne_of_none e hp), upd_ne n]
          exact e
        · rw [upd_ne px, upd_same]
          rfl
    · obtain ⟨b, hq, rfl⟩ := Plain.ne hb
      refine ⟨_, rfl, rfl, _, rfl, ?_⟩
      rw [decide_eq_false hne]
      refine iteT ⟨_, rfl, r, false, rfl, hq, _, rfl, iteT ?_⟩
      exact ⟨_, rfl, raiseG q⟩
/-! ### cut_after -/
def spCut (K : PySem.W.Frag) (C B : Addr) : Sp := fun vs H Q E => ∃ (a t : Addr) (S : DS) (x : V), vs = [.ref a, x] ∧ Dk C H a t S ∧
  ((∃ n : Nat, x = .int (n : Int) ∧ ∀ H', But2 a t H H' → Dk C H' a t { S with power := some n } → Q .non H') ∨ (CntBad K H x ∧ ErrE E B "given" x H))
theorem Dk.ne {C a t : Addr} {H : Hp} {S : DS} (h : Dk C H a t S) : a ≠ t := by
  obtain ⟨⟨dx, ha⟩, ht, _⟩ := h
  exact ne_of ha ht (by intro z; cases z)
theorem ok_Disk_cut_after (T : Tex K mg D) : FnOk P w K mg base (L2.CX P w) 4 D.a_Disk_cut_after D.d_Disk_cut_after P_Disk_cut_after (spCut K D.a_Disk D.a_BadCount) := by
  have G_is_count : FnOk P w K mg base CX0 2 D.a_is_count D.d_is_count P_is_count (spCntA K) := ok_is_count T
  have G_BadCount_init : FnOk P w K mg base CX0 1 D.a_BadCount_init D.d_BadCount_init P_BadCount_init (spErr D.a_BadCount "given") := ok_BadCount_init T
  refine T.Disk_cut_after_F.okX S_Disk_cut_after (fun vs H Q E h => ?_) (fun cdv A outer s H vs Q E hr h => ?_)
  · obtain ⟨a, t, S, x, rfl, _⟩ := h
    rfl
  · obtain ⟨a, t, S, x, rfl, hd, h⟩ := h
    have nat := hd.ne
    obtain ⟨⟨dx, ha⟩, ht, hS⟩ := hd
    refine ⟨_, (pss_cons (ps_if (pt_not (pt_val (pe_call G_is_count (hr.mono (by decide)) (by rfl) T.is_count_g T.is_count_F.kp T.is_count_b .nil pass0 (pa_cons (pv 1) pa_nil)))) (pss_one (ps_raise rfl (takes_of rfl rfl rfl rfl) (pmk_oexG T.BadCount_xa.o T.BadCount_xi T.BadCount_xt G_BadCount_init (hr.mono (by decide)) T.BadCount_init_b .nil pass0 rfl T.BadCount_g (pa_cons (pv 1) pa_nil)))) pss_nil)
      (pss_one (ps_fld (pv 0) (pv 1) rfl))), ?_⟩
    rcases h with ⟨n, rfl, q⟩ | ⟨hb, q⟩
    · refine ⟨_, rfl, _, true, rfl, .inl ⟨(n : Int), rfl, (decide_eq_true (Int.natCast_nonneg n)).symm⟩, _, rfl, iteF ?_⟩
      refine ⟨_, rfl, _, rfl, a, _, dx, _, rfl, ha, T.Disk_cl, T.Disk_n_power, by show 5 < 1000; decide, ?_⟩
      have e : putF ("_power" : Str) (V.int (n : Int)) (dF t S) = dF t { S with power := some n } := dq _ _ _ _ _ _
      rw [e]
      exact q _ But2.at ⟨⟨dx, upd_same⟩, by rw [upd_ne nat.symm]; exact ht, ⟨hS.nd, hS.few, hS.short⟩⟩
    · obtain ⟨b, hq, rfl⟩ := Plain.ne hb
      exact ⟨_, rfl, x, false, rfl, hq, _, rfl, iteT ⟨_, rfl, raiseG q⟩⟩
/-! ### text_at -/
/-- no path that has a text -/
def Lacks (K : PySem.W.Frag) (H : Hp) (x : V) (S : DS) : Prop := (∃ p : Str, x = .str p ∧ lkS S.kvs p = none) ∨ NoTxt K H x
theorem Lacks.q {H : Hp} {x : V} {S : DS} (h : Lacks K H x S) : HasQ K H x S false := by
  rcases h with ⟨p, rfl, e⟩ | h
  · exact .inl ⟨p, rfl, by rw [e]; rfl⟩
  · exact .inr ⟨h, rfl⟩
def spTextAt (K : PySem.W.Frag) (C B : Addr) : Sp := fun vs H Q E => ∃ (a t : Addr) (S : DS) (x : V), vs = [.ref a, x] ∧ Dk C H a t S ∧
  ((∃ p z : Str, x = .str p ∧ lkS S.kvs p = some z ∧ Q (.str z) H) ∨ (Lacks K H x S ∧ ErrE E B "given" x H))
theorem ok_Disk_text_at (T : Tex K mg D) : FnOk P w K mg base (L2.CX P w) 4 D.a_Disk_text_at D.d_Disk_text_at P_Disk_text_at (spTextAt K D.a_Disk D.a_NoPath) := by
  have G_Disk_contains : FnOk P w K mg base CX0 1 D.a_Disk_contains D.d_Disk_contains P_Disk_contains (spHas K D.a_Disk) := ok_Disk_contains T
  have G_NoPath_init : FnOk P w K mg base CX0 1 D.a_NoPath_init D.d_NoPath_init P_NoPath_init (spErr D.a_NoPath "given") := ok_NoPath_init T
  refine T.Disk_text_at_F.okX S_Disk_text_at (fun vs H Q E h => ?_) (fun cdv A outer s H vs Q E hr h => ?_)
  · obtain ⟨a, t, S, x, rfl, _⟩ := h
    rfl
  · obtain ⟨a, t, S, x, rfl, hd, h⟩ := h
    have hd0 := hd
    obtain ⟨⟨dx, ha⟩, ht, hS⟩ := hd
    have hu := hu_of hr
    refine ⟨_, (pss_cons (ps_if (pt_cmpR (op_notInO T.Disk_contains_at T.Disk_contains_fn (G_Disk_contains.raw T.Disk_contains_b .nil) (hr.mono (by decide)) pass0) (pv 1) (pv 0) rfl) (pss_one (ps_raise rfl (takes_of rfl rfl rfl rfl) (pmk_oexG T.NoPath_xa.o T.NoPath_xi T.NoPath_xt G_NoPath_init (hr.mono (by decide)) T.NoPath_init_b .nil pass0 rfl T.NoPath_g (pa_cons (pv 1) pa_nil)))) pss_nil)
      (pss_one (ps_ret (pe_dget hu (pe_fld (pv 0) rfl) (pv 1) (fun _ _ => rfl))))), ?_⟩
    rcases h with ⟨p, z, rfl, hp, q⟩ | ⟨hb, q⟩
    · refine ⟨_, rfl, _, rfl, a, dx, _, rfl, ha, a, t, S, _, true, rfl, hd0, .inl ⟨p, rfl, by rw [hp]; rfl⟩, _, rfl, _, rfl, iteF ?_⟩
      refine ⟨_, rfl, a, _, dx, _, _, rfl, ha, T.Disk_cl, T.Disk_n_texts, gt' _ _ _ _ _, _, rfl, t, _, rfl, ?_, q⟩
      have g := DGet.k (k := .inr p) ht
      rw [valV_kv, hp] at g
      exact g
    · exact ⟨_, rfl, _, rfl, a, dx, _, rfl, ha, a, t, S, _, false, rfl, hd0, hb.q, _, rfl, _, rfl, iteT ⟨_, rfl, raiseG q⟩⟩
/-! ### remove -/
def spRemove (K : PySem.W.Frag) (C B B2 : Addr) : Sp := fun vs H Q E => ∃ (a t : Addr) (S : DS) (x : V), vs = [.ref a, x] ∧ Dk C H a t S ∧
  ((Lacks K H x S ∧ ErrE E B "given" x H) ∨ ∃ p z : Str, x = .str p ∧ lkS S.kvs p = some z ∧
    ((S.power = some 0 ∧ ErrE E B2 "done" (.int (S.acts : Nat)) H) ∨ (S.power ≠ some 0 ∧ ∀ H', But2 a t H H' → Dk C H' a t (S.drop p) → Q .non H')))
theorem ok_Disk_remove (T : Tex K mg D) : FnOk P w K mg base (L2.CX P w) 6 D.a_Disk_remove D.d_Disk_remove P_Disk_remove (spRemove K D.a_Disk D.a_NoPath D.a_PowerCut) := by
  have G_Disk_text_at : FnOk P w K mg base (L2.CX P w) 4 D.a_Disk_text_at D.d_Disk_text_at P_Disk_text_at (spTextAt K D.a_Disk D.a_NoPath) := ok_Disk_text_at T
  have G_Disk_check_power : FnOk P w K mg base (L2.CX P w) 3 D.a_Disk_check_power D.d_Disk_check_power P_Disk_check_power (spPow D.a_Disk D.a_PowerCut) := ok_Disk_check_power T
  have G_Disk_act : FnOk P w K mg base CX0 1 D.a_Disk_act D.d_Disk_act P_Disk_act (spAct D.a_Disk) := ok_Disk_act T
  refine T.Disk_remove_F.okX S_Disk_remove (fun vs H Q E h => ?_) (fun cdv A outer s H vs Q E hr h => ?_)
  · obtain ⟨a, t, S, x, rfl, _⟩ := h
    rfl
  · obtain ⟨a, t, S, x, rfl, hd, h⟩ := h
    have hd0 := hd
    have nat := hd.ne
    obtain ⟨⟨dx, ha⟩, ht, hS⟩ := hd
    refine ⟨_, (pss_cons (ps_set (i := 2) S_Disk_remove.nd rfl (Or.inl rfl) (pe_meth (pv 0) T.Disk_cl ⟨T.Disk_text_at_at, T.Disk_text_at_fn, T.Disk_text_at_F.kp⟩ G_Disk_text_at (hr.mono (by decide)) T.Disk_text_at_b .nil passD (pa_cons (pv 1) pa_nil)))
      (pss_cons (ps_expr (pe_meth0 (pv 0) T.Disk_cl ⟨T.Disk_check_power_at, T.Disk_check_power_fn, T.Disk_check_power_F.kp⟩ G_Disk_check_power (hr.mono (by decide)) T.Disk_check_power_b .nil passD))
      (pss_cons (ps_expr (pe_meth0 (pv 0) T.Disk_cl ⟨T.Disk_act_at, T.Disk_act_fn, T.Disk_act_F.kp⟩ G_Disk_act (hr.mono (by decide)) T.Disk_act_b .nil pass0))
      (pss_cons (ps_ddel (pe_fld (pv 0) rfl) (pv 1))
      (pss_one (ps_fld (pv 0) (pe_op op_sub (pe_fld (pv 0) rfl) (pe_callB call_len_str (by rfl) T.b_len (by decide +kernel) (pa_cons (pv 2) pa_nil))) rfl)))))), ?_⟩
    have nom : ∀ m, m = ("text_at" : Str) ∨ m = ("_check_power" : Str) ∨ m = ("_act" : Str) → (dF t S).lookup m = none := by
      rintro m (rfl | rfl | rfl)
      · exact d5_none (by decide +kernel) (by decide +kernel) (by decide +kernel) (by decide +kernel) (by decide +kernel) _ _ _ _ _
      · exact d5_none (by decide +kernel) (by decide +kernel) (by decide +kernel) (by decide +kernel) (by decide +kernel) _ _ _ _ _
      · exact d5_none (by decide +kernel) (by decide +kernel) (by decide +kernel) (by decide +kernel) (by decide +kernel) _ _ _ _ _
    rcases h with ⟨hb, q⟩ | ⟨p, z, rfl, hp, h⟩
    · exact ⟨_, rfl, a, dx, _, rfl, ha, nom _ (.inl rfl), _, rfl, a, t, S, _, rfl, hd0, .inr ⟨hb, q⟩⟩
    · refine ⟨_, rfl, a, dx, _, rfl, ha, nom _ (.inl rfl), _, rfl, a, t, S, _, rfl, hd0, .inl ⟨p, z, rfl, hp, ?_⟩⟩
      rcases h with ⟨h0, q⟩ | ⟨h0, q⟩
      · exact ⟨_, rfl, a, dx, _, rfl, ha, nom _ (.inr (.inl rfl)), a, t, S, rfl, hd0, .inl ⟨h0, q⟩⟩
      · refine ⟨_, rfl, a, dx, _, rfl, ha, nom _ (.inr (.inl rfl)), a, t, S, rfl, hd0, .inr ⟨h0, ?_⟩⟩
        refine ⟨_, rfl, a, dx, _, rfl, ha, nom _ (.inr (.inr rfl)), a, t, S, rfl, hd0, h0, fun H1 ⟨dy, ha1⟩ b1 => ?_⟩
        have ht1 : H1 t = some (.dK (kvV S.kvs)) := by
          rw [b1 t nat.symm]
          exact ht
        refine ⟨_, rfl, a, _, dy, _, _, rfl, ha1, T.Disk_cl, T.Disk_n_texts, gt' _ _ _ _ _, _, rfl, t, _, .inr p, rfl, ht1, rfl, ?_, ?_⟩
        · rw [valV_kv, hp]
          rfl
        rw [dropK_kv]
        have ha2 : (upd H1 t (.dK (kvV (dropS S.kvs p)))) a = some (.ins D.a_Disk dy (dF t { S with acts := S.acts + 1, power := down S.power })) := by rw [upd_ne nat]; exact ha1
        have zl : z.length ≤ 1000 := (hS.short _ (lk_mem hp)).1
        refine ⟨_, rfl, a, _, dy, _, _, rfl, ha2, T.Disk_cl, T.Disk_n_used, gu _ _ _ _ _, _, rfl, z, rfl, szL (by omega), _, _, rfl, rfl, _, rfl, a, _, dy, _, rfl, ha2, T.Disk_cl, T.Disk_n_used, by show 5 < 1000; decide, ?_⟩
        have eu : (((usedOf S.kvs : Nat) : Int) - (z.length : Int)) = ((usedOf (dropS S.kvs p) : Nat) : Int) := (used_drop hS.nd hp).symm
        have e : putF ("_used" : Str) (V.int (((usedOf S.kvs : Nat) : Int) - (z.length : Int))) (dF t { S with acts := S.acts + 1, power := down S.power }) = dF t (S.drop p) := by
          rw [eu]
          exact du _ _ _ _ _ _
        rw [e]
        refine q _ (fun b u eb nb nb2 => ?_) ⟨⟨dy, upd_same⟩, by rw [upd_ne nat.symm, upd_same]; rfl, hS.drop p⟩
        rw [upd_ne nb, upd_ne nb2, b1 b nb]
        exact eb
end

/-! ## Disks: written, walked -/
section
variable {P : Program} {w : World} {K : PySem.W.Frag} {mg : Str → Option Value} {base : Heap} {D : Ad}
open TL SX
def spWrite (K : PySem.W.Frag) (C B1 B2 B3 B4 : Addr) : Sp := fun vs H Q E => ∃ (a t : Addr) (S : DS) (x y : V), vs = [.ref a, x, y] ∧ Dk C H a t S ∧
  ((PathQ K H x false ∧ ErrE E B1 "given" x H) ∨ (PathQ K H x true ∧ TextQ K H y false ∧ ErrE E B2 "given" y H) ∨
   ∃ p z : Str, x = .str p ∧ y = .str z ∧ pathT p = true ∧ textT z = true ∧ z.length ≤ 1000 ∧ S.kvs.length < 1000 ∧
    ((S.power = some 0 ∧ ErrE E B3 "done" (.int (S.acts : Nat)) H) ∨
     (S.power ≠ some 0 ∧ (∃ r : Nat, S.room = some r ∧ (r : Int) < S.wanted p z) ∧ ErrE E B4 "wanted" (.int (S.wanted p z)) H) ∨
     (S.power ≠ some 0 ∧ (∀ r : Nat, S.room = some r → S.wanted p z ≤ (r : Int)) ∧ ∀ H', But2 a t H H' → Dk C H' a t (S.put p z) → Q .non H')))
theorem signs_len : SIGNS.length ≤ 100 := by decide +kernel
theorem oldV (l : List (Str × Str)) (p : Str) : (valV (kvV l) (.inr p : Key)).getD (.str ("" : String)) = .str (oldOf l p) := by
  rw [valV_kv]
  unfold oldOf
  cases lkS l p <;> rfl
theorem ok_Disk_write (T : Tex K mg D) : FnOk P w K mg base (L2.CX P w) 5 D.a_Disk_write D.d_Disk_write P_Disk_write (spWrite K D.a_Disk D.a_BadPath D.a_BadText D.a_PowerCut D.a_NoRoom) := by
  have G_is_string_of : FnOk P w K mg base CX0 2 D.a_is_string_of D.d_is_string_of P_is_string_of (spStrG K) := ok_is_string_ofG T
  have G_is_text : FnOk P w K mg base CX0 2 D.a_is_text D.d_is_text P_is_text (spIsText K) := ok_is_text T
  have G_Disk_check_power : FnOk P w K mg base (L2.CX P w) 3 D.a_Disk_check_power D.d_Disk_check_power P_Disk_check_power (spPow D.a_Disk D.a_PowerCut) := ok_Disk_check_power T
  have G_Disk_act : FnOk P w K mg base CX0 1 D.a_Disk_act D.d_Disk_act P_Disk_act (spAct D.a_Disk) := ok_Disk_act T
  have G_BadPath_init : FnOk P w K mg base CX0 1 D.a_BadPath_init D.d_BadPath_init P_BadPath_init (spErr D.a_BadPath "given") := ok_BadPath_init T
  have G_BadText_init : FnOk P w K mg base CX0 1 D.a_BadText_init D.d_BadText_init P_BadText_init (spErr D.a_BadText "given") := ok_BadText_init T
  have G_NoRoom_init : FnOk P w K mg base CX0 1 D.a_NoRoom_init D.d_NoRoom_init P_NoRoom_init (spErr D.a_NoRoom "wanted") := ok_NoRoom_init T
  refine T.Disk_write_F.okX S_Disk_write (fun vs H Q E h => ?_) (fun cdv A outer s H vs Q E hr h => ?_)
  · obtain ⟨a, t, S, x, y, rfl, _⟩ := h
    rfl
  · obtain ⟨a, t, S, x, y, rfl, hd, h⟩ := h
    have nat := hd.ne
    have hu := hu_of hr
    refine ⟨_, (pss_cons (ps_if (pt_not (pt_val (pe_call G_is_string_of (hr.mono (by decide)) (by rfl) T.is_string_of_g T.is_string_of_F.kp T.is_string_of_b .nil pass0 (pa_cons (pv 1) (pa_cons (pe_op op_add_str (pe_op op_add_str (pe_glob (v := .str "abcdefghijklmnopqrstuvwxyz") rfl T.c_LETTERS ⟨_, rfl⟩) (pe_glob (v := .str "0123456789") rfl T.c_DIGITS ⟨_, rfl⟩)) pe_str) (pa_cons (pe_glob (v := .int 80) rfl T.c_LONGEST_PATH ⟨_, rfl⟩) pa_nil)))))) (pss_one (ps_raise rfl (takes_of rfl rfl rfl rfl) (pmk_oexG T.BadPath_xa.o T.BadPath_xi T.BadPath_xt G_BadPath_init (hr.mono (by decide)) T.BadPath_init_b .nil pass0 rfl T.BadPath_g (pa_cons (pv 1) pa_nil)))) pss_nil)
      (pss_cons (ps_if (pt_not (pt_val (pe_call G_is_text (hr.mono (by decide)) (by rfl) T.is_text_g T.is_text_F.kp T.is_text_b .nil pass0 (pa_cons (pv 2) pa_nil)))) (pss_one (ps_raise rfl (takes_of rfl rfl rfl rfl) (pmk_oexG T.BadText_xa.o T.BadText_xi T.BadText_xt G_BadText_init (hr.mono (by decide)) T.BadText_init_b .nil pass0 rfl T.BadText_g (pa_cons (pv 2) pa_nil)))) pss_nil)
      (pss_cons (ps_expr (pe_meth0 (pv 0) T.Disk_cl ⟨T.Disk_check_power_at, T.Disk_check_power_fn, T.Disk_check_power_F.kp⟩ G_Disk_check_power (hr.mono (by decide)) T.Disk_check_power_b .nil passD))
      (pss_cons (ps_set (i := 3) S_Disk_write.nd rfl (Or.inl rfl) (pe_op op_sub (pe_op op_add (pe_fld (pv 0) rfl) (pe_callB call_len_str (by rfl) T.b_len (by decide +kernel) (pa_cons (pv 2) pa_nil))) (pe_callB call_len_str (by rfl) T.b_len (by decide +kernel) (pa_cons (pe_dget2 hu (pe_fld (pv 0) rfl) (pv 1) pe_str ⟨by rfl, by rfl, by rfl, by rfl⟩) pa_nil))))
      (pss_cons (ps_if (PW.pt (pw_and (pt_cmpR op_notN (pe_fld (pv 0) rfl) pe_non (nomark _)) (pw_and1 (pt_cmpR op_gt (pv 3) (pe_fld (pv 0) rfl) (nomark _))))) (pss_one (ps_raise rfl (takes_of rfl rfl rfl rfl) (pmk_oexG T.NoRoom_xa.o T.NoRoom_xi T.NoRoom_xt G_NoRoom_init (hr.mono (by decide)) T.NoRoom_init_b .nil pass0 rfl T.NoRoom_g (pa_cons (pv 3) pa_nil)))) pss_nil)
      (pss_cons (ps_expr (pe_meth0 (pv 0) T.Disk_cl ⟨T.Disk_act_at, T.Disk_act_fn, T.Disk_act_F.kp⟩ G_Disk_act (hr.mono (by decide)) T.Disk_act_b .nil pass0))
      (pss_cons (ps_dput hu (pe_fld (pv 0) rfl) (pv 1) (pv 2) rfl)
      (pss_one (ps_fld (pv 0) (pv 3) rfl))))))))), ?_⟩
    have nom : ∀ m, m = ("_check_power" : Str) ∨ m = ("_act" : Str) → (dF t S).lookup m = none := by
      rintro m (rfl | rfl)
      · exact d5_none (by decide +kernel) (by decide +kernel) (by decide +kernel) (by decide +kernel) (by decide +kernel) _ _ _ _ _
      · exact d5_none (by decide +kernel) (by decide +kernel) (by decide +kernel) (by decide +kernel) (by decide +kernel) _ _ _ _ _
    have pq : ∀ {b : Bool}, PathQ K H x b → (∃ t : Str, x = .str t ∧ t.length ≤ 100000 ∧ b = goodT t SIGNS 80) ∨ (NoTxt K H x ∧ b = false) := fun h => h
    have sz1 : (("abcdefghijklmnopqrstuvwxyz" : String) : Str).length + (("0123456789" : String) : Str).length ≤ sizeLine := by decide +kernel
    have sz2 : ((("abcdefghijklmnopqrstuvwxyz" : String) : Str) ++ (("0123456789" : String) : Str)).length + ((".-/" : String) : Str).length ≤ sizeLine := by decide +kernel
    rcases h with ⟨hp, q⟩ | ⟨hp, ht, q⟩ | ⟨p, z, rfl, rfl, hp, hz, hzl, hfew, h⟩
    · refine ⟨_, rfl, _, _, rfl, rfl, sz1, _, _, rfl, rfl, sz2, x, _, 80, false, rfl, by decide, pq hp, fun H1 s1 => ⟨_, rfl, iteT ?_⟩⟩
      exact ⟨_, rfl, raiseG (q.mono s1)⟩
    · refine ⟨_, rfl, _, _, rfl, rfl, sz1, _, _, rfl, rfl, sz2, x, _, 80, true, rfl, by decide, pq hp, fun H1 s1 => ⟨_, rfl, iteF ?_⟩⟩
      refine ⟨_, rfl, y, false, rfl, ht.keep s1, fun H2 s2 => ⟨_, rfl, iteT ?_⟩⟩
      exact ⟨_, rfl, raiseG (q.mono (s1.trans s2))⟩
    · have pl := path_len hp
      refine ⟨_, rfl, _, _, rfl, rfl, sz1, _, _, rfl, rfl, sz2, _, _, 80, true, rfl, by decide, .inl ⟨p, rfl, by omega, hp.symm⟩, fun H1 s1 => ⟨_, rfl, iteF ?_⟩⟩
      refine ⟨_, rfl, _, true, rfl, .inl ⟨z, rfl, hzl, hz.symm⟩, fun H2 s2 => ⟨_, rfl, iteF ?_⟩⟩
      have s12 := s1.trans s2
      have hd2 := hd.keep s12
      have hd2' := hd2
      obtain ⟨⟨dx, ha⟩, ht, hS⟩ := hd2
      rcases h with ⟨h0, q⟩ | ⟨h0, ⟨r, hr1, hr2⟩, q⟩ | ⟨h0, hroom, q⟩
      · exact ⟨_, rfl, a, dx, _, rfl, ha, nom _ (.inl rfl), a, t, S, rfl, hd2', .inl ⟨h0, q.mono s12⟩⟩
      · refine ⟨_, rfl, a, dx, _, rfl, ha, nom _ (.inl rfl), a, t, S, rfl, hd2', .inr ⟨h0, ?_⟩⟩
        refine ⟨_, rfl, a, _, dx, _, _, rfl, ha, T.Disk_cl, T.Disk_n_used, gu _ _ _ _ _, _, rfl, z, rfl, szL (by omega), _, _, rfl, rfl, ?_⟩
        refine ⟨_, rfl, a, _, dx, _, _, rfl, ha, T.Disk_cl, T.Disk_n_texts, gt' _ _ _ _ _, t, rfl, .inl ⟨_, .inl ht⟩, _, rfl, _, DGet.k (k := .inr p) ht, ?_⟩
        rw [oldV]
        refine ⟨_, rfl, szL (Nat.le_trans (hS.old p) (by decide)), _, _, rfl, rfl, ?_⟩
        refine ⟨_, rfl, a, _, dx, _, _, rfl, ha, T.Disk_cl, T.Disk_n_room, gr _ _ _ _ _, rfl, _, rfl, ?_⟩
        rw [hr1]
        refine iteT ⟨_, rfl, _, rfl, a, _, dx, _, _, rfl, ha, T.Disk_cl, T.Disk_n_room, gr _ _ _ _ _, ?_⟩
        rw [hr1]
        refine ⟨_, _, rfl, rfl, _, rfl, ?_⟩
        have e : decide ((r : Int) < ((usedOf S.kvs : Nat) : Int) + (z.length : Int) - ((oldOf S.kvs p).length : Int)) = true := decide_eq_true hr2
        rw [e]
        exact iteT ⟨_, rfl, raiseG (q.mono s12)⟩
      · refine ⟨_, rfl, a, dx, _, rfl, ha, nom _ (.inl rfl), a, t, S, rfl, hd2', .inr ⟨h0, ?_⟩⟩
        refine ⟨_, rfl, a, _, dx, _, _, rfl, ha, T.Disk_cl, T.Disk_n_used, gu _ _ _ _ _, _, rfl, z, rfl, szL (by omega), _, _, rfl, rfl, ?_⟩
        refine ⟨_, rfl, a, _, dx, _, _, rfl, ha, T.Disk_cl, T.Disk_n_texts, gt' _ _ _ _ _, t, rfl, .inl ⟨_, .inl ht⟩, _, rfl, _, DGet.k (k := .inr p) ht, ?_⟩
        rw [oldV]
        refine ⟨_, rfl, szL (Nat.le_trans (hS.old p) (by decide)), _, _, rfl, rfl, ?_⟩
        refine ⟨_, rfl, a, _, dx, _, _, rfl, ha, T.Disk_cl, T.Disk_n_room, gr _ _ _ _ _, rfl, _, rfl, ?_⟩
        have go : ∀ H3, H3 = H2 → (∀ H', But2 a t H2 H' → Dk D.a_Disk H' a t (S.put p z) → Q .non H') := fun H3 e H' b k => q H' ((But2.of s12).trans b) k
        have go := go H2 rfl
        cases hro : S.room with
        | none =>
          refine iteF ?_
          refine ⟨_, rfl, a, dx, _, rfl, ha, nom _ (.inr rfl), a, t, S, rfl, hd2', h0, fun H4 ⟨dy, ha4⟩ b4 => ?_⟩
          have ht4 : H4 t = some (.dK (kvV S.kvs)) := by
            rw [b4 t nat.symm]
            exact ht
          refine ⟨_, rfl, _, rfl, a, _, dy, _, _, rfl, ha4, T.Disk_cl, T.Disk_n_texts, gt' _ _ _ _ _, _, rfl, t, _, rfl, DPut.k (k := .inr p) ht4 (by rw [show (kvV S.kvs).length = S.kvs.length from List.length_map _]; exact szt (by omega)), ?_⟩
          rw [putK_kv p z _ hS.nd]
          have ha5 : (upd H4 t (.dK (kvV (putS S.kvs p z)))) a = some (.ins D.a_Disk dy (dF t { S with acts := S.acts + 1, power := down S.power })) := by rw [upd_ne nat]; exact ha4
          refine ⟨_, rfl, _, rfl, a, _, dy, _, rfl, ha5, T.Disk_cl, T.Disk_n_used, by show 5 < 1000; decide, ?_⟩
          have eu : ((usedOf S.kvs : Nat) : Int) + (z.length : Int) - ((oldOf S.kvs p).length : Int) = ((usedOf (putS S.kvs p z) : Nat) : Int) := (used_put p z S.kvs).symm
          have e : putF ("_used" : Str) (V.int (((usedOf S.kvs : Nat) : Int) + (z.length : Int) - ((oldOf S.kvs p).length : Int))) (dF t { S with acts := S.acts + 1, power := down S.power }) = dF t (S.put p z) := by
            rw [eu]
            exact du _ _ _ _ _ _
          show Q .non (upd _ a (.ins _ dy (putF ("_used" : Str) (V.int (((usedOf S.kvs : Nat) : Int) + (z.length : Int) - ((oldOf S.kvs p).length : Int))) _)))
          rw [e]
          refine go _ (fun b u eb nb nb2 => ?_) ⟨⟨dy, upd_same⟩, by rw [upd_ne nat.symm, upd_same]; rfl, hS.put (by omega) hzl pl⟩
          rw [upd_ne nb, upd_ne nb2, b4 b nb]
          exact eb
        | some r =>
          refine iteT ⟨_, rfl, _, rfl, a, _, dx, _, _, rfl, ha, T.Disk_cl, T.Disk_n_room, gr _ _ _ _ _, ?_⟩
          rw [hro]
          refine ⟨_, _, rfl, rfl, _, rfl, ?_⟩
          have hr2 := hroom r hro
          have e : decide ((r : Int) < ((usedOf S.kvs : Nat) : Int) + (z.length : Int) - ((oldOf S.kvs p).length : Int)) = false := decide_eq_false (by unfold DS.wanted at hr2; omega)
          rw [e]
          refine iteF ?_
          refine ⟨_, rfl, a, dx, _, rfl, ha, nom _ (.inr rfl), a, t, S, rfl, hd2', h0, fun H4 ⟨dy, ha4⟩ b4 => ?_⟩
          have ht4 : H4 t = some (.dK (kvV S.kvs)) := by
            rw [b4 t nat.symm]
            exact ht
          refine ⟨_, rfl, _, rfl, a, _, dy, _, _, rfl, ha4, T.Disk_cl, T.Disk_n_texts, gt' _ _ _ _ _, _, rfl, t, _, rfl, DPut.k (k := .inr p) ht4 (by rw [show (kvV S.kvs).length = S.kvs.length from List.length_map _]; exact szt (by omega)), ?_⟩
          rw [putK_kv p z _ hS.nd]
          have ha5 : (upd H4 t (.dK (kvV (putS S.kvs p z)))) a = some (.ins D.a_Disk dy (dF t { S with acts := S.acts + 1, power := down S.power })) := by rw [upd_ne nat]; exact ha4
          refine ⟨_, rfl, _, rfl, a, _, dy, _, rfl, ha5, T.Disk_cl, T.Disk_n_used, by show 5 < 1000; decide, ?_⟩
          have eu : ((usedOf S.kvs : Nat) : Int) + (z.length : Int) - ((oldOf S.kvs p).length : Int) = ((usedOf (putS S.kvs p z) : Nat) : Int) := (used_put p z S.kvs).symm
          have e : putF ("_used" : Str) (V.int (((usedOf S.kvs : Nat) : Int) + (z.length : Int) - ((oldOf S.kvs p).length : Int))) (dF t { S with acts := S.acts + 1, power := down S.power }) = dF t (S.put p z) := by
            rw [eu]
            exact du _ _ _ _ _ _
          show Q .non (upd _ a (.ins _ dy (putF ("_used" : Str) (V.int (((usedOf S.kvs : Nat) : Int) + (z.length : Int) - ((oldOf S.kvs p).length : Int))) _)))
          rw [e]
          refine go _ (fun b u eb nb nb2 => ?_) ⟨⟨dy, upd_same⟩, by rw [upd_ne nat.symm, upd_same]; rfl, hS.put (by omega) hzl pl⟩
          rw [upd_ne nb, upd_ne nb2, b4 b nb]
          exact eb
end

/-! ## Disks: the paths, one by one -/
section
variable {P : Program} {w : World} {K : PySem.W.Frag} {mg : Str → Option Value} {base : Heap} {D : Ad}
open TL SX
/-- a generator def's turns over a list that stays, the consumer acts in between -/
theorem hfor_list {K : PySem.W.Frag} {a : Addr} {xs : List V} {g : TG} {tb : TGn} {D : GEnds} {ys : List V} {σ : L2.St} {H : Hp} (Pv : Nat → List V → L2.St → Hp → Prop) (h0 : Pv 0 ys σ H) (hl : ∀ i ys σ H, i ≤ xs.length → Pv i ys σ H → SqL K H a xs)
    (hs : ∀ i x ys σ H, xs[i]? = some x → Pv i ys σ H → g x σ H fun σ2 H2 => tb { D with nx := Pv (i + 1), ct := Pv (i + 1), bk := D.nx } ys σ2 H2) (hd : ∀ ys σ H, Pv xs.length ys σ H → D.nx ys σ H) :
    ∃ W : Nat → Nat → List V → L2.St → Hp → Prop, (∃ m, W 0 m ys σ H) ∧ ∀ i m ys σ H, W i m ys σ H → ((Itl K a).stop i H ∧ D.nx ys σ H) ∨ ((Itl K a).go i H ∧ ∃ N : List V → L2.St → Hp → Prop,
      (∀ ys' σ' H', N ys' σ' H' → ∃ m', m' < m ∧ W (i + 1) m' ys' σ' H') ∧ ∀ x H', (Itl K a).yld i H x H' → g x σ H' fun σ2 H2 => tb { D with nx := N, ct := N, bk := D.nx } ys σ2 H2) := gfor_list Pv h0 hl hs hd
def fltP (bg : Str) (ks : List Str) : List V := (ks.filter fun k => Txt.startswith k bg).map V.str
def spPathsZ (C : Addr) : SpZ := fun vs H Y Q => ∃ (a t : Addr) (S : DS) (bg : Str), vs = [.ref a, .str bg] ∧ Dk C H a t S ∧ S.kvs.length < 64 ∧
  (∀ (ks : List Str), ks.Perm (S.kvs.map (·.1)) → PyProof.Rows.sortedS ks = true → ∀ i k H', ks[i]? = some k → Txt.startswith k bg = true → Y (fltP bg (ks.take i)) (.str k) H') ∧
  ∀ (ks : List Str) H', ks.Perm (S.kvs.map (·.1)) → PyProof.Rows.sortedS ks = true → Q (fltP bg ks) H'
theorem ok_Disk_pathsZ (T : Tex K mg D) : ZFn P w K mg base 2 D.a_Disk_paths D.d_Disk_paths P_Disk_paths (spPathsZ D.a_Disk) := by
  refine okZ T.Disk_paths_F S_Disk_paths (by decide +kernel) (fun vs H Y Q h => ?_) (fun cdv A outer s H vs Y Q pn hr h p HW m1 m2 sm stb hY cv => ?_)
  · obtain ⟨a, t, S, bg, rfl, _⟩ := h
    rfl
  · obtain ⟨a, t, S, bg, rfl, hd0, h64, qy, q⟩ := h
    have hd := hd0.keep sm
    clear hd0
    have nat := hd.ne
    obtain ⟨⟨dx, ha⟩, ht, hS⟩ := hd
    refine ⟨_, (hss_cons (hs_for owns_gcx rfl (pi_list (pe_callB cr_sortedS (by rfl) T.b_sorted (by decide +kernel) (pa_cons (pe_lock (pe_lc (own := [(("key" : Str), 3)]) (g := gName 3) (tt := tYes) rfl S_Disk_paths.nd (pi_keys (pe_fld (pv 0) rfl)) (blkOk_by (N := N_Disk_paths) (sc := defScope s_Disk_paths) (by decide +kernel)) (fun _ _ _ _ _ => pg_name (i := 3) S_Disk_paths.nd rfl (Or.inl rfl)) (fun _ _ _ _ _ => pts_nil) (fun _ _ _ _ _ => (pe_callTy SkE.call_str_str (by rfl) T.b_str (by decide +kernel) (pa_cons (pv 3) pa_nil))))) pa_nil))) (pg_name (i := 2) S_Disk_paths.nd rfl (Or.inl rfl)) (hss_cons (hs_if (pt_val (pe_bm PySem.F.plainAttrs_str PySem.F.slot_str_startswith PySem.F.type_str_startswith mt_startswith (pv 2) (pa_cons (pv 1) pa_nil))) (hss_cons (hs_yield (pv 2))
      hss_nil) hss_nil)
      hss_nil))
      hss_nil), ?_⟩
    clear sm m1
    revert ha ht cv m2
    generalize HW = H
    intro m2 cv ha ht
    refine ⟨t, _, ht, trivial, fun od => ?_⟩
    have ha1 : (upd H t (.frz od (.dK (kvV S.kvs)))) a = some (.ins D.a_Disk dx (dF t S)) := by rw [upd_ne nat]; exact ha
    have ht1 : (upd H t (.frz od (.dK (kvV S.kvs)))) t = some (.frz od (.dK (kvV S.kvs))) := upd_same
    have back : ∀ H1, Same (upd H t (.frz od (.dK (kvV S.kvs)))) H1 → Same H (upd H1 t (.dK (kvV S.kvs))) := fun H1 s b o e => by
      by_cases hb : b = t
      · subst hb
        rw [upd_same, ← ht, e]
      · rw [upd_ne hb]
        exact s b o (by rw [upd_ne hb]; exact e)
    revert ha1 ht1 back
    generalize upd H t (.frz od (.dK (kvV S.kvs))) = HL
    intro ha1 ht1 back
    have keyAt : ∀ {i : Nat} {k : Key} {v : V}, (kvV S.kvs)[i]? = some (k, v) → ∃ q, S.kvs[i]? = some q ∧ kV k = V.str q.1 := fun {i k v} h1 => by
      unfold kvV at h1
      rw [List.getElem?_map] at h1
      obtain ⟨z, hz, e2⟩ := Option.map_eq_some_iff.mp h1
      injection e2 with e3 e4
      exact ⟨z, hz, by rw [← e3]; rfl⟩
    have few : (kvV S.kvs).length < sizeLine := by
      rw [show (kvV S.kvs).length = S.kvs.length from List.length_map _]
      exact szt (by omega)
    refine ⟨_, rfl, a, _, dx, _, _, rfl, ha1, T.Disk_cl, T.Disk_n_texts, gt' _ _ _ _ _, t, od, rfl, .inl ⟨_, ht1, fun D' hD' => lc_map walk_keys S.kvs (fun q => V.str q.1) (List.length_map _) (fun i H x H' ⟨e, k, v, h1, h2⟩ => ⟨e, let ⟨q, y1, y2⟩ := keyAt h1; ⟨q, y1, h2.trans y2⟩⟩) (fun _ => true) (fun q => V.str q.1) hD' few (fun H1 s1 => s1 _ _ ht1) (fun q hq H2 R S' s2 g1 g2 => ⟨rfl, ⟨_, rfl, _, rfl, g1 rfl _ (Same.refl _)⟩⟩) (fun H2 s2 g2 => ?_)⟩⟩
    · have sB := back _ s2
      refine ⟨s2 _ _ ht1, ?_⟩
      have nd : D' ≠ t := fun z => by
        subst z
        rw [hD'] at ht1
        cases ht1
      have hl : (upd H2 t (.dK (kvV S.kvs))) D' = some (.lst ((S.kvs.map (·.1)).map V.str)) := by
        rw [upd_ne nd, g2, filt1, List.map_map]
        rfl
      revert hl sB
      generalize upd H2 t (.dK (kvV S.kvs)) = H3
      intro sB hl
      refine ⟨D', S.kvs.map (·.1), rfl, SqL.of hl, by rw [List.length_map]; exact h64, fun ks pp hperm hsort hp => ?_⟩
      have h4 : (upd H3 pp (.lst (ks.map V.str))) pp = some (.lst (ks.map V.str)) := upd_same
      have s4 : Same H (upd H3 pp (.lst (ks.map V.str))) := sB.trans (same_new hp)
      have nM : ¬ p.Md pp := fun z => by
        have z1 := m2 pp z
        cases e : H pp with
        | none => exact z1 e
        | some u =>
          have z2 := sB pp u e
          rw [hp] at z2
          cases z2
      have cv4 := stb _ _ _ cv s4
      revert h4 cv4
      generalize upd H3 pp (.lst (ks.map V.str)) = H4
      intro h4 cv4
      have few2 : ∀ i, (fltP bg (ks.take i)).length ≤ 64 := fun i => by
        unfold fltP
        rw [List.length_map]
        refine Nat.le_trans (List.length_filter_le _ _) ?_
        rw [List.length_take]
        have := hperm.length_eq
        rw [List.length_map] at this
        exact Nat.le_trans (Nat.min_le_right _ _) (by omega)
      refine ⟨pp, rfl, ⟨_, SqL.of h4⟩, hfor_list (fun i ys σ H' => H' pp = some (.lst (ks.map V.str)) ∧ p.Cv ys H' ∧ ys = fltP bg (ks.take i) ∧ ∃ o o2, σ = [some (.ref a), some (.str bg), o, o2]) ⟨h4, cv4, rfl, _, _, rfl⟩ (fun i ys σ H' _ h => SqL.of h.1) ?_ ?_⟩
      · rintro i x ys σ H' hi ⟨h5, cv5, rfl, o, o2, rfl⟩
        rw [List.getElem?_map] at hi
        obtain ⟨k, hk, rfl⟩ := Option.map_eq_some_iff.mp hi
        refine ⟨_, rfl, rfl, _, rfl, _, _, rfl, rfl, _, rfl, ?_⟩
        have one : fltP bg (ks.take (i + 1)) = fltP bg (ks.take i) ++ (if Txt.startswith k bg = true then [V.str k] else []) := by
          unfold fltP
          rw [one_more hk, List.filter_append, List.map_append]
          congr 1
          by_cases h : Txt.startswith k bg = true
          · simp [h]
          · simp [h]
        refine ite2 (fun hb => ?_) (fun hb => ?_)
        · refine ⟨?_, _, rfl, cv5, ?_, fun H6 rl cv6 => ⟨rl _ _ nM h5, cv6, ?_, _, _, rfl⟩⟩
          · have := few2 i
            exact Nat.lt_of_le_of_lt (Nat.succ_le_succ this) (by decide)
          · rw [hY]
            exact qy ks hperm hsort i k H' hk hb
          · rw [one, if_pos hb]
        · refine ⟨h5, cv5, ?_, _, _, rfl⟩
          rw [one, if_neg hb, List.append_nil]
      · rintro ys σ H' ⟨h5, cv5, rfl, o, o2, rfl⟩
        have e : ks.take (ks.map V.str).length = ks := by rw [List.length_map, List.take_length]
        rw [e] at cv5 ⊢
        exact ⟨cv5, q ks H' hperm hsort⟩
end

/-! ## Disks: the paths in their order -/
section
variable {P : Program} {w : World} {K : PySem.W.Frag} {mg : Str → Option Value} {base : Heap} {D : Ad}
open TL SX
def spPaths (C : Addr) : SpG := fun vs H Q _ => ∃ (a t : Addr) (S : DS) (bg : Str), vs = [.ref a, .str bg] ∧ Dk C H a t S ∧ S.kvs.length < 64 ∧
  ∀ H' (ks : List Str), Same H H' → ks.Perm (S.kvs.map (·.1)) → PyProof.Rows.sortedS ks = true → Q ((ks.filter fun k => Txt.startswith k bg).map V.str) H'
theorem ok_Disk_paths (T : Tex K mg D) : GFn P w K mg base 2 D.a_Disk_paths D.d_Disk_paths P_Disk_paths (spPaths D.a_Disk) := by
  refine okGen T.Disk_paths_F S_Disk_paths (fun vs H Q E h => ?_) (fun cdv A outer s H vs Q E pn hr h => ?_)
  · obtain ⟨a, t, S, bg, rfl, _⟩ := h
    rfl
  · obtain ⟨a, t, S, bg, rfl, hd, h64, q⟩ := h
    have nat := hd.ne
    obtain ⟨⟨dx, ha⟩, ht, hS⟩ := hd
    refine ⟨_, (gss_cons (gs_for owns_gcx rfl (pi_list (pe_callB cr_sortedS (by rfl) T.b_sorted (by decide +kernel) (pa_cons (pe_lock (pe_lc (own := [(("key" : Str), 3)]) (g := gName 3) (tt := tYes) rfl S_Disk_paths.nd (pi_keys (pe_fld (pv 0) rfl)) (blkOk_by (N := N_Disk_paths) (sc := defScope s_Disk_paths) (by decide +kernel)) (fun _ _ _ _ _ => pg_name (i := 3) S_Disk_paths.nd rfl (Or.inl rfl)) (fun _ _ _ _ _ => pts_nil) (fun _ _ _ _ _ => (pe_callTy SkE.call_str_str (by rfl) T.b_str (by decide +kernel) (pa_cons (pv 3) pa_nil))))) pa_nil))) (pg_name (i := 2) S_Disk_paths.nd rfl (Or.inl rfl)) (gss_cons (gs_if (pt_val (pe_bm PySem.F.plainAttrs_str PySem.F.slot_str_startswith PySem.F.type_str_startswith mt_startswith (pv 2) (pa_cons (pv 1) pa_nil))) (gss_cons (gs_yield (pv 2))
      gss_nil) gss_nil)
      gss_nil))
      gss_nil), ?_⟩
    refine ⟨t, _, ht, trivial, fun od => ?_⟩
    have ha1 : (upd H t (.frz od (.dK (kvV S.kvs)))) a = some (.ins D.a_Disk dx (dF t S)) := by rw [upd_ne nat]; exact ha
    have ht1 : (upd H t (.frz od (.dK (kvV S.kvs)))) t = some (.frz od (.dK (kvV S.kvs))) := upd_same
    have back : ∀ H1, Same (upd H t (.frz od (.dK (kvV S.kvs)))) H1 → Same H (upd H1 t (.dK (kvV S.kvs))) := fun H1 s b o e => by
      by_cases hb : b = t
      · subst hb
        rw [upd_same, ← ht, e]
      · rw [upd_ne hb]
        exact s b o (by rw [upd_ne hb]; exact e)
    revert ha1 ht1 back
    generalize upd H t (.frz od (.dK (kvV S.kvs))) = HL
    intro ha1 ht1 back
    have keyAt : ∀ {i : Nat} {k : Key} {v : V}, (kvV S.kvs)[i]? = some (k, v) → ∃ q, S.kvs[i]? = some q ∧ kV k = V.str q.1 := fun {i k v} h1 => by
      unfold kvV at h1
      rw [List.getElem?_map] at h1
      obtain ⟨z, hz, e2⟩ := Option.map_eq_some_iff.mp h1
      injection e2 with e3 e4
      exact ⟨z, hz, by rw [← e3]; rfl⟩
    have few : (kvV S.kvs).length < sizeLine := by
      rw [show (kvV S.kvs).length = S.kvs.length from List.length_map _]
      exact szt (by omega)
    refine ⟨_, rfl, a, _, dx, _, _, rfl, ha1, T.Disk_cl, T.Disk_n_texts, gt' _ _ _ _ _, t, od, rfl, .inl ⟨_, ht1, fun D' hD' => lc_map walk_keys S.kvs (fun q => V.str q.1) (List.length_map _) (fun i H x H' ⟨e, k, v, h1, h2⟩ => ⟨e, let ⟨q, y1, y2⟩ := keyAt h1; ⟨q, y1, h2.trans y2⟩⟩) (fun _ => true) (fun q => V.str q.1) hD' few (fun H1 s1 => s1 _ _ ht1) (fun q hq H2 R S' s2 g1 g2 => ⟨rfl, ⟨_, rfl, _, rfl, g1 rfl _ (Same.refl _)⟩⟩) (fun H2 s2 g2 => ?_)⟩⟩
    · have sB := back _ s2
      refine ⟨s2 _ _ ht1, ?_⟩
      have nd : D' ≠ t := fun z => by
        subst z
        rw [hD'] at ht1
        cases ht1
      have hl : (upd H2 t (.dK (kvV S.kvs))) D' = some (.lst ((S.kvs.map (·.1)).map V.str)) := by
        rw [upd_ne nd, g2, filt1, List.map_map]
        rfl
      revert hl sB
      generalize upd H2 t (.dK (kvV S.kvs)) = H3
      intro sB hl
      refine ⟨D', S.kvs.map (·.1), rfl, SqL.of hl, by rw [List.length_map]; exact h64, fun ks p hperm hsort hp => ?_⟩
      have h4 : (upd H3 p (.lst (ks.map V.str))) p = some (.lst (ks.map V.str)) := upd_same
      have s4 : Same H (upd H3 p (.lst (ks.map V.str))) := sB.trans (same_new hp)
      revert h4 s4
      generalize upd H3 p (.lst (ks.map V.str)) = H4
      intro h4 s4
      refine ⟨p, rfl, ⟨_, SqL.of h4⟩, gfor_list (fun i ys σ H' => H' = H4 ∧ ys = ((ks.take i).filter fun k => Txt.startswith k bg).map V.str ∧ ∃ o o2, σ = [some (.ref a), some (.str bg), o, o2]) ⟨rfl, rfl, _, _, rfl⟩ (fun i ys σ H' _ h => by rw [h.1]; exact SqL.of h4) ?_ ?_⟩
      · rintro i x ys σ H' hi ⟨rfl, rfl, o, o2, rfl⟩
        rw [List.getElem?_map] at hi
        obtain ⟨k, hk, rfl⟩ := Option.map_eq_some_iff.mp hi
        refine ⟨_, rfl, rfl, _, rfl, _, _, rfl, rfl, _, rfl, ?_⟩
        have one : (ks.take (i + 1)).filter (fun k => Txt.startswith k bg) = (ks.take i).filter (fun k => Txt.startswith k bg) ++ (if Txt.startswith k bg = true then [k] else []) := by
          rw [one_more hk, List.filter_append]
          congr 1
          by_cases h : Txt.startswith k bg = true
          · simp [h]
          · simp [h]
        refine ite2 (fun hb => ?_) (fun hb => ?_)
        · refine ⟨?_, _, rfl, rfl, ?_, _, _, rfl⟩
          · rw [List.length_map]
            refine Nat.lt_of_le_of_lt (List.length_filter_le _ _) ?_
            rw [List.length_take]
            have := hperm.length_eq
            rw [List.length_map] at this
            exact Nat.lt_of_le_of_lt (Nat.min_le_right _ _) (szt (by omega))
          · rw [one, if_pos hb, List.map_append]
            rfl
        · refine ⟨rfl, ?_, _, _, rfl⟩
          rw [one, if_neg hb, List.append_nil]
      · rintro ys σ H' ⟨rfl, rfl, o, o2, rfl⟩
        have e : ks.take (ks.map V.str).length = ks := by rw [List.length_map, List.take_length]
        rw [e]
        exact q _ ks s4 hperm hsort
end

/-! ## What a disk shows, beside a dict of texts -/
section
variable {P : Program} {w : World} {K : PySem.W.Frag} {mg : Str → Option Value} {base : Heap} {D : Ad}
open TL SX
open PyProof.Rows (sortedS risingS)
theorem rising_pwZ : ∀ (r : List Str) (x : Str), risingS x r = true → (x :: r).Pairwise fun a b => ¬ (b.cps.toList < a.cps.toList)
  | [], x, _ => List.pairwise_singleton _ _
  | y :: r, x, h => by
    have h' : (!PySem.Spec.ltCps y.cps.toList x.cps.toList && risingS y r) = true := h
    rw [PyProof.Rows.ltCps_eq] at h'
    rw [Bool.and_eq_true, Bool.not_eq_true', decide_eq_false_iff_not] at h'
    obtain ⟨h1, h2⟩ := h'
    have ih := rising_pwZ r y h2
    refine List.pairwise_cons.mpr ⟨fun z hz => ?_, ih⟩
    rcases List.mem_cons.mp hz with e | e
    · rw [e]; exact h1
    · have h3 := (List.pairwise_cons.mp ih).1 z e
      exact fun q => (List.not_lt.mpr (List.le_trans (List.not_lt.mp h1) (List.not_lt.mp h3))) q
theorem sorted_pwZ {ns : List Str} (h : sortedS ns = true) : ns.Pairwise fun a b => ¬ (b.cps.toList < a.cps.toList) := by
  cases ns with
  | nil => exact List.Pairwise.nil
  | cons x r => exact rising_pwZ r x h
theorem ext_tlZ {a b : Str} (h : a.cps.toList = b.cps.toList) : a = b := by
  obtain ⟨⟨x⟩⟩ := a
  obtain ⟨⟨y⟩⟩ := b
  simp at h
  rw [h]
theorem sorted_eqZ {xs ys : List Str} (hx : sortedS xs = true) (hy : sortedS ys = true) (p : xs.Perm ys) : xs = ys := by
  refine List.Perm.eq_of_pairwise (fun a b _ _ h1 h2 => ?_) (sorted_pwZ hx) (sorted_pwZ hy) p
  exact ext_tlZ (List.le_antisymm (List.not_lt.mp h1) (List.not_lt.mp h2))
theorem flt_all (ks : List Str) : fltP ("" : String) ks = ks.map V.str := by
  unfold fltP
  rw [List.filter_eq_self.mpr fun k _ => ?_]
  show Txt.startswith k _ = true
  unfold Txt.startswith
  simp only [Bool.and_eq_true, decide_eq_true_eq]
  exact ⟨Nat.zero_le _, by simp [Builtin.Str.subAt, show (Str.ofString "").length = 0 from by decide, show (Str.ofString "").cps = #[] from by decide]⟩
theorem lk_some {l : List (Str × Str)} {k : Str} (h : k ∈ l.map (·.1)) : ∃ z, lkS l k = some z := by
  cases e : lkS l k with
  | some z => exact ⟨z, rfl⟩
  | none =>
    obtain ⟨q, hq, rfl⟩ := List.mem_map.mp h
    exact absurd rfl (lk_none e q hq)
/-- rows [path, text] -/
abbrev Row := Str × Str × Addr
def RowsAt (S : List (Str × Str)) (H : Hp) (xs : List Row) : Prop := ∀ q ∈ xs, lkS S q.1 = some q.2.1 ∧ H q.2.2 = some (.lst [.str q.1, .str q.2.1])
theorem RowsAt.keep {S : List (Str × Str)} {H H' : Hp} {xs : List Row} (h : RowsAt S H xs) (s : Same H H') : RowsAt S H' xs := fun q hq => ⟨(h q hq).1, s _ _ (h q hq).2⟩
theorem RowsAt.upd {S : List (Str × Str)} {H : Hp} {xs : List Row} {b : Addr} {zs' : List V} (h : RowsAt S H xs) (n : ∀ q ∈ xs, q.2.2 ≠ b) : RowsAt S (upd H b (.lst zs')) xs := fun q hq => ⟨(h q hq).1, by rw [upd_ne (n q hq)]; exact (h q hq).2⟩
def rowD (S : List (Str × Str)) (k : Str) : PyData := .list [.str k, .str (oldOf S k)]
theorem RowsAt.dp {S : List (Str × Str)} {H : Hp} : ∀ {xs : List Row}, RowsAt S H xs → DpAll K H (xs.map fun q => V.ref q.2.2) (xs.map fun q => rowD S q.1)
  | [], _ => .nil
  | q :: r, h => by
    obtain ⟨h1, h2⟩ := h q List.mem_cons_self
    refine .cons ?_ (RowsAt.dp (xs := r) fun q' hq => h q' (List.mem_cons_of_mem _ hq))
    show Dp K H (.ref q.2.2) (.list [.str q.1, .str (oldOf S q.1)])
    have e : oldOf S q.1 = q.2.1 := by
      unfold oldOf
      rw [h1]
      rfl
    rw [e]
    exact .lst (SqL.of h2) (.cons (.str _) (.cons (.str _) .nil))
def RowOk (S : List (Str × Str)) (ks : List Str) : Prop := ∀ k ∈ ks, PyData.strOk k = true ∧ PyData.strOk (oldOf S k) = true
theorem rows_lay (S : List (Str × Str)) : ∀ ks : List Str, RowOk S ks → PyData.canLayAll0 (ks.map (rowD S)) = true
  | [], _ => rfl
  | k :: r, h => by
    show (PyData.canLay0 (rowD S k) && PyData.canLayAll0 (r.map (rowD S))) = true
    rw [rows_lay S r fun q hq => h q (List.mem_cons_of_mem _ hq)]
    obtain ⟨h1, h2⟩ := h k List.mem_cons_self
    simp [rowD, PyData.canLay0, PyData.canLayAll0, h1, h2]
theorem rows_depth (S : List (Str × Str)) : ∀ ks : List Str, PyData.depthAll (ks.map (rowD S)) ≤ 5
  | [] => Nat.zero_le _
  | k :: r => by
    show max (PyData.depth (rowD S k)) (PyData.depthAll (r.map (rowD S))) ≤ 5
    have := rows_depth S r
    have e : PyData.depth (rowD S k) ≤ 5 := by
      show PyData.depth (.list [.str k, .str (oldOf S k)]) ≤ 5
      simp [PyData.depth, PyData.depthAll]
    omega
theorem rows_shaped {S : List (Str × Str)} {ks : List Str} (h : RowOk S ks) : SeqAt.shaped (.list (ks.map (rowD S))) = true := by
  unfold SeqAt.shaped
  have e : PyData.canLay0 (.list (ks.map (rowD S))) = true := by
    simp only [PyData.canLay0]
    exact rows_lay S ks h
  rw [e, Bool.true_and]
  refine decide_eq_true ?_
  have := rows_depth S ks
  simp only [PyData.depth]
  omega
theorem rows_eqv {S : List (Str × Str)} {ks : List Str} (h : RowOk S ks) : PyData.eqv (.list (ks.map (rowD S))) (.list (ks.map (rowD S))) = true := SeqAt.eqv_refl _ (by
  simp only [PyData.canLay0]
  exact rows_lay S ks h)
/-- the block's knowledge -/
def CvS (S : List (Str × Str)) (H : Hp) (Dl : Addr) (ys : List V) (H' : Hp) : Prop := Same H H' ∧ ∃ xs : List Row, ys = xs.map (fun q => V.str q.1) ∧ H' Dl = some (.lst (xs.map fun q => V.ref q.2.2)) ∧ (∀ q ∈ xs, q.2.2 ≠ Dl) ∧ RowsAt S H' xs
theorem CvS.keep {S : List (Str × Str)} {H H1 H2 : Hp} {Dl : Addr} {ys : List V} (h : CvS S H Dl ys H1) (s : Same H1 H2) : CvS S H Dl ys H2 := by
  obtain ⟨s0, xs, e, hD, n, r⟩ := h
  exact ⟨s0.trans s, xs, e, s _ _ hD, n, r.keep s⟩
/-- one row more -/
theorem CvS.more {S : List (Str × Str)} {H H1 : Hp} {Dl p : Addr} {ys : List V} {k z : Str} (h : CvS S H Dl ys H1) (hD : H Dl = none) (hk : lkS S k = some z) (hp : H1 p = none) :
    ∃ acc, (upd H1 p (.lst [.str k, .str z])) Dl = some (.lst acc) ∧ acc.length = ys.length ∧ RlM (· = Dl) H1 (upd (upd H1 p (.lst [.str k, .str z])) Dl (.lst (acc ++ [.ref p]))) ∧ CvS S H Dl (ys ++ [.str k]) (upd (upd H1 p (.lst [.str k, .str z])) Dl (.lst (acc ++ [.ref p]))) := by
  obtain ⟨s0, xs, e, hl, n, r⟩ := h
  have np : Dl ≠ p := ne_of_none hl hp
  have sN : Same H1 (upd H1 p (.lst [.str k, .str z])) := same_new hp
  refine ⟨_, sN _ _ hl, by rw [e, List.length_map, List.length_map], fun b o nb eb => by rw [upd_ne nb]; exact sN _ _ eb, same_upd (s0.trans sN) hD, xs ++ [(k, z, p)], ?_, ?_, fun q hq => ?_, fun q hq => ?_⟩
  · rw [e, List.map_append]; rfl
  · rw [upd_same, List.map_append]; rfl
  · rcases List.mem_append.mp hq with hq | hq
    · exact n q hq
    · rw [List.mem_singleton.mp hq]
      exact np.symm
  · rcases List.mem_append.mp hq with hq | hq
    · refine ⟨(r q hq).1, ?_⟩
      rw [upd_ne (n q hq)]
      exact sN _ _ (r q hq).2
    · rw [List.mem_singleton.mp hq]
      exact ⟨hk, by rw [upd_ne np.symm, upd_same]⟩
def PL : List Str := ["a", "a/b", "base", "marks", "site/a", "site/a/b", "site/b", "store/7", "store/12", "past/0", "z.9-x"]
def WD : List Str := ["", "x", "text", "two\nlines\n", "\\", "a longer text than the others", "base 0\n"]
def WX : List Str := WD ++ WD.map (· ++ (("!" : String) : Str))
/-- the law's paths and texts alone -/
def Pool (L : List (Str × Str)) : Prop := ∀ q ∈ L, q.1 ∈ PL ∧ q.2 ∈ WX
theorem pl_ok : ∀ k ∈ PL, PyData.strOk k = true ∧ k ≠ ("nothing/here" : String) := by decide +kernel
theorem wd_ok : ∀ k ∈ WX, PyData.strOk k = true := by decide +kernel
theorem Pool.old {L : List (Str × Str)} (h : Pool L) (k : Str) : oldOf L k ∈ WX := by
  unfold oldOf
  cases e : lkS L k with
  | none => exact (by decide : ((("" : String) : Str)) ∈ WX)
  | some z => exact (h _ (lk_mem e)).2
theorem Pool.rows {L : List (Str × Str)} (h : Pool L) {ks : List Str} (hk : ∀ k ∈ ks, k ∈ L.map (·.1)) : RowOk L ks := fun k hm => by
  obtain ⟨q, hq, rfl⟩ := List.mem_map.mp (hk k hm)
  exact ⟨(pl_ok _ (h q hq).1).1, wd_ok _ (h.old _)⟩
theorem Pool.none {L : List (Str × Str)} (h : Pool L) : lkS L ("nothing/here" : String) = none := by
  cases e : lkS L ("nothing/here" : String) with
  | none => rfl
  | some z => exact absurd rfl (pl_ok _ (h _ (lk_mem e)).1).2
theorem nd_sub_len {α : Type} [DecidableEq α] : ∀ {l m : List α}, l.Nodup → (∀ x ∈ l, x ∈ m) → l.length ≤ m.length
  | [], m, _, _ => Nat.zero_le _
  | a :: r, m, nd, h => by
    rw [List.nodup_cons] at nd
    have ha := h a List.mem_cons_self
    have := nd_sub_len (l := r) (m := m.erase a) nd.2 fun x hx => (List.mem_erase_of_ne fun z => nd.1 (by rw [← z]; exact hx)).mpr (h x (List.mem_cons_of_mem _ hx))
    rw [List.length_erase_of_mem ha] at this
    have hp := List.length_pos_of_mem ha
    rw [List.length_cons]
    omega
theorem Pool.few {L : List (Str × Str)} (h : Pool L) (nd : (L.map (·.1)).Nodup) : L.length ≤ 11 := by
  have hs : ∀ k ∈ L.map (·.1), k ∈ PL := fun k hk => by
    obtain ⟨q, hq, rfl⟩ := List.mem_map.mp hk
    exact (h q hq).1
  have := (nd_sub_len nd hs)
  rw [List.length_map] at this
  exact this
def spShows (C : Addr) : Sp := fun vs H Q _ => ∃ (b t e : Addr) (S : DS), vs = [.ref b, .ref e, .int (S.acts : Nat)] ∧ Dk C H b t S ∧ H e = some (.dK (kvV S.kvs)) ∧ e ≠ t ∧ Pool S.kvs ∧ ∀ H', Same H H' → Q (.bl true) H'
theorem keys_of {L : List (Str × Str)} {i : Nat} {k : Key} {v : V} (h1 : (kvV L)[i]? = some (k, v)) : ∃ q, L[i]? = some q ∧ kV k = V.str q.1 := by
  unfold kvV at h1
  rw [List.getElem?_map] at h1
  obtain ⟨z, hz, e2⟩ := Option.map_eq_some_iff.mp h1
  injection e2 with e3 e4
  exact ⟨z, hz, by rw [← e3]; rfl⟩
theorem lk_nd {L : List (Str × Str)} (nd : (L.map (·.1)).Nodup) {q : Str × Str} (h : q ∈ L) : lkS L q.1 = some q.2 := by
  induction L with
  | nil => cases h
  | cons a r ih =>
    obtain ⟨k, v⟩ := a
    simp only [List.map_cons, List.nodup_cons] at nd
    rcases List.mem_cons.mp h with rfl | h
    · simp [lkS]
    · unfold lkS
      rw [if_neg fun z => nd.1 (by rw [z]; exact List.mem_map_of_mem h)]
      exact ih nd.2 h
end

/-! ## What a disk shows: the law's word -/
section
variable {P : Program} {w : World} {K : PySem.W.Frag} {mg : Str → Option Value} {base : Heap} {D : Ad}
open TL SX
open PyProof.Rows (sortedS risingS)
theorem sum_cast : ∀ l : List (Str × Str), (l.map fun q => ((q.2.length : Nat) : Int)).sum = ((usedOf l : Nat) : Int)
  | [] => rfl
  | q :: r => by
    have ih := sum_cast r
    simp only [List.map_cons, List.sum_cons, usedOf] at ih ⊢
    rw [ih]
    simp
theorem ok_shows (T : Tex K mg D) : FnOk P w K mg base CX0 6 D.a_shows D.d_shows P_shows (spShows D.a_Disk) := by
  have Z_Disk_paths : ZFn P w K mg base 2 D.a_Disk_paths D.d_Disk_paths P_Disk_paths (spPathsZ D.a_Disk) := ok_Disk_pathsZ T
  have G_Disk_text_at : FnOk P w K mg base (L2.CX P w) 4 D.a_Disk_text_at D.d_Disk_text_at P_Disk_text_at (spTextAt K D.a_Disk D.a_NoPath) := ok_Disk_text_at T
  have G_Disk_used : FnOk P w K mg base CX0 1 D.a_Disk_used D.d_Disk_used P_Disk_used (spUsed D.a_Disk) := ok_Disk_used T
  have G_Disk_acts : FnOk P w K mg base CX0 1 D.a_Disk_acts D.d_Disk_acts P_Disk_acts (spActs D.a_Disk) := ok_Disk_acts T
  have G_Disk_len : FnOk P w K mg base CX0 1 D.a_Disk_len D.d_Disk_len P_Disk_len (spLenD D.a_Disk) := ok_Disk_len T
  have G_Disk_contains : FnOk P w K mg base CX0 1 D.a_Disk_contains D.d_Disk_contains P_Disk_contains (spHas K D.a_Disk) := ok_Disk_contains T
  refine T.shows_F.ok S_shows (fun vs H Q E h => ?_) (fun cdv A outer s H vs Q E hr h => ?_)
  · obtain ⟨b, t, e, S, rfl, _⟩ := h
    rfl
  · obtain ⟨b, t, e, S, rfl, hd, he, et, hp, q⟩ := h
    have hu := hu_of hr
    refine ⟨_, (pss_cons (ps_setLcZ (i := 3) (own := [(("_law_spot" : Str), 5)]) (g := gName 5) rfl S_shows.nd rfl rfl (sw_true rfl rfl rfl (by decide +kernel)) (pz_meth0 (pv 0) T.Disk_cl ⟨T.Disk_paths_at, T.Disk_paths_fn, T.Disk_paths_F.kp⟩ Z_Disk_paths (hr.mono (by decide)) T.Disk_paths_b0.choose_spec.2 T.Disk_paths_b0.choose_spec.1) (hr.mono (by decide)) (blkOk_by (N := N_shows) (sc := defScope s_shows) (by decide +kernel)) (by decide +kernel) (fun _ _ _ _ _ => pg_name (i := 5) S_shows.nd rfl (Or.inl rfl)) (fun _ _ _ _ _ => (pe_lst (pa_cons (pv 5) (pa_cons (pe_meth (pv 0) T.Disk_cl ⟨T.Disk_text_at_at, T.Disk_text_at_fn, T.Disk_text_at_F.kp⟩ G_Disk_text_at (hr.mono (by decide)) T.Disk_text_at_b .nil passL (pa_cons (pv 5) pa_nil)) pa_nil)))))
      (pss_cons (ps_set (i := 4) S_shows.nd rfl (Or.inl rfl) (pe_callB cr_sortedS (by rfl) T.b_sorted (by decide +kernel) (pa_cons (pe_lock (pe_lc (own := [(("_law_one" : Str), 6)]) (g := gName 6) (tt := tYes) rfl S_shows.nd (pi_keys (pv 1)) (blkOk_by (N := N_shows) (sc := defScope s_shows) (by decide +kernel)) (fun _ _ _ _ _ => pg_name (i := 6) S_shows.nd rfl (Or.inl rfl)) (fun _ _ _ _ _ => pts_nil) (fun _ _ _ _ _ => (pe_callTy SkE.call_str_str (by rfl) T.b_str (by decide +kernel) (pa_cons (pv 6) pa_nil))))) pa_nil)))
      (pss_cons (ps_if (PW.pt (pw_or (pt_cmpR (op_neD hr.units) (pv 3) (pe_lc (own := [(("_law_spot" : Str), 5)]) (g := gName 5) (tt := tYes) rfl S_shows.nd (pi_list (pv 4)) (blkOk_by (N := N_shows) (sc := defScope s_shows) (by decide +kernel)) (fun _ _ _ _ _ => pg_name (i := 5) S_shows.nd rfl (Or.inl rfl)) (fun _ _ _ _ _ => pts_nil) (fun _ _ _ _ _ => (pe_lst (pa_cons (pv 5) (pa_cons (pe_dget hu (pv 1) (pv 5) (fun _ _ => rfl)) pa_nil))))) (nomark _)) (pw_or1 (pt_cmpR op_ne (pe_callB (call_lenO T.Disk_len_at T.Disk_len_fn (G_Disk_len.raw T.Disk_len_b .nil) (hr.mono (by decide)) pass0) (by rfl) T.b_len (by decide +kernel) (pa_cons (pv 0) pa_nil)) (pe_callB call_lenD (by rfl) T.b_len (by decide +kernel) (pa_cons (pv 1) pa_nil)) (nomark _))))) (pss_one (ps_ret pe_bl)) pss_nil)
      (pss_cons (ps_if (PW.pt (pw_or (pt_cmpR (op_neD hr.units) (pe_lock (pe_lc (own := [(("_law_spot" : Str), 5)]) (g := gName 5) rfl S_shows.nd (pi_keys (pv 1)) (blkOk_by (N := N_shows) (sc := defScope s_shows) (by decide +kernel)) (fun _ _ _ _ _ => pg_name (i := 5) S_shows.nd rfl (Or.inl rfl)) (fun _ _ _ _ _ => (pts_one (pt_cmpR (op_notInO T.Disk_contains_at T.Disk_contains_fn (G_Disk_contains.raw T.Disk_contains_b .nil) (hr.mono (by decide)) pass0) (pv 5) (pv 0) rfl))) (fun _ _ _ _ _ => (pv 5)))) (pe_lst pa_nil) (nomark _)) (pw_or1 (pt_cmpR (op_inD T.Disk_contains_at T.Disk_contains_fn (G_Disk_contains.raw T.Disk_contains_b .nil) (hr.mono (by decide)) pass0) pe_str (pv 0) rfl)))) (pss_one (ps_ret pe_bl)) pss_nil)
      (pss_one (ps_ret (pe_cmpR (op_eqD hr.units) (pe_lst (pa_cons (pe_prop (pv 0) T.Disk_cl T.Disk_used_p G_Disk_used (hr.mono (by decide)) T.Disk_used_b .nil pass0 rfl) (pa_cons (pe_prop (pv 0) T.Disk_cl T.Disk_acts_p G_Disk_acts (hr.mono (by decide)) T.Disk_acts_b .nil pass0 rfl) pa_nil))) (pe_lst (pa_cons (pe_callB (cr_sum rfl) (by rfl) T.b_sum (by decide +kernel) (pa_cons (pe_lock (pe_lc (own := [(("_law_spot" : Str), 5)]) (g := gName 5) (tt := tYes) rfl S_shows.nd (pi_keys (pv 1)) (blkOk_by (N := N_shows) (sc := defScope s_shows) (by decide +kernel)) (fun _ _ _ _ _ => pg_name (i := 5) S_shows.nd rfl (Or.inl rfl)) (fun _ _ _ _ _ => pts_nil) (fun _ _ _ _ _ => (pe_callB call_len_str (by rfl) T.b_len (by decide +kernel) (pa_cons (pe_dget hu (pv 1) (pv 5) (fun _ _ => rfl)) pa_nil))))) pa_nil)) (pa_cons (pv 2) pa_nil))) (nomark _)))))))), ?_⟩
    have few := hp.few hd.2.2.nd
    have nom : ∀ m, m = ("text_at" : Str) ∨ m = ("paths" : Str) → (dF t S).lookup m = none := by
      rintro m (rfl | rfl)
      · exact d5_none (by decide +kernel) (by decide +kernel) (by decide +kernel) (by decide +kernel) (by decide +kernel) _ _ _ _ _
      · exact d5_none (by decide +kernel) (by decide +kernel) (by decide +kernel) (by decide +kernel) (by decide +kernel) _ _ _ _ _
    have hd0 := hd
    obtain ⟨⟨dx, hb⟩, ht, hS⟩ := hd0
    have eb : e ≠ b := ne_of he hb (fun z => nomatch z)
    refine ⟨_, rfl, b, dx, _, rfl, hb, nom _ (.inr rfl), fun ys x _ => ∃ (ks : List Str) (i : Nat) (k : Str), ks.Perm (S.kvs.map (·.1)) ∧ ks[i]? = some k ∧ ys = (ks.take i).map V.str ∧ x = .str k,
      fun ys _ => ∃ ks : List Str, ks.Perm (S.kvs.map (·.1)) ∧ sortedS ks = true ∧ ys = ks.map V.str, ⟨b, t, S, _, rfl, hd, by omega, fun ks h1 h2 i k H' h3 h4 => ⟨ks, i, k, h1, h3, flt_all _, rfl⟩, fun ks H' h1 h2 => ⟨ks, h1, h2, flt_all _⟩⟩,
      CvS S.kvs H, fun _ _ _ _ c s => c.keep s, fun Dl ys H' c => let ⟨_, xs, _, h, _⟩ := c; ⟨_, h⟩, fun Dl hDl => ⟨⟨same_new hDl, [], rfl, upd_same, (fun _ z => nomatch z), fun _ z => nomatch z⟩, ?_, ?_⟩⟩
    · rintro ys x H1 cv ⟨ks, i, k, hperm, hk, hys, rfl⟩ _
      have hd1 := hd.keep cv.1
      have hb1 := cv.1 _ _ hb
      obtain ⟨z, hz⟩ := lk_some (hperm.mem_iff.mp (List.mem_of_getElem? hk))
      have yl : ys.length < sizeLine := by
        rw [hys, List.length_map, List.length_take]
        have := hperm.length_eq
        rw [List.length_map] at this
        exact Nat.lt_of_le_of_lt (Nat.min_le_right _ _) (szt (by omega))
      refine ⟨rfl, _, rfl, _, rfl, b, dx, _, rfl, hb1, nom _ (.inl rfl), _, rfl, b, t, S, _, rfl, hd1, .inl ⟨k, z, rfl, hz, by show 2 ≤ sizeLine; decide, fun p hpn => ?_⟩⟩
      obtain ⟨acc, a1, a2, a3, a4⟩ := cv.more hDl hz hpn
      exact ⟨acc, a1, by omega, a3, a4⟩
    · rintro ys H1 ⟨s1, xs, hys, hDl1, nDl, rows⟩ ⟨ks, hperm, hsort, hks⟩ _
      have exs : xs.map (·.1) = ks := by
        have : xs.map (fun q => V.str q.1) = ks.map V.str := hys.symm.trans hks
        have h2 : (xs.map (·.1)).map V.str = ks.map V.str := by rw [List.map_map]; exact this
        exact (List.map_inj_right (fun a b h => by injection h)).mp h2
      have hd1 := hd.keep s1
      have he1 := s1 _ _ he
      -- the paths in order, by the law
      have kvl : (kvV S.kvs).length < sizeLine := by
        rw [show (kvV S.kvs).length = S.kvs.length from List.length_map _]
        exact szt (by omega)
      refine ⟨e, _, he1, trivial, fun od => ?_⟩
      have he2 : (upd H1 e (.frz od (.dK (kvV S.kvs)))) e = some (.frz od (.dK (kvV S.kvs))) := upd_same
      have back : ∀ H2, Same (upd H1 e (.frz od (.dK (kvV S.kvs)))) H2 → Same H1 (upd H2 e (.dK (kvV S.kvs))) := fun H2 s b o ez => by
        by_cases hbe : b = e
        · rw [hbe] at ez ⊢
          rw [upd_same, ← he1, ez]
        · rw [upd_ne hbe]
          exact s b o (by rw [upd_ne hbe]; exact ez)
      revert he2 back
      generalize upd H1 e (.frz od (.dK (kvV S.kvs))) = HL
      intro he2 back
      refine ⟨_, rfl, e, od, rfl, .inl ⟨_, he2, fun D' hD' => lc_map walk_keys S.kvs (fun q => V.str q.1) (List.length_map _) (fun i H x H' ⟨e, k, v, h1, h2⟩ => ⟨e, let ⟨q, y1, y2⟩ := keys_of h1; ⟨q, y1, h2.trans y2⟩⟩) (fun _ => true) (fun q => V.str q.1) hD' kvl (fun H1 s1 => s1 _ _ he2) (fun q hq H2 R S' s2 g1 g2 => ⟨rfl, ⟨_, rfl, _, rfl, g1 rfl _ (Same.refl _)⟩⟩) (fun H2 s2 g2 => ?_)⟩⟩
      have sB := back _ s2
      refine ⟨s2 _ _ he2, ?_⟩
      have nd : D' ≠ e := fun z => by
        subst z
        rw [hD'] at he2
        cases he2
      have hl : (upd H2 e (.dK (kvV S.kvs))) D' = some (.lst ((S.kvs.map (·.1)).map V.str)) := by
        rw [upd_ne nd, g2, filt1, List.map_map]
        rfl
      revert hl sB
      generalize upd H2 e (.dK (kvV S.kvs)) = H3
      intro sB hl
      refine ⟨D', S.kvs.map (·.1), rfl, SqL.of hl, by rw [List.length_map]; omega, fun ks2 p3 hperm2 hsort2 hp3 => ?_⟩
      obtain rfl := sorted_eqZ hsort2 hsort (hperm2.trans hperm.symm)
      have s3 : Same H1 (upd H3 p3 (.lst (ks2.map V.str))) := sB.trans (same_new hp3)
      have h3 : (upd H3 p3 (.lst (ks2.map V.str))) p3 = some (.lst (ks2.map V.str)) := upd_same
      have rows3 := rows.keep s3
      have hd3 := hd1.keep s3
      have he3 := s3 _ _ he1
      have s03 := s1.trans s3
      clear hl sB hp3 back he2
      have hD3 := s3 _ _ hDl1
      clear s3
      revert h3 hD3 rows3 hd3 he3 s03
      show _ → _ → _ → _ → _ → _ → tSeq _ _ _ _ (upd H3 p3 (.lst (ks2.map V.str)))
      generalize upd H3 p3 (.lst (ks2.map V.str)) = H4
      intro h3 rows3 hd3 he3 s03 hD3
      have hd4 := hd3
      obtain ⟨⟨dx4, hb4⟩, ht4, hS4⟩ := hd4
      have inK : ∀ k ∈ ks2, k ∈ S.kvs.map (·.1) := fun k hk => hperm.mem_iff.mp hk
      have lenK : ks2.length ≤ 11 := by
        have := hperm.length_eq
        rw [List.length_map] at this
        omega
      refine ⟨_, rfl, ?_⟩
      refine ⟨_, rfl, p3, rfl, ⟨_, SqL.of h3⟩, fun D2 hD2 => ?_⟩
      refine lc_list (xs := ks2.map V.str) (fun i H' => CvS S.kvs H4 D2 ((ks2.take i).map V.str) H') ⟨same_new hD2, [], rfl, upd_same, (fun _ z => nomatch z), fun _ z => nomatch z⟩ (fun i H' _ c => SqL.of (c.1 _ _ h3)) ?_ ?_
      · intro i x H5 hi cv
        rw [List.getElem?_map] at hi
        obtain ⟨k, hk, rfl⟩ := Option.map_eq_some_iff.mp hi
        obtain ⟨z, hz⟩ := lk_some (inK k (List.mem_of_getElem? hk))
        refine ⟨rfl, ?_⟩
        simp only [tYes, if_true]
        have g := DGet.k (k := .inr k) (cv.1 _ _ he3)
        rw [valV_kv, hz] at g
        refine ⟨_, rfl, _, rfl, _, rfl, e, _, rfl, g, by show 2 ≤ sizeLine; decide, fun p hpn => ?_⟩
        obtain ⟨acc, a1, a2, a3, a4⟩ := cv.more hD2 hz hpn
        refine ⟨acc, a1, ?_, ?_⟩
        · rw [a2, List.length_map, List.length_take]
          exact Nat.lt_of_le_of_lt (Nat.min_le_right _ _) (szt (by omega))
        · rw [one_more hk, List.map_append]
          exact a4
      · rintro H5 ⟨s5, xs2, hys2, hD5, nD2, rows5⟩
        rw [List.length_map, List.take_length] at hys2
        have exs2 : xs2.map (·.1) = ks2 := by
          have h2 : (xs2.map (·.1)).map V.str = ks2.map V.str := by rw [List.map_map]; exact hys2.symm
          exact (List.map_inj_right (fun a b h => by injection h)).mp h2
        have ok := hp.rows inK
        have r1 : DpAll K H5 (xs.map fun q => V.ref q.2.2) (ks2.map (rowD S.kvs)) := by
          have := (rows3.keep s5).dp (K := K)
          rw [← exs, List.map_map]
          exact this
        have r2 : DpAll K H5 (xs2.map fun q => V.ref q.2.2) (ks2.map (rowD S.kvs)) := by
          have := rows5.dp (K := K)
          rw [← exs2, List.map_map]
          exact this
        refine ⟨.list (ks2.map (rowD S.kvs)), .list (ks2.map (rowD S.kvs)), .lst (SqL.of (s5 _ _ hD3)) r1, .lst (SqL.of hD5) r2, rows_shaped ok, rows_shaped ok, _, rfl, ?_⟩
        rw [rows_eqv ok]
        have hd5 := hd3.keep s5
        have hb5 := s5 _ _ hb4
        have he5 := s5 _ _ he3
        have s05 := s03.trans s5
        refine ⟨_, rfl, b, _, _, rfl, hb5, b, t, S, rfl, hd5, _, rfl, szl (by omega), _, rfl, e, _, rfl, he5, rfl, ?_⟩
        refine ⟨false, (by show V.bl (!decide (V.int ((S.kvs.length : Nat) : Int) = V.int (((kvV S.kvs).length : Nat) : Int))) = _; rw [show (kvV S.kvs).length = S.kvs.length from List.length_map _]; simp), iteF ?_⟩
        clear rows5 nD2 hD5 r1 r2 hys2 exs2 h3 rows3 hD3
        refine ⟨e, _, he5, trivial, fun od2 => ?_⟩
        have he6 : (upd H5 e (.frz od2 (.dK (kvV S.kvs)))) e = some (.frz od2 (.dK (kvV S.kvs))) := upd_same
        have hd6 : Dk D.a_Disk (upd H5 e (.frz od2 (.dK (kvV S.kvs)))) b t S := by
          obtain ⟨⟨dy, y1⟩, y2, y3⟩ := hd5
          exact ⟨⟨dy, by rw [upd_ne eb.symm]; exact y1⟩, by rw [upd_ne et.symm]; exact y2, y3⟩
        have back : ∀ H2, Same (upd H5 e (.frz od2 (.dK (kvV S.kvs)))) H2 → Same H5 (upd H2 e (.dK (kvV S.kvs))) := fun H2 s b o ez => by
          by_cases hbe : b = e
          · rw [hbe] at ez ⊢
            rw [upd_same, ← he5, ez]
          · rw [upd_ne hbe]
            exact s b o (by rw [upd_ne hbe]; exact ez)
        revert he6 hd6 back
        generalize upd H5 e (.frz od2 (.dK (kvV S.kvs))) = HL
        intro he6 hd6 back
        refine ⟨_, rfl, e, od2, rfl, .inl ⟨_, he6, fun D' hD' => lc_map walk_keys S.kvs (fun q => V.str q.1) (List.length_map _) (fun i H x H' ⟨e, k, v, h1, h2⟩ => ⟨e, let ⟨q, y1, y2⟩ := keys_of h1; ⟨q, y1, h2.trans y2⟩⟩) (fun _ => false) (fun q => V.str q.1) hD' kvl (fun H1 s1 => s1 _ _ he6) (fun q hq H2 R S' s2 g1 g2 => ?_) (fun H2 s2 g2 => ?_)⟩⟩
        · have hd7 := hd6.keep s2
          have hd8 := hd7
          obtain ⟨⟨dz, hb7⟩, ht7, hS7⟩ := hd7
          refine ⟨rfl, _, rfl, _, rfl, b, dz, _, rfl, hb7, b, t, S, _, true, rfl, hd8, .inl ⟨q.1, rfl, by rw [lk_nd hS.nd hq]; rfl⟩, true, rfl, _, rfl, ?_⟩
          exact g2 rfl _ (Same.refl _)
        · have sB := back _ s2
          refine ⟨s2 _ _ he6, ?_⟩
          have nd2 : D' ≠ e := fun z => by
            subst z
            rw [hD'] at he6
            cases he6
          have hl2 : (upd H2 e (.dK (kvV S.kvs))) D' = some (.lst []) := by
            rw [upd_ne nd2, g2, show S.kvs.filter (fun _ => false) = [] from by simp]
            rfl
          revert hl2 sB
          generalize upd H2 e (.dK (kvV S.kvs)) = H7
          intro sB hl2
          refine ⟨by show 0 ≤ sizeLine; decide, fun p7 hp7 => ?_⟩
          have s7 : Same H5 (upd H7 p7 (.lst [])) := sB.trans (same_new hp7)
          have r8 : (upd H7 p7 (.lst [])) D' = some (.lst []) := same_new hp7 _ _ hl2
          refine ⟨.list [], .list [], .lst (SqL.of r8) .nil, .lst (SqL.of upd_same) .nil, by decide +kernel, by decide +kernel, _, rfl, ?_⟩
          rw [show (!PyData.eqv (.list []) (.list [])) = false from by decide +kernel]
          have hd8 := hd5.keep s7
          have he8 := s7 _ _ he5
          have s08 := s05.trans s7
          revert hd8 he8 s08
          clear r8 s7
          show _ → _ → _ → ite _ _ _
          rw [if_neg (by decide)]
          generalize upd H7 p7 (.lst []) = H8
          intro hd8 he8 s08
          have hd9 := hd8
          obtain ⟨⟨d8, hb8⟩, ht8, hS8⟩ := hd9
          refine ⟨_, rfl, b, d8, _, rfl, hb8, b, t, S, _, false, rfl, hd8, .inl ⟨_, rfl, by rw [hp.none]; rfl⟩, ?_⟩
          refine ⟨false, rfl, _, rfl, iteF ?_⟩
          refine ⟨_, rfl, b, d8, _, rfl, hb8, b, t, S, rfl, hd8, _, rfl, b, d8, _, rfl, hb8, b, t, S, rfl, hd8, by show 2 ≤ sizeLine; decide, fun l1 hl1 => ?_⟩
          have sl1 : Same H8 (upd H8 l1 (.lst [.int ((usedOf S.kvs : Nat) : Int), .int ((S.acts : Nat) : Int)])) := same_new hl1
          have h9 : (upd H8 l1 (.lst [.int ((usedOf S.kvs : Nat) : Int), .int ((S.acts : Nat) : Int)])) l1 = some (.lst [.int ((usedOf S.kvs : Nat) : Int), .int ((S.acts : Nat) : Int)]) := upd_same
          have he9 := sl1 _ _ he8
          have s09 := s08.trans sl1
          clear sl1 hb8 ht8
          revert h9 he9 s09
          generalize upd H8 l1 (.lst [.int ((usedOf S.kvs : Nat) : Int), .int ((S.acts : Nat) : Int)]) = H9
          intro h9 he9 s09
          refine ⟨e, _, he9, trivial, fun od3 => ?_⟩
          have he10 : (upd H9 e (.frz od3 (.dK (kvV S.kvs)))) e = some (.frz od3 (.dK (kvV S.kvs))) := upd_same
          have back3 : ∀ H2, Same (upd H9 e (.frz od3 (.dK (kvV S.kvs)))) H2 → Same H9 (upd H2 e (.dK (kvV S.kvs))) := fun H2 s b o ez => by
            by_cases hbe : b = e
            · rw [hbe] at ez ⊢
              rw [upd_same, ← he9, ez]
            · rw [upd_ne hbe]
              exact s b o (by rw [upd_ne hbe]; exact ez)
          revert he10 back3
          generalize upd H9 e (.frz od3 (.dK (kvV S.kvs))) = HM
          intro he10 back3
          refine ⟨_, rfl, e, od3, rfl, .inl ⟨_, he10, fun D3 hD3 => lc_map walk_keys S.kvs (fun q => V.str q.1) (List.length_map _) (fun i H x H' ⟨e, k, v, h1, h2⟩ => ⟨e, let ⟨q, y1, y2⟩ := keys_of h1; ⟨q, y1, h2.trans y2⟩⟩) (fun _ => true) (fun q => V.int ((q.2.length : Nat) : Int)) hD3 kvl (fun H1 s1 => s1 _ _ he10) (fun q hq H2 R S' s2 g1 g2 => ?_) (fun H2 s2 g2 => ?_)⟩⟩
          · have g : DGet H2 e (kV (.inr q.1)) (valV (kvV S.kvs) (.inr q.1)) := .inl ⟨_, (.inr q.1 : Key), .inr ⟨od3, s2 _ _ he10⟩, rfl, rfl⟩
            rw [valV_kv, lk_nd hS.nd hq] at g
            exact ⟨rfl, ⟨_, rfl, _, rfl, e, _, rfl, g, _, rfl, szL (Nat.le_trans (hS.short q hq).1 (by decide)), g1 rfl _ (Same.refl _)⟩⟩
          · have sB3 := back3 _ s2
            refine ⟨s2 _ _ he10, ?_⟩
            have nd3 : D3 ≠ e := fun z => by
              subst z
              rw [hD3] at he10
              cases he10
            have hl3 : (upd H2 e (.dK (kvV S.kvs))) D3 = some (.lst ((S.kvs.map fun q => ((q.2.length : Nat) : Int)).map V.int)) := by
              rw [upd_ne nd3, g2, filt1, List.map_map]
              rfl
            revert hl3 sB3
            generalize upd H2 e (.dK (kvV S.kvs)) = HN
            intro sB3 hl3
            refine ⟨D3, _, rfl, SqL.of hl3, _, rfl, by show 2 ≤ sizeLine; decide, fun l2 hl2 => ?_⟩
            have es : (S.kvs.map fun q => ((q.2.length : Nat) : Int)).sum = ((usedOf S.kvs : Nat) : Int) := sum_cast S.kvs
            rw [es]
            have sn : Same HN (upd HN l2 (.lst [.int ((usedOf S.kvs : Nat) : Int), .int ((S.acts : Nat) : Int)])) := same_new hl2
            refine ⟨.list [.int ((usedOf S.kvs : Nat) : Int), .int ((S.acts : Nat) : Int)], .list [.int ((usedOf S.kvs : Nat) : Int), .int ((S.acts : Nat) : Int)], .lst (SqL.of (sn _ _ (sB3 _ _ h9))) (.cons (.int _) (.cons (.int _) .nil)), .lst (SqL.of upd_same) (.cons (.int _) (.cons (.int _) .nil)), ?_, ?_, ?_⟩
            · simp [SeqAt.shaped, PyData.canLay0, PyData.canLayAll0, PyData.depth, PyData.depthAll]
            · simp [SeqAt.shaped, PyData.canLay0, PyData.canLayAll0, PyData.depth, PyData.depthAll]
            · rw [show PyData.eqv (.list [.int ((usedOf S.kvs : Nat) : Int), .int ((S.acts : Nat) : Int)]) (.list [.int ((usedOf S.kvs : Nat) : Int), .int ((S.acts : Nat) : Int)]) = true from SeqAt.eqv_refl _ (by simp [PyData.canLay0, PyData.canLayAll0])]
              exact q _ ((s09.trans sB3).trans sn)
end

/-! ## k59: what is drawn -/
section
variable {P : Program} {w : World} {K : PySem.W.Frag} {mg : Str → Option Value} {base : Heap} {D : Ad}
open TL SX
/-! ### what is drawn -/
def spPick : Sp := fun vs H Q _ => ∃ (d c p : Addr) (n : Nat) (xs : List V), vs = [.ref d, .ref p] ∧ Dr H d c n ∧ n ≤ 10 ^ 10 ∧ p ≠ d ∧ H p = some (.lst xs) ∧ xs ≠ [] ∧ xs.length ≤ 100 ∧
  ∀ v ∈ xs, ∀ H', Dr H' d c (n + 1) → But d H H' → Q v H'
theorem ok_pick (T : Tex K mg D) : FnOk P w K mg base CX0 3 D.a_pick D.d_pick P_pick spPick := by
  have G_next : FnOk P w K mg base CX0 2 D.a_next D.d_next P_next spNext := ok_next T
  refine T.pick_F.ok S_pick (fun vs H Q E h => ?_) (fun cdv A outer s H vs Q E hr h => ?_)
  · obtain ⟨d, c, p, n, xs, rfl, _⟩ := h
    rfl
  · obtain ⟨d, c, p, n, xs, rfl, hd, hn, np, hp, h0, hl, q⟩ := h
    have l0 : 0 < xs.length := List.length_pos_iff.mpr h0
    refine ⟨_, (pss_one (ps_ret (pe_ix ix_list (pv 1) (pe_call G_next (hr.mono (by decide)) (by rfl) T.next_g T.next_F.kp T.next_b .nil pass0 (pa_cons (pv 0) (pa_cons (pe_callB call_len_seq (by rfl) T.b_len (by decide +kernel) (pa_cons (pv 1) pa_nil)) pa_nil))) (fun _ _ => rfl)))), ?_⟩
    refine ⟨_, rfl, _, rfl, _, rfl, p, _, rfl, .inl (SqL.of hp), d, c, (xs.length : Int), n, rfl, hd, by omega, by omega, by omega, fun v H1 a1 b1 d1 u1 => ?_⟩
    obtain ⟨x, e1, m1⟩ := at_in (xs := xs) a1 b1
    exact ⟨p, _, _, _, rfl, rfl, SqL.of (u1 _ _ hp np), e1, q x m1 H1 d1 u1⟩
def spPlace : Sp := fun vs H Q _ => ∃ (d c : Addr) (n : Nat), vs = [.ref d] ∧ Dr H d c n ∧ n ≤ 10 ^ 10 ∧ ∀ k ∈ PL, ∀ H', Dr H' d c (n + 1) → But d H H' → Q (.str k) H'
theorem ok_place (T : Tex K mg D) : FnOk P w K mg base CX0 4 D.a_place D.d_place P_place spPlace := by
  have G_pick : FnOk P w K mg base CX0 3 D.a_pick D.d_pick P_pick spPick := ok_pick T
  refine T.place_F.ok S_place (fun vs H Q E h => ?_) (fun cdv A outer s H vs Q E hr h => ?_)
  · obtain ⟨d, c, n, rfl, _⟩ := h
    rfl
  · obtain ⟨d, c, n, rfl, hd, hn, q⟩ := h
    refine ⟨_, (pss_cons (ps_set (i := 1) S_place.nd rfl (Or.inl rfl) (pe_lst (pa_cons pe_str (pa_cons pe_str (pa_cons pe_str (pa_cons pe_str (pa_cons pe_str (pa_cons pe_str (pa_cons pe_str (pa_cons pe_str (pa_cons pe_str (pa_cons pe_str (pa_cons pe_str pa_nil)))))))))))))
      (pss_one (ps_ret (pe_call G_pick (hr.mono (by decide)) (by rfl) T.pick_g T.pick_F.kp T.pick_b .nil pass0 (pa_cons (pv 0) (pa_cons (pv 1) pa_nil)))))), ?_⟩
    refine ⟨by show 11 ≤ sizeLine; decide, fun p hp => ?_⟩
    have pd : p ≠ d := fun z => by
      obtain ⟨_, _, _, _, y, _⟩ := hd
      rw [← z, hp] at y
      cases y
    refine ⟨_, rfl, _, rfl, d, c, p, n, PL.map V.str, rfl, hd.new hp, hn, pd, upd_same, by decide, by decide, fun v hv H' d' b' => ?_⟩
    obtain ⟨k, hk, rfl⟩ := List.mem_map.mp hv
    exact q k hk H' d' fun b o e nb => b' b o (same_new hp b o e) nb
def spWords : Sp := fun vs H Q _ => ∃ (d c : Addr) (n : Nat), vs = [.ref d] ∧ Dr H d c n ∧ n ≤ 10 ^ 10 ∧ ∀ k ∈ WD, ∀ H', Dr H' d c (n + 1) → But d H H' → Q (.str k) H'
theorem ok_words (T : Tex K mg D) : FnOk P w K mg base CX0 4 D.a_words D.d_words P_words spWords := by
  have G_pick : FnOk P w K mg base CX0 3 D.a_pick D.d_pick P_pick spPick := ok_pick T
  refine T.words_F.ok S_words (fun vs H Q E h => ?_) (fun cdv A outer s H vs Q E hr h => ?_)
  · obtain ⟨d, c, n, rfl, _⟩ := h
    rfl
  · obtain ⟨d, c, n, rfl, hd, hn, q⟩ := h
    refine ⟨_, (pss_one (ps_ret (pe_call G_pick (hr.mono (by decide)) (by rfl) T.pick_g T.pick_F.kp T.pick_b .nil pass0 (pa_cons (pv 0) (pa_cons (pe_lst (pa_cons pe_str (pa_cons pe_str (pa_cons pe_str (pa_cons pe_str (pa_cons pe_str (pa_cons pe_str (pa_cons pe_str pa_nil)))))))) pa_nil))))), ?_⟩
    refine ⟨_, rfl, by show 7 ≤ sizeLine; decide, fun p hp => ?_⟩
    have pd : p ≠ d := fun z => by
      obtain ⟨_, _, _, _, y, _⟩ := hd
      rw [← z, hp] at y
      cases y
    refine ⟨d, c, p, n, WD.map V.str, rfl, hd.new hp, hn, pd, upd_same, by decide, by decide, fun v hv H' d' b' => ?_⟩
    obtain ⟨k, hk, rfl⟩ := List.mem_map.mp hv
    exact q k hk H' d' fun b o e nb => b' b o (same_new hp b o e) nb
/-! ### the rest of the class -/
def spRoom (C : Addr) : Sp := fun vs H Q _ => ∃ (a t : Addr) (S : DS), vs = [.ref a] ∧ Dk C H a t S ∧ Q (oN S.room) H
theorem ok_Disk_room (T : Tex K mg D) : FnOk P w K mg base CX0 1 D.a_Disk_room D.d_Disk_room P_Disk_room (spRoom D.a_Disk) := by
  refine T.Disk_room_F.ok S_Disk_room (fun vs H Q E h => ?_) (fun cdv A outer s H vs Q E hr h => ?_)
  · obtain ⟨a, t, S, rfl, _⟩ := h
    rfl
  · obtain ⟨a, t, S, rfl, hd, q⟩ := h
    obtain ⟨⟨dx, ha⟩, ht, hS⟩ := hd
    exact ⟨_, (pss_one (ps_ret (pe_fld (pv 0) rfl))), _, rfl, a, _, dx, _, _, rfl, ha, T.Disk_cl, T.Disk_n_room, gr _ _ _ _ _, q⟩
def spOn (C : Addr) : Sp := fun vs H Q _ => ∃ (a t : Addr) (S : DS), vs = [.ref a] ∧ Dk C H a t S ∧ ∀ H', But2 a t H H' → Dk C H' a t { S with power := none } → Q .non H'
theorem ok_Disk_power_on (T : Tex K mg D) : FnOk P w K mg base CX0 1 D.a_Disk_power_on D.d_Disk_power_on P_Disk_power_on (spOn D.a_Disk) := by
  refine T.Disk_power_on_F.ok S_Disk_power_on (fun vs H Q E h => ?_) (fun cdv A outer s H vs Q E hr h => ?_)
  · obtain ⟨a, t, S, rfl, _⟩ := h
    rfl
  · obtain ⟨a, t, S, rfl, hd, q⟩ := h
    have nat := hd.ne
    obtain ⟨⟨dx, ha⟩, ht, hS⟩ := hd
    refine ⟨_, (pss_one (ps_fld (pv 0) pe_non rfl)), ?_⟩
    refine ⟨_, rfl, a, _, dx, _, rfl, ha, T.Disk_cl, T.Disk_n_power, by show 5 < 1000; decide, ?_⟩
    have e : putF ("_power" : Str) V.non (dF t S) = dF t { S with power := none } := dq _ _ _ _ _ _
    rw [e]
    exact q _ But2.at ⟨⟨dx, upd_same⟩, by rw [upd_ne nat.symm]; exact ht, ⟨hS.nd, hS.few, hS.short⟩⟩
end

/-! ## k59: disks compared, twins -/
section
open PySem.Spec PyProof.Rows
def hitTx : List (Str × Str) → List (Str × Str) → Bool
  | [], _ => true
  | (k, v) :: r, ls => match lkS ls k with
    | none => false
    | some z => (v == z) && hitTx r ls
def eqTx (ks ls : List (Str × Str)) : Bool := ks.length == ls.length && hitTx ks ls
theorem hits_tx {A : Around} {s : Shared} {ls : List (Str × Str)} {vb : List (Key × Value)} (rb : KV (kvV ls) vb) : ∀ {ks : List (Str × Str)} {va : List (Key × Value)}, KV (kvV ks) va → PySem.W.KeqHits A s vb va (hitTx ks ls)
  | [], va, ra => by
    cases ra
    exact .nil
  | (k, v) :: r, va, ra => by
    cases ra with
    | cons h t =>
      rename_i q qs
      obtain ⟨key, val⟩ := q
      obtain ⟨h1, h2⟩ := h
      have h1 : (Sum.inr k : Key) = key := h1
      subst h1
      obtain ⟨tk, rfl⟩ : ∃ tk, val = Value.str v tk := h2
      have rr := rb.val (.inr k : Key)
      rw [valV_kv] at rr
      have ih := hits_tx (A := A) (s := s) rb (ks := r) t
      unfold hitTx
      cases hk : lkS ls k with
      | none =>
        rw [hk] at rr
        cases hv : valueAt vb (Sum.inr k : Key) with
        | none => exact .miss hv
        | some y => rw [hv] at rr; exact False.elim rr
      | some z =>
        rw [hk] at rr
        cases hv : valueAt vb (Sum.inr k : Key) with
        | none => rw [hv] at rr; exact False.elim rr
        | some y =>
          rw [hv] at rr
          obtain ⟨tz, rfl⟩ : ∃ tz, y = Value.str z tz := rr
          exact .hit hv (SeqAt.EqAt.str_str v tk z tz) ih
def rEqTx : R2 := fun x y H Q => ∃ a b ks ls, x = .ref a ∧ y = .ref b ∧ H a = some (.dK (kvV ks)) ∧ H b = some (.dK (kvV ls)) ∧ Q (.bl (eqTx ks ls)) H
theorem op_eqTx {X : Cx} (hu : X.A.units < cLine) : OpR X (compareOp .Eq) rEqTx := by
  intro pins s σ H x y v u Q I rx ry h
  obtain ⟨a, b, ks, ls, rfl, rfl, ea, eb, q⟩ := h
  obtain rfl : v = Value.ref a := rx
  obtain rfl : u = Value.ref b := ry
  obtain ⟨_, ya, va, ra, da⟩ := (show ObjOk X.prog X.w H s.heap a (.dK (kvV ks)) from I.hok a _ ea)
  obtain ⟨_, yb, vb, rb, db⟩ := (show ObjOk X.prog X.w H s.heap b (.dK (kvV ls)) from I.hok b _ eb)
  have hl : (va.length == vb.length && hitTx ks ls) = eqTx ks ls := by
    rw [← ra.length, ← rb.length]
    unfold eqTx kvV
    rw [List.length_map, List.length_map]
  exact PySem.W.keq_eq (knd := mixKind X.prog X.w) (r := hitTx ks ls) ya yb da db hu (fun _ => hits_tx rb ra) ⟨.bl _, H, I, by rw [hl]; rfl, q⟩
theorem hit_self {L : List (Str × Str)} (nd : (L.map (·.1)).Nodup) : ∀ {l : List (Str × Str)}, (∀ q ∈ l, q ∈ L) → hitTx l L = true
  | [], _ => rfl
  | (k, v) :: r, h => by
    unfold hitTx
    rw [lk_nd nd (h (k, v) List.mem_cons_self)]
    simp [hit_self nd (l := r) fun q hq => h q (List.mem_cons_of_mem _ hq)]
theorem eqTx_self {L : List (Str × Str)} (nd : (L.map (·.1)).Nodup) : eqTx L L = true := by
  unfold eqTx
  rw [hit_self nd fun _ h => h]
  simp
/-- texts that are the same find the same under every path -/
theorem hit_lk {ls : List (Str × Str)} : ∀ {ks : List (Str × Str)}, hitTx ks ls = true → ∀ q ∈ ks, lkS ls q.1 = some q.2
  | (k, v) :: r, h, q, hq => by
    unfold hitTx at h
    cases e : lkS ls k with
    | none => rw [e] at h; cases h
    | some z =>
      rw [e] at h
      simp only [Bool.and_eq_true, beq_iff_eq] at h
      rcases List.mem_cons.mp hq with rfl | hq
      · rw [e, h.1]
      · exact hit_lk h.2 q hq
end
section
variable {P : Program} {w : World} {K : PySem.W.Frag} {mg : Str → Option Value} {base : Heap} {D : Ad}
open TL SX
def spDEq (K : PySem.W.Frag) (C : Addr) : Sp := fun vs H Q _ => ∃ (a t : Addr) (S : DS) (y : V), vs = [.ref a, y] ∧ Dk C H a t S ∧
  ((∃ (b u : Addr) (R : DS), y = .ref b ∧ Dk C H b u R ∧ Q (.bl (eqTx S.kvs R.kvs)) H) ∨ (∃ ty, TyX K H y ty ∧ PySem.W.kitOne K ty (.ref C) = some false ∧ Q (.bl false) H))
theorem ok_Disk_eq (T : Tex K mg D) : FnOk P w K mg base CX0 1 D.a_Disk_eq D.d_Disk_eq P_Disk_eq (spDEq K D.a_Disk) := by
  refine T.Disk_eq_F.ok S_Disk_eq (fun vs H Q E h => ?_) (fun cdv A outer s H vs Q E hr h => ?_)
  · obtain ⟨a, t, S, y, rfl, _⟩ := h
    rfl
  · obtain ⟨a, t, S, y, rfl, ⟨⟨dx, ha⟩, ht, hS⟩, h⟩ := h
    refine ⟨_, (pss_one (ps_ret (pe_and (pe_callB call_isi (by rfl) T.b_isinstance (by decide +kernel) (pa_cons (pv 1) (pa_cons (pe_glob (v := .ref D.a_Disk) rfl T.Disk_g rfl) pa_nil))) (pe_one (pe_cmpR (op_eqTx hr.units0) (pe_fld (pv 0) rfl) (pe_fld (pv 1) rfl) (nomark _)))))), ?_⟩
    rcases h with ⟨b, u, R, rfl, ⟨⟨dy, hb⟩, hu, hR⟩, q⟩ | ⟨ty, hty, hk, q⟩
    · refine ⟨_, rfl, _, _, _, _, true, rfl, .own _, .base (.ins hb T.Disk_cl T.Disk_si.ca T.Disk_si.cn T.Disk_si.ct T.Disk_si.cm), kit_self, true, rfl, iteT ?_⟩
      exact ⟨_, rfl, a, _, dx, _, _, rfl, ha, T.Disk_cl, T.Disk_n_texts, gt' _ _ _ _ _, _, rfl, b, _, dy, _, _, rfl, hb, T.Disk_cl, T.Disk_n_texts, gt' _ _ _ _ _, t, u, _, _, rfl, rfl, ht, hu, q⟩
    · exact ⟨_, rfl, y, .ref D.a_Disk, ty, .ref D.a_Disk, false, rfl, .own _, hty, hk, false, rfl, iteF q⟩
theorem dtx (r t u n p x : V) : putF ("_texts" : Str) x (d5 r t u n p) = d5 r x u n p := by simp [putF, xrt, Ne.symm xtu, Ne.symm xta, Ne.symm xtp, d5]
/-- a twin: the same texts and room, no acts, power -/
def spTwin (C : Addr) : Sp := fun vs H Q _ => ∃ (a t : Addr) (S : DS), vs = [.ref a] ∧ Dk C H a t S ∧
  ∀ x u H', Same H H' → H x = none → H u = none → Dk C H' x u ⟨S.kvs, S.room, 0, none⟩ → Q (.ref x) H'
theorem ok_Disk_twin (T : Tex K mg D) : FnOk P w K mg base CX0 6 D.a_Disk_twin D.d_Disk_twin P_Disk_twin (spTwin D.a_Disk) := by
  have G_Disk_init : FnOk P w K mg base (L2.CX P w) 4 D.a_Disk_init D.d_Disk_init P_Disk_init (spDInit K D.a_Disk D.a_BadCount) := ok_Disk_init T
  refine T.Disk_twin_F.ok S_Disk_twin (fun vs H Q E h => ?_) (fun cdv A outer s H vs Q E hr h => ?_)
  · obtain ⟨a, t, S, rfl, _⟩ := h
    rfl
  · obtain ⟨a, t, S, rfl, hd, q⟩ := h
    obtain ⟨⟨dx, ha⟩, ht, hS⟩ := hd
    refine ⟨_, (pss_cons (ps_set (i := 1) S_Disk_twin.nd rfl (Or.inl rfl) (pe_makeS T.Disk_mk G_Disk_init (hr.mono (by decide)) rfl T.Disk_g T.Disk_init_b .nil (fun σ pins H s e s' => passL pins σ H s e s') (pa_cons (pe_fld (pv 0) rfl) pa_nil)))
      (pss_cons (ps_fld (pv 1) (pe_callTy call_dictD (by rfl) T.b_dict (by decide +kernel) (pa_cons (pe_fld (pv 0) rfl) pa_nil)) rfl)
      (pss_cons (ps_fld (pv 1) (pe_fld (pv 0) rfl) rfl)
      (pss_one (ps_ret (pv 1)))))), ?_⟩
    refine ⟨_, rfl, a, _, dx, _, _, rfl, ha, T.Disk_cl, T.Disk_n_room, gr _ _ _ _ _, ?_⟩
    refine fun x dy hx hdy hne => ⟨x, dy, _, rfl, upd_same, .inl ⟨S.room, rfl, fun u H3 hu k3 dk3 => ⟨rfl, ?_⟩⟩⟩
    have s3 : Same H H3 := fun b o e => k3 b o (by rw [upd_ne (ne_of_none e hx), upd_ne (ne_of_none e hdy)]; exact e) (ne_of_none e hx)
    have hu0 : H u = none := by
      by_cases h1 : u = x
      · rw [h1, upd_same] at hu
        cases hu
      · rw [upd_ne h1] at hu
        by_cases h2 : u = dy
        · rw [h2, upd_same] at hu
          cases hu
        · rw [upd_ne h2] at hu
          exact hu
    have ha3 := s3 _ _ ha
    have ht3 := s3 _ _ ht
    obtain ⟨⟨d3, hx3⟩, hu3, hS3⟩ := dk3
    refine ⟨_, rfl, a, _, dx, _, _, rfl, ha3, T.Disk_cl, T.Disk_n_texts, gt' _ _ _ _ _, t, _, rfl, .inl ht3, fun p hp => ?_⟩
    have px : p ≠ x := (ne_of_none hx3 hp).symm
    have ap : a ≠ p := ne_of_none ha3 hp
    have nax : a ≠ x := ne_of_none ha hx
    have hx4 : (upd H3 p (.dK (kvV S.kvs))) x = some (.ins D.a_Disk d3 (dF u ⟨[], S.room, 0, none⟩)) := by rw [upd_ne px.symm]; exact hx3
    have ha4 : (upd H3 p (.dK (kvV S.kvs))) a = some (.ins D.a_Disk dx (dF t S)) := by rw [upd_ne ap]; exact ha3
    refine ⟨_, rfl, x, _, d3, _, rfl, hx4, T.Disk_cl, T.Disk_n_texts, by show 5 < 1000; decide, ?_⟩
    have e1 : putF ("_texts" : Str) (V.ref p) (dF u ⟨[], S.room, 0, none⟩) = d5 (oN S.room) (.ref p) (.int ((usedOf [] : Nat) : Int)) (.int ((0 : Nat) : Int)) (oN none) := dtx _ _ _ _ _ _
    rw [e1]
    have ha5 : (upd (upd H3 p (.dK (kvV S.kvs))) x (.ins D.a_Disk d3 (d5 (oN S.room) (.ref p) (.int ((usedOf [] : Nat) : Int)) (.int ((0 : Nat) : Int)) (oN none)))) a = some (.ins D.a_Disk dx (dF t S)) := by rw [upd_ne nax]; exact ha4
    refine ⟨_, rfl, a, _, dx, _, _, rfl, ha5, T.Disk_cl, T.Disk_n_used, gu _ _ _ _ _, _, rfl, x, _, d3, _, rfl, upd_same, T.Disk_cl, T.Disk_n_used, by show 5 < 1000; decide, ?_⟩
    rw [du, upd_upd]
    have sN : Same H (upd (upd H3 p (.dK (kvV S.kvs))) x (.ins D.a_Disk d3 (d5 (oN S.room) (.ref p) (.int ((usedOf S.kvs : Nat) : Int)) (.int ((0 : Nat) : Int)) (oN none)))) := fun b o e => by
      rw [upd_ne (ne_of_none e hx), upd_ne (ne_of_none (s3 _ _ e) hp)]
      exact s3 _ _ e
    refine ⟨_, rfl, q x p _ sN hx ?_ ⟨⟨d3, upd_same⟩, by rw [upd_ne px, upd_same], ⟨hS.nd, hS.few, hS.short⟩⟩⟩
    cases e : H p with
    | none => rfl
    | some o => have := s3 _ _ e; rw [hp] at this; cases this
end

/-! ## k59: one act in both -/
section
variable {P : Program} {w : World} {K : PySem.W.Frag} {mg : Str → Option Value} {base : Heap} {D : Ad}
open TL SX
theorem kv_dr {L : List (Str × Str)} {c : Addr} {a l u : Int} : HO.dK (kvV L) ≠ HO.dK (drK c a l u) := fun h => by
  injection h with h
  cases L with
  | nil => cases h
  | cons q L =>
    have : ((.inr q.1 : Key), V.str q.2) = ((.inr ("cells" : Str) : Key), V.ref c) := (List.cons.inj h).1
    injection this with _ h2
    cases h2
/-- a disk without room or cuts beside a dict of its texts -/
structure Bd (C : Addr) (H : Hp) (d c n b t e : Nat) (S : DS) : Prop where
  dr : Dr H d c n
  dk : Dk C H b t S
  he : H e = some (.dK (kvV S.kvs))
  po : Pool S.kvs
  te : t ≠ e
  ro : S.room = none
  pw : S.power = none
theorem Bd.few {C : Addr} {H : Hp} {d c n b t e : Nat} {S : DS} (h : Bd C H d c n b t e S) : S.kvs.length ≤ 11 := h.po.few h.dk.2.2.nd
theorem Bd.ne {C : Addr} {H : Hp} {d c n b t e : Nat} {S : DS} (h : Bd C H d c n b t e S) : d ≠ b ∧ d ≠ t ∧ d ≠ e ∧ c ≠ b ∧ c ≠ t ∧ c ≠ e ∧ b ≠ t ∧ b ≠ e := by
  obtain ⟨⟨cs, p, k, u, h1, h2, _⟩, ⟨⟨dx, h3⟩, h4, _⟩, h6, _⟩ := h
  have N : ∀ {x y : Addr} {o p : HO}, H x = some o → H y = some p → o ≠ p → x ≠ y := fun e1 e2 d z => by rw [z, e2] at e1; exact d (Option.some.inj e1).symm
  exact ⟨N h1 h3 nofun, N h1 h4 (Ne.symm kv_dr), N h1 h6 (Ne.symm kv_dr), N h2 h3 nofun, N h2 h4 nofun, N h2 h6 nofun, N h3 h4 nofun, N h3 h6 nofun⟩
theorem Bd.keep {C : Addr} {H H' : Hp} {d c n b t e : Nat} {S : DS} (h : Bd C H d c n b t e S) (x : Same H H') : Bd C H' d c n b t e S := ⟨h.dr.keep x, h.dk.keep x, x _ _ h.he, h.po, h.te, h.ro, h.pw⟩
theorem Bd.drawn {C : Addr} {H H' : Hp} {d c n b t e : Nat} {S : DS} (h : Bd C H d c n b t e S) {m : Nat} (D' : Dr H' d c m) (x : But d H H') : Bd C H' d c m b t e S := by
  obtain ⟨n1, n2, n3, _⟩ := h.ne
  obtain ⟨h1, ⟨⟨dx, h2⟩, h3, h4⟩, h5, h6, h7, h8, h9⟩ := h
  exact ⟨D', ⟨⟨dx, x _ _ h2 n1.symm⟩, x _ _ h3 n2.symm, h4⟩, x _ _ h5 n3.symm, h6, h7, h8, h9⟩
theorem Bd.mono {C : Addr} {H : Hp} {d c n m b t e : Nat} {S : DS} (h : Bd C H d c n b t e S) (q : n ≤ m) : Bd C H d c m b t e S := ⟨h.dr.mono q, h.dk, h.he, h.po, h.te, h.ro, h.pw⟩
def Ot (d b t e : Addr) (H H' : Hp) : Prop := ∀ x o, H x = some o → x ≠ d → x ≠ b → x ≠ t → x ≠ e → H' x = some o
theorem Ot.trans {d b t e : Addr} {H H1 H2 : Hp} (x : Ot d b t e H H1) (y : Ot d b t e H1 H2) : Ot d b t e H H2 := fun z o h n1 n2 n3 n4 => y z o (x z o h n1 n2 n3 n4) n1 n2 n3 n4
theorem Ot.same {d b t e : Addr} {H H1 : Hp} (x : Same H H1) : Ot d b t e H H1 := fun z o h _ _ _ _ => x z o h
theorem Ot.but {d b t e : Addr} {H H1 : Hp} (x : But d H H1) : Ot d b t e H H1 := fun z o h n _ _ _ => x z o h n
theorem Ot.bt {d b t e : Addr} {H H1 : Hp} (x : But2 b t H H1) : Ot d b t e H H1 := fun z o h _ n2 n3 _ => x z o h n2 n3
theorem Ot.e1 {d b t e : Addr} {H H1 : Hp} (x : But e H H1) : Ot d b t e H H1 := fun z o h _ _ _ n => x z o h n
theorem Dr.b2 {H H' : Hp} {d c x y : Addr} {n : Nat} (h : Dr H d c n) (e : But2 x y H H') (h1 : d ≠ x) (h2 : d ≠ y) (h3 : c ≠ x) (h4 : c ≠ y) : Dr H' d c n := by
  obtain ⟨cs, p, l, u, x, y, r⟩ := h
  exact ⟨cs, p, l, u, e _ _ x h1 h2, e _ _ y h3 h4, r⟩
theorem Pool.put {L : List (Str × Str)} (h : Pool L) {k z : Str} (hk : k ∈ PL) (hz : z ∈ WX) : Pool (putS L k z) := by
  induction L with
  | nil => intro q hq; rw [List.mem_singleton.mp hq]; exact ⟨hk, hz⟩
  | cons a r ih =>
    obtain ⟨y, v⟩ := a
    have hr : Pool r := fun q hq => h q (List.mem_cons_of_mem _ hq)
    intro q hq
    unfold putS at hq
    split at hq
    · rcases List.mem_cons.mp hq with rfl | hq
      · exact ⟨(h (y, v) List.mem_cons_self).1, hz⟩
      · exact hr q hq
    · rcases List.mem_cons.mp hq with rfl | hq
      · exact h _ List.mem_cons_self
      · exact ih hr q hq
theorem Pool.drop {L : List (Str × Str)} (h : Pool L) (k : Str) : Pool (dropS L k) := fun q hq => h q (mem_drop hq)
theorem pl_path : ∀ k ∈ PL, pathT k = true ∧ k.length ≤ 80 := by decide +kernel
theorem wx_text : ∀ k ∈ WX, textT k = true ∧ k.length ≤ 1000 := by decide +kernel
theorem wd_wx {z : Str} (h : z ∈ WD) : z ∈ WX := List.mem_append_left _ h
theorem dk_none {S : DS} {t : Addr} {m : Str} (h : m = ("write" : Str) ∨ m = ("remove" : Str) ∨ m = ("cut_after" : Str) ∨ m = ("power_on" : Str) ∨ m = ("twin" : Str) ∨ m = ("paths" : Str)) : (dF t S).lookup m = none := by
  rcases h with rfl | rfl | rfl | rfl | rfl | rfl <;> exact d5_none (by decide +kernel) (by decide +kernel) (by decide +kernel) (by decide +kernel) (by decide +kernel) _ _ _ _ _
theorem put_mem {k z : Str} : ∀ {L : List (Str × Str)} {q : Str × Str}, q ∈ putS L k z → q ∈ L ∨ q.2 = z
  | [], q, h => by rw [List.mem_singleton.mp h]; exact .inr rfl
  | (y, v) :: r, q, h => by
    unfold putS at h
    split at h
    · rcases List.mem_cons.mp h with rfl | h
      · exact .inr rfl
      · exact .inl (List.mem_cons_of_mem _ h)
    · rcases List.mem_cons.mp h with rfl | h
      · exact .inl List.mem_cons_self
      · exact (put_mem h).imp (List.mem_cons_of_mem _) id
theorem write_mono {H : Hp} {vs : List V} {C B1 B2 B3 B4 : Addr} {Q Q' : VK} {E : XK} (h : spWrite K C B1 B2 B3 B4 vs H Q E) (m : ∀ y H', Q y H' → Q' y H') : spWrite K C B1 B2 B3 B4 vs H Q' E := by
  obtain ⟨a, t, S, x, y, e, hd, h⟩ := h
  refine ⟨a, t, S, x, y, e, hd, ?_⟩
  rcases h with h | h | ⟨p, z, h1, h2, h3, h4, h5, h6, h7⟩
  · exact .inl h
  · exact .inr (.inl h)
  · refine .inr (.inr ⟨p, z, h1, h2, h3, h4, h5, h6, ?_⟩)
    rcases h7 with h7 | h7 | ⟨k1, k2, k3⟩
    · exact .inl h7
    · exact .inr (.inl h7)
    · exact .inr (.inr ⟨k1, k2, fun H' b d => m _ _ (k3 H' b d)⟩)
def spActed (C : Addr) : Sp := fun vs H Q _ => ∃ (d c n b t e : Nat) (S : DS), vs = [.ref d, .ref b, .ref e] ∧ Bd C H d c n b t e S ∧ n ≤ 10 ^ 9 ∧
  ∀ H' n' S', n' ≤ n + 4 → Ot d b t e H H' → Bd C H' d c n' b t e S' → S'.acts = S.acts + 1 → (∀ y ∈ S'.kvs, y ∈ S.kvs ∨ y.2 ∈ WD) → Q (.bl true) H'
theorem ok_acted (T : Tex K mg D) : FnOk P w K mg base CX0 8 D.a_acted D.d_acted P_acted (spActed D.a_Disk) := by
  have G_next : FnOk P w K mg base CX0 2 D.a_next D.d_next P_next spNext := ok_next T
  have G_place : FnOk P w K mg base CX0 4 D.a_place D.d_place P_place spPlace := ok_place T
  have G_words : FnOk P w K mg base CX0 4 D.a_words D.d_words P_words spWords := ok_words T
  have G_Disk_write : FnOk P w K mg base (L2.CX P w) 5 D.a_Disk_write D.d_Disk_write P_Disk_write (spWrite K D.a_Disk D.a_BadPath D.a_BadText D.a_PowerCut D.a_NoRoom) := ok_Disk_write T
  have G_Disk_remove : FnOk P w K mg base (L2.CX P w) 6 D.a_Disk_remove D.d_Disk_remove P_Disk_remove (spRemove K D.a_Disk D.a_NoPath D.a_PowerCut) := ok_Disk_remove T
  refine T.acted_F.ok S_acted (fun vs H Q E h => ?_) (fun cdv A outer s H vs Q E hr h => ?_)
  · obtain ⟨d, c, n, b, t, e, S, rfl, _⟩ := h
    rfl
  · obtain ⟨d, c, n, b, t, e, S, rfl, B, hn, q⟩ := h
    have hu := hu_of hr
    refine ⟨_, (pss_cons (ps_par (i := 3) (j := 4) (by rfl) S_acted.nd rfl rfl (by decide) rfl rfl (pa_cons (pe_call G_place (hr.mono (by decide)) (by rfl) T.place_g T.place_F.kp T.place_b .nil pass0 (pa_cons (pv 0) pa_nil)) (pa_cons (pe_call G_words (hr.mono (by decide)) (by rfl) T.words_g T.words_F.kp T.words_b .nil pass0 (pa_cons (pv 0) pa_nil)) pa_nil)) (by rfl))
      (pss_cons (ps_if (PW.pt (pw_and (pt_cmp (pc_din hu (pv 3) (pv 2))) (pw_and1 (pt_cmpR op_gt (pe_call G_next (hr.mono (by decide)) (by rfl) T.next_g T.next_F.kp T.next_b .nil pass0 (pa_cons (pv 0) (pa_cons pe_int pa_nil))) pe_int (nomark _))))) (pss_cons (ps_expr (pe_dpop1 (pv 2) (pv 3) ⟨by rfl, by rfl, by rfl, by rfl⟩))
      (pss_one (ps_ret (pe_cmpR op_isN (pe_meth (pv 1) T.Disk_cl ⟨T.Disk_remove_at, T.Disk_remove_fn, T.Disk_remove_F.kp⟩ G_Disk_remove (hr.mono (by decide)) T.Disk_remove_b .nil passL (pa_cons (pv 3) pa_nil)) pe_non (nomark _))))) pss_nil)
      (pss_cons (ps_dput hu (pv 2) (pv 3) (pv 4) rfl)
      (pss_cons (ps_if (pt_cmpR op_eq (pe_call G_next (hr.mono (by decide)) (by rfl) T.next_g T.next_F.kp T.next_b .nil pass0 (pa_cons (pv 0) (pa_cons pe_int pa_nil))) pe_int (nomark _)) (pss_one (ps_ret (pe_cmpR op_isN (pe_meth (pv 1) T.Disk_cl ⟨T.Disk_write_at, T.Disk_write_fn, T.Disk_write_F.kp⟩ G_Disk_write (hr.mono (by decide)) T.Disk_write_b .nil passL (pa_cons (pv 3) (pa_cons (pv 4) pa_nil))) pe_non (nomark _)))) pss_nil)
      (pss_one (ps_ret (pe_cmpR op_isN (pe_methKA (pv 1) T.Disk_cl ⟨T.Disk_write_at, T.Disk_write_fn, T.Disk_write_F.kp⟩ G_Disk_write (hr.mono (by decide)) T.Disk_write_kn2_text passL (pa_cons (pv 3) pa_nil) (pk_cons (pv 4) pk_nil)) pe_non (nomark _)))))))), ?_⟩
    refine ⟨_, rfl, d, c, n, rfl, B.dr, by omega, fun k hk H1 D1 u1 => ?_⟩
    have B1 := B.drawn D1 u1
    refine ⟨_, rfl, d, c, n + 1, rfl, D1, by omega, fun z hz H2 D2 u2 => ?_⟩
    have B2 := B1.drawn D2 u2
    have o2 : Ot d b t e H H2 := (Ot.but u1).trans (Ot.but u2)
    clear B B1 D1 D2 u1 u2
    refine ⟨_, _, rfl, ?_⟩
    have pk := pl_path k hk
    have wz := wx_text z (wd_wx hz)
    have gk := DGet.k (k := .inr k) B2.he
    rw [valV_kv] at gk
    -- writing, from any state
    have wr : ∀ (H3 : Hp) (n3 : Nat), n3 ≤ n + 4 → Ot d b t e H H3 → Dr H3 d c n3 → Dk D.a_Disk H3 b t S → H3 e = some (.dK (kvV (putS S.kvs k z))) → ∃ dx, H3 b = some (.ins D.a_Disk dx (dF t S)) ∧ spWrite K D.a_Disk D.a_BadPath D.a_BadText D.a_PowerCut D.a_NoRoom [.ref b, .str k, .str z] H3 (fun y H4 => y = .non ∧ Q (.bl true) H4) E0 := fun H3 n3 hn3 o3 D3 dk3 he3 => by
      obtain ⟨dx, hb⟩ := dk3.1
      obtain ⟨m1, m2, m3, m4, m5, m6, m7, m8⟩ := B2.ne
      refine ⟨dx, hb, b, t, S, _, _, rfl, dk3, .inr (.inr ⟨k, z, rfl, rfl, pk.1, wz.1, wz.2, by have := B2.few; omega, .inr (.inr ⟨by rw [B2.pw]; simp, (fun r er => by rw [B2.ro] at er; cases er), fun H4 b4 dk4 => ⟨rfl, ?_⟩⟩)⟩)⟩
      exact q H4 n3 (S.put k z) hn3 (o3.trans (Ot.bt b4)) ⟨D3.b2 b4 m1 m2 m4 m5, dk4, b4 _ _ he3 m8.symm B2.te.symm, B2.po.put hk (wd_wx hz), B2.te, B2.ro, by show down S.power = none; rw [B2.pw]; rfl⟩ rfl fun y hy => (put_mem hy).imp id fun e => by rw [e]; exact hz
    obtain ⟨m1, m2, m3, m4, m5, m6, m7, m8⟩ := B2.ne
    have te := B2.te
    have fewL : (kvV S.kvs).length < sizeLine := by
      rw [show (kvV S.kvs).length = S.kvs.length from List.length_map _]
      have := B2.few
      exact szt (by omega)
    -- putting into the law's dict, then writing
    have put : ∀ {H3 : Hp} {n3 : Nat}, Bd D.a_Disk H3 d c n3 b t e S → DPut H3 e (.str k) (.str z) (upd H3 e (.dK (kvV (putS S.kvs k z)))) := fun {H3 n3} B3 => by
      have := DPut.k (k := .inr k) (v := .str z) B3.he fewL
      rw [putK_kv k z _ B3.dk.2.2.nd] at this
      exact this
    refine ⟨_, rfl, _, rfl, e, _, rfl, gk, ?_⟩
    cases hlk : lkS S.kvs k with
    | none =>
      refine ⟨false, rfl, iteF ?_⟩
      have hn3 : n + 1 + 1 ≤ n + 3 := by omega
      have B3 := B2
      have o3 := o2
      refine ⟨_, rfl, _, rfl, _, rfl, e, _, rfl, put B3, ?_⟩
      have b4 : But e H2 (upd H2 e (.dK (kvV (putS S.kvs k z)))) := But.upd
      obtain ⟨⟨dx, hb⟩, ht, hS⟩ := B3.dk
      have hb4 := b4 _ _ hb m8
      have dk4 : Dk D.a_Disk (upd H2 e (.dK (kvV (putS S.kvs k z)))) b t S := ⟨⟨dx, hb4⟩, b4 _ _ ht te, hS⟩
      have D4 := B3.dr.b2 (x := e) (y := e) (fun y u ey ny _ => b4 y u ey ny) m3 m3 m6 m6
      refine ⟨_, rfl, d, c, 2, _, rfl, D4, by omega, by omega, by omega, fun v2 H5 _ _ D5 u5 => ?_⟩
      have h5 := u5 _ _ upd_same m3.symm
      have dk5 : Dk D.a_Disk H5 b t S := ⟨⟨dx, u5 _ _ hb4 m1.symm⟩, u5 _ _ dk4.2.1 m2.symm, hS⟩
      obtain ⟨d5, hb5, w5⟩ := wr H5 _ (by omega) (o3.trans ((Ot.e1 b4).trans (Ot.but u5))) D5 dk5 h5
      refine ⟨rfl, _, rfl, ?_⟩
      refine ite2 (fun _ => ?_) (fun _ => ?_)
      · refine ⟨_, rfl, b, d5, _, rfl, hb5, dk_none (.inl rfl), _, rfl, _, rfl, ?_⟩
        show spWrite K D.a_Disk D.a_BadPath D.a_BadText D.a_PowerCut D.a_NoRoom [.ref b, .str k, .str z] H5 (fun x H' => V.non = V.non ∧ Q (.bl (decide (x = V.non))) H') E0
        refine write_mono w5 fun y H6 h6 => ?_
        obtain ⟨rfl, h6⟩ := h6
        exact ⟨rfl, h6⟩
      · refine ⟨_, rfl, b, d5, _, rfl, hb5, dk_none (.inl rfl), _, rfl, _, rfl, rfl, rfl, ?_⟩
        show spWrite K D.a_Disk D.a_BadPath D.a_BadText D.a_PowerCut D.a_NoRoom [.ref b, .str k, .str z] H5 (fun x H' => V.non = V.non ∧ Q (.bl (decide (x = V.non))) H') E0
        refine write_mono w5 fun y H6 h6 => ?_
        obtain ⟨rfl, h6⟩ := h6
        exact ⟨rfl, h6⟩
    | some zz =>
      refine ⟨true, rfl, iteT ?_⟩
      refine ⟨_, rfl, d, c, 3, n + 1 + 1, rfl, B2.dr, by omega, by omega, by omega, fun v H3 v0 v3 D3 u3 => ?_⟩
      have B3 := B2.drawn D3 u3
      have o3 := o2.trans (Ot.but (d := d) (b := b) (t := t) (e := e) u3)
      refine ⟨_, _, rfl, rfl, _, rfl, ?_⟩
      refine ite2 (fun _ => ?_) (fun _ => ?_)
      · refine ⟨_, rfl, e, rfl, .inl ⟨_, .inl B3.he⟩, _, rfl, _, .inr k, .str zz, B3.he, rfl, by rw [valV_kv, hlk]; rfl, ?_⟩
        rw [dropK_kv]
        have b4 : But e H3 (upd H3 e (.dK (kvV (dropS S.kvs k)))) := But.upd
        have h4 : (upd H3 e (.dK (kvV (dropS S.kvs k)))) e = some (.dK (kvV (dropS S.kvs k))) := upd_same
        obtain ⟨⟨dx, hb⟩, ht, hS⟩ := B3.dk
        have hb4 := b4 _ _ hb m8
        have dk4 : Dk D.a_Disk (upd H3 e (.dK (kvV (dropS S.kvs k)))) b t S := ⟨⟨dx, hb4⟩, b4 _ _ ht te, hS⟩
        refine ⟨_, rfl, b, dx, _, rfl, hb4, dk_none (.inr (.inl rfl)), _, rfl, b, t, S, _, rfl, dk4, .inr ⟨k, zz, rfl, hlk, .inr ⟨by rw [B3.pw]; simp, fun H5 b5 dk5 => ⟨rfl, ?_⟩⟩⟩⟩
        exact q H5 _ (S.drop k) (by omega) (o3.trans ((Ot.e1 b4).trans (Ot.bt b5))) ⟨(D3.b2 (x := e) (y := e) (fun y u ey ny _ => b4 y u ey ny) m3 m3 m6 m6).b2 b5 m1 m2 m4 m5, dk5, b5 _ _ h4 m8.symm te.symm, B3.po.drop k, te, B3.ro, by show down S.power = none; rw [B3.pw]; rfl⟩ rfl fun y hy => .inl (mem_drop hy)
      · have hn3 : n + 1 + 1 + 1 ≤ n + 3 := by omega
        refine ⟨_, rfl, _, rfl, _, rfl, e, _, rfl, put B3, ?_⟩
        have b4 : But e H3 (upd H3 e (.dK (kvV (putS S.kvs k z)))) := But.upd
        obtain ⟨⟨dx, hb⟩, ht, hS⟩ := B3.dk
        have hb4 := b4 _ _ hb m8
        have dk4 : Dk D.a_Disk (upd H3 e (.dK (kvV (putS S.kvs k z)))) b t S := ⟨⟨dx, hb4⟩, b4 _ _ ht te, hS⟩
        have D4 := B3.dr.b2 (x := e) (y := e) (fun y u ey ny _ => b4 y u ey ny) m3 m3 m6 m6
        refine ⟨_, rfl, d, c, 2, _, rfl, D4, by omega, by omega, by omega, fun v2 H5 _ _ D5 u5 => ?_⟩
        have h5 := u5 _ _ upd_same m3.symm
        have dk5 : Dk D.a_Disk H5 b t S := ⟨⟨dx, u5 _ _ hb4 m1.symm⟩, u5 _ _ dk4.2.1 m2.symm, hS⟩
        obtain ⟨d5, hb5, w5⟩ := wr H5 _ (by omega) (o3.trans ((Ot.e1 b4).trans (Ot.but u5))) D5 dk5 h5
        refine ⟨rfl, _, rfl, ?_⟩
        refine ite2 (fun _ => ?_) (fun _ => ?_)
        · refine ⟨_, rfl, b, d5, _, rfl, hb5, dk_none (.inl rfl), _, rfl, _, rfl, ?_⟩
          show spWrite K D.a_Disk D.a_BadPath D.a_BadText D.a_PowerCut D.a_NoRoom [.ref b, .str k, .str z] H5 (fun x H' => V.non = V.non ∧ Q (.bl (decide (x = V.non))) H') E0
          refine write_mono w5 fun y H6 h6 => ?_
          obtain ⟨rfl, h6⟩ := h6
          exact ⟨rfl, h6⟩
        · refine ⟨_, rfl, b, d5, _, rfl, hb5, dk_none (.inl rfl), _, rfl, _, rfl, rfl, rfl, ?_⟩
          show spWrite K D.a_Disk D.a_BadPath D.a_BadText D.a_PowerCut D.a_NoRoom [.ref b, .str k, .str z] H5 (fun x H' => V.non = V.non ∧ Q (.bl (decide (x = V.non))) H') E0
          refine write_mono w5 fun y H6 h6 => ?_
          obtain ⟨rfl, h6⟩ := h6
          exact ⟨rfl, h6⟩
end

/-! ## k59: paths by their beginning -/
section
variable {P : Program} {w : World} {K : PySem.W.Frag} {mg : Str → Option Value} {base : Heap} {D : Ad}
open TL SX
open PyProof.Rows (sortedS)
theorem noStop0 : NoStop K E0 := fun _ _ _ h => h.elim
def FR : List Str := ["", "a", "site/", "site/a", "store/1", "zz", "past/0"]
theorem strs_dp {H : Hp} : ∀ ks : List Str, DpAll K H (ks.map V.str) (ks.map PyData.str)
  | [] => .nil
  | k :: r => .cons (.str k) (strs_dp r)
theorem strs_lay : ∀ ks : List Str, (∀ k ∈ ks, PyData.strOk k = true) → PyData.canLayAll0 (ks.map PyData.str) = true
  | [], _ => rfl
  | k :: r, h => by
    show (PyData.canLay0 (.str k) && PyData.canLayAll0 (r.map PyData.str)) = true
    rw [strs_lay r fun q hq => h q (List.mem_cons_of_mem _ hq)]
    simp [PyData.canLay0, h k List.mem_cons_self]
theorem strs_depth : ∀ ks : List Str, PyData.depthAll (ks.map PyData.str) = 0
  | [] => rfl
  | k :: r => by
    show max (PyData.depth (.str k)) (PyData.depthAll (r.map PyData.str)) = 0
    rw [strs_depth r]
    rfl
theorem strs_eq {ks : List Str} (h : ∀ k ∈ ks, PyData.strOk k = true) : SeqAt.shaped (.list (ks.map PyData.str)) = true ∧ PyData.eqv (.list (ks.map PyData.str)) (.list (ks.map PyData.str)) = true := by
  have e : PyData.canLay0 (.list (ks.map PyData.str)) = true := by
    simp only [PyData.canLay0]
    exact strs_lay ks h
  refine ⟨?_, SeqAt.eqv_refl _ e⟩
  unfold SeqAt.shaped
  rw [e]
  simp only [PyData.depth, strs_depth]
  rfl
theorem cut_starts : ∀ k ∈ PL, ∀ f ∈ FR, decide (cutS k none (some ((f.length : Nat) : Int)) = f) = Txt.startswith k f := by decide +kernel
theorem fr_len : ∀ f ∈ FR, f.length ≤ 10 := by decide +kernel
def spPathsRight (C : Addr) : Sp := fun vs H Q _ => ∃ (b t e : Addr) (S : DS), vs = [.ref b, .ref e] ∧ Dk C H b t S ∧ H e = some (.dK (kvV S.kvs)) ∧ e ≠ t ∧ Pool S.kvs ∧ ∀ H', Same H H' → Q (.bl true) H'
theorem ok_paths_right (T : Tex K mg D) : FnOk P w K mg base CX0 6 D.a_paths_right D.d_paths_right P_paths_right (spPathsRight D.a_Disk) := by
  have G_Disk_paths : GFn P w K mg base 2 D.a_Disk_paths D.d_Disk_paths P_Disk_paths (spPaths D.a_Disk) := ok_Disk_paths T
  refine T.paths_right_F.ok S_paths_right (fun vs H Q E h => ?_) (fun cdv A outer s H vs Q E hr h => ?_)
  · obtain ⟨b, t, e, S, rfl, _⟩ := h
    rfl
  · obtain ⟨b, t, e, S, rfl, hd, he, et, hp, q⟩ := h
    have few := hp.few hd.2.2.nd
    have kvl : (kvV S.kvs).length < sizeLine := by
      rw [show (kvV S.kvs).length = S.kvs.length from List.length_map _]
      exact szt (by omega)
    refine ⟨_, (pss_cons (ps_for PassesOwn.never rfl (pi_tup (pe_tup (pa_cons pe_str (pa_cons pe_str (pa_cons pe_str (pa_cons pe_str (pa_cons pe_str (pa_cons pe_str (pa_cons pe_str pa_nil))))))))) (pg_name (i := 2) S_paths_right.nd rfl (Or.inr rfl)) (pss_cons (ps_setLc (i := 3) (own := [(("_law_spot" : Str), 4)]) (g := gName 4) rfl S_paths_right.nd rfl rfl (sw_true rfl rfl rfl (by decide +kernel)) (pi_list (pe_callB cr_sortedS (by rfl) T.b_sorted (by decide +kernel) (pa_cons (pe_lock (pe_lc (own := [(("_law_one" : Str), 5)]) (g := gName 5) (tt := tYes) rfl S_paths_right.nd (pi_keys (pv 1)) (blkOk_by (N := N_paths_right) (sc := defScope s_paths_right) (by decide +kernel)) (fun _ _ _ _ _ => pg_name (i := 5) S_paths_right.nd rfl (Or.inl rfl)) (fun _ _ _ _ _ => pts_nil) (fun _ _ _ _ _ => (pe_callTy SkE.call_str_str (by rfl) T.b_str (by decide +kernel) (pa_cons (pv 5) pa_nil))))) pa_nil))) (blkOk_by (N := N_paths_right) (sc := defScope s_paths_right) (by decide +kernel)) (fun _ _ _ _ _ => pg_name (i := 4) S_paths_right.nd rfl (Or.inl rfl)) (fun _ _ _ _ _ => (pts_one (pt_cmpR op_eq (pe_slice sl_str (pv 4) po_none (po_some (pe_callB call_len_str (by rfl) T.b_len (by decide +kernel) (pa_cons (pv 2) pa_nil)))) (pv 2) (nomark _)))) (fun _ _ _ _ _ => (pv 4)))
      (pss_one (ps_if (PW.pt (pw_or (pt_cmpR (op_neD hr.units) (pe_listG (pgen_meth (pv 0) T.Disk_cl ⟨T.Disk_paths_at, T.Disk_paths_fn, T.Disk_paths_F.kp⟩ G_Disk_paths (hr.mono (by decide)) T.Disk_paths_b .nil (pa_cons (pv 2) pa_nil)) passL noStop0 (hr.mono (by decide)) (by rfl) T.b_list (by decide +kernel)) (pv 3) (nomark _)) (pw_or1 (pt_cmpR (op_neD hr.units) (pe_listG (pgen_methK0 (pv 0) T.Disk_cl ⟨T.Disk_paths_at, T.Disk_paths_fn, T.Disk_paths_F.kp⟩ G_Disk_paths (hr.mono (by decide)) T.Disk_paths_kn1_beginning (pk_cons (pv 2) pk_nil)) passL noStop0 (hr.mono (by decide)) (by rfl) T.b_list (by decide +kernel)) (pv 3) (nomark _))))) (pss_one (ps_ret pe_bl)) pss_nil))))
      (pss_one (ps_ret pe_bl))), ?_⟩
    refine ⟨by show 7 ≤ sizeLine; decide, fun tp htp => ⟨tp, rfl, ⟨_, sqT_of upd_same⟩, for_tup (K := K) (xs := FR.map V.str) (fun i σ H' => ∃ o2 o3 o4 o5 : Option V, σ = [some (.ref b), some (.ref e), o2, o3, o4, o5] ∧ Same H H' ∧ H' tp = some (.tup (FR.map V.str))) ⟨_, _, _, _, rfl, same_new htp, upd_same⟩ (fun i σ H' _ ⟨_, _, _, _, _, _, h⟩ => sqT_of h) ?_ ?_⟩⟩
    · rintro i x σ H1 hi ⟨o2, o3, o4, o5, rfl, s1, ht1⟩
      rw [List.getElem?_map] at hi
      obtain ⟨fr, hfr, rfl⟩ := Option.map_eq_some_iff.mp hi
      have hfm : fr ∈ FR := List.mem_of_getElem? hfr
      have hd1 := hd.keep s1
      have he1 := s1 _ _ he
      refine ⟨e, _, he1, trivial, fun od => ?_⟩
      have he2 : (upd H1 e (.frz od (.dK (kvV S.kvs)))) e = some (.frz od (.dK (kvV S.kvs))) := upd_same
      have back : ∀ H2, Same (upd H1 e (.frz od (.dK (kvV S.kvs)))) H2 → Same H1 (upd H2 e (.dK (kvV S.kvs))) := fun H2 s b o ez => by
        by_cases hbe : b = e
        · rw [hbe] at ez ⊢
          rw [upd_same, ← he1, ez]
        · rw [upd_ne hbe]
          exact s b o (by rw [upd_ne hbe]; exact ez)
      revert he2 back
      generalize upd H1 e (.frz od (.dK (kvV S.kvs))) = HL
      intro he2 back
      refine ⟨_, rfl, e, od, rfl, .inl ⟨_, he2, fun D' hD' => lc_map walk_keys S.kvs (fun q => V.str q.1) (List.length_map _) (fun i H x H' ⟨e, k, v, h1, h2⟩ => ⟨e, let ⟨q, y1, y2⟩ := keys_of h1; ⟨q, y1, h2.trans y2⟩⟩) (fun _ => true) (fun q => V.str q.1) hD' kvl (fun H1 s1 => s1 _ _ he2) (fun q hq H2 R S' s2 g1 g2 => ⟨rfl, ⟨_, rfl, _, rfl, g1 rfl _ (Same.refl _)⟩⟩) (fun H2 s2 g2 => ?_)⟩⟩
      have sB := back _ s2
      refine ⟨s2 _ _ he2, ?_⟩
      have nd : D' ≠ e := fun z => by
        subst z
        rw [hD'] at he2
        cases he2
      have hl : (upd H2 e (.dK (kvV S.kvs))) D' = some (.lst ((S.kvs.map (·.1)).map V.str)) := by
        rw [upd_ne nd, g2, filt1, List.map_map]
        rfl
      revert hl sB
      generalize upd H2 e (.dK (kvV S.kvs)) = H3
      intro sB hl
      refine ⟨D', S.kvs.map (·.1), rfl, SqL.of hl, by rw [List.length_map]; omega, fun ks p3 hperm hsort hp3 => ?_⟩
      have s3 : Same H1 (upd H3 p3 (.lst (ks.map V.str))) := sB.trans (same_new hp3)
      have h3 : (upd H3 p3 (.lst (ks.map V.str))) p3 = some (.lst (ks.map V.str)) := upd_same
      have inP : ∀ k ∈ ks, k ∈ PL := fun k hk => by
        obtain ⟨y, hy, rfl⟩ := List.mem_map.mp (hperm.mem_iff.mp hk)
        exact (hp y hy).1
      have lenK : ks.length ≤ 11 := by
        have := hperm.length_eq
        rw [List.length_map] at this
        omega
      refine ⟨p3, rfl, ⟨_, SqL.of h3⟩, fun D2 hD2 => lc_lst ks V.str (fun k => Txt.startswith k fr) V.str hD2 (szt (by omega)) (SqL.of h3) (fun k hk H4 R S' s4 g1 g2 => ?_) (fun H4 s4 g4 => ?_)⟩
      · refine ⟨rfl, _, rfl, _, rfl, fr, rfl, szL (by have := fr_len fr hfm; omega), _, rfl, k, rfl, szL (by have := (pl_path k (inP k hk)).2; omega), _, rfl, rfl, ?_⟩
        have ec : V.bl (decide (V.str (cutS k none (some ((fr.length : Nat) : Int))) = V.str fr)) = V.bl (Txt.startswith k fr) := by
          rw [← cut_starts k (inP k hk) fr hfm, show decide (V.str (cutS k none (some ((fr.length : Nat) : Int))) = V.str fr) = decide (cutS k none (some ((fr.length : Nat) : Int)) = fr) from decide_eq_decide.mpr ⟨fun h => by injection h, fun h => by rw [h]⟩]
        refine ⟨Txt.startswith k fr, ec, ?_⟩
        cases hst : Txt.startswith k fr with
        | true => exact ⟨_, rfl, g1 hst _ (Same.refl _)⟩
        | false => exact g2 hst _ (Same.refl _)
      · have s04 := (s1.trans s3).trans s4
        have hd4 := hd.keep s04
        have ht4 := (s3.trans s4) _ _ ht1
        have okk : ∀ k ∈ ks.filter (fun k => Txt.startswith k fr), PyData.strOk k = true := fun k hk => (pl_ok k (inP k (List.mem_filter.mp hk).1)).1
        obtain ⟨y1, y2⟩ := strs_eq okk
        obtain ⟨⟨dx, hb4⟩, _⟩ := hd4
        have hd4 := hd.keep s04
        refine ⟨_, rfl, b, dx, _, rfl, hb4, dk_none (.inr (.inr (.inr (.inr (.inr rfl))))), _, rfl, b, t, S, fr, rfl, hd4, by omega, fun H5 ks2 s5 hperm2 hsort2 p5 hp5 => ?_⟩
        obtain rfl := sorted_eqZ hsort2 hsort (hperm2.trans hperm.symm)
        have n5 : Same H5 (upd H5 p5 (.lst ((ks2.filter fun k => Txt.startswith k fr).map V.str))) := same_new hp5
        have a5 := n5 _ _ (s5 _ _ g4)
        refine ⟨_, rfl, .list ((ks2.filter fun k => Txt.startswith k fr).map PyData.str), .list ((ks2.filter fun k => Txt.startswith k fr).map PyData.str), .lst (SqL.of upd_same) (strs_dp _), .lst (SqL.of a5) (strs_dp _), y1, y1, _, rfl, ?_⟩
        rw [y2]
        have s06 := (s04.trans s5).trans n5
        have hd6 := hd.keep s06
        obtain ⟨⟨dx6, hb6⟩, _⟩ := hd6
        have hd6 := hd.keep s06
        refine ⟨_, rfl, b, dx6, _, rfl, hb6, dk_none (.inr (.inr (.inr (.inr (.inr rfl))))), _, rfl, rfl, b, t, S, fr, rfl, hd6, by omega, fun H7 ks3 s7 hperm3 hsort3 p7 hp7 => ?_⟩
        obtain rfl := sorted_eqZ hsort3 hsort2 (hperm3.trans hperm2.symm)
        have n7 : Same H7 (upd H7 p7 (.lst ((ks3.filter fun k => Txt.startswith k fr).map V.str))) := same_new hp7
        have a7 := n7 _ _ (s7 _ _ a5)
        refine ⟨_, rfl, .list ((ks3.filter fun k => Txt.startswith k fr).map PyData.str), .list ((ks3.filter fun k => Txt.startswith k fr).map PyData.str), .lst (SqL.of upd_same) (strs_dp _), .lst (SqL.of a7) (strs_dp _), y1, y1, ?_⟩
        rw [y2]
        refine ⟨false, rfl, iteF ?_⟩
        exact ⟨_, _, _, _, rfl, (s06.trans s7).trans n7, n7 _ _ (s7 _ _ (n5 _ _ (s5 _ _ ht4)))⟩
    · rintro σ H1 ⟨o2, o3, o4, o5, rfl, s1, _⟩
      exact q _ s1
end

/-! ## k59: twins -/
section
variable {P : Program} {w : World} {K : PySem.W.Frag} {mg : Str → Option Value} {base : Heap} {D : Ad}
open TL SX
theorem wx_bang : ∀ z ∈ WD, z ++ (("!" : String) : Str) ∈ WX ∧ ∀ y ∈ WD, z ++ (("!" : String) : Str) ≠ y := by decide +kernel
/-- the law's own texts, none with a sign more -/
def Plain7 (L : List (Str × Str)) : Prop := ∀ q ∈ L, q.2 ∈ WD
theorem lk_put {p z : Str} : ∀ {l : List (Str × Str)}, lkS (putS l p z) p = some z
  | [] => by simp [putS, lkS]
  | (k, v) :: r => by
    unfold putS
    split
    · rename_i h; simp [lkS, h]
    · rename_i h
      unfold lkS
      rw [if_neg h]
      exact lk_put
theorem mem_put {p z : Str} : ∀ {l : List (Str × Str)}, (p, z) ∈ putS l p z
  | [] => by simp [putS]
  | (k, v) :: r => by
    unfold putS
    split
    · rename_i h; rw [h]; exact List.mem_cons_self
    · exact List.mem_cons_of_mem _ mem_put
/-- written anew, no longer equal -/
theorem eq_put {L : List (Str × Str)} {p z : Str} (h : Plain7 L) (hz : ∀ y ∈ WD, z ≠ y) : eqTx (putS L p z) L = false := by
  cases e : eqTx (putS L p z) L with
  | false => rfl
  | true =>
    unfold eqTx at e
    rw [Bool.and_eq_true] at e
    have := hit_lk e.2 _ (mem_put (l := L) (p := p) (z := z))
    exact absurd rfl (hz z (by have := h _ (lk_mem this); exact this))
theorem drop_put {p z : Str} : ∀ {l : List (Str × Str)}, dropS (putS l p z) p = dropS l p
  | [] => by simp [putS, dropS]
  | (k, v) :: r => by
    unfold putS
    split
    · rename_i h; simp [dropS, h]
    · rename_i h
      have ih := drop_put (p := p) (z := z) (l := r)
      unfold dropS at ih ⊢
      rw [List.filter_cons, List.filter_cons, ih]
/-- taken away again: equal if the path had no text -/
theorem eq_drop {L : List (Str × Str)} {p z : Str} (nd : (L.map (·.1)).Nodup) : eqTx (dropS (putS L p z) p) L = !(lkS L p).isSome := by
  rw [drop_put]
  cases e : lkS L p with
  | none =>
    have hr : dropS L p = L := by
      refine List.filter_eq_self.mpr fun q hq => ?_
      simp [lk_none e q hq]
    rw [hr]
    exact eqTx_self nd
  | some z' =>
    have hlt : (dropS L p).length < L.length := by
      unfold dropS
      refine List.length_filter_lt_length_iff_exists.mpr ⟨(p, z'), lk_mem e, by simp⟩
    unfold eqTx
    have : ((dropS L p).length == L.length) = false := by simp; omega
    rw [this]
    rfl
def spTwinRight (C : Addr) : Sp := fun vs H Q _ => ∃ (d c n b t e : Nat) (S : DS), vs = [.ref d, .ref b, .ref e, .int (S.acts : Nat)] ∧ Bd C H d c n b t e S ∧ Plain7 S.kvs ∧ n ≤ 10 ^ 9 ∧
  ∀ H' n', n' ≤ n + 3 → Ot d b t e H H' → Bd C H' d c n' b t e S → Q (.bl true) H'
theorem ok_twin_right (T : Tex K mg D) : FnOk P w K mg base CX0 8 D.a_twin_right D.d_twin_right P_twin_right (spTwinRight D.a_Disk) := by
  have G_place : FnOk P w K mg base CX0 4 D.a_place D.d_place P_place spPlace := ok_place T
  have G_words : FnOk P w K mg base CX0 4 D.a_words D.d_words P_words spWords := ok_words T
  have G_shows : FnOk P w K mg base CX0 6 D.a_shows D.d_shows P_shows (spShows D.a_Disk) := ok_shows T
  have G_Disk_write : FnOk P w K mg base (L2.CX P w) 5 D.a_Disk_write D.d_Disk_write P_Disk_write (spWrite K D.a_Disk D.a_BadPath D.a_BadText D.a_PowerCut D.a_NoRoom) := ok_Disk_write T
  have G_Disk_remove : FnOk P w K mg base (L2.CX P w) 6 D.a_Disk_remove D.d_Disk_remove P_Disk_remove (spRemove K D.a_Disk D.a_NoPath D.a_PowerCut) := ok_Disk_remove T
  have G_Disk_cut_after : FnOk P w K mg base (L2.CX P w) 4 D.a_Disk_cut_after D.d_Disk_cut_after P_Disk_cut_after (spCut K D.a_Disk D.a_BadCount) := ok_Disk_cut_after T
  have G_Disk_power_on : FnOk P w K mg base CX0 1 D.a_Disk_power_on D.d_Disk_power_on P_Disk_power_on (spOn D.a_Disk) := ok_Disk_power_on T
  have G_Disk_twin : FnOk P w K mg base CX0 6 D.a_Disk_twin D.d_Disk_twin P_Disk_twin (spTwin D.a_Disk) := ok_Disk_twin T
  have G_Disk_eq : FnOk P w K mg base CX0 1 D.a_Disk_eq D.d_Disk_eq P_Disk_eq (spDEq K D.a_Disk) := ok_Disk_eq T
  have G_Disk_room : FnOk P w K mg base CX0 1 D.a_Disk_room D.d_Disk_room P_Disk_room (spRoom D.a_Disk) := ok_Disk_room T
  refine T.twin_right_F.ok S_twin_right (fun vs H Q E h => ?_) (fun cdv A outer s H vs Q E hr h => ?_)
  · obtain ⟨d, c, n, b, t, e, S, rfl, _⟩ := h
    rfl
  · obtain ⟨d, c, n, b, t, e, S, rfl, B, pl, hn, q⟩ := h
    have hu := hu_of hr
    refine ⟨_, (pss_cons (ps_expr (pe_meth (pv 1) T.Disk_cl ⟨T.Disk_cut_after_at, T.Disk_cut_after_fn, T.Disk_cut_after_F.kp⟩ G_Disk_cut_after (hr.mono (by decide)) T.Disk_cut_after_b .nil passL (pa_cons pe_int pa_nil)))
      (pss_cons (ps_set (i := 4) S_twin_right.nd rfl (Or.inl rfl) (pe_meth0 (pv 1) T.Disk_cl ⟨T.Disk_twin_at, T.Disk_twin_fn, T.Disk_twin_F.kp⟩ G_Disk_twin (hr.mono (by decide)) T.Disk_twin_b .nil pass0))
      (pss_cons (ps_expr (pe_meth0 (pv 1) T.Disk_cl ⟨T.Disk_power_on_at, T.Disk_power_on_fn, T.Disk_power_on_F.kp⟩ G_Disk_power_on (hr.mono (by decide)) T.Disk_power_on_b .nil pass0))
      (pss_cons (ps_if (PW.pt (pw_or (pt_not (pt_val (pe_call G_shows (hr.mono (by decide)) (by rfl) T.shows_g T.shows_F.kp T.shows_b .nil pass0 (pa_cons (pv 4) (pa_cons (pv 2) (pa_cons pe_int pa_nil)))))) (pw_or (pt_not (pt_cmpR (op_ownD (fun _ _ => rfl) T.Disk_eq_at T.Disk_eq_fn T.Disk_nf (G_Disk_eq.raw T.Disk_eq_b .nil) (hr.mono (by decide)) pass0) (pv 4) (pv 1) (nomark _))) (pw_or (pt_cmpR (op_neOwn T.Disk_ne_b T.Disk_si.cm T.Disk_eq_at T.Disk_eq_fn (G_Disk_eq.raw T.Disk_eq_b .nil) (hr.mono (by decide)) pass0) (pv 4) (pv 1) (nomark _)) (pw_or1 (pt_cmpR (op_neD hr.units) (pe_prop (pv 4) T.Disk_cl T.Disk_room_p G_Disk_room (hr.mono (by decide)) T.Disk_room_b .nil pass0 rfl) (pe_prop (pv 1) T.Disk_cl T.Disk_room_p G_Disk_room (hr.mono (by decide)) T.Disk_room_b .nil pass0 rfl) (nomark _))))))) (pss_one (ps_ret pe_bl)) pss_nil)
      (pss_cons (ps_par (i := 5) (j := 6) (by rfl) S_twin_right.nd rfl rfl (by decide) rfl rfl (pa_cons (pe_call G_place (hr.mono (by decide)) (by rfl) T.place_g T.place_F.kp T.place_b .nil pass0 (pa_cons (pv 0) pa_nil)) (pa_cons (pe_op op_add_str (pe_call G_words (hr.mono (by decide)) (by rfl) T.words_g T.words_F.kp T.words_b .nil pass0 (pa_cons (pv 0) pa_nil)) pe_str) pa_nil)) (by rfl))
      (pss_cons (ps_expr (pe_meth (pv 4) T.Disk_cl ⟨T.Disk_write_at, T.Disk_write_fn, T.Disk_write_F.kp⟩ G_Disk_write (hr.mono (by decide)) T.Disk_write_b .nil passL (pa_cons (pv 5) (pa_cons (pv 6) pa_nil))))
      (pss_cons (ps_set (i := 7) S_twin_right.nd rfl (Or.inl rfl) (pe_callTy call_dictD (by rfl) T.b_dict (by decide +kernel) (pa_cons (pv 2) pa_nil)))
      (pss_cons (ps_dput hu (pv 7) (pv 5) (pv 6) rfl)
      (pss_cons (ps_if (PW.pt (pw_or (pt_not (pt_val (pe_call G_shows (hr.mono (by decide)) (by rfl) T.shows_g T.shows_F.kp T.shows_b .nil pass0 (pa_cons (pv 4) (pa_cons (pv 7) (pa_cons pe_int pa_nil)))))) (pw_or (pt_not (pt_val (pe_call G_shows (hr.mono (by decide)) (by rfl) T.shows_g T.shows_F.kp T.shows_b .nil pass0 (pa_cons (pv 1) (pa_cons (pv 2) (pa_cons (pv 3) pa_nil)))))) (pw_or1 (pt_cmpR (op_ownD (fun _ _ => rfl) T.Disk_eq_at T.Disk_eq_fn T.Disk_nf (G_Disk_eq.raw T.Disk_eq_b .nil) (hr.mono (by decide)) pass0) (pv 4) (pv 1) (nomark _)))))) (pss_one (ps_ret pe_bl)) pss_nil)
      (pss_cons (ps_expr (pe_meth (pv 4) T.Disk_cl ⟨T.Disk_remove_at, T.Disk_remove_fn, T.Disk_remove_F.kp⟩ G_Disk_remove (hr.mono (by decide)) T.Disk_remove_b .nil passL (pa_cons (pv 5) pa_nil)))
      (pss_one (ps_ret (pe_and (pe_cmpR op_eq (pe_cmpR (op_ownD (fun _ _ => rfl) T.Disk_eq_at T.Disk_eq_fn T.Disk_nf (G_Disk_eq.raw T.Disk_eq_b .nil) (hr.mono (by decide)) pass0) (pv 4) (pv 1) (nomark _)) (pe_cmp (pc_dnotin hu (pv 5) (pv 2))) (nomark _)) (pe_and (pe_cmpR (op_neOwnA (KK := K) rfl T.Disk_ne_b T.Disk_si.cm T.Disk_eq_at T.Disk_eq_fn (G_Disk_eq.raw T.Disk_eq_b .nil) (hr.mono (by decide)) pass0) (pv 1) (pv 2) (nomark _)) (pe_one (pe_not (pe_cmpR (op_ownA (fun _ _ => rfl) T.Disk_eq_at T.Disk_eq_fn (G_Disk_eq.raw T.Disk_eq_b .nil) (hr.mono (by decide)) pass0) (pv 1) pe_int (nomark _)))))))))))))))))), ?_⟩
    obtain ⟨m1, m2, m3, m4, m5, m6, m7, m8⟩ := B.ne
    have te := B.te
    have eS : ({ S with power := none } : DS) = S := by
      have y := B.pw
      cases S
      simp only at y
      subst y
      rfl
    obtain ⟨dx, hb⟩ := B.dk.1
    refine ⟨_, rfl, b, dx, _, rfl, hb, dk_none (.inr (.inr (.inl rfl))), b, t, S, _, rfl, B.dk, .inl ⟨0, rfl, fun H1 b1 dk1 => ?_⟩⟩
    obtain ⟨dx1, hb1⟩ := dk1.1
    refine ⟨_, rfl, b, dx1, _, rfl, hb1, dk_none (.inr (.inr (.inr (.inr (.inl rfl))))), b, t, _, rfl, dk1, fun x u H2 s2 hx hxu dkx => ?_⟩
    have dk2 := dk1.keep s2
    obtain ⟨dx2, hb2⟩ := dk2.1
    refine ⟨_, rfl, b, dx2, _, rfl, hb2, dk_none (.inr (.inr (.inr (.inl rfl)))), b, t, _, rfl, dk2, fun H3 b3 dk3 => ?_⟩
    have nbx : b ≠ x := ne_of_none hb1 hx
    have ntx : t ≠ x := ne_of_none dk1.2.1 hx
    have nbu : b ≠ u := ne_of_none hb1 hxu
    have ntu : t ≠ u := ne_of_none dk1.2.1 hxu
    have dkx3 : Dk D.a_Disk H3 x u ⟨S.kvs, S.room, 0, none⟩ := let ⟨⟨y, y1⟩, y2, y3⟩ := dkx; ⟨⟨y, b3 _ _ y1 nbx.symm ntx.symm⟩, b3 _ _ y2 nbu.symm ntu.symm, y3⟩
    have he1 := b1 _ _ B.he m8.symm te.symm
    have he3 := b3 _ _ (s2 _ _ he1) m8.symm te.symm
    have eu : e ≠ u := ne_of_none he1 hxu
    have D3 : Dr H3 d c n := ((B.dr.b2 b1 m1 m2 m4 m5).keep s2).b2 b3 m1 m2 m4 m5
    have o3 : Ot d b t e H H3 := (Ot.bt b1).trans ((Ot.same s2).trans (Ot.bt b3))
    have dk3 : Dk D.a_Disk H3 b t S := by have y := dk3; rw [show ({ S with power := none } : DS) = S from eS] at y; exact y
    have nd := B.dk.2.2.nd
    refine ⟨_, rfl, _, rfl, x, u, e, ⟨S.kvs, S.room, 0, none⟩, rfl, dkx3, he3, eu, B.po, fun H4 s4 => ⟨_, rfl, iteF ?_⟩⟩
    have dkx4 := dkx3.keep s4
    have dk4 := dk3.keep s4
    have he4 := s4 _ _ he3
    have D4 := D3.keep s4
    have o4 := o3.trans (Ot.same (d := d) (b := b) (t := t) (e := e) s4)
    have keepx := dkx4
    have keepb := dk4
    obtain ⟨⟨ex, hx4⟩, _⟩ := keepx
    obtain ⟨⟨eb, hb4⟩, _⟩ := keepb
    refine ⟨_, rfl, _, rfl, x, ex, _, b, eb, _, rfl, rfl, hx4, hb4, x, u, _, _, rfl, dkx4, .inl ⟨b, t, S, rfl, dk4, ?_⟩⟩
    rw [eqTx_self nd]
    refine ⟨_, rfl, iteF ?_⟩
    refine ⟨_, rfl, _, rfl, x, ex, _, b, eb, _, rfl, rfl, hx4, hb4, x, u, _, _, rfl, dkx4, .inl ⟨b, t, S, rfl, dk4, _, rfl, ?_⟩⟩
    rw [eqTx_self nd]
    refine ⟨_, rfl, iteF ?_⟩
    refine ⟨_, rfl, x, ex, _, rfl, hx4, x, u, _, rfl, dkx4, _, rfl, b, eb, _, rfl, hb4, b, t, S, rfl, dk4, ?_⟩
    rw [B.ro]
    refine ⟨.none, .none, .non, .non, by decide +kernel, by decide +kernel, ?_⟩
    refine ⟨false, by decide +kernel, iteF ?_⟩
    have D1 := B.dr.b2 b1 m1 m2 m4 m5
    have ndx : d ≠ x := D1.ne_new hx
    have ndu : d ≠ u := D1.ne_new hxu
    refine ⟨_, rfl, d, c, n, rfl, D4, by omega, fun k hk H5 D5 u5 => ?_⟩
    refine ⟨_, rfl, d, c, n + 1, rfl, D5, by omega, fun z hz H6 D6 u6 => ?_⟩
    have zb := wx_bang z hz
    have zl := wx_text _ zb.1
    have pk := pl_path k hk
    refine ⟨_, _, rfl, rfl, ?_, ?_⟩
    · have h1 := (wx_text z (wd_wx hz)).2
      exact Nat.le_trans (Nat.add_le_add h1 (by decide : (("!" : String) : Str).length ≤ 1)) (by decide)
    have bd : But d H4 H6 := u5.trans u6
    have dkx6 : Dk D.a_Disk H6 x u ⟨S.kvs, S.room, 0, none⟩ := let ⟨⟨y, y1⟩, y2, y3⟩ := dkx4; ⟨⟨y, bd _ _ y1 ndx.symm⟩, bd _ _ y2 ndu.symm, y3⟩
    have dk6 : Dk D.a_Disk H6 b t S := let ⟨⟨y, y1⟩, y2, y3⟩ := dk4; ⟨⟨y, bd _ _ y1 m1.symm⟩, bd _ _ y2 m2.symm, y3⟩
    have he6 := bd _ _ he4 m3.symm
    have o6 := o4.trans (Ot.but (d := d) (b := b) (t := t) (e := e) bd)
    refine ⟨_, _, rfl, ?_⟩
    have keepx := dkx6
    obtain ⟨⟨ex6, hx6⟩, _⟩ := keepx
    have few := B.few
    refine ⟨_, rfl, x, ex6, _, rfl, hx6, dk_none (.inl rfl), _, rfl, _, rfl, x, u, _, _, _, rfl, dkx6, .inr (.inr ⟨k, z ++ (("!" : String) : Str), rfl, rfl, pk.1, zl.1, zl.2, by show S.kvs.length < 1000; omega, .inr (.inr ⟨nofun, (fun r er => by have er : S.room = some r := er; rw [B.ro] at er; cases er), fun H7 b7 dk7 => ?_⟩)⟩)⟩
    have ncx : c ≠ x := D1.nc_new hx
    have ncu : c ≠ u := D1.nc_new hxu
    have ex' : e ≠ x := ne_of_none he1 hx
    have dkb7 : Dk D.a_Disk H7 b t S := let ⟨⟨y, y1⟩, y2, y3⟩ := dk6; ⟨⟨y, b7 _ _ y1 nbx nbu⟩, b7 _ _ y2 ntx ntu, y3⟩
    have he7 := b7 _ _ he6 ex' eu
    have D7 := D6.b2 b7 ndx ndu ncx ncu
    have kvl : (kvV S.kvs).length < sizeLine := by
      rw [show (kvV S.kvs).length = S.kvs.length from List.length_map _]
      exact szt (by omega)
    refine ⟨_, rfl, e, _, rfl, .inl he7, fun p hp => ?_⟩
    have hpu : (upd H7 p (.dK (kvV S.kvs))) p = some (.dK (kvV S.kvs)) := upd_same
    refine ⟨_, rfl, _, rfl, _, rfl, p, _, rfl, DPut.k (k := .inr k) hpu kvl, ?_⟩
    rw [putK_kv k _ _ nd, upd_upd]
    have s8 : Same H7 (upd H7 p (.dK (kvV (putS S.kvs k (z ++ (("!" : String) : Str)))))) := same_new hp
    have dkx8 := dk7.keep s8
    have dk8 := dkb7.keep s8
    have he8 := s8 _ _ he7
    have npu : p ≠ u := (ne_of_none dk7.2.1 hp).symm
    refine ⟨_, rfl, _, rfl, x, u, p, _, rfl, dkx8, upd_same, npu, B.po.put hk zb.1, fun H9 s9 => ⟨_, rfl, iteF ?_⟩⟩
    have dk9 := dk8.keep s9
    have he9 := s9 _ _ he8
    have dkx9 := dkx8.keep s9
    refine ⟨_, rfl, _, rfl, _, rfl, b, t, e, S, rfl, dk9, he9, te.symm, B.po, fun HA sA => ⟨_, rfl, iteF ?_⟩⟩
    have dkA := dk9.keep sA
    have heA := sA _ _ he9
    have dkxA := dkx9.keep sA
    have keepx := dkxA
    have keepb := dkA
    obtain ⟨⟨exA, hxA⟩, _⟩ := keepx
    obtain ⟨⟨ebA, hbA⟩, _⟩ := keepb
    have nq : eqTx (putS S.kvs k (z ++ (("!" : String) : Str))) S.kvs = false := eq_put pl zb.2
    refine ⟨_, rfl, _, rfl, x, exA, _, b, ebA, _, rfl, rfl, hxA, hbA, x, u, _, _, rfl, dkxA, .inl ⟨b, t, S, rfl, dkA, ?_⟩⟩
    refine ⟨false, congrArg V.bl nq, iteF ?_⟩
    refine ⟨_, rfl, x, exA, _, rfl, hxA, dk_none (.inr (.inl rfl)), _, rfl, x, u, _, _, rfl, dkxA, .inr ⟨k, _, rfl, lk_put, .inr ⟨nofun, fun HB bB dkB => ?_⟩⟩⟩
    have dkbB : Dk D.a_Disk HB b t S := let ⟨⟨y, y1⟩, y2, y3⟩ := dkA; ⟨⟨y, bB _ _ y1 nbx nbu⟩, bB _ _ y2 ntx ntu, y3⟩
    have heB := bB _ _ heA ex' eu
    have DB := (((D7.keep s8).keep s9).keep sA).b2 bB ndx ndu ncx ncu
    have keepx := dkB
    have keepb := dkbB
    obtain ⟨⟨exB, hxB⟩, _⟩ := keepx
    obtain ⟨⟨ebB, hbB⟩, _⟩ := keepb
    have gk := DGet.k (k := .inr k) heB
    rw [valV_kv] at gk
    have kt := kit_not (T := "dict") T.Disk_cl T.Disk_rd
    have ki := kit_not (T := "int") T.Disk_cl T.Disk_rd
    refine ⟨_, rfl, _, rfl, x, exB, _, b, ebB, _, rfl, rfl, hxB, hbB, x, u, _, _, rfl, dkB, .inl ⟨b, t, S, rfl, dkbB, ?_⟩⟩
    refine ⟨_, rfl, _, rfl, e, _, rfl, gk, rfl, ?_⟩
    have same : decide (V.bl (eqTx (dropS (putS S.kvs k (z ++ (("!" : String) : Str))) k) S.kvs) = V.bl (!(Option.map V.str (lkS S.kvs k)).isSome)) = true := by
      rw [eq_drop nd, Option.isSome_map]
      exact decide_eq_true rfl
    refine ⟨true, congrArg V.bl same, iteT ?_⟩
    refine ⟨_, rfl, _, rfl, b, ebB, _, .type "dict", rfl, hbB, .base (.dK heB), kt.2, b, t, S, _, rfl, dkbB, .inr ⟨_, .base (.dK heB), kt.1, _, rfl, ?_⟩⟩
    refine ⟨true, rfl, iteT ?_⟩
    refine ⟨_, rfl, b, ebB, _, .type "int", rfl, hbB, .base (.int 5), ki.2, b, t, S, _, rfl, dkbB, .inr ⟨_, .base (.int 5), ki.1, ?_⟩⟩
    refine ⟨_, rfl, ?_⟩
    have oB : Ot d b t e H HB := fun y o ey n1 n2 n3 n4 => by
      have y1 := b1 _ _ ey n2 n3
      have nx : y ≠ x := ne_of_none y1 hx
      have nu : y ≠ u := ne_of_none y1 hxu
      exact bB _ _ (sA _ _ (s9 _ _ (s8 _ _ (b7 _ _ (bd _ _ (s4 _ _ (b3 _ _ (s2 _ _ y1) n2 n3)) n1) nx nu)))) nx nu
    exact q HB _ (by omega) oB ⟨DB, dkbB, heB, B.po, te, B.ro, B.pw⟩
end

/-! ## The law of k59 -/
section
variable {P : Program} {w : World} {K : PySem.W.Frag} {mg : Str → Option Value} {base : Heap} {D : Ad}
open TL SX
theorem Bare.ot {H H' : Hp} {a : Addr} {xs : List V} {C : Addr} {d c n b t e : Nat} {S : DS} (h : Bare K H a xs) (B : Bd C H d c n b t e S) (o : Ot d b t e H H') : Bare K H' a xs := by
  rcases h with ⟨us, n', q⟩ | h
  · obtain ⟨⟨cs, p, k, u, h1, h2, _⟩, ⟨⟨dx, h3⟩, h4, _⟩, h6, _⟩ := B
    have N : ∀ {y : Addr} {p : HO}, H y = some p → (HO.frz { cls := .type "list", data := .seq us.toArray n' } (.lst xs)) ≠ p → a ≠ y := fun e2 d z => by rw [z, e2] at q; exact d (Option.some.inj q).symm
    exact .inl ⟨us, n', o _ _ q (N h1 nofun) (N h3 nofun) (N h4 nofun) (N h6 nofun)⟩
  · exact .inr h
def spLaw (K : PySem.W.Frag) : Sp := fun vs H Q _ => ∃ (a : Addr) (ns : List Int), vs = [.ref a] ∧ Bare K H a (ns.map V.int) ∧ ns.length ≤ 63 ∧ ∀ H', Q (.bl true) H'
theorem ok_law (T : Tex K mg D) : FnG P w K mg base 13 D.a_law D.d_law P_law (spLaw K) := by
  have G_begin : FnOk P w K mg base CX0 1 D.a_begin D.d_begin P_begin (spBegin K) := ok_begin T
  have G_shows : FnOk P w K mg base CX0 6 D.a_shows D.d_shows P_shows (spShows D.a_Disk) := ok_shows T
  have G_acted : FnOk P w K mg base CX0 8 D.a_acted D.d_acted P_acted (spActed D.a_Disk) := ok_acted T
  have G_paths_right : FnOk P w K mg base CX0 6 D.a_paths_right D.d_paths_right P_paths_right (spPathsRight D.a_Disk) := ok_paths_right T
  have G_twin_right : FnOk P w K mg base CX0 8 D.a_twin_right D.d_twin_right P_twin_right (spTwinRight D.a_Disk) := ok_twin_right T
  have G_Disk_init : FnOk P w K mg base (L2.CX P w) 4 D.a_Disk_init D.d_Disk_init P_Disk_init (spDInit K D.a_Disk D.a_BadCount) := ok_Disk_init T
  have G_Disk_initX := G_Disk_init
  have G_Disk_twin : FnOk P w K mg base CX0 6 D.a_Disk_twin D.d_Disk_twin P_Disk_twin (spTwin D.a_Disk) := ok_Disk_twin T
  have G_Disk_eq : FnOk P w K mg base CX0 1 D.a_Disk_eq D.d_Disk_eq P_Disk_eq (spDEq K D.a_Disk) := ok_Disk_eq T
  have G_Disk_room : FnOk P w K mg base CX0 1 D.a_Disk_room D.d_Disk_room P_Disk_room (spRoom D.a_Disk) := ok_Disk_room T
  have G_Disk_used : FnOk P w K mg base CX0 1 D.a_Disk_used D.d_Disk_used P_Disk_used (spUsed D.a_Disk) := ok_Disk_used T
  refine fnG_of T.law_F S_law (fun vs H Q E h => ?_) (fun cdv A outer s H vs Q hg hr h => ?_)
  · obtain ⟨a, ns, rfl, _⟩ := h
    rfl
  · obtain ⟨a, ns, rfl, hb, hl, q⟩ := h
    have hu := hu_of hr
    refine ⟨_, (pss_cons (ps_set (i := 1) S_law.nd rfl (Or.inl rfl) (pe_call G_begin (hr.mono (by decide)) (by rfl) T.begin_g T.begin_F.kp T.begin_b .nil pass0 (pa_cons (pv 0) pa_nil)))
      (pss_cons (ps_for PassesOwn.never rfl (pi_range1 rfl T.b_range (pa_cons (pe_op op_add pe_int (pe_callB (call_min2 rfl) (by rfl) T.b_min (by decide +kernel) (pa_cons pe_int (pa_cons (pe_callB call_len_seq (by rfl) T.b_len (by decide +kernel) (pa_cons (pv 0) pa_nil)) pa_nil)))) pa_nil)) (pg_name (i := 2) S_law.nd rfl (Or.inl rfl)) (pss_cons (ps_par (i := 3) (j := 4) (by rfl) S_law.nd rfl rfl (by decide) rfl rfl (pa_cons (pe_make0 T.Disk_mk G_Disk_init (hr.mono (by decide)) rfl T.Disk_g T.Disk_init_b0.choose_spec.2 T.Disk_init_b0.choose_spec.1 passL) (pa_cons pe_dnewK pa_nil)) (by rfl))
      (pss_cons (ps_for PassesOwn.never rfl (pi_range1 rfl T.b_range (pa_cons (pe_op op_add pe_int (pe_callB (call_min2 rfl) (by rfl) T.b_min (by decide +kernel) (pa_cons pe_int (pa_cons (pe_callB call_len_seq (by rfl) T.b_len (by decide +kernel) (pa_cons (pv 0) pa_nil)) pa_nil)))) pa_nil)) (pg_name (i := 5) S_law.nd rfl (Or.inl rfl)) (pss_one (ps_if (PW.pt (pw_or (pt_not (pt_val (pe_call G_shows (hr.mono (by decide)) (by rfl) T.shows_g T.shows_F.kp T.shows_b .nil pass0 (pa_cons (pv 3) (pa_cons (pv 4) (pa_cons (pv 5) pa_nil)))))) (pw_or1 (pt_not (pt_val (pe_call G_acted (hr.mono (by decide)) (by rfl) T.acted_g T.acted_F.kp T.acted_b .nil pass0 (pa_cons (pv 1) (pa_cons (pv 3) (pa_cons (pv 4) pa_nil))))))))) (pss_one (ps_ret pe_bl)) pss_nil)))
      (pss_one (ps_if (PW.pt (pw_or (pt_not (pt_val (pe_call G_paths_right (hr.mono (by decide)) (by rfl) T.paths_right_g T.paths_right_F.kp T.paths_right_b .nil pass0 (pa_cons (pv 3) (pa_cons (pv 4) pa_nil))))) (pw_or1 (pt_not (pt_val (pe_call G_twin_right (hr.mono (by decide)) (by rfl) T.twin_right_g T.twin_right_F.kp T.twin_right_b .nil pass0 (pa_cons (pv 1) (pa_cons (pv 3) (pa_cons (pv 4) (pa_cons (pe_op op_add pe_int (pe_callB (call_min2 rfl) (by rfl) T.b_min (by decide +kernel) (pa_cons pe_int (pa_cons (pe_callB call_len_seq (by rfl) T.b_len (by decide +kernel) (pa_cons (pv 0) pa_nil)) pa_nil)))) pa_nil)))))))))) (pss_one (ps_ret pe_bl)) pss_nil)))))
      (pss_cons (ps_par (i := 6) (j := 7) (by rfl) S_law.nd rfl rfl (by decide) rfl rfl (pa_cons (pe_makeS T.Disk_mk G_Disk_init (hr.mono (by decide)) rfl T.Disk_g T.Disk_init_b .nil (fun σ pins H s e s' => passL pins σ H s e s') (pa_cons pe_int pa_nil)) (pa_cons (pe_makeKS T.Disk_mk G_Disk_initX (hr.mono (by decide)) rfl T.Disk_g T.Disk_init_km (fun σ pins H s e s' => passL pins σ H s e s') (pk_cons pe_non pk_nil)) pa_nil)) (by rfl))
      (pss_one (ps_ret (pe_and (pe_cmpR (op_ownD (fun _ _ => rfl) T.Disk_eq_at T.Disk_eq_fn T.Disk_nf (G_Disk_eq.raw T.Disk_eq_b .nil) (hr.mono (by decide)) pass0) (pv 6) (pv 7) (nomark _)) (pe_and (pe_cmpR (op_eqD hr.units) (pe_prop (pv 6) T.Disk_cl T.Disk_room_p G_Disk_room (hr.mono (by decide)) T.Disk_room_b .nil pass0 rfl) pe_int (nomark _)) (pe_and (pe_cmpR op_isN (pe_prop (pv 7) T.Disk_cl T.Disk_room_p G_Disk_room (hr.mono (by decide)) T.Disk_room_b .nil pass0 rfl) pe_non (nomark _)) (pe_and (pe_cmpR (op_eqD hr.units) (pe_prop (pe_meth0 (pv 6) T.Disk_cl ⟨T.Disk_twin_at, T.Disk_twin_fn, T.Disk_twin_F.kp⟩ G_Disk_twin (hr.mono (by decide)) T.Disk_twin_b .nil pass0) T.Disk_cl T.Disk_room_p G_Disk_room (hr.mono (by decide)) T.Disk_room_b .nil pass0 rfl) pe_int (nomark _)) (pe_one (pe_cmpR op_eq (pe_prop (pe_makeS T.Disk_mk G_Disk_init (hr.mono (by decide)) rfl T.Disk_g T.Disk_init_b .nil (fun σ pins H s e s' => passL pins σ H s e s') (pa_cons pe_int pa_nil)) T.Disk_cl T.Disk_used_p G_Disk_used (hr.mono (by decide)) T.Disk_used_b .nil pass0 rfl) pe_int (nomark _)))))))))))), ?_⟩
    refine ⟨_, rfl, a, ns, rfl, hb, hl, fun d c H1 hd s1 D1 => ?_⟩
    have hb1 := hb.keep s1
    clear s1
    have nl : (ns.map V.int).length = ns.length := List.length_map _
    have szn : (ns.map V.int).length ≤ sizeLine := by rw [nl]; exact szl (by omega)
    refine ⟨_, rfl, a, _, rfl, .inl (hb1.seq szn), _, _, rfl, _, _, rfl, rfl, _, rfl, ?_, ?_, ?_⟩
    · rw [nl]
      split <;> omega
    · rw [nl]
      split <;> omega
    have hcnt : (3 + (if ((ns.map V.int).length : Int) < 3 then ((ns.map V.int).length : Int) else 3)).toNat ≤ 6 := by split <;> omega
    revert hcnt
    generalize (3 + (if ((ns.map V.int).length : Int) < 3 then ((ns.map V.int).length : Int) else 3)).toNat = cnt
    intro hcnt
    refine for_range (lo := 0) (n := cnt) (fun k σ H' => ∃ o2 o3 o4 o5 o6 o7 : Option V, σ = [some (.ref a), some (.ref d), o2, o3, o4, o5, o6, o7] ∧ Dr H' d c (100 * k) ∧ Bare K H' a (ns.map V.int)) ⟨_, _, _, _, _, _, rfl, D1, hb1⟩ ?_ ?_
    · rintro k σ H2 hk ⟨o2, o3, o4, o5, o6, o7, rfl, D2, bb2⟩
      refine fun x dx hx hdx hne => ⟨x, dx, _, rfl, upd_same, .inl ⟨none, rfl, fun t H4 htn k4 dk4 => ⟨rfl, ?_⟩⟩⟩
      have s4 : Same H2 H4 := fun b u e => k4 b u (by rw [upd_ne (ne_of_none e hx), upd_ne (ne_of_none e hdx)]; exact e) (ne_of_none e hx)
      have D4 := D2.keep s4
      have bb4 := bb2.keep s4
      clear D2 bb2 s4 k4 htn hx hdx hne
      refine fun e he => ?_
      have B5 : Bd D.a_Disk (upd H4 e (.dK [])) d c (100 * k) x t e ⟨[], none, 0, none⟩ := ⟨D4.keep (same_new he), dk4.keep (same_new he), upd_same, (fun _ y => nomatch y), ne_of_none dk4.2.1 he, rfl, rfl⟩
      have bb5 := bb4.keep (same_new (o := .dK []) he)
      clear D4 bb4 dk4 he
      revert B5 bb5
      show _ → _ → ∃ _ _, _
      generalize upd H4 e (.dK []) = H5
      intro B5 bb5
      refine ⟨_, _, rfl, ?_⟩
      refine ⟨_, rfl, a, _, rfl, .inl (bb5.seq szn), _, _, rfl, _, _, rfl, rfl, _, rfl, ?_, ?_, ?_⟩
      · rw [nl]
        split <;> omega
      · rw [nl]
        split <;> omega
      have hcnt2 : (10 + (if ((ns.map V.int).length : Int) < 6 then ((ns.map V.int).length : Int) else 6)).toNat ≤ 16 := by split <;> omega
      have ecnt : (((10 + (if ((ns.map V.int).length : Int) < 6 then ((ns.map V.int).length : Int) else 6)).toNat : Nat) : Int) = 10 + (if ((ns.map V.int).length : Int) < 6 then ((ns.map V.int).length : Int) else 6) := by split <;> omega
      refine for_range (lo := 0) (n := _) (fun j σ H' => ∃ (o5 o6 o7 : Option V) (S : DS) (n' : Nat), σ = [some (.ref a), some (.ref d), some (.int (0 + (k : Int))), some (.ref x), some (.ref e), o5, o6, o7] ∧ Bd D.a_Disk H' d c n' x t e S ∧ n' ≤ 100 * k + 4 * j ∧ S.acts = j ∧ Plain7 S.kvs ∧ Bare K H' a (ns.map V.int)) ⟨_, _, _, _, _, rfl, B5, by omega, rfl, (fun _ y => nomatch y), bb5⟩ ?_ ?_
      · rintro j σ H6 hj ⟨o5, o6, o7, S, n', rfl, B6, hn6, hac, pl6, bb6⟩
        have ea : (0 + (j : Int)) = ((S.acts : Nat) : Int) := by rw [hac]; omega
        rw [ea]
        refine ⟨_, rfl, _, rfl, _, rfl, x, t, e, S, rfl, B6.dk, B6.he, B6.te.symm, B6.po, fun H7 s7 => ⟨_, rfl, iteF ?_⟩⟩
        have B7 := B6.keep s7
        refine ⟨_, rfl, _, rfl, _, rfl, d, c, n', x, t, e, S, rfl, B7, by omega, fun H8 n8 S8 hn8 oth8 B8 ha8 hm8 => ⟨_, rfl, iteF ?_⟩⟩
        exact ⟨_, _, _, S8, n8, rfl, B8, by omega, by omega, (fun y hy => (hm8 y hy).elim (pl6 y) id), (bb6.keep s7).ot B7 oth8⟩
      · rintro σ H6 ⟨o5, o6, o7, S, n', rfl, B6, hn6, hac, pl6, bb6⟩
        refine ⟨_, rfl, _, rfl, x, t, e, S, rfl, B6.dk, B6.he, B6.te.symm, B6.po, fun H7 s7 => ⟨_, rfl, iteF ?_⟩⟩
        have B7 := B6.keep s7
        have bb7 := bb6.keep s7
        refine ⟨_, rfl, _, rfl, _, rfl, _, rfl, a, _, rfl, .inl (bb7.seq szn), _, _, rfl, _, _, rfl, rfl, d, c, n', x, t, e, S, ?_, B7, pl6, by omega, fun H8 n8 hn8 oth8 B8 => ⟨_, rfl, iteF ?_⟩⟩
        · rw [hac, ecnt]
          rfl
        · have hm : n8 ≤ 100 * (k + 1) := by omega
          exact ⟨_, _, _, _, _, _, rfl, B8.dr.mono hm, bb7.ot B7 oth8⟩
    · rintro σ H2 ⟨o2, o3, o4, o5, o6, o7, rfl, D2, bb2⟩
      clear D2 bb2
      refine fun x dx hx hdx hne => ⟨x, dx, _, rfl, upd_same, .inl ⟨some 40, rfl, fun t H4 htn k4 dk4 => ⟨rfl, ?_⟩⟩⟩
      clear k4 hx hdx hne htn
      refine ⟨rfl, fun y dy hy hdy hney => ⟨y, dy, _, rfl, upd_same, .inl ⟨none, rfl, fun u H5 hun k5 dk5 => ⟨rfl, ?_⟩⟩⟩⟩
      have s5 : Same H4 H5 := fun b u e => k5 b u (by rw [upd_ne (ne_of_none e hy), upd_ne (ne_of_none e hdy)]; exact e) (ne_of_none e hy)
      have dkx := dk4.keep s5
      clear s5 k5 hy hdy hney hun dk4
      have keepx := dkx
      have keepy := dk5
      obtain ⟨⟨ex, hx⟩, _⟩ := keepx
      obtain ⟨⟨ey, hy⟩, _⟩ := keepy
      refine ⟨_, _, rfl, ?_⟩
      refine ⟨_, rfl, _, rfl, x, ex, _, y, ey, _, rfl, rfl, hx, hy, x, t, _, _, rfl, dkx, .inl ⟨y, u, _, rfl, dk5, ?_⟩⟩
      refine ⟨true, rfl, iteT ?_⟩
      refine ⟨_, rfl, x, ex, _, rfl, hx, x, t, _, rfl, dkx, ?_⟩
      refine ⟨.int 40, .int 40, .int _, .int _, by decide +kernel, by decide +kernel, ?_⟩
      refine ⟨true, by decide +kernel, iteT ?_⟩
      refine ⟨_, rfl, y, ey, _, rfl, hy, y, u, _, rfl, dk5, ?_⟩
      refine ⟨rfl, true, rfl, iteT ?_⟩
      refine ⟨_, rfl, x, ex, _, rfl, hx, dk_none (.inr (.inr (.inr (.inr (.inl rfl))))), x, t, _, rfl, dkx, fun z v H6 s6 hz hv dkz => ?_⟩
      have keepz := dkz
      obtain ⟨⟨ez, hz6⟩, _⟩ := keepz
      refine ⟨z, ez, _, rfl, hz6, z, v, _, rfl, dkz, ?_⟩
      refine ⟨.int 40, .int 40, .int _, .int _, by decide +kernel, by decide +kernel, ?_⟩
      refine ⟨true, by decide +kernel, iteT ?_⟩
      refine fun a1 da1 h1 hd1 hn1 => ⟨a1, da1, _, rfl, upd_same, .inl ⟨some 0, rfl, fun t1 H7 ht1 k7 dk7 => ⟨rfl, ?_⟩⟩⟩
      have keep1 := dk7
      obtain ⟨⟨e1, h17⟩, _⟩ := keep1
      refine ⟨a1, e1, _, rfl, h17, a1, t1, _, rfl, dk7, ?_⟩
      exact ⟨rfl, (q H7 : Q (.bl true) H7)⟩
end

theorem all_mk {l : PySem.W.OpenLaw} {w : World} {K : PySem.W.Frag} {h : Heap} {mg : Str → Option Value} {fa : Addr} (X : K.In h) (G : h.Ns mainGlobals mg) (hfa : mg "law" = some (.ref fa))
    {f_is_whole : Addr} {od_is_whole an_is_whole : Option Addr} {sl_is_whole : Array (Option Value)} {oc_is_whole kV_is_whole dc_is_whole pm_is_whole cd_is_whole ct_is_whole : Value}
    (n_is_whole : PySem.W.nsIn K mainGlobals "is_whole" = some (some (.ref f_is_whole)))
    (l_is_whole : K.lookup f_is_whole = some ⟨oc_is_whole, od_is_whole, .func (PySem.W.fnOf "is_whole" "is_whole" (defArgs s_is_whole) (defBody s_is_whole) (defScope s_is_whole) .none kV_is_whole dc_is_whole pm_is_whole an_is_whole cd_is_whole ct_is_whole), sl_is_whole⟩)
    (c_is_whole : PySem.W.codeIn K cd_is_whole "is_whole" = true)
    (k_is_whole : PySem.W.keepIn K (.ref f_is_whole) = true)
    {f_is_count : Addr} {od_is_count an_is_count : Option Addr} {sl_is_count : Array (Option Value)} {oc_is_count kV_is_count dc_is_count pm_is_count cd_is_count ct_is_count : Value}
    (n_is_count : PySem.W.nsIn K mainGlobals "is_count" = some (some (.ref f_is_count)))
    (l_is_count : K.lookup f_is_count = some ⟨oc_is_count, od_is_count, .func (PySem.W.fnOf "is_count" "is_count" (defArgs s_is_count) (defBody s_is_count) (defScope s_is_count) .none kV_is_count dc_is_count pm_is_count an_is_count cd_is_count ct_is_count), sl_is_count⟩)
    (c_is_count : PySem.W.codeIn K cd_is_count "is_count" = true)
    (k_is_count : PySem.W.keepIn K (.ref f_is_count) = true)
    {f_consists_of : Addr} {od_consists_of an_consists_of : Option Addr} {sl_consists_of : Array (Option Value)} {oc_consists_of kV_consists_of dc_consists_of pm_consists_of cd_consists_of ct_consists_of : Value}
    (n_consists_of : PySem.W.nsIn K mainGlobals "consists_of" = some (some (.ref f_consists_of)))
    (l_consists_of : K.lookup f_consists_of = some ⟨oc_consists_of, od_consists_of, .func (PySem.W.fnOf "consists_of" "consists_of" (defArgs s_consists_of) (defBody s_consists_of) (defScope s_consists_of) .none kV_consists_of dc_consists_of pm_consists_of an_consists_of cd_consists_of ct_consists_of), sl_consists_of⟩)
    (c_consists_of : PySem.W.codeIn K cd_consists_of "consists_of" = true)
    (k_consists_of : PySem.W.keepIn K (.ref f_consists_of) = true)
    {f_is_string_of : Addr} {od_is_string_of an_is_string_of : Option Addr} {sl_is_string_of : Array (Option Value)} {oc_is_string_of kV_is_string_of dc_is_string_of pm_is_string_of cd_is_string_of ct_is_string_of : Value}
    (n_is_string_of : PySem.W.nsIn K mainGlobals "is_string_of" = some (some (.ref f_is_string_of)))
    (l_is_string_of : K.lookup f_is_string_of = some ⟨oc_is_string_of, od_is_string_of, .func (PySem.W.fnOf "is_string_of" "is_string_of" (defArgs s_is_string_of) (defBody s_is_string_of) (defScope s_is_string_of) .none kV_is_string_of dc_is_string_of pm_is_string_of an_is_string_of cd_is_string_of ct_is_string_of), sl_is_string_of⟩)
    (c_is_string_of : PySem.W.codeIn K cd_is_string_of "is_string_of" = true)
    (k_is_string_of : PySem.W.keepIn K (.ref f_is_string_of) = true)
    {f_is_text_sign : Addr} {od_is_text_sign an_is_text_sign : Option Addr} {sl_is_text_sign : Array (Option Value)} {oc_is_text_sign kV_is_text_sign dc_is_text_sign pm_is_text_sign cd_is_text_sign ct_is_text_sign : Value}
    (n_is_text_sign : PySem.W.nsIn K mainGlobals "is_text_sign" = some (some (.ref f_is_text_sign)))
    (l_is_text_sign : K.lookup f_is_text_sign = some ⟨oc_is_text_sign, od_is_text_sign, .func (PySem.W.fnOf "is_text_sign" "is_text_sign" (defArgs s_is_text_sign) (defBody s_is_text_sign) (defScope s_is_text_sign) .none kV_is_text_sign dc_is_text_sign pm_is_text_sign an_is_text_sign cd_is_text_sign ct_is_text_sign), sl_is_text_sign⟩)
    (c_is_text_sign : PySem.W.codeIn K cd_is_text_sign "is_text_sign" = true)
    (k_is_text_sign : PySem.W.keepIn K (.ref f_is_text_sign) = true)
    {f_is_text : Addr} {od_is_text an_is_text : Option Addr} {sl_is_text : Array (Option Value)} {oc_is_text kV_is_text dc_is_text pm_is_text cd_is_text ct_is_text : Value}
    (n_is_text : PySem.W.nsIn K mainGlobals "is_text" = some (some (.ref f_is_text)))
    (l_is_text : K.lookup f_is_text = some ⟨oc_is_text, od_is_text, .func (PySem.W.fnOf "is_text" "is_text" (defArgs s_is_text) (defBody s_is_text) (defScope s_is_text) .none kV_is_text dc_is_text pm_is_text an_is_text cd_is_text ct_is_text), sl_is_text⟩)
    (c_is_text : PySem.W.codeIn K cd_is_text "is_text" = true)
    (k_is_text : PySem.W.keepIn K (.ref f_is_text) = true)
    {f_Disk : Addr}
    {f_Disk_init : Addr} {od_Disk_init an_Disk_init : Option Addr} {sl_Disk_init : Array (Option Value)} {oc_Disk_init kV_Disk_init dc_Disk_init pm_Disk_init cd_Disk_init ct_Disk_init : Value}
    (n_Disk : PySem.W.nsIn K mainGlobals "Disk" = some (some (.ref f_Disk)))
    (at_Disk_init : PySem.W.findIn K (.ref f_Disk) "__init__" = some (some (.ref f_Disk_init)))
    {dt_Disk_init : Addr} {dod_Disk_init : Option Addr} {dsl_Disk_init : Array (Option Value)} {dnn_Disk_init : Nat} 
    (l_Disk_init : K.lookup f_Disk_init = some ⟨oc_Disk_init, od_Disk_init, .func (PySem.W.fnOf "__init__" "Disk.__init__" (defArgs s_Disk_init) (defBody s_Disk_init) (defScope s_Disk_init) (.ref dt_Disk_init) kV_Disk_init dc_Disk_init pm_Disk_init an_Disk_init cd_Disk_init ct_Disk_init), sl_Disk_init⟩)
    (w_Disk_init : K.lookup dt_Disk_init = some ⟨.type "tuple", dod_Disk_init, .seq #[.none] dnn_Disk_init, dsl_Disk_init⟩)
    (c_Disk_init : PySem.W.codeIn K cd_Disk_init "Disk.__init__" = true)
    (k_Disk_init : PySem.W.keepIn K (.ref f_Disk_init) = true)
    {f_Disk_write : Addr} {od_Disk_write an_Disk_write : Option Addr} {sl_Disk_write : Array (Option Value)} {oc_Disk_write kV_Disk_write dc_Disk_write pm_Disk_write cd_Disk_write ct_Disk_write : Value}
    (at_Disk_write : PySem.W.findIn K (.ref f_Disk) "write" = some (some (.ref f_Disk_write)))
    (l_Disk_write : K.lookup f_Disk_write = some ⟨oc_Disk_write, od_Disk_write, .func (PySem.W.fnOf "write" "Disk.write" (defArgs s_Disk_write) (defBody s_Disk_write) (defScope s_Disk_write) .none kV_Disk_write dc_Disk_write pm_Disk_write an_Disk_write cd_Disk_write ct_Disk_write), sl_Disk_write⟩)
    (c_Disk_write : PySem.W.codeIn K cd_Disk_write "Disk.write" = true)
    (k_Disk_write : PySem.W.keepIn K (.ref f_Disk_write) = true)
    {f_Disk_remove : Addr} {od_Disk_remove an_Disk_remove : Option Addr} {sl_Disk_remove : Array (Option Value)} {oc_Disk_remove kV_Disk_remove dc_Disk_remove pm_Disk_remove cd_Disk_remove ct_Disk_remove : Value}
    (at_Disk_remove : PySem.W.findIn K (.ref f_Disk) "remove" = some (some (.ref f_Disk_remove)))
    (l_Disk_remove : K.lookup f_Disk_remove = some ⟨oc_Disk_remove, od_Disk_remove, .func (PySem.W.fnOf "remove" "Disk.remove" (defArgs s_Disk_remove) (defBody s_Disk_remove) (defScope s_Disk_remove) .none kV_Disk_remove dc_Disk_remove pm_Disk_remove an_Disk_remove cd_Disk_remove ct_Disk_remove), sl_Disk_remove⟩)
    (c_Disk_remove : PySem.W.codeIn K cd_Disk_remove "Disk.remove" = true)
    (k_Disk_remove : PySem.W.keepIn K (.ref f_Disk_remove) = true)
    {f_Disk_text_at : Addr} {od_Disk_text_at an_Disk_text_at : Option Addr} {sl_Disk_text_at : Array (Option Value)} {oc_Disk_text_at kV_Disk_text_at dc_Disk_text_at pm_Disk_text_at cd_Disk_text_at ct_Disk_text_at : Value}
    (at_Disk_text_at : PySem.W.findIn K (.ref f_Disk) "text_at" = some (some (.ref f_Disk_text_at)))
    (l_Disk_text_at : K.lookup f_Disk_text_at = some ⟨oc_Disk_text_at, od_Disk_text_at, .func (PySem.W.fnOf "text_at" "Disk.text_at" (defArgs s_Disk_text_at) (defBody s_Disk_text_at) (defScope s_Disk_text_at) .none kV_Disk_text_at dc_Disk_text_at pm_Disk_text_at an_Disk_text_at cd_Disk_text_at ct_Disk_text_at), sl_Disk_text_at⟩)
    (c_Disk_text_at : PySem.W.codeIn K cd_Disk_text_at "Disk.text_at" = true)
    (k_Disk_text_at : PySem.W.keepIn K (.ref f_Disk_text_at) = true)
    {f_Disk_paths : Addr} {od_Disk_paths an_Disk_paths : Option Addr} {sl_Disk_paths : Array (Option Value)} {oc_Disk_paths kV_Disk_paths dc_Disk_paths pm_Disk_paths cd_Disk_paths ct_Disk_paths : Value}
    (at_Disk_paths : PySem.W.findIn K (.ref f_Disk) "paths" = some (some (.ref f_Disk_paths)))
    {dt_Disk_paths : Addr} {dod_Disk_paths : Option Addr} {dsl_Disk_paths : Array (Option Value)} {dnn_Disk_paths : Nat} {dk_Disk_paths0 : Tok}
    (l_Disk_paths : K.lookup f_Disk_paths = some ⟨oc_Disk_paths, od_Disk_paths, .func (PySem.W.fnOf "paths" "Disk.paths" (defArgs s_Disk_paths) (defBody s_Disk_paths) (defScope s_Disk_paths) (.ref dt_Disk_paths) kV_Disk_paths dc_Disk_paths pm_Disk_paths an_Disk_paths cd_Disk_paths ct_Disk_paths), sl_Disk_paths⟩)
    (w_Disk_paths : K.lookup dt_Disk_paths = some ⟨.type "tuple", dod_Disk_paths, .seq #[.str "" dk_Disk_paths0] dnn_Disk_paths, dsl_Disk_paths⟩)
    (c_Disk_paths : PySem.W.codeIn K cd_Disk_paths "Disk.paths" = true)
    (k_Disk_paths : PySem.W.keepIn K (.ref f_Disk_paths) = true)
    {f_Disk_room : Addr} {od_Disk_room an_Disk_room : Option Addr} {sl_Disk_room : Array (Option Value)} {oc_Disk_room kV_Disk_room dc_Disk_room pm_Disk_room cd_Disk_room ct_Disk_room : Value}
    {p_Disk_room : Addr} {r_Disk_room : List Value}
    (at_Disk_room : PySem.W.findIn K (.ref f_Disk) "room" = some (some (.ref p_Disk_room)))
    (rc_Disk_room : PySem.W.recIn K p_Disk_room "property" = some (.ref f_Disk_room :: r_Disk_room))
    (l_Disk_room : K.lookup f_Disk_room = some ⟨oc_Disk_room, od_Disk_room, .func (PySem.W.fnOf "room" "Disk.room" (defArgs s_Disk_room) (defBody s_Disk_room) (defScope s_Disk_room) .none kV_Disk_room dc_Disk_room pm_Disk_room an_Disk_room cd_Disk_room ct_Disk_room), sl_Disk_room⟩)
    (c_Disk_room : PySem.W.codeIn K cd_Disk_room "Disk.room" = true)
    (k_Disk_room : PySem.W.keepIn K (.ref f_Disk_room) = true)
    {f_Disk_used : Addr} {od_Disk_used an_Disk_used : Option Addr} {sl_Disk_used : Array (Option Value)} {oc_Disk_used kV_Disk_used dc_Disk_used pm_Disk_used cd_Disk_used ct_Disk_used : Value}
    {p_Disk_used : Addr} {r_Disk_used : List Value}
    (at_Disk_used : PySem.W.findIn K (.ref f_Disk) "used" = some (some (.ref p_Disk_used)))
    (rc_Disk_used : PySem.W.recIn K p_Disk_used "property" = some (.ref f_Disk_used :: r_Disk_used))
    (l_Disk_used : K.lookup f_Disk_used = some ⟨oc_Disk_used, od_Disk_used, .func (PySem.W.fnOf "used" "Disk.used" (defArgs s_Disk_used) (defBody s_Disk_used) (defScope s_Disk_used) .none kV_Disk_used dc_Disk_used pm_Disk_used an_Disk_used cd_Disk_used ct_Disk_used), sl_Disk_used⟩)
    (c_Disk_used : PySem.W.codeIn K cd_Disk_used "Disk.used" = true)
    (k_Disk_used : PySem.W.keepIn K (.ref f_Disk_used) = true)
    {f_Disk_acts : Addr} {od_Disk_acts an_Disk_acts : Option Addr} {sl_Disk_acts : Array (Option Value)} {oc_Disk_acts kV_Disk_acts dc_Disk_acts pm_Disk_acts cd_Disk_acts ct_Disk_acts : Value}
    {p_Disk_acts : Addr} {r_Disk_acts : List Value}
    (at_Disk_acts : PySem.W.findIn K (.ref f_Disk) "acts" = some (some (.ref p_Disk_acts)))
    (rc_Disk_acts : PySem.W.recIn K p_Disk_acts "property" = some (.ref f_Disk_acts :: r_Disk_acts))
    (l_Disk_acts : K.lookup f_Disk_acts = some ⟨oc_Disk_acts, od_Disk_acts, .func (PySem.W.fnOf "acts" "Disk.acts" (defArgs s_Disk_acts) (defBody s_Disk_acts) (defScope s_Disk_acts) .none kV_Disk_acts dc_Disk_acts pm_Disk_acts an_Disk_acts cd_Disk_acts ct_Disk_acts), sl_Disk_acts⟩)
    (c_Disk_acts : PySem.W.codeIn K cd_Disk_acts "Disk.acts" = true)
    (k_Disk_acts : PySem.W.keepIn K (.ref f_Disk_acts) = true)
    {f_Disk_cut_after : Addr} {od_Disk_cut_after an_Disk_cut_after : Option Addr} {sl_Disk_cut_after : Array (Option Value)} {oc_Disk_cut_after kV_Disk_cut_after dc_Disk_cut_after pm_Disk_cut_after cd_Disk_cut_after ct_Disk_cut_after : Value}
    (at_Disk_cut_after : PySem.W.findIn K (.ref f_Disk) "cut_after" = some (some (.ref f_Disk_cut_after)))
    (l_Disk_cut_after : K.lookup f_Disk_cut_after = some ⟨oc_Disk_cut_after, od_Disk_cut_after, .func (PySem.W.fnOf "cut_after" "Disk.cut_after" (defArgs s_Disk_cut_after) (defBody s_Disk_cut_after) (defScope s_Disk_cut_after) .none kV_Disk_cut_after dc_Disk_cut_after pm_Disk_cut_after an_Disk_cut_after cd_Disk_cut_after ct_Disk_cut_after), sl_Disk_cut_after⟩)
    (c_Disk_cut_after : PySem.W.codeIn K cd_Disk_cut_after "Disk.cut_after" = true)
    (k_Disk_cut_after : PySem.W.keepIn K (.ref f_Disk_cut_after) = true)
    {f_Disk_power_on : Addr} {od_Disk_power_on an_Disk_power_on : Option Addr} {sl_Disk_power_on : Array (Option Value)} {oc_Disk_power_on kV_Disk_power_on dc_Disk_power_on pm_Disk_power_on cd_Disk_power_on ct_Disk_power_on : Value}
    (at_Disk_power_on : PySem.W.findIn K (.ref f_Disk) "power_on" = some (some (.ref f_Disk_power_on)))
    (l_Disk_power_on : K.lookup f_Disk_power_on = some ⟨oc_Disk_power_on, od_Disk_power_on, .func (PySem.W.fnOf "power_on" "Disk.power_on" (defArgs s_Disk_power_on) (defBody s_Disk_power_on) (defScope s_Disk_power_on) .none kV_Disk_power_on dc_Disk_power_on pm_Disk_power_on an_Disk_power_on cd_Disk_power_on ct_Disk_power_on), sl_Disk_power_on⟩)
    (c_Disk_power_on : PySem.W.codeIn K cd_Disk_power_on "Disk.power_on" = true)
    (k_Disk_power_on : PySem.W.keepIn K (.ref f_Disk_power_on) = true)
    {f_Disk_twin : Addr} {od_Disk_twin an_Disk_twin : Option Addr} {sl_Disk_twin : Array (Option Value)} {oc_Disk_twin kV_Disk_twin dc_Disk_twin pm_Disk_twin cd_Disk_twin ct_Disk_twin : Value}
    (at_Disk_twin : PySem.W.findIn K (.ref f_Disk) "twin" = some (some (.ref f_Disk_twin)))
    (l_Disk_twin : K.lookup f_Disk_twin = some ⟨oc_Disk_twin, od_Disk_twin, .func (PySem.W.fnOf "twin" "Disk.twin" (defArgs s_Disk_twin) (defBody s_Disk_twin) (defScope s_Disk_twin) .none kV_Disk_twin dc_Disk_twin pm_Disk_twin an_Disk_twin cd_Disk_twin ct_Disk_twin), sl_Disk_twin⟩)
    (c_Disk_twin : PySem.W.codeIn K cd_Disk_twin "Disk.twin" = true)
    (k_Disk_twin : PySem.W.keepIn K (.ref f_Disk_twin) = true)
    {f_Disk_check_power : Addr} {od_Disk_check_power an_Disk_check_power : Option Addr} {sl_Disk_check_power : Array (Option Value)} {oc_Disk_check_power kV_Disk_check_power dc_Disk_check_power pm_Disk_check_power cd_Disk_check_power ct_Disk_check_power : Value}
    (at_Disk_check_power : PySem.W.findIn K (.ref f_Disk) "_check_power" = some (some (.ref f_Disk_check_power)))
    (l_Disk_check_power : K.lookup f_Disk_check_power = some ⟨oc_Disk_check_power, od_Disk_check_power, .func (PySem.W.fnOf "_check_power" "Disk._check_power" (defArgs s_Disk_check_power) (defBody s_Disk_check_power) (defScope s_Disk_check_power) .none kV_Disk_check_power dc_Disk_check_power pm_Disk_check_power an_Disk_check_power cd_Disk_check_power ct_Disk_check_power), sl_Disk_check_power⟩)
    (c_Disk_check_power : PySem.W.codeIn K cd_Disk_check_power "Disk._check_power" = true)
    (k_Disk_check_power : PySem.W.keepIn K (.ref f_Disk_check_power) = true)
    {f_Disk_act : Addr} {od_Disk_act an_Disk_act : Option Addr} {sl_Disk_act : Array (Option Value)} {oc_Disk_act kV_Disk_act dc_Disk_act pm_Disk_act cd_Disk_act ct_Disk_act : Value}
    (at_Disk_act : PySem.W.findIn K (.ref f_Disk) "_act" = some (some (.ref f_Disk_act)))
    (l_Disk_act : K.lookup f_Disk_act = some ⟨oc_Disk_act, od_Disk_act, .func (PySem.W.fnOf "_act" "Disk._act" (defArgs s_Disk_act) (defBody s_Disk_act) (defScope s_Disk_act) .none kV_Disk_act dc_Disk_act pm_Disk_act an_Disk_act cd_Disk_act ct_Disk_act), sl_Disk_act⟩)
    (c_Disk_act : PySem.W.codeIn K cd_Disk_act "Disk._act" = true)
    (k_Disk_act : PySem.W.keepIn K (.ref f_Disk_act) = true)
    {f_Disk_contains : Addr} {od_Disk_contains an_Disk_contains : Option Addr} {sl_Disk_contains : Array (Option Value)} {oc_Disk_contains kV_Disk_contains dc_Disk_contains pm_Disk_contains cd_Disk_contains ct_Disk_contains : Value}
    (at_Disk_contains : PySem.W.findIn K (.ref f_Disk) "__contains__" = some (some (.ref f_Disk_contains)))
    (l_Disk_contains : K.lookup f_Disk_contains = some ⟨oc_Disk_contains, od_Disk_contains, .func (PySem.W.fnOf "__contains__" "Disk.__contains__" (defArgs s_Disk_contains) (defBody s_Disk_contains) (defScope s_Disk_contains) .none kV_Disk_contains dc_Disk_contains pm_Disk_contains an_Disk_contains cd_Disk_contains ct_Disk_contains), sl_Disk_contains⟩)
    (c_Disk_contains : PySem.W.codeIn K cd_Disk_contains "Disk.__contains__" = true)
    (k_Disk_contains : PySem.W.keepIn K (.ref f_Disk_contains) = true)
    {f_Disk_len : Addr} {od_Disk_len an_Disk_len : Option Addr} {sl_Disk_len : Array (Option Value)} {oc_Disk_len kV_Disk_len dc_Disk_len pm_Disk_len cd_Disk_len ct_Disk_len : Value}
    (at_Disk_len : PySem.W.findIn K (.ref f_Disk) "__len__" = some (some (.ref f_Disk_len)))
    (l_Disk_len : K.lookup f_Disk_len = some ⟨oc_Disk_len, od_Disk_len, .func (PySem.W.fnOf "__len__" "Disk.__len__" (defArgs s_Disk_len) (defBody s_Disk_len) (defScope s_Disk_len) .none kV_Disk_len dc_Disk_len pm_Disk_len an_Disk_len cd_Disk_len ct_Disk_len), sl_Disk_len⟩)
    (c_Disk_len : PySem.W.codeIn K cd_Disk_len "Disk.__len__" = true)
    (k_Disk_len : PySem.W.keepIn K (.ref f_Disk_len) = true)
    {f_Disk_eq : Addr} {od_Disk_eq an_Disk_eq : Option Addr} {sl_Disk_eq : Array (Option Value)} {oc_Disk_eq kV_Disk_eq dc_Disk_eq pm_Disk_eq cd_Disk_eq ct_Disk_eq : Value}
    (at_Disk_eq : PySem.W.findIn K (.ref f_Disk) "__eq__" = some (some (.ref f_Disk_eq)))
    (l_Disk_eq : K.lookup f_Disk_eq = some ⟨oc_Disk_eq, od_Disk_eq, .func (PySem.W.fnOf "__eq__" "Disk.__eq__" (defArgs s_Disk_eq) (defBody s_Disk_eq) (defScope s_Disk_eq) .none kV_Disk_eq dc_Disk_eq pm_Disk_eq an_Disk_eq cd_Disk_eq ct_Disk_eq), sl_Disk_eq⟩)
    (c_Disk_eq : PySem.W.codeIn K cd_Disk_eq "Disk.__eq__" = true)
    (k_Disk_eq : PySem.W.keepIn K (.ref f_Disk_eq) = true)
    {f_begin : Addr} {od_begin an_begin : Option Addr} {sl_begin : Array (Option Value)} {oc_begin kV_begin dc_begin pm_begin cd_begin ct_begin : Value}
    (n_begin : PySem.W.nsIn K mainGlobals "_law_begin" = some (some (.ref f_begin)))
    (l_begin : K.lookup f_begin = some ⟨oc_begin, od_begin, .func (PySem.W.fnOf "_law_begin" "_law_begin" (defArgs s_begin) (defBody s_begin) (defScope s_begin) .none kV_begin dc_begin pm_begin an_begin cd_begin ct_begin), sl_begin⟩)
    (c_begin : PySem.W.codeIn K cd_begin "_law_begin" = true)
    (k_begin : PySem.W.keepIn K (.ref f_begin) = true)
    {f_mixed : Addr} {od_mixed an_mixed : Option Addr} {sl_mixed : Array (Option Value)} {oc_mixed kV_mixed dc_mixed pm_mixed cd_mixed ct_mixed : Value}
    (n_mixed : PySem.W.nsIn K mainGlobals "_law_mixed" = some (some (.ref f_mixed)))
    (l_mixed : K.lookup f_mixed = some ⟨oc_mixed, od_mixed, .func (PySem.W.fnOf "_law_mixed" "_law_mixed" (defArgs s_mixed) (defBody s_mixed) (defScope s_mixed) .none kV_mixed dc_mixed pm_mixed an_mixed cd_mixed ct_mixed), sl_mixed⟩)
    (c_mixed : PySem.W.codeIn K cd_mixed "_law_mixed" = true)
    (k_mixed : PySem.W.keepIn K (.ref f_mixed) = true)
    {f_next : Addr} {od_next an_next : Option Addr} {sl_next : Array (Option Value)} {oc_next kV_next dc_next pm_next cd_next ct_next : Value}
    (n_next : PySem.W.nsIn K mainGlobals "_law_next" = some (some (.ref f_next)))
    (l_next : K.lookup f_next = some ⟨oc_next, od_next, .func (PySem.W.fnOf "_law_next" "_law_next" (defArgs s_next) (defBody s_next) (defScope s_next) .none kV_next dc_next pm_next an_next cd_next ct_next), sl_next⟩)
    (c_next : PySem.W.codeIn K cd_next "_law_next" = true)
    (k_next : PySem.W.keepIn K (.ref f_next) = true)
    {f_pick : Addr} {od_pick an_pick : Option Addr} {sl_pick : Array (Option Value)} {oc_pick kV_pick dc_pick pm_pick cd_pick ct_pick : Value}
    (n_pick : PySem.W.nsIn K mainGlobals "_law_pick" = some (some (.ref f_pick)))
    (l_pick : K.lookup f_pick = some ⟨oc_pick, od_pick, .func (PySem.W.fnOf "_law_pick" "_law_pick" (defArgs s_pick) (defBody s_pick) (defScope s_pick) .none kV_pick dc_pick pm_pick an_pick cd_pick ct_pick), sl_pick⟩)
    (c_pick : PySem.W.codeIn K cd_pick "_law_pick" = true)
    (k_pick : PySem.W.keepIn K (.ref f_pick) = true)
    {f_place : Addr} {od_place an_place : Option Addr} {sl_place : Array (Option Value)} {oc_place kV_place dc_place pm_place cd_place ct_place : Value}
    (n_place : PySem.W.nsIn K mainGlobals "_law_place" = some (some (.ref f_place)))
    (l_place : K.lookup f_place = some ⟨oc_place, od_place, .func (PySem.W.fnOf "_law_place" "_law_place" (defArgs s_place) (defBody s_place) (defScope s_place) .none kV_place dc_place pm_place an_place cd_place ct_place), sl_place⟩)
    (c_place : PySem.W.codeIn K cd_place "_law_place" = true)
    (k_place : PySem.W.keepIn K (.ref f_place) = true)
    {f_words : Addr} {od_words an_words : Option Addr} {sl_words : Array (Option Value)} {oc_words kV_words dc_words pm_words cd_words ct_words : Value}
    (n_words : PySem.W.nsIn K mainGlobals "_law_words" = some (some (.ref f_words)))
    (l_words : K.lookup f_words = some ⟨oc_words, od_words, .func (PySem.W.fnOf "_law_words" "_law_words" (defArgs s_words) (defBody s_words) (defScope s_words) .none kV_words dc_words pm_words an_words cd_words ct_words), sl_words⟩)
    (c_words : PySem.W.codeIn K cd_words "_law_words" = true)
    (k_words : PySem.W.keepIn K (.ref f_words) = true)
    {f_shows : Addr} {od_shows an_shows : Option Addr} {sl_shows : Array (Option Value)} {oc_shows kV_shows dc_shows pm_shows cd_shows ct_shows : Value}
    (n_shows : PySem.W.nsIn K mainGlobals "_law_shows" = some (some (.ref f_shows)))
    (l_shows : K.lookup f_shows = some ⟨oc_shows, od_shows, .func (PySem.W.fnOf "_law_shows" "_law_shows" (defArgs s_shows) (defBody s_shows) (defScope s_shows) .none kV_shows dc_shows pm_shows an_shows cd_shows ct_shows), sl_shows⟩)
    (c_shows : PySem.W.codeIn K cd_shows "_law_shows" = true)
    (k_shows : PySem.W.keepIn K (.ref f_shows) = true)
    {f_paths_right : Addr} {od_paths_right an_paths_right : Option Addr} {sl_paths_right : Array (Option Value)} {oc_paths_right kV_paths_right dc_paths_right pm_paths_right cd_paths_right ct_paths_right : Value}
    (n_paths_right : PySem.W.nsIn K mainGlobals "_law_paths_right" = some (some (.ref f_paths_right)))
    (l_paths_right : K.lookup f_paths_right = some ⟨oc_paths_right, od_paths_right, .func (PySem.W.fnOf "_law_paths_right" "_law_paths_right" (defArgs s_paths_right) (defBody s_paths_right) (defScope s_paths_right) .none kV_paths_right dc_paths_right pm_paths_right an_paths_right cd_paths_right ct_paths_right), sl_paths_right⟩)
    (c_paths_right : PySem.W.codeIn K cd_paths_right "_law_paths_right" = true)
    (k_paths_right : PySem.W.keepIn K (.ref f_paths_right) = true)
    {f_twin_right : Addr} {od_twin_right an_twin_right : Option Addr} {sl_twin_right : Array (Option Value)} {oc_twin_right kV_twin_right dc_twin_right pm_twin_right cd_twin_right ct_twin_right : Value}
    (n_twin_right : PySem.W.nsIn K mainGlobals "_law_twin_right" = some (some (.ref f_twin_right)))
    (l_twin_right : K.lookup f_twin_right = some ⟨oc_twin_right, od_twin_right, .func (PySem.W.fnOf "_law_twin_right" "_law_twin_right" (defArgs s_twin_right) (defBody s_twin_right) (defScope s_twin_right) .none kV_twin_right dc_twin_right pm_twin_right an_twin_right cd_twin_right ct_twin_right), sl_twin_right⟩)
    (c_twin_right : PySem.W.codeIn K cd_twin_right "_law_twin_right" = true)
    (k_twin_right : PySem.W.keepIn K (.ref f_twin_right) = true)
    {f_acted : Addr} {od_acted an_acted : Option Addr} {sl_acted : Array (Option Value)} {oc_acted kV_acted dc_acted pm_acted cd_acted ct_acted : Value}
    (n_acted : PySem.W.nsIn K mainGlobals "_law_acted" = some (some (.ref f_acted)))
    (l_acted : K.lookup f_acted = some ⟨oc_acted, od_acted, .func (PySem.W.fnOf "_law_acted" "_law_acted" (defArgs s_acted) (defBody s_acted) (defScope s_acted) .none kV_acted dc_acted pm_acted an_acted cd_acted ct_acted), sl_acted⟩)
    (c_acted : PySem.W.codeIn K cd_acted "_law_acted" = true)
    (k_acted : PySem.W.keepIn K (.ref f_acted) = true)
    {f_law : Addr} {od_law an_law : Option Addr} {sl_law : Array (Option Value)} {oc_law kV_law dc_law pm_law cd_law ct_law : Value}
    (n_law : PySem.W.nsIn K mainGlobals "law" = some (some (.ref f_law)))
    (l_law : K.lookup f_law = some ⟨oc_law, od_law, .func (PySem.W.fnOf "law" "law" (defArgs s_law) (defBody s_law) (defScope s_law) .none kV_law dc_law pm_law an_law cd_law ct_law), sl_law⟩)
    (c_law : PySem.W.codeIn K cd_law "law" = true)
    (k_law : PySem.W.keepIn K (.ref f_law) = true)
    {f_BadPath : Addr}
    {f_BadPath_init : Addr} {od_BadPath_init an_BadPath_init : Option Addr} {sl_BadPath_init : Array (Option Value)} {oc_BadPath_init kV_BadPath_init dc_BadPath_init pm_BadPath_init cd_BadPath_init ct_BadPath_init : Value}
    (n_BadPath : PySem.W.nsIn K mainGlobals "BadPath" = some (some (.ref f_BadPath)))
    (at_BadPath_init : PySem.W.findIn K (.ref f_BadPath) "__init__" = some (some (.ref f_BadPath_init)))
    (l_BadPath_init : K.lookup f_BadPath_init = some ⟨oc_BadPath_init, od_BadPath_init, .func (PySem.W.fnOf "__init__" "BadPath.__init__" (defArgs s_BadPath_init) (defBody s_BadPath_init) (defScope s_BadPath_init) .none kV_BadPath_init dc_BadPath_init pm_BadPath_init an_BadPath_init cd_BadPath_init ct_BadPath_init), sl_BadPath_init⟩)
    (c_BadPath_init : PySem.W.codeIn K cd_BadPath_init "BadPath.__init__" = true)
    (k_BadPath_init : PySem.W.keepIn K (.ref f_BadPath_init) = true)
    {f_BadText : Addr}
    {f_BadText_init : Addr} {od_BadText_init an_BadText_init : Option Addr} {sl_BadText_init : Array (Option Value)} {oc_BadText_init kV_BadText_init dc_BadText_init pm_BadText_init cd_BadText_init ct_BadText_init : Value}
    (n_BadText : PySem.W.nsIn K mainGlobals "BadText" = some (some (.ref f_BadText)))
    (at_BadText_init : PySem.W.findIn K (.ref f_BadText) "__init__" = some (some (.ref f_BadText_init)))
    (l_BadText_init : K.lookup f_BadText_init = some ⟨oc_BadText_init, od_BadText_init, .func (PySem.W.fnOf "__init__" "BadText.__init__" (defArgs s_BadText_init) (defBody s_BadText_init) (defScope s_BadText_init) .none kV_BadText_init dc_BadText_init pm_BadText_init an_BadText_init cd_BadText_init ct_BadText_init), sl_BadText_init⟩)
    (c_BadText_init : PySem.W.codeIn K cd_BadText_init "BadText.__init__" = true)
    (k_BadText_init : PySem.W.keepIn K (.ref f_BadText_init) = true)
    {f_BadCount : Addr}
    {f_BadCount_init : Addr} {od_BadCount_init an_BadCount_init : Option Addr} {sl_BadCount_init : Array (Option Value)} {oc_BadCount_init kV_BadCount_init dc_BadCount_init pm_BadCount_init cd_BadCount_init ct_BadCount_init : Value}
    (n_BadCount : PySem.W.nsIn K mainGlobals "BadCount" = some (some (.ref f_BadCount)))
    (at_BadCount_init : PySem.W.findIn K (.ref f_BadCount) "__init__" = some (some (.ref f_BadCount_init)))
    (l_BadCount_init : K.lookup f_BadCount_init = some ⟨oc_BadCount_init, od_BadCount_init, .func (PySem.W.fnOf "__init__" "BadCount.__init__" (defArgs s_BadCount_init) (defBody s_BadCount_init) (defScope s_BadCount_init) .none kV_BadCount_init dc_BadCount_init pm_BadCount_init an_BadCount_init cd_BadCount_init ct_BadCount_init), sl_BadCount_init⟩)
    (c_BadCount_init : PySem.W.codeIn K cd_BadCount_init "BadCount.__init__" = true)
    (k_BadCount_init : PySem.W.keepIn K (.ref f_BadCount_init) = true)
    {f_NoRoom : Addr}
    {f_NoRoom_init : Addr} {od_NoRoom_init an_NoRoom_init : Option Addr} {sl_NoRoom_init : Array (Option Value)} {oc_NoRoom_init kV_NoRoom_init dc_NoRoom_init pm_NoRoom_init cd_NoRoom_init ct_NoRoom_init : Value}
    (n_NoRoom : PySem.W.nsIn K mainGlobals "NoRoom" = some (some (.ref f_NoRoom)))
    (at_NoRoom_init : PySem.W.findIn K (.ref f_NoRoom) "__init__" = some (some (.ref f_NoRoom_init)))
    (l_NoRoom_init : K.lookup f_NoRoom_init = some ⟨oc_NoRoom_init, od_NoRoom_init, .func (PySem.W.fnOf "__init__" "NoRoom.__init__" (defArgs s_NoRoom_init) (defBody s_NoRoom_init) (defScope s_NoRoom_init) .none kV_NoRoom_init dc_NoRoom_init pm_NoRoom_init an_NoRoom_init cd_NoRoom_init ct_NoRoom_init), sl_NoRoom_init⟩)
    (c_NoRoom_init : PySem.W.codeIn K cd_NoRoom_init "NoRoom.__init__" = true)
    (k_NoRoom_init : PySem.W.keepIn K (.ref f_NoRoom_init) = true)
    {f_PowerCut : Addr}
    {f_PowerCut_init : Addr} {od_PowerCut_init an_PowerCut_init : Option Addr} {sl_PowerCut_init : Array (Option Value)} {oc_PowerCut_init kV_PowerCut_init dc_PowerCut_init pm_PowerCut_init cd_PowerCut_init ct_PowerCut_init : Value}
    (n_PowerCut : PySem.W.nsIn K mainGlobals "PowerCut" = some (some (.ref f_PowerCut)))
    (at_PowerCut_init : PySem.W.findIn K (.ref f_PowerCut) "__init__" = some (some (.ref f_PowerCut_init)))
    (l_PowerCut_init : K.lookup f_PowerCut_init = some ⟨oc_PowerCut_init, od_PowerCut_init, .func (PySem.W.fnOf "__init__" "PowerCut.__init__" (defArgs s_PowerCut_init) (defBody s_PowerCut_init) (defScope s_PowerCut_init) .none kV_PowerCut_init dc_PowerCut_init pm_PowerCut_init an_PowerCut_init cd_PowerCut_init ct_PowerCut_init), sl_PowerCut_init⟩)
    (c_PowerCut_init : PySem.W.codeIn K cd_PowerCut_init "PowerCut.__init__" = true)
    (k_PowerCut_init : PySem.W.keepIn K (.ref f_PowerCut_init) = true)
    {f_NoPath : Addr}
    {f_NoPath_init : Addr} {od_NoPath_init an_NoPath_init : Option Addr} {sl_NoPath_init : Array (Option Value)} {oc_NoPath_init kV_NoPath_init dc_NoPath_init pm_NoPath_init cd_NoPath_init ct_NoPath_init : Value}
    (n_NoPath : PySem.W.nsIn K mainGlobals "NoPath" = some (some (.ref f_NoPath)))
    (at_NoPath_init : PySem.W.findIn K (.ref f_NoPath) "__init__" = some (some (.ref f_NoPath_init)))
    (l_NoPath_init : K.lookup f_NoPath_init = some ⟨oc_NoPath_init, od_NoPath_init, .func (PySem.W.fnOf "__init__" "NoPath.__init__" (defArgs s_NoPath_init) (defBody s_NoPath_init) (defScope s_NoPath_init) .none kV_NoPath_init dc_NoPath_init pm_NoPath_init an_NoPath_init cd_NoPath_init ct_NoPath_init), sl_NoPath_init⟩)
    (c_NoPath_init : PySem.W.codeIn K cd_NoPath_init "NoPath.__init__" = true)
    (k_NoPath_init : PySem.W.keepIn K (.ref f_NoPath_init) = true)
    {f_ParcelError : Addr}
    (n_ParcelError : PySem.W.nsIn K mainGlobals "ParcelError" = some (some (.ref f_ParcelError)))
    (xb_ParcelError : PySem.W.subIn K (.ref f_ParcelError) (.type "BaseException") = some true)
    (xd_ParcelError : PySem.W.hasDictIn K f_ParcelError = true)
    (xy_ParcelError : PySem.W.typeIn K (.ref f_ParcelError) = some (.type "type"))
    (xz_ParcelError : PySem.W.subIn K (.ref f_ParcelError) (.ref f_ParcelError) = some true)
    {f_ChoiceError : Addr}
    (n_ChoiceError : PySem.W.nsIn K mainGlobals "ChoiceError" = some (some (.ref f_ChoiceError)))
    (xb_ChoiceError : PySem.W.subIn K (.ref f_ChoiceError) (.type "BaseException") = some true)
    (xd_ChoiceError : PySem.W.hasDictIn K f_ChoiceError = true)
    (xy_ChoiceError : PySem.W.typeIn K (.ref f_ChoiceError) = some (.type "type"))
    (xz_ChoiceError : PySem.W.subIn K (.ref f_ChoiceError) (.ref f_ChoiceError) = some true)
    {f_AbsentError : Addr}
    (n_AbsentError : PySem.W.nsIn K mainGlobals "AbsentError" = some (some (.ref f_AbsentError)))
    (xb_AbsentError : PySem.W.subIn K (.ref f_AbsentError) (.type "BaseException") = some true)
    (xd_AbsentError : PySem.W.hasDictIn K f_AbsentError = true)
    (xy_AbsentError : PySem.W.typeIn K (.ref f_AbsentError) = some (.type "type"))
    (xz_AbsentError : PySem.W.subIn K (.ref f_AbsentError) (.ref f_AbsentError) = some true)
    (xn_ : PySem.W.specialIn K (.builtin "object.__class__") "__get__" = some (some (.builtin "getset_descriptor.__get__")))
    (xq_ : PySem.W.takesIn K (.builtin "object.__class__") = some true)
    {nm_BadPath qn_BadPath : Str} {N_BadPath : Addr} {bs_BadPath : List Value} {sn_BadPath : List Str} {sub_BadPath : List Value} {ab_BadPath : Bool} {col_BadPath : Option Bool} {dd_BadPath : Option Addr} {k0_BadPath k1_BadPath k2_BadPath k3_BadPath k5_BadPath : Option Value}
    (xl_BadPath : K.lookup f_BadPath = some (excClassObj nm_BadPath qn_BadPath f_BadPath N_BadPath bs_BadPath [.ref f_ParcelError, .type "ValueError", .type "Exception", .type "BaseException", .type "object"] true sn_BadPath sub_BadPath ab_BadPath col_BadPath dd_BadPath k0_BadPath k1_BadPath k2_BadPath k3_BadPath k5_BadPath "ValueError.__new__"))
    (xsa_BadPath : PySem.W.findIn K (.ref f_BadPath) "__setattr__" = some (some (.builtin "object.__setattr__")))
    (xg_BadPath : PySem.W.findIn K (.ref f_BadPath) "__getattribute__" = some (some (.builtin "BaseException.__getattribute__")))
    (xh_BadPath : PySem.W.findIn K (.ref f_BadPath) "__getattr__" = some none)
    (xc_BadPath : PySem.W.findIn K (.ref f_BadPath) "__class__" = some (some (.builtin "object.__class__")))
    (xk_BadPath : PySem.W.keepIn K (.ref f_BadPath) = true)
    (xt_BadPath : PySem.W.typeIn K (.ref f_BadPath_init) = some (.type "function"))
    (xf_BadPath : PySem.W.findIn K (.ref f_BadPath) "given" = some none)
    {nm_BadText qn_BadText : Str} {N_BadText : Addr} {bs_BadText : List Value} {sn_BadText : List Str} {sub_BadText : List Value} {ab_BadText : Bool} {col_BadText : Option Bool} {dd_BadText : Option Addr} {k0_BadText k1_BadText k2_BadText k3_BadText k5_BadText : Option Value}
    (xl_BadText : K.lookup f_BadText = some (excClassObj nm_BadText qn_BadText f_BadText N_BadText bs_BadText [.ref f_ParcelError, .type "ValueError", .type "Exception", .type "BaseException", .type "object"] true sn_BadText sub_BadText ab_BadText col_BadText dd_BadText k0_BadText k1_BadText k2_BadText k3_BadText k5_BadText "ValueError.__new__"))
    (xsa_BadText : PySem.W.findIn K (.ref f_BadText) "__setattr__" = some (some (.builtin "object.__setattr__")))
    (xg_BadText : PySem.W.findIn K (.ref f_BadText) "__getattribute__" = some (some (.builtin "BaseException.__getattribute__")))
    (xh_BadText : PySem.W.findIn K (.ref f_BadText) "__getattr__" = some none)
    (xc_BadText : PySem.W.findIn K (.ref f_BadText) "__class__" = some (some (.builtin "object.__class__")))
    (xk_BadText : PySem.W.keepIn K (.ref f_BadText) = true)
    (xt_BadText : PySem.W.typeIn K (.ref f_BadText_init) = some (.type "function"))
    (xf_BadText : PySem.W.findIn K (.ref f_BadText) "given" = some none)
    {nm_BadCount qn_BadCount : Str} {N_BadCount : Addr} {bs_BadCount : List Value} {sn_BadCount : List Str} {sub_BadCount : List Value} {ab_BadCount : Bool} {col_BadCount : Option Bool} {dd_BadCount : Option Addr} {k0_BadCount k1_BadCount k2_BadCount k3_BadCount k5_BadCount : Option Value}
    (xl_BadCount : K.lookup f_BadCount = some (excClassObj nm_BadCount qn_BadCount f_BadCount N_BadCount bs_BadCount [.ref f_ParcelError, .type "ValueError", .type "Exception", .type "BaseException", .type "object"] true sn_BadCount sub_BadCount ab_BadCount col_BadCount dd_BadCount k0_BadCount k1_BadCount k2_BadCount k3_BadCount k5_BadCount "ValueError.__new__"))
    (xsa_BadCount : PySem.W.findIn K (.ref f_BadCount) "__setattr__" = some (some (.builtin "object.__setattr__")))
    (xg_BadCount : PySem.W.findIn K (.ref f_BadCount) "__getattribute__" = some (some (.builtin "BaseException.__getattribute__")))
    (xh_BadCount : PySem.W.findIn K (.ref f_BadCount) "__getattr__" = some none)
    (xc_BadCount : PySem.W.findIn K (.ref f_BadCount) "__class__" = some (some (.builtin "object.__class__")))
    (xk_BadCount : PySem.W.keepIn K (.ref f_BadCount) = true)
    (xt_BadCount : PySem.W.typeIn K (.ref f_BadCount_init) = some (.type "function"))
    (xf_BadCount : PySem.W.findIn K (.ref f_BadCount) "given" = some none)
    {nm_NoRoom qn_NoRoom : Str} {N_NoRoom : Addr} {bs_NoRoom : List Value} {sn_NoRoom : List Str} {sub_NoRoom : List Value} {ab_NoRoom : Bool} {col_NoRoom : Option Bool} {dd_NoRoom : Option Addr} {k0_NoRoom k1_NoRoom k2_NoRoom k3_NoRoom k5_NoRoom : Option Value}
    (xl_NoRoom : K.lookup f_NoRoom = some (excClassObj nm_NoRoom qn_NoRoom f_NoRoom N_NoRoom bs_NoRoom [.ref f_ChoiceError, .type "RuntimeError", .type "Exception", .type "BaseException", .type "object"] true sn_NoRoom sub_NoRoom ab_NoRoom col_NoRoom dd_NoRoom k0_NoRoom k1_NoRoom k2_NoRoom k3_NoRoom k5_NoRoom "RuntimeError.__new__"))
    (xsa_NoRoom : PySem.W.findIn K (.ref f_NoRoom) "__setattr__" = some (some (.builtin "object.__setattr__")))
    (xg_NoRoom : PySem.W.findIn K (.ref f_NoRoom) "__getattribute__" = some (some (.builtin "BaseException.__getattribute__")))
    (xh_NoRoom : PySem.W.findIn K (.ref f_NoRoom) "__getattr__" = some none)
    (xc_NoRoom : PySem.W.findIn K (.ref f_NoRoom) "__class__" = some (some (.builtin "object.__class__")))
    (xk_NoRoom : PySem.W.keepIn K (.ref f_NoRoom) = true)
    (xt_NoRoom : PySem.W.typeIn K (.ref f_NoRoom_init) = some (.type "function"))
    (xf_NoRoom : PySem.W.findIn K (.ref f_NoRoom) "wanted" = some none)
    {nm_PowerCut qn_PowerCut : Str} {N_PowerCut : Addr} {bs_PowerCut : List Value} {sn_PowerCut : List Str} {sub_PowerCut : List Value} {ab_PowerCut : Bool} {col_PowerCut : Option Bool} {dd_PowerCut : Option Addr} {k0_PowerCut k1_PowerCut k2_PowerCut k3_PowerCut k5_PowerCut : Option Value}
    (xl_PowerCut : K.lookup f_PowerCut = some (excClassObj nm_PowerCut qn_PowerCut f_PowerCut N_PowerCut bs_PowerCut [.ref f_ChoiceError, .type "RuntimeError", .type "Exception", .type "BaseException", .type "object"] true sn_PowerCut sub_PowerCut ab_PowerCut col_PowerCut dd_PowerCut k0_PowerCut k1_PowerCut k2_PowerCut k3_PowerCut k5_PowerCut "RuntimeError.__new__"))
    (xsa_PowerCut : PySem.W.findIn K (.ref f_PowerCut) "__setattr__" = some (some (.builtin "object.__setattr__")))
    (xg_PowerCut : PySem.W.findIn K (.ref f_PowerCut) "__getattribute__" = some (some (.builtin "BaseException.__getattribute__")))
    (xh_PowerCut : PySem.W.findIn K (.ref f_PowerCut) "__getattr__" = some none)
    (xc_PowerCut : PySem.W.findIn K (.ref f_PowerCut) "__class__" = some (some (.builtin "object.__class__")))
    (xk_PowerCut : PySem.W.keepIn K (.ref f_PowerCut) = true)
    (xt_PowerCut : PySem.W.typeIn K (.ref f_PowerCut_init) = some (.type "function"))
    (xf_PowerCut : PySem.W.findIn K (.ref f_PowerCut) "done" = some none)
    {nm_NoPath qn_NoPath : Str} {N_NoPath : Addr} {bs_NoPath : List Value} {sn_NoPath : List Str} {sub_NoPath : List Value} {ab_NoPath : Bool} {col_NoPath : Option Bool} {dd_NoPath : Option Addr} {k0_NoPath k1_NoPath k2_NoPath k3_NoPath k5_NoPath : Option Value}
    (xl_NoPath : K.lookup f_NoPath = some (excClassObj nm_NoPath qn_NoPath f_NoPath N_NoPath bs_NoPath [.ref f_AbsentError, .type "LookupError", .type "Exception", .type "BaseException", .type "object"] true sn_NoPath sub_NoPath ab_NoPath col_NoPath dd_NoPath k0_NoPath k1_NoPath k2_NoPath k3_NoPath k5_NoPath "LookupError.__new__"))
    (xsa_NoPath : PySem.W.findIn K (.ref f_NoPath) "__setattr__" = some (some (.builtin "object.__setattr__")))
    (xg_NoPath : PySem.W.findIn K (.ref f_NoPath) "__getattribute__" = some (some (.builtin "BaseException.__getattribute__")))
    (xh_NoPath : PySem.W.findIn K (.ref f_NoPath) "__getattr__" = some none)
    (xc_NoPath : PySem.W.findIn K (.ref f_NoPath) "__class__" = some (some (.builtin "object.__class__")))
    (xk_NoPath : PySem.W.keepIn K (.ref f_NoPath) = true)
    (xt_NoPath : PySem.W.typeIn K (.ref f_NoPath_init) = some (.type "function"))
    (xf_NoPath : PySem.W.findIn K (.ref f_NoPath) "given" = some none)
    (exd : ([f_BadPath, f_BadText, f_BadCount, f_NoRoom, f_PowerCut, f_NoPath, f_ParcelError, f_ChoiceError, f_AbsentError] : List Addr).Nodup)
    (on_Disk : PySem.W.findIn K (.ref f_Disk) "__ne__" = some (some (.builtin "object.__ne__")))
    (pg_Disk : PySem.W.plainGet K f_Disk Str.empty = true)
    (hd_Disk : PySem.W.hasDictIn K f_Disk = true)
    (po_Disk : PySem.W.plainOver K f_Disk = true)
    (sa_Disk : PySem.W.findIn K (.ref f_Disk) "__setattr__" = some (some (.builtin "object.__setattr__")))
    (mk_Disk : PySem.W.makesIn K f_Disk = true)
    (kc_Disk : PySem.W.keepIn K (.ref f_Disk) = true)
    (rd_Disk : PySem.W.readsIn K f_Disk (.type "type") = true)
    (ga_Disk : PySem.W.specialIn K (.ref f_Disk) "__getattribute__" = some (some (.builtin "type.__getattribute__")))
    (ca_Disk : PySem.W.findIn K (.ref f_Disk) "__class__" = some (some (.builtin "object.__class__")))
    (cn_Disk : PySem.W.specialIn K (.builtin "object.__class__") "__get__" = some (some (.builtin "getset_descriptor.__get__")))
    (ct_Disk : PySem.W.takesIn K (.builtin "object.__class__") = some true)
    (cm_Disk : PySem.W.mroIn K f_Disk (.type "object") = some true)
    (nf_Disk : PySem.W.notFirst K f_Disk (.ref f_Disk) = true)
    (fn_Disk_init : PySem.W.isFn K (.ref f_Disk_init) = true)
    (na_Disk_room : PySem.W.findIn K (.ref f_Disk) "_room" = some none)
    (na_Disk_texts : PySem.W.findIn K (.ref f_Disk) "_texts" = some none)
    (na_Disk_used : PySem.W.findIn K (.ref f_Disk) "_used" = some none)
    (na_Disk_acts : PySem.W.findIn K (.ref f_Disk) "_acts" = some none)
    (na_Disk_power : PySem.W.findIn K (.ref f_Disk) "_power" = some none)
    (fn_Disk_write : PySem.W.isFn K (.ref f_Disk_write) = true)
    (fn_Disk_remove : PySem.W.isFn K (.ref f_Disk_remove) = true)
    (fn_Disk_text_at : PySem.W.isFn K (.ref f_Disk_text_at) = true)
    (fn_Disk_paths : PySem.W.isFn K (.ref f_Disk_paths) = true)
    (ge_Disk_room : PySem.W.specialIn K (.ref p_Disk_room) "__get__" = some (some (.builtin "property.__get__")))
    (tk_Disk_room : PySem.W.takesIn K (.ref p_Disk_room) = some true)
    (ge_Disk_used : PySem.W.specialIn K (.ref p_Disk_used) "__get__" = some (some (.builtin "property.__get__")))
    (tk_Disk_used : PySem.W.takesIn K (.ref p_Disk_used) = some true)
    (ge_Disk_acts : PySem.W.specialIn K (.ref p_Disk_acts) "__get__" = some (some (.builtin "property.__get__")))
    (tk_Disk_acts : PySem.W.takesIn K (.ref p_Disk_acts) = some true)
    (fn_Disk_cut_after : PySem.W.isFn K (.ref f_Disk_cut_after) = true)
    (fn_Disk_power_on : PySem.W.isFn K (.ref f_Disk_power_on) = true)
    (fn_Disk_twin : PySem.W.isFn K (.ref f_Disk_twin) = true)
    (fn_Disk_check_power : PySem.W.isFn K (.ref f_Disk_check_power) = true)
    (fn_Disk_act : PySem.W.isFn K (.ref f_Disk_act) = true)
    (fn_Disk_contains : PySem.W.isFn K (.ref f_Disk_contains) = true)
    (fn_Disk_len : PySem.W.isFn K (.ref f_Disk_len) = true)
    (fn_Disk_eq : PySem.W.isFn K (.ref f_Disk_eq) = true)
    {t_LETTERS : Tok}
    (g_LETTERS : PySem.W.nsIn K mainGlobals "LETTERS" = some (some (.str "abcdefghijklmnopqrstuvwxyz" t_LETTERS)))
    {t_DIGITS : Tok}
    (g_DIGITS : PySem.W.nsIn K mainGlobals "DIGITS" = some (some (.str "0123456789" t_DIGITS)))
    {t_PERCENT : Tok}
    (g_PERCENT : PySem.W.nsIn K mainGlobals "PERCENT" = some (some (.int 37 t_PERCENT)))
    {t_LONGEST_PATH : Tok}
    (g_LONGEST_PATH : PySem.W.nsIn K mainGlobals "LONGEST_PATH" = some (some (.int 80 t_LONGEST_PATH)))
    (z_all : PySem.W.nsIn K mainGlobals "all" = some none)
    (z_bool : PySem.W.nsIn K mainGlobals "bool" = some none)
    (z_dict : PySem.W.nsIn K mainGlobals "dict" = some none)
    (z_int : PySem.W.nsIn K mainGlobals "int" = some none)
    (z_isinstance : PySem.W.nsIn K mainGlobals "isinstance" = some none)
    (z_len : PySem.W.nsIn K mainGlobals "len" = some none)
    (z_list : PySem.W.nsIn K mainGlobals "list" = some none)
    (z_min : PySem.W.nsIn K mainGlobals "min" = some none)
    (z_ord : PySem.W.nsIn K mainGlobals "ord" = some none)
    (z_range : PySem.W.nsIn K mainGlobals "range" = some none)
    (z_sorted : PySem.W.nsIn K mainGlobals "sorted" = some none)
    (z_str : PySem.W.nsIn K mainGlobals "str" = some none)
    (z_sum : PySem.W.nsIn K mainGlobals "sum" = some none) :
    ∃ fd : FuncData, (∀ (s : Shared) (v : Value), BindsTo s fd ⟨[v], []⟩ [("_law_script", v)]) ∧ ∀ base : Heap, K.In base → base.Ns mainGlobals mg → FnG l.prog w K mg base 13 fa fd ["_law_script"] (spLaw K) := by
  have e0 := hfa.symm.trans (PySem.W.mg_of X G n_law)
  have e : f_law = fa := by
    cases e0
    rfl
  subst e
  have F_is_whole := fun_mk (st := s_is_whole) l_is_whole c_is_whole k_is_whole
  have B_is_whole := F_is_whole.binds (ps := P_is_whole) fun _ _ _ _ _ _ us hl => match us, hl with | [_], _ => rfl
  have F_is_count := fun_mk (st := s_is_count) l_is_count c_is_count k_is_count
  have B_is_count := F_is_count.binds (ps := P_is_count) fun _ _ _ _ _ _ us hl => match us, hl with | [_], _ => rfl
  have F_consists_of := fun_mk (st := s_consists_of) l_consists_of c_consists_of k_consists_of
  have B_consists_of := F_consists_of.binds (ps := P_consists_of) fun _ _ _ _ _ _ us hl => match us, hl with | [_, _], _ => rfl
  have F_is_string_of := fun_mk (st := s_is_string_of) l_is_string_of c_is_string_of k_is_string_of
  have B_is_string_of := F_is_string_of.binds (ps := P_is_string_of) fun _ _ _ _ _ _ us hl => match us, hl with | [_, _, _], _ => rfl
  have F_is_text_sign := fun_mk (st := s_is_text_sign) l_is_text_sign c_is_text_sign k_is_text_sign
  have B_is_text_sign := F_is_text_sign.binds (ps := P_is_text_sign) fun _ _ _ _ _ _ us hl => match us, hl with | [_], _ => rfl
  have F_is_text := fun_mk (st := s_is_text) l_is_text c_is_text k_is_text
  have B_is_text := F_is_text.binds (ps := P_is_text) fun _ _ _ _ _ _ us hl => match us, hl with | [_], _ => rfl
  have F_Disk_init : FunD K "__init__" "Disk.__init__" (defArgs s_Disk_init) (defBody s_Disk_init) (defScope s_Disk_init) [.non] [] f_Disk_init (PySem.W.fnOf "__init__" "Disk.__init__" (defArgs s_Disk_init) (defBody s_Disk_init) (defScope s_Disk_init) (.ref dt_Disk_init) kV_Disk_init dc_Disk_init pm_Disk_init an_Disk_init cd_Disk_init ct_Disk_init) := ⟨⟨_, _, _, _, _, _, _, _, _, _, rfl, l_Disk_init, c_Disk_init, .inr ⟨by simp, dt_Disk_init, _, _, _, rfl, w_Disk_init, rfl, .cons rfl (.nil)⟩, .inl rfl⟩, k_Disk_init⟩
  have B0_Disk_init : ∃ ds : List Value, Vals [.non] ds ∧ Binds K (PySem.W.fnOf "__init__" "Disk.__init__" (defArgs s_Disk_init) (defBody s_Disk_init) (defScope s_Disk_init) (.ref dt_Disk_init) kV_Disk_init dc_Disk_init pm_Disk_init an_Disk_init cd_Disk_init ct_Disk_init) P_Disk_init ds := F_Disk_init.binds1 (ps := P_Disk_init) 1 0 (by simp) rfl fun _ _ _ _ _ _ _ us its h1 h2 => match us, its, h1, h2 with | [_], [_], _, _ => ⟨_, rfl, rfl⟩
  have B_Disk_init : Binds K (PySem.W.fnOf "__init__" "Disk.__init__" (defArgs s_Disk_init) (defBody s_Disk_init) (defScope s_Disk_init) (.ref dt_Disk_init) kV_Disk_init dc_Disk_init pm_Disk_init an_Disk_init cd_Disk_init ct_Disk_init) P_Disk_init [] := by
    obtain ⟨ds, hv, hb⟩ := F_Disk_init.binds1 (ps := P_Disk_init) 2 1 (by simp) rfl fun _ _ _ _ _ _ _ us its h1 h2 => match us, its, h1, h2 with | [_, _], [_], _, _ => ⟨_, rfl, rfl⟩
    cases hv
    exact hb
  have F_Disk_write := fun_mk (st := s_Disk_write) l_Disk_write c_Disk_write k_Disk_write
  have B_Disk_write := F_Disk_write.binds (ps := P_Disk_write) fun _ _ _ _ _ _ us hl => match us, hl with | [_, _, _], _ => rfl
  have F_Disk_remove := fun_mk (st := s_Disk_remove) l_Disk_remove c_Disk_remove k_Disk_remove
  have B_Disk_remove := F_Disk_remove.binds (ps := P_Disk_remove) fun _ _ _ _ _ _ us hl => match us, hl with | [_, _], _ => rfl
  have F_Disk_text_at := fun_mk (st := s_Disk_text_at) l_Disk_text_at c_Disk_text_at k_Disk_text_at
  have B_Disk_text_at := F_Disk_text_at.binds (ps := P_Disk_text_at) fun _ _ _ _ _ _ us hl => match us, hl with | [_, _], _ => rfl
  have F_Disk_paths : FunD K "paths" "Disk.paths" (defArgs s_Disk_paths) (defBody s_Disk_paths) (defScope s_Disk_paths) [.str ""] [] f_Disk_paths (PySem.W.fnOf "paths" "Disk.paths" (defArgs s_Disk_paths) (defBody s_Disk_paths) (defScope s_Disk_paths) (.ref dt_Disk_paths) kV_Disk_paths dc_Disk_paths pm_Disk_paths an_Disk_paths cd_Disk_paths ct_Disk_paths) := ⟨⟨_, _, _, _, _, _, _, _, _, _, rfl, l_Disk_paths, c_Disk_paths, .inr ⟨by simp, dt_Disk_paths, _, _, _, rfl, w_Disk_paths, rfl, .cons ⟨_, rfl⟩ (.nil)⟩, .inl rfl⟩, k_Disk_paths⟩
  have B0_Disk_paths : ∃ ds : List Value, Vals [.str ""] ds ∧ Binds K (PySem.W.fnOf "paths" "Disk.paths" (defArgs s_Disk_paths) (defBody s_Disk_paths) (defScope s_Disk_paths) (.ref dt_Disk_paths) kV_Disk_paths dc_Disk_paths pm_Disk_paths an_Disk_paths cd_Disk_paths ct_Disk_paths) P_Disk_paths ds := F_Disk_paths.binds1 (ps := P_Disk_paths) 1 0 (by simp) rfl fun _ _ _ _ _ _ _ us its h1 h2 => match us, its, h1, h2 with | [_], [_], _, _ => ⟨_, rfl, rfl⟩
  have B_Disk_paths : Binds K (PySem.W.fnOf "paths" "Disk.paths" (defArgs s_Disk_paths) (defBody s_Disk_paths) (defScope s_Disk_paths) (.ref dt_Disk_paths) kV_Disk_paths dc_Disk_paths pm_Disk_paths an_Disk_paths cd_Disk_paths ct_Disk_paths) P_Disk_paths [] := by
    obtain ⟨ds, hv, hb⟩ := F_Disk_paths.binds1 (ps := P_Disk_paths) 2 1 (by simp) rfl fun _ _ _ _ _ _ _ us its h1 h2 => match us, its, h1, h2 with | [_, _], [_], _, _ => ⟨_, rfl, rfl⟩
    cases hv
    exact hb
  have F_Disk_room := fun_mk (st := s_Disk_room) l_Disk_room c_Disk_room k_Disk_room
  have B_Disk_room := F_Disk_room.binds (ps := P_Disk_room) fun _ _ _ _ _ _ us hl => match us, hl with | [_], _ => rfl
  have F_Disk_used := fun_mk (st := s_Disk_used) l_Disk_used c_Disk_used k_Disk_used
  have B_Disk_used := F_Disk_used.binds (ps := P_Disk_used) fun _ _ _ _ _ _ us hl => match us, hl with | [_], _ => rfl
  have F_Disk_acts := fun_mk (st := s_Disk_acts) l_Disk_acts c_Disk_acts k_Disk_acts
  have B_Disk_acts := F_Disk_acts.binds (ps := P_Disk_acts) fun _ _ _ _ _ _ us hl => match us, hl with | [_], _ => rfl
  have F_Disk_cut_after := fun_mk (st := s_Disk_cut_after) l_Disk_cut_after c_Disk_cut_after k_Disk_cut_after
  have B_Disk_cut_after := F_Disk_cut_after.binds (ps := P_Disk_cut_after) fun _ _ _ _ _ _ us hl => match us, hl with | [_, _], _ => rfl
  have F_Disk_power_on := fun_mk (st := s_Disk_power_on) l_Disk_power_on c_Disk_power_on k_Disk_power_on
  have B_Disk_power_on := F_Disk_power_on.binds (ps := P_Disk_power_on) fun _ _ _ _ _ _ us hl => match us, hl with | [_], _ => rfl
  have F_Disk_twin := fun_mk (st := s_Disk_twin) l_Disk_twin c_Disk_twin k_Disk_twin
  have B_Disk_twin := F_Disk_twin.binds (ps := P_Disk_twin) fun _ _ _ _ _ _ us hl => match us, hl with | [_], _ => rfl
  have F_Disk_check_power := fun_mk (st := s_Disk_check_power) l_Disk_check_power c_Disk_check_power k_Disk_check_power
  have B_Disk_check_power := F_Disk_check_power.binds (ps := P_Disk_check_power) fun _ _ _ _ _ _ us hl => match us, hl with | [_], _ => rfl
  have F_Disk_act := fun_mk (st := s_Disk_act) l_Disk_act c_Disk_act k_Disk_act
  have B_Disk_act := F_Disk_act.binds (ps := P_Disk_act) fun _ _ _ _ _ _ us hl => match us, hl with | [_], _ => rfl
  have F_Disk_contains := fun_mk (st := s_Disk_contains) l_Disk_contains c_Disk_contains k_Disk_contains
  have B_Disk_contains := F_Disk_contains.binds (ps := P_Disk_contains) fun _ _ _ _ _ _ us hl => match us, hl with | [_, _], _ => rfl
  have F_Disk_len := fun_mk (st := s_Disk_len) l_Disk_len c_Disk_len k_Disk_len
  have B_Disk_len := F_Disk_len.binds (ps := P_Disk_len) fun _ _ _ _ _ _ us hl => match us, hl with | [_], _ => rfl
  have F_Disk_eq := fun_mk (st := s_Disk_eq) l_Disk_eq c_Disk_eq k_Disk_eq
  have B_Disk_eq := F_Disk_eq.binds (ps := P_Disk_eq) fun _ _ _ _ _ _ us hl => match us, hl with | [_, _], _ => rfl
  have F_begin := fun_mk (st := s_begin) l_begin c_begin k_begin
  have B_begin := F_begin.binds (ps := P_begin) fun _ _ _ _ _ _ us hl => match us, hl with | [_], _ => rfl
  have F_mixed := fun_mk (st := s_mixed) l_mixed c_mixed k_mixed
  have B_mixed := F_mixed.binds (ps := P_mixed) fun _ _ _ _ _ _ us hl => match us, hl with | [_, _], _ => rfl
  have F_next := fun_mk (st := s_next) l_next c_next k_next
  have B_next := F_next.binds (ps := P_next) fun _ _ _ _ _ _ us hl => match us, hl with | [_, _], _ => rfl
  have F_pick := fun_mk (st := s_pick) l_pick c_pick k_pick
  have B_pick := F_pick.binds (ps := P_pick) fun _ _ _ _ _ _ us hl => match us, hl with | [_, _], _ => rfl
  have F_place := fun_mk (st := s_place) l_place c_place k_place
  have B_place := F_place.binds (ps := P_place) fun _ _ _ _ _ _ us hl => match us, hl with | [_], _ => rfl
  have F_words := fun_mk (st := s_words) l_words c_words k_words
  have B_words := F_words.binds (ps := P_words) fun _ _ _ _ _ _ us hl => match us, hl with | [_], _ => rfl
  have F_shows := fun_mk (st := s_shows) l_shows c_shows k_shows
  have B_shows := F_shows.binds (ps := P_shows) fun _ _ _ _ _ _ us hl => match us, hl with | [_, _, _], _ => rfl
  have F_paths_right := fun_mk (st := s_paths_right) l_paths_right c_paths_right k_paths_right
  have B_paths_right := F_paths_right.binds (ps := P_paths_right) fun _ _ _ _ _ _ us hl => match us, hl with | [_, _], _ => rfl
  have F_twin_right := fun_mk (st := s_twin_right) l_twin_right c_twin_right k_twin_right
  have B_twin_right := F_twin_right.binds (ps := P_twin_right) fun _ _ _ _ _ _ us hl => match us, hl with | [_, _, _, _], _ => rfl
  have F_acted := fun_mk (st := s_acted) l_acted c_acted k_acted
  have B_acted := F_acted.binds (ps := P_acted) fun _ _ _ _ _ _ us hl => match us, hl with | [_, _, _], _ => rfl
  have F_law := fun_mk (st := s_law) l_law c_law k_law
  have B_law := F_law.binds (ps := P_law) fun _ _ _ _ _ _ us hl => match us, hl with | [_], _ => rfl
  have F_BadPath_init := fun_mk (st := s_BadPath_init) l_BadPath_init c_BadPath_init k_BadPath_init
  have B_BadPath_init := F_BadPath_init.binds (ps := P_BadPath_init) fun _ _ _ _ _ _ us hl => match us, hl with | [_, _], _ => rfl
  have F_BadText_init := fun_mk (st := s_BadText_init) l_BadText_init c_BadText_init k_BadText_init
  have B_BadText_init := F_BadText_init.binds (ps := P_BadText_init) fun _ _ _ _ _ _ us hl => match us, hl with | [_, _], _ => rfl
  have F_BadCount_init := fun_mk (st := s_BadCount_init) l_BadCount_init c_BadCount_init k_BadCount_init
  have B_BadCount_init := F_BadCount_init.binds (ps := P_BadCount_init) fun _ _ _ _ _ _ us hl => match us, hl with | [_, _], _ => rfl
  have F_NoRoom_init := fun_mk (st := s_NoRoom_init) l_NoRoom_init c_NoRoom_init k_NoRoom_init
  have B_NoRoom_init := F_NoRoom_init.binds (ps := P_NoRoom_init) fun _ _ _ _ _ _ us hl => match us, hl with | [_, _], _ => rfl
  have F_PowerCut_init := fun_mk (st := s_PowerCut_init) l_PowerCut_init c_PowerCut_init k_PowerCut_init
  have B_PowerCut_init := F_PowerCut_init.binds (ps := P_PowerCut_init) fun _ _ _ _ _ _ us hl => match us, hl with | [_, _], _ => rfl
  have F_NoPath_init := fun_mk (st := s_NoPath_init) l_NoPath_init c_NoPath_init k_NoPath_init
  have B_NoPath_init := F_NoPath_init.binds (ps := P_NoPath_init) fun _ _ _ _ _ _ us hl => match us, hl with | [_, _], _ => rfl
  have KN_Disk_write_kn2_text : KBn K (PySem.W.fnOf "write" "Disk.write" (defArgs s_Disk_write) (defBody s_Disk_write) (defScope s_Disk_write) .none kV_Disk_write dc_Disk_write pm_Disk_write an_Disk_write cd_Disk_write ct_Disk_write) P_Disk_write 2 ["text"] (fun us ws => us ++ ws) (fun us ws => us ++ ws) := ⟨fun _ us ws X0 l1 l2 => match us, ws, l1, l2 with | [_, _], [_], _, _ => .of_eq rfl, fun r1 r2 => r1.append r2⟩
  have KN_Disk_paths_kn1_beginning : KBn K (PySem.W.fnOf "paths" "Disk.paths" (defArgs s_Disk_paths) (defBody s_Disk_paths) (defScope s_Disk_paths) (.ref dt_Disk_paths) kV_Disk_paths dc_Disk_paths pm_Disk_paths an_Disk_paths cd_Disk_paths ct_Disk_paths) P_Disk_paths 1 ["beginning"] (fun us ws => us ++ ws) (fun us ws => us ++ ws) := ⟨fun _ us ws X0 l1 l2 => match us, ws, l1, l2 with | [_], [_], _, _ => .of_defaults rfl (X0 _ _ w_Disk_paths) rfl rfl rfl, fun r1 r2 => r1.append r2⟩
  have KM_Disk_init_km : KM K (PySem.W.fnOf "__init__" "Disk.__init__" (defArgs s_Disk_init) (defBody s_Disk_init) (defScope s_Disk_init) (.ref dt_Disk_init) kV_Disk_init dc_Disk_init pm_Disk_init an_Disk_init cd_Disk_init ct_Disk_init) P_Disk_init ["room"] (fun us => match us with | [x0] => [x0] | _ => []) (fun us => match us with | [x0] => [x0] | _ => []) := ⟨fun _ _ ws X hl => match ws, hl with | [_], _ => .of_defaults rfl (X _ _ w_Disk_init) rfl rfl rfl, fun {zs ws} hl r => match zs, ws, hl, r with | [_], _, _, .cons r0 (.nil) => .cons r0 (.nil)⟩
  have T : Tex K mg { a_is_whole := f_is_whole, d_is_whole := (PySem.W.fnOf "is_whole" "is_whole" (defArgs s_is_whole) (defBody s_is_whole) (defScope s_is_whole) .none kV_is_whole dc_is_whole pm_is_whole an_is_whole cd_is_whole ct_is_whole), a_is_count := f_is_count, d_is_count := (PySem.W.fnOf "is_count" "is_count" (defArgs s_is_count) (defBody s_is_count) (defScope s_is_count) .none kV_is_count dc_is_count pm_is_count an_is_count cd_is_count ct_is_count), a_consists_of := f_consists_of, d_consists_of := (PySem.W.fnOf "consists_of" "consists_of" (defArgs s_consists_of) (defBody s_consists_of) (defScope s_consists_of) .none kV_consists_of dc_consists_of pm_consists_of an_consists_of cd_consists_of ct_consists_of), a_is_string_of := f_is_string_of, d_is_string_of := (PySem.W.fnOf "is_string_of" "is_string_of" (defArgs s_is_string_of) (defBody s_is_string_of) (defScope s_is_string_of) .none kV_is_string_of dc_is_string_of pm_is_string_of an_is_string_of cd_is_string_of ct_is_string_of), a_is_text_sign := f_is_text_sign, d_is_text_sign := (PySem.W.fnOf "is_text_sign" "is_text_sign" (defArgs s_is_text_sign) (defBody s_is_text_sign) (defScope s_is_text_sign) .none kV_is_text_sign dc_is_text_sign pm_is_text_sign an_is_text_sign cd_is_text_sign ct_is_text_sign), a_is_text := f_is_text, d_is_text := (PySem.W.fnOf "is_text" "is_text" (defArgs s_is_text) (defBody s_is_text) (defScope s_is_text) .none kV_is_text dc_is_text pm_is_text an_is_text cd_is_text ct_is_text), a_Disk_init := f_Disk_init, d_Disk_init := (PySem.W.fnOf "__init__" "Disk.__init__" (defArgs s_Disk_init) (defBody s_Disk_init) (defScope s_Disk_init) (.ref dt_Disk_init) kV_Disk_init dc_Disk_init pm_Disk_init an_Disk_init cd_Disk_init ct_Disk_init), a_Disk_write := f_Disk_write, d_Disk_write := (PySem.W.fnOf "write" "Disk.write" (defArgs s_Disk_write) (defBody s_Disk_write) (defScope s_Disk_write) .none kV_Disk_write dc_Disk_write pm_Disk_write an_Disk_write cd_Disk_write ct_Disk_write), a_Disk_remove := f_Disk_remove, d_Disk_remove := (PySem.W.fnOf "remove" "Disk.remove" (defArgs s_Disk_remove) (defBody s_Disk_remove) (defScope s_Disk_remove) .none kV_Disk_remove dc_Disk_remove pm_Disk_remove an_Disk_remove cd_Disk_remove ct_Disk_remove), a_Disk_text_at := f_Disk_text_at, d_Disk_text_at := (PySem.W.fnOf "text_at" "Disk.text_at" (defArgs s_Disk_text_at) (defBody s_Disk_text_at) (defScope s_Disk_text_at) .none kV_Disk_text_at dc_Disk_text_at pm_Disk_text_at an_Disk_text_at cd_Disk_text_at ct_Disk_text_at), a_Disk_paths := f_Disk_paths, d_Disk_paths := (PySem.W.fnOf "paths" "Disk.paths" (defArgs s_Disk_paths) (defBody s_Disk_paths) (defScope s_Disk_paths) (.ref dt_Disk_paths) kV_Disk_paths dc_Disk_paths pm_Disk_paths an_Disk_paths cd_Disk_paths ct_Disk_paths), a_Disk_room := f_Disk_room, d_Disk_room := (PySem.W.fnOf "room" "Disk.room" (defArgs s_Disk_room) (defBody s_Disk_room) (defScope s_Disk_room) .none kV_Disk_room dc_Disk_room pm_Disk_room an_Disk_room cd_Disk_room ct_Disk_room), a_Disk_used := f_Disk_used, d_Disk_used := (PySem.W.fnOf "used" "Disk.used" (defArgs s_Disk_used) (defBody s_Disk_used) (defScope s_Disk_used) .none kV_Disk_used dc_Disk_used pm_Disk_used an_Disk_used cd_Disk_used ct_Disk_used), a_Disk_acts := f_Disk_acts, d_Disk_acts := (PySem.W.fnOf "acts" "Disk.acts" (defArgs s_Disk_acts) (defBody s_Disk_acts) (defScope s_Disk_acts) .none kV_Disk_acts dc_Disk_acts pm_Disk_acts an_Disk_acts cd_Disk_acts ct_Disk_acts), a_Disk_cut_after := f_Disk_cut_after, d_Disk_cut_after := (PySem.W.fnOf "cut_after" "Disk.cut_after" (defArgs s_Disk_cut_after) (defBody s_Disk_cut_after) (defScope s_Disk_cut_after) .none kV_Disk_cut_after dc_Disk_cut_after pm_Disk_cut_after an_Disk_cut_after cd_Disk_cut_after ct_Disk_cut_after), a_Disk_power_on := f_Disk_power_on, d_Disk_power_on := (PySem.W.fnOf "power_on" "Disk.power_on" (defArgs s_Disk_power_on) (defBody s_Disk_power_on) (defScope s_Disk_power_on) .none kV_Disk_power_on dc_Disk_power_on pm_Disk_power_on an_Disk_power_on cd_Disk_power_on ct_Disk_power_on), a_Disk_twin := f_Disk_twin, d_Disk_twin := (PySem.W.fnOf "twin" "Disk.twin" (defArgs s_Disk_twin) (defBody s_Disk_twin) (defScope s_Disk_twin) .none kV_Disk_twin dc_Disk_twin pm_Disk_twin an_Disk_twin cd_Disk_twin ct_Disk_twin), a_Disk_check_power := f_Disk_check_power, d_Disk_check_power := (PySem.W.fnOf "_check_power" "Disk._check_power" (defArgs s_Disk_check_power) (defBody s_Disk_check_power) (defScope s_Disk_check_power) .none kV_Disk_check_power dc_Disk_check_power pm_Disk_check_power an_Disk_check_power cd_Disk_check_power ct_Disk_check_power), a_Disk_act := f_Disk_act, d_Disk_act := (PySem.W.fnOf "_act" "Disk._act" (defArgs s_Disk_act) (defBody s_Disk_act) (defScope s_Disk_act) .none kV_Disk_act dc_Disk_act pm_Disk_act an_Disk_act cd_Disk_act ct_Disk_act), a_Disk_contains := f_Disk_contains, d_Disk_contains := (PySem.W.fnOf "__contains__" "Disk.__contains__" (defArgs s_Disk_contains) (defBody s_Disk_contains) (defScope s_Disk_contains) .none kV_Disk_contains dc_Disk_contains pm_Disk_contains an_Disk_contains cd_Disk_contains ct_Disk_contains), a_Disk_len := f_Disk_len, d_Disk_len := (PySem.W.fnOf "__len__" "Disk.__len__" (defArgs s_Disk_len) (defBody s_Disk_len) (defScope s_Disk_len) .none kV_Disk_len dc_Disk_len pm_Disk_len an_Disk_len cd_Disk_len ct_Disk_len), a_Disk_eq := f_Disk_eq, d_Disk_eq := (PySem.W.fnOf "__eq__" "Disk.__eq__" (defArgs s_Disk_eq) (defBody s_Disk_eq) (defScope s_Disk_eq) .none kV_Disk_eq dc_Disk_eq pm_Disk_eq an_Disk_eq cd_Disk_eq ct_Disk_eq), a_begin := f_begin, d_begin := (PySem.W.fnOf "_law_begin" "_law_begin" (defArgs s_begin) (defBody s_begin) (defScope s_begin) .none kV_begin dc_begin pm_begin an_begin cd_begin ct_begin), a_mixed := f_mixed, d_mixed := (PySem.W.fnOf "_law_mixed" "_law_mixed" (defArgs s_mixed) (defBody s_mixed) (defScope s_mixed) .none kV_mixed dc_mixed pm_mixed an_mixed cd_mixed ct_mixed), a_next := f_next, d_next := (PySem.W.fnOf "_law_next" "_law_next" (defArgs s_next) (defBody s_next) (defScope s_next) .none kV_next dc_next pm_next an_next cd_next ct_next), a_pick := f_pick, d_pick := (PySem.W.fnOf "_law_pick" "_law_pick" (defArgs s_pick) (defBody s_pick) (defScope s_pick) .none kV_pick dc_pick pm_pick an_pick cd_pick ct_pick), a_place := f_place, d_place := (PySem.W.fnOf "_law_place" "_law_place" (defArgs s_place) (defBody s_place) (defScope s_place) .none kV_place dc_place pm_place an_place cd_place ct_place), a_words := f_words, d_words := (PySem.W.fnOf "_law_words" "_law_words" (defArgs s_words) (defBody s_words) (defScope s_words) .none kV_words dc_words pm_words an_words cd_words ct_words), a_shows := f_shows, d_shows := (PySem.W.fnOf "_law_shows" "_law_shows" (defArgs s_shows) (defBody s_shows) (defScope s_shows) .none kV_shows dc_shows pm_shows an_shows cd_shows ct_shows), a_paths_right := f_paths_right, d_paths_right := (PySem.W.fnOf "_law_paths_right" "_law_paths_right" (defArgs s_paths_right) (defBody s_paths_right) (defScope s_paths_right) .none kV_paths_right dc_paths_right pm_paths_right an_paths_right cd_paths_right ct_paths_right), a_twin_right := f_twin_right, d_twin_right := (PySem.W.fnOf "_law_twin_right" "_law_twin_right" (defArgs s_twin_right) (defBody s_twin_right) (defScope s_twin_right) .none kV_twin_right dc_twin_right pm_twin_right an_twin_right cd_twin_right ct_twin_right), a_acted := f_acted, d_acted := (PySem.W.fnOf "_law_acted" "_law_acted" (defArgs s_acted) (defBody s_acted) (defScope s_acted) .none kV_acted dc_acted pm_acted an_acted cd_acted ct_acted), a_law := f_law, d_law := (PySem.W.fnOf "law" "law" (defArgs s_law) (defBody s_law) (defScope s_law) .none kV_law dc_law pm_law an_law cd_law ct_law), a_BadPath_init := f_BadPath_init, d_BadPath_init := (PySem.W.fnOf "__init__" "BadPath.__init__" (defArgs s_BadPath_init) (defBody s_BadPath_init) (defScope s_BadPath_init) .none kV_BadPath_init dc_BadPath_init pm_BadPath_init an_BadPath_init cd_BadPath_init ct_BadPath_init), a_BadText_init := f_BadText_init, d_BadText_init := (PySem.W.fnOf "__init__" "BadText.__init__" (defArgs s_BadText_init) (defBody s_BadText_init) (defScope s_BadText_init) .none kV_BadText_init dc_BadText_init pm_BadText_init an_BadText_init cd_BadText_init ct_BadText_init), a_BadCount_init := f_BadCount_init, d_BadCount_init := (PySem.W.fnOf "__init__" "BadCount.__init__" (defArgs s_BadCount_init) (defBody s_BadCount_init) (defScope s_BadCount_init) .none kV_BadCount_init dc_BadCount_init pm_BadCount_init an_BadCount_init cd_BadCount_init ct_BadCount_init), a_NoRoom_init := f_NoRoom_init, d_NoRoom_init := (PySem.W.fnOf "__init__" "NoRoom.__init__" (defArgs s_NoRoom_init) (defBody s_NoRoom_init) (defScope s_NoRoom_init) .none kV_NoRoom_init dc_NoRoom_init pm_NoRoom_init an_NoRoom_init cd_NoRoom_init ct_NoRoom_init), a_PowerCut_init := f_PowerCut_init, d_PowerCut_init := (PySem.W.fnOf "__init__" "PowerCut.__init__" (defArgs s_PowerCut_init) (defBody s_PowerCut_init) (defScope s_PowerCut_init) .none kV_PowerCut_init dc_PowerCut_init pm_PowerCut_init an_PowerCut_init cd_PowerCut_init ct_PowerCut_init), a_NoPath_init := f_NoPath_init, d_NoPath_init := (PySem.W.fnOf "__init__" "NoPath.__init__" (defArgs s_NoPath_init) (defBody s_NoPath_init) (defScope s_NoPath_init) .none kV_NoPath_init dc_NoPath_init pm_NoPath_init an_NoPath_init cd_NoPath_init ct_NoPath_init), a_ParcelError := f_ParcelError, a_ChoiceError := f_ChoiceError, a_AbsentError := f_AbsentError, a_BadPath := f_BadPath, a_BadText := f_BadText, a_BadCount := f_BadCount, a_NoRoom := f_NoRoom, a_PowerCut := f_PowerCut, a_NoPath := f_NoPath, a_Disk := f_Disk, p_Disk_room := p_Disk_room, p_Disk_used := p_Disk_used, p_Disk_acts := p_Disk_acts, t_LETTERS := t_LETTERS, t_DIGITS := t_DIGITS, t_PERCENT := t_PERCENT, t_LONGEST_PATH := t_LONGEST_PATH } := { is_whole_F := F_is_whole, is_whole_g := PySem.W.mg_of X G n_is_whole, is_whole_b := B_is_whole, is_count_F := F_is_count, is_count_g := PySem.W.mg_of X G n_is_count, is_count_b := B_is_count, consists_of_F := F_consists_of, consists_of_g := PySem.W.mg_of X G n_consists_of, consists_of_b := B_consists_of, is_string_of_F := F_is_string_of, is_string_of_g := PySem.W.mg_of X G n_is_string_of, is_string_of_b := B_is_string_of, is_text_sign_F := F_is_text_sign, is_text_sign_g := PySem.W.mg_of X G n_is_text_sign, is_text_sign_b := B_is_text_sign, is_text_F := F_is_text, is_text_g := PySem.W.mg_of X G n_is_text, is_text_b := B_is_text, Disk_init_b0 := B0_Disk_init, Disk_init_F := F_Disk_init, Disk_init_b := B_Disk_init, Disk_write_F := F_Disk_write, Disk_write_b := B_Disk_write, Disk_remove_F := F_Disk_remove, Disk_remove_b := B_Disk_remove, Disk_text_at_F := F_Disk_text_at, Disk_text_at_b := B_Disk_text_at, Disk_paths_b0 := B0_Disk_paths, Disk_paths_F := F_Disk_paths, Disk_paths_b := B_Disk_paths, Disk_room_F := F_Disk_room, Disk_room_b := B_Disk_room, Disk_used_F := F_Disk_used, Disk_used_b := B_Disk_used, Disk_acts_F := F_Disk_acts, Disk_acts_b := B_Disk_acts, Disk_cut_after_F := F_Disk_cut_after, Disk_cut_after_b := B_Disk_cut_after, Disk_power_on_F := F_Disk_power_on, Disk_power_on_b := B_Disk_power_on, Disk_twin_F := F_Disk_twin, Disk_twin_b := B_Disk_twin, Disk_check_power_F := F_Disk_check_power, Disk_check_power_b := B_Disk_check_power, Disk_act_F := F_Disk_act, Disk_act_b := B_Disk_act, Disk_contains_F := F_Disk_contains, Disk_contains_b := B_Disk_contains, Disk_len_F := F_Disk_len, Disk_len_b := B_Disk_len, Disk_eq_F := F_Disk_eq, Disk_eq_b := B_Disk_eq, begin_F := F_begin, begin_g := PySem.W.mg_of X G n_begin, begin_b := B_begin, mixed_F := F_mixed, mixed_g := PySem.W.mg_of X G n_mixed, mixed_b := B_mixed, next_F := F_next, next_g := PySem.W.mg_of X G n_next, next_b := B_next, pick_F := F_pick, pick_g := PySem.W.mg_of X G n_pick, pick_b := B_pick, place_F := F_place, place_g := PySem.W.mg_of X G n_place, place_b := B_place, words_F := F_words, words_g := PySem.W.mg_of X G n_words, words_b := B_words, shows_F := F_shows, shows_g := PySem.W.mg_of X G n_shows, shows_b := B_shows, paths_right_F := F_paths_right, paths_right_g := PySem.W.mg_of X G n_paths_right, paths_right_b := B_paths_right, twin_right_F := F_twin_right, twin_right_g := PySem.W.mg_of X G n_twin_right, twin_right_b := B_twin_right, acted_F := F_acted, acted_g := PySem.W.mg_of X G n_acted, acted_b := B_acted, law_F := F_law, law_g := PySem.W.mg_of X G n_law, law_b := B_law, BadPath_init_F := F_BadPath_init, BadPath_init_b := B_BadPath_init, BadText_init_F := F_BadText_init, BadText_init_b := B_BadText_init, BadCount_init_F := F_BadCount_init, BadCount_init_b := B_BadCount_init, NoRoom_init_F := F_NoRoom_init, NoRoom_init_b := B_NoRoom_init, PowerCut_init_F := F_PowerCut_init, PowerCut_init_b := B_PowerCut_init, NoPath_init_F := F_NoPath_init, NoPath_init_b := B_NoPath_init, ParcelError_g := PySem.W.mg_of X G n_ParcelError, ParcelError_nm := ⟨xb_ParcelError, xd_ParcelError, xy_ParcelError, xz_ParcelError⟩, ChoiceError_g := PySem.W.mg_of X G n_ChoiceError, ChoiceError_nm := ⟨xb_ChoiceError, xd_ChoiceError, xy_ChoiceError, xz_ChoiceError⟩, AbsentError_g := PySem.W.mg_of X G n_AbsentError, AbsentError_nm := ⟨xb_AbsentError, xd_AbsentError, xy_AbsentError, xz_AbsentError⟩, BadPath_g := PySem.W.mg_of X G n_BadPath, BadPath_xa := exG_of PySem.F.excBase_ValueError PySem.F.store_ValueError xl_BadPath xsa_BadPath xg_BadPath xh_BadPath xc_BadPath xk_BadPath xn_ xq_, BadPath_xt := xt_BadPath, BadPath_xf := xf_BadPath, BadPath_xi := at_BadPath_init, BadText_g := PySem.W.mg_of X G n_BadText, BadText_xa := exG_of PySem.F.excBase_ValueError PySem.F.store_ValueError xl_BadText xsa_BadText xg_BadText xh_BadText xc_BadText xk_BadText xn_ xq_, BadText_xt := xt_BadText, BadText_xf := xf_BadText, BadText_xi := at_BadText_init, BadCount_g := PySem.W.mg_of X G n_BadCount, BadCount_xa := exG_of PySem.F.excBase_ValueError PySem.F.store_ValueError xl_BadCount xsa_BadCount xg_BadCount xh_BadCount xc_BadCount xk_BadCount xn_ xq_, BadCount_xt := xt_BadCount, BadCount_xf := xf_BadCount, BadCount_xi := at_BadCount_init, NoRoom_g := PySem.W.mg_of X G n_NoRoom, NoRoom_xa := exG_of PySem.F.excBase_RuntimeError PySem.F.store_RuntimeError xl_NoRoom xsa_NoRoom xg_NoRoom xh_NoRoom xc_NoRoom xk_NoRoom xn_ xq_, NoRoom_xt := xt_NoRoom, NoRoom_xf := xf_NoRoom, NoRoom_xi := at_NoRoom_init, PowerCut_g := PySem.W.mg_of X G n_PowerCut, PowerCut_xa := exG_of PySem.F.excBase_RuntimeError PySem.F.store_RuntimeError xl_PowerCut xsa_PowerCut xg_PowerCut xh_PowerCut xc_PowerCut xk_PowerCut xn_ xq_, PowerCut_xt := xt_PowerCut, PowerCut_xf := xf_PowerCut, PowerCut_xi := at_PowerCut_init, NoPath_g := PySem.W.mg_of X G n_NoPath, NoPath_xa := exG_of PySem.F.excBase_LookupError PySem.F.store_LookupError xl_NoPath xsa_NoPath xg_NoPath xh_NoPath xc_NoPath xk_NoPath xn_ xq_, NoPath_xt := xt_NoPath, NoPath_xf := xf_NoPath, NoPath_xi := at_NoPath_init, exd := exd, Disk_ne_b := on_Disk, Disk_write_kn2_text := KN_Disk_write_kn2_text, Disk_paths_kn1_beginning := KN_Disk_paths_kn1_beginning, Disk_init_km := KM_Disk_init_km, Disk_g := PySem.W.mg_of X G n_Disk, Disk_cl := ⟨pg_Disk, hd_Disk, po_Disk, sa_Disk⟩, Disk_mk := ⟨mk_Disk, at_Disk_init, fn_Disk_init, kc_Disk⟩, Disk_rd := ⟨rd_Disk, ga_Disk⟩, Disk_si := ⟨ca_Disk, cn_Disk, ct_Disk, cm_Disk⟩, Disk_nf := nf_Disk, Disk_n_room := na_Disk_room, Disk_n_texts := na_Disk_texts, Disk_n_used := na_Disk_used, Disk_n_acts := na_Disk_acts, Disk_n_power := na_Disk_power, Disk_init_at := at_Disk_init, Disk_init_fn := fn_Disk_init, Disk_write_at := at_Disk_write, Disk_write_fn := fn_Disk_write, Disk_remove_at := at_Disk_remove, Disk_remove_fn := fn_Disk_remove, Disk_text_at_at := at_Disk_text_at, Disk_text_at_fn := fn_Disk_text_at, Disk_paths_at := at_Disk_paths, Disk_paths_fn := fn_Disk_paths, Disk_room_p := ⟨at_Disk_room, ge_Disk_room, tk_Disk_room, _, rc_Disk_room⟩, Disk_used_p := ⟨at_Disk_used, ge_Disk_used, tk_Disk_used, _, rc_Disk_used⟩, Disk_acts_p := ⟨at_Disk_acts, ge_Disk_acts, tk_Disk_acts, _, rc_Disk_acts⟩, Disk_cut_after_at := at_Disk_cut_after, Disk_cut_after_fn := fn_Disk_cut_after, Disk_power_on_at := at_Disk_power_on, Disk_power_on_fn := fn_Disk_power_on, Disk_twin_at := at_Disk_twin, Disk_twin_fn := fn_Disk_twin, Disk_check_power_at := at_Disk_check_power, Disk_check_power_fn := fn_Disk_check_power, Disk_act_at := at_Disk_act, Disk_act_fn := fn_Disk_act, Disk_contains_at := at_Disk_contains, Disk_contains_fn := fn_Disk_contains, Disk_len_at := at_Disk_len, Disk_len_fn := fn_Disk_len, Disk_eq_at := at_Disk_eq, Disk_eq_fn := fn_Disk_eq, c_LETTERS := PySem.W.mg_of X G g_LETTERS, c_DIGITS := PySem.W.mg_of X G g_DIGITS, c_PERCENT := PySem.W.mg_of X G g_PERCENT, c_LONGEST_PATH := PySem.W.mg_of X G g_LONGEST_PATH, b_all := PySem.W.mg_none_of X G z_all, b_bool := PySem.W.mg_none_of X G z_bool, b_dict := PySem.W.mg_none_of X G z_dict, b_int := PySem.W.mg_none_of X G z_int, b_isinstance := PySem.W.mg_none_of X G z_isinstance, b_len := PySem.W.mg_none_of X G z_len, b_list := PySem.W.mg_none_of X G z_list, b_min := PySem.W.mg_none_of X G z_min, b_ord := PySem.W.mg_none_of X G z_ord, b_range := PySem.W.mg_none_of X G z_range, b_sorted := PySem.W.mg_none_of X G z_sorted, b_str := PySem.W.mg_none_of X G z_str, b_sum := PySem.W.mg_none_of X G z_sum }
  exact ⟨_, fun s v => .of_eq rfl, fun base _ _ => ok_law T⟩
end Pk
open PySem PySem.W PyProof.Rows
set_option maxRecDepth 100000 in
set_option maxHeartbeats 0 in
theorem PySem.Challenge.cw_parcelindex_k59_disks_as_dicts_holds : PySem.Challenge.rw_parcelindex_k59_disks_as_dicts.Holds := by
  w_on; o_law; k_head; (case hw => w_witness2)
  k_fill
  refine Pk.walkG (l := PySem.Challenge.rw_parcelindex_k59_disks_as_dicts) (k := 13) (x := "_law_script") (sp := Pk.spLaw) rfl rfl ⟨rfl, by decide, by decide⟩ (fun w h Y => PySem.W.kIn_of Y) ?F (fun K H a ns hl hS => ⟨a, ns, rfl, hS, hl, fun _ => rfl⟩)
  case F =>
    intro w mg fa h KX G hmg
    refine' Pk.all_mk KX G hmg ?n_is_whole ?l_is_whole ?c_is_whole ?k_is_whole ?n_is_count ?l_is_count ?c_is_count ?k_is_count ?n_consists_of ?l_consists_of ?c_consists_of ?k_consists_of ?n_is_string_of ?l_is_string_of ?c_is_string_of ?k_is_string_of ?n_is_text_sign ?l_is_text_sign ?c_is_text_sign ?k_is_text_sign ?n_is_text ?l_is_text ?c_is_text ?k_is_text ?n_Disk ?at_Disk_init ?l_Disk_init ?w_Disk_init ?c_Disk_init ?k_Disk_init ?at_Disk_write ?l_Disk_write ?c_Disk_write ?k_Disk_write ?at_Disk_remove ?l_Disk_remove ?c_Disk_remove ?k_Disk_remove ?at_Disk_text_at ?l_Disk_text_at ?c_Disk_text_at ?k_Disk_text_at ?at_Disk_paths ?l_Disk_paths ?w_Disk_paths ?c_Disk_paths ?k_Disk_paths ?at_Disk_room ?rc_Disk_room ?l_Disk_room ?c_Disk_room ?k_Disk_room ?at_Disk_used ?rc_Disk_used ?l_Disk_used ?c_Disk_used ?k_Disk_used ?at_Disk_acts ?rc_Disk_acts ?l_Disk_acts ?c_Disk_acts ?k_Disk_acts ?at_Disk_cut_after ?l_Disk_cut_after ?c_Disk_cut_after ?k_Disk_cut_after ?at_Disk_power_on ?l_Disk_power_on ?c_Disk_power_on ?k_Disk_power_on ?at_Disk_twin ?l_Disk_twin ?c_Disk_twin ?k_Disk_twin ?at_Disk_check_power ?l_Disk_check_power ?c_Disk_check_power ?k_Disk_check_power ?at_Disk_act ?l_Disk_act ?c_Disk_act ?k_Disk_act ?at_Disk_contains ?l_Disk_contains ?c_Disk_contains ?k_Disk_contains ?at_Disk_len ?l_Disk_len ?c_Disk_len ?k_Disk_len ?at_Disk_eq ?l_Disk_eq ?c_Disk_eq ?k_Disk_eq ?n_begin ?l_begin ?c_begin ?k_begin ?n_mixed ?l_mixed ?c_mixed ?k_mixed ?n_next ?l_next ?c_next ?k_next ?n_pick ?l_pick ?c_pick ?k_pick ?n_place ?l_place ?c_place ?k_place ?n_words ?l_words ?c_words ?k_words ?n_shows ?l_shows ?c_shows ?k_shows ?n_paths_right ?l_paths_right ?c_paths_right ?k_paths_right ?n_twin_right ?l_twin_right ?c_twin_right ?k_twin_right ?n_acted ?l_acted ?c_acted ?k_acted ?n_law ?l_law ?c_law ?k_law ?n_BadPath ?at_BadPath_init ?l_BadPath_init ?c_BadPath_init ?k_BadPath_init ?n_BadText ?at_BadText_init ?l_BadText_init ?c_BadText_init ?k_BadText_init ?n_BadCount ?at_BadCount_init ?l_BadCount_init ?c_BadCount_init ?k_BadCount_init ?n_NoRoom ?at_NoRoom_init ?l_NoRoom_init ?c_NoRoom_init ?k_NoRoom_init ?n_PowerCut ?at_PowerCut_init ?l_PowerCut_init ?c_PowerCut_init ?k_PowerCut_init ?n_NoPath ?at_NoPath_init ?l_NoPath_init ?c_NoPath_init ?k_NoPath_init ?n_ParcelError ?xb_ParcelError ?xd_ParcelError ?xy_ParcelError ?xz_ParcelError ?n_ChoiceError ?xb_ChoiceError ?xd_ChoiceError ?xy_ChoiceError ?xz_ChoiceError ?n_AbsentError ?xb_AbsentError ?xd_AbsentError ?xy_AbsentError ?xz_AbsentError ?xn_ ?xq_ ?xl_BadPath ?xsa_BadPath ?xg_BadPath ?xh_BadPath ?xc_BadPath ?xk_BadPath ?xt_BadPath ?xf_BadPath ?xl_BadText ?xsa_BadText ?xg_BadText ?xh_BadText ?xc_BadText ?xk_BadText ?xt_BadText ?xf_BadText ?xl_BadCount ?xsa_BadCount ?xg_BadCount ?xh_BadCount ?xc_BadCount ?xk_BadCount ?xt_BadCount ?xf_BadCount ?xl_NoRoom ?xsa_NoRoom ?xg_NoRoom ?xh_NoRoom ?xc_NoRoom ?xk_NoRoom ?xt_NoRoom ?xf_NoRoom ?xl_PowerCut ?xsa_PowerCut ?xg_PowerCut ?xh_PowerCut ?xc_PowerCut ?xk_PowerCut ?xt_PowerCut ?xf_PowerCut ?xl_NoPath ?xsa_NoPath ?xg_NoPath ?xh_NoPath ?xc_NoPath ?xk_NoPath ?xt_NoPath ?xf_NoPath ?exd ?on_Disk ?pg_Disk ?hd_Disk ?po_Disk ?sa_Disk ?mk_Disk ?kc_Disk ?rd_Disk ?ga_Disk ?ca_Disk ?cn_Disk ?ct_Disk ?cm_Disk ?nf_Disk ?fn_Disk_init ?na_Disk_room ?na_Disk_texts ?na_Disk_used ?na_Disk_acts ?na_Disk_power ?fn_Disk_write ?fn_Disk_remove ?fn_Disk_text_at ?fn_Disk_paths ?ge_Disk_room ?tk_Disk_room ?ge_Disk_used ?tk_Disk_used ?ge_Disk_acts ?tk_Disk_acts ?fn_Disk_cut_after ?fn_Disk_power_on ?fn_Disk_twin ?fn_Disk_check_power ?fn_Disk_act ?fn_Disk_contains ?fn_Disk_len ?fn_Disk_eq ?g_LETTERS ?g_DIGITS ?g_PERCENT ?g_LONGEST_PATH ?z_all ?z_bool ?z_dict ?z_int ?z_isinstance ?z_len ?z_list ?z_min ?z_ord ?z_range ?z_sorted ?z_str ?z_sum
    (case n_is_whole => k_is)
    (case l_is_whole => k_is)
    (case c_is_whole => k_is)
    (case k_is_whole => k_is)
    (case n_is_count => k_is)
    (case l_is_count => k_is)
    (case c_is_count => k_is)
    (case k_is_count => k_is)
    (case n_consists_of => k_is)
    (case l_consists_of => k_is)
    (case c_consists_of => k_is)
    (case k_consists_of => k_is)
    (case n_is_string_of => k_is)
    (case l_is_string_of => k_is)
    (case c_is_string_of => k_is)
    (case k_is_string_of => k_is)
    (case n_is_text_sign => k_is)
    (case l_is_text_sign => k_is)
    (case c_is_text_sign => k_is)
    (case k_is_text_sign => k_is)
    (case n_is_text => k_is)
    (case l_is_text => k_is)
    (case c_is_text => k_is)
    (case k_is_text => k_is)
    (case n_Disk => k_is)
    (case at_Disk_init => k_is)
    (case l_Disk_init => k_is)
    (case w_Disk_init => k_is)
    (case c_Disk_init => k_is)
    (case k_Disk_init => k_is)
    (case at_Disk_write => k_is)
    (case l_Disk_write => k_is)
    (case c_Disk_write => k_is)
    (case k_Disk_write => k_is)
    (case at_Disk_remove => k_is)
    (case l_Disk_remove => k_is)
    (case c_Disk_remove => k_is)
    (case k_Disk_remove => k_is)
    (case at_Disk_text_at => k_is)
    (case l_Disk_text_at => k_is)
    (case c_Disk_text_at => k_is)
    (case k_Disk_text_at => k_is)
    (case at_Disk_paths => k_is)
    (case l_Disk_paths => k_is)
    (case w_Disk_paths => k_is)
    (case c_Disk_paths => k_is)
    (case k_Disk_paths => k_is)
    (case at_Disk_room => k_is)
    (case rc_Disk_room => k_is)
    (case l_Disk_room => k_is)
    (case c_Disk_room => k_is)
    (case k_Disk_room => k_is)
    (case at_Disk_used => k_is)
    (case rc_Disk_used => k_is)
    (case l_Disk_used => k_is)
    (case c_Disk_used => k_is)
    (case k_Disk_used => k_is)
    (case at_Disk_acts => k_is)
    (case rc_Disk_acts => k_is)
    (case l_Disk_acts => k_is)
    (case c_Disk_acts => k_is)
    (case k_Disk_acts => k_is)
    (case at_Disk_cut_after => k_is)
    (case l_Disk_cut_after => k_is)
    (case c_Disk_cut_after => k_is)
    (case k_Disk_cut_after => k_is)
    (case at_Disk_power_on => k_is)
    (case l_Disk_power_on => k_is)
    (case c_Disk_power_on => k_is)
    (case k_Disk_power_on => k_is)
    (case at_Disk_twin => k_is)
    (case l_Disk_twin => k_is)
    (case c_Disk_twin => k_is)
    (case k_Disk_twin => k_is)
    (case at_Disk_check_power => k_is)
    (case l_Disk_check_power => k_is)
    (case c_Disk_check_power => k_is)
    (case k_Disk_check_power => k_is)
    (case at_Disk_act => k_is)
    (case l_Disk_act => k_is)
    (case c_Disk_act => k_is)
    (case k_Disk_act => k_is)
    (case at_Disk_contains => k_is)
    (case l_Disk_contains => k_is)
    (case c_Disk_contains => k_is)
    (case k_Disk_contains => k_is)
    (case at_Disk_len => k_is)
    (case l_Disk_len => k_is)
    (case c_Disk_len => k_is)
    (case k_Disk_len => k_is)
    (case at_Disk_eq => k_is)
    (case l_Disk_eq => k_is)
    (case c_Disk_eq => k_is)
    (case k_Disk_eq => k_is)
    (case n_begin => k_is)
    (case l_begin => k_is)
    (case c_begin => k_is)
    (case k_begin => k_is)
    (case n_mixed => k_is)
    (case l_mixed => k_is)
    (case c_mixed => k_is)
    (case k_mixed => k_is)
    (case n_next => k_is)
    (case l_next => k_is)
    (case c_next => k_is)
    (case k_next => k_is)
    (case n_pick => k_is)
    (case l_pick => k_is)
    (case c_pick => k_is)
    (case k_pick => k_is)
    (case n_place => k_is)
    (case l_place => k_is)
    (case c_place => k_is)
    (case k_place => k_is)
    (case n_words => k_is)
    (case l_words => k_is)
    (case c_words => k_is)
    (case k_words => k_is)
    (case n_shows => k_is)
    (case l_shows => k_is)
    (case c_shows => k_is)
    (case k_shows => k_is)
    (case n_paths_right => k_is)
    (case l_paths_right => k_is)
    (case c_paths_right => k_is)
    (case k_paths_right => k_is)
    (case n_twin_right => k_is)
    (case l_twin_right => k_is)
    (case c_twin_right => k_is)
    (case k_twin_right => k_is)
    (case n_acted => k_is)
    (case l_acted => k_is)
    (case c_acted => k_is)
    (case k_acted => k_is)
    (case n_law => k_is)
    (case l_law => k_is)
    (case c_law => k_is)
    (case k_law => k_is)
    (case n_BadPath => k_is)
    (case at_BadPath_init => k_is)
    (case l_BadPath_init => k_is)
    (case c_BadPath_init => k_is)
    (case k_BadPath_init => k_is)
    (case n_BadText => k_is)
    (case at_BadText_init => k_is)
    (case l_BadText_init => k_is)
    (case c_BadText_init => k_is)
    (case k_BadText_init => k_is)
    (case n_BadCount => k_is)
    (case at_BadCount_init => k_is)
    (case l_BadCount_init => k_is)
    (case c_BadCount_init => k_is)
    (case k_BadCount_init => k_is)
    (case n_NoRoom => k_is)
    (case at_NoRoom_init => k_is)
    (case l_NoRoom_init => k_is)
    (case c_NoRoom_init => k_is)
    (case k_NoRoom_init => k_is)
    (case n_PowerCut => k_is)
    (case at_PowerCut_init => k_is)
    (case l_PowerCut_init => k_is)
    (case c_PowerCut_init => k_is)
    (case k_PowerCut_init => k_is)
    (case n_NoPath => k_is)
    (case at_NoPath_init => k_is)
    (case l_NoPath_init => k_is)
    (case c_NoPath_init => k_is)
    (case k_NoPath_init => k_is)
    (case n_ParcelError => k_is)
    (case xb_ParcelError => k_is)
    (case xd_ParcelError => k_is)
    (case xy_ParcelError => k_is)
    (case xz_ParcelError => k_is)
    (case n_ChoiceError => k_is)
    (case xb_ChoiceError => k_is)
    (case xd_ChoiceError => k_is)
    (case xy_ChoiceError => k_is)
    (case xz_ChoiceError => k_is)
    (case n_AbsentError => k_is)
    (case xb_AbsentError => k_is)
    (case xd_AbsentError => k_is)
    (case xy_AbsentError => k_is)
    (case xz_AbsentError => k_is)
    (case xn_ => k_is)
    (case xq_ => k_is)
    (case xl_BadPath => k_is)
    (case xsa_BadPath => k_is)
    (case xg_BadPath => k_is)
    (case xh_BadPath => k_is)
    (case xc_BadPath => k_is)
    (case xk_BadPath => k_is)
    (case xt_BadPath => k_is)
    (case xf_BadPath => k_is)
    (case xl_BadText => k_is)
    (case xsa_BadText => k_is)
    (case xg_BadText => k_is)
    (case xh_BadText => k_is)
    (case xc_BadText => k_is)
    (case xk_BadText => k_is)
    (case xt_BadText => k_is)
    (case xf_BadText => k_is)
    (case xl_BadCount => k_is)
    (case xsa_BadCount => k_is)
    (case xg_BadCount => k_is)
    (case xh_BadCount => k_is)
    (case xc_BadCount => k_is)
    (case xk_BadCount => k_is)
    (case xt_BadCount => k_is)
    (case xf_BadCount => k_is)
    (case xl_NoRoom => k_is)
    (case xsa_NoRoom => k_is)
    (case xg_NoRoom => k_is)
    (case xh_NoRoom => k_is)
    (case xc_NoRoom => k_is)
    (case xk_NoRoom => k_is)
    (case xt_NoRoom => k_is)
    (case xf_NoRoom => k_is)
    (case xl_PowerCut => k_is)
    (case xsa_PowerCut => k_is)
    (case xg_PowerCut => k_is)
    (case xh_PowerCut => k_is)
    (case xc_PowerCut => k_is)
    (case xk_PowerCut => k_is)
    (case xt_PowerCut => k_is)
    (case xf_PowerCut => k_is)
    (case xl_NoPath => k_is)
    (case xsa_NoPath => k_is)
    (case xg_NoPath => k_is)
    (case xh_NoPath => k_is)
    (case xc_NoPath => k_is)
    (case xk_NoPath => k_is)
    (case xt_NoPath => k_is)
    (case xf_NoPath => k_is)
    (case exd => decide +kernel)
    (case on_Disk => k_is)
    (case pg_Disk => k_is)
    (case hd_Disk => k_is)
    (case po_Disk => k_is)
    (case sa_Disk => k_is)
    (case mk_Disk => k_is)
    (case kc_Disk => k_is)
    (case rd_Disk => k_is)
    (case ga_Disk => k_is)
    (case ca_Disk => k_is)
    (case cn_Disk => k_is)
    (case ct_Disk => k_is)
    (case cm_Disk => k_is)
    (case nf_Disk => k_is)
    (case fn_Disk_init => k_is)
    (case na_Disk_room => k_is)
    (case na_Disk_texts => k_is)
    (case na_Disk_used => k_is)
    (case na_Disk_acts => k_is)
    (case na_Disk_power => k_is)
    (case fn_Disk_write => k_is)
    (case fn_Disk_remove => k_is)
    (case fn_Disk_text_at => k_is)
    (case fn_Disk_paths => k_is)
    (case ge_Disk_room => k_is)
    (case tk_Disk_room => k_is)
    (case ge_Disk_used => k_is)
    (case tk_Disk_used => k_is)
    (case ge_Disk_acts => k_is)
    (case tk_Disk_acts => k_is)
    (case fn_Disk_cut_after => k_is)
    (case fn_Disk_power_on => k_is)
    (case fn_Disk_twin => k_is)
    (case fn_Disk_check_power => k_is)
    (case fn_Disk_act => k_is)
    (case fn_Disk_contains => k_is)
    (case fn_Disk_len => k_is)
    (case fn_Disk_eq => k_is)
    (case g_LETTERS => k_is)
    (case g_DIGITS => k_is)
    (case g_PERCENT => k_is)
    (case g_LONGEST_PATH => k_is)
    (case z_all => k_is)
    (case z_bool => k_is)
    (case z_dict => k_is)
    (case z_int => k_is)
    (case z_isinstance => k_is)
    (case z_len => k_is)
    (case z_list => k_is)
    (case z_min => k_is)
    (case z_ord => k_is)
    (case z_range => k_is)
    (case z_sorted => k_is)
    (case z_str => k_is)
    (case z_sum => k_is)
