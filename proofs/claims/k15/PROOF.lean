import PyProof.Rows.All
import Wide.All
import OpenK.AllK
import Wide.FinOn
import PyProof.ReprRoads
import HandS.ForMost
import HandS.ForExc
import HandS.IsInst
import HandS.Walk
import HandS.Flow
import HandS.RaiseMore

import HandS.ClsMeth
import HandS.Property
import HandS.SlotsOwn
import HandS.FStr
import HandS.TupAny
import HandS.Codes
import KE.KCallOwn
import KE.GoesMore
import KE.GoesEnum
import KE.DatumOrd
import HandS.SortInts
import HandS.Defaults

import HandS.ExcInit
import HandS.ExcValue
import HandS.ExcField
import HandS.ExcIs
import HandS.TryMany

import HandS.Style
import HandS.StrMore
import HandS.Lambda
import HandS.Replace
import HandS.Zip
import HandS.NoneIn
import HandS.DeepEq
import HandS.DictComp
import HandS.More
import HandS.MakeKw
import HandS.MakeKwOnly
import HandS.Rev
import HandS.OwnEq
import HandS.Dict
import OpenK.KTop
import KE.KOpsOwn

import PySem.Challenge.RW_parcelindex_k15_markers_refused
set_option Elab.async false
set_option maxRecDepth 100000
set_option maxHeartbeats 4000000

/-! ## Calls with the stack's repr marks known to be none: a def's promise, its body's rule, calls, the end -/
namespace Pk
open PySem PySem.Spec PyProof.Rows L2

/-- a def keeps its promise wherever no repr runs around it -/
structure FnG (P : Program) (w : World) (K : PySem.W.Frag) (mg : Str → Option Value) (base : Heap) (k : Nat) (f : Addr) (fd : FuncData) (ps : List Str) (sp : Sp) : Prop where
  lenG : ∀ vs H Q E, sp vs H Q E → vs.length = ps.length
  runG : ∀ (A : Around) (outer : List Env) (s : Shared) (H : Hp) (args : Args) (us : List Value) (vs : List V) (Q : VK),
    A.guards = some [] → Room k A → Env0 P w K mg base A outer s H →
    BindsTo s fd args (ps.zip us) → Vals vs us → sp vs H Q E0 →
    codeAny (model P w) A (.call (.ref f) args) (CR CX0 outer P w H s Q E0) s

section
variable {P : Program} {w : World} {K : PySem.W.Frag} {mg : Str → Option Value} {base : Heap}
theorem FnG.of {k : Nat} {f : Addr} {fd : FuncData} {ps : List Str} {sp : Sp} (F : FnOk P w K mg base CX0 k f fd ps sp) : FnG P w K mg base k f fd ps sp :=
  ⟨F.len, fun A outer s H args us vs Q _ h1 h2 h3 h4 h5 => F.run A outer s H args us vs Q E0 h1 h2 h3 h4 h5⟩

/-- the rule for a def's body, with the marks known -/
theorem fnG_of {x qual : Str} {st : Stmt} {f : Addr} {fd : FuncData} {N ps : List Str} {k : Nat} {sp : Sp} (F : Fun K x qual st f fd)
    (S : FnScope N ps (defScope st)) (len : ∀ vs H Q E, sp vs H Q E → vs.length = ps.length)
    (hbody : ∀ (cdv : Value) (A : Around) (outer : List Env) (s : Shared) (H : Hp) (vs : List V) (Q : VK),
      A.guards = some [] → Room k (A.deeper (envOfC qual (defScope st) s.heap.objs.size f cdv)) → sp vs H Q E0 →
      ∃ t, PSs (cxOf CX0 P w K mg base N qual (defScope st) f cdv A outer s H E0).nox (defBody st) t ∧
        t { nx := fun _ H' => Q .non H', rt := Q } (start N vs) H) :
    FnG P w K mg base (k + 1) f fd ps sp := by
  obtain ⟨oc, od, kV, doc, pm, an, cdv, ct, osl, rfl, lk, hcd⟩ := F.ex
  refine ⟨len, ?_⟩
  intro A outer s H args us vs Q hg hr e0 hb r hsp
  have hlen := len _ _ _ _ hsp
  have inK : K.In s.heap := e0.mod.kin.keeps (fun b o e => (e0.bs b o e).1)
  have nolim : s.heap.NoLimit := e0.mod.nolimit.keeps (fun b o e => (e0.bs b o e).1)
  have hk : ∀ y ∈ ps.zip us, (defScope st).names.lookup y.1 = some .local ∨ ((defScope st).names.lookup y.1 = some .cell ∧
      ((cellsFrom (s.heap.objs.size + 1) (defScope st).names []).lookup y.1).isSome = true) := by
    rintro ⟨n, v⟩ hy
    rcases S.par n (List.of_mem_zip hy).1 with q | q
    · exact Or.inl q
    · exact Or.inr ⟨q, PySem.W.cellsFrom_some _ _ _ (Or.inl q)⟩
  refine codeAny_call_function hr.depth (inK _ _ lk) rfl S.co S.gen rfl (PySem.W.codeRec_of inK hcd) (hb _ _ _ _ ?_)
  refine wpAny_newFunctionEnv_cells S.kind hk ?_
  intro env he s1 x
  subst he
  refine ⟨nolim.keeps x.toInCall.keep, codeAny_func ?_⟩
  obtain ⟨t, ht0, hq⟩ := hbody cdv A outer s H vs Q hg (hr.deeper _) hsp
  have ht := ht0.nox
  have J0 : Inv (cxOf CX0 P w K mg base N qual (defScope st) f cdv A outer s H E0) [] (start N vs) H s1 := inv_start S hr.hd e0 hlen r x
  have fin : ∀ {σ' : L2.St} {H' : Hp} {s' : Shared} {v : V} {u : Value},
      Inv (cxOf CX0 P w K mg base N qual (defScope st) f cdv A outer s H E0) [] σ' H' s' → RelV v u → Q v H' → CE outer P w H s Q u s' :=
    fun {σ' H' s' v u} J rv q => ⟨v, H', J.os, J.bare, J.base, J.hok, rv, q⟩
  refine wpAny_mono (ht.run [] s1 (start N vs) H _ J0 hq) ?_ (fun e s' hs => hs)
  rintro (_ | _ | _ | u) s' hs
  · obtain ⟨σ', H', J, q⟩ := hs
    exact fin (v := V.non) (u := Value.none) J rfl q
  · obtain ⟨_, _, _, q⟩ := hs
    exact q.elim
  · obtain ⟨_, _, _, q⟩ := hs
    exact q.elim
  · obtain ⟨v, σ', H', J, rv, q⟩ := hs
    exact fin J rv q
end

section
variable {X : Cx} {k : Nat} {f : Addr} {fd : FuncData} {ps ks : List Str} {sp : Sp} {x : Str} {p pos : Pos} {e : Expr} {es : List Expr} {t tk : TA} {kws : List Keyword}
theorem run_g {pins : List (Addr × Obj)} {σ : L2.St} {H : Hp} {s : Shared} {Q : VK} {args : Args} {us : List Value} {vs : List V}
    (F : FnG X.prog X.w X.K X.mg X.base k f fd ps sp) (hg : X.A.guards = some []) (hr : Room k X.A)
    (hb : BindsTo s fd args (ps.zip us)) (I : Inv X pins σ H s) (r : Vals vs us) (h : sp vs H Q E0) :
    codeAny (model X.prog X.w) X.A (.call (.ref f) args) (fun r s' => match r with | .ok (.ret v) => EP X pins σ Q v s' | .ok _ => False | .error e => X.xe e s') s := by
  refine codeAny_mono (F.runG X.A X.stack s H args us vs Q hg hr I.env0 hb r h) ?_
  rintro (e | fl) s' hq
  · exact (show False from hq).elim
  · cases fl with
    | ret u => exact I.after hq
    | next => exact (show False from hq).elim
    | brk => exact (show False from hq).elim
    | cont => exact (show False from hq).elim
/-- f(..), the parameters all given by position -/
theorem pe_callG (F : FnG X.prog X.w X.K X.mg X.base k f fd ps sp) (hgu : X.A.guards = some []) (hr : Room k X.A) (hg : Gl X x) (hm : X.mg x = some (.ref f))
    (hk : PySem.W.keepIn X.K (.ref f) = true) (hb : Binds X.K fd ps []) (ha : PA X (e :: es) t) (hdb : (x == ("__debug__" : Str)) = false := by decide)
    (he : starEach (e :: es) X.env = (false, eval e X.env) :: starEach es X.env := by rfl)
    (hpl : (backTo pos (starEach es X.env)).any (·.1) = false := by rfl) :
    PE X (.Call (.Name x p) (e :: es) [] pos) (tCall sp [] E0 t) := by
  constructor
  intro pins s σ H Q I h
  refine wpAny_Call_Name_kw (ld_glob I hg hm ?_ hdb)
  refine PySem.W.callWith_K (h₀ := X.base) I.ok.mod.kin hk (thn (ha.run pos pins s σ H _ I h) ?_) he hpl
  intro us s1 ⟨vs, H1, I1, r, q⟩
  have q' : sp vs H1 Q E0 := by
    have q0 : sp (vs ++ []) H1 Q E0 := q
    rw [List.append_nil] at q0
    exact q0
  have hl : (us ++ []).length = ps.length := by rw [List.append_nil, ← r.length]; exact F.lenG _ _ _ _ q'
  refine ⟨I1.kIn, wpAny_call (run_g F hgu hr ?_ I1 r q')⟩
  have hb1 := hb s1 us I1.kIn hl
  rw [List.append_nil] at hb1
  exact hb1
theorem pe_callG0 (F : FnG X.prog X.w X.K X.mg X.base k f fd ps sp) (hgu : X.A.guards = some []) (hr : Room k X.A) (hg : Gl X x) (hm : X.mg x = some (.ref f))
    (hk : PySem.W.keepIn X.K (.ref f) = true) (hb : Binds X.K fd ps []) (hdb : (x == ("__debug__" : Str)) = false := by decide) :
    PE X (.Call (.Name x p) [] [] pos) (tCall sp [] E0 tNil) := by
  constructor
  intro pins s σ H Q I h
  refine wpAny_Call_Name_kw (ld_glob I hg hm ?_ hdb)
  refine PySem.W.callWith_K0 I.kIn hk ?_
  have q' : sp [] H Q E0 := h
  have hl : (([] : List Value) ++ []).length = ps.length := by rw [List.append_nil]; exact F.lenG _ _ _ _ q'
  exact wpAny_call (run_g F hgu hr (hb s [] I.kIn hl) I .nil q')
/-- how keywords alone bind: the values are put in the parameters' order by pm -/
structure KB (K : PySem.W.Frag) (fd : FuncData) (ps ks : List Str) : Prop where
  toK : ∀ (s : Shared) (ws : List Value), K.In s.heap → ws.length = ps.length → BindsTo s fd ⟨[], ks.zip ws⟩ (ps.zip ws)
/-- f(k = v, ..), the keywords in the parameters' order -/
theorem pe_kwG (F : FnG X.prog X.w X.K X.mg X.base k f fd ps sp) (hgu : X.A.guards = some []) (hr : Room k X.A) (hg : Gl X x) (hm : X.mg x = some (.ref f))
    (hk : PySem.W.keepIn X.K (.ref f) = true) (hb : KB X.K fd ps ks) (hkw : PK X kws tk) (hall : (backToKw pos (keywordEach kws X.env)).all (·.1.isSome) = true := by rfl)
    (hks : (backToKw pos (keywordEach kws X.env)).filterMap (·.1) = ks := by rfl) (hdb : (x == ("__debug__" : Str)) = false := by decide)
    (hpl : ((backTo pos (starEach [] X.env)).any (·.1) || (backToKw pos (keywordEach kws X.env)).any (·.1.isNone)) = false := by rfl) :
    PE X (.Call (.Name x p) [] kws pos) (tCall sp [] E0 tk) := by
  constructor
  intro pins s σ H Q I h
  refine wpAny_Call_Name_kw (ld_glob I hg hm ?_ hdb)
  refine PySem.W.callWith_KW0 (h₀ := X.base) I.ok.mod.kin hk hall (thn (hkw.run pos pins s σ H _ I h) ?_) hpl
  intro ws s1 ⟨zs, H1, I1, r, q⟩
  have q' : sp zs H1 Q E0 := by
    have q0 : sp (zs ++ []) H1 Q E0 := q
    rw [List.append_nil] at q0
    exact q0
  rw [hks]
  exact ⟨I1.kIn, wpAny_call (run_g F hgu hr (hb.toK s1 ws I1.kIn (by rw [← r.length]; exact F.lenG _ _ _ _ q')) I1 r q')⟩
end

/-! ### repr of data -/
section
variable {X : Cx}
def rRepr (K : PySem.W.Frag) : List V → Hp → VK → Prop := fun xs H Q => ∃ x d, xs = [x] ∧ Dp K H x d ∧ d.showable = true ∧ d.hasDict = false ∧ d.depth ≤ 60 ∧ d.shown.length ≤ sizeLine ∧ Q (.str d.shown) H
theorem call_repr (hgu : X.A.guards = some []) (hu : X.A.units + 64 < cLine) : CallR X (.builtin "repr") (rRepr X.K) := by
  intro pins s σ H xs us Q I r h
  obtain ⟨x, d, rfl, hd, hs, hnd, hdp, hz, q⟩ := h
  obtain ⟨u, rfl, rx⟩ := vals1 r
  have hsm : ∀ as : List Addr, d.hasDict = true → sysModules ∉ as := fun as e => by
    rw [hnd] at e
    cases e
  obtain ⟨as, rd⟩ := Dp.reads I d x u hd rx
  cases hd with
  | non =>
    obtain rfl : u = Value.none := rx
    exact PySem.P.repr_of_none ⟨.str _, H, I.tok _, ⟨_, rfl⟩, q⟩
  | bl b =>
    obtain rfl : u = Value.bool b := rx
    exact PySem.P.repr_of_bool ⟨.str _, H, I.tok _, ⟨_, rfl⟩, by simpa only [PyData.shown] using q⟩
  | int i =>
    obtain ⟨t, rfl⟩ := rx
    exact PySem.P.repr_of_int (by simpa [PyData.showable] using hs) ⟨.str _, H, I.tok _, ⟨_, rfl⟩, by simpa only [PyData.shown] using q⟩
  | str y =>
    obtain ⟨t, rfl⟩ := rx
    exact PySem.P.repr_of_str ⟨.str _, H, I.tok _, ⟨_, rfl⟩, by simpa only [PyData.shown] using q⟩ (by simpa only [PyData.shown] using hz)
  | lst =>
    rename_i a _ _ _ _
    obtain rfl : u = Value.ref a := rx
    exact repr_of_reads' (h₀ := s.heap) rd hs (hsm as) hgu (by omega) (fun _ _ e => e) (fun h' v tk hk => ⟨.str _, H, I.kept hk, ⟨v, rfl⟩, q⟩) hz
  | tup =>
    rename_i a _ _ _ _
    obtain rfl : u = Value.ref a := rx
    exact repr_of_reads' (h₀ := s.heap) rd hs (hsm as) hgu (by omega) (fun _ _ e => e) (fun h' v tk hk => ⟨.str _, H, I.kept hk, ⟨v, rfl⟩, q⟩) hz
end

/-! ### the script + a list -/
/-- a list that stands with no dict and no slots of its own -/
def Bare (K : PySem.W.Frag) (H : Hp) (a : Addr) (xs : List V) : Prop :=
  (∃ (us : List Value) (n : Nat), H a = some (.frz { cls := .type "list", data := .seq us.toArray n } (.lst xs))) ∨
  (∃ (us : List Value) (n : Nat), K.lookup a = some { cls := .type "list", data := .seq us.toArray n } ∧ Vals xs us)
theorem Bare.seq {K : PySem.W.Frag} {H : Hp} {a : Addr} {xs : List V} (hz : xs.length ≤ sizeLine) (h : Bare K H a xs) : SqL K H a xs := by
  rcases h with ⟨us, n, e⟩ | ⟨us, n, e, r⟩
  · exact .inl (.inr ⟨_, e⟩)
  · refine .inr ⟨_, us.toArray, n, e, rfl, rfl, rfl, ?_, by simpa using r⟩
    rw [List.size_toArray, ← r.length]
    exact hz
theorem Bare.keep {K : PySem.W.Frag} {H H' : Hp} {a : Addr} {xs : List V} (h : Bare K H a xs) (e : Same H H') : Bare K H' a xs := by
  rcases h with ⟨us, n, q⟩ | h
  · exact .inl ⟨us, n, e _ _ q⟩
  · exact .inr h
section
variable {X : Cx}
def rCatS (K : PySem.W.Frag) : R2 := fun x y H Q => ∃ l b xs zs, x = .ref l ∧ y = .ref b ∧ Bare K H l xs ∧ H b = some (.lst zs) ∧ xs.length + zs.length ≤ sizeLine ∧
  ∀ p, H p = none → Q (.ref p) (upd H p (.lst (xs ++ zs)))
theorem op_catS : OpR X (binaryOp .Add) (rCatS X.K) := by
  intro pins s σ H x y v u Q I rx ry h
  obtain ⟨l, b, xs, zs, rfl, rfl, hl, hb, hz, q⟩ := h
  obtain rfl : v = Value.ref l := rx
  obtain rfl : u = Value.ref b := ry
  obtain ⟨z2, its2, n2, r2, hl2, e2⟩ := I.lstM hb
  have hfin : ∀ (its : List Value) (n : Nat), Vals xs its → s.heap.get? l = some { cls := .type "list", data := .seq its.toArray n } →
      wpAny (model X.prog X.w) X.A (binaryOp .Add (.ref l) (.ref b)) (EP X pins σ Q) X.xe s := by
    intro its n r e
    have hln := r.length
    refine PySem.P.add_list e e2 ?_ (by rw [List.size_toArray, List.size_toArray]; omega)
    rw [show its.toArray ++ its2.toArray = (its ++ its2).toArray by simp]
    exact ⟨.ref _, _, I.lnew (t' := s.toks) (r.append r2) (by rw [List.length_append]; exact hz), rfl, q _ I.fresh⟩
  rcases hl with ⟨us, n, e⟩ | ⟨us, n, e, r⟩
  · obtain ⟨e1, _, its, m, r, e3⟩ := I.hok l _ e
    rw [e1] at e3
    cases e3
    exact hfin _ _ r e1
  · exact hfin us n r (I.kIn l _ e)
end

/-! ### the end -/
/-- the law's own head, with the marks known and the script told to be bare -/
theorem enterG {P : Program} {w : World} {K : PySem.W.Frag} {mg mb : Str → Option Value} {k : Nat} {fa a : Addr} {fd : FuncData} {x : Str} {sp : Sp} {s₁ : Shared} {vs : List Value} {ns : List Int}
    (KX : K.In s₁.heap) (hns : s₁.heap.Ns mainGlobals mg) (hb : s₁.heap.Ns builtinsNs mb) (hbb : ∀ x : Str, x ≠ "__name__" → mb x = bootBuiltins x)
    (hlim : s₁.heap.NoLimit) (hg : s₁.gens = #[]) (ha : s₁.heap.get? a = some { cls := .type "list", data := .seq vs.toArray })
    (hi : IntsAre vs ns) (hl : ns.length ≤ sizeLine) (hr : Room k callerA)
    (F : ∀ base : Heap, K.In base → base.Ns mainGlobals mg → FnG P w K mg base k fa fd [x] sp)
    (hbind : ∀ (s : Shared) (u : Value), BindsTo s fd ⟨[u], []⟩ [(x, u)])
    (hsp : ∀ H : Hp, Bare K H a (ns.map V.int) → sp [.ref a] H (fun v _ => v = .bl true) E0) :
    codeAny (model P w) callerA (.call (.ref fa) ⟨[.ref a], []⟩)
      (fun r s' => r = .ok (.ret (.bool true)) ∧ OldK s₁.heap s'.heap ∧ s'.os = s₁.os ∧ AllBare s'.gens) s₁ := by
  have rv := vals_ints hi
  have nV := hi.length
  have core : ∀ H : Hp, Only H → Bare K H a (ns.map V.int) → HOk P w H s₁.heap → (∀ b, H b ≠ none → b = a) → (H a ≠ none → K.lookup a = none) →
      codeAny (model P w) callerA (.call (.ref fa) ⟨[.ref a], []⟩)
        (fun r s' => r = .ok (.ret (.bool true)) ∧ OldK s₁.heap s'.heap ∧ s'.os = s₁.os ∧ AllBare s'.gens) s₁ := by
    intro H hO hS hok hA hK
    have only_a : ∀ {b : Addr} {u : HO}, H b = some u → b = a := fun {b u} q => hA b (by rw [q]; simp)
    have un : ∀ {b : Addr} {o : Obj} {es : Array DictEntry} {ep : Nat}, s₁.heap.get? b = some o → o.data = .dict es ep → H b = none := by
      intro b o es ep e d
      cases q : H b with
      | none => rfl
      | some u =>
        have e' := only_a q
        rw [e', ha] at e
        cases e
        exact nomatch (show Data.seq vs.toArray _ = Data.dict es ep from d)
    have nsB : ∀ {b : Addr} {m : Str → Option Value}, s₁.heap.Ns b m → (hidT s₁.heap H).Ns b m :=
      fun {b m} ⟨o, es, ep, e, d, r⟩ => ⟨o, es, ep, hidT_get e (un e d), d, r⟩
    have inB : K.In (hidT s₁.heap H) := by
      intro b o e
      refine hidT_get (KX b o e) ?_
      cases q : H b with
      | none => rfl
      | some u =>
        have e' := only_a q
        rw [e', hK (by rw [← e', q]; simp)] at e
        cases e
    have md : Mod K mg (hidT s₁.heap H) := ⟨inB, nsB hns, ⟨mb, nsB hb, hbb⟩, let ⟨mc, h1, h2⟩ := hlim; ⟨mc, nsB h1, h2⟩⟩
    have e0 : Env0 P w K mg (hidT s₁.heap H) callerA [] s₁ H :=
      ⟨rfl, md, fun b o e => of_hidT e, Nat.le_of_eq (hidT_size _ _), trivial, fun b z => absurd (show b ∈ ([] : List Addr) from z) (by simp), hok, .of_eq hg⟩
    refine codeAny_mono ((F _ inB (nsB hns)).runG callerA [] s₁ H ⟨[.ref a], []⟩ [.ref a] [.ref a] _ rfl hr e0 (hbind s₁ (.ref a)) (.cons rfl .nil) (hsp H hS)) ?_
    rintro (e | fl) s' h
    · exact (show False from h).elim
    · cases fl with
      | next => exact (show False from h).elim
      | brk => exact (show False from h).elim
      | cont => exact (show False from h).elim
      | ret u =>
        obtain ⟨v, H', os, bare, uu, hok', r', q⟩ := h
        obtain rfl : v = .bl true := q
        obtain rfl : u = Value.bool true := r'
        refine ⟨rfl, OldK.of_keep ?_, os, bare⟩
        intro b o e
        cases q : H b with
        | none => exact uu.keep b o e q (fun z => absurd (show b ∈ ([] : List Addr) from z) (by simp)) (by simp)
        | some u =>
          rcases hO b with z | ⟨ob, xs, z⟩
          · rw [q] at z
            cases z
          · obtain ⟨e1, _⟩ := hok b _ z
            obtain ⟨e2, _⟩ := hok' b _ (uu.frzs b ob _ z)
            rw [e] at e1
            cases e1
            exact e2
  cases hk : K.lookup a with
  | some o =>
    have e := KX a o hk
    rw [ha] at e
    cases e
    exact core (fun _ => none) (fun _ => .inl rfl) (.inr ⟨vs, 0, hk, rv⟩) (fun b u z => nomatch (show (none : Option HO) = some u from z)) (fun b z => absurd rfl z) (fun z => absurd rfl z)
  | none =>
    have hat : ∀ b u, (if b = a then some (HO.frz { cls := .type "list", data := .seq vs.toArray } (.lst (ns.map V.int))) else none) = some u →
        b = a ∧ u = HO.frz { cls := .type "list", data := .seq vs.toArray } (.lst (ns.map V.int)) := by
      intro b u z
      by_cases hb : b = a
      · rw [if_pos hb] at z
        exact ⟨hb, (Option.some.inj z).symm⟩
      · rw [if_neg hb] at z
        cases z
    refine core (fun b => if b = a then some (.frz { cls := .type "list", data := .seq vs.toArray } (.lst (ns.map V.int))) else none) ?_ (.inl ⟨vs, 0, if_pos rfl⟩) ?_ ?_ (fun _ => hk)
    · intro b
      by_cases hb : b = a
      · exact .inr ⟨_, _, if_pos hb⟩
      · exact .inl (if_neg hb)
    · intro b u z
      obtain ⟨rfl, rfl⟩ := hat b u z
      exact ⟨ha, by rw [List.length_map]; exact hl, vs, _, rv, ha⟩
    · intro b z
      cases q : (if b = a then some (HO.frz { cls := .type "list", data := .seq vs.toArray } (.lst (ns.map V.int))) else none) with
      | none => exact absurd q z
      | some u => exact (hat b u q).1

/-- what the last theorem takes -/
theorem walkG {l : PySem.W.OpenLaw} {k : Nat} {q : Program} {loose : List Str} {XP : (Str → Option Value) → Heap → Prop} {YP : World → Heap → Prop} {d : DefRec} {K : Params → PySem.W.Frag} {sp : PySem.W.Frag → Sp} {x : Str}
    (hn : l.most = some 63) (hdf : d.params.defaults = []) (hr : Room k callerA) (hY : ∀ (w : World) (h : Heap), YP w h → (K w.params).In h)
    (F : ∀ (w : World) (mg : Str → Option Value) (fa : Addr) (h : Heap), (K w.params).In h → h.Ns mainGlobals mg → mg d.name = some (.ref fa) →
      ∃ fd : FuncData, (∀ (s : Shared) (u : Value), BindsTo s fd ⟨[u], []⟩ [(x, u)]) ∧
        ∀ base : Heap, (K w.params).In base → base.Ns mainGlobals mg → FnG l.prog w (K w.params) mg base k fa fd [x] (sp (K w.params)))
    (hsp : ∀ (K : PySem.W.Frag) (H : Hp) (a : Addr) (ns : List Int), ns.length ≤ 63 → Bare K H a (ns.map V.int) → sp K [.ref a] H (fun v _ => v = .bl true) E0) :
    PySem.W.WalkO q loose XP YP l.row.toRowW d [] (fun f vs => PySem.call f vs) := by
  refine Att.attach_call hn hdf ?_
  intro w s₀ s₁ mg mb fa o pm cd doc a vs ns G Y ho hd hcd hmg hobj hints hlen hg
  have KX := hY w _ Y
  obtain ⟨fd, hb, hF⟩ := F w mg fa _ KX G.T.g hmg
  exact enterG KX G.T.g G.T.b G.T.builtins G.T.nolimit hg hobj hints (Nat.le_trans hlen (by decide)) hr hF hb (fun H hS => hsp (K w.params) H a ns hlen hS)
end Pk

/-! ## Comprehensions whose element has a value that the heap does not change -/
namespace Pk
open PySem PySem.Spec PyProof.Rows L2
theorem posI {j : Int} (h : decide (0 < j) = true) : 0 < j := of_decide_eq_true h
theorem one_more {α : Type} {xs : List α} {i : Nat} {a : α} (h : xs[i]? = some a) : xs.take (i + 1) = xs.take i ++ [a] := by
  rw [List.take_add_one, h]
  rfl
theorem same_upd {H1 H : Hp} {D : Addr} {o : HO} (s : Same H1 H) (hD : H1 D = none) : Same H1 (upd H D o) := fun b u e => by
  rw [upd_ne (ne_of_none e hD)]
  exact s b u e
theorem same_new {H : Hp} {p : Addr} {o : HO} (h : H p = none) : Same H (upd H p o) := same_upd (Same.refl H) h
theorem lc_map {α : Type} {J : It} {n : Nat} {G : Hp → Prop} {Y : Nat → Hp → V → Hp → Prop} (w : Walk J n G Y) (xs : List α) (emb : α → V) (hn : n = xs.length)
    (hY : ∀ i H x H', Y i H x H' → H' = H ∧ ∃ a, xs[i]? = some a ∧ x = emb a)
    {g : TG} {tt : TT} {te : TE} {vs : List Nat} {σ : L2.St} {H1 : Hp} {D : Addr} {Qd : Hp → Prop} (p : α → Bool) (f : α → V) (hD : H1 D = none) (hz : n < sizeLine) (hG : ∀ H, Same H1 H → G H)
    (hs : ∀ a, a ∈ xs → ∀ (H : Hp) (R : VK) (S : Hp → Prop), Same H1 H → (p a = true → ∀ H', Same H H' → R (f a) H') → (p a = false → ∀ H', Same H H' → S H') →
      g (emb a) (wipe σ vs) H fun σ2 H2 => wipe σ2 vs = wipe σ vs ∧ tt σ2 H2 fun b H3 => if b = true then te σ2 H3 R else S H3)
    (hd : ∀ H, Same H1 H → H D = some (.lst ((xs.filter p).map f)) → Qd H) :
    ∃ W : Nat → Nat → Hp → Prop, (∃ m, W 0 m (upd H1 D (.lst []))) ∧ ∀ i m H, W i m H →
      (J.stop i H ∧ Qd H) ∨ (J.go i H ∧ ∃ Nx : Hp → Prop, (∀ H', Nx H' → ∃ m', m' < m ∧ W (i + 1) m' H') ∧
        ∀ x H', J.yld i H x H' → g x (wipe σ vs) H' fun σ2 H2 => wipe σ2 vs = wipe σ vs ∧ tt σ2 H2 fun b H3 =>
          if b = true then te σ2 H3 fun y H4 => ∃ acc, H4 D = some (.lst acc) ∧ acc.length < sizeLine ∧ Nx (upd H4 D (.lst (acc ++ [y]))) else Nx H3) := by
  refine lc_it w (fun i H => Same H1 H ∧ H D = some (.lst (((xs.take i).filter p).map f))) ⟨same_new hD, by rw [upd_same]; rfl⟩ (fun i H _ h => hG H h.1) ?_ ?_
  · rintro i x H H' hi ⟨s, hl⟩ y
    obtain ⟨rfl, a, ha, rfl⟩ := hY _ _ _ _ y
    have hlen : (((xs.take i).filter p).map f).length < sizeLine := by
      refine Nat.lt_of_le_of_lt ?_ hz
      rw [List.length_map]
      refine Nat.le_trans (List.length_filter_le _ _) ?_
      rw [List.length_take]
      omega
    refine hs a (List.mem_of_getElem? ha) H' _ _ s (fun hp H4 s4 => ?_) (fun hp H4 s4 => ?_)
    · refine ⟨_, s4 _ _ hl, hlen, same_upd (s.trans s4) hD, ?_⟩
      rw [upd_same, one_more ha, List.filter_append, List.map_append]
      simp [hp]
    · refine ⟨s.trans s4, ?_⟩
      rw [s4 _ _ hl, one_more ha, List.filter_append, List.map_append]
      simp [hp]
  · rintro H ⟨s, hl⟩
    refine hd H s ?_
    rw [hl, hn, List.take_length]
/-- over a text -/
theorem lc_txt {z : Str} {g : TG} {tt : TT} {te : TE} {vs : List Nat} {σ : L2.St} {H1 : Hp} {D : Addr} {Qd : Hp → Prop} (p : Nat → Bool) (f : Nat → V) (hD : H1 D = none) (hz : z.length < sizeLine)
    (hs : ∀ c, c ∈ z.cps.toList → ∀ (H : Hp) (R : VK) (S : Hp → Prop), Same H1 H → (p c = true → ∀ H', Same H H' → R (f c) H') → (p c = false → ∀ H', Same H H' → S H') →
      g (.str ⟨#[c]⟩) (wipe σ vs) H fun σ2 H2 => wipe σ2 vs = wipe σ vs ∧ tt σ2 H2 fun b H3 => if b = true then te σ2 H3 R else S H3)
    (hd : ∀ H, Same H1 H → H D = some (.lst ((z.cps.toList.filter p).map f)) → Qd H) :
    ∃ W : Nat → Nat → Hp → Prop, (∃ m, W 0 m (upd H1 D (.lst []))) ∧ ∀ i m H, W i m H →
      ((Its z).stop i H ∧ Qd H) ∨ ((Its z).go i H ∧ ∃ Nx : Hp → Prop, (∀ H', Nx H' → ∃ m', m' < m ∧ W (i + 1) m' H') ∧
        ∀ x H', (Its z).yld i H x H' → g x (wipe σ vs) H' fun σ2 H2 => wipe σ2 vs = wipe σ vs ∧ tt σ2 H2 fun b H3 =>
          if b = true then te σ2 H3 fun y H4 => ∃ acc, H4 D = some (.lst acc) ∧ acc.length < sizeLine ∧ Nx (upd H4 D (.lst (acc ++ [y]))) else Nx H3) :=
  lc_map (walk_str (z := z)) z.cps.toList (fun c => .str ⟨#[c]⟩) (by simp) (fun i H x H' ⟨e, c, h1, h2⟩ => ⟨e, c, by simpa using h1, h2⟩) p f hD hz (fun _ _ => trivial) hs hd
/-- over a list -/
theorem lc_lst {α : Type} {K : PySem.W.Frag} {a : Addr} (xs : List α) (emb : α → V) {g : TG} {tt : TT} {te : TE} {vs : List Nat} {σ : L2.St} {H1 : Hp} {D : Addr} {Qd : Hp → Prop} (p : α → Bool) (f : α → V) (hD : H1 D = none) (hz : xs.length < sizeLine)
    (ha : SqL K H1 a (xs.map emb))
    (hs : ∀ c, c ∈ xs → ∀ (H : Hp) (R : VK) (S : Hp → Prop), Same H1 H → (p c = true → ∀ H', Same H H' → R (f c) H') → (p c = false → ∀ H', Same H H' → S H') →
      g (emb c) (wipe σ vs) H fun σ2 H2 => wipe σ2 vs = wipe σ vs ∧ tt σ2 H2 fun b H3 => if b = true then te σ2 H3 R else S H3)
    (hd : ∀ H, Same H1 H → H D = some (.lst ((xs.filter p).map f)) → Qd H) :
    ∃ W : Nat → Nat → Hp → Prop, (∃ m, W 0 m (upd H1 D (.lst []))) ∧ ∀ i m H, W i m H →
      ((Itl K a).stop i H ∧ Qd H) ∨ ((Itl K a).go i H ∧ ∃ Nx : Hp → Prop, (∀ H', Nx H' → ∃ m', m' < m ∧ W (i + 1) m' H') ∧
        ∀ x H', (Itl K a).yld i H x H' → g x (wipe σ vs) H' fun σ2 H2 => wipe σ2 vs = wipe σ vs ∧ tt σ2 H2 fun b H3 =>
          if b = true then te σ2 H3 fun y H4 => ∃ acc, H4 D = some (.lst acc) ∧ acc.length < sizeLine ∧ Nx (upd H4 D (.lst (acc ++ [y]))) else Nx H3) :=
  lc_map (walk_list (K := K) (a := a) (xs := xs.map emb)) xs emb (by simp)
    (fun i H x H' ⟨e, h⟩ => ⟨e, by
      rw [List.getElem?_map] at h
      cases q : xs[i]? with
      | none =>
        rw [q] at h
        cases h
      | some c =>
        rw [q] at h
        exact ⟨c, rfl, (Option.some.inj h).symm⟩⟩) p f hD (by simpa using hz) (fun H s => s.seq ha) hs hd
end Pk

/-! ## Operators, str and construction of instances with a dict; enumerate over a tuple -/
namespace Pk
open PySem PySem.Spec PyProof.Rows L2
open SlX (cmpback)
section
variable {X : Cx} {k n : Nat} {f C g : Addr} {fd : FuncData} {ps : List Str} {sp : Sp} {E : XK} {CX : CXT}
/-- x op y, both instances of the class at C, whose def for op is at g -/
def rOwnD (C : Addr) (sp : Sp) (E : XK) : R2 := fun x y H Q => ∃ a dx fs b dy gs, x = .ref a ∧ y = .ref b ∧ H a = some (.ins C dx fs) ∧ H b = some (.ins C dy gs) ∧ sp [x, y] H Q E
theorem op_ownD {op : CmpOp} (hop : ∀ a b, compareOp op a b = richCompare op a b) (hs : PySem.W.findIn X.K (.ref C) (cmpInfo op).2.1 = some (some (.ref g)))
    (hf : PySem.W.isFn X.K (.ref g) = true) (hn : PySem.W.notFirst X.K C (.ref C) = true) (F : FnR X.prog X.w X.K X.mg X.base CX n g sp) (hr : Room n X.A) (hx : Passes CX X E) : OpR X (compareOp op) (rOwnD C sp E) := by
  intro pins s σ H x y v u Q I rx ry h
  obtain ⟨a, dx, fs, b, dy, gs, rfl, rfl, ha, hb, q⟩ := h
  obtain rfl : v = Value.ref a := rx
  obtain rfl : u = Value.ref b := ry
  obtain ⟨mA, O, _⟩ := ins_get I.hok ha
  obtain ⟨od, J, _⟩ := O.look
  obtain ⟨mB, O', _⟩ := ins_get I.hok hb
  obtain ⟨od', J', _⟩ := O'.look
  obtain ⟨m, hF⟩ := I.fr
  rw [hop]
  refine PySem.W.cmp_K (op := op) (tb := .ref C) hr.units0 hF I.ok.mod.kin J J'.type hn hs hf (wpAny_mono (wpAny_call (run_fnR (us := [.ref a, .ref b]) (vs := [.ref a, .ref b]) F hr hx I (.cons rfl (.cons rfl .nil)) q)) ?_ (fun _ _ x => x))
  rintro w s' ⟨z', H', I', rz, qz⟩
  exact cmpback rz ⟨z', H', I', rz, qz⟩
/-- str(x) of an instance -/
def rStrD (C : Addr) (sp : Sp) (E : XK) : List V → Hp → VK → Prop := fun xs H Q => ∃ a dx fs, xs = [.ref a] ∧ H a = some (.ins C dx fs) ∧ sp [.ref a] H (fun z H' => ∃ t, z = .str t ∧ Q z H') E
theorem call_strD (hs : PySem.W.findIn X.K (.ref C) "__str__" = some (some (.ref g))) (hf : PySem.W.isFn X.K (.ref g) = true) (F : FnR X.prog X.w X.K X.mg X.base CX n g sp) (hr : Room (n + 2) X.A) (hx : Passes CX X E) :
    CallR X (.type "str") (rStrD C sp E) := by
  intro pins s σ H xs us Q I r h
  obtain ⟨a, dx, fs, rfl, ha, q⟩ := h
  obtain ⟨u, rfl, ru⟩ := vals1 r
  obtain rfl : u = Value.ref a := ru
  obtain ⟨mA, O, _⟩ := ins_get I.hok ha
  obtain ⟨od, J, _⟩ := O.look
  have hr1 : Room (n + 1) X.A.in1 := Room.in1 hr
  have hr2 : Room n X.A.in1.in1 := hr1.in1
  refine PySem.W.kso_call hr2.units0 I.kIn J hs hf (wpAny_mono (wpAny_call (SlX.run_at (us := [.ref a]) (ws := [.ref a]) F hr2 I.env0.in1.in1 hx I (.cons rfl .nil) q)) ?_ (fun _ _ x => x))
  rintro w s' ⟨z', H', I', rz, t, rfl, qz⟩
  obtain ⟨tk, rfl⟩ := (show ∃ t', w = Value.str t t' from rz)
  exact ⟨.str t, H', I', ⟨tk, rfl⟩, qz⟩
/-- c(..), c a local name that holds the class at C -/
theorem pe_makeL {i : Nat} {x : Str} {p pos : Pos} {e : Expr} {es : List Expr} {t : TA} (M : Mk X.K C f) (F : FnOk X.prog X.w X.K X.mg X.base CX k f fd ps sp) (hr : Room (k + 1) X.A) (hN : X.N[i]? = some x) (hv : Vis X.env.scope x)
    (hb : Binds X.K fd ps []) (hx : Passes CX X E) (ha : PA X (e :: es) t) (hd : (x == ("__debug__" : Str)) = false := by decide) (hcd : (x == ("__classdict__" : Str)) = false := by decide)
    (he : starEach (e :: es) X.env = (false, eval e X.env) :: starEach es X.env := by rfl) (hpl : (backTo pos (starEach es X.env)).any (·.1) = false := by rfl) :
    PE X (.Call (.Name x p) (e :: es) [] pos) (fun σ H Q => σ[i]? = some (some (.ref C)) ∧ tMake C sp [] E t σ H Q) := by
  constructor
  intro pins s σ H Q I h
  obtain ⟨h1, h2⟩ := h
  refine wpAny_Call_Name_kw (thn ((pe_var hN hv hd hcd).run pins s σ H (fun v H' => v = .ref C ∧ H' = H) I ⟨.ref C, h1, rfl, rfl⟩) ?_)
  rintro u s1 ⟨v, H1, I1, rv, rfl, rfl⟩
  obtain rfl : u = Value.ref C := rv
  refine PySem.W.callWith_K (h₀ := X.base) I1.ok.mod.kin M.kp (thn (ha.run pos pins s1 σ H1 _ I1 h2) ?_) he hpl
  intro us s2 ⟨vs, H2, I2, r, q⟩
  exact ⟨I2.kIn, run_make M F hr hb .nil hx I2 r q⟩
end

/-! ### enumerate over a tuple -/
/-- the tuple at a, each item in a new pair -/
def ItT (K : PySem.W.Frag) (a : Addr) : It :=
  ⟨fun i H => ∃ (xs : List V) (x : V), SqT K H a xs ∧ xs[i]? = some x,
   fun i H v H' => ∃ T x, v = .ref T ∧ H T = none ∧ H' = upd H T (.tup [.int (i : Nat), x]) ∧ ∀ xs, SqT K H a xs → xs[i]? = some x,
   fun i H => ∃ xs : List V, SqT K H a xs ∧ xs.length = i⟩
theorem turn_enT {P : Program} {w : World} {K : PySem.W.Frag} {elts : List Expr} {kk : Nat} {tpos : Pos} (a e it : Addr) :
    Turn P w K (.Tuple elts kk tpos) (ItT K a) [e, it] e (fun i h => (∃ old, IsEnum h e it ((i : Nat) : Int) old) ∧ h.IsTupleIter it a i ∧ e ≠ it ∧ a ≠ it ∧ e ≠ a) where
  mem := by simp
  obj := by
    rintro i h ⟨⟨old, he⟩, ⟨o, ho, hc, hd⟩, _⟩ b hb
    rcases (show b = e ∨ b = it by simpa using hb) with rfl | rfl
    · exact ⟨_, he, fun v q => nomatch q⟩
    · exact ⟨o, ho, fun v q => by rw [hd] at q; cases q⟩
  keep := by
    rintro i h h' ⟨⟨old, he⟩, hi, hne⟩ k
    exact ⟨⟨old, k e (by simp) _ he⟩, hi.at fun o q => k it (by simp) o q, hne⟩
  item := by
    intro X hP hw hK hc i pins s σ H E I hf st hg
    subst hP hw hK
    obtain ⟨⟨old, he⟩, hit, hne, hai, hea⟩ := st
    obtain ⟨xs, x, hq, hx⟩ := hg
    obtain ⟨its, rv, ht, hz⟩ := I.tuple hq
    obtain ⟨u, hu, ru⟩ := rv.get hx
    have hlt : i < its.toArray.size := by
      have h1 := (List.getElem?_eq_some_iff.mp hu).1
      simpa using h1
    have hel : e < s.heap.objs.size := Heap.lt_size he
    have hil : it < s.heap.objs.size := by
      obtain ⟨_, q, _⟩ := hit
      exact Heap.lt_size q
    have D := Draws.tuple (prog := X.prog) (w := X.w) (A := X.A.in1) (I.ok.hd hc) it a hai its.toArray
    refine wpAny_pyNext_enum_itemD D he ⟨hit, ht⟩ hlt hne (by simp [hne, hea]) ?_
    intro y h' tk hy ho hst hT hsz hk
    obtain rfl : u = y := by
      have h1 : its[i]? = some y := by simpa using hy
      rw [hu] at h1
      exact Option.some.inj h1
    refine ⟨_, rfl, wpAny_letOwnedTupleGo_enum (s := { s with heap := h', toks := tk + 1 }) ho ?_⟩
    intro h'' he' sb
    have hT2 := (sb.2 _ (Nat.ne_of_gt hel)).trans hT
    have new : ObjOk X.prog X.w (upd H s.heap.objs.size (.tup [.int (i : Nat), x])) h'' s.heap.objs.size (.tup [.int (i : Nat), x]) :=
      ⟨by show 2 ≤ sizeLine; decide, [.int i tk, u], .cons ⟨_, rfl⟩ (.cons ru .nil), ⟨_, hT2, rfl, _, rfl⟩⟩
    have hk2 : ∀ b ob, b ∉ [e, it] → s.heap.get? b = some ob → h''.get? b = some ob := by
      intro b ob hb q
      have n1 : b ≠ e := fun z => hb (by simp [z])
      have n2 : b ≠ it := fun z => hb (by simp [z])
      exact (sb.2 b n1).trans (hk b ob n1 n2 q)
    have I1 : Inv X pins σ (upd H s.heap.objs.size (.tup [.int (i : Nat), x])) { s with heap := h'', toks := tk + 1 } :=
      I.turnedNew (ch := [e, it]) hk2 hf (Nat.le_refl _) new
    refine ⟨.ref s.heap.objs.size, _, I1, rfl, ⟨_, x, rfl, I.fresh, rfl, ?_⟩, ⟨⟨u, ?_⟩, hst.1.at (fun o q => (sb.2 it (Ne.symm hne)).trans q), hne, hai, hea⟩, ?_⟩
    · intro ys hys
      rw [I.tuple_inj hys hq]
      exact hx
    · rw [show ((i + 1 : Nat) : Int) = (i : Int) + 1 by omega]
      exact he'
    · intro b hb
      have hb' : b < s.heap.objs.size := by
        rcases (show b = e ∨ b = it by simpa using hb) with rfl | rfl
        · exact hel
        · exact hil
      rw [upd_ne (Nat.ne_of_lt hb')]
      exact (hf b hb).1
  done := by
    intro X hP hw hK hc i pins s σ H E I hf st hg
    subst hP hw hK
    obtain ⟨⟨old, he⟩, hit, hne, hai, hea⟩ := st
    obtain ⟨xs, hq, hx⟩ := hg
    obtain ⟨its, rv, ht, hz⟩ := I.tuple hq
    obtain ⟨f0, f1, f2, f3, f4, f5⟩ := hf it (by simp)
    have hln := rv.length
    have D := Draws.tuple (prog := X.prog) (w := X.w) (A := X.A.in1) (I.ok.hd hc) it a hai its.toArray
    have ei : i = its.toArray.size := by
      rw [List.size_toArray, ← hln]
      exact hx.symm
    rw [ei] at hit
    refine wpAny_pyNext_enum_endD D he ⟨hit, ht⟩ ?_
    intro h' eb
    exact ⟨rfl, I.turned (t' := s.toks) (fun b o hb q => eb b o hb q) f0 f1 f3 f4 f5⟩
  self := by
    rintro A i s Q E ⟨⟨_, he⟩, _⟩ h
    exact wpAny_pyIter_enum he h
/-- the making of enumerate(v), v told by what its iterator is -/
theorem new_enum {v : Value} {o : Obj} {W : Heap → Prop} (B : Begins v o W) :
    Meets (Builtin.«enumerate.__new__» ⟨[.type "enumerate", v], []⟩) (fun _ R s => W s.heap ∧ R (.ok (.ret (.ref (s.heap.push o).objs.size)))
      { s with heap := (s.heap.push o).push { cls := .type "enumerate", data := .fields #[.none, .bool false, .ref s.heap.objs.size, rawInt 0, .none, .none] } }) := by
  refine .of_wp ?_
  rintro prog w A R ⟨hp, g, d, tk, os⟩ ⟨h1, h⟩
  have hsub := sub_enumerate
  have q1 : ∀ {A' : Around} {E : Value → Shared → Prop} {Q : Value → Shared → Prop}, Q (.ref hp.objs.size) ⟨hp.push o, g, d, tk, os⟩ → wpAny (model prog w) A' (pyIter v) Q E ⟨hp, g, d, tk, os⟩ := by
    intro A' E Q q
    exact B.iter prog w _ _ ⟨hp, g, d, tk, os⟩ _ h1 q
  wp_walk using q1
  refine wpAny_stack_any (fun st => wpAny_pure ?_)
  split
  · rename_i c _ _ _ _ _
    cases (c == Value.type "enumerate") <;> (wp_walk using q1; exact ⟨_, rfl, h⟩)
  · wp_walk using q1
    exact ⟨_, rfl, h⟩
theorem call_enum {prog : Program} {w : World} {A : Around} {E : Value → Shared → Prop} {s : Shared} {v : Value} {o : Obj} {W : Heap → Prop} {Q : Value → Shared → Prop} (B : Begins v o W) (h1 : W s.heap)
    (h : ∀ h', IsEnum h' (s.heap.objs.size + 1) s.heap.objs.size 0 .none → h'.get? s.heap.objs.size = some o → (∀ b o, s.heap.get? b = some o → h'.get? b = some o) →
      Q (.ref (s.heap.objs.size + 1)) { s with heap := h' }) : wpAny (model prog w) A (call (.type "enumerate") [v]) Q E s := by
  refine callType_new F.called_enumerate (by decide) (F.typeCall_enumerate_1 _) (F.newCall_enumerate_1 _) (fun obj => F.args_object_init_2 obj _) F.entry_enumerate_new (new_enum B) ⟨h1, ?_⟩
  have hz : (s.heap.push o).objs.size = s.heap.objs.size + 1 := Heap.size_push ..
  show _ ∧ _
  rw [hz]
  have he : IsEnum ((s.heap.push o).push { cls := .type "enumerate", data := .fields #[.none, .bool false, .ref s.heap.objs.size, rawInt 0, .none, .none] }) (s.heap.objs.size + 1) s.heap.objs.size 0 .none := by
    have e1 := Heap.get?_push_size (s.heap.push o) (o := { cls := .type "enumerate", data := .fields #[.none, .bool false, .ref s.heap.objs.size, rawInt 0, .none, .none] }) rfl
    rw [hz] at e1
    exact e1
  exact ⟨⟨_, he, rfl⟩, h _ he (Heap.get?_push_of_some _ (Heap.get?_push_size _ B.free)) (fun b o x => Heap.get?_push_of_some _ (Heap.get?_push_of_some _ x))⟩
def iEnT (K : PySem.W.Frag) (ta : TA) : TI := fun σ H R => ta σ H fun vs H1 => ∃ a xs, vs = [.ref a] ∧ SqT K H1 a xs ∧ R (ItT K a) H1
/-- for i, x in enumerate(a tuple) -/
theorem pi_enT {X : Cx} {e : Expr} {ta : TA} {p pos tpos : Pos} {elts : List Expr} {kk : Nat} (hg : Gl X "enumerate") (hm : X.mg "enumerate" = none) (ha : PA X [e] ta)
    (hs : starEach [e] X.env = [(false, eval e X.env)] := by rfl) : PI X (.Tuple elts kk tpos) (.Call (.Name "enumerate" p) [e] [] pos) (iEnT X.K ta) := by
  constructor
  intro pins s σ H R I h
  refine Call_ (ld_blt I hg hm boot_enumerate (PyProof.Rows.callWith_type1 (thn (ha.run pos pins s σ H _ I h) ?_) hs rfl))
  rintro us s1 ⟨vs, H1, I1, r1, a, xs, rfl, hq, q⟩
  obtain ⟨u, rfl, rx⟩ := vals1 r1
  obtain rfl : u = Value.ref a := rx
  obtain ⟨its, rv, ht, hz⟩ := I1.tuple hq
  refine call_enum (begins_tuple a its.toArray) ht ?_
  intro h' he hit hk
  refine wpAny_pyIter_enum he ?_
  have I2 : Inv X pins σ H1 { s1 with heap := h' } := I1.kept (t' := s1.toks) hk
  have la : a < s1.heap.objs.size := ht.lt
  refine ⟨s1.heap.objs.size + 1, [s1.heap.objs.size + 1, s1.heap.objs.size], _, _, H1, rfl, I2, turn_enT a (s1.heap.objs.size + 1) s1.heap.objs.size,
    ⟨⟨.none, he⟩, ⟨_, hit, rfl, rfl⟩, Nat.succ_ne_self _, Nat.ne_of_lt la, Nat.ne_of_gt (Nat.lt_succ_of_lt la)⟩, ?_, q⟩
  intro b hb
  have hle : s1.heap.objs.size ≤ b := by
    rcases (show b = s1.heap.objs.size + 1 ∨ b = s1.heap.objs.size by simpa using hb) with rfl | rfl
    · exact Nat.le_succ _
    · exact Nat.le_refl _
  exact I1.fpOk hle (I1.hok.fresh hle)
theorem walk_enT {K : PySem.W.Frag} {a : Addr} {xs : List V} : Walk (ItT K a) xs.length (fun H => SqT K H a xs) (YPair (fun i => some (.int (i : Nat))) (fun i => xs[i]?)) := by
  refine ⟨fun i _ hi q => ⟨xs, xs[i], q, by simp [hi]⟩, fun _ q => ⟨xs, q, rfl⟩, ?_⟩
  rintro i H v H' _ q ⟨T, x, h1, h2, h3, h4⟩
  exact ⟨T, .int (i : Nat), x, h1, h2, h3, rfl, h4 xs q⟩
end Pk

/-! ## Versions: the mathematics of their texts -/
namespace Pk
open PySem L2 TL SX
def isDig (c : Nat) : Bool := decide (48 ≤ c ∧ c ≤ 57)
/-- number_of_text -/
def nT (l : List Nat) : Option Nat :=
  if (decide (1 ≤ l.length) && (decide (l.length ≤ 3) && l.all isDig)) = true then (if l.head? = some 48 ∧ l ≠ [48] then none else some (NumText.digitsVal l)) else none
def wd : Nat → List Nat
  | 0 => [97]
  | 1 => [98]
  | _ => [114, 99]
/-- stage_of_text, from the i-th word on -/
def sTn (l : List Nat) : Nat → Nat → List Nat × Option Nat
  | 0, _ => (l, some 3000)
  | k + 1, i => match par (wd i) [] l with
    | some (p, q) => (p, (nT q).map (fun n => i * 1000 + n))
    | none => sTn l k (i + 1)
def sT (l : List Nat) : List Nat × Option Nat := sTn l 3 0
def allSome : List (Option Nat) → Option (List Nat)
  | [] => some []
  | none :: _ => none
  | some n :: r => (allSome r).map (n :: ·)
/-- parts_of_text -/
def pT (l : List Nat) : Option (List Nat × Nat) :=
  match (sT l).2, allSome ((spl [46] 0 [] (sT l).1).map nT) with
  | some st, some ns => if ns.length > 4 then none else some (ns, st)
  | _, _ => none
def rk (ns : List Nat) (st : Nat) : Nat := ((ns ++ [0, 0, 0]).take 4).foldl (fun r n => r * 1000 + n) 0 * 3001 + st
def stg (st : Nat) : List Nat := if st = 3000 then [] else wd (st / 1000) ++ numL (st % 1000)
def wrt (figs : List Nat) (st : Nat) : List Nat := joinL [46] (figs.map numL) ++ stg st
theorem nT_num : ∀ n : Nat, n < 1000 → nT (numL n) = some n := by
  intro n hn
  have hd := numL_digits n
  have h1 : (numL n).length ≤ 3 := numL_len (by decide) hn
  have h2 : 1 ≤ (numL n).length := by
    have := numL_ne n
    cases e : numL n with
    | nil => exact absurd e this
    | cons c r => simp
  have h3 : (numL n).all isDig = true := by
    rw [List.all_eq_true]
    intro c hc
    have := hd c hc
    simp only [isDig, decide_eq_true_eq]
    omega
  have h4 : ¬ ((numL n).head? = some 48 ∧ numL n ≠ [48]) := by
    have key : ∀ n : Nat, n < 1000 → decide ((numL n).head? = some 48 ∧ numL n ≠ [48]) = false := by decide +kernel
    exact of_decide_eq_false (key n hn)
  unfold nT
  rw [decide_eq_true h1, decide_eq_true h2, h3]
  simp only [Bool.and_self, if_true]
  rw [if_neg h4, numL_val]
theorem join_chars : ∀ {figs : List Nat} {c : Nat}, c ∈ joinL [46] (figs.map numL) → c = 46 ∨ (48 ≤ c ∧ c ≤ 57)
  | [], c, h => by cases h
  | [n], c, h => by
    have := numL_digits n c h
    omega
  | n :: m :: r, c, h => by
    have h' : c ∈ numL n ++ ([46] ++ joinL [46] ((m :: r).map numL)) := h
    rcases List.mem_append.mp h' with h | h
    · have := numL_digits n c h
      omega
    · rcases List.mem_append.mp h with h | h
      · exact .inl (by simpa using h)
      · exact join_chars h
theorem allSome_map : ∀ figs : List Nat, allSome (figs.map some) = some figs
  | [] => rfl
  | n :: r => by
    show (allSome (r.map some)).map (n :: ·) = some (n :: r)
    rw [allSome_map r]
    rfl
theorem sT_wrt {figs : List Nat} {st : Nat} (hs : st ≤ 3000) : sT (wrt figs st) = (joinL [46] (figs.map numL), some st) := by
  have noc : ∀ c : Nat, 57 < c → c ∉ joinL [46] (figs.map numL) := fun c hc h => by
    have := join_chars h
    omega
  have nod : ∀ c n : Nat, 57 < c → c ∉ numL n := fun c n hc => numL_free (.inr hc)
  unfold wrt
  generalize joinL [46] (figs.map numL) = A at noc
  by_cases h3 : st = 3000
  · subst h3
    have e1 : par [97] [] A = none := par_none1 (noc 97 (by decide))
    have e2 : par [98] [] A = none := par_none1 (noc 98 (by decide))
    have e3 : par [114, 99] [] A = none := par_none1 (noc 114 (by decide))
    simp only [stg, if_true, List.append_nil, sT, sTn, wd, e1, e2, e3]
  · have hs0 : stg st = wd (st / 1000) ++ numL (st % 1000) := if_neg h3
    have hn : nT (numL (st % 1000)) = some (st % 1000) := nT_num _ (Nat.mod_lt _ (by decide))
    have hlt : st / 1000 < 3 := by omega
    rw [hs0]
    have hc : st / 1000 = 0 ∨ st / 1000 = 1 ∨ st / 1000 = 2 := by omega
    rcases hc with h | h | h
    · rw [h]
      have e1 : par [97] [] (A ++ ([97] ++ numL (st % 1000))) = some (A, numL (st % 1000)) := by
        have := par_part1 (s := 97) (S := []) (p := A) (rest := numL (st % 1000)) (acc := []) (noc 97 (by decide))
        simpa using this
      simp only [sT, sTn, wd, e1, hn, Option.map_some]
      congr 2
      omega
    · rw [h]
      have m1 : 97 ∉ A ++ ([98] ++ numL (st % 1000)) := by
        simp only [List.mem_append, List.mem_singleton]
        rintro (q | q | q)
        · exact noc 97 (by decide) q
        · exact absurd q (by decide)
        · exact nod 97 _ (by decide) q
      have e1 : par [97] [] (A ++ ([98] ++ numL (st % 1000))) = none := par_none1 m1
      have e2 : par [98] [] (A ++ ([98] ++ numL (st % 1000))) = some (A, numL (st % 1000)) := by
        have := par_part1 (s := 98) (S := []) (p := A) (rest := numL (st % 1000)) (acc := []) (noc 98 (by decide))
        simpa using this
      simp only [sT, sTn, wd, e1, e2, hn, Option.map_some]
      congr 2
      omega
    · rw [h]
      have m1 : 97 ∉ A ++ ([114, 99] ++ numL (st % 1000)) := by
        simp only [List.mem_append, List.mem_cons, List.not_mem_nil, or_false]
        rintro (q | (q | q) | q)
        · exact noc 97 (by decide) q
        · exact absurd q (by decide)
        · exact absurd q (by decide)
        · exact nod 97 _ (by decide) q
      have m2 : 98 ∉ A ++ ([114, 99] ++ numL (st % 1000)) := by
        simp only [List.mem_append, List.mem_cons, List.not_mem_nil, or_false]
        rintro (q | (q | q) | q)
        · exact noc 98 (by decide) q
        · exact absurd q (by decide)
        · exact absurd q (by decide)
        · exact nod 98 _ (by decide) q
      have e1 : par [97] [] (A ++ ([114, 99] ++ numL (st % 1000))) = none := par_none1 m1
      have e2 : par [98] [] (A ++ ([114, 99] ++ numL (st % 1000))) = none := par_none1 m2
      have e3 : par [114, 99] [] (A ++ ([114, 99] ++ numL (st % 1000))) = some (A, numL (st % 1000)) := by
        have := par_part1 (s := 114) (S := [99]) (p := A) (rest := numL (st % 1000)) (acc := []) (noc 114 (by decide))
        simpa using this
      simp only [sT, sTn, wd, e1, e2, e3, hn, Option.map_some]
      congr 2
      omega
theorem pT_wrt {figs : List Nat} {st : Nat} (hf : figs ≠ []) (h4 : figs.length ≤ 4) (hb : ∀ n ∈ figs, n < 1000) (hs : st ≤ 3000) : pT (wrt figs st) = some (figs, st) := by
  have e : (spl [46] 0 [] (joinL [46] (figs.map numL))).map nT = figs.map some := by
    rw [TL.spl_join (s := 46) (S := []) (by simpa using hf) (fun p hp => by
      obtain ⟨n, _, rfl⟩ := List.mem_map.mp hp
      exact numL_free (.inl (by decide))), List.map_map]
    exact List.map_congr_left fun n hn => nT_num n (hb n hn)
  unfold pT
  rw [sT_wrt hs, e, allSome_map]
  simp only
  rw [if_neg (by omega)]
/-- how many numbers are written -/
def many (ns : List Nat) : Nat → Nat
  | 0 => 0
  | 1 => 1
  | m + 2 => if ns[m + 1]? = some 0 then many ns (m + 1) else m + 2
theorem many_le (ns : List Nat) : ∀ m, many ns m ≤ m
  | 0 => Nat.le_refl _
  | 1 => Nat.le_refl _
  | m + 2 => by
    unfold many
    split
    · exact Nat.le_succ_of_le (many_le ns (m + 1))
    · exact Nat.le_refl _
theorem many_pos (ns : List Nat) : ∀ m, 0 < m → 0 < many ns m
  | 1, _ => Nat.one_pos
  | m + 2, _ => by
    unfold many
    split
    · exact many_pos ns (m + 1) (by omega)
    · omega
def trim (ns : List Nat) : List Nat := ns.take (many ns ns.length)
/-- text_at -/
def n4 (r : Nat) : List Nat := [r / 3001 / 1000000000, r / 3001 / 1000000 % 1000, r / 3001 / 1000 % 1000, r / 3001 % 1000]
def tA (r : Nat) : List Nat := wrt (trim (n4 r)) (r % 3001)
theorem n4_lt {r : Nat} (h : r ≤ 3000999999999999) : ∀ n ∈ n4 r, n < 1000 := by
  intro n hn
  simp only [n4, List.mem_cons, List.not_mem_nil, or_false] at hn
  rcases hn with rfl | rfl | rfl | rfl <;> omega
theorem trim_len (ns : List Nat) : (trim ns).length = many ns ns.length := by
  unfold trim
  rw [List.length_take]
  have := many_le ns ns.length
  omega
theorem pT_tA {r : Nat} (h : r ≤ 3000999999999999) : pT (tA r) = some (trim (n4 r), r % 3001) := by
  have hl : (n4 r).length = 4 := rfl
  refine pT_wrt ?_ ?_ (fun n hn => n4_lt h n (List.mem_of_mem_take hn)) (by omega)
  · intro e
    have h1 := trim_len (n4 r)
    rw [e, hl] at h1
    have := many_pos (n4 r) 4 (by decide)
    simp at h1
    omega
  · have h1 := trim_len (n4 r)
    have := many_le (n4 r) (n4 r).length
    omega
/-- what is left out is zero -/
theorem many_zero (ns : List Nat) : ∀ m i, many ns m ≤ i → i < m → ns[i]? = some 0 ∨ m = 0
  | 0, _, _, h => absurd h (Nat.not_lt_zero _)
  | 1, i, h1, h2 => by
    have : many ns 1 = 1 := rfl
    omega
  | m + 2, i, h1, h2 => by
    unfold many at h1
    split at h1
    · rename_i h0
      by_cases hi : i = m + 1
      · subst hi
        exact .inl h0
      · exact .inl ((many_zero ns (m + 1) i h1 (by omega)).resolve_right (by omega))
    · omega
theorem rk_n4 {r : Nat} (h : r ≤ 3000999999999999) : rk (n4 r) (r % 3001) = r := by
  simp only [rk, n4, List.cons_append, List.nil_append, List.take_succ_cons, List.take_zero, List.foldl_cons, List.foldl_nil]
  omega
theorem take4 {ns : List Nat} (h : ns.length = 4) : ((trim ns) ++ [0, 0, 0]).take 4 = (ns ++ [0, 0, 0]).take 4 := by
  have hz := many_zero ns 4
  have hp := many_pos ns 4 (by decide)
  have hl := many_le ns 4
  unfold trim
  rw [h]
  generalize many ns 4 = m at hz hp hl
  match ns, h with
  | [a, b, c, d], _ =>
    have hm : m = 1 ∨ m = 2 ∨ m = 3 ∨ m = 4 := by omega
    rcases hm with rfl | rfl | rfl | rfl
    · have h1 := (hz 1 (by decide) (by decide)).resolve_right (by decide)
      have h2 := (hz 2 (by decide) (by decide)).resolve_right (by decide)
      have h3 := (hz 3 (by decide) (by decide)).resolve_right (by decide)
      simp at h1 h2 h3
      subst h1 h2 h3
      rfl
    · have h2 := (hz 2 (by decide) (by decide)).resolve_right (by decide)
      have h3 := (hz 3 (by decide) (by decide)).resolve_right (by decide)
      simp at h2 h3
      subst h2 h3
      rfl
    · have h3 := (hz 3 (by decide) (by decide)).resolve_right (by decide)
      simp at h3
      subst h3
      rfl
    · rfl
theorem rk_trim {r : Nat} (h : r ≤ 3000999999999999) : rk (trim (n4 r)) (r % 3001) = r := by
  have e : rk (trim (n4 r)) (r % 3001) = rk (n4 r) (r % 3001) := by
    unfold rk
    rw [take4 rfl]
  rw [e, rk_n4 h]
end Pk

/-! ## An instance compared with any other object -/
namespace Pk
open PySem PySem.Spec PyProof.Rows L2
open SlX (cmpback)
section
variable {X : Cx} {k n : Nat} {f C g : Addr} {fd : FuncData} {ps : List Str} {sp : Sp} {E : XK} {CX : CXT}
/-- x op y, x an instance of the class at C, whose def for op is at g; y of a type that is not below C -/
def rOwnA (K : PySem.W.Frag) (C : Addr) (sp : Sp) (E : XK) : R2 := fun x y H Q => ∃ a dx fs t, x = .ref a ∧ H a = some (.ins C dx fs) ∧ TyX K H y t ∧ PySem.W.notFirst K C t = true ∧ sp [x, y] H Q E
theorem op_ownA {op : CmpOp} (hop : ∀ a b, compareOp op a b = richCompare op a b) (hs : PySem.W.findIn X.K (.ref C) (cmpInfo op).2.1 = some (some (.ref g)))
    (hf : PySem.W.isFn X.K (.ref g) = true) (F : FnR X.prog X.w X.K X.mg X.base CX n g sp) (hr : Room n X.A) (hx : Passes CX X E) : OpR X (compareOp op) (rOwnA X.K C sp E) := by
  intro pins s σ H x y v u Q I rx ry h
  obtain ⟨a, dx, fs, t, rfl, ha, ty, hn, q⟩ := h
  obtain rfl : v = Value.ref a := rx
  obtain ⟨mA, O, _⟩ := ins_get I.hok ha
  obtain ⟨od, J, _⟩ := O.look
  obtain ⟨m, hF⟩ := I.fr
  obtain ⟨P, Z, p, _⟩ := kit_of I ry ty
  rw [hop]
  refine PySem.W.cmp_K (op := op) (tb := t) hr.units0 hF I.ok.mod.kin J (Z.ty _ _ I.kIn p) hn hs hf (wpAny_mono (wpAny_call (run_fnR (us := [.ref a, u]) (vs := [.ref a, y]) F hr hx I (.cons rfl (.cons ry .nil)) q)) ?_ (fun _ _ x => x))
  rintro w s' ⟨z', H', I', rz, qz⟩
  exact cmpback rz ⟨z', H', I', rz, qz⟩
end
/-- no built-in type is an own class -/
theorem kit_not {K : PySem.W.Frag} {C : Addr} (cl : Cls K C) (rd : ClX.CRead K C (.type "type")) {T : String} (hT : (PySem.fastFind? T).isSome = true := by decide +kernel) :
    PySem.W.kitOne K (.type T) (.ref C) = some false ∧ PySem.W.notFirst K C (.type T) = true := by
  have hs : PySem.W.subIn K (.type T) (.ref C) = some false := by
    obtain ⟨d, hd⟩ := Option.isSome_iff_exists.mp hT
    show ((PySem.fastFind? T).map _).map _ = _
    rw [hd]
    show some (List.contains (d.mro.map Value.type) (.ref C)) = some false
    congr 1
    generalize d.mro = ts
    induction ts with
    | nil => rfl
    | cons t r ih =>
      rw [List.map_cons, List.contains_cons, ih]
      rfl
  have h1 : (PySem.W.clsIn K C).isSome = true := by
    have h := cl.hd
    unfold PySem.W.hasDictIn at h
    cases e : PySem.W.clsIn K C with
    | none =>
      rw [e] at h
      cases h
    | some c => rfl
  have h2 : PySem.W.typeIn K (.ref C) = some (.type "type") := by
    have h := rd.rd
    simp only [PySem.W.readsIn, Bool.and_eq_true, beq_iff_eq] at h
    exact h.1.1.1.2
  constructor
  · unfold PySem.W.kitOne
    rw [if_neg (by intro h; cases h)]
    show (if ((PySem.W.clsIn K C).isSome && PySem.W.typeIn K (.ref C) == some (.type "type")) = true then _ else _) = _
    rw [h1, h2, if_pos (by decide), hs]
  · unfold PySem.W.notFirst
    rw [hs]
    rfl
/-! ## Tuples of whole numbers: order -/
theorem dp_ints {K : PySem.W.Frag} {H : Hp} : ∀ {ns : List Int}, DpAll K H (ns.map V.int) (ns.map .int)
  | [] => .nil
  | n :: r => .cons (.int n) (dp_ints (ns := r))
theorem ints_lay : ∀ ns : List Int, PyData.canLayAll0 (ns.map .int) = true
  | [] => rfl
  | n :: r => by
    show (PyData.canLay0 (.int n) && PyData.canLayAll0 (r.map .int)) = true
    rw [ints_lay r]
    simp [PyData.canLay0]
theorem ints_depth : ∀ ns : List Int, PyData.depthAll (ns.map .int) = 0
  | [] => rfl
  | n :: r => by
    show max (PyData.depth (.int n)) (PyData.depthAll (r.map .int)) = 0
    rw [ints_depth r]
    rfl
theorem ints_shaped (ns : List Int) : SeqAt.shaped (.tuple (ns.map .int)) = true := by
  unfold SeqAt.shaped
  have e : PyData.canLay0 (.tuple (ns.map .int)) = true := by
    simp only [PyData.canLay0]
    exact ints_lay ns
  rw [e]
  simp only [PyData.depth, ints_depth]
  rfl
theorem ints_eqv (ns ms : List Int) : PyData.eqv (.tuple (ns.map .int)) (.tuple (ms.map .int)) = decide (ns = ms) := by
  have h := PySem.W.Datum.eqv (α := PySem.W.Tup Int) ⟨ns⟩ ⟨ms⟩
  refine h.trans (decide_eq_decide.mpr ⟨fun e => congrArg PySem.W.Tup.items e, fun e => by rw [e]⟩)
def rTupI (K : PySem.W.Frag) (f : List Int → List Int → Bool) : R2 := fun x y H Q => ∃ (a b : Addr) (ns ms : List Int), x = .ref a ∧ y = .ref b ∧ SqT K H a (ns.map V.int) ∧ SqT K H b (ms.map V.int) ∧ Q (.bl (f ns ms)) H
section
variable {X : Cx}
theorem holds_ints {pins : List (Addr × Obj)} {σ : L2.St} {H : Hp} {s : Shared} {a : Addr} {ns : List Int} {v : Value} (I : Inv X pins σ H s) (h : SqT X.K H a (ns.map V.int)) (r : RelV (.ref a) v) : PySem.W.Holds s.heap v (⟨ns⟩ : PySem.W.Tup Int) :=
  Dp.reads I _ _ v (.tup h dp_ints) r
theorem op_ltTI (hu : X.A.units + 64 < cLine) : OpR X (compareOp .Lt) (rTupI X.K fun ns ms => PySem.W.listLt ns ms) := by
  intro pins s σ H x y v u Q I rx ry h
  obtain ⟨a, b, ns, ms, rfl, rfl, ha, hb, q⟩ := h
  exact PySem.W.lt_datum (holds_ints I ha rx) (holds_ints I hb ry) (Nat.lt_of_le_of_lt (Nat.add_le_add_left (show (1 : Nat) ≤ 64 by decide) _) hu) ⟨.bl _, H, I, rfl, q⟩
theorem op_gtTI (hu : X.A.units + 64 < cLine) : OpR X (compareOp .Gt) (rTupI X.K fun ns ms => PySem.W.listLt ms ns) := by
  intro pins s σ H x y v u Q I rx ry h
  obtain ⟨a, b, ns, ms, rfl, rfl, ha, hb, q⟩ := h
  exact PySem.W.gt_datum (holds_ints I ha rx) (holds_ints I hb ry) (Nat.lt_of_le_of_lt (Nat.add_le_add_left (show (1 : Nat) ≤ 64 by decide) _) hu) ⟨.bl _, H, I, rfl, q⟩
theorem op_leTI (hu : X.A.units + 64 < cLine) : OpR X (compareOp .LtE) (rTupI X.K fun ns ms => !PySem.W.listLt ms ns) := by
  intro pins s σ H x y v u Q I rx ry h
  obtain ⟨a, b, ns, ms, rfl, rfl, ha, hb, q⟩ := h
  exact PySem.W.le_datum (holds_ints I ha rx) (holds_ints I hb ry) (Nat.lt_of_le_of_lt (Nat.add_le_add_left (show (1 : Nat) ≤ 64 by decide) _) hu) ⟨.bl _, H, I, rfl, q⟩
theorem op_geTI (hu : X.A.units + 64 < cLine) : OpR X (compareOp .GtE) (rTupI X.K fun ns ms => !PySem.W.listLt ns ms) := by
  intro pins s σ H x y v u Q I rx ry h
  obtain ⟨a, b, ns, ms, rfl, rfl, ha, hb, q⟩ := h
  exact PySem.W.ge_datum (holds_ints I ha rx) (holds_ints I hb ry) (Nat.lt_of_le_of_lt (Nat.add_le_add_left (show (1 : Nat) ≤ 64 by decide) _) hu) ⟨.bl _, H, I, rfl, q⟩
end
end Pk

/-! ## Exceptions that are kept as values: made, caught under a name, their fields read -/
namespace Pk
open PySem PySem.Spec PyProof.Rows L2
/-- at a: an exception of the class cls that is in nobody's flight, its dict at d -/
def ExK (cls : Value) (d : Option Addr) (a : Addr) : HO := .ext fun h => ∃ (oe : Obj) (vs : Array Value), h.get? a = some oe ∧ Zc cls d oe ∧ oe.data = .fields vs
theorem exK_ok {P : Program} {w : World} {H : Hp} {h : Heap} {a : Addr} {cls : Value} {d : Option Addr} {oe : Obj} {vs : Array Value} (e : h.get? a = some oe) (z : Zc cls d oe) (q : oe.data = .fields vs) : ObjOk P w H h a (ExK cls d a) :=
  ⟨⟨oe, vs, e, z, q⟩, ⟨oe, e⟩, fun _ _ ⟨o1, v1, e1, z1, q1⟩ k => ⟨o1, v1, k _ e1, z1, q1⟩⟩
theorem exK_at {P : Program} {w : World} {H : Hp} {h : Heap} {a : Addr} {cls : Value} {d : Option Addr} (k : HOk P w H h) (e : H a = some (ExK cls d a)) : ∃ (oe : Obj) (vs : Array Value), h.get? a = some oe ∧ Zc cls d oe ∧ oe.data = .fields vs :=
  (show ObjOk P w H h a (.ext fun h => ∃ (oe : Obj) (vs : Array Value), h.get? a = some oe ∧ Zc cls d oe ∧ oe.data = .fields vs) from k a _ e).1
theorem exK_ne {cls : Value} {d : Option Addr} {a : Addr} : (∀ xs, ExK cls d a ≠ .tup xs) ∧ (∀ o u, ExK cls d a ≠ .frz o u) ∧ (∀ ps, ExK cls d a ≠ .tbl ps) ∧ ∀ x, ExK cls d a ≠ .own x := by
  refine ⟨fun _ z => ?_, fun _ _ z => ?_, fun _ z => ?_, fun _ z => ?_⟩ <;> (unfold ExK at z; cases z)
section
variable {X : Cx} {pins : List (Addr × Obj)} {σ : L2.St} {H : Hp} {s : Shared}
/-- a thing of the heap that is younger than the def's call, told from now on -/
theorem track {a : Addr} {o : HO} (I : Inv X pins σ H s) (young : X.s_0.heap.get? a = none) (untold : H a = none) (nl : X.env.locals ≠ a) (nc : ∀ x c, X.env.cells.lookup x = some c → c ≠ a)
    (np : ∀ p ∈ X.pn ++ pins, p.1 ≠ a) (new : ObjOk X.prog X.w (upd H a o) s.heap a o) : Inv X pins σ (upd H a o) s := by
  have off : ∀ {b : Addr} {u : HO}, H b = some u → b ≠ a := fun {b u} e z => by
    rw [z, untold] at e
    cases e
  have old : ∀ {b : Addr} {u : Obj}, X.s_0.heap.get? b = some u → b ≠ a := fun {b u} e z => by
    rw [z, young] at e
    cases e
  have at_ : ∀ {b : Addr} {u : HO}, H b = some u → upd H a o b = some u := fun {b u} e => by
    rw [upd_ne (off e)]
    exact e
  refine { ok := I.ok, os := I.os, bare := I.bare, loc := I.loc, cell := I.cell, len := I.len, base := { keep := I.base.keep, slot := I.base.slot, there := I.base.there, free := ?_, tups := ?_, frzs := ?_, tbls := ?_ }, free := ?_, freeC := ?_, pin := ?_, hok := ?_ }
  · intro b u e n hx
    rw [upd_ne (old e)]
    exact I.base.free b u e n hx
  · exact fun b xs e => at_ (I.base.tups b xs e)
  · exact fun b u v e => at_ (I.base.frzs b u v e)
  · intro b ps e
    obtain ⟨m, q⟩ := I.base.tbls b ps e
    exact ⟨m, at_ q⟩
  · rw [upd_ne nl]
    exact I.free
  · intro x c e
    rw [upd_ne (nc x c e)]
    exact I.freeC x c e
  · intro p hp
    obtain ⟨q1, q2, q3, q4, q5⟩ := I.pin p hp
    exact ⟨q1, by rw [upd_ne (np p hp)]; exact q2, q3, q4, q5⟩
  · intro b u e
    by_cases hb : b = a
    · subst hb
      rw [upd_same] at e
      cases e
      exact new
    · rw [upd_ne hb] at e
      exact (I.hok b u e).stay (fun _ _ _ q => q) (fun _ q => at_ q) (fun _ _ q => at_ q)
theorem moved {s' : Shared} (I : Inv X pins σ H s) (hh : s'.heap = s.heap) (os : s'.os = s.os) (ag : AllBare s'.gens) : Inv X pins σ H s' := by
  obtain ⟨h1, g1, d1, t1, o1⟩ := s
  obtain ⟨h2, g2, d2, t2, o2⟩ := s'
  dsimp only at hh os ag
  subst hh os
  exact { ok := I.ok, os := I.os, bare := ag, base := I.base, loc := I.loc, cell := I.cell, free := I.free, freeC := I.freeC, pin := I.pin, hok := I.hok, len := I.len }
/-- what was not there before the call -/
theorem young_of (I : Inv X pins σ H s) (hex : X.ex = []) {a : Addr} (n : s.heap.get? a = none) : X.s_0.heap.get? a = none := by
  cases e : X.s_0.heap.get? a with
  | none => rfl
  | some o =>
    obtain ⟨o', q⟩ := I.base.there a o e (by rw [hex]; exact fun z => nomatch z)
    rw [n] at q
    cases q
theorem notcell (I : Inv X pins σ H s) {a : Addr} {oe : Obj} {vs : Array Value} (e : s.heap.get? a = some oe) (q : oe.data = .fields vs) : ∀ x c, X.env.cells.lookup x = some c → c ≠ a := fun x c hc z => by
  obtain ⟨v, o, ho, hd⟩ := I.cell x c hc
  rw [z, e] at ho
  cases ho
  rw [q] at hd
  cases hd
theorem notlocals (I : Inv X pins σ H s) {a : Addr} (n : s.heap.get? a = none) : X.env.locals ≠ a := fun z => by
  obtain ⟨m, ⟨o, es, ep, ho, _⟩, _⟩ := I.loc
  rw [z, n] at ho
  cases ho
end
/-! ### C(..) as a value -/
def tMkV (t : L2.St → Hp → XK → Prop) : TE := fun σ H Q => t σ H fun cls d H' => ∀ a, H' a = none → Q (.ref a) (upd H' a (ExK cls d a))
theorem pe_mkV {X : Cx} {e : Expr} {t : L2.St → Hp → XK → Prop} (hex : X.ex = []) (he : PMk X e t) : PE X e (tMkV t) := by
  refine ⟨fun pins s σ H Q I h => wpAny_mono (he pins s σ H _ I h) ?_ fun _ _ x => x⟩
  rintro u s' ⟨a, oe, vs, sI, H', cls, d, rfl, J, k, gone, there, hz, hd, _, na, os, ag, _, q⟩
  have J1 : Inv X pins σ H' s' := moved (s := { sI with heap := s'.heap, toks := sI.toks }) (J.kept k) rfl os ag
  refine ⟨.ref a, _, track J1 (young_of J hex gone) na (notlocals J gone) (notcell J1 there hd) (fun p hp z => ?_) (exK_ok there hz hd), rfl, q a na⟩
  have := (J.pin p hp).1
  rw [z, gone] at this
  cases this
/-! ### e.f -/
def tXfV (K : PySem.W.Frag) (f : Str) (te : TE) : TE := fun σ H Q => te σ H fun x H1 => ∃ (a dd C : Addr) (fs : List (Str × V)) (v : V), x = .ref a ∧ XfC K C ∧ PySem.W.findIn K (.ref C) f = some none ∧
  H1 a = some (ExK (.ref C) (some dd) a) ∧ H1 dd = some (.xd fs) ∧ fs.lookup f = some v ∧ Q v H1
theorem pe_xfV {X : Cx} {e : Expr} {te : TE} {pos : Pos} {n : Str} (he : PE X e te) (hb : attributeBase e n X.env (eval e X.env) = eval e X.env := by rfl) : PE X (.Attribute e n pos) (tXfV X.K n te) := by
  refine ⟨fun pins s σ H Q I h => attr_of hb (thn (he.run pins s σ H _ I h) ?_)⟩
  rintro u s1 ⟨x, H1, I1, rx, a, dd, C, fs, v, rfl, T, no, hx, hd, hl, q⟩
  obtain rfl : u = Value.ref a := rx
  obtain ⟨oe, vs, there, hz, hf⟩ := exK_at I1.hok hx
  obtain ⟨mA, hns, hr⟩ : ObjOk X.prog X.w H1 s1.heap dd (.xd fs) := I1.hok dd _ hd
  obtain ⟨od, ho, hlk⟩ := lookIn_ns hns
  obtain ⟨u, hu, ru⟩ := RelO.some_of (v := v) (o := mA n) (by rw [← hl]; exact hr n)
  have J : PySem.W.InstAt s1.heap a oe C (some od) := ⟨there, hz.1, by unfold PySem.W.notCls; rw [hf] <;> rfl, by rw [hz.2]; exact ho⟩
  exact HandSPX.exc_get I1.kIn J T.ga T.gg T.exC (PySem.W.findObj_own T.hdC no rfl (by rw [hlk, hu])) (handed_of ru) ⟨v, H1, I1.tok _, ru, q⟩
/-! ### try: body / except x as n: suite, the exception kept -/
/-- what follows the suite: the name is gone, the exception is told -/
def behindV (i : Nat) (a : Addr) (cls : Value) (d : Option Addr) (D : Ends) : Ends where
  nx := fun σ H => H a = none → D.nx (σ.set i none) (upd H a (ExK cls d a))
  rt := D.rt
  bk := fun σ H => D.bk (σ.set i none) H
  ct := fun σ H => D.ct (σ.set i none) H
def wAsV (K : PySem.W.Frag) (c : Value) (i : Nat) (ts : Addr → Value → Option Addr → TS) (Wout : WX) (D : Ends) : WX := fun cls d σ H =>
  ∃ b, PySem.W.exmOne K cls c = some b ∧ (b = true → ∀ a, H a = none → ts a cls d (behindV i a cls d D) (σ.set i (some (.ref a))) H) ∧ (b = false → Wout cls d σ H)
section
variable {X : Cx} {x n : Str} {c : Value} {i : Nat} {body suite : List Stmt} {b₀ : Stmt} {np pos pos' : Pos} {tb : WX → TS} {ts : Addr → Value → Option Addr → TS} {Wout : WX}
theorem unsuiteK {a : Addr} {q : Addr × Obj} {pins : List (Addr × Obj)} {σ : L2.St} {H : Hp} {s : Shared} (I : Inv (X.suite a (q :: (X.pn ++ pins))) [] σ H s) (ok : X.Ok) : Inv X (q :: pins) σ H s :=
  { ok := ok, os := I.os, bare := I.bare, base := I.base, loc := I.loc, cell := I.cell, free := I.free, freeC := I.freeC, hok := I.hok, len := I.len
    pin := fun p hp => I.pin p (by
      rcases List.mem_append.mp hp with h | h
      · exact List.mem_append_left _ (List.mem_cons_of_mem _ (List.mem_append_left _ h))
      · rcases List.mem_cons.mp h with h | h
        · rw [h]
          exact List.mem_append_left _ List.mem_cons_self
        · exact List.mem_append_left _ (List.mem_cons_of_mem _ (List.mem_append_right _ h))) }
theorem unpin {q : Addr × Obj} {pins : List (Addr × Obj)} {σ : L2.St} {H : Hp} {s : Shared} (I : Inv X (q :: pins) σ H s) : Inv X pins σ H s :=
  { ok := I.ok, os := I.os, bare := I.bare, base := I.base, loc := I.loc, cell := I.cell, free := I.free, freeC := I.freeC, hok := I.hok, len := I.len
    pin := fun p hp => I.pin p (by
      rcases List.mem_append.mp hp with h | h
      · exact List.mem_append_left _ h
      · exact List.mem_append_right _ (List.mem_cons_of_mem _ h)) }
theorem ps_try_asV (hex : X.ex = []) (hs : X.stack = X.env :: X.outer) (hf : X.env.frame = some X.env.locals) (hN : X.N.Nodup) (hi : X.N[i]? = some n) (hln : X.env.kindOf n = some .local) (hc : Names X x c) (tk : Takes X Wout)
    (hb : ∀ (W : WX) (pn : List (Addr × Obj)) (xe : Value → Shared → Prop), Takes (X.tr pn xe) W → PassesOwn (model X.prog X.w) X.A X.env xe → PSs (X.tr pn xe) body (tb W))
    (hsu : ∀ (a : Addr) (oe : Obj) (cls : Value) (d : Option Addr) (pn : List (Addr × Obj)), Zc cls d oe → (∃ vs, oe.data = .fields vs) → PSs (X.suite a ((a, oe) :: pn)) (b₀ :: suite) (ts a cls d)) :
    PS X (.Try body [.ExceptHandler (some (.Name x np)) (some n) (b₀ :: suite) pos'] [] [] pos) (fun D σ H => tb (wAsV X.K c i ts Wout D) D σ H) := by
  constructor
  intro pins s σ H D I h
  have okX := I.ok
  have frames : X.A.frames = some (X.env :: X.outer) := okX.frames.trans (by rw [hs])
  refine wpAny_Try_except ?_
  let XC : Value → Shared → Prop := fun e s₁ => wpAny (model X.prog X.w) X.A (noteFrame e X.env) (fun _ s₂ => wpAny (model X.prog X.w) X.A (setFlight e none) (fun _ s₃ =>
    wpAny (model X.prog X.w) X.A (handleBy e X.env [.ExceptHandler (some (.Name x np)) (some n) (b₀ :: suite) pos']) (SP X pins D) X.xe s₃) X.xe s₂) X.xe s₁
  have caught : Takes (X.tr (X.pn ++ pins) XC) (wAsV X.K c i ts Wout D) := by
    rintro u s' ⟨a, B, sI, pins', σ', H', cls, d, rfl, J', nb, up, sky, na, os, ag, b, hb1, hyes, hno⟩
    have J : Inv X pins σ' H' sI := J'.ofTry okX
    have sky' : Sky B (X.env :: X.outer) a (Zc cls d) X.env.locals s'.heap := by
      rw [← hs]
      exact sky
    show wpAny (model X.prog X.w) X.A (noteFrame (.ref a) X.env) _ _ _
    refine Sky.land Zc.steady frames hf sky' fun hA flA upA => ?_
    have JA : Inv X pins σ' H' { s' with heap := hA } := J.landed nb flA.1 (up.trans upA) os ag
    obtain ⟨oA, vA, eA, zA, dA⟩ := flA.there
    have nofr : a ∉ frs (X.env :: X.outer) := fun hm => by
      obtain ⟨_, o', e', hnf⟩ := flA.2.2.1.mem hm
      rw [eA] at e'
      cases e'
      exact hnf _ dA
    have goneI : sI.heap.get? a = none := by
      cases e : sI.heap.get? a with
      | none => rfl
      | some o =>
        have := nb a o e (by rw [show (X.tr (X.pn ++ pins) XC).stack = X.env :: X.outer from hs]; exact nofr)
        rw [flA.2.1] at this
        cases this
    have nLoc : a ≠ X.env.locals := fun z => nofr (List.mem_filterMap.mpr ⟨X.env, List.mem_cons_self, by rw [hf, z]⟩)
    have nFs : a ∉ X.fs := fun hm => by
      obtain ⟨e, he, q⟩ := List.mem_filterMap.mp hm
      exact nofr (List.mem_filterMap.mpr ⟨e, List.mem_cons_of_mem _ he, q⟩)
    have SA := JA.suite eA dA na nLoc nFs
    refine wpAny_handleBy_cons (codeAny_handlers_test ?_) (by intro q; cases q)
    have lookT : PySem.W.Looks (model X.prog X.w) hA (typeOf (.ref a)) cls := fun A Q E s k q => wpAny_typeOf_ref (k _ _ eA) (by rw [zA.1]; exact q)
    have lookM := PySem.W.exm_one (M := model X.prog X.w) JA.kIn lookT hb1
    have nameC : ∀ {Q : Value → Shared → Prop} {E : Value → Shared → Prop}, Q c { s' with heap := hA } → wpAny (model X.prog X.w) (X.A.mark (some (.ref a))) (eval (.Name x np) X.env) Q E { s' with heap := hA } := by
      intro Q E q
      obtain ⟨glo, dbg, m1 | ⟨m1, m2, m3⟩⟩ := hc
      · exact ld_glob (X := X.suite a ((a, oA) :: (X.pn ++ pins))) SA glo m1 q dbg
      · exact ld_blt (X := X.suite a ((a, oA) :: (X.pn ++ pins))) SA glo m1 m2 q m3 dbg
    refine nameC (lookM.here ?_)
    cases b with
    | true =>
      refine codeAny_handlers_suite_as (HandSPX.lands_againZ flA fun hB flB upB => ?_)
      have JB : Inv X pins σ' H' { s' with heap := hB } := J.landed nb flB.1 ((up.trans upA).trans upB) os ag
      obtain ⟨oB, vB, eB, zB, dB⟩ := flB.there
      refine store_ok (X := X.suite a ((a, oB) :: (X.pn ++ pins))) (v := .ref a) (JB.suite eB dB na nLoc nFs) hN hi (.inl hln) rfl (fun sS SS => ?_) (.inr hln)
      have inside := (hsu a oB cls d (X.pn ++ pins) zB ⟨_, dB⟩).run [] sS _ H' _ SS (hyes rfl a na)
      refine wpAny_mono inside (fun f sE hsp => ?_) (fun _ _ z => False.elim z)
      have close : ∀ {σE : L2.St} {HE : Hp} {Q : Shared → Prop}, Inv (X.suite a ((a, oB) :: (X.pn ++ pins))) [] σE HE sE → (∀ sZ, Inv X ((a, oB) :: pins) (σE.set i none) HE sZ → Q sZ) →
          wpAny (model X.prog X.w) X.A (do bindName X.env n .none; unbindBehindTheSuite X.env n pos') (fun _ sZ => Q sZ) X.xe sE := fun {σE HE Q} SE hq => gone_ok (unsuiteK SE okX) hN hi hln hq
      cases f with
      | next =>
        obtain ⟨σE, HE, SE, qE⟩ := hsp
        refine close SE fun sZ JZ => ?_
        obtain ⟨g1, g2, g3, _, _⟩ := JZ.pin (a, oB) (List.mem_append_right _ List.mem_cons_self)
        refine ⟨_, _, track (unpin JZ) (young_of J hex goneI) g2 (Ne.symm g3) (notcell (unpin JZ) g1 dB) (fun p hp z => ?_) (exK_ok g1 zB dB), qE g2⟩
        have := (J.pin p hp).1
        rw [z, goneI] at this
        cases this
      | brk =>
        obtain ⟨σE, HE, SE, qE⟩ := hsp
        exact close SE fun sZ JZ => ⟨_, _, unpin JZ, qE⟩
      | cont =>
        obtain ⟨σE, HE, SE, qE⟩ := hsp
        exact close SE fun sZ JZ => ⟨_, _, unpin JZ, qE⟩
      | ret u =>
        obtain ⟨vE, σE, HE, SE, rE, qE⟩ := hsp
        exact close SE fun sZ JZ => ⟨_, _, _, unpin JZ, rE, qE⟩
    | false =>
      show wpAny _ X.A (handleBy (.ref a) X.env []) _ _ _
      refine wpAny_handleBy_nil ?_
      obtain ⟨k1, k2, k3, oe, vs, T, oT, tt, eT, zT, dT, h1, hr⟩ := id flA
      unfold PySem.passOn
      refine wpAny_bind (wpAny_field eT dT h1 ?_)
      rw [if_neg (show ¬ ((Value.ref T == Value.none) = true) from by simp)]
      have away : wpAny (model X.prog X.w) X.A (setFlight (.ref a) X.env.frame) (fun _ s4 => wpAny (model X.prog X.w) X.A (throw (.ref a) : Sem Flow) (SP X pins D) X.xe s4) X.xe { s' with heap := hA } := by
        rw [hf]
        refine HandSPX.setFlight_upZ flA fun hB hhB upB => wpAny_throw (tk _ _ ?_)
        exact ⟨a, B, sI, pins, σ', H', cls, d, rfl, J, nb, (up.trans upA).trans upB, .inr (.inr (by rw [hs]; exact hhB)), na, os, ag, hno rfl⟩
      first
        | exact wpAny_bind (wpAny_pure (wpAny_bind away))
        | exact wpAny_bind away
  have through := (hb (wAsV X.K c i ts Wout D) (X.pn ++ pins) XC caught PassesOwn.looking).run [] s σ H D (I.toTry _) h
  refine wpAny_mono through (fun f s1 hsp => ?_) (fun _ _ he => he)
  cases f with
  | next =>
    obtain ⟨σ', H', JJ, q⟩ := hsp
    exact wpAny_execs_nil ⟨σ', H', JJ.ofTry okX, q⟩
  | brk =>
    obtain ⟨σ', H', JJ, q⟩ := hsp
    exact ⟨σ', H', JJ.ofTry okX, q⟩
  | cont =>
    obtain ⟨σ', H', JJ, q⟩ := hsp
    exact ⟨σ', H', JJ.ofTry okX, q⟩
  | ret u =>
    obtain ⟨v, σ', H', JJ, r, q⟩ := hsp
    exact ⟨v, σ', H', JJ.ofTry okX, r, q⟩
end
end Pk

/-! ## A clause of several classes: except (A, B, C) as e, the exception kept as a value -/
namespace Pk
open PySem PySem.Spec PyProof.Rows L2
/-- the test of a clause answers m for the class of what is caught; it may lay a tuple -/
def HT (X : Cx) (t : Expr) (m : Value → Option Bool) : Prop :=
  ∀ {a : Addr} {oe : Obj} {pn : List (Addr × Obj)} {σ : L2.St} {H : Hp} {s : Shared} {cls : Value} {b : Bool} {Q : Bool → Shared → Prop} {E : Value → Shared → Prop}, Inv (X.suite a ((a, oe) :: pn)) [] σ H s → s.heap.get? a = some oe → oe.cls = cls → m cls = some b →
    (∀ h', (∀ q o, s.heap.get? q = some o → h'.get? q = some o) → Q b { s with heap := h' }) →
    wpAny (model X.prog X.w) (X.A.mark (some (.ref a))) (eval t X.env) (fun c s₁ => wpAny (model X.prog X.w) (X.A.mark (some (.ref a))) (excMatches (.ref a) c) Q E s₁) E s
section
variable {X : Cx}
theorem ht_looks {a : Addr} {oe : Obj} {h : Heap} {cls : Value} (ha : h.get? a = some oe) (hc : oe.cls = cls) : PySem.W.Looks (model X.prog X.w) h (typeOf (.ref a)) cls := fun A Q E s k q => wpAny_typeOf_ref (k _ _ ha) (by rw [hc]; exact q)
theorem ht_name {x : Str} {c : Value} {np : Pos} {a : Addr} {oe : Obj} {pn : List (Addr × Obj)} {σ : L2.St} {H : Hp} {s : Shared} {Q : Value → Shared → Prop} {E : Value → Shared → Prop} (hc : Names X x c) (SA : Inv (X.suite a ((a, oe) :: pn)) [] σ H s) (q : Q c s) :
    wpAny (model X.prog X.w) (X.A.mark (some (.ref a))) (eval (.Name x np) X.env) Q E s := by
  obtain ⟨glo, dbg, m1 | ⟨m1, m2, m3⟩⟩ := hc
  · exact ld_glob (X := X.suite a ((a, oe) :: pn)) SA glo m1 q dbg
  · exact ld_blt (X := X.suite a ((a, oe) :: pn)) SA glo m1 m2 q m3 dbg
theorem ht_one {x : Str} {c : Value} {np : Pos} (hc : Names X x c) : HT X (.Name x np) (fun cls => PySem.W.exmOne X.K cls c) := by
  intro a oe pn σ H s cls b Q E SA ha hcl hb q
  exact ht_name hc SA ((PySem.W.exm_one (M := model X.prog X.w) SA.kIn (ht_looks ha hcl) hb).here (q _ fun _ _ z => z))
theorem ht_tup3 {x1 x2 x3 : Str} {c1 c2 c3 : Value} {p1 p2 p3 tpos : Pos} {kk : Nat} (n1 : Names X x1 c1) (n2 : Names X x2 c2) (n3 : Names X x3 c3) :
    HT X (.Tuple [.Name x1 p1, .Name x2 p2, .Name x3 p3] kk tpos) (fun cls => PySem.W.exmAny X.K cls [c1, c2, c3]) := by
  intro a oe pn σ H s cls b Q E SA ha hcl hb q
  refine wpAny_Tuple ?_
  refine wpAny_items_cons (ht_name n1 SA ?_)
  refine wpAny_items_cons (ht_name n2 SA ?_)
  refine wpAny_items_cons (ht_name n3 SA ?_)
  refine wpAny_items_nil ⟨by show (3 : Nat) ≤ sizeLine; rw [sizeLine_eq]; omega, ?_⟩
  have kp : ∀ q o, s.heap.get? q = some o → (s.heap.push { cls := .type "tuple", data := .seq [c1, c2, c3].toArray }).get? q = some o := fun _ _ z => Heap.get?_push_of_some _ z
  exact (PySem.W.exm_tup3 (SA.kIn.keeps kp) ((ht_looks ha hcl).keeps kp) (Heap.get?_push_size s.heap rfl) hb).here (q _ kp)
end
theorem flyingZ_keeps {B : Heap} {l : List Env} {a : Addr} {Z : Obj → Prop} {h h' : Heap} (f : HandSPX.FlyingZ B l a Z h) (k : ∀ b o, h.get? b = some o → h'.get? b = some o) : HandSPX.FlyingZ B l a Z h' := by
  obtain ⟨f1, f2, f3, oe, vs, T, oT, ts, he, hz, hd, h1, hnT, hTe, hT, hdT, h3⟩ := f
  exact ⟨fun b o q => k b o (f1 b o q), f2, f3.of_keeps fun b o q _ => ⟨o, k b o q, rfl⟩, oe, vs, T, oT, ts, k _ _ he, hz, hd, h1, hnT, hTe, k _ _ hT, hdT, h3⟩
def wAsT (m : Value → Option Bool) (i : Nat) (ts : Addr → Value → Option Addr → TS) (Wout : WX) (D : Ends) : WX := fun cls d σ H =>
  ∃ b, m cls = some b ∧ (b = true → ∀ a, H a = none → ts a cls d (behindV i a cls d D) (σ.set i (some (.ref a))) H) ∧ (b = false → Wout cls d σ H)
section
variable {X : Cx} {t : Expr} {n : Str} {m : Value → Option Bool} {i : Nat} {body suite : List Stmt} {b₀ : Stmt} {pos pos' : Pos} {tb : WX → TS} {ts : Addr → Value → Option Addr → TS} {Wout : WX}
theorem ps_try_asT (hex : X.ex = []) (hs : X.stack = X.env :: X.outer) (hf : X.env.frame = some X.env.locals) (hN : X.N.Nodup) (hi : X.N[i]? = some n) (hln : X.env.kindOf n = some .local) (ht : HT X t m) (tk : Takes X Wout)
    (hb : ∀ (W : WX) (pn : List (Addr × Obj)) (xe : Value → Shared → Prop), Takes (X.tr pn xe) W → PassesOwn (model X.prog X.w) X.A X.env xe → PSs (X.tr pn xe) body (tb W))
    (hsu : ∀ (a : Addr) (oe : Obj) (cls : Value) (d : Option Addr) (pn : List (Addr × Obj)), Zc cls d oe → (∃ vs, oe.data = .fields vs) → PSs (X.suite a ((a, oe) :: pn)) (b₀ :: suite) (ts a cls d)) :
    PS X (.Try body [.ExceptHandler (some t) (some n) (b₀ :: suite) pos'] [] [] pos) (fun D σ H => tb (wAsT m i ts Wout D) D σ H) := by
  constructor
  intro pins s σ H D I h
  have okX := I.ok
  have frames : X.A.frames = some (X.env :: X.outer) := okX.frames.trans (by rw [hs])
  refine wpAny_Try_except ?_
  let XC : Value → Shared → Prop := fun e s₁ => wpAny (model X.prog X.w) X.A (noteFrame e X.env) (fun _ s₂ => wpAny (model X.prog X.w) X.A (setFlight e none) (fun _ s₃ =>
    wpAny (model X.prog X.w) X.A (handleBy e X.env [.ExceptHandler (some t) (some n) (b₀ :: suite) pos']) (SP X pins D) X.xe s₃) X.xe s₂) X.xe s₁
  have caught : Takes (X.tr (X.pn ++ pins) XC) (wAsT m i ts Wout D) := by
    rintro u s' ⟨a, B, sI, pins', σ', H', cls, d, rfl, J', nb, up, sky, na, os, ag, b, hb1, hyes, hno⟩
    have J : Inv X pins σ' H' sI := J'.ofTry okX
    have sky' : Sky B (X.env :: X.outer) a (Zc cls d) X.env.locals s'.heap := by
      rw [← hs]
      exact sky
    show wpAny (model X.prog X.w) X.A (noteFrame (.ref a) X.env) _ _ _
    refine Sky.land Zc.steady frames hf sky' fun hA flA upA => ?_
    have JA : Inv X pins σ' H' { s' with heap := hA } := J.landed nb flA.1 (up.trans upA) os ag
    obtain ⟨oA, vA, eA, zA, dA⟩ := flA.there
    have nofr : a ∉ frs (X.env :: X.outer) := fun hm => by
      obtain ⟨_, o', e', hnf⟩ := flA.2.2.1.mem hm
      rw [eA] at e'
      cases e'
      exact hnf _ dA
    have goneI : sI.heap.get? a = none := by
      cases e : sI.heap.get? a with
      | none => rfl
      | some o =>
        have := nb a o e (by rw [show (X.tr (X.pn ++ pins) XC).stack = X.env :: X.outer from hs]; exact nofr)
        rw [flA.2.1] at this
        cases this
    have nLoc : a ≠ X.env.locals := fun z => nofr (List.mem_filterMap.mpr ⟨X.env, List.mem_cons_self, by rw [hf, z]⟩)
    have nFs : a ∉ X.fs := fun hm => by
      obtain ⟨e, he, q⟩ := List.mem_filterMap.mp hm
      exact nofr (List.mem_filterMap.mpr ⟨e, List.mem_cons_of_mem _ he, q⟩)
    have SA := JA.suite eA dA na nLoc nFs
    refine wpAny_handleBy_cons (codeAny_handlers_test ?_) (by intro q; cases q)
    refine ht (oe := oA) (pn := X.pn ++ pins) SA eA zA.1 hb1 fun hP kP => ?_
    have flP := flyingZ_keeps flA kP
    have upP : s'.heap.UpToSlots hP := upA.trans (Heap.UpToSlots.of_keeps kP)
    cases b with
    | true =>
      refine codeAny_handlers_suite_as (HandSPX.lands_againZ (s := { s' with heap := hP }) flP fun hB flB upB => ?_)
      have JB : Inv X pins σ' H' { s' with heap := hB } := J.landed nb flB.1 ((up.trans upP).trans upB) os ag
      obtain ⟨oB, vB, eB, zB, dB⟩ := flB.there
      refine store_ok (X := X.suite a ((a, oB) :: (X.pn ++ pins))) (v := .ref a) (JB.suite eB dB na nLoc nFs) hN hi (.inl hln) rfl (fun sS SS => ?_) (.inr hln)
      have inside := (hsu a oB cls d (X.pn ++ pins) zB ⟨_, dB⟩).run [] sS _ H' _ SS (hyes rfl a na)
      refine wpAny_mono inside (fun f sE hsp => ?_) (fun _ _ z => False.elim z)
      have close : ∀ {σE : L2.St} {HE : Hp} {Q : Shared → Prop}, Inv (X.suite a ((a, oB) :: (X.pn ++ pins))) [] σE HE sE → (∀ sZ, Inv X ((a, oB) :: pins) (σE.set i none) HE sZ → Q sZ) →
          wpAny (model X.prog X.w) X.A (do bindName X.env n .none; unbindBehindTheSuite X.env n pos') (fun _ sZ => Q sZ) X.xe sE := fun {σE HE Q} SE hq => gone_ok (unsuiteK SE okX) hN hi hln hq
      cases f with
      | next =>
        obtain ⟨σE, HE, SE, qE⟩ := hsp
        refine close SE fun sZ JZ => ?_
        obtain ⟨g1, g2, g3, _, _⟩ := JZ.pin (a, oB) (List.mem_append_right _ List.mem_cons_self)
        refine ⟨_, _, track (unpin JZ) (young_of J hex goneI) g2 (Ne.symm g3) (notcell (unpin JZ) g1 dB) (fun p hp z => ?_) (exK_ok g1 zB dB), qE g2⟩
        have := (J.pin p hp).1
        rw [z, goneI] at this
        cases this
      | brk =>
        obtain ⟨σE, HE, SE, qE⟩ := hsp
        exact close SE fun sZ JZ => ⟨_, _, unpin JZ, qE⟩
      | cont =>
        obtain ⟨σE, HE, SE, qE⟩ := hsp
        exact close SE fun sZ JZ => ⟨_, _, unpin JZ, qE⟩
      | ret u =>
        obtain ⟨vE, σE, HE, SE, rE, qE⟩ := hsp
        exact close SE fun sZ JZ => ⟨_, _, _, unpin JZ, rE, qE⟩
    | false =>
      show wpAny _ X.A (handleBy (.ref a) X.env []) _ _ _
      refine wpAny_handleBy_nil ?_
      obtain ⟨k1, k2, k3, oe, vs, T, oT, tt, eT, zT, dT, h1, hr⟩ := id flP
      unfold PySem.passOn
      refine wpAny_bind (wpAny_field eT dT h1 ?_)
      rw [if_neg (show ¬ ((Value.ref T == Value.none) = true) from by simp)]
      have away : wpAny (model X.prog X.w) X.A (setFlight (.ref a) X.env.frame) (fun _ s4 => wpAny (model X.prog X.w) X.A (throw (.ref a) : Sem Flow) (SP X pins D) X.xe s4) X.xe { s' with heap := hP } := by
        rw [hf]
        refine HandSPX.setFlight_upZ (s := { s' with heap := hP }) flP fun hB hhB upB => wpAny_throw (tk _ _ ?_)
        exact ⟨a, B, sI, pins, σ', H', cls, d, rfl, J, nb, (up.trans upP).trans upB, .inr (.inr (by rw [hs]; exact hhB)), na, os, ag, hno rfl⟩
      first
        | exact wpAny_bind (wpAny_pure (wpAny_bind away))
        | exact wpAny_bind away
  have through := (hb (wAsT m i ts Wout D) (X.pn ++ pins) XC caught PassesOwn.looking).run [] s σ H D (I.toTry _) h
  refine wpAny_mono through (fun f s1 hsp => ?_) (fun _ _ he => he)
  cases f with
  | next =>
    obtain ⟨σ', H', JJ, q⟩ := hsp
    exact wpAny_execs_nil ⟨σ', H', JJ.ofTry okX, q⟩
  | brk =>
    obtain ⟨σ', H', JJ, q⟩ := hsp
    exact ⟨σ', H', JJ.ofTry okX, q⟩
  | cont =>
    obtain ⟨σ', H', JJ, q⟩ := hsp
    exact ⟨σ', H', JJ.ofTry okX, q⟩
  | ret u =>
    obtain ⟨v, σ', H', JJ, r, q⟩ := hsp
    exact ⟨v, σ', H', JJ.ofTry okX, r, q⟩
end
end Pk

/-! ## Calls whose exceptions are told with the slots as they stand: classmethods and classes, by position and by name -/
namespace Pk
open PySem PySem.Spec PyProof.Rows L2
section
variable {X : Cx} {CX : CXT} {k : Nat} {σ : L2.St} {H : Hp} {s : Shared} {pins : List (Addr × Obj)} {E : L2.St → XK} {sp : Sp}
theorem run_fnRS {f : Addr} {Q : VK} {us : List Value} {vs : List V} (F : FnR X.prog X.w X.K X.mg X.base CX k f sp) (hr : Room k X.A) (hx : PassesAt CX X σ (E σ)) (I : Inv X pins σ H s) (r : Vals vs us) (h : sp vs H Q (E σ)) :
    codeAny (model X.prog X.w) X.A (.call (.ref f) ⟨us, []⟩) (fun r s' => match r with | .ok (.ret v) => EP X pins σ Q v s' | .ok _ => False | .error e => X.xe e s') s := by
  refine codeAny_mono (F X.A X.stack s H us vs Q (E σ) hr I.env0 r h) fun r s' hq => ?_
  cases r with
  | error e => exact hx pins H s e s' I hq
  | ok fl =>
    cases fl with
    | ret u => exact I.after hq
    | next => exact False.elim hq
    | brk => exact False.elim hq
    | cont => exact False.elim hq
/-- C.m(..), m a classmethod, by position -/
def tCMethS (C : Addr) (sp : Sp) (E : L2.St → XK) (ta : TE) (t : TA) : TE := fun σ H Q => ta σ H fun x H1 => x = .ref C ∧ t σ H1 fun vs H2 => sp (.ref C :: vs) H2 Q (E σ)
theorem pe_cmethS {C p g : Addr} {mc : Value} {o e : Expr} {es : List Expr} {m : Str} {pos apos : Pos} {ta : TE} {t : TA} {pl : Sem Bool} (he : PE X o ta) (r : ClX.CRead X.K C mc) (c : ClX.CMet X.K C mc m p g) (F : FnR X.prog X.w X.K X.mg X.base CX k g sp) (hr : Room k X.A)
    (hx : ∀ σ, PassesAt CX X σ (E σ)) (ha : PA X (e :: es) t)
    (hst : starEach (e :: es) X.env = (false, eval e X.env) :: starEach es X.env := by rfl) (hpl : (backTo pos (starEach es X.env)).any (·.1) = false := by rfl)
    (ht : eval (.Call (.Attribute o m apos) (e :: es) [] pos) X.env = (do
      let ov ← eval o X.env
      standAt apos.atName
      let (f, first) ← holding [ov] (getMethod ov m pl)
      callWith pos f first (backTo pos (starEach (e :: es) X.env)) (backToKw pos (keywordEach [] X.env))) := by rfl) :
    PE X (.Call (.Attribute o m apos) (e :: es) [] pos) (tCMethS C sp E ta t) := by
  refine ⟨fun pins s σ H Q I h => ?_⟩
  refine PySem.W.methodCall_KW (pl := pl) (thn (he.run pins s σ H _ I h) fun u s1 ⟨x, H1, I1, rx, ex, q⟩ => ?_) ht
  subst ex
  obtain rfl : u = Value.ref C := rx
  refine ClX.getmethcm_ok I1 r c fun s2 I2 => ?_
  refine ClX.callwith_cm I2 (ClX.base_none I1 (Nat.le_refl _)) c.fi (thn (ha.run pos _ s2 σ H1 _ I2 q) fun us s3 ⟨vs, H2, I3, rv, q2⟩ => ⟨⟨ClX.pin_at I3, I3.kIn⟩, ?_⟩) hst hpl
  have z := wpAny_call (PySem.W.method_call (ClX.pin_at I3) (run_fnRS (us := .ref C :: us) (vs := .ref C :: vs) F hr (hx σ) I3 (.cons rfl rv) q2))
  exact thn z fun _ _ y => ClX.unpinE y
/-- how the parameters behind the first one bind, all by name -/
structure KM (K : PySem.W.Frag) (fd : FuncData) (ps ks : List Str) (g : List Value → List Value) (gV : List V → List V) : Prop where
  to : ∀ (s : Shared) (c : Value) (ws : List Value), K.In s.heap → ws.length = ks.length → BindsTo s fd ⟨[c], ks.zip ws⟩ (ps.zip (c :: g ws))
  rel : ∀ {zs : List V} {ws : List Value}, zs.length = ks.length → Vals zs ws → Vals (gV zs) (g ws)
/-- C.m(k = v, ..), m a classmethod -/
def tCMethK (C : Addr) (n : Nat) (sp : Sp) (gV : List V → List V) (E : L2.St → XK) (ta : TE) (tk : TA) : TE := fun σ H Q => ta σ H fun x H1 => x = .ref C ∧ tk σ H1 fun zs H2 => zs.length = n ∧ sp (.ref C :: gV zs) H2 Q (E σ)
theorem pe_cmethK {C p f : Addr} {fd : FuncData} {ps ks : List Str} {g : List Value → List Value} {gV : List V → List V} {mc : Value} {o : Expr} {kws : List Keyword} {m : Str} {pos apos : Pos} {ta : TE} {tk : TA} {pl : Sem Bool}
    (he : PE X o ta) (r : ClX.CRead X.K C mc) (c : ClX.CMet X.K C mc m p f) (F : FnOk X.prog X.w X.K X.mg X.base CX k f fd ps sp) (hb : KM X.K fd ps ks g gV) (hr : Room k X.A)
    (hx : ∀ σ, PassesAt CX X σ (E σ)) (hkw : PK X kws tk)
    (hall : (backToKw pos (keywordEach kws X.env)).all (·.1.isSome) = true := by rfl) (hks : (backToKw pos (keywordEach kws X.env)).filterMap (·.1) = ks := by rfl)
    (hpl : ((backTo pos (starEach [] X.env)).any (·.1) || (backToKw pos (keywordEach kws X.env)).any (·.1.isNone)) = false := by rfl)
    (ht : eval (.Call (.Attribute o m apos) [] kws pos) X.env = (do
      let ov ← eval o X.env
      standAt apos.atName
      let (f, first) ← holding [ov] (getMethod ov m pl)
      callWith pos f first (backTo pos (starEach [] X.env)) (backToKw pos (keywordEach kws X.env))) := by rfl) :
    PE X (.Call (.Attribute o m apos) [] kws pos) (tCMethK C ks.length sp gV E ta tk) := by
  refine ⟨fun pins s σ H Q I h => ?_⟩
  refine PySem.W.methodCall_KW (pl := pl) (thn (he.run pins s σ H _ I h) fun u s1 ⟨x, H1, I1, rx, ex, q⟩ => ?_) ht
  subst ex
  obtain rfl : u = Value.ref C := rx
  refine ClX.getmethcm_ok I1 r c fun s2 I2 => ?_
  refine PySem.W.callWith_of hpl (PySem.W.keeps_M (self := Value.ref C) c.fi) (evalArgs_kw2_nil hall ?_)
  refine thn (hkw.run pos _ s2 σ H1 _ I2 q) fun ws s3 ⟨zs, H2, I3, rz, l2, q2⟩ => ⟨⟨ClX.pin_at I3, I3.kIn⟩, ?_⟩
  rw [hks]
  have r2 : Vals (V.ref C :: gV zs) (Value.ref C :: g ws) := .cons rfl (hb.rel l2 rz)
  have z : wpAny (model X.prog X.w) X.A (call (.ref s1.heap.objs.size) ([] ++ []) (ks.zip ws)) (EP X ((s1.heap.objs.size, PySem.W.methodObj (.ref f) (.ref C)) :: pins) σ Q) X.xe s3 := by
    refine wpAny_call (PySem.W.method_call (ClX.pin_at I3) (codeAny_mono (F.run X.A X.stack s3 H2 ⟨[Value.ref C], ks.zip ws⟩ (Value.ref C :: g ws) (V.ref C :: gV zs) Q (E σ) hr I3.env0 (hb.to s3 _ ws I3.kIn (rz.length.symm.trans l2)) r2 q2) fun r s' hq => ?_))
    cases r with
    | error e => exact hx σ _ H2 s3 e s' I3 hq
    | ok fl =>
      cases fl with
      | ret u => exact I3.after hq
      | next => exact False.elim hq
      | brk => exact False.elim hq
      | cont => exact False.elim hq
  exact thn z fun _ _ y => ClX.unpinE y
/-- C(k = v, ..) -/
def tMakeKS (C : Addr) (n : Nat) (sp : Sp) (gV : List V → List V) (E : L2.St → XK) (tk : TA) : TE := fun σ H Q => tk σ H fun zs H2 => zs.length = n ∧ ∀ x dx, H2 x = none → H2 dx = none → dx ≠ x →
  sp (.ref x :: gV zs) (upd (upd H2 dx (.own x)) x (.ins C dx [])) (fun v H3 => v = .non ∧ Q (.ref x) H3) (E σ)
theorem pe_makeKS {C f : Addr} {fd : FuncData} {ps ks : List Str} {g : List Value → List Value} {gV : List V → List V} {x : Str} {p pos : Pos} {kws : List Keyword} {tk : TA}
    (M : Mk X.K C f) (F : FnOk X.prog X.w X.K X.mg X.base CX k f fd ps sp) (hr : Room (k + 1) X.A) (hg : Gl X x) (hm : X.mg x = some (.ref C)) (hb : KM X.K fd ps ks g gV) (hx : ∀ σ, PassesAt CX X σ (E σ)) (hkw : PK X kws tk)
    (hall : (backToKw pos (keywordEach kws X.env)).all (·.1.isSome) = true := by rfl) (hks : (backToKw pos (keywordEach kws X.env)).filterMap (·.1) = ks := by rfl) (hdb : (x == ("__debug__" : Str)) = false := by decide)
    (hpl : ((backTo pos (starEach [] X.env)).any (·.1) || (backToKw pos (keywordEach kws X.env)).any (·.1.isNone)) = false := by rfl) :
    PE X (.Call (.Name x p) [] kws pos) (tMakeKS C ks.length sp gV E tk) := by
  refine ⟨fun pins s σ H Q I h => ?_⟩
  refine wpAny_Call_Name_kw (ld_glob I hg hm ?_ hdb)
  refine PySem.W.callWith_KW0 (h₀ := X.base) I.ok.mod.kin M.kp hall ?_ hpl
  refine thn (hkw.run pos pins s σ H _ I h) fun ws s2 ⟨zs, H2, I2, rz, l2, q2⟩ => ⟨I2.kIn, ?_⟩
  rw [hks]
  have hq := q2 (s2.heap.objs.size + 1) s2.heap.objs.size (I2.hok.fresh (Nat.le_succ _)) (I2.hok.fresh (Nat.le_refl _)) (Nat.ne_of_lt (Nat.lt_succ_self _))
  have I3 := Inv.made (C := C) I2
  have r2 : Vals (V.ref (s2.heap.objs.size + 1) :: gV zs) (Value.ref (s2.heap.objs.size + 1) :: g ws) := .cons rfl (hb.rel l2 rz)
  refine wpAny_call (make_map (f := f) I2.kIn M.makes M.init (beq_iff_eq.mp M.fn) (codeAny_mono (F.run _ X.stack _ _ ⟨[Value.ref (s2.heap.objs.size + 1)], ks.zip ws⟩ (Value.ref (s2.heap.objs.size + 1) :: g ws) _ _ (E σ) (hr.make C [] (ks.zip ws))
    (I3.env0.make C [] (ks.zip ws)) (hb.to _ _ ws I3.kIn (rz.length.symm.trans l2)) r2 hq) fun r s' hq' => ?_))
  cases r with
  | error e => exact hx σ pins _ _ e s' I3 hq'
  | ok fl =>
    cases fl with
    | ret u =>
      obtain ⟨v, H', I4, rv, ev, q3⟩ := I3.after hq'
      subst ev
      exact ⟨rv, ⟨V.ref (s2.heap.objs.size + 1), H', I4, rfl, q3⟩⟩
    | next => exact False.elim hq'
    | brk => exact False.elim hq'
    | cont => exact False.elim hq'
end
end Pk

/-! ## Own exceptions: their facts in one answer; isinstance of a kept one; lists of the same things -/
namespace PySem.W
open PySem PySem.Spec PySem.Calls PyProof.Rows
section
variable {prog : Program} {w : World} {A : Around} {E : Value → Shared → Prop} {s : Shared} {K : Frag} {x D : Addr} {ox od : Obj}
theorem pk_classE {Q : Option Value → Shared → Prop} (hga : findIn K (.ref D) "__getattribute__" = some (some (.builtin "BaseException.__getattribute__"))) (hgt : findIn K (.ref D) "__getattr__" = some none) (hsub : subIn K (.ref D) (.type "BaseException") = some true)
    (hdct : hasDictIn K D = true) (ha : findIn K (.ref D) "__class__" = some (some (.builtin "object.__class__")))
    (hn : specialIn K (.builtin "object.__class__") "__get__" = some (some (.builtin "getset_descriptor.__get__"))) (htk : takesIn K (.builtin "object.__class__") = some true) (hm : mroIn K D (.type "object") = some true)
    (X : K.In s.heap) (I : InstAt s.heap x ox D (some od)) (h : Q (some (.ref D)) { s with toks := s.toks + 1 }) : wpAny (model prog w) A (getAttr? (.ref x) "__class__") Q E s := by
  have hf : findObj K D (some od) "__class__" = some (.bind (.builtin "getset_descriptor.__get__") (.builtin "object.__class__")) := findObj_data (by obtain ⟨cd, hc, _⟩ := any_some hdct; rw [hc]; rfl) ha hn htk
  obtain ⟨hp, g, d, t, os⟩ := s
  have L0 := I.type (M := model prog w)
  have L1 := looks_findIn (M := model prog w) X hga
  have L2 := looks_findIn (M := model prog w) X hgt
  have L3 := looks_find (M := model prog w) X I hf
  have sub : Looks (model prog w) hp (isInstance (.ref x) (.type "BaseException")) true := L0.andThen (looks_subIn X hsub)
  have hx0 : (false && onTheHeap (Value.builtin "BaseException.__getattribute__")) = false := rfl
  have hx2 : (Value.builtin "BaseException.__getattribute__" == Value.builtin "object.__getattribute__") = false := by decide +kernel
  have hx1 : (onTheHeap (Value.ref D) && Value.builtin "BaseException.__getattribute__" == Value.builtin "object.__getattribute__") = false := by rw [hx2]; rfl
  unfold getAttr? getAttrBy? getAttrBy
  refine wpAny_bind (wpAny_mkText (wpAny_bind (wpAny_attempt (wpAny_holding (wpAny_bind (L0.at (wpAny_bind (L1.at ?_))))))))
  show wpAny _ _ (if (onTheHeap (Value.ref D) && Value.builtin "BaseException.__getattribute__" == Value.builtin "object.__getattribute__") = true then _ else _) _ _ _
  rw [hx1, if_neg Bool.false_ne_true]
  unfold getAttrByItsOwn hookBefore
  refine wpAny_bind ?_
  rw [if_pos (show onTheHeap (Value.ref D) = true from rfl)]
  refine L2.at ?_
  refine wpAny_bind (wpAny_attempt (wpAny_holding ?_))
  unfold callGetattribute
  rw [hx0, if_neg Bool.false_ne_true]
  unfold boundAndCalled
  rw [PySem.F.excAttr_ValueError.ga.bind (.ref x)]
  refine wpAny_bind (wpAny_pure ?_)
  show wpAny _ _ (call (.builtin "BaseException.__getattribute__") [.ref x, .str "__class__" t]) _ _ _
  refine wpAny_call (codeAny_call_builtin PySem.F.excAttr_ValueError.ga.plain PySem.F.entry_bexc_ga ?_)
  refine @check_slot (model prog w) _ _ ⟨hp, g, d, t + 1, os⟩ "BaseException.__getattribute__" "BaseException" "__getattribute__" (.ref x) [.str "__class__" t] [] _ (by decide +kernel) (by decide +kernel) sub (PySem.F.args_bexc_ga (.ref x) (.str "__class__" t)) ?_
  unfold Builtin.«object.__getattribute__»
  refine wpAny_bind (wpAny_of_eq (a := ((Value.ref x : Value), [Value.str "__class__" t])) (by first | rfl | (simp only [slotArgs]; rfl)) ?_)
  refine wpAny_bind (wpAny_pure (wpAny_bind (L0.at (wpAny_bind (L3.at ?_)))))
  show wpAny _ _ (holding [Value.builtin "object.__class__"] (call (.builtin "getset_descriptor.__get__") [.builtin "object.__class__", .ref x, .ref D]) >>= ret) _ _ _
  refine wpAny_bind (wpAny_holding (wpAny_call (class_get (s := ⟨hp, g, d, t + 1, os⟩) (ox := ox) (od := some od) X I hm ?_)))
  refine wpAny_pure ?_
  show wpAny _ _ (handedOut (.ref D)) _ _ _
  rw [handedOut_of (v := .ref D) rfl]
  first
    | exact wpAny_pure (wpAny_pure h)
    | exact wpAny_pure h
    | exact wpAny_pure (wpAny_bind (wpAny_pure (wpAny_pure h)))
theorem pk_kitxE (hga : findIn K (.ref D) "__getattribute__" = some (some (.builtin "BaseException.__getattribute__"))) (hgt : findIn K (.ref D) "__getattr__" = some none) (hsub : subIn K (.ref D) (.type "BaseException") = some true) (hdct : hasDictIn K D = true) (ha : findIn K (.ref D) "__class__" = some (some (.builtin "object.__class__")))
    (hn : specialIn K (.builtin "object.__class__") "__get__" = some (some (.builtin "getset_descriptor.__get__"))) (htk : takesIn K (.builtin "object.__class__") = some true) (hm : mroIn K D (.type "object") = some true) :
    KitX K (.ref x) (.ref D) (fun h => InstAt h x ox D (some od)) where
  ty := fun _ _ _ I => I.type
  it := fun _ _ X _ => by
    obtain ⟨cdD, hcD, _⟩ := any_some hdct
    unfold clsIn at hcD
    split at hcD
    · rename_i c' d' cd' sl' ho
      intro A' Q' E' s' k q
      unfold isType loadHead
      exact wpAny_bind (wpAny_loadPart (k _ _ (X _ _ ho)) (wpAny_pure q))
    · cases hcD
  ne := fun h tp dd its n sl X htp => by
    obtain ⟨cdD, hcD, _⟩ := any_some hdct
    refine Bool.eq_false_iff.mpr fun q => ?_
    have e : D = tp := Value.ref.inj (beq_iff_eq.mp q)
    subst e
    unfold clsIn at hcD
    split at hcD
    · rename_i c' d' cd' sl' ho
      have z := (X _ _ ho).symm.trans htp
      cases z
    · cases hcD
  ca := fun X I k => pk_classE hga hgt hsub hdct ha hn htk hm X I k
end
end PySem.W
namespace Pk
open PySem PySem.Spec PyProof.Rows L2
/-- the class object, as OexC asks it -/
def oexB (K : PySem.W.Frag) (C : Addr) : Bool := match K.lookup C with
  | some ⟨.type "type", _, .cls cd, sl⟩ => (match cd.mro, sl.toList with
    | .ref C' :: bm, [_, _, _, _, some (.builtin n), _] => C' == C && n == "ValueError.__new__" && cd.hasDict && !cd.hasDel && PySem.HandSPX.refsVE bm
    | _, _ => false)
  | _ => false
theorem oexB_ok {K : PySem.W.Frag} {C : Addr} (q : oexB K C = true) :
    ∃ nm qn N bs bm sn sub ab col dd k0 k1 k2 k3 k5, K.lookup C = some (excClassObj nm qn C N bs bm true sn sub ab col dd k0 k1 k2 k3 k5 "ValueError.__new__") ∧ PySem.HandSPX.refsVE bm = true := by
  unfold oexB at q
  split at q
  · rename_i dd cd sl ho
    split at q
    · rename_i C' bm k0 k1 k2 k3 n k5 hm hs
      simp only [Bool.and_eq_true, beq_iff_eq, Bool.not_eq_true'] at q
      obtain ⟨⟨⟨⟨rfl, rfl⟩, hd⟩, hdel⟩, hr⟩ := q
      obtain ⟨nm, bs, mro, ns, qn, hd', sn, sub, ab, col, del⟩ := cd
      dsimp only at hm hdel hd
      subst hm hdel hd
      have hsl : sl = #[k0, k1, k2, k3, some (.builtin "ValueError.__new__"), k5] := by
        obtain ⟨l⟩ := sl
        simp only at hs
        rw [hs]
      subst hsl
      exact ⟨nm, qn, ns, bs, bm, sn, sub, ab, col, dd, k0, k1, k2, k3, k5, ho, hr⟩
    · cases q
  · cases q
/-- a raised own exception class -/
structure ExA (K : PySem.W.Frag) (C : Addr) : Prop where
  o : OexC K C
  x : XfC K C
  e : ExcC K C
def exaB (K : PySem.W.Frag) (C : Addr) : Bool := oexB K C && (decide (PySem.W.findIn K (.ref C) "__setattr__" = some (some (.builtin "object.__setattr__"))) && (decide (PySem.W.typeIn K (.ref C) = some (.type "type")) && (PySem.W.keepIn K (.ref C) && (xfB K C &&
  (decide (PySem.W.findIn K (.ref C) "__class__" = some (some (.builtin "object.__class__"))) && (decide (PySem.W.specialIn K (.builtin "object.__class__") "__get__" = some (some (.builtin "getset_descriptor.__get__"))) &&
  (decide (PySem.W.takesIn K (.builtin "object.__class__") = some true) && decide (PySem.W.mroIn K C (.type "object") = some true))))))))
theorem exaB_ok {K : PySem.W.Frag} {C : Addr} (h : exaB K C = true) : ExA K C := by
  obtain ⟨h1, h⟩ := Bool.and_eq_true_iff.mp h
  obtain ⟨h2, h⟩ := Bool.and_eq_true_iff.mp h
  obtain ⟨h3, h⟩ := Bool.and_eq_true_iff.mp h
  obtain ⟨h4, h⟩ := Bool.and_eq_true_iff.mp h
  obtain ⟨h5, h⟩ := Bool.and_eq_true_iff.mp h
  obtain ⟨h6, h⟩ := Bool.and_eq_true_iff.mp h
  obtain ⟨h7, h⟩ := Bool.and_eq_true_iff.mp h
  obtain ⟨h8, h9⟩ := Bool.and_eq_true_iff.mp h
  have x := xfB_ok h5
  exact ⟨⟨oexB_ok h1, of_decide_eq_true h2, x.exC, of_decide_eq_true h3, h4⟩, x, ⟨x.ga, x.gg, x.exC, x.hdC, of_decide_eq_true h6, of_decide_eq_true h7, of_decide_eq_true h8, of_decide_eq_true h9⟩⟩
/-- a class that a clause or isinstance names -/
structure NmC (K : PySem.W.Frag) (C : Addr) : Prop where
  be : PySem.W.subIn K (.ref C) (.type "BaseException") = some true
  hd : PySem.W.hasDictIn K C = true
  ty : PySem.W.typeIn K (.ref C) = some (.type "type")
  se : PySem.W.subIn K (.ref C) (.ref C) = some true
def nmB (K : PySem.W.Frag) (C : Addr) : Bool := decide (PySem.W.subIn K (.ref C) (.type "BaseException") = some true) && (PySem.W.hasDictIn K C && (decide (PySem.W.typeIn K (.ref C) = some (.type "type")) && decide (PySem.W.subIn K (.ref C) (.ref C) = some true)))
theorem nmB_ok {K : PySem.W.Frag} {C : Addr} (h : nmB K C = true) : NmC K C := by
  obtain ⟨h1, h⟩ := Bool.and_eq_true_iff.mp h
  obtain ⟨h2, h⟩ := Bool.and_eq_true_iff.mp h
  obtain ⟨h3, h4⟩ := Bool.and_eq_true_iff.mp h
  exact ⟨of_decide_eq_true h1, h2, of_decide_eq_true h3, of_decide_eq_true h4⟩
theorem exm_sub {K : PySem.W.Frag} {C : Addr} {t : Value} {b : Bool} (N : NmC K C) (h : PySem.W.subIn K t (.ref C) = some b) : PySem.W.exmOne K t (.ref C) = some b := PySem.W.exm_ref N.be N.hd N.ty h
theorem exm_any3 {K : PySem.W.Frag} {t c1 c2 c3 : Value} {b1 b2 b3 : Bool} (h1 : PySem.W.exmOne K t c1 = some b1) (h2 : PySem.W.exmOne K t c2 = some b2) (h3 : PySem.W.exmOne K t c3 = some b3) : PySem.W.exmAny K t [c1, c2, c3] = some (b1 || (b2 || (b3 || false))) := by
  unfold PySem.W.exmAny PySem.W.exmAny PySem.W.exmAny PySem.W.exmAny
  rw [h1, h2, h3]
theorem kit_sub {K : PySem.W.Frag} {C D : Addr} {b : Bool} (N : NmC K C) (h : PySem.W.subIn K (.ref D) (.ref C) = some b) : PySem.W.kitOne K (.ref D) (.ref C) = some b := by
  unfold PySem.W.kitOne
  by_cases e : D = C
  · subst e
    rw [if_pos (by simp)]
    rw [N.se] at h
    exact h
  · rw [if_neg (by simp [e])]
    obtain ⟨cd, hc, _⟩ := PySem.W.any_some N.hd
    have e2 : ((PySem.W.clsIn K C).isSome && PySem.W.typeIn K (.ref C) == some (.type "type")) = true := by rw [hc, N.ty] <;> rfl
    show (if ((PySem.W.clsIn K C).isSome && PySem.W.typeIn K (.ref C) == some (.type "type")) = true then PySem.W.subIn K (.ref D) (.ref C) else none) = some b
    rw [if_pos e2]
    exact h
/-- isinstance(e, C), e a kept exception -/
def rIsEV (K : PySem.W.Frag) : List V → Hp → VK → Prop := fun xs H Q => ∃ (a D dd : Addr) (fs : List (Str × V)) (c : V) (cv : Value) (b : Bool), xs = [.ref a, c] ∧ ExcC K D ∧ H a = some (ExK (.ref D) (some dd) a) ∧ H dd = some (.xd fs) ∧ (∀ u, RelV c u → u = cv) ∧ PySem.W.kitOne K (.ref D) cv = some b ∧ Q (.bl b) H
theorem call_isEV {X : Cx} : CallR X (.builtin "isinstance") (rIsEV X.K) := by
  intro pins s σ H xs us Q I r h
  obtain ⟨a, D, dd, fs, c, cv, b, rfl, C, hx, hd, hcv, e, q⟩ := h
  obtain ⟨u1, u2, rfl, r1, r2⟩ := vals2 r
  obtain rfl : u1 = Value.ref a := r1
  have ec := hcv _ r2
  subst ec
  obtain ⟨oe, vs, there, hz, hf⟩ := exK_at I.hok hx
  obtain ⟨mA, hns, _⟩ : ObjOk X.prog X.w H s.heap dd (.xd fs) := I.hok dd _ hd
  obtain ⟨od, ho, _⟩ := lookIn_ns hns
  have J : PySem.W.InstAt s.heap a oe D (some od) := ⟨there, hz.1, by unfold PySem.W.notCls; rw [hf] <;> rfl, by rw [hz.2]; exact ho⟩
  exact PySem.W.kia_one (PySem.W.pk_kitxE C.hg C.hk C.hs C.hd C.ha C.hn C.ht C.hm) I.kIn J e (fun z => nomatch z) fun tk => ⟨.bl b, H, I.kept (t' := tk) fun _ _ z => z, rfl, q⟩
/-- lists of the same things: each pair one plain value, or one object -/
def SameV (x y : V) : Prop := x = y ∧ (flatB x = true ∨ ∃ a, x = .ref a)
def rNeSm (K : PySem.W.Frag) : R2 := fun x y H Q => ∃ a b xs, x = .ref a ∧ y = .ref b ∧ SqL K H a xs ∧ SqL K H b xs ∧ (∀ v ∈ xs, flatB v = true ∨ ∃ p, v = .ref p) ∧ Q (.bl false) H
theorem sm_run {A : Around} {s : Shared} : ∀ {xs : List V} {us ws : List Value}, (∀ v ∈ xs, flatB v = true ∨ ∃ p, v = .ref p) → Vals xs us → Vals xs ws → ∀ j (h1 : j < us.length) (h2 : j < ws.length), SeqAt.EqAt A s us[j] ws[j] true
  | [], _, _, _, r1, _, j, h1, _ => by
    cases r1
    exact absurd h1 (Nat.not_lt_zero j)
  | x :: xs, _, _, hx, .cons a1 b1, .cons a2 b2, j, h1, h2 => by
    cases j with
    | zero =>
      rcases hx x List.mem_cons_self with f | ⟨p, rfl⟩
      · exact eqAt_same a1 a2 f
      · cases (show _ = Value.ref p from a1)
        cases (show _ = Value.ref p from a2)
        exact SeqAt.EqAt.same _
    | succ j => exact sm_run (fun v hv => hx v (List.mem_cons_of_mem _ hv)) b1 b2 j (Nat.lt_of_succ_lt_succ h1) (Nat.lt_of_succ_lt_succ h2)
theorem op_neSm {X : Cx} (hu : X.A.units + 64 < cLine) : OpR X (compareOp .NotEq) (rNeSm X.K) := by
  intro pins s σ H x y v u Q I rx ry h
  obtain ⟨a, b, xs, rfl, rfl, ha, hb, hp, q⟩ := h
  cases (show v = Value.ref a from rx)
  cases (show u = Value.ref b from ry)
  obtain ⟨us, r1, p1, _⟩ := I.list ha
  obtain ⟨ws, r2, p2, _⟩ := I.list hb
  have hsz : us.toArray.size = ws.toArray.size := by
    rw [List.size_toArray, List.size_toArray, ← r1.length, ← r2.length]
  refine SeqAt.RcNeAt.lists (e := fun _ => true) p1.isList p2.isList hsz (by omega) (fun j h1 h2 => ?_) X.prog X.w _ _ ?_
  · have k := sm_run (A := X.A.in1) (s := s) hp r1 r2 j (by simpa using h1) (by simpa using h2)
    simpa using k
  · rw [show ((List.range us.toArray.size).all fun _ => true) = true from List.all_eq_true.mpr fun _ _ => rfl]
    exact ⟨.bl false, H, I, rfl, q⟩
end Pk

/-! ## More rules: a classmethod without arguments, texts times numbers, repr of a list with an empty dict, find -/
namespace Pk
open PySem PySem.Spec PyProof.Rows L2 TL SX
section
variable {X : Cx} {CX : CXT} {k : Nat} {E : L2.St → XK} {sp : Sp}
/-- C.m(), m a classmethod -/
theorem pe_cmeth0S {C p g : Addr} {mc : Value} {o : Expr} {m : Str} {pos apos : Pos} {ta : TE} {pl : Sem Bool} (he : PE X o ta) (r : ClX.CRead X.K C mc) (c : ClX.CMet X.K C mc m p g) (F : FnR X.prog X.w X.K X.mg X.base CX k g sp) (hr : Room k X.A)
    (hx : ∀ σ, PassesAt CX X σ (E σ))
    (ht : eval (.Call (.Attribute o m apos) [] [] pos) X.env = (do
      let ov ← eval o X.env
      standAt apos.atName
      let (f, first) ← holding [ov] (getMethod ov m pl)
      callWith pos f first (backTo pos (starEach [] X.env)) (backToKw pos (keywordEach [] X.env))) := by rfl) :
    PE X (.Call (.Attribute o m apos) [] [] pos) (tCMethS C sp E ta tNil) := by
  refine ⟨fun pins s σ H Q I h => ?_⟩
  refine PySem.W.methodCall_KW (pl := pl) (thn (he.run pins s σ H _ I h) fun u s1 ⟨x, H1, I1, rx, ex, q⟩ => ?_) ht
  subst ex
  obtain rfl : u = Value.ref C := rx
  refine ClX.getmethcm_ok I1 r c fun s2 I2 => ?_
  refine PySem.W.callWith_M0 (K := X.K) (self := Value.ref C) (g := g) ⟨ClX.pin_at I2, I2.kIn⟩ c.fi ?_
  have z := wpAny_call (PySem.W.method_call (ClX.pin_at I2) (run_fnRS (us := [Value.ref C]) (vs := [V.ref C]) F hr (hx σ) I2 (.cons rfl .nil) q))
  exact thn z fun _ _ y => ClX.unpinE y
end
/-! ### a text times a number -/
theorem fold_reps (a : Array Nat) : ∀ (n : Nat) (b : Array Nat), ((List.replicate n a).foldl (· ++ ·) b).toList = b.toList ++ (List.replicate n a.toList).flatten
  | 0, b => by simp
  | n + 1, b => by
    rw [List.replicate_succ, List.foldl_cons, fold_reps a n, List.replicate_succ, List.flatten_cons, Array.toList_append, List.append_assoc]
theorem len_reps (l : List Nat) : ∀ n, (List.replicate n l).flatten.length = l.length * n
  | 0 => by simp
  | n + 1 => by
    rw [List.replicate_succ, List.flatten_cons, List.length_append, len_reps l n, Nat.mul_succ]
    omega
def rMulS : R2 := fun x y H Q => ∃ (l : List Nat) (n : Nat), x = .str (S l) ∧ y = .int (n : Int) ∧ l ≠ [] ∧ 2 ≤ n ∧ l.length * n ≤ 100000 ∧ Q (.str (S (List.replicate n l).flatten)) H
theorem op_mulS {X : Cx} : OpR X (binaryOp .Mult) rMulS := by
  intro pins s σ H x y v u Q I rx ry h
  obtain ⟨l, n, rfl, rfl, hne, h2, hz, q⟩ := h
  obtain ⟨t, rfl⟩ := rx
  obtain ⟨t', rfl⟩ := ry
  have hl : (S l).length = l.length := S_len l
  have hn : n ≤ 100000 := Nat.le_trans (Nat.le_mul_of_pos_left n (List.length_pos_iff.mpr hne)) hz
  have h0 : ((n : Int) == 1 || (S l).length == 0) = false := by
    have h1 : l.length ≠ 0 := fun e => hne (List.length_eq_zero_iff.mp e)
    rw [hl]
    rw [Bool.or_eq_false_iff]
    exact ⟨beq_eq_false_iff_ne.mpr (by omega), beq_eq_false_iff_ne.mpr h1⟩
  have et : (⟨(List.replicate ((n : Int)).toNat (S l).cps).foldl (· ++ ·) #[]⟩ : Str) = S (List.replicate n l).flatten := by
    refine ext_tl ?_
    show ((List.replicate ((n : Int)).toNat (S l).cps).foldl (· ++ ·) #[]).toList = (S (List.replicate n l).flatten).cps.toList
    rw [fold_reps, Int.toNat_natCast]
    show [] ++ (List.replicate n (S l).cps.toList).flatten = _
    rw [List.nil_append]
  have hz2 : l.length * n ≤ sizeLine := by
    rw [sizeLine_eq]
    omega
  refine PySem.P.mul_str (x := S l) (n := (n : Int)) ?_ ?_ ?_ ?_
  · rw [Bool.or_eq_false_iff]
    exact ⟨decide_eq_false (by omega), decide_eq_false (by omega)⟩
  · intro _ _
    rw [hl]
    have h1 : l.length ≤ 100000 := Nat.le_trans (Nat.le_mul_of_pos_right _ (by omega)) hz
    have : (2 ^ 63 - 1 : Int) / (n : Int) ≥ 100000 := by
      refine (Int.le_ediv_iff_mul_le (by omega)).mpr ?_
      omega
    omega
  · intro _ _
    rw [hl, Int.toNat_natCast]
    show decide (l.length * n > sizeLine) = false
    exact decide_eq_false (by omega)
  · rw [if_neg (by omega), if_neg (by rw [h0]; exact Bool.false_ne_true), et]
    have hlen : (S (List.replicate n l).flatten).length ≤ sizeLine := by
      rw [S_len, len_reps]
      exact hz2
    exact ⟨hlen, ⟨.str _, H, I.tok _, ⟨_, rfl⟩, q⟩⟩
/-! ### repr of a list of a text and an empty dict -/
def rReprD : List V → Hp → VK → Prop := fun xs H Q => ∃ (a dd : Addr), xs = [.ref a] ∧ a ≠ sysModules ∧ H a = some (.lst [.str "version", .ref dd]) ∧ H dd = some (.dK []) ∧ Q (.str (PyData.shown (.list [.str "version", .dict []]))) H
theorem call_reprD {X : Cx} (hgu : X.A.guards = some []) (hu : X.A.units + 64 < cLine) : CallR X (.builtin "repr") rReprD := by
  intro pins s σ H xs us Q I r h
  obtain ⟨a, dd, rfl, na, ha, hd, q⟩ := h
  obtain ⟨u, rfl, rx⟩ := vals1 r
  obtain rfl : u = Value.ref a := rx
  obtain ⟨us, rv, ⟨o, n, ho, hc, _, hdt⟩, _⟩ := I.list (.inl (.inl ha))
  obtain ⟨hz, hS, vs, r, m⟩ : ([] : List (Key × V)).length ≤ sizeLine ∧ (dd == sysModules) = false ∧ ∃ vs, KV [] vs ∧ s.heap.DictOf (mixKind X.prog X.w) dd vs := I.hok dd _ hd
  cases r
  obtain ⟨o2, es, ep, ho2, hx, hd2, _, hp, _⟩ := m
  have he : es.toList = [] := by
    cases h : es.toList with
    | nil => rfl
    | cons e r =>
      rw [h] at hp
      cases hp
  cases rv with
  | cons r1 rr =>
    cases rr with
    | cons r2 rr =>
      cases rr
      obtain ⟨tk, rfl⟩ := r1
      have r2' : _ = Value.ref dd := r2
      subst r2'
      have rd : Reads s.heap (.ref dd) (.dict []) _ := Reads.dict ho2 hx.1 hd2 (by rw [he]; exact ReadsAll.nil) (by rw [he]; exact ReadsAll.nil)
      have rl := Reads.list ho hc hdt (ReadsAll.cons (Reads.str _ tk) (ReadsAll.cons rd ReadsAll.nil))
      refine repr_of_reads' (h₀ := s.heap) rl (by decide +kernel) (fun _ => ?_) hgu (by show X.A.units + (2 + 1) < cLine; omega) (fun _ _ e => e) (fun h' v tk hk => ⟨.str _, H, I.kept hk, ⟨v, rfl⟩, q⟩) (by decide +kernel)
      have nd : dd ≠ sysModules := by
        rintro rfl
        simp at hS
      simp [Ne.symm na, Ne.symm nd]
/-- either rule -/
theorem callR_or {X : Cx} {f : Value} {r1 r2 : List V → Hp → VK → Prop} (h1 : CallR X f r1) (h2 : CallR X f r2) : CallR X f (fun xs H Q => r1 xs H Q ∨ r2 xs H Q) := by
  intro pins s σ H xs us Q I r h
  rcases h with h | h
  · exact h1 pins s σ H xs us Q I r h
  · exact h2 pins s σ H xs us Q I r h
/-- a list whose place is none of the first ones -/
def tLstN (t : TA) : TE := fun σ H Q => t σ H fun xs H1 => xs.length ≤ sizeLine ∧ ∀ p, H1 p = none → p ≠ sysModules → Q (.ref p) (upd H1 p (.lst xs))
theorem pe_lstN {X : Cx} {es : List Expr} {pos : Pos} {t : TA} (h : PA X es t) : PE X (.List es pos) (tLstN t) := by
  refine ⟨fun pins s σ H Q I hq => ?_⟩
  refine wpAny_List_spliced (thn (h.run pos pins s σ H _ I hq) fun us s1 ⟨xs, H1, I1, r, z, q⟩ => ⟨by rw [← r.length]; exact z, ?_⟩)
  have hf : H1 s1.heap.objs.size = none := I1.hok.fresh (Nat.le_refl _)
  have hb : s1.heap.objs.size ≠ sysModules := by
    have lt : mainGlobals < s1.heap.objs.size := by
      obtain ⟨o, es, ep, e, _⟩ := I1.ok.mod.glob
      exact Heap.lt_size (I1.bk _ _ e)
    intro e
    rw [e] at lt
    exact absurd lt (by decide)
  refine ⟨.ref s1.heap.objs.size, upd H1 s1.heap.objs.size (.lst xs), I1.laid (t' := s1.toks) (fun b u e => Heap.get?_push_of_some _ e) (Nat.le_refl _) ?_, rfl, q _ hf hb⟩
  exact ⟨z, us, 0, r, Heap.get?_push_size _ rfl⟩
/-! ### find -/
theorem find_par (x y : Str) (hy : tl y ≠ []) : (∃ p q, par (tl y) [] (tl x) = some (p, q) ∧ Txt.find x y = (p.length : Int) ∧ tl x = p ++ (tl y ++ q)) ∨ (par (tl y) [] (tl x) = none ∧ Txt.find x y = -1) := by
  have hl := len_tl y
  have hx := len_tl x
  unfold Txt.find
  rcases StrLaws.occ_head x y 1 (Nat.le_refl 1) with ⟨e, hn⟩ | ⟨i, r, e, hi, hn⟩
  · have run := par_run (tl y) (tl x) (tl x).length 0 [] (by omega) (fun k _ _ => no_at hy (hn k))
    rw [List.drop_zero, Nat.zero_add, List.drop_length] at run
    rw [e, run]
    exact .inr ⟨rfl, rfl⟩
  · have hb : i + y.length ≤ x.length := hi.1
    have run := par_run (tl y) (tl x) i 0 [] (by omega) (fun k _ k2 => no_at hy (hn k (by omega)))
    rw [List.drop_zero, Nat.zero_add, List.nil_append, par_at hy ((at_iff hy i).mp hi)] at run
    rw [e, run]
    refine .inl ⟨_, _, rfl, ?_, ?_⟩
    · show (i : Int) = _
      rw [List.length_take]
      omega
    · have hp := (at_iff hy i).mp hi
      have e3 : ((tl x).drop i).take (tl y).length = tl y := by
        unfold pre at hp
        simpa using hp
      conv => lhs; rw [← List.take_append_drop i (tl x), ← List.take_append_drop (tl y).length ((tl x).drop i), e3, List.drop_drop]
/-! ### a list compared with the empty one -/
def rEqNil (K : PySem.W.Frag) : R2 := fun x y H Q => ∃ a b xs, x = .ref a ∧ y = .ref b ∧ SqL K H a xs ∧ SqL K H b [] ∧ Q (.bl xs.isEmpty) H
def rNeNil (K : PySem.W.Frag) : R2 := fun x y H Q => ∃ a b xs, x = .ref a ∧ y = .ref b ∧ SqL K H a xs ∧ SqL K H b [] ∧ Q (.bl (!xs.isEmpty)) H
theorem op_neNil {X : Cx} (hu : X.A.units + 64 < cLine) : OpR X (compareOp .NotEq) (rNeNil X.K) := by
  intro pins s σ H x y v u Q I rx ry h
  obtain ⟨a, b, xs, rfl, rfl, ha, hb, q⟩ := h
  cases (show v = Value.ref a from rx)
  cases (show u = Value.ref b from ry)
  obtain ⟨us, r1, p1, _⟩ := I.list ha
  obtain ⟨ws, r2, p2, _⟩ := I.list hb
  cases r2
  cases xs with
  | nil =>
    cases r1
    refine SeqAt.RcNeAt.lists (e := fun _ => true) p1.isList p2.isList rfl (by omega) (fun j h1 _ => absurd h1 (by simp)) X.prog X.w _ _ ?_
    exact ⟨.bl false, H, I, rfl, q⟩
  | cons x xs =>
    cases r1 with
    | cons ra rb => exact SeqAt.RcNeAt.lists_lengths p1.isList p2.isList (by simp [bne]) (by omega) X.prog X.w _ _ ⟨.bl true, H, I, rfl, q⟩
theorem op_eqNil {X : Cx} (hu : X.A.units + 64 < cLine) : OpR X (compareOp .Eq) (rEqNil X.K) := by
  intro pins s σ H x y v u Q I rx ry h
  obtain ⟨a, b, xs, rfl, rfl, ha, hb, q⟩ := h
  cases (show v = Value.ref a from rx)
  cases (show u = Value.ref b from ry)
  obtain ⟨us, r1, p1, _⟩ := I.list ha
  obtain ⟨ws, r2, p2, _⟩ := I.list hb
  cases r2
  cases xs with
  | nil =>
    cases r1
    refine SeqAt.RcAt.lists (e := fun _ => true) p1.isList p2.isList rfl (by omega) (fun j h1 _ => absurd h1 (by simp)) X.prog X.w _ _ ?_
    exact ⟨.bl true, H, I, rfl, q⟩
  | cons x xs =>
    cases r1 with
    | cons ra rb => exact SeqAt.RcAt.lists_lengths p1.isList p2.isList (by simp [bne]) (by omega) X.prog X.w _ _ ⟨.bl false, H, I, rfl, q⟩
end Pk

/-! ## != of an instance with an own ==, by the default __ne__ -/
namespace Pk
open PySem PySem.Spec PyProof.Rows L2 PySem.SeqAt
section
variable {M : Model} {prog : Program} {w : World} {A : Around} {E : Value → Shared → Prop} {s : Shared} {K : PySem.W.Frag} {x C L g : Addr} {ox : Obj} {od : Option Obj} {b : Value} {h₀ : Heap} {m : Str → Option Value}
theorem ifBound_objNe {args : List Value} {Q : Option Value → Shared → Prop} (X : K.In s.heap) (I : PySem.W.InstAt s.heap x ox C od) (hs : PySem.W.findIn K (.ref C) "__ne__" = some (some (.builtin "object.__ne__")))
    (h : wpAny M A (call (.builtin "object.__ne__") (.ref x :: args)) (fun v => Q (some v)) E s) : wpAny M A (callSpecialIfBound? (.ref x) "__ne__" args) Q E s := by
  simp only [callSpecialIfBound?, bindSpecialIfBound?]
  refine wpAny_holding (wpAny_bind (wpAny_bind (wpAny_bind (I.type.here ((PySem.W.looks_findIn X hs).here ?_)))))
  refine wpAny_bind (wpAny_askSetting (wpAny_ite ?_))
  have fin : wpAny M A (call (.builtin "object.__ne__") ([.ref x] ++ args) >>= fun v => pure (some v)) Q E s := wpAny_bind (wpAny_mono h (fun v s' h' => wpAny_pure h') fun _ _ h' => h')
  split
  · exact wpAny_bind (wpAny_of_eq (F.cmp_object.ne.bind _) (wpAny_pure (by exact fin)))
  · exact wpAny_tryCatch (wpAny_bind (wpAny_of_eq (F.cmp_object.ne.bind _) (wpAny_pure (by exact fin))))
theorem call_objNe {Q : Value → Shared → Prop} (hu : A.in1.units < cLine) (X : K.In s.heap) (I : PySem.W.InstAt s.heap x ox C od) (hm : PySem.W.mroIn K C (.type "object") = some true)
    (hs : PySem.W.findIn K (.ref C) "__eq__" = some (some (.ref g))) (hf : PySem.W.isFn K (.ref g) = true)
    (h : wpAny (model prog w) A.in1 (call (.ref g) [.ref x, b]) (fun v s' => ∃ c, v = .bool c ∧ Q (.bool (!c)) s') E s) :
    wpAny (model prog w) A (call (.builtin "object.__ne__") [.ref x, b]) Q E s := by
  refine wpAny_call (codeAny_call_builtin F.cmp_object.ne.plain F.cmpEntry_ne (PySem.W.check_slot F.cmpKind_ne F.cmpSplit_ne (I.type.andThen (PySem.W.looks_mroIn X hm)) (F.cmpArgs_ne _ _) ?_))
  unfold Builtin.«object.__ne__»
  refine wpAny_bind (wpAny_pure ?_)
  refine wpAny_bind (m := cRoomFor _ _) (wpAny_cRoomFor hu ?_)
  refine wpAny_bind (m := callSpecialIfBound? (.ref x) (Str.ofString "__eq__") _) (PySem.W.ifBound_K X I hs hf (wpAny_mono h (fun r s' hr => ?_) fun _ _ e => e))
  obtain ⟨c, rfl, hq⟩ := hr
  refine wpAny_bind (m := truthy (.bool c)) (wpAny_truthy_bool ?_)
  exact wpAny_pure hq
theorem cmp_ne {Q : Value → Shared → Prop} (hu : A.units < cLine) (hu1 : A.in1.units < cLine) (X : K.In s.heap) (I : PySem.W.InstAt s.heap x ox C od) (hb : PySem.W.Looks (model prog w) s.heap (typeOf b) (.ref C))
    (hn : PySem.W.findIn K (.ref C) "__ne__" = some (some (.builtin "object.__ne__"))) (hm : PySem.W.mroIn K C (.type "object") = some true)
    (hs : PySem.W.findIn K (.ref C) "__eq__" = some (some (.ref g))) (hf : PySem.W.isFn K (.ref g) = true)
    (h : wpAny (model prog w) A.in1 (call (.ref g) [.ref x, b]) (fun v s' => ∃ c, v = .bool c ∧ Q (.bool (!c)) s') E s) : wpAny (model prog w) A (richCompare .NotEq (.ref x) b) Q E s := by
  have one : wpAny (model prog w) A (tryCompare (.ref x) "__ne__" b) (fun r s' => ∃ v, r = some v ∧ Q v s') E s := by
    unfold tryCompare
    refine wpAny_bind (ifBound_objNe X I hn (call_objNe hu1 X I hm hs hf (wpAny_mono h (fun v s' hv => ?_) fun _ _ e => e)))
    obtain ⟨c, rfl, hq⟩ := hv
    exact ⟨c, rfl, wpAny_pure ⟨_, rfl, hq⟩⟩
  unfold richCompare
  simp only [oneThing_ref]
  refine wpAny_holding (wpAny_bind (wpAny_cRoomFor hu ?_))
  rw [cmpInfo_NotEq]
  refine wpAny_bind (I.type.here (wpAny_bind (hb.here ?_)))
  rw [show (Value.ref C != Value.ref C) = false from by simp]
  simp only [Bool.false_eq_true, if_false]
  refine wpAny_bind (wpAny_pure ?_)
  simp only [Bool.false_eq_true, if_false]
  refine wpAny_bind (wpAny_mono one (fun r s' z => ?_) fun _ _ e => e)
  obtain ⟨v, rfl, hq⟩ := z
  exact wpAny_pure hq
end
section
variable {X : Cx} {n : Nat} {C g : Addr} {sp : Sp} {E : XK} {CX : CXT}
/-- x != y, both instances of the class at C, whose == is at g -/
def rNeOwn (C : Addr) (sp : Sp) (E : XK) : R2 := fun x y H Q => ∃ a dx fs b dy gs, x = .ref a ∧ y = .ref b ∧ H a = some (.ins C dx fs) ∧ H b = some (.ins C dy gs) ∧ sp [x, y] H (fun z H' => ∃ c, z = .bl c ∧ Q (.bl (!c)) H') E
theorem op_neOwn (hn : PySem.W.findIn X.K (.ref C) "__ne__" = some (some (.builtin "object.__ne__"))) (hm : PySem.W.mroIn X.K C (.type "object") = some true) (hs : PySem.W.findIn X.K (.ref C) "__eq__" = some (some (.ref g)))
    (hf : PySem.W.isFn X.K (.ref g) = true) (F : FnR X.prog X.w X.K X.mg X.base CX n g sp) (hr : Room (n + 1) X.A) (hx : Passes CX X E) : OpR X (compareOp .NotEq) (rNeOwn C sp E) := by
  intro pins s σ H x y v u Q I rx ry h
  obtain ⟨a, dx, fs, b, dy, gs, rfl, rfl, ha, hb, q⟩ := h
  obtain rfl : v = Value.ref a := rx
  obtain rfl : u = Value.ref b := ry
  obtain ⟨mA, O, _⟩ := ins_get I.hok ha
  obtain ⟨od, J, _⟩ := O.look
  obtain ⟨mB, O', _⟩ := ins_get I.hok hb
  obtain ⟨od', J', _⟩ := O'.look
  have hr1 : Room n X.A.in1 := Room.in1 hr
  refine cmp_ne hr.units0 hr1.units0 I.kIn J J'.type hn hm hs hf (wpAny_mono (wpAny_call (SlX.run_at (us := [.ref a, .ref b]) (ws := [.ref a, .ref b]) F hr1 I.env0.in1 hx I (.cons rfl (.cons rfl .nil)) q)) ?_ (fun _ _ x => x))
  rintro w s' ⟨z', H', I', rz, c, rfl, qz⟩
  obtain rfl : w = Value.bool c := rz
  exact ⟨c, rfl, .bl (!c), H', I', rfl, qz⟩
/-- one rule or another -/
theorem opR_or {f : Value → Value → Sem Value} {r1 r2 : R2} (h1 : OpR X f r1) (h2 : OpR X f r2) : OpR X f (fun x y H Q => r1 x y H Q ∨ r2 x y H Q) := by
  intro pins s σ H x y v u Q I rx ry h
  rcases h with h | h
  · exact h1 pins s σ H x y v u Q I rx ry h
  · exact h2 pins s σ H x y v u Q I rx ry h
end
end Pk

/-! ## Static methods read off their class; nested things that are alike -/
namespace Pk
open PySem PySem.Spec PyProof.Rows L2
/-- C.m is a staticmethod: its record at p, its def at g -/
structure SMet (K : PySem.W.Frag) (C : Addr) (mc : Value) (m : Str) (p g : Addr) : Prop where
  at_ : PySem.W.findCls K (.ref C) mc m = some (.get (.builtin "staticmethod.__get__") (.ref p) .none (.ref C))
  rc : ∃ rest, PySem.W.recIn K p "staticmethod" = some (.ref g :: rest)
section
variable {X : Cx} {CX : CXT} {k : Nat} {σ : L2.St} {H : Hp} {s : Shared} {pins : List (Addr × Obj)} {E : L2.St → XK} {sp : Sp}
theorem getsm_ok {C p g : Addr} {mc : Value} {m : Str} {A : Around} {Ex : Value → Shared → Prop} {pl : Sem Bool} {Q : Value × List Value → Shared → Prop} (I : Inv X pins σ H s) (r : ClX.CRead X.K C mc) (c : SMet X.K C mc m p g)
    (h : ∀ s', Inv X pins σ H s' → Q (.ref g, []) s') : wpAny (model X.prog X.w) A (getMethod (.ref C) m pl) Q Ex s := by
  obtain ⟨rest, hp⟩ := c.rc
  refine PySem.W.method_cls I.kIn r.ga (PySem.W.cls_bind I.kIn r.rd c.at_ ?_)
  exact wpAny_call (PySem.W.sm_get (s := { s with toks := s.toks + 1 }) I.kIn hp (PySem.W.handed_on rfl (h _ (I.tok _))))
/-- C.m(..), m a staticmethod, by position -/
def tSMethS (C : Addr) (sp : Sp) (E : L2.St → XK) (ta : TE) (t : TA) : TE := fun σ H Q => ta σ H fun x H1 => x = .ref C ∧ t σ H1 fun vs H2 => sp vs H2 Q (E σ)
theorem pe_smethS {C p g : Addr} {fd : FuncData} {ps : List Str} {mc : Value} {o e : Expr} {es : List Expr} {m : Str} {pos apos : Pos} {ta : TE} {t : TA} {pl : Sem Bool} (he : PE X o ta) (r : ClX.CRead X.K C mc) (c : SMet X.K C mc m p g)
    (F : FnOk X.prog X.w X.K X.mg X.base CX k g fd ps sp) (hk : PySem.W.keepIn X.K (.ref g) = true) (hb : Binds X.K fd ps []) (hr : Room k X.A) (hx : ∀ σ, PassesAt CX X σ (E σ)) (ha : PA X (e :: es) t)
    (hst : starEach (e :: es) X.env = (false, eval e X.env) :: starEach es X.env := by rfl) (hpl : (backTo pos (starEach es X.env)).any (·.1) = false := by rfl)
    (ht : eval (.Call (.Attribute o m apos) (e :: es) [] pos) X.env = (do
      let cv ← eval o X.env
      standAt apos.atName
      let (fv, fst) ← holding [cv] (getMethod cv m pl)
      callWith pos fv fst (backTo pos (starEach (e :: es) X.env)) (backToKw pos (keywordEach [] X.env))) := by rfl) :
    PE X (.Call (.Attribute o m apos) (e :: es) [] pos) (tSMethS C sp E ta t) := by
  refine ⟨fun pins s σ H Q I h => ?_⟩
  refine PySem.W.methodCall_KW (pl := pl) (thn (he.run pins s σ H _ I h) fun u s1 ⟨x, H1, I1, rx, ex, q⟩ => ?_) ht
  subst ex
  obtain rfl : u = Value.ref C := rx
  refine getsm_ok I1 r c fun s2 I2 => ?_
  refine PySem.W.callWith_K (h₀ := X.base) I2.ok.mod.kin hk (thn (ha.run pos _ s2 σ H1 _ I2 q) fun us s3 ⟨vs, H2, I3, rv, q2⟩ => ⟨I3.kIn, ?_⟩) hst hpl
  exact wpAny_call (run_fnRS (F.raw hb .nil) hr (hx σ) I3 rv (by rw [List.append_nil]; exact q2))
/-- C.m(k = v), m a staticmethod, by name, in the parameters' order -/
def tSMethK (C : Addr) (n : Nat) (sp : Sp) (E : L2.St → XK) (ta : TE) (tk : TA) : TE := fun σ H Q => ta σ H fun x H1 => x = .ref C ∧ tk σ H1 fun zs H2 => zs.length = n ∧ sp zs H2 Q (E σ)
theorem pe_smethK {C p g : Addr} {fd : FuncData} {ps ks : List Str} {mc : Value} {o : Expr} {kws : List Keyword} {m : Str} {pos apos : Pos} {ta : TE} {tk : TA} {pl : Sem Bool} (he : PE X o ta) (r : ClX.CRead X.K C mc) (c : SMet X.K C mc m p g)
    (F : FnOk X.prog X.w X.K X.mg X.base CX k g fd ps sp) (hk : PySem.W.keepIn X.K (.ref g) = true) (hb : KB X.K fd ps ks) (hl : ps.length = ks.length) (hr : Room k X.A) (hx : ∀ σ, PassesAt CX X σ (E σ)) (hkw : PK X kws tk)
    (hall : (backToKw pos (keywordEach kws X.env)).all (·.1.isSome) = true := by rfl) (hks : (backToKw pos (keywordEach kws X.env)).filterMap (·.1) = ks := by rfl)
    (hpl : ((backTo pos (starEach [] X.env)).any (·.1) || (backToKw pos (keywordEach kws X.env)).any (·.1.isNone)) = false := by rfl)
    (ht : eval (.Call (.Attribute o m apos) [] kws pos) X.env = (do
      let cv ← eval o X.env
      standAt apos.atName
      let (fv, fst) ← holding [cv] (getMethod cv m pl)
      callWith pos fv fst (backTo pos (starEach [] X.env)) (backToKw pos (keywordEach kws X.env))) := by rfl) :
    PE X (.Call (.Attribute o m apos) [] kws pos) (tSMethK C ks.length sp E ta tk) := by
  refine ⟨fun pins s σ H Q I h => ?_⟩
  refine PySem.W.methodCall_KW (pl := pl) (thn (he.run pins s σ H _ I h) fun u s1 ⟨x, H1, I1, rx, ex, q⟩ => ?_) ht
  subst ex
  obtain rfl : u = Value.ref C := rx
  refine getsm_ok I1 r c fun s2 I2 => ?_
  refine PySem.W.callWith_KW0 (h₀ := X.base) I2.ok.mod.kin hk hall ?_ hpl
  refine thn (hkw.run pos _ s2 σ H1 _ I2 q) fun ws s3 ⟨zs, H2, I3, rz, l2, q2⟩ => ⟨I3.kIn, ?_⟩
  rw [hks]
  refine wpAny_call (codeAny_mono (F.run X.A X.stack s3 H2 ⟨[], ks.zip ws⟩ ws zs Q (E σ) hr I3.env0 (hb.toK s3 ws I3.kIn ((rz.length.symm.trans l2).trans hl.symm)) rz q2) fun r s' hq => ?_)
  cases r with
  | error e => exact hx σ _ H2 s3 e s' I3 hq
  | ok fl =>
    cases fl with
    | ret u => exact I3.after hq
    | next => exact False.elim hq
    | brk => exact False.elim hq
    | cont => exact False.elim hq
end
/-! ### alike: the same thing, or lists or tuples of alike things -/
mutual
inductive Alike (K : PySem.W.Frag) (H : Hp) : Nat → V → V → Prop
  | same {n : Nat} {x : V} : (flatB x = true ∨ ∃ a, x = .ref a) → Alike K H n x x
  | lst {n : Nat} {a b : Addr} {xs ys : List V} : SqL K H a xs → SqL K H b ys → AlikeAll K H n xs ys → Alike K H (n + 1) (.ref a) (.ref b)
  | tup {n : Nat} {a b : Addr} {xs ys : List V} : SqT K H a xs → SqT K H b ys → AlikeAll K H n xs ys → Alike K H (n + 1) (.ref a) (.ref b)
inductive AlikeAll (K : PySem.W.Frag) (H : Hp) : Nat → List V → List V → Prop
  | nil {n : Nat} : AlikeAll K H n [] []
  | cons {n : Nat} {x y : V} {xs ys : List V} : Alike K H n x y → AlikeAll K H n xs ys → AlikeAll K H n (x :: xs) (y :: ys)
end
theorem AlikeAll.len {K : PySem.W.Frag} {H : Hp} {n : Nat} : ∀ {xs ys : List V}, AlikeAll K H n xs ys → xs.length = ys.length
  | _, _, .nil => rfl
  | _, _, .cons _ h => congrArg Nat.succ h.len
theorem all_yes (n : Nat) : ((List.range n).all fun _ => true) = true := List.all_eq_true.mpr fun _ _ => rfl
section
variable {X : Cx} {pins : List (Addr × Obj)} {σ : L2.St} {H : Hp} {s : Shared}
mutual
theorem Alike.eqAt (I : Inv X pins σ H s) : ∀ {n : Nat} {x y : V} {u v : Value} {A : Around}, Alike X.K H n x y → RelV x u → RelV y v → A.units + n + 1 < cLine → SeqAt.EqAt A s u v true
  | _, x, _, u, v, A, .same h, r1, r2, _ => by
    rcases h with f | ⟨p, rfl⟩
    · exact eqAt_same r1 r2 f
    · cases (show u = Value.ref p from r1)
      cases (show v = Value.ref p from r2)
      exact SeqAt.EqAt.same _
  | n + 1, .ref a, .ref b, u, v, A, .lst ha hb hall, r1, r2, hu => by
    cases (show u = Value.ref a from r1)
    cases (show v = Value.ref b from r2)
    by_cases e : a = b
    · subst e
      exact SeqAt.EqAt.same _
    · obtain ⟨us, q1, p1, _⟩ := I.list ha
      obtain ⟨ws, q2, p2, _⟩ := I.list hb
      have hl := hall.len
      have hsz : us.toArray.size = ws.toArray.size := by
        rw [List.size_toArray, List.size_toArray, ← q1.length, ← q2.length, hl]
      have k := SeqAt.RcAt.lists (A := A) (e := fun _ => true) p1.isList p2.isList hsz (by omega) (fun j h1 h2 => by
        have z := AlikeAll.eqAt I (A := A.in1) hall q1 q2 (by show A.units + 1 + n + 1 < cLine; omega) j (by simpa using h1) (by simpa using h2)
        simpa using z)
      rw [all_yes] at k
      exact SeqAt.EqAt.of_refs e k
  | n + 1, .ref a, .ref b, u, v, A, .tup ha hb hall, r1, r2, hu => by
    cases (show u = Value.ref a from r1)
    cases (show v = Value.ref b from r2)
    by_cases e : a = b
    · subst e
      exact SeqAt.EqAt.same _
    · obtain ⟨us, q1, p1, _⟩ := I.tuple ha
      obtain ⟨ws, q2, p2, _⟩ := I.tuple hb
      have hl := hall.len
      have hsz : us.toArray.size = ws.toArray.size := by
        rw [List.size_toArray, List.size_toArray, ← q1.length, ← q2.length, hl]
      have k := SeqAt.RcAt.tuples (A := A) (e := fun _ => true) p1 p2 (by omega) (fun j h1 h2 => by
        have z := AlikeAll.eqAt I (A := A.in1) hall q1 q2 (by show A.units + 1 + n + 1 < cLine; omega) j (by simpa using h1) (by simpa using h2)
        simpa using z)
      rw [all_yes, hsz] at k
      simp only [BEq.rfl, Bool.and_self] at k
      exact SeqAt.EqAt.of_refs e k
theorem AlikeAll.eqAt (I : Inv X pins σ H s) : ∀ {n : Nat} {xs ys : List V} {us ws : List Value} {A : Around}, AlikeAll X.K H n xs ys → Vals xs us → Vals ys ws → A.units + n + 1 < cLine → ∀ j (h1 : j < us.length) (h2 : j < ws.length), SeqAt.EqAt A s us[j] ws[j] true
  | _, _, _, _, _, _, .nil, r1, _, _, j, h1, _ => by
    cases r1
    exact absurd h1 (Nat.not_lt_zero j)
  | _, _, _, _, _, A, .cons a b, .cons r1 t1, .cons r2 t2, hu, j, h1, h2 => by
    cases j with
    | zero => exact Alike.eqAt I a r1 r2 hu
    | succ j => exact AlikeAll.eqAt I b t1 t2 hu j (Nat.lt_of_succ_lt_succ h1) (Nat.lt_of_succ_lt_succ h2)
end
end
/-- == and != of lists or tuples that are alike -/
def rEqAl (K : PySem.W.Frag) (b : Bool) : R2 := fun x y H Q => ∃ (n : Nat) (p q : Addr) (xs ys : List V), x = .ref p ∧ y = .ref q ∧ n ≤ 40 ∧ ((SqL K H p xs ∧ SqL K H q ys) ∨ (SqT K H p xs ∧ SqT K H q ys)) ∧ AlikeAll K H n xs ys ∧ Q (.bl b) H
theorem op_eqAl {X : Cx} (hu : X.A.units + 64 < cLine) : OpR X (compareOp .Eq) (rEqAl X.K true) := by
  intro pins s σ H x y v u Q I rx ry h
  obtain ⟨n, a, b, xs, ys, rfl, rfl, hn, hab, hall, q⟩ := h
  cases (show v = Value.ref a from rx)
  cases (show u = Value.ref b from ry)
  have hl := hall.len
  have fin : EP X pins σ Q (.bool true) s := ⟨.bl true, H, I, rfl, q⟩
  rcases hab with ⟨ha, hb⟩ | ⟨ha, hb⟩
  · obtain ⟨us, q1, p1, _⟩ := I.list ha
    obtain ⟨ws, q2, p2, _⟩ := I.list hb
    have hsz : us.toArray.size = ws.toArray.size := by
      rw [List.size_toArray, List.size_toArray, ← q1.length, ← q2.length, hl]
    refine SeqAt.eq_listAt (e := fun _ => true) p1.isList p2.isList hsz (by omega) (fun j h1 h2 => ?_) ?_
    · have z := AlikeAll.eqAt I (A := X.A.in1) hall q1 q2 (by show X.A.units + 1 + n + 1 < cLine; omega) j (by simpa using h1) (by simpa using h2)
      simpa using z
    · rw [all_yes]
      exact fin
  · obtain ⟨us, q1, p1, _⟩ := I.tuple ha
    obtain ⟨ws, q2, p2, _⟩ := I.tuple hb
    have hsz : us.toArray.size = ws.toArray.size := by
      rw [List.size_toArray, List.size_toArray, ← q1.length, ← q2.length, hl]
    refine SeqAt.eq_tupleAt (e := fun _ => true) p1 p2 (by omega) (fun j h1 h2 => ?_) ?_
    · have z := AlikeAll.eqAt I (A := X.A.in1) hall q1 q2 (by show X.A.units + 1 + n + 1 < cLine; omega) j (by simpa using h1) (by simpa using h2)
      simpa using z
    · rw [all_yes, hsz]
      simpa using fin
/-! ### keyword-only parameters with defaults, some of them named: how they bind behind the first one -/
theorem FunD_km {K : PySem.W.Frag} {x qual : Str} {params : Arguments} {body : List Stmt} {scope : Scope} {kws : List (Str × V)} {f : Addr} {fd : FuncData} {ps : List Str} (F : FunD K x qual params body scope [] kws f fd)
    (ks : List Str) (ms : List (Str × V)) (g : {α : Type} → List α → List α → List α) (hk : kws ≠ []) (hms : ∀ q ∈ ms, q ∈ kws)
    (rel : ∀ (mz zs : List V) (mv ws : List Value), mz.length = ms.length → zs.length = ks.length → Vals mz mv → Vals zs ws → Vals (g mz zs) (g mv ws))
    (h : ∀ (D : Addr) (doc pm : Value) (an : Option Addr) (cdv ct c : Value) (mv ws : List Value), mv.length = ms.length → ws.length = ks.length →
      KwChain D ((ms.map (·.1)).zip mv) (bindArgs (PySem.W.fnOf x qual params body scope .none (.ref D) doc pm an cdv ct) ⟨[c], ks.zip ws⟩) (ps.zip (c :: g mv ws))) :
    ∃ g', KM K fd ps ks g' (fun zs => g (ms.map (·.2)) zs) := by
  obtain ⟨_, _, dV, kV, _, _, _, _, _, _, rfl, _, _, hD, hK⟩ := F.ex
  obtain rfl : dV = .none := hD.elim (fun z => z.2) (fun z => absurd rfl z.1)
  obtain ⟨D, rfl, hq⟩ := hK.resolve_left hk
  obtain ⟨mv, lm, rm, at_⟩ := kwd_vals (ms := ms) fun q z => hq q (hms q z)
  refine ⟨fun ws => g mv ws, fun s c ws X l => ?_, fun lz r => rel _ _ _ _ (List.length_map _) lz rm r⟩
  exact BindsTo.of_looks fun _ => KwChain.looks X at_ (h D _ _ _ _ _ c mv ws lm l)
theorem km_of {K : PySem.W.Frag} {fd : FuncData} {ps ks : List Str} {gV gW : List V → List V} (h : ∃ g, KM K fd ps ks g gV) (e : ∀ zs : List V, zs.length = ks.length → gV zs = gW zs) : ∃ g, KM K fd ps ks g gW :=
  let ⟨g, k⟩ := h
  ⟨g, k.to, fun {zs ws} l r => by rw [← e zs l]; exact k.rel l r⟩
end Pk

/-! ## Lambdas without parameters, handed to a def that calls them within a try: what is raised is told with the caller's slots -/
namespace Pk
open PySem PySem.Spec PyProof.Rows L2 LamX
/-- a def whose code object stands at c -/
structure FunC (K : PySem.W.Frag) (x qual : Str) (st : Stmt) (f : Addr) (fd : FuncData) (c : Addr) : Prop where
  ex : ∃ (oc : Value) (od : Option Addr) (kV doc pm : Value) (an : Option Addr) (ct : Value) (osl : Array (Option Value)),
    fd = PySem.W.fnOf x qual (defArgs st) (defBody st) (defScope st) .none kV doc pm an (.ref c) ct ∧ K.lookup f = some ⟨oc, od, .func fd, osl⟩ ∧ PySem.W.codeIn K (.ref c) qual = true
  kp : PySem.W.keepIn K (.ref f) = true
theorem FunC.toFun {K : PySem.W.Frag} {x qual : Str} {st : Stmt} {f : Addr} {fd : FuncData} {c : Addr} (F : FunC K x qual st f fd c) : Fun K x qual st f fd :=
  let ⟨oc, od, kV, doc, pm, an, ct, osl, h⟩ := F.ex
  ⟨⟨oc, od, kV, doc, pm, an, .ref c, ct, osl, h⟩, F.kp⟩
section
variable {P : Program} {w : World} {K : PySem.W.Frag} {mg : Str → Option Value} {base : Heap}
/-- a def's body, its code object told -/
theorem FunC.okC {x qual : Str} {st : Stmt} {f : Addr} {fd : FuncData} {c : Addr} {N ps : List Str} {k : Nat} {sp : Sp} (F : FunC K x qual st f fd c) (S : FnScope N ps (defScope st)) (len : ∀ vs H Q E, sp vs H Q E → vs.length = ps.length)
    (body : ∀ (A : Around) (outer : List Env) (s : Shared) (H : Hp) (vs : List V) (Q : VK) (E : XK), Room k (A.deeper (envOfC qual (defScope st) s.heap.objs.size f (.ref c))) → sp vs H Q E →
      ∃ t, PSs (cxOf CX0 P w K mg base N qual (defScope st) f (.ref c) A outer s H E).nox (defBody st) t ∧ t { nx := fun _ H' => Q .non H', rt := Q } (start N vs) H) : FnOk P w K mg base CX0 (k + 1) f fd ps sp := by
  obtain ⟨oc, od, kV, doc, pm, an, ct, osl, rfl, lk, hcd⟩ := F.ex
  exact fn_of lk hcd S len fun A outer s H vs Q E hr h =>
    let ⟨t, h1, h2⟩ := body A outer s H vs Q E hr h
    ⟨t, h1.nox, h2⟩
/-- .. the marks known -/
theorem FunC.okG {x qual : Str} {st : Stmt} {f : Addr} {fd : FuncData} {c : Addr} {N ps : List Str} {k : Nat} {sp : Sp} (F : FunC K x qual st f fd c) (S : FnScope N ps (defScope st)) (len : ∀ vs H Q E, sp vs H Q E → vs.length = ps.length)
    (body : ∀ (A : Around) (outer : List Env) (s : Shared) (H : Hp) (vs : List V) (Q : VK), A.guards = some [] → Room k (A.deeper (envOfC qual (defScope st) s.heap.objs.size f (.ref c))) → sp vs H Q E0 →
      ∃ t, PSs (cxOf CX0 P w K mg base N qual (defScope st) f (.ref c) A outer s H E0).nox (defBody st) t ∧ t { nx := fun _ H' => Q .non H', rt := Q } (start N vs) H) : FnG P w K mg base (k + 1) f fd ps sp := by
  obtain ⟨oc, od, kV, doc, pm, an, ct, osl, rfl, lk, hcd⟩ := F.ex
  refine ⟨len, fun A outer s H args us vs Q hg hr e0 hb r h => ?_⟩
  exact run_ofS (N := N) (ps := ps) lk hcd S hr e0 hb r (len _ _ _ _ h) fun hr' =>
    let ⟨t, h1, h2⟩ := body A outer s H vs Q hg hr' h
    ⟨t, h1.nox, h2⟩
end
section
variable {X : Cx} {pins : List (Addr × Obj)} {σ : L2.St} {H : Hp} {s : Shared}
/-- x() in the def that got the lambda: what the lambda raises is taken where the caller stands -/
theorem pe_actS {CXg : CXT} {Eg : XK} {Ng : List Str} {qg : Str} {sg : Scope} {g f c' : Addr} {cdg pm ctv : Value} {params : Arguments} {body : Expr} {scope : Scope} {k i : Nat} {a : Str} {pn : List (Addr × Obj)} {xe : Value → Shared → Prop} {W : WX} {tb : XK → TE} {p1 p2 : Pos}
    (I : Inv X pins σ H s) (L : LamS X.env.scope scope)
    (hf : s.heap.get? f = some (PySem.W.kla_obj "<lambda>" (X.env.qual ++ "<lambda>") params body scope (cloFrom X.env.cells scope.names []) pm c' ctv)) (hfn : H f = none) (hfr : f ∉ frs X.stack)
    (hbind : bindArgs (PySem.W.kla_fn "<lambda>" (X.env.qual ++ "<lambda>") params body scope (cloFrom X.env.cells scope.names []) pm (.ref c') ctv) ⟨[], []⟩ = pure [])
    (tk : Takes ((cxOf CXg X.prog X.w X.K X.mg X.base Ng qg sg g cdg X.A X.stack s H Eg).tr pn xe) W) (hr : Room (k + 1) (X.A.deeper (envOfC qg sg s.heap.objs.size g cdg)))
    (hbody : ∀ (A : Around) (outer : List Env) (s : Shared) (H : Hp) (E : XK), Room k (A.deeper (lamEnv X scope s.heap.objs.size f c')) → PE (lamCx X A outer s H E scope f c') body (tb E))
    (hN : Ng[i]? = some a) (hv : Vis sg a) (hd : (a == ("__debug__" : Str)) = false := by decide) (hcd : (a == ("__classdict__" : Str)) = false := by decide) :
    PE ((cxOf CXg X.prog X.w X.K X.mg X.base Ng qg sg g cdg X.A X.stack s H Eg).tr pn xe) (.Call (.Name a p1) [] [] p2)
      (fun σZ HZ Q => σZ[i]? = some (some (.ref f)) ∧ HZ c' = some (CodeO c' (X.env.qual ++ "<lambda>")) ∧ tb (fun cls d H' => W cls d σZ H') σ HZ Q) := by
  refine ⟨fun pinsZ sZ σZ HZ Q IZ ⟨hs, hc, ht⟩ => ?_⟩
  have name := (pe_var (pos := p1) (i := i) hN hv hd hcd).run pinsZ sZ σZ HZ (fun v H1 => v = .ref f ∧ H1 = HZ) IZ ⟨.ref f, hs, rfl, rfl⟩
  refine wpAny_Call_Name_kw (thn name fun u s1 ⟨v, H1, I1, r1, ev, eH⟩ => ?_)
  subst ev eH
  obtain rfl : u = Value.ref f := r1
  have there := I1.base.keep f _ hf hfn hfr (fun z => nomatch (show f ∈ ([] : List Addr) from z))
  have un : Un (frs X.stack) [] H H1 s.heap s1.heap := I1.base
  obtain ⟨⟨oc, vs, t, hoc, hdc, hvc⟩, _, _⟩ := I1.hok c' _ hc
  refine PySem.W.callWith_F0 ⟨_, _, _, _, there⟩ (wpAny_call (codeAny_mono (R := CR (L2.CX X.prog X.w) (envOfC qg sg s.heap.objs.size g cdg :: X.stack) X.prog X.w H1 s1 Q (fun cls d H' => W cls d σZ H')) ?_ fun r s' hq => ?_))
  · show codeAny (model X.prog X.w) (X.A.deeper (envOfC qg sg s.heap.objs.size g cdg)) (.call (.ref f) ⟨[], []⟩) _ s1
    refine PySem.W.kla_callFunE hr.depth there rfl L.co L.gen rfl ⟨c', oc, vs, t, rfl, hoc, hdc, hvc⟩ ?_
    rw [hbind]
    refine wpAny_pure (wpAny_newFunctionEnv (fun y hy => (L.own y hy).2) (fun y hy => absurd hy (by simp)) (fun h₁ hns hsb => ⟨I1.nolimit.fresh _ hsb, ?_⟩) L.kind)
    have old : ∀ b o, s1.heap.get? b = some o → h₁.get? b = some o := fun b o e => hsb.extBut b o (Nat.ne_of_lt (Heap.lt_size e)) (Heap.get?_push_of_some _ e)
    have J := lam_start2 (f := f) (c' := c') (E := fun cls d H' => W cls d σZ H') (tk := s1.toks + ([] : List (Str × Value)).length) (A := X.A.deeper (envOfC qg sg s.heap.objs.size g cdg)) (outer := envOfC qg sg s.heap.objs.size g cdg :: X.stack) I L I1.env0 hr.hd un hns old
    refine PySem.W.kla_codeExpr (wpAny_mono ((hbody _ _ s1 H1 _ (hr.deeper _)).run [] _ _ H1 Q J ht) (fun v s' ⟨w', H', J', rv, q⟩ => ?_) fun e s' hq => hq)
    exact ⟨w', H', J'.os, J'.bare, J'.base, J'.hok, rv, q⟩
  · cases r with
    | error e => exact tk e s' (XE.of_call I1 (fun cls d H' h => h) hq)
    | ok fl =>
      cases fl with
      | ret u => exact I1.after hq
      | next => exact False.elim hq
      | brk => exact False.elim hq
      | cont => exact False.elim hq
end
/-- what the def that got the lambda makes of it: tl is the lambda's reading, the wish for what it raises first -/
def Gives (X : Cx) (Ng : List Str) (x : Str) (st : Stmt) (g : Addr) (a q : Str) (TT : (XK → Hp → VK → Prop) → Hp → VK → Prop) : Prop :=
  ∀ (cdg : Value) (f c' : Addr) (s : Shared) (H : Hp) (Q : VK) (tl : XK → Hp → VK → Prop),
    (∀ (W : WX) (pn : List (Addr × Obj)) (xe : Value → Shared → Prop) (p1 p2 : Pos), Takes ((cxOf CX0 X.prog X.w X.K X.mg X.base Ng x (defScope st) g cdg X.A X.stack s H E0).tr pn xe) W →
      PE ((cxOf CX0 X.prog X.w X.K X.mg X.base Ng x (defScope st) g cdg X.A X.stack s H E0).tr pn xe) (.Call (.Name a p1) [] [] p2)
        (fun σZ HZ Q => σZ[0]? = some (some (.ref f)) ∧ HZ c' = some (CodeO c' q) ∧ tl (fun cls d H' => W cls d σZ H') HZ Q)) →
    H c' = some (CodeO c' q) → TT tl H Q →
    ∃ t, PSs (cxOf CX0 X.prog X.w X.K X.mg X.base Ng x (defScope st) g cdg X.A X.stack s H E0).nox (defBody st) t ∧ t { nx := fun _ H' => Q .non H', rt := Q } (L2.start Ng [.ref f]) H
section
variable {X : Cx}
/-- x(lambda: body) -/
theorem pe_lam {T : List (Addr × Str)} {TT : (XK → Hp → VK → Prop) → Hp → VK → Prop} {x a : Str} {st : Stmt} {g c P : Addr} {k : Nat} {fd : FuncData} {Ng : List Str} {params : Arguments} {body : Expr} {scope : Scope} {t : XK → TE} {p lpos pos : Pos}
    (F : Fun X.K x x st g fd) (hb : L2.Binds X.K fd [a] []) (Sg : FnScope Ng [a] (defScope st)) (hva : Vis (defScope st) a) (hNg : Ng[0]? = some a) (hg : Gl X x) (hm : X.mg x = some (.ref g))
    (hG : Gives X Ng x st g a (X.env.qual ++ "<lambda>") TT) (TB : TabB X.base X.mg c P) (hcode : X.env.code = .ref c) (hmT : (P, X.env.qual ++ "<lambda>") ∈ T) (hu : ∀ p ∈ T, p.1 = P → p.2 = X.env.qual ++ "<lambda>")
    (hr : Room (k + 2) X.A) (L : LamS X.env.scope scope) (hdef : defaultsOf params X.env = ([], []))
    (hbind : ∀ (q : Str) (cl : List (Str × Addr)) (pm cv ctv : Value), bindArgs (PySem.W.kla_fn "<lambda>" q params body scope cl pm cv ctv) ⟨[], []⟩ = pure [])
    (hbody : ∀ (A : Around) (outer : List Env) (s : Shared) (H : Hp) (E : XK) (f c' : Addr), Room k (A.deeper (lamEnv X scope s.heap.objs.size f c')) → PE (lamCx X A outer s H E scope f c') body (t E))
    (hdb : (x == ("__debug__" : Str)) = false := by decide) (hd : (a == ("__debug__" : Str)) = false := by decide) (hcd : (a == ("__classdict__" : Str)) = false := by decide) :
    PE X (.Call (.Name x p) [.Lambda params body scope lpos] [] pos) (tLam T TT t) := by
  refine ⟨fun pins s σ H Q I ⟨hT, h⟩ => ?_⟩
  obtain ⟨oc, od, kV, doc, pm, an, cdv, ct, osl, rfl, lk, hcg⟩ := F.ex
  refine wpAny_Call_Name_kw (ld_glob I hg hm (PySem.W.callWith_K (h₀ := X.base) I.ok.mod.kin F.kp ?_ (by rfl) (by rfl)) hdb)
  refine Calls.spliced_cons (lam_make2 I TB hcode hmT hu hT hdef (L.has I.ok) fun f c' pm' ctv H1 s' I1 eN T1 hf hfn hfr hco => Calls.spliced_nil ⟨I1.kIn, ?_⟩)
  refine wpAny_call (codeAny_mono (R := CR CX0 X.stack X.prog X.w H1 s' Q E0) ?_ fun r s2 hq => ?_)
  · refine run_ofS (N := Ng) (ps := [a]) (us := [.ref f]) (vs := [.ref f]) lk hcg Sg hr I1.env0 (hb s' [.ref f] I1.kIn rfl) (.cons rfl .nil) rfl fun hr' => ?_
    obtain ⟨t', h1, h2⟩ := hG cdv f c' s' H1 Q (fun E H' Q' => t E σ H' Q') (fun W pn xe p1 p2 tk =>
      pe_actS (i := 0) I1 L hf hfn hfr (hbind _ _ _ _ _) tk hr' (fun A outer s H E hr2 => hbody A outer s H E f c' hr2) hNg hva hd hcd) hco (h H1 eN T1)
    exact ⟨t', h1.nox, h2⟩
  · cases r with
    | error e => exact (show False from hq).elim
    | ok fl =>
      cases fl with
      | ret u => exact I1.after hq
      | next => exact False.elim hq
      | brk => exact False.elim hq
      | cont => exact False.elim hq
/-- within a lambda: what a callee raises leaves the lambda -/
theorem passLam {A : Around} {outer : List Env} {s : Shared} {H : Hp} {E : XK} {scope : Scope} {f c' : Addr} : Passes (L2.CX X.prog X.w) (lamCx X A outer s H E scope f c') E :=
  passes_call (X := lamCx X A outer s H E scope f c') (W := fun cls d _ H => E cls d H) (takes_of rfl rfl rfl rfl) fun _ _ _ _ h => h
end
end Pk

/-! ## The end of a law that makes lambdas: the makers' tables are told, empty at first -/
namespace Pk
open PySem PySem.Spec PyProof.Rows L2 LamX
/-- the makers: code objects and their tables, in the heap in front of the law's call -/
structure Makers (K : PySem.W.Frag) (h : Heap) (cs : List (Addr × Addr)) : Prop where
  empty : ∀ p ∈ cs, h.get? p.2 = some { cls := .none, data := .fields #[] }
  out : ∀ p ∈ cs, K.lookup p.2 = none
  code : ∀ p ∈ cs, PySem.W.CodeHd h p.1 p.2
def hasTab (cs : List (Addr × Addr)) (b : Addr) : Prop := ∃ p ∈ cs, p.2 = b
theorem Makers.at {K : PySem.W.Frag} {h : Heap} {cs : List (Addr × Addr)} (M : Makers K h cs) {b : Addr} (hb : hasTab cs b) : h.get? b = some { cls := .none, data := .fields #[] } ∧ K.lookup b = none := by
  obtain ⟨p, hp, rfl⟩ := hb
  exact ⟨M.empty p hp, M.out p hp⟩
instance (cs : List (Addr × Addr)) (b : Addr) : Decidable (hasTab cs b) := by unfold hasTab; infer_instance
/-- what is told at the entry: the tables, and the script if the text does not hold it -/
def entryH (cs : List (Addr × Addr)) (u : Option (Addr × HO)) : Hp := fun b => match u with
  | some (a, o) => if b = a then some o else if hasTab cs b then some (.tbl #[]) else none
  | none => if hasTab cs b then some (.tbl #[]) else none
theorem enterGT {P : Program} {w : World} {K : PySem.W.Frag} {mg mb : Str → Option Value} {k : Nat} {fa a : Addr} {cs : List (Addr × Addr)} {fd : FuncData} {x : Str} {sp : Sp} {s₁ : Shared} {vs : List Value} {ns : List Int}
    (KX : K.In s₁.heap) (hns : s₁.heap.Ns mainGlobals mg) (hb : s₁.heap.Ns builtinsNs mb) (hbb : ∀ x : Str, x ≠ "__name__" → mb x = bootBuiltins x)
    (hlim : s₁.heap.NoLimit) (hg : s₁.gens = #[]) (M : Makers K s₁.heap cs)
    (hbm : ∃ (m : Addr) (om : Obj), mg "__builtins__" = some (.ref m) ∧ m ≠ builtinsNs ∧ s₁.heap.get? m = some om ∧ om.cls = .type "module" ∧ om.dict = some builtinsNs ∧ om.data = .plain)
    (ha : s₁.heap.get? a = some { cls := .type "list", data := .seq vs.toArray })
    (hi : IntsAre vs ns) (hl : ns.length ≤ sizeLine) (hr : Room k callerA)
    (F : ∀ base : Heap, K.In base → base.Ns mainGlobals mg → (∀ p ∈ cs, TabB base mg p.1 p.2) → FnG P w K mg base k fa fd [x] sp)
    (hbind : ∀ (s : Shared) (u : Value), BindsTo s fd ⟨[u], []⟩ [(x, u)])
    (hsp : ∀ H : Hp, (∀ p ∈ cs, H p.2 = some (.tbl #[])) → Bare K H a (ns.map V.int) → sp [.ref a] H (fun v _ => v = .bl true) E0) :
    codeAny (model P w) callerA (.call (.ref fa) ⟨[.ref a], []⟩)
      (fun r s' => r = .ok (.ret (.bool true)) ∧ OldK s₁.heap s'.heap ∧ s'.os = s₁.os ∧ AllBare s'.gens) s₁ := by
  have rv := vals_ints hi
  have notab : ¬ hasTab cs a := fun z => by
    have q := (M.at z).1
    rw [ha] at q
    exact nomatch (show Data.seq vs.toArray _ = Data.fields #[] from congrArg Obj.data (Option.some.inj q))
  have core : ∀ H : Hp, (∀ p ∈ cs, H p.2 = some (.tbl #[])) → (∀ b u, H b = some u → (hasTab cs b ∧ u = .tbl #[]) ∨ (b = a ∧ K.lookup a = none ∧ ∃ ob xs, u = .frz ob (.lst xs))) → Bare K H a (ns.map V.int) → HOk P w H s₁.heap →
      codeAny (model P w) callerA (.call (.ref fa) ⟨[.ref a], []⟩)
        (fun r s' => r = .ok (.ret (.bool true)) ∧ OldK s₁.heap s'.heap ∧ s'.os = s₁.os ∧ AllBare s'.gens) s₁ := by
    intro H hH hO hS hok
    have un : ∀ {b : Addr} {o : Obj}, s₁.heap.get? b = some o → (∀ z n, o.data ≠ .seq z n) → o.data ≠ .fields #[] → H b = none := by
      intro b o e d1 d2
      cases q : H b with
      | none => rfl
      | some u =>
        rcases hO b u q with ⟨ht, _⟩ | ⟨rfl, _⟩
        · rw [(M.at ht).1] at e
          cases e
          exact absurd rfl d2
        · rw [ha] at e
          cases e
          exact absurd rfl (d1 _ _)
    have unD : ∀ {b : Addr} {o : Obj} {es : Array DictEntry} {ep : Nat}, s₁.heap.get? b = some o → o.data = .dict es ep → H b = none := fun e d => un e (fun z n y => by rw [d] at y; cases y) (fun y => by rw [d] at y; cases y)
    have nsB : ∀ {b : Addr} {m : Str → Option Value}, s₁.heap.Ns b m → (hidT s₁.heap H).Ns b m :=
      fun {b m} ⟨o, es, ep, e, d, r⟩ => ⟨o, es, ep, hidT_get e (unD e d), d, r⟩
    have inB : K.In (hidT s₁.heap H) := by
      intro b o e
      refine hidT_get (KX b o e) ?_
      cases q : H b with
      | none => rfl
      | some u =>
        rcases hO b u q with ⟨ht, _⟩ | ⟨rfl, hk, _⟩
        · rw [(M.at ht).2] at e
          cases e
        · rw [hk] at e
          cases e
    have md : Mod K mg (hidT s₁.heap H) := ⟨inB, nsB hns, ⟨mb, nsB hb, hbb⟩, let ⟨mc, h1, h2⟩ := hlim; ⟨mc, nsB h1, h2⟩⟩
    have TB : ∀ p ∈ cs, TabB (hidT s₁.heap H) mg p.1 p.2 := by
      intro p hp
      have tp := M.empty p hp
      refine ⟨?_, ?_, fun z => ?_⟩
      · obtain ⟨o, us, f1, f2, f3, f4, f5, f6, f7, e1, r1, r2, r3, r⟩ := M.code p hp
        refine ⟨o, us, f1, f2, f3, f4, f5, f6, f7, hidT_get e1 (un e1 (fun z n y => ?_) fun y => ?_), r1, r2, r3, r⟩
        · rw [r2] at y
          cases y
        · rw [r2] at y
          injection y with y
          rw [y] at r3
          simp at r3
      · obtain ⟨m, om, b1, b2, b3, b4, b5, b6⟩ := hbm
        refine ⟨m, om, b1, b2, fun z => ?_, fun z => ?_, hidT_get b3 (un b3 (fun z n y => by rw [b6] at y; cases y) fun y => by rw [b6] at y; cases y), b4, b5, b6⟩
        · obtain ⟨o, es, ep, e, d, _⟩ := hns
          rw [z, e] at b3
          rw [← Option.some.inj b3, d] at b6
          cases b6
        · rw [z, tp] at b3
          rw [← Option.some.inj b3] at b6
          cases b6
      · obtain ⟨o, es, ep, e, d, _⟩ := hns
        rw [z, tp] at e
        rw [← Option.some.inj e] at d
        cases d
    have e0 : Env0 P w K mg (hidT s₁.heap H) callerA [] s₁ H :=
      ⟨rfl, md, fun b o e => of_hidT e, Nat.le_of_eq (hidT_size _ _), trivial, fun b z => absurd (show b ∈ ([] : List Addr) from z) (by simp), hok, .of_eq hg⟩
    refine codeAny_mono ((F _ inB (nsB hns) TB).runG callerA [] s₁ H ⟨[.ref a], []⟩ [.ref a] [.ref a] _ rfl hr e0 (hbind s₁ (.ref a)) (.cons rfl .nil) (hsp H hH hS)) ?_
    rintro (e | fl) s' h
    · exact (show False from h).elim
    · cases fl with
      | next => exact (show False from h).elim
      | brk => exact (show False from h).elim
      | cont => exact (show False from h).elim
      | ret u =>
        obtain ⟨v, H', os, bare, uu, hok', r', q⟩ := h
        obtain rfl : v = .bl true := q
        obtain rfl : u = Value.bool true := r'
        have still : ∀ b o, ¬ hasTab cs b → s₁.heap.get? b = some o → s'.heap.get? b = some o := by
          intro b o nt e
          cases q : H b with
          | none => exact uu.keep b o e q (fun z => absurd (show b ∈ ([] : List Addr) from z) (by simp)) (by simp)
          | some u =>
            rcases hO b u q with ⟨ht, _⟩ | ⟨_, _, ob, xs, rfl⟩
            · exact absurd ht nt
            · obtain ⟨e1, _⟩ := hok b _ q
              obtain ⟨e2, _⟩ := hok' b _ (uu.frzs b ob _ q)
              rw [e] at e1
              cases e1
              exact e2
        have more : ∀ p ∈ cs, ∃ ps : Array Value, s'.heap.get? p.2 = some { cls := .none, data := .fields ps } := fun p hp =>
          let ⟨_, z⟩ := uu.tbls p.2 #[] (hH p hp)
          ⟨_, hok' p.2 _ z⟩
        refine ⟨rfl, ⟨fun b o e => ?_, fun b o e => ?_⟩, os, bare⟩
        · by_cases ht : hasTab cs b
          · obtain ⟨p, hp, rfl⟩ := ht
            obtain ⟨ps, hm⟩ := more p hp
            rw [M.empty p hp] at e
            obtain rfl := Option.some.inj e
            exact .inr (.inl ⟨((M.code p hp).tab (M.empty p hp)).isCodeTable, rfl, #[], ps, rfl, by simpa using hm⟩)
          · exact .inl (still b o ht e)
        · by_cases ht : hasTab cs b
          · obtain ⟨p, hp, rfl⟩ := ht
            obtain ⟨ps, hm⟩ := more p hp
            exact ⟨_, hm⟩
          · exact ⟨o, still b o ht e⟩
  cases hk : K.lookup a with
  | some o =>
    have e := KX a o hk
    rw [ha] at e
    cases e
    have h0 : ∀ b, entryH cs none b = if hasTab cs b then some (.tbl #[]) else none := fun b => rfl
    refine core (entryH cs none) (fun p hp => by rw [h0, if_pos ⟨p, hp, rfl⟩]) (fun b u z => ?_) (.inr ⟨vs, 0, hk, rv⟩) (fun b u z => ?_)
    · rw [h0] at z
      split at z
      · exact .inl ⟨by assumption, (Option.some.inj z).symm⟩
      · cases z
    · rw [h0] at z
      split at z
      · rename_i ht
        obtain rfl := Option.some.inj z
        exact (M.at ht).1
      · cases z
  | none =>
    let fo : HO := .frz { cls := .type "list", data := .seq vs.toArray } (.lst (ns.map V.int))
    have ea : entryH cs (some (a, fo)) a = some fo := if_pos rfl
    have ne : ∀ b, b ≠ a → entryH cs (some (a, fo)) b = if hasTab cs b then some (.tbl #[]) else none := fun b hb => if_neg hb
    refine core (entryH cs (some (a, fo))) (fun p hp => ?_) (fun b u z => ?_) (.inl ⟨vs, 0, ea⟩) (fun b u z => ?_)
    · rw [ne p.2 (fun z => notab ⟨p, hp, z⟩), if_pos ⟨p, hp, rfl⟩]
    · by_cases hba : b = a
      · subst hba
        rw [ea] at z
        exact .inr ⟨rfl, hk, _, _, (Option.some.inj z).symm⟩
      · rw [ne b hba] at z
        split at z
        · exact .inl ⟨by assumption, (Option.some.inj z).symm⟩
        · cases z
    · by_cases hba : b = a
      · subst hba
        rw [ea] at z
        obtain rfl := Option.some.inj z
        exact ⟨ha, by rw [List.length_map]; exact hl, vs, _, rv, ha⟩
      · rw [ne b hba] at z
        split at z
        · rename_i ht
          obtain rfl := Option.some.inj z
          exact (M.at ht).1
        · cases z
/-- what the last theorem takes -/
theorem walkGT {l : PySem.W.OpenLaw} {k : Nat} {q : Program} {loose : List Str} {XP : (Str → Option Value) → Heap → Prop} {YP : World → Heap → Prop} {d : DefRec} {K : Params → PySem.W.Frag} {sp : PySem.W.Frag → List (Addr × Addr) → Sp} {x : Str}
    (hn : l.most = some 63) (hdf : d.params.defaults = []) (hr : Room k callerA) (hY : ∀ (w : World) (h : Heap), YP w h → (K w.params).In h)
    (F : ∀ (w : World) (mg : Str → Option Value) (fa : Addr) (h : Heap), YP w h → (K w.params).In h → h.Ns mainGlobals mg → mg d.name = some (.ref fa) →
      ∃ (fd : FuncData) (cs : List (Addr × Addr)), Makers (K w.params) h cs ∧ (∀ (s : Shared) (u : Value), BindsTo s fd ⟨[u], []⟩ [(x, u)]) ∧
        ∀ base : Heap, (K w.params).In base → base.Ns mainGlobals mg → (∀ p ∈ cs, TabB base mg p.1 p.2) → FnG l.prog w (K w.params) mg base k fa fd [x] (sp (K w.params) cs))
    (hsp : ∀ (K : PySem.W.Frag) (cs : List (Addr × Addr)) (H : Hp) (a : Addr) (ns : List Int), ns.length ≤ 63 → (∀ p ∈ cs, H p.2 = some (.tbl #[])) → Bare K H a (ns.map V.int) → sp K cs [.ref a] H (fun v _ => v = .bl true) E0) :
    PySem.W.WalkO q loose XP YP l.row.toRowW d [] (fun f vs => PySem.call f vs) := by
  refine Att.attach_call hn hdf ?_
  intro w s₀ s₁ mg mb fa o pm cd doc a vs ns G Y ho hd hcd hmg hobj hints hlen hg
  have KX := hY w _ Y
  obtain ⟨fd, cs, M, hb, hF⟩ := F w mg fa _ Y KX G.T.g hmg
  exact enterGT KX G.T.g G.T.b G.T.builtins G.T.nolimit hg M G.T.bmain hobj hints (Nat.le_trans hlen (by decide)) hr hF hb (fun H hH hS => hsp (K w.params) cs H a ns hlen hH hS)
end Pk

/-! ## Own operators, truth and membership of dict instances -/
namespace Pk
open PySem PySem.Spec PyProof.Rows L2
open SlX (cmpback)
section
variable {X : Cx} {k n : Nat} {f C g : Addr} {fd : FuncData} {ps : List Str} {sp : Sp} {E : XK} {CX : CXT}
/-- x op y, both instances of the class at C, whose def for op is at g -/
theorem op_binD {op : Operator} (hc : PySem.W.selfFirst X.K C = true) (hs : PySem.W.findIn X.K (.ref C) (PySem.dunder op.info.2) = some (some (.ref g)))
    (hf : PySem.W.isFn X.K (.ref g) = true) (F : FnR X.prog X.w X.K X.mg X.base CX n g sp) (hr : Room n X.A) (hx : Passes CX X E) : OpR X (binaryOp op) (rOwnD C sp E) := by
  intro pins s σ H x y v u Q I rx ry h
  obtain ⟨a, dx, fs, b, dy, gs, rfl, rfl, ha, hb, q⟩ := h
  obtain rfl : v = Value.ref a := rx
  obtain rfl : u = Value.ref b := ry
  obtain ⟨mA, O, _⟩ := ins_get I.hok ha
  obtain ⟨od, J, _⟩ := O.look
  obtain ⟨mB, O', _⟩ := ins_get I.hok hb
  obtain ⟨od', J', _⟩ := O'.look
  obtain ⟨m, hF⟩ := I.fr
  refine PySem.W.binop_K (op := op) hF I.ok.mod.kin J J'.type hc hs hf (wpAny_mono (wpAny_call (run_fnR (us := [.ref a, .ref b]) (vs := [.ref a, .ref b]) F hr hx I (.cons rfl (.cons rfl .nil)) q)) ?_ (fun _ _ x => x))
  rintro w s' ⟨z', H', I', rz, qz⟩
  exact cmpback rz ⟨z', H', I', rz, qz⟩
/-- the answer of a def is a truth -/
def spB (sp : Sp) (x : List V) (E : XK) (Q : Bool → Hp → Prop) : Hp → Prop := fun H => sp x H (fun z H' => ∃ c, z = .bl c ∧ Q c H') E
/-- y in x, x an instance of the class at C -/
def rInD (C : Addr) (sp : Sp) (E : XK) : R2 := fun y x H Q => ∃ a dx fs, x = .ref a ∧ H a = some (.ins C dx fs) ∧ sp [x, y] H (fun z H' => ∃ c, z = .bl c ∧ Q (.bl c) H') E
theorem op_inD (hs : PySem.W.findIn X.K (.ref C) "__contains__" = some (some (.ref g))) (hf : PySem.W.isFn X.K (.ref g) = true) (F : FnR X.prog X.w X.K X.mg X.base CX n g sp) (hr : Room n X.A) (hx : Passes CX X E) :
    OpR X (compareOp .In) (rInD C sp E) := by
  intro pins s σ H y x u v Q I ry rx h
  obtain ⟨a, dx, fs, rfl, ha, q⟩ := h
  obtain rfl : v = Value.ref a := rx
  obtain ⟨mA, O, _⟩ := ins_get I.hok ha
  obtain ⟨od, J, _⟩ := O.look
  obtain ⟨m, hF⟩ := I.fr
  refine PySem.W.in_K hF I.ok.mod.kin J hs hf (wpAny_mono (wpAny_call (run_fnR (us := [.ref a, u]) (vs := [.ref a, y]) F hr hx I (.cons rfl (.cons ry .nil)) q)) ?_ (fun _ _ x => x))
  rintro w s' ⟨z', H', I', rz, c, rfl, qz⟩
  obtain rfl : w = Value.bool c := rz
  exact wpAny_truthy_bool ⟨.bl c, H', I', rfl, qz⟩
theorem truthy_D {pins : List (Addr × Obj)} {s : Shared} {σ : L2.St} {H : Hp} {a dx : Addr} {fs : List (Str × V)} {A : Around} {Q : Bool → Shared → Prop} {Q' : Bool → Hp → Prop}
    (hs : PySem.W.findIn X.K (.ref C) "__bool__" = some (some (.ref g))) (hf : PySem.W.isFn X.K (.ref g) = true) (F : FnR X.prog X.w X.K X.mg X.base CX n g sp) (hr : Room n A) (e0 : Env0 X.prog X.w X.K X.mg X.base A X.stack s H) (hx : Passes CX X E)
    (I : Inv X pins σ H s) (ha : H a = some (.ins C dx fs)) (q : spB sp [.ref a] E Q' H) (h : ∀ c s' H', Inv X pins σ H' s' → Q' c H' → Q c s') : wpAny (model X.prog X.w) A (truthy (.ref a)) Q X.xe s := by
  obtain ⟨mA, O, _⟩ := ins_get I.hok ha
  obtain ⟨od, J, _⟩ := O.look
  obtain ⟨m, hF⟩ := I.fr
  refine PySem.W.truthy_K hF I.ok.mod.kin J hs hf (wpAny_mono (wpAny_call (SlX.run_at (us := [.ref a]) (ws := [.ref a]) F hr e0 hx I (.cons rfl .nil) q)) ?_ (fun _ _ x => x))
  rintro w s' ⟨z', H', I', rz, c, rfl, qz⟩
  obtain rfl : w = Value.bool c := rz
  exact h c s' H' I' qz
/-- not e, e an instance with its own truth -/
def tNotD (C : Addr) (sp : Sp) (E : XK) (ta : TE) : TE := fun σ H Q => ta σ H fun x H1 => ∃ a dx fs, x = .ref a ∧ H1 a = some (.ins C dx fs) ∧ spB sp [.ref a] E (fun c H' => Q (.bl (!c)) H') H1
theorem pe_notD {e : Expr} {ta : TE} {pos : Pos} (he : PE X e ta) (hs : PySem.W.findIn X.K (.ref C) "__bool__" = some (some (.ref g))) (hf : PySem.W.isFn X.K (.ref g) = true) (F : FnR X.prog X.w X.K X.mg X.base CX n g sp) (hr : Room n X.A) (hx : Passes CX X E) :
    PE X (.UnaryOp .Not e pos) (tNotD C sp E ta) := by
  refine ⟨fun pins s σ H Q I h => ?_⟩
  refine UnaryOp_ (thn (he.run pins s σ H _ I h) fun v s1 ⟨x, H1, I1, r1, a, dx, fs, ex, ha, q⟩ => ?_)
  subst ex
  obtain rfl : v = Value.ref a := r1
  exact not_of (truthy_D hs hf F hr I1.env0 hx I1 ha q fun c s' H' I' q' => ⟨.bl (!c), H', I', rfl, q'⟩)
/-- bool(e) -/
def rBoolD (C : Addr) (sp : Sp) (E : XK) : List V → Hp → VK → Prop := fun xs H Q => ∃ a dx fs, xs = [.ref a] ∧ H a = some (.ins C dx fs) ∧ spB sp [.ref a] E (fun c H' => Q (.bl c) H') H
theorem call_boolD (hs : PySem.W.findIn X.K (.ref C) "__bool__" = some (some (.ref g))) (hf : PySem.W.isFn X.K (.ref g) = true) (G : FnR X.prog X.w X.K X.mg X.base CX n g sp) (hr : Room (n + 2) X.A) (hx : Passes CX X E) :
    CallR X (.type "bool") (rBoolD C sp E) := by
  intro pins s σ H xs us Q I r h
  obtain ⟨a, dx, fs, rfl, ha, q⟩ := h
  obtain ⟨u, rfl, ru⟩ := vals1 r
  obtain rfl : u = Value.ref a := ru
  have hr1 : Room (n + 1) X.A.in1 := Room.in1 hr
  have hr2 : Room n X.A.in1.in1 := hr1.in1
  refine callType_codes (T := "bool") (Bi := Builtin.«object.__init__») (Q₁ := fun v s₁ => ∃ c, v = .bool c ∧ EP X pins σ Q v s₁) F.called_bool (F.typeCall_bool_1 _) PySem.F.entry_object_init ?_ ?_
  · refine codeAny_of_tree ?_
    show wpAny _ X.A.in1.in1 (do checkBuiltinCall "bool.__new__" ⟨[.type "bool", .ref a], []⟩; again (.builtin "bool.__new__" ⟨[.type "bool", .ref a], []⟩)) _ _ s
    refine wpAny_bind (wpAny_of_eq (F.newCall_bool_1 _) (wpAny_pure ⟨plainId_quiet (by decide +kernel) _, codeAny_builtin F.entry_bool_new ?_⟩))
    rw [Around.under_plainId (by decide +kernel) _]
    obtain ⟨hp, gn, d, tk, os⟩ := s
    have f1 := F.conv_sub_bool
    have key : ∀ {Q₂ : Bool → Shared → Prop}, (∀ c s' , EP X pins σ Q (.bool c) s' → Q₂ c s') → wpAny (model X.prog X.w) X.A.in1.in1 (truthy (.ref a)) Q₂ X.xe ⟨hp, gn, d, tk, os⟩ := fun {Q₂} hQ =>
      truthy_D hs hf G hr2 I.env0.in1.in1 hx I ha q fun c s' H' I' q' => hQ c s' ⟨.bl c, H', I', rfl, q'⟩
    show wpAny _ _ (Builtin.«bool.__new__» ⟨[.type "bool", .ref a], []⟩) _ _ _
    wp_walk using key
    intro c s' hq
    exact wpAny_pure ⟨_, rfl, hq⟩
  · rintro obj s₁ ⟨c, rfl, hq⟩
    exact ⟨PySem.typeIs_bool _ _, F.args_object_init_2 _ _, object_init_meets F.called_bool.init.lookup F.called_bool.made (by decide) X.prog X.w X.A.in1 _ s₁ ⟨PySem.typeIs_bool _ _, rfl, hq⟩⟩
end
/-- what a for walks is told in one of two ways -/
theorem pi_or {X : Cx} {tg e : Expr} {t u : TI} (h : PI X tg e t) (g : PI X tg e u) : PI X tg e (fun σ H R => t σ H R ∨ u σ H R) := by
  constructor
  rintro pins s σ H R I (q | q)
  · exact h.run pins s σ H R I q
  · exact g.run pins s σ H R I q
open AutoSeq1 in
theorem extend_tup (l b : Addr) (xs ys : Array Value) (n m : Nat) (dd : Option Addr) (sl : Array (Option Value))
    (h0 : ¬ (!xs.isEmpty && Builtin.List.listTooLong (xs.size + ys.size)) = true) (h1 : xs.size ≤ sizeLine) (h2 : (xs ++ ys).size ≤ sizeLine + 1) :
    Meets (Builtin.«list.extend» ⟨[.ref l, .ref b], []⟩) (fun _ R s => s.heap.get? l = some ⟨.type "list", none, .seq xs n, #[]⟩ ∧
      s.heap.get? b = some ⟨.type "tuple", dd, .seq ys m, sl⟩ ∧ R (.ok (.ret Value.none)) ⟨s.heap.update l (Obj.mapSeq fun x => x ++ ys), s.gens, s.drawn, s.toks, s.os⟩) := by
  refine .of_wp ?_
  rintro prog w A R ⟨hp, g, d, tk, os⟩ ⟨hl, hb, h⟩
  have f1 := idx_int
  have f2 := PySem.AutoSeq1.sub_tuple_tuple
  have f3 := PySem.AutoSeq1.sub_list_list
  have f4 := PySem.AutoSeq1.sub_tuple_list
  have f5 := PySem.AutoSeq1.sub_list_tuple
  wp_walk using (wpAny_updateSeq hl rfl (hz := h1) (_hz' := h2)), wpAny_loadPart' hl, wpAny_loadPart' hb
  exact ⟨_, rfl, h⟩
/-- l.extend(t), t a tuple -/
def rExtendT (K : PySem.W.Frag) : V → List V → Hp → VK → Prop := fun x vs H Q => ∃ l b xs zs, x = .ref l ∧ vs = [.ref b] ∧ H l = some (.lst xs) ∧ SqT K H b zs ∧ xs.length + zs.length ≤ sizeLine ∧ Q .non (upd H l (.lst (xs ++ zs)))
theorem mt_extendT {X : Cx} : MtM X "list.extend" (rExtendT X.K) := by
  intro pins s σ H x vs v us Q I rx rv h
  obtain ⟨l, b, xs, zs, rfl, rfl, hH, hB, hz, q⟩ := h
  cases rx
  obtain ⟨u, rfl, ru⟩ := rv.one
  cases ru
  obtain ⟨z, its, n, r, hl, e⟩ := I.lstM hH
  obtain ⟨its2, r2, ⟨⟨cls2, dd2, data2, sl2⟩, e2, hc2, n2, hd2⟩, hz2⟩ := I.tuple hB
  simp only at hc2 hd2
  subst hc2 hd2
  have hl2 := r2.length
  have hsz : its.toArray.size + its2.toArray.size ≤ sizeLine := by rw [List.size_toArray, List.size_toArray]; omega
  have hlong : ¬ (!its.toArray.isEmpty && Builtin.List.listTooLong (its.toArray.size + its2.toArray.size)) = true := by
    rw [notLongL hsz, Bool.and_false]
    exact Bool.false_ne_true
  refine call_meets F.slot_list_extend ⟨_, e, rfl⟩ F.entry_list_extend (F.args_list_extend_2 _ _)
    (extend_tup l b its.toArray its2.toArray n n2 dd2 sl2 hlong (by rw [List.size_toArray]; omega) (by rw [Array.size_append]; omega)) ⟨e, e2, ?_⟩
  refine ⟨.non, _, I.lset (its' := its ++ its2) hH e (by simp) (r.append r2) ?_, rfl, q⟩
  rw [List.length_append]
  omega
/-- bool(t), t a tuple -/
theorem call_boolTup {X : Cx} : CallR X (.type "bool") (fun xs H Q => ∃ (a : Addr) (zs : List V), xs = [.ref a] ∧ SqT X.K H a zs ∧ Q (.bl (!zs.isEmpty)) H) := by
  intro pins s σ H xs us Q I r h
  obtain ⟨a, zs, rfl, hq, q⟩ := h
  obtain rfl := Vals.ref1 r
  obtain ⟨its, rv, pl, hz⟩ := I.tuple hq
  have hl := line63
  have hlen := rv.length
  refine callType_codes (T := "bool") (Bi := Builtin.«object.__init__») (Q₁ := fun v s₁ => ∃ c, v = .bool c ∧ EP X pins σ Q v s₁) F.called_bool (F.typeCall_bool_1 _) PySem.F.entry_object_init ?_ ?_
  · refine codeAny_of_tree ?_
    show wpAny _ X.A.in1.in1 (do checkBuiltinCall "bool.__new__" ⟨[.type "bool", .ref a], []⟩; again (.builtin "bool.__new__" ⟨[.type "bool", .ref a], []⟩)) _ _ s
    refine wpAny_bind (wpAny_of_eq (F.newCall_bool_1 _) (wpAny_pure ⟨plainId_quiet (by decide +kernel) _, codeAny_builtin F.entry_bool_new ?_⟩))
    rw [Around.under_plainId (by decide +kernel) _]
    obtain ⟨hp, gn, d, tk, os⟩ := s
    have f1 := F.conv_sub_bool
    have key : ∀ {Q₂ : Bool → Shared → Prop}, (∀ s', EP X pins σ Q (.bool (!zs.isEmpty)) s' → Q₂ (!zs.isEmpty) s') → wpAny (model X.prog X.w) X.A.in1.in1 (truthy (.ref a)) Q₂ X.xe ⟨hp, gn, d, tk, os⟩ := fun {Q₂} hQ =>
      truthy_tuple pl (by simp only [List.size_toArray]; omega) (by rw [isEmpty_of rv]; exact hQ _ ⟨.bl (!zs.isEmpty), H, I.tok _, rfl, q⟩)
    show wpAny _ _ (Builtin.«bool.__new__» ⟨[.type "bool", .ref a], []⟩) _ _ _
    wp_walk using key
    intro s' hq
    exact wpAny_pure ⟨_, rfl, hq⟩
  · rintro obj s₁ ⟨c, rfl, hq⟩
    exact ⟨PySem.typeIs_bool _ _, F.args_object_init_2 _ _, object_init_meets F.called_bool.init.lookup F.called_bool.made (by decide) X.prog X.w X.A.in1 _ s₁ ⟨PySem.typeIs_bool _ _, rfl, hq⟩⟩
end Pk

/-! ## Rules inside comprehensions, the table of classes named -/
namespace Pk
open PySem PySem.Spec PyProof.Rows L2
section
variable {X : Cx} {tg o e l : Expr} {to te tl : TE} {KK : PySem.W.Frag}
theorem pi_listK (hK : X.K = KK) (hl : PE X l tl) : PI X tg l (iList KK tl) := by
  subst hK
  exact pi_list hl
theorem pi_tupK (hK : X.K = KK) (hl : PE X l tl) : PI X tg l (iTup KK tl) := by
  subst hK
  exact pi_tup hl
theorem ix_listK (hK : X.K = KK) : IxR X (rIxL KK) := by
  subst hK
  exact ix_list
theorem ix_tupK (hK : X.K = KK) : IxR X (rIxT KK) := by
  subst hK
  exact ix_tup
theorem pe_joinK {apos pos : Pos} (hK : X.K = KK) (ho : PE X o to) (he : PE X e te) (hs : starEach [e] X.env = [(false, eval e X.env)] := by rfl) (hbase : attributeBase o "join" X.env (eval o X.env) = eval o X.env := by rfl) (hline : (apos.endLine == pos.line) = true := by rfl) :
    PE X (.Call (.Attribute o "join" apos) [e] [] pos) (tM1 (fun x xs H Q => ∃ a p, ∃ ys : List Str, x = .str a ∧ xs = [.ref p] ∧ (SqL KK H p (ys.map V.str) ∨ SqT KK H p (ys.map V.str)) ∧
      (ys.map (·.length)).sum + ys.length * a.length ≤ 16777216 ∧ Q (.str (Txt.join a ys)) H) to te) := by
  subst hK
  exact pe_join ho he hs hbase hline
end
end Pk

/-! ## More rules inside comprehensions, the table of classes named -/
namespace Pk
open PySem PySem.Spec PyProof.Rows L2
section
variable {X : Cx} {KK : PySem.W.Frag}
theorem call_isiN (hK : X.K = KK) : CallR X (.builtin "isinstance") (rIsi KK) := by
  subst hK
  exact call_isi
theorem op_in_seqN (hK : X.K = KK) : OpR X (compareOp .In) (rIn KK false) := by
  subst hK
  exact op_in_seq
theorem op_notIn_seqN (hK : X.K = KK) : OpR X (compareOp .NotIn) (rIn KK true) := by
  subst hK
  exact op_notIn_seq
theorem call_len_seqN (hK : X.K = KK) : CallR X (.builtin "len") (fun xs H Q => ∃ p ys, xs = [.ref p] ∧ (SqL KK H p ys ∨ SqT KK H p ys) ∧ Q (.int ys.length) H) := by
  subst hK
  exact call_len_seq
end
end Pk

/-! ## != of lists whose items have an own ==; != of an instance and anything; C(e, ..) in a try -/
namespace Pk
open PySem PySem.Spec PyProof.Rows L2 PySem.SeqAt
open AutoSeq1 (wpAny_loadPart')
open MeetsSeq MeetsSeq2 MeetsSeq3
section
variable {prog : Program} {w : World} {A : Around} {R : Result → Shared → Prop}
theorem nl_turns (la lb : Addr) (many : Nat) (J : Nat → Shared → Prop) (each : GQ.ListI prog w A (fun e s' => R (.error e) s') la lb many J) (done : ∀ z, J many z → R (.ok (.ret (.bool false))) z) :
    ∀ (left i : Nat), many - i = left → i ≤ many → ∀ z, J i z →
      wpAny (model prog w) A.in1 (Builtin.«list.__eq__.loop» ⟨[.ref la, .ref lb, rawInt i, rawInt 3], []⟩) (GQ.FinOf prog w A R) (fun e s' => R (.error e) s') z
  | 0, i, hk, hi, z, hJ => by
    obtain ⟨xs, ys, c1, c2, ga, gb, n1, n2, _⟩ := each _ _ hJ
    have same : i = many := by omega
    have good : R (.ok (.ret (.bool false))) z := done z (same ▸ hJ)
    obtain ⟨hp, g, d, tk, os⟩ := z
    wp_walk using wpAny_loadPart' ga, wpAny_loadPart' gb
    rw [show xs[((i : Nat) : Int).toNat]? = none from by simp; omega, show ys[((i : Nat) : Int).toNat]? = none from by simp; omega]
    wp_walk using wpAny_loadPart' ga, wpAny_loadPart' gb
    show R (.ok (.ret (.bool (xs.size != ys.size)))) _
    rw [n1, n2]
    simpa using good
  | left + 1, i, hk, hi, z, hJ => by
    obtain ⟨xs, ys, c1, c2, ga, gb, n1, n2, one⟩ := each _ _ hJ
    have k1 : i < xs.size := by omega
    have k2 : i < ys.size := by omega
    have one' := one k1 k2
    obtain ⟨hp, g, d, tk, os⟩ := z
    wp_walk using wpAny_loadPart' ga, wpAny_loadPart' gb
    rw [show xs[((i : Nat) : Int).toNat]? = some xs[i] from by simp [k1], show ys[((i : Nat) : Int).toNat]? = some ys[i] from by simp [k2]]
    refine wpAny_bind (wpAny_mono one' (fun yes z2 q2 => ?_) fun _ _ bad => bad)
    obtain ⟨rfl, q2⟩ := q2
    have more := nl_turns la lb many J each done left (i + 1) (by omega) (by omega) z2 q2
    obtain ⟨hp2, g2, d2, tk2, os2⟩ := z2
    wp_walk
    rw [show ((i : Int) + 1) = ((i + 1 : Nat) : Int) from by omega]
    exact ⟨plainId_quiet plain_eq_loop _, codeAny_builtin entry_eq_loop (by
      rw [Around.under_plainId plain_eq_loop _]
      exact more)⟩
theorem nl_all (la lb : Addr) (many : Nat) (J : Nat → Shared → Prop) (each : GQ.ListI prog w A (fun e s' => R (.error e) s') la lb many J) (done : ∀ z, J many z → R (.ok (.ret (.bool false))) z) {z : Shared} (h0 : J 0 z) :
    wpAny (model prog w) A.in1 (Builtin.«list.__ne__» ⟨[.ref la, .ref lb], []⟩) (GQ.FinOf prog w A R) (fun e s' => R (.error e) s') z := by
  obtain ⟨xs, ys, c1, c2, ga, gb, n1, n2, _⟩ := each _ _ h0
  have from0 := nl_turns (A := A) (R := R) la lb many J each done _ 0 rfl (Nat.zero_le _) z h0
  obtain ⟨hp, g, d, tk, os⟩ := z
  have isl := AutoSeq1.sub_list_list
  have alike : ¬ (xs.size != ys.size) = true := by simp [n1, n2]
  wp_walk using wpAny_loadPart' ga, wpAny_loadPart' gb
  exact ⟨plainId_quiet plain_eq_loop _, codeAny_builtin entry_eq_loop (by
    rw [Around.under_plainId plain_eq_loop _]
    exact from0)⟩
theorem rc_listNe {la lb : Addr} {many : Nat} {Q E : Value → Shared → Prop} {z : Shared} (hu : A.units < cLine) (J : Nat → Shared → Prop) (each : GQ.ListI prog w A E la lb many J) (done : ∀ z, J many z → Q (.bool false) z) (h0 : J 0 z) :
    wpAny (model prog w) A (richCompare .NotEq (.ref la) (.ref lb)) Q E z := by
  obtain ⟨xs, ys, c1, c2, ga, gb, _, _, _⟩ := each _ _ h0
  refine wpAny_richCompare_same_room (op := .NotEq) ⟨_, ga, rfl⟩ ⟨_, gb, rfl⟩ F.slot_list_ne (GQ.call_here F.slot_list_ne ⟨_, ga, rfl⟩ F.entry_list_ne (F.args_list_ne_2 _ _) ?_) hu
  exact nl_all (R := wants (fun v s' => v ≠ .notImplemented ∧ Q v s') E) la lb many J each (fun s' q => ⟨(fun x => nomatch x), done s' q⟩) h0
end
section
variable {X : Cx} {n : Nat} {D : Eqv}
/-- xs != ys, two lists whose items are equal one by one -/
def rNeG (D : Eqv) : R2 := fun x y H Q => DList D x y H ∧ ∀ H', Ext H H' → Q (.bl false) H'
theorem op_neG (hD : Mon D) (h : EqG X n D) (hr : Room (n + 1) X.A) : OpR X (compareOp .NotEq) (rNeG D) := by
  intro pins s σ H x y v u Q I rx ry hq
  obtain ⟨⟨a, b, xs, ys, rfl, rfl, ha, hb, p⟩, q⟩ := hq
  cases rx
  cases ry
  show wpAny (model X.prog X.w) X.A (richCompare .NotEq (.ref a) (.ref b)) (EP X pins σ Q) X.xe s
  refine rc_listNe (many := xs.length) hr.units0 (fun _ s' => LoopI X pins σ H s') (fun i s' L => ?_) (fun s' L => ?_) ⟨H, I, Ext.rfl'⟩
  · obtain ⟨H1, I1, e1⟩ := id L
    obtain ⟨z1, its, k1, r1, g1⟩ := I1.hok a _ (e1 _ _ ha)
    obtain ⟨z2, its2, k2, r2, g2⟩ := I1.hok b _ (e1 _ _ hb)
    exact ⟨its.toArray, its2.toArray, k1, k2, g1, g2, by rw [List.size_toArray, ← r1.length], by rw [List.size_toArray, ← r2.length, ← p.1], fun h1 h2 => turnG hD h ⟨hr, rfl⟩ p r1 r2 i h1 h2 s' L⟩
  · obtain ⟨H1, I1, e1⟩ := L
    exact ⟨.bl false, H1, I1, rfl, q H1 e1⟩
end
section
variable {M : Model} {prog : Program} {w : World} {A : Around} {E : Value → Shared → Prop} {s : Shared} {K : PySem.W.Frag} {x C g : Addr} {ox : Obj} {od : Option Obj} {b tb : Value}
theorem cmp_neA {Q : Value → Shared → Prop} (hu : A.units < cLine) (hu1 : A.in1.units < cLine) (X : K.In s.heap) (I : PySem.W.InstAt s.heap x ox C od) (hb : PySem.W.Looks (model prog w) s.heap (typeOf b) tb) (hnf : PySem.W.notFirst K C tb = true)
    (hn : PySem.W.findIn K (.ref C) "__ne__" = some (some (.builtin "object.__ne__"))) (hm : PySem.W.mroIn K C (.type "object") = some true)
    (hs : PySem.W.findIn K (.ref C) "__eq__" = some (some (.ref g))) (hf : PySem.W.isFn K (.ref g) = true)
    (h : wpAny (model prog w) A.in1 (call (.ref g) [.ref x, b]) (fun v s' => ∃ c, v = .bool c ∧ Q (.bool (!c)) s') E s) : wpAny (model prog w) A (richCompare .NotEq (.ref x) b) Q E s := by
  have mine : wpAny (model prog w) A (tryCompare (.ref x) "__ne__" b) (fun r s' => ∃ v, r = some v ∧ Q v s') E s := by
    unfold tryCompare
    refine wpAny_bind (ifBound_objNe X I hn (call_objNe hu1 X I hm hs hf (wpAny_mono h (fun v s' hv => ?_) fun _ _ e => e)))
    obtain ⟨c, rfl, hq⟩ := hv
    exact ⟨c, rfl, wpAny_pure ⟨_, rfl, hq⟩⟩
  unfold richCompare
  simp only [oneThing_ref]
  refine wpAny_holding (wpAny_bind (wpAny_cRoomFor hu ?_))
  rw [cmpInfo_NotEq]
  refine wpAny_bind (I.type.here (wpAny_bind (hb.here ?_)))
  split
  · rename_i away
    have no : PySem.W.subIn K tb (.ref C) = some false := by
      rcases Bool.or_eq_true_iff.mp hnf with same | no
      · rw [beq_iff_eq.mp same] at away
        simp at away
      · exact beq_iff_eq.mp no
    refine wpAny_bind ((PySem.W.looks_subIn X no).here ?_)
    simp only [Bool.false_eq_true, if_false]
    refine wpAny_bind (wpAny_mono mine (fun r s' got => ?_) fun _ _ e => e)
    obtain ⟨v, rfl, hq⟩ := got
    exact wpAny_pure hq
  · refine wpAny_bind (wpAny_pure ?_)
    simp only [Bool.false_eq_true, if_false]
    refine wpAny_bind (wpAny_mono mine (fun r s' got => ?_) fun _ _ e => e)
    obtain ⟨v, rfl, hq⟩ := got
    exact wpAny_pure hq
end
section
variable {X : Cx} {n : Nat} {C g : Addr} {sp : Sp} {E : XK} {CX : CXT}
/-- x != y, x an instance of the class at C, whose == is at g, y anything that does not come first -/
def rNeOwnA (K : PySem.W.Frag) (C : Addr) (sp : Sp) (E : XK) : R2 := fun x y H Q => ∃ a dx fs t, x = .ref a ∧ H a = some (.ins C dx fs) ∧ TyX K H y t ∧ PySem.W.notFirst K C t = true ∧ sp [x, y] H (fun z H' => ∃ c, z = .bl c ∧ Q (.bl (!c)) H') E
theorem op_neOwnA {KK : PySem.W.Frag} (hK : X.K = KK) (hn : PySem.W.findIn X.K (.ref C) "__ne__" = some (some (.builtin "object.__ne__"))) (hm : PySem.W.mroIn X.K C (.type "object") = some true) (hs : PySem.W.findIn X.K (.ref C) "__eq__" = some (some (.ref g)))
    (hf : PySem.W.isFn X.K (.ref g) = true) (F : FnR X.prog X.w X.K X.mg X.base CX n g sp) (hr : Room (n + 1) X.A) (hx : Passes CX X E) : OpR X (compareOp .NotEq) (rNeOwnA KK C sp E) := by
  subst hK
  intro pins s σ H x y v u Q I rx ry h
  obtain ⟨a, dx, fs, t, rfl, ha, ty, hnf, q⟩ := h
  obtain rfl : v = Value.ref a := rx
  obtain ⟨mA, O, _⟩ := ins_get I.hok ha
  obtain ⟨od, J, _⟩ := O.look
  obtain ⟨P, Z, p, _⟩ := kit_of I ry ty
  have hr1 : Room n X.A.in1 := Room.in1 hr
  refine cmp_neA hr.units0 hr1.units0 I.kIn J (Z.ty _ _ I.kIn p) hnf hn hm hs hf (wpAny_mono (wpAny_call (SlX.run_at (us := [.ref a, u]) (ws := [.ref a, y]) F hr1 I.env0.in1 hx I (.cons rfl (.cons ry .nil)) q)) ?_ (fun _ _ x => x))
  rintro w s' ⟨z', H', I', rz, c, rfl, qz⟩
  obtain rfl : w = Value.bool c := rz
  exact ⟨c, rfl, .bl (!c), H', I', rfl, qz⟩
end
section
variable {X : Cx}
/-- x != y of two lists, or two tuples, of the very same things -/
def rNeSmT (K : PySem.W.Frag) : R2 := fun x y H Q => ∃ a b xs, x = .ref a ∧ y = .ref b ∧ SqT K H a xs ∧ SqT K H b xs ∧ (∀ v ∈ xs, flatB v = true ∨ ∃ p, v = .ref p) ∧ Q (.bl false) H
theorem op_neSmT (hu : X.A.units + 64 < cLine) : OpR X (compareOp .NotEq) (rNeSmT X.K) := by
  intro pins s σ H x y v u Q I rx ry h
  obtain ⟨a, b, xs, rfl, rfl, ha, hb, hp, q⟩ := h
  cases (show v = Value.ref a from rx)
  cases (show u = Value.ref b from ry)
  obtain ⟨us, r1, p1, _⟩ := I.tuple ha
  obtain ⟨ws, r2, p2, _⟩ := I.tuple hb
  have hsz : us.toArray.size = ws.toArray.size := by
    rw [List.size_toArray, List.size_toArray, ← r1.length, ← r2.length]
  refine SeqAt.RcNeAt.tuples (e := fun _ => true) p1 p2 (by omega) (fun j h1 h2 => ?_) X.prog X.w _ _ ?_
  · have k := sm_run (A := X.A.in1) (s := s) hp r1 r2 j (by simpa using h1) (by simpa using h2)
    simpa using k
  · rw [show ((List.range (min us.toArray.size ws.toArray.size)).all fun _ => true) = true from List.all_eq_true.mpr fun _ _ => rfl, hsz]
    simp only [BEq.rfl, Bool.and_self, Bool.not_true]
    exact ⟨.bl false, H, I, rfl, q⟩
end
section
variable {X : Cx} {k : Nat} {CX : CXT} {sp : Sp}
/-- C(e, ..) where an exception may leave to a clause here -/
def tMakeS (C : Addr) (dvs : List V) (sp : Sp) (E : L2.St → XK) (t : TA) : TE := fun σ H Q => t σ H fun vs H2 => ∀ x dx, H2 x = none → H2 dx = none → dx ≠ x →
  sp (.ref x :: (vs ++ dvs)) (upd (upd H2 dx (.own x)) x (.ins C dx [])) (fun v H3 => v = .non ∧ Q (.ref x) H3) (E σ)
theorem pe_makeS {C f : Addr} {fd : FuncData} {ps : List Str} {dvs : List V} {ds : List Value} {E : L2.St → XK} {x : Str} {p pos : Pos} {e : Expr} {es : List Expr} {t : TA}
    (M : Mk X.K C f) (F : FnOk X.prog X.w X.K X.mg X.base CX k f fd ps sp) (hr : Room (k + 1) X.A) (hg : Gl X x) (hm : X.mg x = some (.ref C)) (hb : Binds X.K fd ps ds) (hd : Vals dvs ds) (hx : ∀ σ, PassesAt CX X σ (E σ)) (ha : PA X (e :: es) t)
    (hdb : (x == ("__debug__" : Str)) = false := by decide) (he : starEach (e :: es) X.env = (false, eval e X.env) :: starEach es X.env := by rfl) (hpl : (backTo pos (starEach es X.env)).any (·.1) = false := by rfl) :
    PE X (.Call (.Name x p) (e :: es) [] pos) (tMakeS C dvs sp E t) := by
  refine ⟨fun pins s σ H Q I h => ?_⟩
  refine wpAny_Call_Name_kw (ld_glob I hg hm ?_ hdb)
  refine PySem.W.callWith_K (h₀ := X.base) I.ok.mod.kin M.kp (thn (ha.run pos pins s σ H _ I h) fun us s1 ⟨vs, H1, I1, r, q⟩ => ⟨I1.kIn, ?_⟩) he hpl
  have hq := q (s1.heap.objs.size + 1) s1.heap.objs.size (I1.hok.fresh (Nat.le_succ _)) (I1.hok.fresh (Nat.le_refl _)) (Nat.ne_of_lt (Nat.lt_succ_self _))
  have I3 := Inv.made (C := C) I1
  have r2 : Vals (V.ref (s1.heap.objs.size + 1) :: (vs ++ dvs)) (Value.ref (s1.heap.objs.size + 1) :: (us ++ ds)) := .cons rfl (r.append hd)
  have hl : (Value.ref (s1.heap.objs.size + 1) :: us ++ ds).length = ps.length := by
    have e := r2.length
    rw [F.len _ _ _ _ hq] at e
    exact e.symm
  refine wpAny_call (make_map (f := f) I1.kIn M.makes M.init (beq_iff_eq.mp M.fn) (codeAny_mono (F.run _ X.stack _ _ ⟨Value.ref (s1.heap.objs.size + 1) :: us, []⟩ (Value.ref (s1.heap.objs.size + 1) :: (us ++ ds)) _ _ (E σ) (hr.make C us [])
    (I3.env0.make C us []) (hb _ (Value.ref (s1.heap.objs.size + 1) :: us) I3.kIn hl) r2 hq) fun r s' hq' => ?_))
  cases r with
  | error e => exact hx σ pins _ _ e s' I3 hq'
  | ok fl =>
    cases fl with
    | ret u =>
      obtain ⟨v, H', I4, rv, ev, q3⟩ := I3.after hq'
      subst ev
      exact ⟨rv, ⟨V.ref (s1.heap.objs.size + 1), H', I4, rfl, q3⟩⟩
    | next => exact False.elim hq'
    | brk => exact False.elim hq'
    | cont => exact False.elim hq'
end
end Pk

/-! ## Dicts of the top with texts as keys; an own minus -/
namespace Pk
open PySem PySem.Spec PyProof.Rows L2
/-- the dict at a of the top, never changed: its texts and what stands at them -/
def CDic (K : PySem.W.Frag) (P : Params) (a : Addr) (kvs : List (Str × V)) : Prop :=
  ∃ es n, K.lookup a = some ⟨.type "dict", none, .dict es n, #[]⟩ ∧ PySem.W.KeysLit P es.toList ∧ (a == sysModules) = false ∧ ∀ x, Option.Rel RelV (kvs.lookup x) (findBy Value.isStrOf es x)
theorem cdic_ints {K : PySem.W.Frag} {P : Params} {a : Addr} {n : Nat} (ents : List (Str × Tok × Int × Tok))
    (hl : K.lookup a = some ⟨.type "dict", none, .dict (ents.map fun e => (⟨PyData.keyHash P e.1, .str e.1 e.2.1, .int e.2.2.1 e.2.2.2⟩ : DictEntry)).toArray n, #[]⟩) (hs : (a == sysModules) = false) :
    CDic K P a (ents.map fun e => (e.1, V.int e.2.2.1)) := by
  refine ⟨_, n, hl, ?_, hs, fun x => ?_⟩
  · clear hl
    induction ents with
    | nil => trivial
    | cons e r ih => exact ⟨⟨_, _, rfl, rfl⟩, ih⟩
  · clear hl
    unfold findBy
    rw [List.find?_toArray]
    induction ents with
    | nil => exact .none
    | cons e r ih =>
      simp only [List.map_cons, List.find?_cons, List.lookup_cons]
      have q : Value.isStrOf x (Value.str e.1 e.2.1) = (x == e.1) := by
        show (e.1 == x) = _
        rw [Bool.eq_iff_iff, beq_iff_eq, beq_iff_eq]
        exact eq_comm
      rw [q]
      cases hx : x == e.1 with
      | true => exact .some ⟨_, rfl⟩
      | false => exact ih
section
variable {X : Cx}
def rIxDK (K : PySem.W.Frag) (P : Params) : R2 := fun x y H Q => ∃ (a : Addr) (t : Str) (kvs : List (Str × V)) (z : V), x = .ref a ∧ y = .str t ∧ CDic K P a kvs ∧ kvs.lookup t = some z ∧ Q z H
theorem ix_dictK : IxR X (rIxDK X.K X.w.params) := by
  intro value slice pins s σ H x y v u Q I rx ry h hs
  obtain ⟨a, t, kvs, z, rfl, rfl, ⟨es, n, hl, hk, _, r⟩, e, q⟩ := h
  cases rx
  obtain ⟨tk, rfl⟩ := ry
  obtain ⟨m, hF⟩ := I.fr
  have hm := PySem.W.mapOf_K (prog := X.prog) (I.ok.mod.kin.keeps hF.keep) hl hk
  have rr := r t
  rw [e] at rr
  cases hf : findBy Value.isStrOf es t with
  | none =>
    rw [hf] at rr
    cases rr
  | some w =>
    rw [hf] at rr
    cases rr with
    | some rv => exact tail_any hm.typeIs slot_dict_getitem.lookup (wpAny_getItem_of (strKind_is X.prog X.w t tk) hm hf ⟨z, H, I.tok _, rv, q⟩) hs
def tDGetK (K : PySem.W.Frag) (P : Params) (td ty tx : TE) : TE := fun σ H Q => td σ H fun x H1 => ∃ (a : Addr) (kvs : List (Str × V)), x = .ref a ∧ CDic K P a kvs ∧ ty σ H1 fun y H2 => tx σ H2 fun z H3 => ∃ t, y = .str t ∧ Q ((kvs.lookup t).getD z) H3
variable {o e f : Expr} {apos cpos : Pos} {td ty tx : TE}
theorem pe_dgetK (ho : PE X o td) (he : PE X e ty) (hf : PE X f tx) (m : M2 X o "get" apos e f cpos) : PE X (.Call (.Attribute o "get" apos) [e, f] [] cpos) (tDGetK X.K X.w.params td ty tx) := by
  refine ⟨fun pins s σ H Q I h => ?_⟩
  refine wpAny_Call_method m.base m.few m.line PySem.F.plainAttrs_dict PySem.F.slot_dict_get PySem.F.type_dict_get (thn (ho.run pins s σ H _ I h) fun u s1 ⟨x, H1, I1, rx, a, kvs, ex, ⟨es, n, hl, hk, hd, r⟩, q1⟩ => ?_)
  subst ex
  obtain rfl : u = Value.ref a := rx
  obtain ⟨m1, hF1⟩ := I1.fr
  have hm1 := PySem.W.mapOf_K (prog := X.prog) (I1.ok.mod.kin.keeps hF1.keep) hl hk
  refine ⟨hm1.typeIs, hm1.noDict, ?_⟩
  rw [m.trees]
  refine Calls.callWith_builtin rfl (Calls.evalArgs_plain (Calls.spliced_cons (thn (he.run pins s1 σ H1 _ I1 q1) fun iv s2 ⟨y, H2, I2, ry, q2⟩ =>
    Calls.spliced_cons (thn (hf.run pins s2 σ H2 _ I2 q2) fun fv s3 ⟨z, H3, I3, rz, t, ey, q3⟩ => Calls.spliced_nil ?_))))
  subst ey
  obtain ⟨tk, rfl⟩ := ry
  obtain ⟨m3, hF3⟩ := I3.fr
  have hm3 := PySem.W.mapOf_K (prog := X.prog) (I3.ok.mod.kin.keeps hF3.keep) hl hk
  refine call_meetsIn PySem.F.slot_dict_get hm3.typeIs PySem.F.entry_dict_get (PySem.F.args_dict_get_3 _ _ _) (meets_dict_get_default (strKind X.prog X.w) a (strKind_is X.prog X.w t tk) hd fv) ⟨_, hm3, ⟨_, H3, I3.tok _, ?_, q3⟩⟩
  have rr := r t
  revert rr
  generalize kvs.lookup t = o1
  generalize findBy Value.isStrOf es t = o2
  intro rr
  cases rr with
  | none => exact rz
  | some q => exact q
end
section
variable {X : Cx} {k n : Nat} {f C g : Addr} {fd : FuncData} {ps : List Str} {sp : Sp} {E : XK} {CX : CXT}
def rNegD (C : Addr) (sp : Sp) (E : XK) : V → Hp → VK → Prop := fun x H Q => ∃ a dx fs, x = .ref a ∧ H a = some (.ins C dx fs) ∧ sp [x] H Q E
theorem un_negD (hs : PySem.W.findIn X.K (.ref C) "__neg__" = some (some (.ref g))) (hf : PySem.W.isFn X.K (.ref g) = true) (F : FnR X.prog X.w X.K X.mg X.base CX n g sp) (hr : Room n X.A) (hx : Passes CX X E) :
    UnR X (unaryOp .USub) (rNegD C sp E) := by
  intro pins s σ H x v Q I rx h
  obtain ⟨a, dx, fs, rfl, ha, q⟩ := h
  obtain rfl : v = Value.ref a := rx
  obtain ⟨mA, O, _⟩ := ins_get I.hok ha
  obtain ⟨od, J, _⟩ := O.look
  obtain ⟨m, hF⟩ := I.fr
  exact PySem.W.ksp_neg hF I.ok.mod.kin J hs hf (wpAny_call (run_fnR (us := [.ref a]) (vs := [.ref a]) F hr hx I (.cons rfl .nil) q))
end
end Pk

namespace Pk
open PySem L2 TL SX
/-! ## Markers: mathematics of reading -/
abbrev Txt := List Nat
structure Tm where
  w : Txt
  s : Txt
  v : Txt ⊕ Nat
deriving DecidableEq
def wNot : Txt := [110, 111, 116]
def wAnd : Txt := [97, 110, 100]
def wOr : Txt := [111, 114]
def wOp (a : Bool) : Txt := if a then wAnd else wOr
def wAlways : Txt := [97, 108, 119, 97, 121, 115]
def wNever : Txt := [110, 101, 118, 101, 114]
def wSystem : Txt := [115, 121, 115, 116, 101, 109]
def wMachine : Txt := [109, 97, 99, 104, 105, 110, 101]
def wLevel : Txt := [108, 101, 118, 101, 108]
def fieldL : List Txt := [wSystem, wMachine, wLevel]
def operL : List Txt := [wAlways, wNever, wSystem, wMachine, wLevel]
def opT (w : Txt) : Tm := ⟨w, [], .inl []⟩
inductive Tr where
  | lf (t : Tm)
  | no (t : Tr)
  | bi (a : Bool) (t u : Tr)
def Tr.pfx : Tr → List Tm
  | .lf t => [t]
  | .no t => t.pfx ++ [opT wNot]
  | .bi a t u => t.pfx ++ u.pfx ++ [opT (wOp a)]
def bo (a : Bool) : Nat := if a then 2 else 1
def Tr.bd : Tr → Nat
  | .lf _ => 4
  | .no _ => 3
  | .bi a _ _ => bo a
def inP (b least : Nat) (x : Txt) : Txt := if b < least then [40] ++ x ++ [41] else x
def txV : Txt ⊕ Nat → Txt
  | .inl l => l
  | .inr n => numL n
def txTm (t : Tm) : Txt := if t.w ∈ fieldL then t.w ++ [32] ++ t.s ++ [32] ++ txV t.v else t.w
def Tr.wr : Tr → Txt
  | .lf t => txTm t
  | .no t => wNot ++ [32] ++ inP t.bd 3 t.wr
  | .bi a t u => inP t.bd (bo a) t.wr ++ [32] ++ wOp a ++ [32] ++ inP u.bd (bo a) u.wr
def Tr.val (ev : Tm → Bool) : Tr → Bool
  | .lf t => ev t
  | .no t => !t.val ev
  | .bi a t u => if a then t.val ev && u.val ev else t.val ev || u.val ev
def Tr.lvs : Tr → List Tm
  | .lf t => [t]
  | .no t => t.lvs
  | .bi _ t u => t.lvs ++ u.lvs
def Tr.sz : Tr → Nat
  | .lf _ => 1
  | .no t => t.sz + 1
  | .bi _ t u => t.sz + u.sz + 1
theorem pfx_sz : ∀ t : Tr, t.pfx.length = t.sz
  | .lf _ => rfl
  | .no t => by
    show (t.pfx ++ [opT wNot]).length = t.sz + 1
    rw [List.length_append, pfx_sz t]
    rfl
  | .bi a t u => by
    show (t.pfx ++ u.pfx ++ [opT (wOp a)]).length = t.sz + u.sz + 1
    rw [List.length_append, List.length_append, pfx_sz t, pfx_sz u]
    rfl
/-- same to whoever reads, asks or looks through -/
structure Eqv (t u : Tr) : Prop where
  wr : t.wr = u.wr
  bd : t.bd = u.bd
  val : ∀ ev, t.val ev = u.val ev
  lvs : t.lvs = u.lvs
  sz : t.sz = u.sz
theorem Eqv.rfl' (t : Tr) : Eqv t t := ⟨rfl, rfl, fun _ => rfl, rfl, rfl⟩
theorem Eqv.trans {t u v : Tr} (a : Eqv t u) (b : Eqv u v) : Eqv t v := ⟨a.wr.trans b.wr, a.bd.trans b.bd, fun ev => (a.val ev).trans (b.val ev), a.lvs.trans b.lvs, a.sz.trans b.sz⟩
theorem Eqv.no {t u : Tr} (a : Eqv t u) : Eqv (.no t) (.no u) := ⟨by simp [Tr.wr, a.wr, a.bd], rfl, fun ev => by simp [Tr.val, a.val], a.lvs, by simp [Tr.sz, a.sz]⟩
theorem Eqv.bi {o : Bool} {t u t' u' : Tr} (a : Eqv t u) (b : Eqv t' u') : Eqv (.bi o t t') (.bi o u u') :=
  ⟨by simp [Tr.wr, a.wr, a.bd, b.wr, b.bd], rfl, fun ev => by simp [Tr.val, a.val, b.val], by simp [Tr.lvs, a.lvs, b.lvs], by simp [Tr.sz, a.sz, b.sz]⟩
theorem Eqv.assoc (o : Bool) (x t u : Tr) : Eqv (.bi o (.bi o x t) u) (.bi o x (.bi o t u)) := by
  refine ⟨?_, rfl, fun ev => ?_, by simp [Tr.lvs], by simp [Tr.sz]; omega⟩
  · simp only [Tr.wr, Tr.bd, inP, Nat.lt_irrefl, if_false, List.append_assoc]
  · cases o
    · simp [Tr.val, Bool.or_assoc]
    · simp [Tr.val, Bool.and_assoc]
inductive Fr where
  | par
  | no
  | bi (a : Bool) (t : Tr)
def Fr.b : Fr → Nat
  | .par => 0
  | .no => 3
  | .bi a _ => bo a
def Fr.w : Fr → Txt
  | .par => [40]
  | .no => wNot
  | .bi a _ => wOp a
def Fr.red : Fr → Tr → Tr
  | .par, t => t
  | .no, t => .no t
  | .bi a u, t => .bi a u t
def Fr.st : Fr → List Tm
  | .bi _ u => u.pfx
  | _ => []
inductive EqF : Fr → Fr → Prop where
  | par : EqF .par .par
  | no : EqF .no .no
  | bi {a : Bool} {t u : Tr} (h : Eqv t u) : EqF (.bi a t) (.bi a u)
theorem EqF.rfl' : (f : Fr) → EqF f f
  | .par => .par
  | .no => .no
  | .bi _ t => .bi (Eqv.rfl' t)
theorem EqF.b {f g : Fr} (h : EqF f g) : f.b = g.b := by cases h <;> rfl
theorem EqF.red {f g : Fr} {t u : Tr} (h : EqF f g) (e : Eqv t u) : Eqv (f.red t) (g.red u) := by
  cases h with
  | par => exact e
  | no => exact e.no
  | bi h => exact h.bi e
inductive EqL : List Fr → List Fr → Prop where
  | nil : EqL [] []
  | cons {f g : Fr} {F G : List Fr} (h : EqF f g) (r : EqL F G) : EqL (f :: F) (g :: G)
theorem EqL.rfl' : (F : List Fr) → EqL F F
  | [] => .nil
  | f :: F => .cons (EqF.rfl' f) (EqL.rfl' F)
theorem EqF.trans {f g h : Fr} (a : EqF f g) (b : EqF g h) : EqF f h := by
  cases a with
  | par => exact b
  | no => exact b
  | bi x => cases b with | bi y => exact .bi (x.trans y)
theorem EqL.trans {F G H : List Fr} (a : EqL F G) : EqL G H → EqL F H := by
  induction a generalizing H with
  | nil => exact id
  | cons h _ ih => intro b; cases b with | cons k r => exact .cons (h.trans k) (ih r)
def shut (b : Nat) : List Fr → Tr → List Fr × Tr
  | [], t => ([], t)
  | f :: F, t => if b ≤ f.b then shut b F (f.red t) else (f :: F, t)
def EqS (x y : List Fr × Tr) : Prop := EqL x.1 y.1 ∧ Eqv x.2 y.2
theorem EqS.trans {x y z : List Fr × Tr} (a : EqS x y) (b : EqS y z) : EqS x z := ⟨a.1.trans b.1, a.2.trans b.2⟩
theorem shut_eq {b : Nat} {F G : List Fr} (h : EqL F G) : ∀ {t u : Tr}, Eqv t u → EqS (shut b F t) (shut b G u) := by
  induction h with
  | nil => exact fun e => ⟨.nil, e⟩
  | @cons f g F G k r ih =>
    intro t u e
    simp only [shut, k.b]
    by_cases hb : b ≤ g.b
    · rw [if_pos hb, if_pos hb]
      exact ih (k.red e)
    · rw [if_neg hb, if_neg hb]
      exact ⟨.cons k r, e⟩
def Pre (b : Nat) : List Fr → Prop
  | [] => True
  | f :: F => b ≤ f.b → f.b = b ∧ Pre b F
theorem pre4 : ∀ F, Pre 4 F
  | [] => trivial
  | f :: F => fun h => by cases f with
    | par => exact absurd h (by decide)
    | no => exact absurd h (by decide)
    | bi a _ => cases a <;> exact absurd h (by show ¬ 4 ≤ bo _; decide)
theorem pre_up {b c : Nat} (h : b ≤ c) : ∀ {F}, Pre b F → Pre c F
  | [], _ => trivial
  | f :: F, p => fun k => by
    obtain ⟨e, r⟩ := p (Nat.le_trans h k)
    have : b = c := by omega
    subst this
    exact ⟨e, r⟩
theorem shut_pre (b : Nat) : ∀ (F : List Fr) (t : Tr), Pre b (shut b F t).1
  | [], _ => trivial
  | f :: F, t => by
    unfold shut
    by_cases hb : b ≤ f.b
    · rw [if_pos hb]
      exact shut_pre b F _
    · rw [if_neg hb]
      exact fun k => absurd k hb
theorem bo_pos (a : Bool) : 1 ≤ bo a := by cases a <;> decide
theorem shut_assoc {a : Bool} {c : Nat} (hc : c ≤ bo a) (u : Tr) : ∀ (F : List Fr) (t : Tr), Pre (bo a) F → EqS (shut c (shut (bo a) F t).1 (.bi a (shut (bo a) F t).2 u)) (shut c F (.bi a t u))
  | [], t, _ => ⟨EqL.rfl' _, Eqv.rfl' _⟩
  | f :: F, t, p => by
    by_cases hb : bo a ≤ f.b
    · obtain ⟨e, r⟩ := p hb
      have e1 : shut (bo a) (f :: F) t = shut (bo a) F (f.red t) := by rw [shut, if_pos hb]
      have e2 : shut c (f :: F) (.bi a t u) = shut c F (f.red (.bi a t u)) := by rw [shut, if_pos (by omega)]
      rw [e1, e2]
      refine (shut_assoc hc u F _ r).trans (shut_eq (EqL.rfl' F) ?_)
      cases f with
      | par => cases a <;> exact absurd e (by decide)
      | no => cases a <;> exact absurd e (by decide)
      | bi o x =>
        have : o = a := by
          cases o <;> cases a <;> first | rfl | exact absurd e (by show ¬ bo _ = bo _; decide)
        subst this
        exact Eqv.assoc o x t u
    · have e1 : shut (bo a) (f :: F) t = (f :: F, t) := by rw [shut, if_neg hb]
      rw [e1]
      exact ⟨EqL.rfl' _, Eqv.rfl' _⟩
/-! ### the machine -/
def bnd (w : Txt) : Nat := if w = wNot then 3 else if w = wAnd then 2 else if w = [40] then 0 else 1
def popF (b : Nat) : List Txt → List Tm → List Txt × List Tm
  | [], s => ([], s)
  | h :: r, s => if b ≤ bnd h then popF b r (s ++ [opT h]) else (h :: r, s)
abbrev Ms := List Tm × List Txt × Bool
def stepM (m : Ms) (t : Tm) : Option Ms :=
  if m.2.2 then
    if t.w = [40] ∨ t.w = wNot then some (m.1, t.w :: m.2.1, true)
    else if t.w ∈ operL then some (m.1 ++ [t], m.2.1, false) else none
  else if t.w = wAnd ∨ t.w = wOr then some ((popF (bnd t.w) m.2.1 m.1).2, t.w :: (popF (bnd t.w) m.2.1 m.1).1, true)
  else if t.w = [41] then match (popF 1 m.2.1 m.1).1 with
    | _ :: r => some ((popF 1 m.2.1 m.1).2, r, false)
    | [] => none
  else none
def runM : Ms → List Tm → Option Ms
  | m, [] => some m
  | m, t :: ts => (stepM m t).bind fun m' => runM m' ts
theorem runM_append : ∀ (ts us : List Tm) (m : Ms), runM m (ts ++ us) = (runM m ts).bind fun m' => runM m' us
  | [], _, _ => rfl
  | t :: ts, us, m => by
    show (stepM m t).bind _ = ((stepM m t).bind _).bind _
    cases stepM m t with
    | none => rfl
    | some m' => exact runM_append ts us m'
def exprF (ts : List Tm) : Option (List Tm) := match runM ([], [], true) ts with
  | some (s, h, false) => if [40] ∈ h then none else some (s ++ h.map opT)
  | _ => none
def stL : List Fr → List Tm
  | [] => []
  | f :: F => stL F ++ f.st
theorem bnd_w (f : Fr) : bnd f.w = f.b := by
  cases f with
  | par => decide
  | no => decide
  | bi a _ => cases a <;> rfl
theorem pop_shut {b : Nat} (hb : 1 ≤ b) : ∀ (F : List Fr) (t : Tr), popF b (F.map Fr.w) (stL F ++ t.pfx) = ((shut b F t).1.map Fr.w, stL (shut b F t).1 ++ (shut b F t).2.pfx)
  | [], t => rfl
  | f :: F, t => by
    show (if b ≤ bnd f.w then _ else _) = _
    rw [bnd_w]
    by_cases h : b ≤ f.b
    · rw [if_pos h]
      have e1 : shut b (f :: F) t = shut b F (f.red t) := by rw [shut, if_pos h]
      rw [e1, ← pop_shut hb F (f.red t)]
      congr 1
      cases f with
      | par => exact absurd h (by show ¬ b ≤ 0; omega)
      | no => simp [stL, Fr.st, Fr.red, Tr.pfx, Fr.w]
      | bi a u => simp [stL, Fr.st, Fr.red, Tr.pfx, Fr.w]
    · rw [if_neg h]
      have e1 : shut b (f :: F) t = (f :: F, t) := by rw [shut, if_neg h]
      rw [e1]
      rfl
/-- the ways in which a tree may be laid out in terms; the number: how tight it holds -/
inductive Pcs : Tr → Nat → List Tm → Prop where
  | lf {t : Tm} (h : t.w ∈ operL) : Pcs (.lf t) 4 [t]
  | par {t : Tr} {b : Nat} {ts : List Tm} (h : Pcs t b ts) : Pcs t 4 (opT [40] :: (ts ++ [opT [41]]))
  | no {t : Tr} {b : Nat} {ts : List Tm} (h : Pcs t b ts) (hb : 3 ≤ b) : Pcs (.no t) 3 (opT wNot :: ts)
  | bi {a : Bool} {t u : Tr} {b c : Nat} {ts us : List Tm} (h : Pcs t b ts) (k : Pcs u c us) (hb : bo a ≤ b) (hc : bo a ≤ c) : Pcs (.bi a t u) (bo a) (ts ++ opT (wOp a) :: us)
theorem Pcs.pos {t : Tr} {b : Nat} {ts : List Tm} (h : Pcs t b ts) : 1 ≤ b := by
  cases h with
  | bi => exact bo_pos _
  | _ => decide
theorem step_op {s : List Tm} {h : List Txt} (a : Bool) : stepM (s, h, false) (opT (wOp a)) = some ((popF (bo a) h s).2, wOp a :: (popF (bo a) h s).1, true) := by
  cases a <;> rfl
theorem pcs_run {t : Tr} {b : Nat} {ts : List Tm} (h : Pcs t b ts) : ∀ F, Pre b F → ∃ G C, runM (stL F, F.map Fr.w, true) ts = some (stL G ++ C.pfx, G.map Fr.w, false) ∧ ∀ c, 1 ≤ c → c ≤ b → EqS (shut c G C) (shut c F t) := by
  induction h with
  | @lf t h =>
    intro F _
    refine ⟨F, .lf t, ?_, fun c _ _ => ⟨EqL.rfl' _, Eqv.rfl' _⟩⟩
    have h1 : ¬ (t.w = [40] ∨ t.w = wNot) := by
      intro e
      rcases e with e | e <;> rw [e] at h <;> exact absurd h (by decide)
    simp [runM, stepM, h1, h, Tr.pfx]
  | @par t b ts h ih =>
    intro F _
    obtain ⟨G, C, r, q⟩ := ih (.par :: F) (fun k => absurd k (by have := h.pos; show ¬ b ≤ 0; omega))
    have q1 := q 1 (by decide) h.pos
    have e1 : shut 1 (.par :: F) t = (.par :: F, t) := rfl
    rw [e1] at q1
    obtain ⟨ql, qe⟩ := q1
    cases hs : shut 1 G C with
    | mk G1 C1 =>
    rw [hs] at ql qe
    cases ql with
    | @cons f g F1 _ kf kr =>
    cases kf
    refine ⟨F1, C1, ?_, fun c h1 h2 => shut_eq kr qe⟩
    have r0 : stL (Fr.par :: F) = stL F := by simp [stL, Fr.st]
    rw [r0] at r
    show (stepM (stL F, F.map Fr.w, true) (opT [40])).bind _ = _
    have s0 : stepM (stL F, F.map Fr.w, true) (opT [40]) = some (stL F, (Fr.par :: F).map Fr.w, true) := rfl
    rw [s0]
    show runM _ (ts ++ [opT [41]]) = _
    rw [runM_append, r]
    show (stepM (stL G ++ C.pfx, G.map Fr.w, false) (opT [41])).bind _ = _
    have p := pop_shut (b := 1) (by decide) G C
    rw [hs] at p
    have s1 : stepM (stL G ++ C.pfx, G.map Fr.w, false) (opT [41]) = some (stL F1 ++ C1.pfx, F1.map Fr.w, false) := by
      show (match (popF 1 (G.map Fr.w) (stL G ++ C.pfx)).1 with
        | _ :: r => some ((popF 1 (G.map Fr.w) (stL G ++ C.pfx)).2, r, false)
        | [] => none) = _
      rw [p]
      simp [stL, Fr.st]
    rw [s1]
    rfl
  | @no t b ts h hb ih =>
    intro F p
    obtain ⟨G, C, r, q⟩ := ih (.no :: F) (fun k => by
      have : b = 3 := by
        have : b ≤ 3 := k
        omega
      subst this
      exact ⟨rfl, p⟩)
    refine ⟨G, C, ?_, fun c h1 h2 => ?_⟩
    · have r0 : stL (Fr.no :: F) = stL F := by simp [stL, Fr.st]
      rw [r0] at r
      exact r
    · have e1 : shut c (.no :: F) t = shut c F (.no t) := by
        rw [shut, if_pos (show c ≤ Fr.no.b from h2)]
        rfl
      rw [← e1]
      exact q c h1 (by omega)
  | @bi a t u b c ts us h k hb hc ih ik =>
    intro F p
    obtain ⟨G, C, r, q⟩ := ih F (pre_up hb p)
    have q1 := q (bo a) (bo_pos a) hb
    obtain ⟨G2, C2, r2, q2⟩ := ik (.bi a (shut (bo a) G C).2 :: (shut (bo a) G C).1) (fun kk => by
      have : c = bo a := by
        have : c ≤ bo a := kk
        omega
      subst this
      exact ⟨rfl, shut_pre _ _ _⟩)
    refine ⟨G2, C2, ?_, fun d h1 h2 => ?_⟩
    · rw [runM_append, r]
      show (stepM (stL G ++ C.pfx, G.map Fr.w, false) (opT (wOp a))).bind _ = _
      rw [step_op, pop_shut (bo_pos a)]
      exact r2
    · refine (q2 d h1 (by omega)).trans ?_
      have e1 : shut d (.bi a (shut (bo a) G C).2 :: (shut (bo a) G C).1) u = shut d (shut (bo a) G C).1 (.bi a (shut (bo a) G C).2 u) := by
        rw [shut, if_pos (show d ≤ (Fr.bi a _).b from h2)]
        rfl
      rw [e1]
      exact (shut_eq q1.1 (q1.2.bi (Eqv.rfl' u))).trans (shut_assoc h2 u F t p)
theorem shut_end : ∀ (F : List Fr) (t : Tr), (shut 1 F t).1 = [] → [40] ∉ F.map Fr.w ∧ stL F ++ t.pfx ++ (F.map Fr.w).map opT = (shut 1 F t).2.pfx
  | [], t, _ => ⟨by simp, by simp [stL, shut]⟩
  | f :: F, t, h => by
    by_cases hb : 1 ≤ f.b
    · have e1 : shut 1 (f :: F) t = shut 1 F (f.red t) := by rw [shut, if_pos hb]
      rw [e1] at h ⊢
      obtain ⟨n, e⟩ := shut_end F _ h
      rw [← e]
      cases f with
      | par => exact absurd hb (by decide)
      | no => exact ⟨fun m => by
          rcases List.mem_cons.mp m with m | m
          · exact absurd m (by decide)
          · exact n m, by simp [stL, Fr.st, Fr.red, Tr.pfx, Fr.w]⟩
      | bi a u => exact ⟨fun m => by
          rcases List.mem_cons.mp m with m | m
          · exact absurd m (by cases a <;> (show ¬ [40] = wOp _; decide))
          · exact n m, by simp [stL, Fr.st, Fr.red, Tr.pfx, Fr.w]⟩
    · rw [shut, if_neg hb] at h
      cases h
/-- what is laid out so is read as a tree that shows, answers and names the same -/
theorem pcs_expr {t : Tr} {b : Nat} {ts : List Tm} (h : Pcs t b ts) : ∃ u, Eqv u t ∧ exprF ts = some u.pfx := by
  have hp : Pre b [] := trivial
  obtain ⟨G, C, r, q⟩ := pcs_run h [] hp
  have q1 := q 1 (by decide) h.pos
  have e0 : (shut 1 G C).1 = [] := by
    have := q1.1
    cases hs : (shut 1 G C).1 with
    | nil => rfl
    | cons f F =>
      rw [hs] at this
      cases this
  obtain ⟨n, e⟩ := shut_end G C e0
  refine ⟨(shut 1 G C).2, q1.2, ?_⟩
  unfold exprF
  have r' : runM ([], [], true) ts = some (stL G ++ C.pfx, G.map Fr.w, false) := r
  rw [r']
  show (if [40] ∈ G.map Fr.w then none else some (stL G ++ C.pfx ++ (G.map Fr.w).map opT)) = _
  rw [if_neg n, e]
end Pk

namespace Pk
open PySem L2
open ClX (CRead CMet CVal)
def top (i : Nat) : Stmt := PySem.Challenge.pw_parcelindex_k15_markers_refused.main.body.getD i (.Pass ⟨0, 0, 0, 0⟩)
abbrev s_consists_of : Stmt := top 6
abbrev N_consists_of : List Str := ["text", "signs", "sign"]
abbrev P_consists_of : List Str := ["text", "signs"]
theorem S_consists_of : FnScope N_consists_of P_consists_of (defScope s_consists_of) := ⟨rfl, rfl, rfl, by decide +kernel, rfl, by decide +kernel, by decide +kernel⟩
abbrev s_is_string_of : Stmt := top 7
abbrev N_is_string_of : List Str := ["thing", "signs", "most"]
abbrev P_is_string_of : List Str := ["thing", "signs", "most"]
theorem S_is_string_of : FnScope N_is_string_of P_is_string_of (defScope s_is_string_of) := ⟨rfl, rfl, rfl, by decide +kernel, rfl, by decide +kernel, by decide +kernel⟩
abbrev s_number_in : Stmt := top 8
abbrev N_number_in : List Str := ["text", "last", "number"]
abbrev P_number_in : List Str := ["text", "last"]
theorem S_number_in : FnScope N_number_in P_number_in (defScope s_number_in) := ⟨rfl, rfl, rfl, by decide +kernel, rfl, by decide +kernel, by decide +kernel⟩
abbrev s_is_word : Stmt := top 14
abbrev N_is_word : List Str := ["thing"]
abbrev P_is_word : List Str := ["thing"]
theorem S_is_word : FnScope N_is_word P_is_word (defScope s_is_word) := ⟨rfl, rfl, rfl, by decide +kernel, rfl, by decide +kernel, by decide +kernel⟩
abbrev s_token_at : Stmt := top 32
abbrev N_token_at : List Str := ["text", "at", "signs", "end", "sign"]
abbrev P_token_at : List Str := ["text", "at"]
theorem S_token_at : FnScope N_token_at P_token_at (defScope s_token_at) := ⟨rfl, rfl, rfl, by decide +kernel, rfl, by decide +kernel, by decide +kernel⟩
abbrev s_tokens_of : Stmt := top 33
abbrev N_tokens_of : List Str := ["text", "tokens", "at", "token"]
abbrev P_tokens_of : List Str := ["text"]
theorem S_tokens_of : FnScope N_tokens_of P_tokens_of (defScope s_tokens_of) := ⟨rfl, rfl, rfl, by decide +kernel, rfl, by decide +kernel, by decide +kernel⟩
abbrev s_comparison_of : Stmt := top 34
abbrev N_comparison_of : List Str := ["tokens", "word", "sign", "worth", "number"]
abbrev P_comparison_of : List Str := ["tokens"]
theorem S_comparison_of : FnScope N_comparison_of P_comparison_of (defScope s_comparison_of) := ⟨rfl, rfl, rfl, by decide +kernel, rfl, by decide +kernel, by decide +kernel⟩
abbrev s_terms_of : Stmt := top 35
abbrev N_terms_of : List Str := ["tokens", "terms", "at", "term"]
abbrev P_terms_of : List Str := ["tokens"]
theorem S_terms_of : FnScope N_terms_of P_terms_of (defScope s_terms_of) := ⟨rfl, rfl, rfl, by decide +kernel, rfl, by decide +kernel, by decide +kernel⟩
abbrev s_expression_of : Stmt := top 36
abbrev N_expression_of : List Str := ["terms", "steps", "held", "wanted", "term", "word"]
abbrev P_expression_of : List Str := ["terms"]
theorem S_expression_of : FnScope N_expression_of P_expression_of (defScope s_expression_of) := ⟨rfl, rfl, rfl, by decide +kernel, rfl, by decide +kernel, by decide +kernel⟩
abbrev s_expression_in : Stmt := top 37
abbrev N_expression_in : List Str := ["thing", "tokens", "terms"]
abbrev P_expression_in : List Str := ["thing"]
theorem S_expression_in : FnScope N_expression_in P_expression_in (defScope s_expression_in) := ⟨rfl, rfl, rfl, by decide +kernel, rfl, by decide +kernel, by decide +kernel⟩
abbrev s_text_within : Stmt := top 38
abbrev N_text_within : List Str := ["text", "binding", "least"]
abbrev P_text_within : List Str := ["text", "binding", "least"]
theorem S_text_within : FnScope N_text_within P_text_within (defScope s_text_within) := ⟨rfl, rfl, rfl, by decide +kernel, rfl, by decide +kernel, by decide +kernel⟩
abbrev s_text_of_operand : Stmt := top 39
abbrev N_text_of_operand : List Str := ["word", "sign", "worth"]
abbrev P_text_of_operand : List Str := ["word", "sign", "worth"]
theorem S_text_of_operand : FnScope N_text_of_operand P_text_of_operand (defScope s_text_of_operand) := ⟨rfl, rfl, rfl, by decide +kernel, rfl, by decide +kernel, by decide +kernel⟩
abbrev s_text_of_expression : Stmt := top 40
abbrev N_text_of_expression : List Str := ["steps", "held", "word", "sign", "worth", "binding", "text", "inner", "last", "last_binding", "first", "first_binding", "before", "behind"]
abbrev P_text_of_expression : List Str := ["steps"]
theorem S_text_of_expression : FnScope N_text_of_expression P_text_of_expression (defScope s_text_of_expression) := ⟨rfl, rfl, rfl, by decide +kernel, rfl, by decide +kernel, by decide +kernel⟩
abbrev s_Marker_init : Stmt := inClass (top 53) 0
abbrev N_Marker_init : List Str := ["self", "text", "steps"]
abbrev P_Marker_init : List Str := ["self", "text"]
theorem S_Marker_init : FnScope N_Marker_init P_Marker_init (defScope s_Marker_init) := ⟨rfl, rfl, rfl, by decide +kernel, rfl, by decide +kernel, by decide +kernel⟩
abbrev s_Marker_str : Stmt := inClass (top 53) 8
abbrev N_Marker_str : List Str := ["self"]
abbrev P_Marker_str : List Str := ["self"]
theorem S_Marker_str : FnScope N_Marker_str P_Marker_str (defScope s_Marker_str) := ⟨rfl, rfl, rfl, by decide +kernel, rfl, by decide +kernel, by decide +kernel⟩
abbrev s_begin : Stmt := top 55
abbrev N_begin : List Str := ["_law_script"]
abbrev P_begin : List Str := ["_law_script"]
theorem S_begin : FnScope N_begin P_begin (defScope s_begin) := ⟨rfl, rfl, rfl, by decide +kernel, rfl, by decide +kernel, by decide +kernel⟩
abbrev s_mixed : Stmt := top 56
abbrev N_mixed : List Str := ["_law_cell", "_law_k", "_law_mixed_here"]
abbrev P_mixed : List Str := ["_law_cell", "_law_k"]
theorem S_mixed : FnScope N_mixed P_mixed (defScope s_mixed) := ⟨rfl, rfl, rfl, by decide +kernel, rfl, by decide +kernel, by decide +kernel⟩
abbrev s_next : Stmt := top 57
abbrev N_next : List Str := ["_law_draw", "_law_bound", "_law_found", "_law_known", "_law_cell"]
abbrev P_next : List Str := ["_law_draw", "_law_bound"]
theorem S_next : FnScope N_next P_next (defScope s_next) := ⟨rfl, rfl, rfl, by decide +kernel, rfl, by decide +kernel, by decide +kernel⟩
abbrev s_tree : Stmt := top 58
abbrev N_tree : List Str := ["_law_draw", "_law_deep", "_law_way", "_law_names_here", "_law_signs"]
abbrev P_tree : List Str := ["_law_draw", "_law_deep"]
theorem S_tree : FnScope N_tree P_tree (defScope s_tree) := ⟨rfl, rfl, rfl, by decide +kernel, rfl, by decide +kernel, by decide +kernel⟩
abbrev s_pieces : Stmt := top 60
abbrev N_pieces : List Str := ["_law_draw", "_law_tree_here", "_law_found", "_law_inner", "_law_one", "_law_far"]
abbrev P_pieces : List Str := ["_law_draw", "_law_tree_here"]
theorem S_pieces : FnScope N_pieces P_pieces (defScope s_pieces) := ⟨rfl, rfl, rfl, by decide +kernel, rfl, by decide +kernel, by decide +kernel⟩
abbrev s_loose : Stmt := top 61
abbrev N_loose : List Str := ["_law_draw", "_law_tokens", "_law_found", "_law_token", "_law_is_near", "_law_gap"]
abbrev P_loose : List Str := ["_law_draw", "_law_tokens"]
theorem S_loose : FnScope N_loose P_loose (defScope s_loose) := ⟨rfl, rfl, rfl, by decide +kernel, rfl, by decide +kernel, by decide +kernel⟩
abbrev s_told : Stmt := top 62
abbrev N_told : List Str := ["_law_deed", "_law_error", "_law_found", "e"]
abbrev P_told : List Str := ["_law_deed"]
theorem S_told : FnScope N_told P_told (defScope s_told) := ⟨rfl, rfl, rfl, by decide +kernel, rfl, by decide +kernel, by decide +kernel⟩
abbrev s_cut : Stmt := top 63
abbrev N_cut : List Str := ["_law_signs", "_law_found", "_law_last", "_law_sign", "_law_is_sign"]
abbrev P_cut : List Str := ["_law_signs"]
theorem S_cut : FnScope N_cut P_cut (defScope s_cut) := ⟨rfl, rfl, rfl, by decide +kernel, rfl, by decide +kernel, by decide +kernel⟩
abbrev s_is_comparison : Stmt := top 64
abbrev N_is_comparison : List Str := ["_law_some", "_law_letters", "_law_number", "_law_sign"]
abbrev P_is_comparison : List Str := ["_law_some"]
theorem S_is_comparison : FnScope N_is_comparison P_is_comparison (defScope s_is_comparison) := ⟨rfl, rfl, rfl, by decide +kernel, rfl, by decide +kernel, by decide +kernel⟩
abbrev s_operands : Stmt := top 65
abbrev N_operands : List Str := ["_law_tokens", "_law_found", "_law_at"]
abbrev P_operands : List Str := ["_law_tokens"]
theorem S_operands : FnScope N_operands P_operands (defScope s_operands) := ⟨rfl, rfl, rfl, by decide +kernel, rfl, by decide +kernel, by decide +kernel⟩
abbrev s_is_marker : Stmt := top 66
abbrev N_is_marker : List Str := ["_law_signs", "_law_tokens", "_law_left", "_law_is_on", "_law_at", "_law_row"]
abbrev P_is_marker : List Str := ["_law_signs"]
theorem S_is_marker : FnScope N_is_marker P_is_marker (defScope s_is_marker) := ⟨rfl, rfl, rfl, by decide +kernel, rfl, by decide +kernel, by decide +kernel⟩
abbrev s_bent : Stmt := top 67
abbrev N_bent : List Str := ["_law_draw", "_law_tokens", "_law_some", "_law_at", "_law_way", "_law_new"]
abbrev P_bent : List Str := ["_law_draw", "_law_tokens"]
theorem S_bent : FnScope N_bent P_bent (defScope s_bent) := ⟨rfl, rfl, rfl, by decide +kernel, rfl, by decide +kernel, by decide +kernel⟩
abbrev s_law : Stmt := top 68
abbrev N_law : List Str := ["_law_script", "_law_draw", "_law_bout", "_law_tokens", "_law_rows", "_law_signs", "_law_told_here", "_law_some", "_law_thing"]
abbrev P_law : List Str := ["_law_script"]
theorem S_law : FnScope N_law P_law (defScope s_law) := ⟨rfl, rfl, rfl, by decide +kernel, rfl, by decide +kernel, by decide +kernel⟩
abbrev s_BadMarker_init : Stmt := inClass (top 12) 0
abbrev N_BadMarker_init : List Str := ["self", "given"]
abbrev P_BadMarker_init : List Str := ["self", "given"]
theorem S_BadMarker_init : FnScope N_BadMarker_init P_BadMarker_init (defScope s_BadMarker_init) := ⟨rfl, rfl, rfl, by decide +kernel, rfl, by decide +kernel, by decide +kernel⟩
structure Ad where
  a_consists_of : Addr
  d_consists_of : FuncData
  a_is_string_of : Addr
  d_is_string_of : FuncData
  a_number_in : Addr
  d_number_in : FuncData
  a_is_word : Addr
  d_is_word : FuncData
  a_token_at : Addr
  d_token_at : FuncData
  a_tokens_of : Addr
  d_tokens_of : FuncData
  a_comparison_of : Addr
  d_comparison_of : FuncData
  a_terms_of : Addr
  d_terms_of : FuncData
  a_expression_of : Addr
  d_expression_of : FuncData
  a_expression_in : Addr
  d_expression_in : FuncData
  a_text_within : Addr
  d_text_within : FuncData
  a_text_of_operand : Addr
  d_text_of_operand : FuncData
  a_text_of_expression : Addr
  d_text_of_expression : FuncData
  a_Marker_init : Addr
  d_Marker_init : FuncData
  a_Marker_str : Addr
  d_Marker_str : FuncData
  a_begin : Addr
  d_begin : FuncData
  a_mixed : Addr
  d_mixed : FuncData
  a_next : Addr
  d_next : FuncData
  a_tree : Addr
  d_tree : FuncData
  a_pieces : Addr
  d_pieces : FuncData
  a_loose : Addr
  d_loose : FuncData
  a_told : Addr
  d_told : FuncData
  a_cut : Addr
  d_cut : FuncData
  a_is_comparison : Addr
  d_is_comparison : FuncData
  a_operands : Addr
  d_operands : FuncData
  a_is_marker : Addr
  d_is_marker : FuncData
  a_bent : Addr
  d_bent : FuncData
  a_law : Addr
  d_law : FuncData
  c_law : Addr
  P_law : Addr
  a_BadMarker_init : Addr
  d_BadMarker_init : FuncData
  a_Marker : Addr
  a_BadMarker : Addr
  k_BINDINGS : Addr
  k_SIGNS : Addr
  k_LEVEL_SIGNS : Addr
  k_FIELDS : Addr
  k_OPERANDS : Addr
  k_NOT : Addr
  k_NOT0 : Addr
  k_AND : Addr
  k_AND0 : Addr
  k_OR : Addr
  k_OR0 : Addr
  t_LETTERS : Tok
  t_DIGITS : Tok
  t_HIGHEST : Tok
  t_WORDS : Tok
  t_TIGHTEST : Tok
def Ad.tabs (D : Ad) : List (Addr × Str) := [(D.P_law, ("law" ++ ".<locals>.") ++ "<lambda>")]
def Ad.cs (D : Ad) : List (Addr × Addr) := [(D.c_law, D.P_law)]
structure TexW (w : World) (K : PySem.W.Frag) (mg : Str → Option Value) (D : Ad) : Prop where
  consists_of_F : Fun K "consists_of" "consists_of" s_consists_of D.a_consists_of D.d_consists_of
  consists_of_g : mg "consists_of" = some (.ref D.a_consists_of)
  consists_of_b : Binds K D.d_consists_of P_consists_of []
  is_string_of_F : Fun K "is_string_of" "is_string_of" s_is_string_of D.a_is_string_of D.d_is_string_of
  is_string_of_g : mg "is_string_of" = some (.ref D.a_is_string_of)
  is_string_of_b : Binds K D.d_is_string_of P_is_string_of []
  number_in_F : Fun K "number_in" "number_in" s_number_in D.a_number_in D.d_number_in
  number_in_g : mg "number_in" = some (.ref D.a_number_in)
  number_in_b : Binds K D.d_number_in P_number_in []
  is_word_F : Fun K "is_word" "is_word" s_is_word D.a_is_word D.d_is_word
  is_word_g : mg "is_word" = some (.ref D.a_is_word)
  is_word_b : Binds K D.d_is_word P_is_word []
  token_at_F : Fun K "token_at" "token_at" s_token_at D.a_token_at D.d_token_at
  token_at_g : mg "token_at" = some (.ref D.a_token_at)
  token_at_b : Binds K D.d_token_at P_token_at []
  tokens_of_F : Fun K "tokens_of" "tokens_of" s_tokens_of D.a_tokens_of D.d_tokens_of
  tokens_of_g : mg "tokens_of" = some (.ref D.a_tokens_of)
  tokens_of_b : Binds K D.d_tokens_of P_tokens_of []
  comparison_of_F : Fun K "comparison_of" "comparison_of" s_comparison_of D.a_comparison_of D.d_comparison_of
  comparison_of_g : mg "comparison_of" = some (.ref D.a_comparison_of)
  comparison_of_b : Binds K D.d_comparison_of P_comparison_of []
  terms_of_F : Fun K "terms_of" "terms_of" s_terms_of D.a_terms_of D.d_terms_of
  terms_of_g : mg "terms_of" = some (.ref D.a_terms_of)
  terms_of_b : Binds K D.d_terms_of P_terms_of []
  expression_of_F : Fun K "expression_of" "expression_of" s_expression_of D.a_expression_of D.d_expression_of
  expression_of_g : mg "expression_of" = some (.ref D.a_expression_of)
  expression_of_b : Binds K D.d_expression_of P_expression_of []
  expression_in_F : Fun K "expression_in" "expression_in" s_expression_in D.a_expression_in D.d_expression_in
  expression_in_g : mg "expression_in" = some (.ref D.a_expression_in)
  expression_in_b : Binds K D.d_expression_in P_expression_in []
  text_within_F : Fun K "text_within" "text_within" s_text_within D.a_text_within D.d_text_within
  text_within_g : mg "text_within" = some (.ref D.a_text_within)
  text_within_b : Binds K D.d_text_within P_text_within []
  text_of_operand_F : Fun K "text_of_operand" "text_of_operand" s_text_of_operand D.a_text_of_operand D.d_text_of_operand
  text_of_operand_g : mg "text_of_operand" = some (.ref D.a_text_of_operand)
  text_of_operand_b : Binds K D.d_text_of_operand P_text_of_operand []
  text_of_expression_F : Fun K "text_of_expression" "text_of_expression" s_text_of_expression D.a_text_of_expression D.d_text_of_expression
  text_of_expression_g : mg "text_of_expression" = some (.ref D.a_text_of_expression)
  text_of_expression_b : Binds K D.d_text_of_expression P_text_of_expression []
  Marker_init_F : FunD K "__init__" "Marker.__init__" (defArgs s_Marker_init) (defBody s_Marker_init) (defScope s_Marker_init) [.str "always"] [] D.a_Marker_init D.d_Marker_init
  Marker_init_b : Binds K D.d_Marker_init P_Marker_init []
  Marker_init_b0 : ∃ ds : List Value, Vals [.str "always"] ds ∧ Binds K D.d_Marker_init P_Marker_init ds
  Marker_str_F : Fun K "__str__" "Marker.__str__" s_Marker_str D.a_Marker_str D.d_Marker_str
  Marker_str_b : Binds K D.d_Marker_str P_Marker_str []
  begin_F : Fun K "_law_begin" "_law_begin" s_begin D.a_begin D.d_begin
  begin_g : mg "_law_begin" = some (.ref D.a_begin)
  begin_b : Binds K D.d_begin P_begin []
  mixed_F : Fun K "_law_mixed" "_law_mixed" s_mixed D.a_mixed D.d_mixed
  mixed_g : mg "_law_mixed" = some (.ref D.a_mixed)
  mixed_b : Binds K D.d_mixed P_mixed []
  next_F : Fun K "_law_next" "_law_next" s_next D.a_next D.d_next
  next_g : mg "_law_next" = some (.ref D.a_next)
  next_b : Binds K D.d_next P_next []
  tree_F : Fun K "_law_tree" "_law_tree" s_tree D.a_tree D.d_tree
  tree_g : mg "_law_tree" = some (.ref D.a_tree)
  tree_b : Binds K D.d_tree P_tree []
  pieces_F : Fun K "_law_pieces" "_law_pieces" s_pieces D.a_pieces D.d_pieces
  pieces_g : mg "_law_pieces" = some (.ref D.a_pieces)
  pieces_b : Binds K D.d_pieces P_pieces []
  loose_F : Fun K "_law_loose" "_law_loose" s_loose D.a_loose D.d_loose
  loose_g : mg "_law_loose" = some (.ref D.a_loose)
  loose_b : Binds K D.d_loose P_loose []
  told_F : Fun K "_law_told" "_law_told" s_told D.a_told D.d_told
  told_g : mg "_law_told" = some (.ref D.a_told)
  told_b : Binds K D.d_told P_told []
  cut_F : Fun K "_law_cut" "_law_cut" s_cut D.a_cut D.d_cut
  cut_g : mg "_law_cut" = some (.ref D.a_cut)
  cut_b : Binds K D.d_cut P_cut []
  is_comparison_F : Fun K "_law_is_comparison" "_law_is_comparison" s_is_comparison D.a_is_comparison D.d_is_comparison
  is_comparison_g : mg "_law_is_comparison" = some (.ref D.a_is_comparison)
  is_comparison_b : Binds K D.d_is_comparison P_is_comparison []
  operands_F : Fun K "_law_operands" "_law_operands" s_operands D.a_operands D.d_operands
  operands_g : mg "_law_operands" = some (.ref D.a_operands)
  operands_b : Binds K D.d_operands P_operands []
  is_marker_F : Fun K "_law_is_marker" "_law_is_marker" s_is_marker D.a_is_marker D.d_is_marker
  is_marker_g : mg "_law_is_marker" = some (.ref D.a_is_marker)
  is_marker_b : Binds K D.d_is_marker P_is_marker []
  bent_F : Fun K "_law_bent" "_law_bent" s_bent D.a_bent D.d_bent
  bent_g : mg "_law_bent" = some (.ref D.a_bent)
  bent_b : Binds K D.d_bent P_bent []
  law_F : FunC K "law" "law" s_law D.a_law D.d_law D.c_law
  law_hu : ∀ p ∈ D.tabs, p.1 = D.P_law → p.2 = ("law" ++ ".<locals>.") ++ "<lambda>"
  law_g : mg "law" = some (.ref D.a_law)
  law_b : Binds K D.d_law P_law []
  BadMarker_init_F : Fun K "__init__" "BadMarker.__init__" s_BadMarker_init D.a_BadMarker_init D.d_BadMarker_init
  BadMarker_init_b : Binds K D.d_BadMarker_init P_BadMarker_init []
  Marker_g : mg "Marker" = some (.ref D.a_Marker)
  Marker_cl : Cls K D.a_Marker
  Marker_mk : Mk K D.a_Marker D.a_Marker_init
  Marker_rd : CRead K D.a_Marker (.type "type")
  Marker_si : SlX.SIsi K D.a_Marker
  Marker_nf : PySem.W.notFirst K D.a_Marker (.ref D.a_Marker) = true
  Marker_sf : PySem.W.selfFirst K D.a_Marker = true
  Marker_n_steps : NoAttr K D.a_Marker "_steps"
  Marker_init_at : PySem.W.findIn K (.ref D.a_Marker) "__init__" = some (some (.ref D.a_Marker_init))
  Marker_init_fn : PySem.W.isFn K (.ref D.a_Marker_init) = true
  Marker_str_at : PySem.W.findIn K (.ref D.a_Marker) "__str__" = some (some (.ref D.a_Marker_str))
  Marker_str_fn : PySem.W.isFn K (.ref D.a_Marker_str) = true
  BadMarker_g : mg "BadMarker" = some (.ref D.a_BadMarker)
  BadMarker_xa : ExA K D.a_BadMarker
  BadMarker_xi : PySem.W.findIn K (.ref D.a_BadMarker) "__init__" = some (some (.ref D.a_BadMarker_init))
  BadMarker_xt : PySem.W.typeIn K (.ref D.a_BadMarker_init) = some (.type "function")
  BadMarker_xf : PySem.W.findIn K (.ref D.a_BadMarker) "given" = some none
  BadMarker_nm : NmC K D.a_BadMarker
  BadMarker_BadMarker_s : PySem.W.subIn K (.ref D.a_BadMarker) (.ref D.a_BadMarker) = some true
  c_BINDINGS : mg "BINDINGS" = some (.ref D.k_BINDINGS)
  v_BINDINGS : CDic K w.params D.k_BINDINGS [("(", .int 0), (")", .int 1), ("or", .int 1), ("and", .int 2), ("not", .int 3)]
  c_SIGNS : mg "SIGNS" = some (.ref D.k_SIGNS)
  v_SIGNS : SqT K (fun _ => none) D.k_SIGNS [.str "==", .str "!=", .str "<=", .str ">=", .str "<", .str ">", .str "(", .str ")"]
  c_LEVEL_SIGNS : mg "LEVEL_SIGNS" = some (.ref D.k_LEVEL_SIGNS)
  v_LEVEL_SIGNS : SqT K (fun _ => none) D.k_LEVEL_SIGNS [.str "==", .str "!=", .str "<", .str "<=", .str ">", .str ">="]
  c_FIELDS : mg "FIELDS" = some (.ref D.k_FIELDS)
  v_FIELDS : SqT K (fun _ => none) D.k_FIELDS [.str "system", .str "machine", .str "level"]
  c_OPERANDS : mg "OPERANDS" = some (.ref D.k_OPERANDS)
  v_OPERANDS : SqT K (fun _ => none) D.k_OPERANDS [.str "always", .str "never", .str "system", .str "machine", .str "level"]
  v_NOT0 : SqT K (fun _ => none) D.k_NOT0 [.str "not", .str "", .str ""]
  c_NOT : mg "NOT" = some (.ref D.k_NOT)
  v_NOT : SqT K (fun _ => none) D.k_NOT [.ref D.k_NOT0]
  v_AND0 : SqT K (fun _ => none) D.k_AND0 [.str "and", .str "", .str ""]
  c_AND : mg "AND" = some (.ref D.k_AND)
  v_AND : SqT K (fun _ => none) D.k_AND [.ref D.k_AND0]
  v_OR0 : SqT K (fun _ => none) D.k_OR0 [.str "or", .str "", .str ""]
  c_OR : mg "OR" = some (.ref D.k_OR)
  v_OR : SqT K (fun _ => none) D.k_OR [.ref D.k_OR0]
  c_LETTERS : mg "LETTERS" = some (.str "abcdefghijklmnopqrstuvwxyz" D.t_LETTERS)
  c_DIGITS : mg "DIGITS" = some (.str "0123456789" D.t_DIGITS)
  c_HIGHEST : mg "HIGHEST" = some (.int 99 D.t_HIGHEST)
  c_WORDS : mg "WORDS" = some (.int 100000000000000000 D.t_WORDS)
  c_TIGHTEST : mg "TIGHTEST" = some (.int 4 D.t_TIGHTEST)
  b_all : mg "all" = none
  b_int : mg "int" = none
  b_isinstance : mg "isinstance" = none
  b_len : mg "len" = none
  b_list : mg "list" = none
  b_max : mg "max" = none
  b_range : mg "range" = none
  b_reversed : mg "reversed" = none
  b_str : mg "str" = none
  b_tuple : mg "tuple" = none
/-! ## The draws -/
section
variable {P : Program} {w : World} {K : PySem.W.Frag} {mg : Str → Option Value} {base : Heap} {D : Ad}
def drK (c : Addr) (a l u : Int) : List (Key × V) := [(.inr "cells", .ref c), (.inr "at", .int a), (.inr "left", .int l), (.inr "used", .int u)]
theorem ne_ca : ¬ (("cells" : Str) = "at") := by decide +kernel
theorem ne_cl : ¬ (("cells" : Str) = "left") := by decide +kernel
theorem ne_cu : ¬ (("cells" : Str) = "used") := by decide +kernel
theorem ne_al : ¬ (("at" : Str) = "left") := by decide +kernel
theorem ne_au : ¬ (("at" : Str) = "used") := by decide +kernel
theorem ne_lu : ¬ (("left" : Str) = "used") := by decide +kernel
theorem ne_la : ¬ (("left" : Str) = "at") := by decide +kernel
theorem ne_ua : ¬ (("used" : Str) = "at") := by decide +kernel
theorem ne_ul : ¬ (("used" : Str) = "left") := by decide +kernel
theorem dr_cells (c : Addr) (a l u : Int) : valV (drK c a l u) (.inr "cells" : Key) = some (.ref c) := by simp [valV, drK]
theorem dr_at (c : Addr) (a l u : Int) : valV (drK c a l u) (.inr "at" : Key) = some (.int a) := by simp [valV, drK, ne_ca]
theorem dr_left (c : Addr) (a l u : Int) : valV (drK c a l u) (.inr "left" : Key) = some (.int l) := by simp [valV, drK, ne_cl, ne_al]
theorem dr_used (c : Addr) (a l u : Int) : valV (drK c a l u) (.inr "used" : Key) = some (.int u) := by simp [valV, drK, ne_cu, ne_au, ne_lu]
theorem dr_pat (c : Addr) (a l u x : Int) : putK (drK c a l u) (.inr "at" : Key) (.int x) = drK c x l u := by simp [putK, drK, ne_ca, ne_la, ne_ua]
theorem dr_pleft (c : Addr) (a l u x : Int) : putK (drK c a l u) (.inr "left" : Key) (.int x) = drK c a x u := by simp [putK, drK, ne_cl, ne_al, ne_ul]
theorem dr_pused (c : Addr) (a l u x : Int) : putK (drK c a l u) (.inr "used" : Key) (.int x) = drK c a l x := by simp [putK, drK, ne_cu, ne_au, ne_lu]

/-- a draw stands at d, its cells at c, at most n steps were made -/
def Dr (H : Hp) (d c : Addr) (n : Nat) : Prop := ∃ (cs : List Int) (a l u : Int), H d = some (.dK (drK c a l u)) ∧ H c = some (.lst (cs.map V.int)) ∧
  cs ≠ [] ∧ cs.length ≤ 64 ∧ 0 ≤ a ∧ a ≤ n ∧ 0 ≤ l ∧ 0 ≤ u ∧ u ≤ n
/-- all stands but what is at d -/
def But (d : Addr) (H H' : Hp) : Prop := ∀ b o, H b = some o → b ≠ d → H' b = some o
theorem But.refl {d : Addr} {H : Hp} : But d H H := fun _ _ e _ => e
theorem But.trans {d : Addr} {H H1 H2 : Hp} (x : But d H H1) (y : But d H1 H2) : But d H H2 := fun b o e n => y b o (x b o e n) n
theorem But.upd {d : Addr} {H : Hp} {o : HO} : But d H (upd H d o) := fun b u e n => by rw [upd_ne n]; exact e
theorem But.new {d p : Addr} {H H1 : Hp} {o : HO} (x : But d H H1) (h : H1 p = none) : But d H (L2.upd H1 p o) := fun b u e n => by
  have e1 := x b u e n
  rw [upd_ne (ne_of_none e1 h)]
  exact e1
theorem But.free {d p : Addr} {H H' : Hp} (x : But d H H') (hd : d ≠ p) (h : H' p = none) : H p = none := by
  cases q : H p with
  | none => rfl
  | some o =>
    rw [x p o q (Ne.symm hd)] at h
    cases h
theorem But.of_same {d : Addr} {H H' : Hp} (x : Same H H') : But d H H' := fun b o e _ => x b o e
theorem Dr.dict {H : Hp} {d c : Addr} {n : Nat} (h : Dr H d c n) : ∃ o, H d = some (.dK o) := let ⟨_, _, _, _, e, _⟩ := h; ⟨_, e⟩
theorem Dr.cells {H : Hp} {d c : Addr} {n : Nat} (h : Dr H d c n) : ∃ xs, H c = some (.lst xs) := let ⟨_, _, _, _, _, e, _⟩ := h; ⟨_, e⟩
theorem Dr.mono {H : Hp} {d c : Addr} {n m : Nat} (h : Dr H d c n) (q : n ≤ m) : Dr H d c m := by
  obtain ⟨cs, a, l, u, h1, h2, h3, h4, h5, h6, h7, h8, h9⟩ := h
  exact ⟨cs, a, l, u, h1, h2, h3, h4, h5, by omega, h7, h8, by omega⟩
theorem Dr.keep {H H' : Hp} {d c : Addr} {n : Nat} (h : Dr H d c n) (e : Same H H') : Dr H' d c n := by
  obtain ⟨cs, a, l, u, h1, h2, r⟩ := h
  exact ⟨cs, a, l, u, e _ _ h1, e _ _ h2, r⟩
theorem Dr.new {H : Hp} {d c p : Addr} {n : Nat} {o : HO} (h : Dr H d c n) (q : H p = none) : Dr (upd H p o) d c n :=
  h.keep fun b u e => by rw [upd_ne (ne_of_none e q)]; exact e
/-- what is at p changes -/
theorem Dr.off {H : Hp} {d c p : Addr} {n : Nat} {o : HO} (h : Dr H d c n) (hd : d ≠ p) (hc : c ≠ p) : Dr (upd H p o) d c n := by
  obtain ⟨cs, a, l, u, h1, h2, r⟩ := h
  exact ⟨cs, a, l, u, by rw [upd_ne hd]; exact h1, by rw [upd_ne hc]; exact h2, r⟩
theorem Dr.ne_new {H : Hp} {d c p : Addr} {n : Nat} (h : Dr H d c n) (q : H p = none) : d ≠ p := let ⟨_, e⟩ := h.dict; ne_of_none e q
theorem Dr.nc_new {H : Hp} {d c p : Addr} {n : Nat} (h : Dr H d c n) (q : H p = none) : c ≠ p := let ⟨_, e⟩ := h.cells; ne_of_none e q

def spMixed : Sp := fun vs H Q _ => ∃ c k : Int, vs = [.int c, .int k] ∧ 0 ≤ k ∧ k < 2 ^ 60 ∧ ∀ v, Q (.int v) H
theorem ok_mixed (T : TexW w K mg D) : FnOk P w K mg base CX0 1 D.a_mixed D.d_mixed P_mixed spMixed := by
  refine T.mixed_F.ok S_mixed (fun vs H Q E h => ?_) (fun cdv A outer s H vs Q E hr h => ?_)
  · obtain ⟨c, k, rfl, _⟩ := h
    rfl
  · obtain ⟨c, k, rfl, h0, h1, q⟩ := h
    refine ⟨_, (pss_cons (ps_set (i := 2) S_mixed.nd rfl (Or.inl rfl) (pe_op op_mod (pe_op op_add (pe_op op_add (pe_op op_add (pe_op op_mod (pv 0) pe_int) (pe_op op_mul (pe_op op_mul pe_int (pv 1)) (pv 1))) (pe_op op_mul pe_int (pv 1))) pe_int) pe_int))
      (pss_cons (ps_set (i := 2) S_mixed.nd rfl (Or.inl rfl) (pe_op op_mod (pe_op op_mul (pe_op op_mod (pe_op op_mul (pv 2) (pv 2)) pe_int) (pv 2)) pe_int))
      (pss_one (ps_ret (pe_op op_fdiv (pe_op op_mod (pe_op op_mul (pv 2) (pe_op op_add pe_int (pe_op op_mul pe_int (pe_op op_mod (pv 1) pe_int)))) pe_int) pe_int))))), ?_⟩
    refine ⟨_, rfl, _, _, rfl, rfl, (posI rfl), ?_⟩
    refine ⟨_, rfl, _, _, rfl, rfl, .inl ⟨by decide, by decide⟩, ?_⟩
    refine ⟨_, rfl, _, _, rfl, rfl, .inr ⟨by omega, by omega⟩, _, _, rfl, rfl, ?_⟩
    refine ⟨_, rfl, _, _, rfl, rfl, .inl ⟨by decide, by decide⟩, _, _, rfl, rfl, _, _, rfl, rfl, _, _, rfl, rfl, (posI rfl), ?_⟩
    generalize hm : (c % 1000000007 + 7919 * k * k + 31 * k + 7) % 2147483647 = m
    have m0 : 0 ≤ m := by rw [← hm]; exact Int.emod_nonneg _ (by decide)
    have m1 : m < 2147483647 := by rw [← hm]; exact Int.emod_lt_of_pos _ (by decide)
    refine ⟨_, rfl, _, rfl, _, _, rfl, rfl, .inl ⟨by omega, by omega⟩, _, _, rfl, rfl, (posI rfl), ?_⟩
    refine ⟨_, rfl, _, _, rfl, rfl, .inr ⟨by omega, by omega⟩, _, _, rfl, rfl, (posI rfl), ?_⟩
    generalize hn : m * m % 2147483647 * m % 2147483629 = n
    have n0 : 0 ≤ n := by rw [← hn]; exact Int.emod_nonneg _ (by decide)
    have n1 : n < 2147483629 := by rw [← hn]; exact Int.emod_lt_of_pos _ (by decide)
    refine ⟨_, rfl, _, rfl, _, _, rfl, rfl, (posI rfl), _, _, rfl, rfl, .inl ⟨by decide, by decide⟩, _, _, rfl, rfl, _, _, rfl, rfl, .inl ⟨by omega, by omega⟩, ?_⟩
    refine ⟨_, _, rfl, rfl, (posI rfl), _, _, rfl, rfl, ⟨by decide, by decide⟩, ?_⟩
    exact q _

def spNext : Sp := fun vs H Q _ => ∃ (d c : Addr) (b : Int) (n : Nat), vs = [.ref d, .int b] ∧ Dr H d c n ∧ n ≤ 10 ^ 12 ∧ 0 < b ∧ b < 2 ^ 30 ∧
  ∀ (v : Int) (H' : Hp), 0 ≤ v → v < b → Dr H' d c (n + 1) → But d H H' → Q (.int v) H'
theorem ok_next (T : TexW w K mg D) : FnOk P w K mg base CX0 2 D.a_next D.d_next P_next spNext := by
  have G_mixed : FnOk P w K mg base CX0 1 D.a_mixed D.d_mixed P_mixed spMixed := ok_mixed T
  refine T.next_F.ok S_next (fun vs H Q E h => ?_) (fun cdv A outer s H vs Q E hr h => ?_)
  · obtain ⟨d, c, b, n, rfl, _⟩ := h
    rfl
  · obtain ⟨d, c, b, n, rfl, ⟨cs, a, l, u, hd, hc, c0, c64, a0, an, l0, u0, un⟩, hn, b0, b1, q⟩ := h
    have hu := hu_of hr
    have ndc : d ≠ c := ne_of hd hc (by intro z; cases z)
    have sz : ∀ c' a' l' u', (drK c' a' l' u').length < sizeLine := fun _ _ _ _ => by show 4 < sizeLine; decide
    have cs0 : 0 < cs.length := List.length_pos_iff.mpr c0
    refine ⟨_, (pss_cons (ps_if (pt_cmpR op_gt (pe_dget hu (pv 0) pe_str (fun _ _ => rfl)) pe_int (nomark _)) (pss_cons (ps_set (i := 2) S_next.nd rfl (Or.inl rfl) (pe_op op_mod (pe_dget hu (pv 0) pe_str (fun _ _ => rfl)) (pv 1)))
      (pss_cons (ps_dput hu (pv 0) pe_str (pe_op op_fdiv (pe_dget hu (pv 0) pe_str (fun _ _ => rfl)) (pv 1)) rfl)
      (pss_one (ps_ret (pv 2))))) pss_nil)
      (pss_cons (ps_set (i := 3) S_next.nd rfl (Or.inl rfl) (pe_dget hu (pv 0) pe_str (fun _ _ => rfl)))
      (pss_cons (ps_set (i := 4) S_next.nd rfl (Or.inl rfl) (pe_ix ix_list (pv 3) (pe_op op_mod (pe_dget hu (pv 0) pe_str (fun _ _ => rfl)) (pe_callB call_len_seq (by rfl) T.b_len (by decide +kernel) (pa_cons (pv 3) pa_nil))) (fun _ _ => rfl)))
      (pss_cons (ps_dput hu (pv 0) pe_str (pe_op op_add (pe_dget hu (pv 0) pe_str (fun _ _ => rfl)) pe_int) rfl)
      (pss_cons (ps_if (PW.pt (pw_and (pt_cmpR op_ge (pv 4) (pe_op op_pow pe_int pe_int) (nomark _)) (pw_and1 (pt_cmpR op_le (pe_dget hu (pv 0) pe_str (fun _ _ => rfl)) (pe_callB call_len_seq (by rfl) T.b_len (by decide +kernel) (pa_cons (pv 3) pa_nil)) (nomark _))))) (pss_cons (ps_dput hu (pv 0) pe_str (pe_op op_fdiv (pv 4) (pv 1)) rfl)
      (pss_one (ps_ret (pe_op op_mod (pv 4) (pv 1))))) pss_nil)
      (pss_cons (ps_dput hu (pv 0) pe_str (pe_op op_add (pe_dget hu (pv 0) pe_str (fun _ _ => rfl)) pe_int) rfl)
      (pss_one (ps_ret (pe_op op_mod (pe_call G_mixed (hr.mono (by decide)) (by rfl) T.mixed_g T.mixed_F.kp T.mixed_b .nil pass0 (pa_cons (pe_call G_mixed (hr.mono (by decide)) (by rfl) T.mixed_g T.mixed_F.kp T.mixed_b .nil pass0 (pa_cons (pv 4) (pa_cons (pe_dget hu (pv 0) pe_str (fun _ _ => rfl)) pa_nil))) (pa_cons (pe_dget hu (pv 0) pe_str (fun _ _ => rfl)) pa_nil))) (pv 1)))))))))), ?_⟩
    refine ⟨_, rfl, d, _, rfl, (by have g := DGet.k (k := .inr "left") hd; rw [dr_left] at g; exact g), _, _, rfl, rfl, _, rfl, ?_⟩
    refine ite2 (fun hl => ?_) (fun hl => ?_)
    · refine ⟨_, rfl, d, _, rfl, (by have g := DGet.k (k := .inr "left") hd; rw [dr_left] at g; exact g), _, rfl, _, _, rfl, rfl, b0, ?_⟩
      refine ⟨_, rfl, d, _, rfl, (by have g := DGet.k (k := .inr "left") hd; rw [dr_left] at g; exact g), _, rfl, _, _, rfl, rfl, ⟨b0, b1⟩, _, rfl, d, _, rfl, DPut.k (k := .inr "left") hd (sz _ _ _ _), ?_⟩
      refine ⟨_, rfl, ?_⟩
      refine q _ _ (Int.emod_nonneg _ (by omega)) (Int.emod_lt_of_pos _ b0) ⟨cs, a, l / b, u, ?_, ?_, c0, c64, a0, by omega, Int.ediv_nonneg l0 (by omega), u0, by omega⟩ But.upd
      · rw [upd_same, dr_pleft]
      · rw [upd_ne ndc.symm]; exact hc
    · refine ⟨_, rfl, d, _, rfl, (by have g := DGet.k (k := .inr "cells") hd; rw [dr_cells] at g; exact g), ?_⟩
      refine ⟨_, rfl, _, rfl, d, _, rfl, (by have g := DGet.k (k := .inr "at") hd; rw [dr_at] at g; exact g), _, rfl, c, _, rfl, .inl (SqL.of hc), _, _, rfl, rfl, (by rw [List.length_map]; show (0 : Int) < (cs.length : Int); omega), ?_⟩
      have hix : 0 ≤ a % ((cs.map V.int).length : Int) ∧ a % ((cs.map V.int).length : Int) < ((cs.map V.int).length : Int) := by
        have e : ((cs.map V.int).length : Int) = (cs.length : Int) := by rw [List.length_map]
        rw [e]
        exact ⟨Int.emod_nonneg _ (by omega), Int.emod_lt_of_pos _ (by omega)⟩
      obtain ⟨x, hx⟩ : ∃ x, (cs.map V.int)[(a % ((cs.map V.int).length : Int)).toNat]? = some (V.int x) := by
        have hlt : (a % ((cs.map V.int).length : Int)).toNat < cs.length := by
          have e : ((cs.map V.int).length : Int) = (cs.length : Int) := by rw [List.length_map]
          omega
        exact ⟨cs[(a % ((cs.map V.int).length : Int)).toNat], by rw [List.getElem?_map, List.getElem?_eq_getElem hlt]; rfl⟩
      refine ⟨c, _, _, _, rfl, rfl, SqL.of hc, (by
        have e : a % ((cs.map V.int).length : Int) = ((a % ((cs.map V.int).length : Int)).toNat : Int) := (Int.toNat_of_nonneg hix.1).symm
        rw [e]
        exact atI_nat hx), ?_⟩
      -- at += 1
      refine ⟨_, rfl, d, _, rfl, (by have g := DGet.k (k := .inr "at") hd; rw [dr_at] at g; exact g), _, _, rfl, rfl, _, rfl, d, _, rfl, DPut.k (k := .inr "at") hd (sz _ _ _ _), ?_⟩
      rw [dr_pat]
      have hd1 : (upd H d (.dK (drK c (a + 1) l u))) d = some (.dK (drK c (a + 1) l u)) := upd_same
      have hc1 : (upd H d (.dK (drK c (a + 1) l u))) c = some (.lst (cs.map V.int)) := by rw [upd_ne ndc.symm]; exact hc
      have bu1 : But d H (upd H d (.dK (drK c (a + 1) l u))) := But.upd
      revert hd1 hc1 bu1
      generalize upd H d (.dK (drK c (a + 1) l u)) = H1
      intro hd1 hc1 bu1
      refine ⟨_, rfl, _, _, rfl, rfl, ⟨by decide, by decide, by decide⟩, _, _, rfl, rfl, _, rfl, ?_⟩
      refine ite2 (fun h18 => ?_) (fun h18 => ?_)
      · refine ⟨_, rfl, d, _, rfl, (by have g := DGet.k (k := .inr "at") hd1; rw [dr_at] at g; exact g), _, rfl, c, _, rfl, .inl (SqL.of hc1), _, _, rfl, rfl, _, rfl, ?_⟩
        refine ite2 (fun hat => ?_) (fun hat => ?_)
        · have x0 : 0 ≤ x := by
            have h2 := of_decide_eq_true h18
            have h3 : (0 : Int) ≤ 10 ^ (18 : Int).toNat := by decide
            omega
          refine ⟨_, rfl, _, rfl, _, _, rfl, rfl, ⟨b0, b1⟩, _, rfl, d, _, rfl, DPut.k (k := .inr "left") hd1 (sz _ _ _ _), ?_⟩
          refine ⟨_, rfl, _, rfl, _, _, rfl, rfl, b0, ?_⟩
          refine q _ _ (Int.emod_nonneg _ (by omega)) (Int.emod_lt_of_pos _ b0) ⟨cs, a + 1, x / b, u, ?_, ?_, c0, c64, by omega, by omega, Int.ediv_nonneg x0 (by omega), u0, by omega⟩ (bu1.trans But.upd)
          · rw [upd_same, dr_pleft]
          · rw [upd_ne ndc.symm]; exact hc1
        ·
          refine ⟨_, rfl, d, _, rfl, (by have g := DGet.k (k := .inr "used") hd1; rw [dr_used] at g; exact g), _, _, rfl, rfl, _, rfl, d, _, rfl, DPut.k (k := .inr "used") hd1 (sz _ _ _ _), ?_⟩
          rw [dr_pused]
          have hd2 : (upd H1 d (.dK (drK c (a + 1) l (u + 1)))) d = some (.dK (drK c (a + 1) l (u + 1))) := upd_same
          have hc2 : (upd H1 d (.dK (drK c (a + 1) l (u + 1)))) c = some (.lst (cs.map V.int)) := by rw [upd_ne ndc.symm]; exact hc1
          refine ⟨_, rfl, _, rfl, d, _, rfl, (by have g := DGet.k (k := .inr "at") hd2; rw [dr_at] at g; exact g), x, a + 1, rfl, by omega, by omega, fun v1 => ?_⟩
          refine ⟨_, rfl, d, _, rfl, (by have g := DGet.k (k := .inr "used") hd2; rw [dr_used] at g; exact g), v1, u + 1, rfl, by omega, by omega, fun v2 => ?_⟩
          refine ⟨_, rfl, _, _, rfl, rfl, b0, ?_⟩
          exact q _ _ (Int.emod_nonneg _ (by omega)) (Int.emod_lt_of_pos _ b0) ⟨cs, a + 1, l, u + 1, hd2, hc2, c0, c64, by omega, by omega, l0, by omega, by omega⟩ (bu1.trans But.upd)
      ·
        refine ⟨_, rfl, d, _, rfl, (by have g := DGet.k (k := .inr "used") hd1; rw [dr_used] at g; exact g), _, _, rfl, rfl, _, rfl, d, _, rfl, DPut.k (k := .inr "used") hd1 (sz _ _ _ _), ?_⟩
        rw [dr_pused]
        have hd2 : (upd H1 d (.dK (drK c (a + 1) l (u + 1)))) d = some (.dK (drK c (a + 1) l (u + 1))) := upd_same
        have hc2 : (upd H1 d (.dK (drK c (a + 1) l (u + 1)))) c = some (.lst (cs.map V.int)) := by rw [upd_ne ndc.symm]; exact hc1
        refine ⟨_, rfl, _, rfl, d, _, rfl, (by have g := DGet.k (k := .inr "at") hd2; rw [dr_at] at g; exact g), x, a + 1, rfl, by omega, by omega, fun v1 => ?_⟩
        refine ⟨_, rfl, d, _, rfl, (by have g := DGet.k (k := .inr "used") hd2; rw [dr_used] at g; exact g), v1, u + 1, rfl, by omega, by omega, fun v2 => ?_⟩
        refine ⟨_, rfl, _, _, rfl, rfl, b0, ?_⟩
        exact q _ _ (Int.emod_nonneg _ (by omega)) (Int.emod_lt_of_pos _ b0) ⟨cs, a + 1, l, u + 1, hd2, hc2, c0, c64, by omega, by omega, l0, by omega, by omega⟩ (bu1.trans But.upd)
end

/-! ## The draws begin -/
section
variable {P : Program} {w : World} {K : PySem.W.Frag} {mg : Str → Option Value} {base : Heap} {D : Ad}
theorem len_app (a b : Str) : (a ++ b).length = a.length + b.length := PySem.strLen_append a b

theorem at_in {α : Type} {xs : List α} {v : Int} (h0 : 0 ≤ v) (h1 : v < (xs.length : Int)) : ∃ x, atI xs v = some x ∧ x ∈ xs := by
  obtain ⟨j, rfl⟩ := Int.eq_ofNat_of_zero_le h0
  have hj : j < xs.length := by omega
  exact ⟨xs[j], atI_nat (List.getElem?_eq_getElem hj), List.getElem_mem hj⟩

/-! ### begin -/
theorem merge_dr (c : Addr) (a l u : Int) : mergeK [] (drK c a l u) = drK c a l u := by simp [mergeK, putK, drK, ne_ca, ne_cl, ne_cu, ne_al, ne_au, ne_lu]
def spBegin (K : PySem.W.Frag) : Sp := fun vs H Q _ => ∃ (a : Addr) (ns : List Int), vs = [.ref a] ∧ Bare K H a (ns.map V.int) ∧ ns.length ≤ 63 ∧ ∀ d c H', H d = none → Same H H' → Dr H' d c 0 → Q (.ref d) H'
theorem ok_begin (T : TexW w K mg D) : FnOk P w K mg base CX0 1 D.a_begin D.d_begin P_begin (spBegin K) := by
  refine T.begin_F.ok S_begin (fun vs H Q E h => ?_) (fun cdv A outer s H vs Q E hr h => ?_)
  · obtain ⟨a, ns, rfl, _⟩ := h
    rfl
  · obtain ⟨a, ns, rfl, hb, hl, q⟩ := h
    refine ⟨_, (pss_one (ps_ret (pe_disp (pps_cons pe_str (pe_op op_catS (pv 0) (pe_lst (pa_cons pe_int pa_nil))) (pps_cons pe_str pe_int (pps_cons pe_str pe_int (pps_cons pe_str pe_int pps_nil)))) (by rfl) (by rfl) (fun z => by cases z) (by decide)))), ?_⟩
    intro p hp
    have s1 : Same H (upd H p (.dK [])) := same_new hp
    refine ⟨_, rfl, (by show 1 ≤ sizeLine; decide), fun l hl1 => ⟨a, l, _, _, rfl, rfl, (hb.keep s1).keep (same_new hl1), upd_same, Nat.le_trans (show _ ≤ 1000 by simp; omega) (by decide), fun c hc => ?_⟩⟩
    have s2 := s1.trans (same_new (o := .lst [.int 0]) hl1)
    have s3 := s2.trans (same_new (o := .lst (ns.map V.int ++ [.int 0])) hc)
    have npl : p ≠ l := ne_of_none upd_same hl1
    have npc : p ≠ c := by
      have e : (upd (upd H p (.dK [])) l (.lst [.int 0])) p = some (.dK []) := by rw [upd_ne npl, upd_same]
      exact ne_of_none e hc
    refine ⟨by rw [upd_ne npc, upd_ne npl, upd_same], drK c 0 0 0, rfl, (by show 4 ≤ 15; decide), ?_⟩
    rw [merge_dr]
    refine q p c _ hp (same_upd s3 hp) ⟨ns ++ [0], 0, 0, 0, upd_same, ?_, by simp, by simp; omega, by decide, by decide, by decide, by decide, by decide⟩
    rw [upd_ne npc.symm, upd_same]
    simp

end

/-! ## Versions: the program's defs -/
section
variable {P : Program} {w : World} {K : PySem.W.Frag} {mg : Str → Option Value} {base : Heap} {D : Ad}
open TL SX
theorem szl {n : Nat} (h : n ≤ 1000) : n ≤ sizeLine := Nat.le_trans h (by decide)
theorem szt {n : Nat} (h : n ≤ 1000) : n < sizeLine := Nat.lt_of_le_of_lt h (by decide)
theorem szL {n : Nat} (h : n ≤ 100000) : n ≤ sizeLine := Nat.le_trans h (by decide)
theorem szT {n : Nat} (h : n ≤ 100000) : n < sizeLine := Nat.lt_of_le_of_lt h (by decide)
theorem kit_self {C : Addr} : PySem.W.kitOne K (.ref C) (.ref C) = some true := by
  unfold PySem.W.kitOne
  simp
def inS (sg : Str) (c : Nat) : Bool := decide (c ∈ sg.cps.toList)
theorem filt1 {α : Type} {xs : List α} : xs.filter (fun _ => true) = xs := List.filter_eq_self.mpr (by simp)
def spConsistsOf : Sp := fun vs H Q _ => ∃ t sg : Str, vs = [.str t, .str sg] ∧ t.length ≤ 200 ∧ ∀ H', Same H H' → Q (.bl (t.cps.toList.all (inS sg))) H'
theorem ok_consists_of (T : TexW w K mg D) : FnOk P w K mg base CX0 1 D.a_consists_of D.d_consists_of P_consists_of spConsistsOf := by
  refine T.consists_of_F.ok S_consists_of (fun vs H Q E h => ?_) (fun cdv A outer s H vs Q E hr h => ?_)
  · obtain ⟨t, sg, rfl, _⟩ := h
    rfl
  · obtain ⟨t, sg, rfl, hl, q⟩ := h
    refine ⟨_, (pss_one (ps_ret (pe_callB (cr_all rfl) (by rfl) T.b_all (by decide +kernel) (pa_cons (pe_lc (own := [(("sign" : Str), 2)]) (g := gName 2) (tt := tYes) rfl S_consists_of.nd (pi_str (pv 0)) (blkOk_by (N := N_consists_of) (sc := defScope s_consists_of) (by decide +kernel)) (fun _ _ _ _ _ => pg_name (i := 2) S_consists_of.nd rfl (Or.inl rfl)) (fun _ _ _ _ _ => pts_nil) (fun _ _ _ _ _ => (pe_cmpR op_in_sign (pv 2) (pv 1) rfl))) pa_nil)))), ?_⟩
    refine ⟨_, rfl, t, rfl, fun D hD => lc_txt (fun _ => true) (fun c => .bl (inS sg c)) hD (szt (by omega)) (fun c hc H2 R S s2 h1 h2 => ?_) (fun H2 s2 h2 => ?_)⟩
    · exact ⟨rfl, ⟨_, rfl, _, rfl, c, sg, rfl, rfl, h1 rfl _ (Same.refl _)⟩⟩
    · refine ⟨D, t.cps.toList.map (inS sg), rfl, SqL.of (by rw [h2, filt1, List.map_map]; rfl), ?_⟩
      rw [List.all_map]
      exact q _ s2
def goodT (t sg : Str) (m : Int) : Bool := decide (1 ≤ (t.length : Int)) && (decide ((t.length : Int) ≤ m) && t.cps.toList.all (inS sg))
def spStrT : Sp := fun vs H Q _ => ∃ (t sg : Str) (m : Int), vs = [.str t, .str sg, .int m] ∧ t.length ≤ 100000 ∧ m ≤ 100 ∧ ∀ H', Same H H' → Q (.bl (goodT t sg m)) H'
theorem ok_is_string_of (T : TexW w K mg D) : FnOk P w K mg base CX0 2 D.a_is_string_of D.d_is_string_of P_is_string_of spStrT := by
  have G_consists_of : FnOk P w K mg base CX0 1 D.a_consists_of D.d_consists_of P_consists_of spConsistsOf := ok_consists_of T
  refine T.is_string_of_F.ok S_is_string_of (fun vs H Q E h => ?_) (fun cdv A outer s H vs Q E hr h => ?_)
  · obtain ⟨x, sg, m, rfl, _⟩ := h
    rfl
  · obtain ⟨t, sg, m, rfl, hl, hm, q⟩ := h
    refine ⟨_, (pss_one (ps_ret (pe_and (pe_callB call_isi (by rfl) T.b_isinstance (by decide +kernel) (pa_cons (pv 0) (pa_cons (pe_bltn (v := .ty "str") (u := .type "str") (by rfl) T.b_str (by decide +kernel) rfl) pa_nil))) (pe_and (pe_chain op_le op_le pe_int (pe_callB call_len_str (by rfl) T.b_len (by decide +kernel) (pa_cons (pv 0) pa_nil)) (pv 2)) (pe_one (pe_call G_consists_of (hr.mono (by decide)) (by rfl) T.consists_of_g T.consists_of_F.kp T.consists_of_b .nil pass0 (pa_cons (pv 0) (pa_cons (pv 1) pa_nil)))))))), ?_⟩
    refine ⟨_, rfl, .str t, .ty "str", .type "str", .type "str", true, rfl, .ty _, .base (.str t), kit_ty (by decide +kernel), true, rfl, iteT ?_⟩
    refine ⟨_, rfl, t, rfl, szL (by omega), _, _, rfl, rfl, _, rfl, ?_⟩
    unfold goodT at q
    refine ite2 (fun h1 => ?_) (fun h1 => ?_)
    · refine ⟨_, rfl, _, _, rfl, rfl, _, rfl, ite2 (fun h2 => ?_) (fun h2 => ?_)⟩
      · have h2' := of_decide_eq_true h2
        refine ⟨_, rfl, _, rfl, t, sg, rfl, by omega, fun H' s' => ?_⟩
        have q2 := q H' s'
        rw [h1, h2] at q2
        exact q2
      · have q2 := q H (Same.refl H)
        rw [h1, Bool.eq_false_iff.mpr h2] at q2
        exact q2
    · refine ⟨_, rfl, iteF ?_⟩
      have q2 := q H (Same.refl H)
      rw [Bool.eq_false_iff.mpr h1] at q2
      exact q2
def oV : Option Nat → V
  | none => .non
  | some n => .int (n : Int)
theorem inS_dig (c : Nat) : inS (("0123456789" : String) : Str) c = isDig c := by
  unfold inS isDig
  have e : ((("0123456789" : String) : Str)).cps.toList = [48, 49, 50, 51, 52, 53, 54, 55, 56, 57] := by decide +kernel
  rw [e, Bool.eq_iff_iff, decide_eq_true_eq, decide_eq_true_eq]
  simp only [List.mem_cons, List.not_mem_nil, or_false]
  omega
theorem good_nT (l : List Nat) (k : Nat) : goodT (S l) (("0123456789" : String) : Str) (k : Int) = (decide (1 ≤ l.length) && (decide (l.length ≤ k) && l.all isDig)) := by
  unfold goodT
  have e1 : decide (1 ≤ ((S l).length : Int)) = decide (1 ≤ l.length) := by rw [S_len]; exact decide_eq_decide.mpr (by omega)
  have e2 : decide (((S l).length : Int) ≤ (k : Int)) = decide (l.length ≤ k) := by rw [S_len]; exact decide_eq_decide.mpr (by omega)
  have e3 : (S l).cps.toList.all (inS (("0123456789" : String) : Str)) = l.all isDig := by
    show l.all _ = _
    congr 1
    funext c
    exact inS_dig c
  rw [e1, e2, e3]
theorem str_num (n : Nat) : Str.ofString (toString ((n : Nat) : Int)) = S (numL n) := ext_tl (tl_num n)
theorem log_num {n : Nat} (h : n < 100000) : ((n : Nat) : Int).natAbs.log2 < 1920 := by
  rw [Int.natAbs_natCast]
  by_cases h0 : n = 0
  · rw [h0]
    decide
  · exact Nat.lt_trans ((Nat.log2_lt h0).mpr (Nat.lt_of_lt_of_le h (by decide : 100000 ≤ 2 ^ 17))) (by decide)
theorem dv_lt : ∀ (l : List Nat), NumText.AllDigits l → NumText.digitsVal l < 10 ^ l.length := by
  intro l
  induction h : l.length generalizing l with
  | zero =>
    intro _
    have : l = [] := List.length_eq_zero_iff.mp h
    subst this
    decide
  | succ n ih =>
    intro hd
    obtain ⟨r, c, rfl⟩ : ∃ r c, l = r ++ [c] := ⟨l.dropLast, l.getLast (by intro e; rw [e] at h; cases h), (List.dropLast_concat_getLast _).symm⟩
    have hr : r.length = n := by simpa using h
    have h1 := ih r hr (fun x hx => hd x (List.mem_append_left _ hx))
    have h2 := hd c (by simp)
    rw [NumText.digitsVal_snoc, Nat.pow_succ]
    omega
/-- number_in, with the last number -/
def nTL (L : Nat) (l : List Nat) : Option Nat :=
  if (decide (1 ≤ l.length) && (decide (l.length ≤ (numL L).length) && l.all isDig)) = true then (if l.head? = some 48 ∧ l ≠ [48] then none else if NumText.digitsVal l ≤ L then some (NumText.digitsVal l) else none) else none
theorem allD {l : List Nat} (h : l.all isDig = true) : NumText.AllDigits l := by
  intro c hc
  have := List.all_eq_true.mp h c hc
  simp only [isDig, decide_eq_true_eq] at this
  omega
theorem nTL_999 (l : List Nat) : nTL 999 l = nT l := by
  unfold nTL nT
  have e : (numL 999).length = 3 := by decide +kernel
  rw [e]
  by_cases h : (decide (1 ≤ l.length) && (decide (l.length ≤ 3) && l.all isDig)) = true
  · rw [if_pos h, if_pos h]
    simp only [Bool.and_eq_true, decide_eq_true_eq] at h
    have hv := dv_lt l (allD h.2.2)
    have : NumText.digitsVal l ≤ 999 := by
      have h3 : (10 : Nat) ^ l.length ≤ 10 ^ 3 := Nat.pow_le_pow_right (by decide) h.2.1
      have : (10 : Nat) ^ 3 = 1000 := rfl
      omega
    rw [if_pos this]
  · rw [if_neg h, if_neg h]
def spNumL : Sp := fun vs H Q _ => ∃ (l : List Nat) (L : Nat), vs = [.str (S l), .int (L : Int)] ∧ l.length ≤ 100000 ∧ L < 100000 ∧ ∀ H', Same H H' → Q (oV (nTL L l)) H'
theorem zero_txt : (("0" : String) : Str) = S [48] := by decide +kernel
theorem ok_number_in (T : TexW w K mg D) : FnOk P w K mg base CX0 3 D.a_number_in D.d_number_in P_number_in spNumL := by
  have G_is_string_of : FnOk P w K mg base CX0 2 D.a_is_string_of D.d_is_string_of P_is_string_of spStrT := ok_is_string_of T
  refine T.number_in_F.ok S_number_in (fun vs H Q E h => ?_) (fun cdv A outer s H vs Q E hr h => ?_)
  · obtain ⟨l, L, rfl, _⟩ := h
    rfl
  · obtain ⟨l, L, rfl, hl, hL, q⟩ := h
    have hLl : (numL L).length ≤ 5 := numL_len (by decide) hL
    refine ⟨_, (pss_cons (ps_if (pt_not (pt_val (pe_call G_is_string_of (hr.mono (by decide)) (by rfl) T.is_string_of_g T.is_string_of_F.kp T.is_string_of_b .nil pass0 (pa_cons (pv 0) (pa_cons (pe_glob (v := .str "0123456789") rfl T.c_DIGITS ⟨_, rfl⟩) (pa_cons (pe_callB call_len_str (by rfl) T.b_len (by decide +kernel) (pa_cons (pe_callTy call_str_int (by rfl) T.b_str (by decide +kernel) (pa_cons (pv 1) pa_nil)) pa_nil)) pa_nil)))))) (pss_one (ps_ret pe_non)) pss_nil)
      (pss_cons (ps_if (PW.pt (pw_and (pt_cmpR op_eq (pe_ix ix_str (pv 0) pe_int (fun _ _ => rfl)) pe_str (nomark _)) (pw_and1 (pt_cmpR op_ne (pv 0) pe_str (nomark _))))) (pss_one (ps_ret pe_non)) pss_nil)
      (pss_cons (ps_set (i := 2) S_number_in.nd rfl (Or.inl rfl) (pe_callTy call_int_str (by rfl) T.b_int (by decide +kernel) (pa_cons (pv 0) pa_nil)))
      (pss_one (ps_ret (pe_ifExp (pt_cmpR op_le (pv 2) (pv 1) (nomark _)) (pv 2) pe_non)))))), ?_⟩
    refine ⟨_, rfl, _, rfl, _, rfl, log_num hL, ?_⟩
    rw [str_num]
    refine ⟨_, rfl, by rw [S_len]; exact szl (by omega), S l, (("0123456789" : String) : Str), ((numL L).length : Int), by rw [S_len]; rfl, by rw [S_len]; exact hl, by omega, fun H1 s1 => ⟨_, rfl, ?_⟩⟩
    rw [good_nT]
    unfold nTL at q
    cases hg : (decide (1 ≤ l.length) && (decide (l.length ≤ (numL L).length) && l.all isDig)) with
    | false =>
      rw [hg] at q
      exact iteT (q H1 s1)
    | true =>
      rw [hg, if_pos rfl] at q
      refine iteF ?_
      simp only [Bool.and_eq_true, decide_eq_true_eq] at hg
      obtain ⟨hg1, hg3, hgd⟩ := hg
      have hdig : NumText.AllDigits l := allD hgd
      have hne : l ≠ [] := fun e => by
        rw [e] at hg1
        simp at hg1
      have hin : PySem.intText? (S l) = some ((NumText.digitsVal l : Nat) : Int) := intText_digits (x := S l) hdig hne (by rw [S_len]; omega)
      obtain ⟨c, r, rfl⟩ : ∃ c r, l = c :: r := by
        cases l with
        | nil => exact absurd rfl hne
        | cons c r => exact ⟨c, r, rfl⟩
      have h64 : (S (c :: r)).length ≤ 640 := by rw [S_len]; omega
      refine ⟨_, rfl, S (c :: r), 0, c, rfl, rfl, by rw [S_len]; exact szL (by omega), atI_nat (j := 0) rfl, rfl, _, rfl, ?_⟩
      rw [zero_txt]
      by_cases h0 : c = 48
      · subst h0
        rw [decide_eq_true rfl]
        refine iteT ⟨_, rfl, rfl, _, rfl, ?_⟩
        by_cases h1 : r = []
        · subst h1
          rw [decide_eq_true rfl]
          rw [if_neg (by simp)] at q
          refine iteF ⟨_, rfl, S [48], _, rfl, hin, h64, _, rfl, _, rfl, _, _, rfl, rfl, ?_⟩
          refine ⟨_, rfl, ite2 (fun h2 => ?_) (fun h2 => ?_)⟩
          · have h2' := of_decide_eq_true h2
            rw [if_pos (by omega)] at q
            exact ⟨_, rfl, q H1 s1⟩
          · have h2' := of_decide_eq_false (Bool.eq_false_iff.mpr h2)
            rw [if_neg (by omega)] at q
            exact q H1 s1
        · have hd : decide (V.str (S (48 :: r)) = V.str (S [48])) = false := decide_eq_false (by
            intro e
            injection e with e
            have e2 := S_inj e
            injection e2 with _ e3
            exact h1 e3)
          rw [hd]
          rw [if_pos (by simp [h1])] at q
          exact iteT (q H1 s1)
      · have hd : decide (V.str (S [c]) = V.str (S [48])) = false := decide_eq_false (by
          intro e
          injection e with e
          have e2 := S_inj e
          injection e2 with e3
          exact h0 e3)
        rw [hd]
        rw [if_neg (by simp [h0])] at q
        refine iteF (iteF ⟨_, rfl, S (c :: r), _, rfl, hin, h64, _, rfl, _, rfl, _, _, rfl, rfl, ?_⟩)
        refine ⟨_, rfl, ite2 (fun h2 => ?_) (fun h2 => ?_)⟩
        · have h2' := of_decide_eq_true h2
          rw [if_pos (by omega)] at q
          exact ⟨_, rfl, q H1 s1⟩
        · have h2' := of_decide_eq_false (Bool.eq_false_iff.mpr h2)
          rw [if_neg (by omega)] at q
          exact q H1 s1

/-! ### stage_of_text -/
/-! ### parts_of_text -/
theorem spl_len {b : List Nat} : ∀ {k : Nat} {acc l : List Nat}, (spl b k acc l).length ≤ l.length + 1 ∧ ∀ x ∈ spl b k acc l, x.length ≤ acc.length + l.length
  | k, acc, [] => by
    rw [spl_nil]
    simp
  | 0, acc, c :: r => by
    by_cases h : pre b (c :: r) = true
    · rw [spl_hit h]
      have ih := spl_len (b := b) (k := b.length - 1) (acc := []) (l := r)
      refine ⟨by simp only [List.length_cons]; omega, ?_⟩
      intro x hx
      rcases List.mem_cons.mp hx with rfl | hx
      · simp
      · have := ih.2 x hx
        simp only [List.length_nil, List.length_cons] at this ⊢
        omega
    · rw [spl_miss (Bool.eq_false_iff.mpr h)]
      have ih := spl_len (b := b) (k := 0) (acc := acc ++ [c]) (l := r)
      refine ⟨by simp only [List.length_cons]; omega, ?_⟩
      intro x hx
      have := ih.2 x hx
      simp only [List.length_append, List.length_cons, List.length_nil] at this ⊢
      omega
  | k + 1, acc, c :: r => by
    have ih := spl_len (b := b) (k := k) (acc := acc) (l := r)
    refine ⟨by show (spl b k acc r).length ≤ _; simp only [List.length_cons]; omega, ?_⟩
    intro x hx
    have := ih.2 x hx
    simp only [List.length_cons]
    omega
/-! ### ranks -/
end

/-! ## Environments as mathematics: words, their places, texts read -/
section
open TL SX
def isLow (c : Nat) : Bool := decide (97 ≤ c ∧ c ≤ 122)
def wordT (l : List Nat) : Bool := decide (1 ≤ l.length) && (decide (l.length ≤ 12) && l.all isLow)
def pw (l : List Nat) : Nat := l.foldl (fun p c => p * 26 + (c - 97) + 1) 0
def plc (s m : List Nat) (v : Nat) : Nat := (pw s * 100000000000000000 + pw m) * 100 + v
/-- an environment's text -/
def eW (s m : List Nat) (v : Nat) : List Nat := s ++ ([32] ++ (m ++ ([32] ++ numL v)))
theorem join_spl1 (s : Nat) : ∀ (l acc : List Nat), joinL [s] (spl [s] 0 acc l) = acc ++ l := by
  intro l
  induction l with
  | nil =>
    intro acc
    rw [spl_nil]
    simp [joinL]
  | cons c r ih =>
    intro acc
    have hne : ∀ (k : Nat) (a m : List Nat), spl [s] k a m ≠ [] := by
      intro k a m
      induction m generalizing k a with
      | nil => rw [spl_nil]; simp
      | cons x y ihm =>
        rw [spl_pass]
        cases hd : (x :: y).drop k with
        | nil => rw [spl_nil]; simp
        | cons u v =>
          by_cases h : pre [s] (u :: v) = true
          · rw [spl_hit h]; simp
          · rw [spl_miss (Bool.eq_false_iff.mpr h)]
            cases k with
            | zero =>
              obtain ⟨rfl, rfl⟩ := List.cons.inj hd
              exact ihm 0 _
            | succ k =>
              have e : y = y.take k ++ (u :: v) := by
                have := (List.take_append_drop k y).symm
                rw [show y.drop k = u :: v from hd] at this
                exact this
              have e2 : spl [s] (k + 1) (a ++ [u]) y = spl [s] 0 (a ++ [u]) v := by
                rw [spl_pass, show y.drop (k + 1) = v from by
                  have h0 : y.drop k = u :: v := hd
                  rw [← List.drop_drop, h0]
                  rfl]
              rw [← e2]
              exact ihm (k + 1) (a ++ [u])
    by_cases h : pre [s] (c :: r) = true
    · have hc : c = s := by
        simp only [pre, List.length_cons, List.length_nil, List.take_succ_cons, List.take_zero] at h
        simpa using h
      rw [spl_hit h]
      have e := ih []
      have hn := hne 0 [] r
      show joinL [s] (acc :: spl [s] 0 [] r) = _
      cases hs : spl [s] 0 [] r with
      | nil => exact absurd hs hn
      | cons p ps =>
        rw [hs] at e
        show acc ++ ([s] ++ joinL [s] (p :: ps)) = acc ++ c :: r
        rw [e, hc]
        rfl
    · rw [spl_miss (Bool.eq_false_iff.mpr h), ih]
      simp
/-- a text of an environment, read: the words and the level's text -/
def eT (l : List Nat) : Option (List Nat × List Nat × Nat) := match spl [32] 0 [] l with
  | [a, b, c] => match nTL 99 c with
    | some n => if wordT a = true ∧ wordT b = true then some (a, b, n) else none
    | none => none
  | _ => none
theorem dig_two : ∀ i j : Fin 10, (nTL 99 [48 + i.val] = some i.val ∧ numL i.val = [48 + i.val]) ∧ (nTL 99 [48 + i.val, 48 + j.val] = none ∨ (nTL 99 [48 + i.val, 48 + j.val] = some (10 * i.val + j.val) ∧ numL (10 * i.val + j.val) = [48 + i.val, 48 + j.val])) := by decide +kernel
theorem nTL99 {l : List Nat} {n : Nat} (h : nTL 99 l = some n) : l = numL n ∧ n ≤ 99 := by
  have h0 := h
  unfold nTL at h
  split at h
  · rename_i hc
    simp only [Bool.and_eq_true, decide_eq_true_eq] at hc
    obtain ⟨h1, h2, h3⟩ := hc
    have e : (numL 99).length = 2 := by decide +kernel
    rw [e] at h2
    have fin : n ≤ 99 := by
      split at h
      · cases h
      · split at h
        · obtain rfl := Option.some.inj h
          assumption
        · cases h
    have dg : ∀ c ∈ l, ∃ i : Fin 10, c = 48 + i.val := fun c hc => by
      have := List.all_eq_true.mp h3 c hc
      simp only [isDig, decide_eq_true_eq] at this
      exact ⟨⟨c - 48, by omega⟩, by show c = 48 + (c - 48); omega⟩
    match l, h1, h2, dg with
    | [c], _, _, dg =>
      obtain ⟨i, rfl⟩ := dg c (by simp)
      obtain ⟨⟨q1, q2⟩, _⟩ := dig_two i i
      rw [q1] at h0
      obtain rfl := Option.some.inj h0
      exact ⟨q2.symm, fin⟩
    | [c, d], _, _, dg =>
      obtain ⟨i, rfl⟩ := dg c (by simp)
      obtain ⟨j, rfl⟩ := dg d (by simp)
      rcases (dig_two i j).2 with q | ⟨q1, q2⟩
      · rw [q] at h0
        cases h0
      · rw [q1] at h0
        obtain rfl := Option.some.inj h0
        exact ⟨q2.symm, fin⟩
    | _ :: _ :: _ :: _, _, h2, _ => simp at h2
  · cases h
theorem num99 : ∀ n : Fin 100, nTL 99 (numL n.val) = some n.val := by decide +kernel
theorem nTL_num99 {n : Nat} (h : n ≤ 99) : nTL 99 (numL n) = some n := num99 ⟨n, by omega⟩
theorem word_free {l : List Nat} (h : wordT l = true) : 32 ∉ l := fun hm => by
  simp only [wordT, Bool.and_eq_true] at h
  have := List.all_eq_true.mp h.2.2 32 hm
  simp [isLow] at this
theorem spl_eW {s m : List Nat} {v : Nat} (hs : wordT s = true) (hm : wordT m = true) : spl [32] 0 [] (eW s m v) = [s, m, numL v] := by
  have h := spl_join (s := 32) (S := []) (parts := [s, m, numL v]) (by simp) (by
    intro p hp
    simp only [List.mem_cons, List.not_mem_nil, or_false] at hp
    rcases hp with rfl | rfl | rfl
    · exact word_free hs
    · exact word_free hm
    · exact numL_free (.inl (by decide)))
  exact h
theorem eT_eW {s m : List Nat} {v : Nat} (hs : wordT s = true) (hm : wordT m = true) (hv : v ≤ 99) : eT (eW s m v) = some (s, m, v) := by
  unfold eT
  rw [spl_eW hs hm]
  simp only [nTL_num99 hv]
  rw [if_pos ⟨hs, hm⟩]
theorem eT_some {l a b : List Nat} {n : Nat} (h : eT l = some (a, b, n)) : l = eW a b n ∧ wordT a = true ∧ wordT b = true ∧ n ≤ 99 := by
  unfold eT at h
  split at h
  · rename_i a' b' c hs
    split at h
    · rename_i n' hn
      split at h
      · rename_i hw
        obtain ⟨rfl, rfl, rfl⟩ : a' = a ∧ b' = b ∧ n' = n := by
          injection h with h
          injection h with h1 h2
          injection h2 with h2 h3
          exact ⟨h1, h2, h3⟩
        obtain ⟨rfl, hn99⟩ := nTL99 hn
        have e := join_spl1 32 l []
        rw [hs] at e
        exact ⟨e.symm, hw.1, hw.2, hn99⟩
      · cases h
    · cases h
  · cases h
/-- the words of the draws -/
def w8 : Nat → List Nat
  | 0 => [97]
  | 1 => [98]
  | 2 => [99]
  | 3 => [97, 97]
  | 4 => [110, 111, 116]
  | 5 => [110, 111, 114, 116, 104]
  | 6 => [122]
  | _ => [98, 98]
def lessW (l m : List Nat) : Bool := decide (l.length < m.length) || (decide (l.length = m.length) && decide (l < m))
theorem w8_facts : ∀ i j : Fin 8, wordT (w8 i.val) = true ∧ pw (w8 i.val) < 100000000000000000 ∧ (decide (pw (w8 i.val) < pw (w8 j.val)) = lessW (w8 i.val) (w8 j.val)) ∧ (pw (w8 i.val) = pw (w8 j.val) ↔ w8 i.val = w8 j.val) := by decide +kernel
theorem w8_word {i : Nat} (h : i < 8) : wordT (w8 i) = true := (w8_facts ⟨i, h⟩ ⟨i, h⟩).1
end

/-! ## Markers: tokens, terms, texts -/
section
open TL SX
def isLD (c : Nat) : Bool := isLow c || isDig c
def sgn8 : List Txt := [[61, 61], [33, 61], [60, 61], [62, 61], [60], [62], [40], [41]]
def tokF (l : Txt) : Txt := if l.takeWhile isLD = [] then ((sgn8.find? fun s => s.isPrefixOf (l.take 2)).getD []) else l.takeWhile isLD
def toksG (l : Txt) : Option (List Txt) := match l with
  | [] => some []
  | c :: r => if h : tokF (c :: r) = [] then (if c = 32 then toksG r else none) else (toksG ((c :: r).drop (tokF (c :: r)).length)).map (tokF (c :: r) :: ·)
termination_by l.length
decreasing_by
  · simp
  · have : 0 < (tokF (c :: r)).length := List.length_pos_iff.mpr h
    simp only [List.length_drop, List.length_cons]
    omega
def toksF (l : Txt) : Option (List Txt) := if l.head? = some 32 ∨ l.getLast? = some 32 then none else toksG l
def TokOk (w : Txt) : Prop := (w ≠ [] ∧ ∀ c ∈ w, isLD c = true) ∨ w ∈ sgn8
def glue (w w' : Txt) : Prop := match w' with
  | [] => False
  | c :: _ => ((∀ x ∈ w, isLD x = true) → isLD c = false) ∧ (w = [60] ∨ w = [62] → c ≠ 61)
theorem tok_ne {w : Txt} (h : TokOk w) : w ≠ [] := by
  rcases h with h | h
  · exact h.1
  · intro e
    subst e
    exact absurd h (by decide)
theorem tokF_here {w rest : Txt} (h : TokOk w) (hr : ∀ c r, rest = c :: r → ((∀ x ∈ w, isLD x = true) → isLD c = false) ∧ (w = [60] ∨ w = [62] → c ≠ 61)) : tokF (w ++ rest) = w := by
  rcases h with ⟨hn, hw⟩ | hs
  · have e : (w ++ rest).takeWhile isLD = w := by
      rw [List.takeWhile_append_of_pos hw]
      cases rest with
      | nil => simp
      | cons c r => rw [List.takeWhile_cons, (hr c r rfl).1 hw]; simp
    unfold tokF
    rw [e, if_neg hn]
  · simp only [sgn8, List.mem_cons, List.not_mem_nil, or_false] at hs
    rcases hs with rfl | rfl | rfl | rfl | rfl | rfl | rfl | rfl
    · rfl
    · rfl
    · rfl
    · rfl
    · cases rest with
      | nil => rfl
      | cons c r =>
        have := (hr c r rfl).2 (.inl rfl)
        have e : (61 == c) = false := by rw [beq_eq_false_iff_ne]; exact Ne.symm this
        show ((sgn8.find? fun s => s.isPrefixOf [60, c]).getD []) = [60]
        simp [sgn8, List.find?, List.isPrefixOf, e]
    · cases rest with
      | nil => rfl
      | cons c r =>
        have := (hr c r rfl).2 (.inr rfl)
        have e : (61 == c) = false := by rw [beq_eq_false_iff_ne]; exact Ne.symm this
        show ((sgn8.find? fun s => s.isPrefixOf [62, c]).getD []) = [62]
        simp [sgn8, List.find?, List.isPrefixOf, e]
    · cases rest <;> rfl
    · cases rest <;> rfl
theorem tokF_space (r : Txt) : tokF (32 :: r) = [] := by
  cases r <;> rfl
/-- tokens, each behind its gap -/
def lay (ps : List (Nat × Txt)) : Txt := ps.flatMap fun p => List.replicate p.1 32 ++ p.2
inductive LayOk : List (Nat × Txt) → Prop where
  | nil : LayOk []
  | one {g : Nat} {w : Txt} (h : TokOk w) : LayOk [(g, w)]
  | cons {g g' : Nat} {w w' : Txt} {ps : List (Nat × Txt)} (h : TokOk w) (k : g' = 0 → glue w w') (r : LayOk ((g', w') :: ps)) : LayOk ((g, w) :: (g', w') :: ps)
theorem toksG_gap (l : Txt) : ∀ g, toksG (List.replicate g 32 ++ l) = toksG l
  | 0 => rfl
  | g + 1 => by
    have e : List.replicate (g + 1) 32 ++ l = 32 :: (List.replicate g 32 ++ l) := rfl
    rw [e, toksG]
    rw [dif_pos (tokF_space _), if_pos rfl]
    exact toksG_gap l g
theorem toksG_tok {w rest : Txt} (h : TokOk w) (hr : ∀ c r, rest = c :: r → ((∀ x ∈ w, isLD x = true) → isLD c = false) ∧ (w = [60] ∨ w = [62] → c ≠ 61)) : toksG (w ++ rest) = (toksG rest).map (w :: ·) := by
  have e := tokF_here h hr
  obtain ⟨c, r, hw⟩ := List.exists_cons_of_ne_nil (tok_ne h)
  have e2 : w ++ rest = c :: (r ++ rest) := by rw [hw]; rfl
  rw [e2] at e ⊢
  rw [toksG, dif_neg (by rw [e]; exact tok_ne h), e, ← e2, List.drop_left]
theorem toksG_lay {ps : List (Nat × Txt)} (h : LayOk ps) : toksG (lay ps) = some (ps.map (·.2)) := by
  induction h with
  | nil => rw [show lay [] = [] from rfl, toksG]; rfl
  | @one g w h =>
    have e : lay [(g, w)] = List.replicate g 32 ++ (w ++ []) := by simp [lay]
    rw [e, toksG_gap, toksG_tok h (fun c r e => by cases e), toksG]
    rfl
  | @cons g g' w w' ps h k r ih =>
    have e : lay ((g, w) :: (g', w') :: ps) = List.replicate g 32 ++ (w ++ lay ((g', w') :: ps)) := by simp [lay]
    rw [e, toksG_gap, toksG_tok h (fun c r e => ?_), ih]
    · rfl
    · cases g' with
      | zero =>
        have k' := k rfl
        cases w' with
        | nil => exact absurd k' (by simp [glue])
        | cons x y =>
          have : c = x := by
            simp [lay] at e
            exact e.1.symm
          subst this
          exact k'
      | succ n =>
        have : c = 32 := by
          simp [lay, List.replicate_succ] at e
          exact e.1.symm
        subst this
        exact ⟨fun _ => rfl, fun _ => by decide⟩
theorem lay_head {w : Txt} {ps : List (Nat × Txt)} (h : TokOk w) : (lay ((0, w) :: ps)).head? ≠ some 32 := by
  obtain ⟨c, r, hw⟩ := List.exists_cons_of_ne_nil (tok_ne h)
  subst hw
  simp only [lay, List.flatMap_cons, List.replicate_zero, List.nil_append, List.cons_append, List.head?_cons, ne_eq, Option.some.injEq]
  rintro rfl
  rcases h with h | h
  · exact absurd (h.2 32 (by simp)) (by decide)
  · simp [sgn8] at h
theorem tok_last {w : Txt} (h : TokOk w) : w.getLast? ≠ some 32 := by
  intro e
  rcases h with h | h
  · exact absurd (h.2 32 (List.mem_of_getLast? e)) (by decide)
  · simp only [sgn8, List.mem_cons, List.not_mem_nil, or_false] at h
    rcases h with rfl | rfl | rfl | rfl | rfl | rfl | rfl | rfl <;> exact absurd e (by decide)
theorem lay_last {ps : List (Nat × Txt)} (h : LayOk ps) : (lay ps).getLast? ≠ some 32 := by
  induction h with
  | nil => simp [lay]
  | @one g w h =>
    have e : lay [(g, w)] = List.replicate g 32 ++ w := by simp [lay]
    rw [e, List.getLast?_append]
    obtain ⟨x, hx⟩ : ∃ x, w.getLast? = some x := ⟨_, List.getLast?_eq_some_getLast (tok_ne h)⟩
    rw [hx]
    intro q
    exact tok_last h (by rw [hx]; simpa using q)
  | @cons g g' w w' ps h k r ih =>
    have e : lay ((g, w) :: (g', w') :: ps) = (List.replicate g 32 ++ w) ++ lay ((g', w') :: ps) := by simp [lay]
    have ne : lay ((g', w') :: ps) ≠ [] := by
      have : w' ≠ [] := by
        cases r with
        | one h => exact tok_ne h
        | cons h _ _ => exact tok_ne h
      simp [lay, this]
    rw [e, List.getLast?_append]
    obtain ⟨x, hx⟩ : ∃ x, (lay ((g', w') :: ps)).getLast? = some x := ⟨_, List.getLast?_eq_some_getLast ne⟩
    rw [hx] at ih ⊢
    simpa using ih
theorem toks_lay {w : Txt} {ps : List (Nat × Txt)} (h : LayOk ((0, w) :: ps)) : toksF (lay ((0, w) :: ps)) = some (w :: ps.map (·.2)) := by
  have ht : TokOk w := by
    cases h with
    | one h => exact h
    | cons h _ _ => exact h
  unfold toksF
  rw [if_neg (fun q => q.elim (lay_head ht) (lay_last h)), toksG_lay h]
  rfl
/-! ### terms -/
def lvSigns : List Txt := [[61, 61], [33, 61], [60], [60, 61], [62], [62, 61]]
def cmpF (w s x : Txt) : Option Tm :=
  if w = wLevel then match nTL 99 x with
    | some n => if s ∈ lvSigns then some ⟨w, s, .inr n⟩ else none
    | none => none
  else if (s = [61, 61] ∨ s = [33, 61]) ∧ wordT x = true then some ⟨w, s, .inl x⟩ else none
def cmp3 : List Txt → Option Tm
  | [w, s, x] => cmpF w s x
  | _ => none
def termsF (ws : List Txt) : Option (List Tm) := match ws with
  | [] => some []
  | w :: r => if w ∈ fieldL then (cmp3 ((w :: r).take 3)).bind fun t => (termsF (r.drop 2)).map (t :: ·) else (termsF r).map (opT w :: ·)
termination_by ws.length
decreasing_by
  all_goals simp only [List.length_drop, List.length_cons]
  all_goals omega
def tkT (t : Tm) : List Txt := if t.w ∈ fieldL then [t.w, t.s, txV t.v] else [t.w]
def TmOk (t : Tm) : Prop := if t.w ∈ fieldL then cmpF t.w t.s (txV t.v) = some t else t = opT t.w
theorem terms_tk : ∀ {ts : List Tm}, (∀ t ∈ ts, TmOk t) → termsF (ts.flatMap tkT) = some ts
  | [], _ => by rw [show ([] : List Tm).flatMap tkT = [] from rfl, termsF]
  | t :: ts, h => by
    have ih := terms_tk (ts := ts) fun x hx => h x (List.mem_cons_of_mem _ hx)
    have ht := h t (by simp)
    unfold TmOk at ht
    rw [List.flatMap_cons]
    by_cases hf : t.w ∈ fieldL
    · rw [if_pos hf] at ht
      have e : tkT t = [t.w, t.s, txV t.v] := if_pos hf
      rw [e]
      show termsF (t.w :: t.s :: txV t.v :: ts.flatMap tkT) = _
      rw [termsF, if_pos hf]
      show (cmpF t.w t.s (txV t.v)).bind (fun u => (termsF (ts.flatMap tkT)).map (u :: ·)) = _
      rw [ht, ih]
      rfl
    · rw [if_neg hf] at ht
      have e : tkT t = [t.w] := if_neg hf
      rw [e]
      show termsF (t.w :: ts.flatMap tkT) = _
      rw [termsF, if_neg hf, ih, ← ht]
      rfl
/-- a whole text: its terms in postfix, or none -/
def readF (l : Txt) : Option (List Tm) := (toksF l).bind fun ws => (termsF ws).bind exprF
/-! ### texts -/
def bndT (w : Txt) : Nat := if w = wNot then 3 else if w = wAnd then 2 else if w = wOr then 1 else if w = [40] then 0 else if w = [41] then 1 else 4
abbrev Hs := List (Txt × Nat)
def txM (h : Hs) (t : Tm) : Option Hs :=
  if t.w = wNot then match h with
    | (x, b) :: r => some ((wNot ++ [32] ++ inP b 3 x, 3) :: r)
    | [] => none
  else if t.w = wAnd ∨ t.w = wOr then match h with
    | (y, c) :: (x, b) :: r => some ((inP b (bndT t.w) x ++ [32] ++ t.w ++ [32] ++ inP c (bndT t.w) y, bndT t.w) :: r)
    | _ => none
  else some ((txTm t, bndT t.w) :: h)
def txR : Hs → List Tm → Option Hs
  | h, [] => some h
  | h, t :: ts => (txM h t).bind fun h' => txR h' ts
theorem txR_append : ∀ (ts us : List Tm) (h : Hs), txR h (ts ++ us) = (txR h ts).bind fun h' => txR h' us
  | [], _, _ => rfl
  | t :: ts, us, h => by
    show (txM h t).bind _ = ((txM h t).bind _).bind _
    cases txM h t with
    | none => rfl
    | some m' => exact txR_append ts us m'
theorem oper_bnd : ∀ w ∈ operL, w ≠ wNot ∧ w ≠ wAnd ∧ w ≠ wOr ∧ bndT w = 4 := by decide
theorem txR_pfx : ∀ (t : Tr), (∀ x ∈ t.lvs, x.w ∈ operL) → ∀ h, txR h t.pfx = some ((t.wr, t.bd) :: h)
  | .lf x, q, h => by
    obtain ⟨a, b, c, d⟩ := oper_bnd x.w (q x (by simp [Tr.lvs]))
    show (txM h x).bind _ = _
    have e : txM h x = some ((txTm x, 4) :: h) := by
      unfold txM
      rw [if_neg a, if_neg (fun e => e.elim b c), d]
    rw [e]
    rfl
  | .no t, q, h => by
    show txR h (t.pfx ++ [opT wNot]) = _
    rw [txR_append, txR_pfx t q h]
    rfl
  | .bi a t u, q, h => by
    show txR h (t.pfx ++ u.pfx ++ [opT (wOp a)]) = _
    rw [txR_append, txR_append, txR_pfx t (fun x hx => q x (by simp [Tr.lvs, hx])) h]
    show ((txR _ u.pfx).bind _) = _
    rw [txR_pfx u (fun x hx => q x (by simp [Tr.lvs, hx]))]
    cases a <;> rfl
end

/-! ## Markers: tokens -/
section
variable {P : Program} {w : World} {K : PySem.W.Frag} {mg : Str → Option Value} {base : Heap} {D : Ad}
open TL SX
theorem cut_mid {l : List Nat} {k m : Nat} (h : k ≤ l.length) : cutS (S l) (some ((k : Nat) : Int)) (some ((m : Nat) : Int)) = S ((l.drop k).take (m - k)) := by
  have e1 : HT.sIx (S l).length 0 (some ((k : Nat) : Int)) = k := by
    rw [S_len, HT.sIx_nat]
    omega
  have e2 : HT.sIx (S l).length (S l).length (some ((m : Nat) : Int)) = min m l.length := by
    rw [S_len, HT.sIx_nat]
  unfold cutS
  rw [e1, e2]
  show S _ = _
  congr 1
  show (l.drop k).take _ = _
  by_cases hm : m ≤ l.length
  · rw [Nat.min_eq_left hm]
  · rw [Nat.min_eq_right (by omega), List.take_of_length_le (by rw [List.length_drop]; omega), List.take_of_length_le (by rw [List.length_drop]; omega)]
theorem tw_at {p : Nat → Bool} : ∀ {l : List Nat} {j c : Nat}, j ≤ (l.takeWhile p).length → l[j]? = some c → p c = decide (j < (l.takeWhile p).length)
  | [], j, c, _, h => by simp at h
  | x :: r, j, c, hj, h => by
    rw [List.takeWhile_cons] at hj ⊢
    cases hp : p x with
    | true =>
      rw [hp] at hj
      cases j with
      | zero =>
        have : x = c := by simpa using h
        rw [← this, hp]
        simp
      | succ j =>
        have := tw_at (p := p) (l := r) (j := j) (c := c) (by simpa using hj) (by simpa using h)
        rw [this]
        simp
    | false =>
      rw [hp] at hj
      have : j = 0 := by simpa using hj
      subst this
      have : x = c := by simpa using h
      rw [← this, hp]
      simp
theorem ld_sign (c : Nat) : decide (c ∈ ((("abcdefghijklmnopqrstuvwxyz" : String) : Str) ++ (("0123456789" : String) : Str)).cps.toList) = isLD c := by
  have e : ((("abcdefghijklmnopqrstuvwxyz" : String) : Str) ++ (("0123456789" : String) : Str)).cps.toList = (List.range 26).map (· + 97) ++ (List.range 10).map (· + 48) := by decide +kernel
  rw [e, Bool.eq_iff_iff, decide_eq_true_eq]
  simp only [isLD, isLow, isDig, List.mem_append, List.mem_map, List.mem_range, Bool.or_eq_true, decide_eq_true_eq]
  constructor
  · rintro (⟨i, hi, rfl⟩ | ⟨i, hi, rfl⟩)
    · exact .inl (by omega)
    · exact .inr (by omega)
  · rintro (h | h)
    · exact .inl ⟨c - 97, by omega, by omega⟩
    · exact .inr ⟨c - 48, by omega, by omega⟩
theorem sgn8_v : ([.str "==", .str "!=", .str "<=", .str ">=", .str "<", .str ">", .str "(", .str ")"] : List V) = sgn8.map fun l => V.str (S l) := by decide +kernel
theorem sqK {a : Addr} {xs : List V} (h : SqT K (fun _ => none) a xs) (H : Hp) : SqT K H a xs := h.elim (fun h => by
  rcases h with h | ⟨o, h⟩
  · exact nomatch (show (none : Option HO) = some _ from h)
  · exact nomatch (show (none : Option HO) = some _ from h)) .inr
theorem pre_S (a b : List Nat) : Txt.startswith (S a) (S b) = b.isPrefixOf a := by
  unfold Txt.startswith
  rw [PySem.StrLaws.subAt_eq, S_len, S_len, Nat.zero_add]
  show (decide (b.length ≤ a.length) && (a.take b.length == b)) = _
  rw [Bool.eq_iff_iff]
  simp only [Bool.and_eq_true, decide_eq_true_eq, beq_iff_eq, List.isPrefixOf_iff_prefix]
  constructor
  · rintro ⟨_, h⟩
    have e := List.take_append_drop b.length a
    rw [h] at e
    exact ⟨_, e⟩
  · rintro ⟨t, rfl⟩
    simp
/-- while, by a measure, to a word that holds at the end -/
theorem while_to {c : TT} {tb : TS} {D : Ends} {σ : L2.St} {H : Hp} (W : Nat → L2.St → Hp → Prop) (Z : L2.St → Hp → Prop) (h0 : ∃ m, W m σ H) (hx : ∀ σ H, Z σ H → D.nx σ H)
    (hs : (∀ σ H, Z σ H → D.nx σ H) → ∀ m σ H, W m σ H → c σ H fun b H1 => if b = true then ∃ N : L2.St → Hp → Prop, (∀ σ' H', N σ' H' → ∃ m', m' < m ∧ W m' σ' H') ∧ tb { D with nx := N, ct := N, bk := D.nx } σ H1 else D.nx σ H1) :
    tWhile c tb D σ H := ⟨W, h0, hs hx⟩
abbrev ldS : Str := (("abcdefghijklmnopqrstuvwxyz" : String) : Str) ++ (("0123456789" : String) : Str)
def spTokA : Sp := fun vs H Q _ => ∃ (l : List Nat) (k : Nat), vs = [.str (S l), .int (k : Int)] ∧ k < l.length ∧ l.length ≤ 100000 ∧ Q (.str (S (tokF (l.drop k)))) H
theorem ok_token_at (T : TexW w K mg D) : FnOk P w K mg base CX0 1 D.a_token_at D.d_token_at P_token_at spTokA := by
  refine T.token_at_F.ok S_token_at (fun vs H Q E h => ?_) (fun cdv A outer s H vs Q E hr h => ?_)
  · obtain ⟨l, k, rfl, _⟩ := h
    rfl
  · obtain ⟨l, k, rfl, hk, hl, q⟩ := h
    refine ⟨_, (pss_cons (ps_set (i := 2) S_token_at.nd rfl (Or.inl rfl) (pe_op op_add_str (pe_glob (v := .str "abcdefghijklmnopqrstuvwxyz") rfl T.c_LETTERS ⟨_, rfl⟩) (pe_glob (v := .str "0123456789") rfl T.c_DIGITS ⟨_, rfl⟩)))
      (pss_cons (ps_set (i := 3) S_token_at.nd rfl (Or.inl rfl) (pv 1))
      (pss_cons (ps_while PassesOwn.never (PW.pt (pw_and (pt_cmpR op_lt (pv 3) (pe_callB call_len_str (by rfl) T.b_len (by decide +kernel) (pa_cons (pv 0) pa_nil)) (nomark _)) (pw_and1 (pt_cmpR op_in_sign (pe_ix ix_str (pv 0) (pv 3) (fun _ _ => rfl)) (pv 2) rfl)))) (pss_one (ps_aug (i := 3) S_token_at.nd rfl (Or.inl rfl) pe_int ip_add)))
      (pss_cons (ps_if (pt_cmpR op_gt (pv 3) (pv 1) (nomark _)) (pss_one (ps_ret (pe_slice sl_str (pv 0) (po_some (pv 1)) (po_some (pv 3))))) pss_nil)
      (pss_cons (ps_for PassesOwn.never rfl (pi_tup (pe_glob (v := .ref D.k_SIGNS) rfl T.c_SIGNS rfl)) (pg_name (i := 4) S_token_at.nd rfl (Or.inl rfl)) (pss_one (ps_if (pt_val (pe_bm PySem.F.plainAttrs_str PySem.F.slot_str_startswith PySem.F.type_str_startswith mt_startswith (pe_slice sl_str (pv 0) (po_some (pv 1)) (po_some (pe_op op_add (pv 1) pe_int))) (pa_cons (pv 4) pa_nil))) (pss_one (ps_ret (pv 4))) pss_nil)))
      (pss_one (ps_ret pe_str))))))), ?_⟩
    refine ⟨_, _, rfl, rfl, by decide +kernel, _, rfl, ?_⟩
    have sl : (S l).length ≤ sizeLine := by rw [S_len]; exact szL hl
    have hW : ((l.drop k).takeWhile isLD).length ≤ l.length - k := by
      have := (List.takeWhile_sublist isLD (l := l.drop k)).length_le
      rwa [List.length_drop] at this
    have ek : ((l.drop k).takeWhile isLD).length = ((l.drop k).takeWhile isLD).length := rfl
    revert ek
    generalize hw : ((l.drop k).takeWhile isLD).length = W at hW ⊢
    intro _
    refine while_to (fun m σ H' => H' = H ∧ ∃ j o, j ≤ W ∧ m = W - j ∧ σ = [some (.str (S l)), some (.int (k : Int)), some (.str ldS), some (.int ((k + j : Nat) : Int)), o])
      (fun σ H' => H' = H ∧ ∃ o, σ = [some (.str (S l)), some (.int (k : Int)), some (.str ldS), some (.int ((k + W : Nat) : Int)), o]) ⟨_, rfl, 0, _, Nat.zero_le _, rfl, rfl⟩ ?_ ?_
    · rintro σ H1 ⟨rfl, o, rfl⟩
      refine ⟨_, rfl, _, rfl, _, _, rfl, rfl, _, rfl, ite2 (fun h2 => ?_) (fun h2 => ?_)⟩
      · have hp : 0 < W := by
          have := of_decide_eq_true h2
          omega
        refine ⟨_, rfl, _, rfl, _, rfl, _, rfl, _, rfl, S l, rfl, sl, ?_⟩
        rw [cut_mid (by omega)]
        have e : ((l.drop k).take (k + W - k)) = tokF (l.drop k) := by
          have e1 : (l.drop k).takeWhile isLD ≠ [] := by
            intro e
            rw [e] at hw
            simp at hw
            omega
          unfold tokF
          rw [if_neg e1, show k + W - k = W by omega, ← hw]
          exact (List.prefix_iff_eq_take.mp (List.takeWhile_prefix isLD)).symm
        rw [e]
        exact q
      · have h0 : W = 0 := by
          have := of_decide_eq_false (Bool.eq_false_iff.mpr h2)
          omega
        subst h0
        have e0 : (l.drop k).takeWhile isLD = [] := List.length_eq_zero_iff.mp hw
        refine ⟨D.k_SIGNS, rfl, ⟨_, sqK T.v_SIGNS _⟩, for_tup (K := K) (xs := [.str "==", .str "!=", .str "<=", .str ">=", .str "<", .str ">", .str "(", .str ")"]) (fun i σ H' => H' = H1 ∧ (∀ j < i, ∀ s, sgn8[j]? = some s → s.isPrefixOf ((l.drop k).take 2) = false) ∧ ∃ x, σ = [some (.str (S l)), some (.int (k : Int)), some (.str ldS), some (.int ((k + 0 : Nat) : Int)), x]) ⟨rfl, (fun j hj => absurd hj (Nat.not_lt_zero _)), _, rfl⟩ (fun i σ H' _ h => sqK T.v_SIGNS _) ?_ ?_⟩
        · rintro i v σ H2 hi ⟨rfl, hij, x, rfl⟩
          rw [sgn8_v, List.getElem?_map] at hi
          cases hs : sgn8[i]? with
          | none =>
            rw [hs] at hi
            cases hi
          | some s =>
            rw [hs] at hi
            cases hi
            refine ⟨_, rfl, _, rfl, _, rfl, _, rfl, _, _, rfl, rfl, _, rfl, S l, rfl, sl, ?_⟩
            have ec : cutS (S l) (some ((k : Nat) : Int)) (some ((k : Int) + 2)) = S ((l.drop k).take 2) := by
              have := cut_mid (l := l) (k := k) (m := k + 2) (by omega)
              rw [show k + 2 - k = 2 by omega] at this
              exact this
            rw [ec]
            refine ⟨rfl, _, rfl, _, _, rfl, rfl, _, rfl, ?_⟩
            rw [pre_S]
            cases hp : s.isPrefixOf ((l.drop k).take 2) with
            | true =>
              refine iteT ⟨_, rfl, ?_⟩
              have e : tokF (l.drop k) = s := by
                unfold tokF
                rw [if_pos e0]
                have : (sgn8.find? fun s => s.isPrefixOf ((l.drop k).take 2)) = some s := by
                  rw [List.find?_eq_some_iff_getElem]
                  obtain ⟨hi8, es⟩ := List.getElem?_eq_some_iff.mp hs
                  refine ⟨hp, i, hi8, es, fun j hj => ?_⟩
                  rw [hij j hj _ (List.getElem?_eq_getElem (by omega))]
                  decide
                rw [this]
                rfl
              rw [e] at q
              exact q
            | false =>
              refine iteF ⟨rfl, fun j hj s' hs' => ?_, _, rfl⟩
              by_cases hji : j = i
              · subst hji
                rw [hs] at hs'
                cases hs'
                exact hp
              · exact hij j (by omega) s' hs'
        · rintro σ H2 ⟨rfl, hij, x, rfl⟩
          have e : tokF (l.drop k) = [] := by
            unfold tokF
            rw [if_pos e0]
            have : (sgn8.find? fun s => s.isPrefixOf ((l.drop k).take 2)) = none := by
              rw [List.find?_eq_none]
              intro s hs
              obtain ⟨j, hj⟩ := List.mem_iff_getElem?.mp hs
              have hl : j < 8 := (List.getElem?_eq_some_iff.mp hj).1
              rw [hij j hl s hj]
              decide
            rw [this]
            rfl
          rw [e] at q
          exact q
    · rintro ex m σ H1 ⟨rfl, j, o, hj, rfl, rfl⟩
      refine ⟨_, rfl, _, rfl, S l, rfl, sl, _, _, rfl, rfl, _, rfl, ite2 (fun h1 => ?_) (fun h1 => ?_)⟩
      · have h1' := of_decide_eq_true h1
        rw [S_len] at h1'
        have hlt : k + j < l.length := by omega
        obtain ⟨c, hc⟩ : ∃ c, l[k + j]? = some c := ⟨_, List.getElem?_eq_getElem hlt⟩
        refine ⟨_, rfl, _, rfl, S l, _, c, rfl, rfl, sl, atI_nat hc, _, rfl, c, ldS, rfl, rfl, ?_⟩
        rw [ld_sign]
        have e := tw_at (p := isLD) (l := l.drop k) (j := j) (c := c) (by rw [hw]; exact hj) (by rw [List.getElem?_drop]; exact hc)
        rw [e, hw]
        refine ⟨_, rfl, ite2 (fun h3 => ?_) (fun h3 => ?_)⟩
        · have h3' := of_decide_eq_true h3
          refine ⟨fun σ H' => H' = H1 ∧ ∃ o, σ = [some (.str (S l)), some (.int (k : Int)), some (.str ldS), some (.int ((k + (j + 1) : Nat) : Int)), o], ?_, ?_⟩
          · rintro σ' H' ⟨rfl, o, rfl⟩
            exact ⟨_, by show W - (j + 1) < W - j; omega, rfl, j + 1, o, h3', rfl, rfl⟩
          · exact ⟨_, rfl, _, _, rfl, rfl, rfl, _, rfl⟩
        · have : j = W := by
            have := of_decide_eq_false (Bool.eq_false_iff.mpr h3)
            omega
          subst this
          exact ex _ _ ⟨rfl, _, rfl⟩
      · have : j = W := by
          have := of_decide_eq_false (Bool.eq_false_iff.mpr h1)
          rw [S_len] at this
          omega
        subst this
        exact ex _ _ ⟨rfl, _, rfl⟩
end

/-! ## Markers: a text's tokens -/
section
variable {P : Program} {w : World} {K : PySem.W.Frag} {mg : Str → Option Value} {base : Heap} {D : Ad}
open TL SX
theorem spc : ((" " : String) : Str) = S [32] := by decide +kernel
theorem ends_S (a : List Nat) (c : Nat) : Txt.endswith (S a) (S [c]) = decide (a.getLast? = some c) := by
  unfold Txt.endswith
  rw [PySem.StrLaws.subAt_eq, S_len, S_len, Nat.zero_add]
  show (decide (1 ≤ a.length) && ((a.drop (a.length - 1)).take 1 == [c])) = _
  rcases List.eq_nil_or_concat a with rfl | ⟨r, x, rfl⟩
  · simp
  · rw [Bool.eq_iff_iff]
    simp
theorem head_S (a : List Nat) (c : Nat) : Txt.startswith (S a) (S [c]) = decide (a.head? = some c) := by
  rw [pre_S]
  cases a with
  | nil => rfl
  | cons x r =>
    rw [Bool.eq_iff_iff]
    show ((c == x) && List.isPrefixOf [] r) = true ↔ _
    simp only [List.isPrefixOf, Bool.and_true, beq_iff_eq, decide_eq_true_eq, List.head?_cons, Option.some.injEq]
    exact eq_comm
theorem toksG_one {c : Nat} {r : Txt} : toksG (c :: r) = if tokF (c :: r) = [] then (if c = 32 then toksG r else none) else (toksG ((c :: r).drop (tokF (c :: r)).length)).map (tokF (c :: r) :: ·) := by
  rw [toksG]
  by_cases h : tokF (c :: r) = []
  · rw [dif_pos h, if_pos h]
  · rw [dif_neg h, if_neg h]
theorem tokF_len (l : Txt) : (tokF l).length ≤ l.length := by
  unfold tokF
  by_cases h : l.takeWhile isLD = []
  · rw [if_pos h]
    cases e : sgn8.find? fun s => s.isPrefixOf (l.take 2) with
    | none => simp
    | some s =>
      have := List.find?_some e
      have h2 := (List.isPrefixOf_iff_prefix.mp this).length_le
      have : (l.take 2).length ≤ l.length := by rw [List.length_take]; exact Nat.min_le_right _ _
      show s.length ≤ _
      omega
  · rw [if_neg h]
    exact (List.takeWhile_sublist isLD).length_le
def vT (ws : List Txt) : List V := ws.map fun x => V.str (S x)
def spToks : Sp := fun vs H Q _ => ∃ l : List Nat, vs = [.str (S l)] ∧ l.length ≤ 50000 ∧ (toksF l = none → ∀ H', Same H H' → Q .non H') ∧
  ∀ ws p H', toksF l = some ws → H p = none → Same H H' → H' p = some (.lst (vT ws)) → Q (.ref p) H'
theorem ok_tokens_of (T : TexW w K mg D) : FnOk P w K mg base CX0 2 D.a_tokens_of D.d_tokens_of P_tokens_of spToks := by
  have G_token_at : FnOk P w K mg base CX0 1 D.a_token_at D.d_token_at P_token_at spTokA := ok_token_at T
  refine T.tokens_of_F.ok S_tokens_of (fun vs H Q E h => ?_) (fun cdv A outer s H vs Q E hr h => ?_)
  · obtain ⟨l, rfl, _⟩ := h
    rfl
  · obtain ⟨l, rfl, hl, q0, q1⟩ := h
    refine ⟨_, (pss_cons (ps_if (PW.pt (pw_or (pt_val (pe_bm PySem.F.plainAttrs_str PySem.F.slot_str_startswith PySem.F.type_str_startswith mt_startswith (pv 0) (pa_cons pe_str pa_nil))) (pw_or1 (pt_val (pe_bm PySem.F.plainAttrs_str PySem.F.slot_str_endswith PySem.F.type_str_endswith mt_endswith (pv 0) (pa_cons pe_str pa_nil)))))) (pss_one (ps_ret pe_non)) pss_nil)
      (pss_cons (ps_set (i := 1) S_tokens_of.nd rfl (Or.inl rfl) (pe_lst pa_nil))
      (pss_cons (ps_set (i := 2) S_tokens_of.nd rfl (Or.inl rfl) pe_int)
      (pss_cons (ps_while PassesOwn.never (pt_cmpR op_lt (pv 2) (pe_callB call_len_str (by rfl) T.b_len (by decide +kernel) (pa_cons (pv 0) pa_nil)) (nomark _)) (pss_cons (ps_set (i := 3) S_tokens_of.nd rfl (Or.inl rfl) (pe_call G_token_at (hr.mono (by decide)) (by rfl) T.token_at_g T.token_at_F.kp T.token_at_b .nil pass0 (pa_cons (pv 0) (pa_cons (pv 2) pa_nil))))
      (pss_cons (ps_if (pt_cmpR op_ne (pv 3) pe_str (nomark _)) (pss_one (ps_expr (pe_bm PySem.F.plainAttrs_list PySem.F.slot_list_append PySem.F.type_list_append mt_append (pv 1) (pa_cons (pv 3) pa_nil)))) (pss_one (ps_if (pt_cmpR op_ne (pe_ix ix_str (pv 0) (pv 2) (fun _ _ => rfl)) pe_str (nomark _)) (pss_one (ps_ret pe_non)) pss_nil)))
      (pss_one (ps_set (i := 2) S_tokens_of.nd rfl (Or.inl rfl) (pe_op op_add (pv 2) (pe_callB (call_max2 rfl) (by rfl) T.b_max (by decide +kernel) (pa_cons pe_int (pa_cons (pe_callB call_len_str (by rfl) T.b_len (by decide +kernel) (pa_cons (pv 3) pa_nil)) pa_nil)))))))))
      (pss_one (ps_ret (pv 1))))))), ?_⟩
    have sl : (S l).length ≤ sizeLine := by rw [S_len]; exact szL (by omega)
    refine ⟨_, rfl, rfl, _, _, rfl, rfl, _, rfl, ?_⟩
    rw [spc, head_S]
    unfold toksF at q0 q1
    refine ite2 (fun h1 => ?_) (fun h1 => ?_)
    · rw [if_pos (.inl (of_decide_eq_true h1))] at q0
      exact q0 rfl H (Same.refl H)
    · refine ⟨_, rfl, rfl, _, _, rfl, rfl, _, rfl, ?_⟩
      rw [ends_S]
      refine ite2 (fun h2 => ?_) (fun h2 => ?_)
      · rw [if_pos (.inr (of_decide_eq_true h2))] at q0
        exact q0 rfl H (Same.refl H)
      · rw [if_neg (fun e => e.elim (of_decide_eq_false (Bool.eq_false_iff.mpr h1)) (of_decide_eq_false (Bool.eq_false_iff.mpr h2)))] at q0 q1
        refine ⟨by show 0 ≤ sizeLine; decide, fun p hp => ?_⟩
        refine while_to (fun m σ H' => ∃ ws at_ o, σ = [some (.str (S l)), some (.ref p), some (.int ((at_ : Nat) : Int)), o] ∧ m = l.length - at_ ∧ at_ ≤ l.length ∧ ws.length ≤ at_ ∧ Same H H' ∧ H' p = some (.lst (vT ws)) ∧ toksG l = (toksG (l.drop at_)).map (ws ++ ·))
          (fun σ H' => ∃ ws o, σ = [some (.str (S l)), some (.ref p), some (.int ((l.length : Nat) : Int)), o] ∧ Same H H' ∧ H' p = some (.lst (vT ws)) ∧ toksG l = some ws) ⟨_, [], 0, _, rfl, rfl, Nat.zero_le _, Nat.le_refl _, same_new hp, upd_same, by simp⟩ ?_ ?_
        · rintro σ H1 ⟨ws, o, rfl, s1, h1p, e⟩
          exact ⟨_, rfl, q1 ws p H1 e hp s1 h1p⟩
        · rintro ex m σ H1 ⟨ws, k, o, rfl, rfl, hk, hws, s1, h1p, e⟩
          refine ⟨_, rfl, _, rfl, S l, rfl, sl, _, _, rfl, rfl, _, rfl, ite2 (fun h3 => ?_) (fun h3 => ?_)⟩
          · have h3' := of_decide_eq_true h3
            rw [S_len] at h3'
            have hlt : k < l.length := by omega
            obtain ⟨c, r, hd⟩ : ∃ c r, l.drop k = c :: r := List.exists_cons_of_ne_nil (by
              intro e
              have := congrArg List.length e
              rw [List.length_drop] at this
              simp at this
              omega)
            have hdl : (l.drop k).length = l.length - k := List.length_drop
            rw [hd, toksG_one] at e
            refine ⟨fun σ H' => ∃ m', m' < l.length - k ∧ ∃ ws at_ o, σ = [some (.str (S l)), some (.ref p), some (.int ((at_ : Nat) : Int)), o] ∧ m' = l.length - at_ ∧ at_ ≤ l.length ∧ ws.length ≤ at_ ∧ Same H H' ∧ H' p = some (.lst (vT ws)) ∧ toksG l = (toksG (l.drop at_)).map (ws ++ ·), fun σ' H' h => h, ?_⟩
            refine ⟨_, rfl, _, rfl, l, k, rfl, hlt, by omega, ?_⟩
            rw [hd]
            have tl : (tokF (c :: r)).length ≤ l.length - k := by
              have := tokF_len (c :: r)
              rw [← hd, hdl] at this
              rw [← hd]
              exact this
            revert e tl
            generalize tokF (c :: r) = tk
            intro e tl
            have e0 : ∀ x : List Nat, (V.str (S x) = V.str (("" : String) : Str)) ↔ x = [] := fun x => by
              have : (("" : String) : Str) = S [] := by decide +kernel
              rw [this]
              exact ⟨fun q => S_inj (V.str.inj q), fun q => by rw [q]⟩
            refine ⟨_, rfl, rfl, _, rfl, ite2 (fun h4 => ?_) (fun h4 => ?_)⟩
            · have hn : tk ≠ [] := fun q => by
                rw [q] at h4
                exact absurd h4 (by decide +kernel)
              rw [if_neg hn] at e
              have htp : 1 ≤ tk.length := List.length_pos_iff.mpr hn
              refine ⟨_, rfl, .inl ⟨rfl, _, SqL.of h1p⟩, _, rfl, p, _, _, rfl, rfl, h1p, by rw [show (vT ws).length = ws.length from List.length_map _]; exact szT (by omega), ?_⟩
              refine ⟨_, rfl, _, rfl, S tk, rfl, by rw [S_len]; exact szL (by omega), _, _, rfl, ?_⟩
              have em : (if (((S tk).length : Nat) : Int) > 1 then (((S tk).length : Nat) : Int) else 1) = ((tk.length : Nat) : Int) := by
                rw [S_len]
                split <;> omega
              rw [em]
              refine ⟨_, _, rfl, rfl, l.length - (k + tk.length), by omega, ws ++ [tk], k + tk.length, _, rfl, rfl, by omega, by rw [List.length_append]; simp only [List.length_singleton]; omega, same_upd s1 hp, ?_, ?_⟩
              · rw [show vT (ws ++ [tk]) = vT ws ++ [V.str (S tk)] by simp [vT]]
                exact upd_same
              · rw [e, ← hd, List.drop_drop, Option.map_map]
                congr 1
                funext x
                simp
            · have hn : tk = [] := by
                have := Bool.eq_false_iff.mpr h4
                refine (e0 tk).mp ?_
                by_cases q : V.str (S tk) = V.str (("" : String) : Str)
                · exact q
                · exact absurd (show (!decide (V.str (S tk) = V.str (("" : String) : Str))) = true by rw [decide_eq_false q]; rfl) h4
              subst hn
              rw [if_pos rfl] at e
              have hc : l[k]? = some c := by
                have := congrArg List.head? hd
                rw [List.head?_drop] at this
                exact this
              refine ⟨_, rfl, _, rfl, S l, _, c, rfl, rfl, sl, atI_nat hc, rfl, _, rfl, ite2 (fun h5 => ?_) (fun h5 => ?_)⟩
              · have hc32 : c ≠ 32 := fun q => by
                  subst q
                  exact absurd h5 (by decide +kernel)
                rw [if_neg hc32] at e
                exact q0 (by rw [e]; rfl) H1 s1
              · have hc32 : c = 32 := by
                  by_cases q : c = 32
                  · exact q
                  · refine absurd (show (!decide (V.str (⟨#[c]⟩ : Str) = V.str (S [32]))) = true from ?_) h5
                    rw [decide_eq_false (fun q2 => q ?_)]
                    · rfl
                    · have := S_inj (a := [c]) (b := [32]) (V.str.inj q2)
                      simpa using this
                rw [if_pos hc32] at e
                refine ⟨_, rfl, _, rfl, S [], rfl, by decide +kernel, _, _, rfl, ?_⟩
                have em : (if (((S []).length : Nat) : Int) > 1 then (((S []).length : Nat) : Int) else 1) = ((1 : Nat) : Int) := by decide +kernel
                rw [em]
                refine ⟨_, _, rfl, rfl, l.length - (k + 1), by omega, ws, k + 1, _, rfl, rfl, by omega, by omega, s1, h1p, ?_⟩
                rw [e, ← List.drop_drop, hd]
                rfl
          · have : k = l.length := by
              have := of_decide_eq_false (Bool.eq_false_iff.mpr h3)
              rw [S_len] at this
              omega
            subst this
            rw [List.drop_length, toksG] at e
            exact ex _ _ ⟨ws, _, rfl, s1, h1p, by rw [e]; simp⟩
end

/-! ## Texts of given signs, asked of objects of every kind -/
section
variable {P : Program} {w : World} {K : PySem.W.Frag} {mg : Str → Option Value} {base : Heap} {D : Ad}
open TL SX
theorem tyx_keep {H H' : Hp} {x : V} {t : Value} (h : TyX K H x t) (s : Same H H') : TyX K H' x t := by
  cases h with
  | base h =>
    cases h with
    | non => exact .base .non
    | bl b => exact .base (.bl b)
    | int i => exact .base (.int i)
    | str i => exact .base (.str i)
    | flt i => exact .base (.flt i)
    | lst e => exact .base (.lst (s _ _ e))
    | frz e => exact .base (.frz (s _ _ e))
    | tup e => exact .base (.tup (s _ _ e))
    | dK e => exact .base (.dK (s _ _ e))
    | dT e => exact .base (.dT (s _ _ e))
    | ins e a b c d f => exact .base (.ins (s _ _ e) a b c d f)
  | byt b => exact .byt b
  | set e => exact .set (s _ _ e)
  | kList e c => exact .kList e c
  | kTuple e c => exact .kTuple e c
  | kDict e c => exact .kDict e c
  | fTuple e => exact .fTuple (s _ _ e)
  | fDict e => exact .fDict (s _ _ e)
theorem sqT_of {H : Hp} {b : Addr} {xs : List V} (h : H b = some (.tup xs)) : SqT K H b xs := .inl (.inl h)
theorem sqT_keep {H1 H2 : Hp} {b : Addr} {xs : List V} (e : Same H1 H2) (h : SqT K H1 b xs) : SqT K H2 b xs := by
  rcases h with (h | ⟨o, h⟩) | h
  · exact .inl (.inl (e _ _ h))
  · exact .inl (.inr ⟨o, e _ _ h⟩)
  · exact .inr h
/-- no text -/
def NoTxt (K : PySem.W.Frag) (H : Hp) (x : V) : Prop := ∃ t, TyX K H x t ∧ PySem.W.kitOne K t (.type "str") = some false
theorem NoTxt.keep {H H' : Hp} {x : V} (h : NoTxt K H x) (s : Same H H') : NoTxt K H' x := let ⟨t, a, b⟩ := h; ⟨t, tyx_keep a s, b⟩
def spStrG (K : PySem.W.Frag) : Sp := fun vs H Q _ => ∃ (x : V) (sg : Str) (m : Int) (b : Bool), vs = [x, .str sg, .int m] ∧ m ≤ 100 ∧ ((∃ t : Str, x = .str t ∧ t.length ≤ 100000 ∧ b = goodT t sg m) ∨ (NoTxt K H x ∧ b = false)) ∧ ∀ H', Same H H' → Q (.bl b) H'
theorem ok_is_string_ofG (T : TexW w K mg D) : FnOk P w K mg base CX0 2 D.a_is_string_of D.d_is_string_of P_is_string_of (spStrG K) := by
  have G_consists_of : FnOk P w K mg base CX0 1 D.a_consists_of D.d_consists_of P_consists_of spConsistsOf := ok_consists_of T
  refine T.is_string_of_F.ok S_is_string_of (fun vs H Q E h => ?_) (fun cdv A outer s H vs Q E hr h => ?_)
  · obtain ⟨x, sg, m, b, rfl, _⟩ := h
    rfl
  · obtain ⟨x, sg, m, b, rfl, hm, hx, q⟩ := h
    refine ⟨_, (pss_one (ps_ret (pe_and (pe_callB call_isi (by rfl) T.b_isinstance (by decide +kernel) (pa_cons (pv 0) (pa_cons (pe_bltn (v := .ty "str") (u := .type "str") (by rfl) T.b_str (by decide +kernel) rfl) pa_nil))) (pe_and (pe_chain op_le op_le pe_int (pe_callB call_len_str (by rfl) T.b_len (by decide +kernel) (pa_cons (pv 0) pa_nil)) (pv 2)) (pe_one (pe_call G_consists_of (hr.mono (by decide)) (by rfl) T.consists_of_g T.consists_of_F.kp T.consists_of_b .nil pass0 (pa_cons (pv 0) (pa_cons (pv 1) pa_nil)))))))), ?_⟩
    rcases hx with ⟨t, rfl, hl, rfl⟩ | ⟨⟨ty, hty, hk⟩, rfl⟩
    · refine ⟨_, rfl, .str t, .ty "str", .type "str", .type "str", true, rfl, .ty _, .base (.str t), kit_ty (by decide +kernel), true, rfl, iteT ?_⟩
      refine ⟨_, rfl, t, rfl, szL hl, _, _, rfl, rfl, _, rfl, ?_⟩
      have eg : goodT t sg m = (decide (1 ≤ (t.length : Int)) && (decide ((t.length : Int) ≤ m) && t.cps.toList.all (inS sg))) := rfl
      rw [eg] at q
      refine ite2 (fun h1 => ?_) (fun h1 => ?_)
      · refine ⟨_, rfl, _, _, rfl, rfl, _, rfl, ite2 (fun h2 => ?_) (fun h2 => ?_)⟩
        · have h2' := of_decide_eq_true h2
          refine ⟨_, rfl, _, rfl, t, sg, rfl, by omega, fun H' s' => ?_⟩
          have q2 := q H' s'
          rw [h1, h2] at q2
          exact q2
        · have q2 := q H (Same.refl H)
          rw [h1, Bool.eq_false_iff.mpr h2] at q2
          exact q2
      · refine ⟨_, rfl, iteF ?_⟩
        have q2 := q H (Same.refl H)
        rw [Bool.eq_false_iff.mpr h1] at q2
        exact q2
    · exact ⟨_, rfl, x, .ty "str", _, .type "str", false, rfl, .ty _, hty, hk, false, rfl, iteF (q H (Same.refl H))⟩
theorem inS_low (c : Nat) : inS (("abcdefghijklmnopqrstuvwxyz" : String) : Str) c = isLow c := by
  unfold inS isLow
  have e : ((("abcdefghijklmnopqrstuvwxyz" : String) : Str)).cps.toList = (List.range 26).map (· + 97) := by decide +kernel
  rw [e, Bool.eq_iff_iff, decide_eq_true_eq, decide_eq_true_eq]
  simp only [List.mem_map, List.mem_range]
  constructor
  · rintro ⟨i, hi, rfl⟩
    omega
  · intro h
    exact ⟨c - 97, by omega, by omega⟩
theorem good_word (l : List Nat) : goodT (S l) (("abcdefghijklmnopqrstuvwxyz" : String) : Str) 12 = wordT l := by
  unfold goodT wordT
  have e1 : decide (1 ≤ ((S l).length : Int)) = decide (1 ≤ l.length) := by rw [S_len]; exact decide_eq_decide.mpr (by omega)
  have e2 : decide (((S l).length : Int) ≤ 12) = decide (l.length ≤ 12) := by rw [S_len]; exact decide_eq_decide.mpr (by omega)
  have e3 : (S l).cps.toList.all (inS (("abcdefghijklmnopqrstuvwxyz" : String) : Str)) = l.all isLow := by
    show l.all _ = _
    congr 1
    funext c
    exact inS_low c
  rw [e1, e2, e3]
/-- a word, or not -/
def WordQ (K : PySem.W.Frag) (H : Hp) (x : V) (b : Bool) : Prop := (∃ l : List Nat, x = .str (S l) ∧ l.length ≤ 100000 ∧ b = wordT l) ∨ (NoTxt K H x ∧ b = false)
theorem WordQ.keep {H H' : Hp} {x : V} {b : Bool} (h : WordQ K H x b) (s : Same H H') : WordQ K H' x b := h.imp id fun ⟨a, e⟩ => ⟨a.keep s, e⟩
def spIsWord (K : PySem.W.Frag) : Sp := fun vs H Q _ => ∃ (x : V) (b : Bool), vs = [x] ∧ WordQ K H x b ∧ ∀ H', Same H H' → Q (.bl b) H'
theorem ok_is_word (T : TexW w K mg D) : FnOk P w K mg base CX0 3 D.a_is_word D.d_is_word P_is_word (spIsWord K) := by
  have G_is_string_of : FnOk P w K mg base CX0 2 D.a_is_string_of D.d_is_string_of P_is_string_of (spStrG K) := ok_is_string_ofG T
  refine T.is_word_F.ok S_is_word (fun vs H Q E h => ?_) (fun cdv A outer s H vs Q E hr h => ?_)
  · obtain ⟨x, b, rfl, _⟩ := h
    rfl
  · obtain ⟨x, b, rfl, hx, q⟩ := h
    refine ⟨_, (pss_one (ps_ret (pe_call G_is_string_of (hr.mono (by decide)) (by rfl) T.is_string_of_g T.is_string_of_F.kp T.is_string_of_b .nil pass0 (pa_cons (pv 0) (pa_cons (pe_glob (v := .str "abcdefghijklmnopqrstuvwxyz") rfl T.c_LETTERS ⟨_, rfl⟩) (pa_cons pe_int pa_nil)))))), ?_⟩
    refine ⟨_, rfl, x, _, 12, b, rfl, by decide, ?_, q⟩
    rcases hx with ⟨l, rfl, hl, rfl⟩ | hx
    · exact .inl ⟨S l, rfl, by rw [S_len]; exact hl, (good_word l).symm⟩
    · exact .inr hx
end

/-! ## Markers: terms -/
section
variable {P : Program} {w : World} {K : PySem.W.Frag} {mg : Str → Option Value} {base : Heap} {D : Ad}
open TL SX
theorem inV_S (c : List Nat) (ws : List Txt) : inV (.str (S c)) (ws.map fun x => V.str (S x)) = decide (c ∈ ws) := by
  unfold inV
  rw [Bool.eq_iff_iff, List.any_eq_true, decide_eq_true_eq]
  constructor
  · rintro ⟨x, hx, e⟩
    obtain ⟨y, hy, rfl⟩ := List.mem_map.mp hx
    have e1 : S y = S c := by simpa [eqV] using e
    rw [← S_inj e1]
    exact hy
  · intro h
    exact ⟨_, List.mem_map.mpr ⟨c, h, rfl⟩, by simp [eqV]⟩
theorem flat_S (ws : List Txt) : (ws.map fun x => V.str (S x)).all flatV = true := by simp [flatV]
theorem lvs_v : ([.str "==", .str "!=", .str "<", .str "<=", .str ">", .str ">="] : List V) = lvSigns.map fun l => V.str (S l) := by decide +kernel
theorem fld_v : ([.str "system", .str "machine", .str "level"] : List V) = fieldL.map fun l => V.str (S l) := by decide +kernel
theorem two_v : ([.str "==", .str "!="] : List V) = ([[61, 61], [33, 61]] : List Txt).map fun l => V.str (S l) := by decide +kernel
theorem lev_t : (("level" : String) : Str) = S wLevel := by decide +kernel
theorem emp_t : (("" : String) : Str) = S [] := by decide +kernel
theorem eq_S (a b : List Nat) : decide (V.str (S a) = V.str (S b)) = decide (a = b) := decide_eq_decide.mpr ⟨fun q => S_inj (V.str.inj q), fun q => by rw [q]⟩
def vW : Txt ⊕ Nat → V
  | .inl l => .str (S l)
  | .inr n => .int ((n : Nat) : Int)
def vM (t : Tm) : List V := [.str (S t.w), .str (S t.s), vW t.v]
def spCmp : Sp := fun vs H Q _ => ∃ (a : Addr) (ws : List Txt), vs = [.ref a] ∧ H a = some (.lst (vT ws)) ∧ (∀ x ∈ ws, x.length ≤ 100000) ∧ (cmp3 ws = none → ∀ H', Same H H' → Q .non H') ∧
  ∀ t p H', cmp3 ws = some t → H p = none → Same H H' → H' p = some (.tup (vM t)) → Q (.ref p) H'
theorem ok_comparison_of (T : TexW w K mg D) : FnOk P w K mg base CX0 4 D.a_comparison_of D.d_comparison_of P_comparison_of spCmp := by
  have G_number_in : FnOk P w K mg base CX0 3 D.a_number_in D.d_number_in P_number_in spNumL := ok_number_in T
  have G_is_word : FnOk P w K mg base CX0 3 D.a_is_word D.d_is_word P_is_word (spIsWord K) := ok_is_word T
  refine T.comparison_of_F.ok S_comparison_of (fun vs H Q E h => ?_) (fun cdv A outer s H vs Q E hr h => ?_)
  · obtain ⟨a, ws, rfl, _⟩ := h
    rfl
  · obtain ⟨a, ws, rfl, ha, hlen, q0, q1⟩ := h
    refine ⟨_, (pss_cons (ps_if (pt_cmpR op_ne (pe_callB call_len_seq (by rfl) T.b_len (by decide +kernel) (pa_cons (pv 0) pa_nil)) pe_int (nomark _)) (pss_one (ps_ret pe_non)) pss_nil)
      (pss_cons (ps_asg (pv 0) (pg_unl (by rfl) (pgs_cons (pg_name (i := 1) S_comparison_of.nd rfl (Or.inl rfl)) (pgs_cons (pg_name (i := 2) S_comparison_of.nd rfl (Or.inl rfl)) (pgs_cons (pg_name (i := 3) S_comparison_of.nd rfl (Or.inl rfl)) pgs_nil)))))
      (pss_cons (ps_if (pt_cmpR op_eq (pv 1) pe_str (nomark _)) (pss_cons (ps_set (i := 4) S_comparison_of.nd rfl (Or.inl rfl) (pe_call G_number_in (hr.mono (by decide)) (by rfl) T.number_in_g T.number_in_F.kp T.number_in_b .nil pass0 (pa_cons (pv 3) (pa_cons (pe_glob (v := .int 99) rfl T.c_HIGHEST ⟨_, rfl⟩) pa_nil))))
      (pss_one (ps_ret (pe_ifExp (PW.pt (pw_and (pt_cmpR op_in_seq (pv 2) (pe_glob (v := .ref D.k_LEVEL_SIGNS) rfl T.c_LEVEL_SIGNS rfl) rfl) (pw_and1 (pt_cmpR op_notN (pv 4) pe_non (nomark _))))) (pe_tup (pa_cons (pv 1) (pa_cons (pv 2) (pa_cons (pv 4) pa_nil)))) pe_non)))) pss_nil)
      (pss_one (ps_ret (pe_ifExp (PW.pt (pw_and (pt_cmpR op_in_seq (pv 2) (pe_tup (pa_cons pe_str (pa_cons pe_str pa_nil))) rfl) (pw_and1 (pt_val (pe_call G_is_word (hr.mono (by decide)) (by rfl) T.is_word_g T.is_word_F.kp T.is_word_b .nil pass0 (pa_cons (pv 3) pa_nil)))))) (pe_tup (pa_cons (pv 1) (pa_cons (pv 2) (pa_cons (pv 3) pa_nil)))) pe_non)))))), ?_⟩
    refine ⟨_, rfl, a, _, rfl, .inl (SqL.of ha), rfl, _, rfl, ite2 (fun h1 => ?_) (fun h1 => ?_)⟩
    · have : cmp3 ws = none := by
        unfold cmp3
        split
        · exact absurd h1 (by simp [vT])
        · rfl
      exact q0 this H (Same.refl H)
    · have hl3 : ws.length = 3 := by
        by_cases h : ws.length = 3
        · exact h
        · refine absurd (show (!decide (V.int (((vT ws).length : Nat) : Int) = V.int 3)) = true from ?_) h1
          rw [decide_eq_false (fun e => h ?_)]
          · rfl
          · have := V.int.inj e
            rw [show (vT ws).length = ws.length from List.length_map _] at this
            omega
      match ws, hl3 with
      | [wd, sg, x], _ =>
      refine ⟨_, rfl, a, _, rfl, SqL.of ha, rfl, _, _, rfl, _, _, rfl, _, _, rfl, rfl, ?_⟩
      have hx : x.length ≤ 100000 := hlen x (by simp)
      have ec : cmp3 [wd, sg, x] = cmpF wd sg x := rfl
      rw [ec] at q0 q1
      unfold cmpF at q0 q1
      refine ⟨_, rfl, rfl, _, rfl, ?_⟩
      rw [lev_t, eq_S]
      refine ite2 (fun h2 => ?_) (fun h2 => ?_)
      · have h2' := of_decide_eq_true h2
        rw [if_pos h2'] at q0 q1
        refine ⟨_, rfl, x, 99, rfl, hx, by decide, fun H1 s1 => ?_⟩
        refine ⟨_, rfl, D.k_LEVEL_SIGNS, _, rfl, .inr (sqK T.v_LEVEL_SIGNS _), rfl, rfl, _, rfl, ?_⟩
        rw [lvs_v, if_neg (by decide : ¬ (false = true)), inV_S]
        cases hn : nTL 99 x with
        | none =>
          rw [hn] at q0
          refine ite2 (fun h3 => ?_) (fun h3 => ?_)
          · exact ⟨_, rfl, rfl, _, rfl, iteF (q0 rfl H1 s1)⟩
          · exact q0 rfl H1 s1
        | some n =>
          rw [hn] at q0 q1
          refine ite2 (fun h3 => ?_) (fun h3 => ?_)
          · have h3' := of_decide_eq_true h3
            refine ⟨_, rfl, rfl, _, rfl, iteT ⟨_, rfl, _, rfl, _, rfl, by show 3 ≤ sizeLine; decide, fun p hp => ?_⟩⟩
            exact q1 ⟨wd, sg, .inr n⟩ p _ (if_pos h3') (by
              cases hH : H p with
              | none => rfl
              | some o => exact absurd (s1 _ _ hH) (by rw [hp]; exact fun e => nomatch e)) (s1.trans (same_new hp)) upd_same
          · have h3' := of_decide_eq_false (Bool.eq_false_iff.mpr h3)
            exact q0 (if_neg h3') H1 s1
      · have h2' := of_decide_eq_false (Bool.eq_false_iff.mpr h2)
        rw [if_neg h2'] at q0 q1
        refine ⟨_, rfl, by show 2 ≤ sizeLine; decide, fun r hr0 => ⟨r, _, rfl, .inr (sqT_of upd_same), rfl, rfl, _, rfl, ?_⟩⟩
        have sr := same_new (o := .tup [V.str (("==" : String) : Str), V.str (("!=" : String) : Str)]) hr0
        rw [two_v, if_neg (by decide : ¬ (false = true)), inV_S]
        refine ite2 (fun h3 => ?_) (fun h3 => ?_)
        · have h3' := of_decide_eq_true h3
          have h4 : sg = [61, 61] ∨ sg = [33, 61] := by simpa using h3'
          refine ⟨_, rfl, _, wordT x, rfl, .inl ⟨x, rfl, hx, rfl⟩, fun H1 s1 => ⟨_, rfl, ?_⟩⟩
          cases hw : wordT x with
          | false =>
            rw [if_neg (by rw [hw]; simp)] at q0
            exact iteF (q0 rfl H1 (Same.trans (by rw [two_v] at sr; exact sr) s1))
          | true =>
            rw [if_pos ⟨h4, hw⟩] at q1
            refine iteT ⟨_, rfl, _, rfl, _, rfl, by show 3 ≤ sizeLine; decide, fun p hp => ?_⟩
            have s2 := Same.trans (by rw [two_v] at sr; exact sr) s1
            exact q1 ⟨wd, sg, .inl x⟩ p _ rfl (by
              cases hH : H p with
              | none => rfl
              | some o => exact absurd (s2 _ _ hH) (by rw [hp]; exact fun e => nomatch e)) (s2.trans (same_new hp)) upd_same
        · have h3' := of_decide_eq_false (Bool.eq_false_iff.mpr h3)
          rw [if_neg (fun e => h3' (by simpa using e.1))] at q0
          exact q0 rfl _ (by rw [two_v] at sr; exact sr)
def Row (K : PySem.W.Frag) (H : Hp) : List Addr → List Tm → Prop
  | [], [] => True
  | p :: ps, t :: ts => SqT K H p (vM t) ∧ Row K H ps ts
  | _, _ => False
end

/-! ## Markers: rows of terms -/
section
variable {P : Program} {w : World} {K : PySem.W.Frag} {mg : Str → Option Value} {base : Heap} {D : Ad}
open TL SX
theorem sqT_upd {H : Hp} {b p : Addr} {xs ys zs : List V} (h : SqT K H b xs) (hp : H p = some (.lst ys)) : SqT K (upd H p (.lst zs)) b xs := by
  rcases h with h | h
  · refine .inl ?_
    rcases h with h | ⟨o, h⟩
    · refine .inl ?_
      rw [upd_ne (fun e => by rw [e, hp] at h; cases h)]
      exact h
    · refine .inr ⟨o, ?_⟩
      rw [upd_ne (fun e => by rw [e, hp] at h; cases h)]
      exact h
  · exact .inr h
theorem Row.upd {H : Hp} {p : Addr} {ys zs : List V} (hp : H p = some (.lst ys)) : ∀ {ps : List Addr} {ts : List Tm}, Row K H ps ts → Row K (upd H p (.lst zs)) ps ts
  | [], [], _ => trivial
  | _ :: _, _ :: _, h => ⟨sqT_upd h.1 hp, Row.upd hp h.2⟩
  | [], _ :: _, h => h.elim
  | _ :: _, [], h => h.elim
theorem Row.keep {H H' : Hp} (s : Same H H') : ∀ {ps : List Addr} {ts : List Tm}, Row K H ps ts → Row K H' ps ts
  | [], [], _ => trivial
  | _ :: _, _ :: _, h => ⟨sqT_keep s h.1, Row.keep s h.2⟩
  | [], _ :: _, h => h.elim
  | _ :: _, [], h => h.elim
theorem Row.app {H : Hp} {qs : List Addr} {us : List Tm} (k : Row K H qs us) : ∀ {ps : List Addr} {ts : List Tm}, Row K H ps ts → Row K H (ps ++ qs) (ts ++ us)
  | [], [], _ => k
  | _ :: _, _ :: _, h => ⟨h.1, Row.app k h.2⟩
  | [], _ :: _, h => h.elim
  | _ :: _, [], h => h.elim
theorem Row.len {H : Hp} : ∀ {ps : List Addr} {ts : List Tm}, Row K H ps ts → ps.length = ts.length
  | [], [], _ => rfl
  | _ :: _, _ :: _, h => congrArg (· + 1) (Row.len h.2)
  | [], _ :: _, h => h.elim
  | _ :: _, [], h => h.elim
theorem Row.at {H : Hp} : ∀ {ps : List Addr} {ts : List Tm} {i : Nat} {p : Addr}, Row K H ps ts → ps[i]? = some p → ∃ t, ts[i]? = some t ∧ SqT K H p (vM t)
  | q :: _, t :: _, 0, p, h, e => ⟨t, rfl, by
    have : q = p := by simpa using e
    rw [← this]
    exact h.1⟩
  | _ :: _, _ :: _, i + 1, p, h, e => Row.at (i := i) h.2 (by simpa using e)
  | [], [], _, _, _, e => by simp at e
  | [], _ :: _, _, _, h, _ => h.elim
  | _ :: _, [], _, _, h, _ => h.elim
theorem opT_v (x : Txt) : vM (opT x) = [.str (S x), .str (("" : String) : Str), .str (("" : String) : Str)] := by
  rw [emp_t]
  rfl
theorem cutV_mid {xs : List V} {k m : Nat} (h : k ≤ xs.length) : cutV xs (some ((k : Nat) : Int)) (some ((m : Nat) : Int)) = (xs.drop k).take (m - k) := by
  have e1 : HT.sIx xs.length 0 (some ((k : Nat) : Int)) = k := by
    rw [HT.sIx_nat]
    omega
  have e2 : HT.sIx xs.length xs.length (some ((m : Nat) : Int)) = min m xs.length := by
    rw [HT.sIx_nat]
  unfold cutV
  rw [e1, e2]
  by_cases hm : m ≤ xs.length
  · rw [Nat.min_eq_left hm]
  · rw [Nat.min_eq_right (by omega), List.take_of_length_le (by rw [List.length_drop]; omega), List.take_of_length_le (by rw [List.length_drop]; omega)]
theorem cmp3_len {l : List Txt} {t : Tm} (h : cmp3 l = some t) : l.length = 3 := by
  unfold cmp3 at h
  split at h
  · rfl
  · cases h
def spTerms (K : PySem.W.Frag) : Sp := fun vs H Q _ => ∃ (a : Addr) (ws : List Txt), vs = [.ref a] ∧ H a = some (.lst (vT ws)) ∧ ws.length ≤ 50000 ∧ (∀ x ∈ ws, x.length ≤ 100000) ∧ (termsF ws = none → ∀ H', Same H H' → Q .non H') ∧
  ∀ ts ps p H', termsF ws = some ts → H p = none → Same H H' → H' p = some (.lst (ps.map V.ref)) → Row K H' ps ts → Q (.ref p) H'
theorem ok_terms_of (T : TexW w K mg D) : FnOk P w K mg base CX0 5 D.a_terms_of D.d_terms_of P_terms_of (spTerms K) := by
  have G_comparison_of : FnOk P w K mg base CX0 4 D.a_comparison_of D.d_comparison_of P_comparison_of spCmp := ok_comparison_of T
  refine T.terms_of_F.ok S_terms_of (fun vs H Q E h => ?_) (fun cdv A outer s H vs Q E hr h => ?_)
  · obtain ⟨a, ws, rfl, _⟩ := h
    rfl
  · obtain ⟨a, ws, rfl, ha, hl, hlen, q0, q1⟩ := h
    refine ⟨_, (pss_cons (ps_set (i := 1) S_terms_of.nd rfl (Or.inl rfl) (pe_lst pa_nil))
      (pss_cons (ps_set (i := 2) S_terms_of.nd rfl (Or.inl rfl) pe_int)
      (pss_cons (ps_while PassesOwn.never (pt_cmpR op_lt (pv 2) (pe_callB call_len_seq (by rfl) T.b_len (by decide +kernel) (pa_cons (pv 0) pa_nil)) (nomark _)) (pss_one (ps_if (pt_cmpR op_in_seq (pe_ix ix_list (pv 0) (pv 2) (fun _ _ => rfl)) (pe_glob (v := .ref D.k_FIELDS) rfl T.c_FIELDS rfl) rfl) (pss_cons (ps_set (i := 3) S_terms_of.nd rfl (Or.inl rfl) (pe_call G_comparison_of (hr.mono (by decide)) (by rfl) T.comparison_of_g T.comparison_of_F.kp T.comparison_of_b .nil pass0 (pa_cons (pe_slice sl_list (pv 0) (po_some (pv 2)) (po_some (pe_op op_add (pv 2) pe_int))) pa_nil)))
      (pss_cons (ps_if (pt_cmpR op_isN (pv 3) pe_non (nomark _)) (pss_one (ps_ret pe_non)) pss_nil)
      (pss_cons (ps_expr (pe_bm PySem.F.plainAttrs_list PySem.F.slot_list_append PySem.F.type_list_append mt_append (pv 1) (pa_cons (pv 3) pa_nil)))
      (pss_one (ps_aug (i := 2) S_terms_of.nd rfl (Or.inl rfl) pe_int ip_add))))) (pss_cons (ps_expr (pe_bm PySem.F.plainAttrs_list PySem.F.slot_list_append PySem.F.type_list_append mt_append (pv 1) (pa_cons (pe_tup (pa_cons (pe_ix ix_list (pv 0) (pv 2) (fun _ _ => rfl)) (pa_cons pe_str (pa_cons pe_str pa_nil)))) pa_nil)))
      (pss_one (ps_aug (i := 2) S_terms_of.nd rfl (Or.inl rfl) pe_int ip_add))))))
      (pss_one (ps_ret (pv 1)))))), ?_⟩
    refine ⟨by show 0 ≤ sizeLine; decide, fun p hp => ?_⟩
    refine while_to (fun m σ H' => ∃ ts ps k o, σ = [some (.ref a), some (.ref p), some (.int ((k : Nat) : Int)), o] ∧ m = ws.length - k ∧ k ≤ ws.length ∧ ts.length ≤ k ∧ Same H H' ∧ H' p = some (.lst (ps.map V.ref)) ∧ Row K H' ps ts ∧ termsF ws = (termsF (ws.drop k)).map (ts ++ ·))
      (fun σ H' => ∃ ts ps o, σ = [some (.ref a), some (.ref p), some (.int ((ws.length : Nat) : Int)), o] ∧ Same H H' ∧ H' p = some (.lst (ps.map V.ref)) ∧ Row K H' ps ts ∧ termsF ws = some ts) ⟨_, [], [], 0, _, rfl, rfl, Nat.zero_le _, Nat.le_refl _, same_new hp, upd_same, trivial, by simp⟩ ?_ ?_
    · rintro σ H1 ⟨ts, ps, o, rfl, s1, h1p, hrow, e⟩
      exact ⟨_, rfl, q1 ts ps p H1 e hp s1 h1p hrow⟩
    · rintro ex m σ H1 ⟨ts, ps, k, o, rfl, rfl, hk, hts, s1, h1p, hrow, e⟩
      have h1a := s1 _ _ ha
      refine ⟨_, rfl, _, rfl, a, _, rfl, .inl (SqL.of h1a), _, _, rfl, rfl, _, rfl, ite2 (fun h3 => ?_) (fun h3 => ?_)⟩
      · have h3' := of_decide_eq_true h3
        rw [show (vT ws).length = ws.length from List.length_map _] at h3'
        have hlt : k < ws.length := by omega
        obtain ⟨c, r, hd⟩ : ∃ c r, ws.drop k = c :: r := List.exists_cons_of_ne_nil (by
          intro e
          have := congrArg List.length e
          rw [List.length_drop] at this
          simp at this
          omega)
        have hc : ws[k]? = some c := by
          have := congrArg List.head? hd
          rw [List.head?_drop] at this
          exact this
        rw [hd, termsF] at e
        refine ⟨fun σ H' => ∃ m', m' < ws.length - k ∧ ∃ ts ps k o, σ = [some (.ref a), some (.ref p), some (.int ((k : Nat) : Int)), o] ∧ m' = ws.length - k ∧ k ≤ ws.length ∧ ts.length ≤ k ∧ Same H H' ∧ H' p = some (.lst (ps.map V.ref)) ∧ Row K H' ps ts ∧ termsF ws = (termsF (ws.drop k)).map (ts ++ ·), fun σ' H' h => h, ?_⟩
        have hcv : (vT ws)[k]? = some (V.str (S c)) := by
          show (ws.map _)[k]? = _
          rw [List.getElem?_map, hc]
          rfl
        refine ⟨_, rfl, _, rfl, a, _, _, _, rfl, rfl, SqL.of h1a, atI_nat hcv, D.k_FIELDS, _, rfl, .inr (sqK T.v_FIELDS _), rfl, rfl, _, rfl, ?_⟩
        rw [fld_v, if_neg (by decide : ¬ (false = true)), inV_S]
        have pl : ps.length ≤ k := by rw [hrow.len]; exact hts
        refine ite2 (fun h4 => ?_) (fun h4 => ?_)
        · have h4' := of_decide_eq_true h4
          rw [if_pos h4'] at e
          refine ⟨_, rfl, _, rfl, _, rfl, _, rfl, _, _, rfl, rfl, _, rfl, a, _, rfl, SqL.of h1a, fun q hq => ?_⟩
          have ecut : cutV (vT ws) (some ((k : Nat) : Int)) (some ((k : Int) + 3)) = vT ((ws.drop k).take 3) := by
            have := cutV_mid (xs := vT ws) (k := k) (m := k + 3) (by rw [show (vT ws).length = ws.length from List.length_map _]; omega)
            rw [show k + 3 - k = 3 by omega] at this
            rw [show vT ((ws.drop k).take 3) = ((vT ws).drop k).take 3 by simp [vT, List.map_take, List.map_drop]]
            exact this
          rw [ecut]
          have s2 := same_new (o := .lst (vT ((ws.drop k).take 3))) hq
          refine ⟨q, (ws.drop k).take 3, rfl, upd_same, fun x hx => hlen x (List.mem_of_mem_drop (List.mem_of_mem_take hx)), fun hn H2 s3 => ?_, fun t pt H2 ht hpt s3 h2t => ?_⟩
          · rw [hd] at hn
            rw [hn] at e
            exact ⟨_, rfl, rfl, _, rfl, iteT (q0 (by rw [e]; rfl) H2 (s1.trans (s2.trans s3)))⟩
          · have h2p := s3 _ _ (s2 _ _ h1p)
            have l3 := cmp3_len ht
            rw [List.length_take, List.length_drop] at l3
            rw [hd] at ht
            rw [ht] at e
            refine ⟨_, rfl, rfl, _, rfl, iteF ?_⟩
            refine ⟨_, rfl, .inl ⟨rfl, _, SqL.of h2p⟩, _, rfl, p, _, _, rfl, rfl, h2p, by rw [List.length_map]; exact szT (by omega), ?_⟩
            refine ⟨_, rfl, _, _, rfl, rfl, ws.length - (k + 3), by omega, ts ++ [t], ps ++ [pt], k + 3, _, rfl, rfl, by omega, by rw [List.length_append]; simp only [List.length_singleton]; omega, same_upd (s1.trans (s2.trans s3)) hp, ?_, ?_, ?_⟩
            · rw [List.map_append]
              exact upd_same
            · exact Row.app (qs := [pt]) (us := [t]) (show SqT K _ pt _ ∧ True from ⟨sqT_upd (sqT_of h2t) h2p, trivial⟩) (Row.upd h2p ((hrow.keep s2).keep s3))
            · rw [e, ← List.drop_drop, hd]
              show Option.map _ (Option.map _ (termsF (r.drop 2))) = _
              rw [Option.map_map]
              congr 1
              funext x
              simp
        · have h4' := of_decide_eq_false (Bool.eq_false_iff.mpr h4)
          rw [if_neg h4'] at e
          refine ⟨_, rfl, .inl ⟨rfl, _, SqL.of h1p⟩, _, rfl, _, rfl, a, _, _, _, rfl, rfl, SqL.of h1a, atI_nat hcv, by show 3 ≤ sizeLine; decide, fun z hz => ?_⟩
          have s2 := same_new (o := .tup [V.str (S c), .str (("" : String) : Str), .str (("" : String) : Str)]) hz
          have h2p := s2 _ _ h1p
          refine ⟨p, _, _, rfl, rfl, h2p, by rw [List.length_map]; exact szT (by omega), ?_⟩
          refine ⟨_, rfl, _, _, rfl, rfl, ws.length - (k + 1), by omega, ts ++ [opT c], ps ++ [z], k + 1, _, rfl, rfl, by omega, by rw [List.length_append]; simp only [List.length_singleton]; omega, same_upd (s1.trans s2) hp, ?_, ?_, ?_⟩
          · rw [List.map_append]
            exact upd_same
          · refine Row.app (qs := [z]) (us := [opT c]) (show SqT K _ z _ ∧ True from ⟨?_, trivial⟩) (Row.upd h2p (hrow.keep s2))
            rw [opT_v]
            exact sqT_upd (sqT_of upd_same) h2p
          · rw [e, ← List.drop_drop, hd, Option.map_map]
            congr 1
            funext x
            simp
      · have : k = ws.length := by
          have := of_decide_eq_false (Bool.eq_false_iff.mpr h3)
          rw [show (vT ws).length = ws.length from List.length_map _] at this
          omega
        subst this
        rw [List.drop_length, termsF] at e
        exact ex _ _ ⟨ts, ps, _, rfl, s1, h1p, hrow, by rw [e]; simp⟩
end

/-! ## Comprehensions whose elements are new objects -/
section
theorem lc_grow {α β : Type} {J : It} {n : Nat} {G : Hp → Prop} {Y : Nat → Hp → V → Hp → Prop} (w : Walk J n G Y) (xs : List α) (emb : α → V) (hn : n = xs.length)
    (hY : ∀ i H x H', Y i H x H' → H' = H ∧ ∃ a, xs[i]? = some a ∧ x = emb a)
    {g : TG} {tt : TT} {te : TE} {vs : List Nat} {σ : L2.St} {H1 : Hp} {D : Addr} {Qd : Hp → Prop} (f : α → Option β) (Pr : Hp → V → β → Prop) (hPr : ∀ H H' v b l, H D = some (.lst l) → But D H H' → Pr H v b → Pr H' v b) (hD : H1 D = none) (hz : n < sizeLine) (hG : ∀ H, Same H1 H → G H)
    (hs : ∀ a, a ∈ xs → ∀ (H : Hp) (R : VK) (S : Hp → Prop), Same H1 H → (∀ v b H', f a = some b → Same H H' → Pr H' v b → R v H') → (f a = none → ∀ H', Same H H' → S H') →
      g (emb a) (wipe σ vs) H fun σ2 H2 => wipe σ2 vs = wipe σ vs ∧ tt σ2 H2 fun b H3 => if b = true then te σ2 H3 R else S H3)
    (hd : ∀ H (acc : List (V × β)), Same H1 H → acc.map (·.2) = xs.filterMap f → (∀ q ∈ acc, Pr H q.1 q.2) → H D = some (.lst (acc.map (·.1))) → Qd H) :
    ∃ W : Nat → Nat → Hp → Prop, (∃ m, W 0 m (upd H1 D (.lst []))) ∧ ∀ i m H, W i m H →
      (J.stop i H ∧ Qd H) ∨ (J.go i H ∧ ∃ Nx : Hp → Prop, (∀ H', Nx H' → ∃ m', m' < m ∧ W (i + 1) m' H') ∧
        ∀ x H', J.yld i H x H' → g x (wipe σ vs) H' fun σ2 H2 => wipe σ2 vs = wipe σ vs ∧ tt σ2 H2 fun b H3 =>
          if b = true then te σ2 H3 fun y H4 => ∃ acc, H4 D = some (.lst acc) ∧ acc.length < sizeLine ∧ Nx (upd H4 D (.lst (acc ++ [y]))) else Nx H3) := by
  refine lc_it w (fun i H => Same H1 H ∧ ∃ acc : List (V × β), acc.map (·.2) = (xs.take i).filterMap f ∧ (∀ q ∈ acc, Pr H q.1 q.2) ∧ H D = some (.lst (acc.map (·.1)))) ⟨same_new hD, [], rfl, (fun q hq => by cases hq), by rw [upd_same]; rfl⟩ (fun i H _ h => hG H h.1) ?_ ?_
  · rintro i x H H' hi ⟨s, acc, ha, hp, hl⟩ y
    obtain ⟨rfl, a, hx, rfl⟩ := hY _ _ _ _ y
    have hlen : (acc.map (·.1)).length < sizeLine := by
      have e := congrArg List.length ha
      rw [List.length_map] at e
      rw [List.length_map, e]
      refine Nat.lt_of_le_of_lt ?_ hz
      refine Nat.le_trans (List.length_filterMap_le _ _) ?_
      rw [List.length_take]
      omega
    refine hs a (List.mem_of_getElem? hx) H' _ _ s (fun v b H4 hf s4 hv => ?_) (fun hf H4 s4 => ?_)
    · have hl4 := s4 _ _ hl
      have bt : But D H4 (upd H4 D (.lst (acc.map (·.1) ++ [v]))) := But.upd
      refine ⟨_, hl4, hlen, same_upd (s.trans s4) hD, acc ++ [(v, b)], ?_, fun q hq => ?_, ?_⟩
      · rw [one_more hx, List.filterMap_append, List.map_append, ha]
        simp [hf]
      · rcases List.mem_append.mp hq with h | h
        · exact hPr _ _ _ _ _ hl4 bt (hPr _ _ _ _ _ hl (But.of_same s4) (hp q h))
        · rw [List.mem_singleton.mp h]
          exact hPr _ _ _ _ _ hl4 bt hv
      · rw [upd_same, List.map_append] <;> rfl
    · refine ⟨s.trans s4, acc, ?_, fun q hq => hPr _ _ _ _ _ hl (But.of_same s4) (hp q hq), s4 _ _ hl⟩
      rw [one_more hx, List.filterMap_append, ha]
      simp [hf]
  · rintro H ⟨s, acc, ha, hp, hl⟩
    refine hd H acc s ?_ hp hl
    rw [ha, hn, List.take_length]
end

/-! ## Markers: expressions -/
section
variable {P : Program} {w : World} {K : PySem.W.Frag} {mg : Str → Option Value} {base : Heap} {D : Ad}
open TL SX
def bindL : List (Str × V) := [("(", .int 0), (")", .int 1), ("or", .int 1), ("and", .int 2), ("not", .int 3)]
def heldL : List Txt := [[40], wNot, wAnd, wOr]
theorem bind_lk : ∀ x ∈ ([[40], [41], wNot, wAnd, wOr] : List Txt), bindL.lookup (S x) = some (.int ((bnd x : Nat) : Int)) := by decide +kernel
theorem opn_v : ([.str "(", .str "not"] : List V) = ([[40], wNot] : List Txt).map fun l => V.str (S l) := by decide +kernel
theorem opd_v : ([.str "always", .str "never", .str "system", .str "machine", .str "level"] : List V) = operL.map fun l => V.str (S l) := by decide +kernel
theorem cls_v : ([.str "and", .str "or", .str ")"] : List V) = ([wAnd, wOr, [41]] : List Txt).map fun l => V.str (S l) := by decide +kernel
theorem par_t : ((")" : String) : Str) = S [41] := by decide +kernel
theorem opar_t : (("(" : String) : Str) = S [40] := by decide +kernel
/-- the words that are held, the last of them first -/
def vH (h : List Txt) : List V := vT h.reverse
theorem vH_cons (x : Txt) (h : List Txt) : vH (x :: h) = vH h ++ [.str (S x)] := by simp [vH, vT]
theorem vH_len (h : List Txt) : (vH h).length = h.length := by simp [vH, vT]
theorem runM_none {m : Ms} {ts : List Tm} {i : Nat} {m' : Ms} {t : Tm} (h : runM m (ts.take i) = some m') (e : ts[i]? = some t) (k : stepM m' t = none) : runM m ts = none := by
  have : ts = ts.take i ++ (t :: ts.drop (i + 1)) := by
    rw [← List.take_append_drop i ts]
    congr 1
    · simp
    · rw [List.take_append_drop]
      exact (List.drop_eq_getElem_cons (List.getElem?_eq_some_iff.mp e).1).trans (by rw [(List.getElem?_eq_some_iff.mp e).2])
  rw [this, runM_append, h]
  show (stepM m' t).bind _ = none
  rw [k]
  rfl
theorem runM_step {m : Ms} {ts : List Tm} {i : Nat} {m' m2 : Ms} {t : Tm} (h : runM m (ts.take i) = some m') (e : ts[i]? = some t) (k : stepM m' t = some m2) : runM m (ts.take (i + 1)) = some m2 := by
  rw [one_more e, runM_append, h]
  show (stepM m' t).bind _ = _
  rw [k]
  rfl
theorem Row.at2 {H : Hp} {ps : List Addr} {ts : List Tm} {i : Nat} {p : Addr} {t : Tm} (h : Row K H ps ts) (e : ps[i]? = some p) (k : ts[i]? = some t) : SqT K H p (vM t) := by
  obtain ⟨t', k', q⟩ := h.at e
  rw [k] at k'
  cases k'
  exact q
theorem rows_of {H : Hp} : ∀ (acc : List (V × Tm)), (∀ q ∈ acc, ∃ z, q.1 = .ref z ∧ SqT K H z (vM q.2)) → ∃ rs : List Addr, acc.map (·.1) = rs.map V.ref ∧ Row K H rs (acc.map (·.2))
  | [], _ => ⟨[], rfl, trivial⟩
  | q :: acc, h => by
    obtain ⟨z, e, r⟩ := h q (by simp)
    obtain ⟨rs, e2, r2⟩ := rows_of acc fun x hx => h x (List.mem_cons_of_mem _ hx)
    exact ⟨z :: rs, by rw [List.map_cons, List.map_cons, e, e2], r, r2⟩
theorem vH_at {h : List Txt} {i : Nat} {x : V} (hi : i < h.length) (e : (vH h)[(vH h).length - 1 - i]? = some x) : ∃ a, h[i]? = some a ∧ x = .str (S a) := by
  rw [vH_len] at e
  unfold vH vT at e
  rw [List.getElem?_map, List.getElem?_reverse (by omega), show h.length - 1 - (h.length - 1 - i) = i by omega] at e
  cases hh : h[i]? with
  | none =>
    rw [hh] at e
    cases e
  | some a =>
    rw [hh] at e
    exact ⟨a, rfl, (Option.some.inj e).symm⟩
theorem sqT_but {H H' : Hp} {d b : Addr} {l xs : List V} (hl : H d = some (.lst l)) (k : But d H H') (h : SqT K H b xs) : SqT K H' b xs := by
  rcases h with h | h
  · refine .inl ?_
    rcases h with h | ⟨o, h⟩
    · exact .inl (k _ _ h (fun e => by rw [e, hl] at h; cases h))
    · exact .inr ⟨o, k _ _ h (fun e => by rw [e, hl] at h; cases h)⟩
  · exact .inr h
theorem fm_some : ∀ h : List Txt, h.filterMap (fun x => some (opT x)) = h.map opT
  | [] => rfl
  | a :: r => by rw [List.filterMap_cons, List.map_cons, fm_some r]
theorem none_back {H H1 H2 : Hp} {p : Addr} (_ : Same H H2) (h : H1 p = none) (s : Same H H1) : H p = none := by
  cases e : H p with
  | none => rfl
  | some o => exact absurd (s _ _ e) (by rw [h]; exact fun e => nomatch e)
def spExpr (K : PySem.W.Frag) : Sp := fun vs H Q _ => ∃ (a : Addr) (ps : List Addr) (ts : List Tm), vs = [.ref a] ∧ H a = some (.lst (ps.map V.ref)) ∧ Row K H ps ts ∧ ts.length ≤ 50000 ∧ (exprF ts = none → ∀ H', Same H H' → Q .non H') ∧
  ∀ us qs p H', exprF ts = some us → H p = none → Same H H' → H' p = some (.tup (qs.map V.ref)) → Row K H' qs us → Q (.ref p) H'
theorem ok_expression_of (T : TexW w K mg D) : FnOk P w K mg base CX0 1 D.a_expression_of D.d_expression_of P_expression_of (spExpr K) := by
  refine T.expression_of_F.ok S_expression_of (fun vs H Q E h => ?_) (fun cdv A outer s H vs Q E hr h => ?_)
  · obtain ⟨a, ps, ts, rfl, _⟩ := h
    rfl
  · obtain ⟨a, ps, ts, rfl, ha, hrow, hl, q0, q1⟩ := h
    refine ⟨_, (pss_cons (ps_set (i := 1) S_expression_of.nd rfl (Or.inl rfl) (pe_lst pa_nil))
      (pss_cons (ps_set (i := 2) S_expression_of.nd rfl (Or.inl rfl) (pe_lst pa_nil))
      (pss_cons (ps_set (i := 3) S_expression_of.nd rfl (Or.inl rfl) pe_bl)
      (pss_cons (ps_for PassesOwn.never rfl (pi_list (pv 0)) (pg_name (i := 4) S_expression_of.nd rfl (Or.inl rfl)) (pss_cons (ps_set (i := 5) S_expression_of.nd rfl (Or.inl rfl) (pe_ix ix_tup (pv 4) pe_int (fun _ _ => rfl)))
      (pss_one (ps_if (PW.pt (pw_and (pt_val (pv 3)) (pw_and1 (pt_cmpR op_in_seq (pv 5) (pe_tup (pa_cons pe_str (pa_cons pe_str pa_nil))) rfl)))) (pss_one (ps_expr (pe_bm PySem.F.plainAttrs_list PySem.F.slot_list_append PySem.F.type_list_append mt_append (pv 2) (pa_cons (pv 5) pa_nil)))) (pss_one (ps_if (PW.pt (pw_and (pt_val (pv 3)) (pw_and1 (pt_cmpR op_in_seq (pv 5) (pe_glob (v := .ref D.k_OPERANDS) rfl T.c_OPERANDS rfl) rfl)))) (pss_cons (ps_expr (pe_bm PySem.F.plainAttrs_list PySem.F.slot_list_append PySem.F.type_list_append mt_append (pv 1) (pa_cons (pv 4) pa_nil)))
      (pss_one (ps_set (i := 3) S_expression_of.nd rfl (Or.inl rfl) pe_bl))) (pss_one (ps_if (PW.pt (pw_and (pt_not (pt_val (pv 3))) (pw_and1 (pt_cmpR op_in_seq (pv 5) (pe_tup (pa_cons pe_str (pa_cons pe_str (pa_cons pe_str pa_nil)))) rfl)))) (pss_cons (ps_while PassesOwn.never (PW.pt (pw_and (pt_truth (pv 2) (by intro _; rfl)) (pw_and1 (pt_cmpR op_ge (pe_ix ix_dictK (pe_glob (v := .ref D.k_BINDINGS) rfl T.c_BINDINGS rfl) (pe_ix ix_list (pv 2) (pe_un un_neg pe_int) (fun _ _ => rfl)) (fun _ _ => rfl)) (pe_ix ix_dictK (pe_glob (v := .ref D.k_BINDINGS) rfl T.c_BINDINGS rfl) (pv 5) (fun _ _ => rfl)) (nomark _))))) (pss_one (ps_expr (pe_bm PySem.F.plainAttrs_list PySem.F.slot_list_append PySem.F.type_list_append mt_append (pv 1) (pa_cons (pe_tup (pa_cons (pe_bm0 PySem.F.plainAttrs_list PySem.F.slot_list_pop PySem.F.type_list_pop mt_pop (pv 2)) (pa_cons pe_str (pa_cons pe_str pa_nil)))) pa_nil)))))
      (pss_one (ps_if (pt_cmpR op_ne (pv 5) pe_str (nomark _)) (pss_cons (ps_expr (pe_bm PySem.F.plainAttrs_list PySem.F.slot_list_append PySem.F.type_list_append mt_append (pv 2) (pa_cons (pv 5) pa_nil)))
      (pss_one (ps_set (i := 3) S_expression_of.nd rfl (Or.inl rfl) pe_bl))) (pss_one (ps_if (pt_truth (pv 2) (by intro _; rfl)) (pss_one (ps_expr (pe_bm0 PySem.F.plainAttrs_list PySem.F.slot_list_pop PySem.F.type_list_pop mt_pop (pv 2)))) (pss_one (ps_ret pe_non))))))) (pss_one (ps_ret pe_non))))))))))
      (pss_cons (ps_if (PW.pt (pw_or (pt_val (pv 3)) (pw_or1 (pt_cmpR op_in_seq pe_str (pv 2) rfl)))) (pss_one (ps_ret pe_non)) pss_nil)
      (pss_one (ps_ret (pe_callTy call_tuple_of (by rfl) T.b_tuple (by decide +kernel) (pa_cons (pe_op op_cat (pv 1) (pe_lc (own := [(("word" : Str), 5)]) (g := gName 5) (tt := tYes) rfl S_expression_of.nd (RT.pi_revA (by rfl) T.b_reversed (pv 2)) (blkOk_by (N := N_expression_of) (sc := defScope s_expression_of) (by decide +kernel)) (fun _ _ _ _ _ => pg_name (i := 5) S_expression_of.nd rfl (Or.inl rfl)) (fun _ _ _ _ _ => pts_nil) (fun _ _ _ _ _ => (pe_tup (pa_cons (pv 5) (pa_cons pe_str (pa_cons pe_str pa_nil))))))) pa_nil))))))))), ?_⟩
    have hpl := hrow.len
    refine ⟨by show 0 ≤ sizeLine; decide, fun b hb => ⟨by show 0 ≤ sizeLine; decide, fun c hc => ?_⟩⟩
    have s0 := (same_new (o := .lst []) hb).trans (same_new (o := .lst []) hc)
    have hbc : b ≠ c := fun e => by
      rw [e, upd_same] at hc
      cases hc
    have b0 : (upd (upd H b (.lst [])) c (.lst [])) b = some (.lst []) := by rw [upd_ne hbc]; exact upd_same
    have c0 : (upd (upd H b (.lst [])) c (.lst [])) c = some (.lst []) := upd_same
    have hcH : H c = none := by
      rw [upd_ne hbc.symm] at hc
      exact hc
    revert s0 b0 c0
    generalize upd (upd H b (.lst [])) c (.lst []) = H0
    intro s0 b0 c0
    refine ⟨_, rfl, a, rfl, ⟨_, SqL.of (s0 _ _ ha)⟩, for_list (K := K) (a := a) (xs := ps.map V.ref) (fun i σ H' => ∃ qs us h wn o4 o5, σ = [some (.ref a), some (.ref b), some (.ref c), some (.bl wn), o4, o5] ∧ Same H H' ∧ H' b = some (.lst (qs.map V.ref)) ∧ H' c = some (.lst (vH h)) ∧ Row K H' qs us ∧ (∀ x ∈ h, x ∈ heldL) ∧ us.length + h.length ≤ i ∧ runM ([], [], true) (ts.take i) = some (us, h, wn)) ⟨[], [], [], true, _, _, rfl, s0, b0, c0, trivial, (fun x hx => by cases hx), Nat.le_refl _, by simp [runM]⟩ (fun i σ H' _ h => by
      obtain ⟨_, _, _, _, _, _, _, s1, _⟩ := h
      exact SqL.of (s1 _ _ ha)) ?_ ?_⟩
    · rintro i v σ H1 hi ⟨qs, us, h, wn, o4, o5, rfl, s1, hb1, hc1, hr1, hh, hn, hrun⟩
      rw [List.getElem?_map] at hi
      obtain ⟨pt, hpt, rfl⟩ : ∃ p, ps[i]? = some p ∧ v = V.ref p := by
        cases e : ps[i]? with
        | none =>
          rw [e] at hi
          cases hi
        | some p =>
          rw [e] at hi
          exact ⟨p, rfl, (Option.some.inj hi).symm⟩
      obtain ⟨t, ht, hst⟩ := (hrow.keep s1).at hpt
      have hil : i < 50000 := by
        have := (List.getElem?_eq_some_iff.mp ht).1
        omega
      refine ⟨_, rfl, pt, _, _, _, rfl, rfl, hst, rfl, ?_⟩
      have q0' : stepM (us, h, wn) t = none → ∀ H', Same H H' → Q .non H' := fun k => q0 (by
        unfold exprF
        rw [runM_none hrun ht k])
      cases wn with
      | true =>
        refine ⟨_, rfl, _, rfl, iteT ⟨_, rfl, by show 2 ≤ sizeLine; decide, fun r hr0 => ⟨r, _, rfl, .inr (sqT_of upd_same), rfl, rfl, _, rfl, ?_⟩⟩⟩
        rw [opn_v, if_neg (by decide : ¬ (false = true)), inV_S]
        have s2 := same_new (o := .tup (([[40], wNot] : List Txt).map fun l => V.str (S l))) hr0
        have s12 := s1.trans s2
        have hb2 := s2 _ _ hb1
        have hc2 := s2 _ _ hc1
        have hr2 := hr1.keep s2
        clear hr1 hb1 hc1 s1 hst
        revert s12 hb2 hc2 hr2 s2
        generalize upd H1 r (.tup (([[40], wNot] : List Txt).map fun l => V.str (S l))) = H2
        intro s2 s12 hb2 hc2 hr2
        refine ite2 (fun h1 => ?_) (fun h1 => ?_)
        · have h1' : t.w = [40] ∨ t.w = wNot := by simpa using of_decide_eq_true h1
          refine ⟨_, rfl, .inl ⟨rfl, _, SqL.of hc2⟩, _, rfl, c, _, _, rfl, rfl, hc2, by rw [vH_len]; exact szT (by omega), ?_⟩
          refine ⟨qs, us, t.w :: h, true, _, _, rfl, same_upd s12 hcH, ?_, ?_, Row.upd hc2 hr2, ?_, by rw [List.length_cons]; omega, runM_step hrun ht (by
            unfold stepM
            rw [if_pos rfl, if_pos h1'])⟩
          · rw [upd_ne hbc]
            exact hb2
          · rw [vH_cons]
            exact upd_same
          · intro x hx
            rcases List.mem_cons.mp hx with rfl | hx
            · rcases h1' with e | e <;> rw [e] <;> decide
            · exact hh x hx
        · have h1' : ¬ (t.w = [40] ∨ t.w = wNot) := by simpa using of_decide_eq_false (Bool.eq_false_iff.mpr h1)
          refine ⟨_, rfl, _, rfl, iteT ⟨_, rfl, D.k_OPERANDS, _, rfl, .inr (sqK T.v_OPERANDS _), rfl, rfl, _, rfl, ?_⟩⟩
          rw [opd_v, if_neg (by decide : ¬ (false = true)), inV_S]
          refine ite2 (fun h2 => ?_) (fun h2 => ?_)
          · have h2' := of_decide_eq_true h2
            refine ⟨_, rfl, .inl ⟨rfl, _, SqL.of hb2⟩, _, rfl, b, _, _, rfl, rfl, hb2, by rw [List.length_map, hr2.len]; exact szT (by omega), ?_⟩
            refine ⟨qs ++ [pt], us ++ [t], h, false, _, _, rfl, same_upd s12 hb, ?_, ?_, ?_, hh, by rw [List.length_append]; simp only [List.length_singleton]; omega, runM_step hrun ht (by
              unfold stepM
              rw [if_pos rfl, if_neg h1', if_pos h2'])⟩
            · rw [List.map_append]
              exact upd_same
            · rw [upd_ne (Ne.symm hbc)]
              exact hc2
            · exact Row.app (qs := [pt]) (us := [t]) (show SqT K _ pt _ ∧ True from ⟨sqT_upd ((hrow.keep s12).at2 hpt ht) hb2, trivial⟩) (Row.upd hb2 hr2)
          · have h2' := of_decide_eq_false (Bool.eq_false_iff.mpr h2)
            refine ⟨_, rfl, _, rfl, iteF ?_⟩
            refine q0' ?_ H2 s12
            unfold stepM
            rw [if_pos rfl, if_neg h1', if_neg h2']
      | false =>
        refine ⟨_, rfl, _, rfl, iteF ⟨_, rfl, _, rfl, iteF ?_⟩⟩
        refine ⟨_, rfl, _, rfl, iteT ⟨_, rfl, by show 3 ≤ sizeLine; decide, fun r hr0 => ⟨r, _, rfl, .inr (sqT_of upd_same), rfl, rfl, _, rfl, ?_⟩⟩⟩
        rw [cls_v, if_neg (by decide : ¬ (false = true)), inV_S]
        have s2 := same_new (o := .tup (([wAnd, wOr, [41]] : List Txt).map fun l => V.str (S l))) hr0
        have s12 := s1.trans s2
        have hb2 := s2 _ _ hb1
        have hc2 := s2 _ _ hc1
        have hr2 := hr1.keep s2
        clear hr1 hb1 hc1 s1 hst
        revert s12 hb2 hc2 hr2 s2
        generalize upd H1 r (.tup (([wAnd, wOr, [41]] : List Txt).map fun l => V.str (S l))) = H2
        intro s2 s12 hb2 hc2 hr2
        refine ite2 (fun h1 => ?_) (fun h1 => ?_)
        · have h1' : t.w = wAnd ∨ t.w = wOr ∨ t.w = [41] := by simpa using of_decide_eq_true h1
          have hbw : bindL.lookup (S t.w) = some (.int ((bnd t.w : Nat) : Int)) := bind_lk t.w (by rcases h1' with e | e | e <;> rw [e] <;> decide)
          refine while_to (fun m σ H' => ∃ qs1 us1 h1, σ = [some (.ref a), some (.ref b), some (.ref c), some (.bl false), some (.ref pt), some (.str (S t.w))] ∧ m = h1.length ∧ Same H H' ∧ H' b = some (.lst (qs1.map V.ref)) ∧ H' c = some (.lst (vH h1)) ∧ Row K H' qs1 us1 ∧ (∀ x ∈ h1, x ∈ heldL) ∧ us1.length + h1.length ≤ i ∧ popF (bnd t.w) h1 us1 = popF (bnd t.w) h us)
            (fun σ H' => ∃ qs1 us1 h1, σ = [some (.ref a), some (.ref b), some (.ref c), some (.bl false), some (.ref pt), some (.str (S t.w))] ∧ Same H H' ∧ H' b = some (.lst (qs1.map V.ref)) ∧ H' c = some (.lst (vH h1)) ∧ Row K H' qs1 us1 ∧ (∀ x ∈ h1, x ∈ heldL) ∧ us1.length + h1.length ≤ i ∧ popF (bnd t.w) h us = (h1, us1))
            ⟨_, qs, us, h, rfl, rfl, s12, hb2, hc2, hr2, hh, hn, rfl⟩ ?_ ?_
          · rintro σ H3 ⟨qs1, us1, h3, rfl, s3, hb3, hc3, hr3, hh3, hn3, hp3⟩
            refine ⟨_, rfl, rfl, _, rfl, ?_⟩
            rw [par_t, eq_S]
            by_cases h5 : t.w = [41]
            · rw [decide_eq_true h5]
              cases h3 with
              | nil =>
                refine ⟨_, rfl, false, .inl ⟨_, SqL.of hc3, rfl⟩, iteF ?_⟩
                refine q0' ?_ H3 s3
                unfold stepM
                rw [if_neg (by decide : ¬ (false = true)), if_neg (by rw [h5]; decide), if_pos h5]
                have e1 : popF 1 h us = ([], us1) := by
                  rw [h5] at hp3
                  exact hp3
                show (match (popF 1 h us).1 with | _ :: r => _ | [] => none) = none
                rw [e1]
              | cons x r3 =>
                rw [vH_cons] at hc3
                refine ⟨_, rfl, true, .inl ⟨_, SqL.of hc3, by simp⟩, iteT ?_⟩
                refine ⟨_, rfl, .inl ⟨rfl, _, SqL.of hc3⟩, c, _, V.str (S x), rfl, rfl, hc3, by simp, ?_⟩
                refine ⟨qs1, us1, r3, false, _, _, rfl, same_upd s3 hcH, by rw [upd_ne hbc]; exact hb3, by rw [List.dropLast_concat]; exact upd_same, Row.upd hc3 hr3, fun y hy => hh3 y (List.mem_cons_of_mem _ hy), by rw [List.length_cons] at hn3; omega, runM_step hrun ht ?_⟩
                unfold stepM
                rw [if_neg (by decide : ¬ (false = true)), if_neg (by rw [h5]; decide), if_pos h5]
                have e1 : popF 1 h us = (x :: r3, us1) := by
                  rw [h5] at hp3
                  exact hp3
                show (match (popF 1 h us).1 with | _ :: r => some ((popF 1 h us).2, r, false) | [] => none) = _
                rw [e1]
            · rw [decide_eq_false h5]
              have h6 : t.w = wAnd ∨ t.w = wOr := by
                rcases h1' with e | e | e
                · exact .inl e
                · exact .inr e
                · exact absurd e h5
              refine ⟨_, rfl, .inl ⟨rfl, _, SqL.of hc3⟩, _, rfl, c, _, _, rfl, rfl, hc3, by rw [vH_len]; exact szT (by omega), ?_⟩
              refine ⟨qs1, us1, t.w :: h3, true, _, _, rfl, same_upd s3 hcH, by rw [upd_ne hbc]; exact hb3, by rw [vH_cons]; exact upd_same, Row.upd hc3 hr3, ?_, by rw [List.length_cons]; omega, runM_step hrun ht ?_⟩
              · intro y hy
                rcases List.mem_cons.mp hy with rfl | hy
                · rcases h6 with e | e <;> rw [e] <;> decide
                · exact hh3 y hy
              · unfold stepM
                rw [if_neg (by decide : ¬ (false = true)), if_pos h6]
                show some ((popF (bnd t.w) h us).2, t.w :: (popF (bnd t.w) h us).1, true) = _
                rw [hp3]
          · rintro ex m σ H3 ⟨qs1, us1, h3, rfl, rfl, s3, hb3, hc3, hr3, hh3, hn3, hp3⟩
            cases h3 with
            | nil =>
              refine ⟨_, rfl, false, .inl ⟨_, SqL.of hc3, rfl⟩, iteF ?_⟩
              exact ex _ _ ⟨qs1, us1, [], rfl, s3, hb3, hc3, hr3, hh3, hn3, by rw [← hp3]; rfl⟩
            | cons x r3 =>
              rw [vH_cons] at hc3
              refine ⟨_, rfl, true, .inl ⟨_, SqL.of hc3, by simp⟩, iteT ?_⟩
              have hbx : bindL.lookup (S x) = some (.int ((bnd x : Nat) : Int)) := bind_lk x (by
                have := hh3 x (by simp)
                simp only [heldL, List.mem_cons, List.not_mem_nil, or_false] at this ⊢
                rcases this with e | e | e | e <;> simp [e])
              refine ⟨_, rfl, 1, rfl, c, _, _, _, rfl, rfl, SqL.of hc3, atI_last _ _, D.k_BINDINGS, S x, bindL, _, rfl, rfl, T.v_BINDINGS, hbx, _, rfl, D.k_BINDINGS, S t.w, bindL, _, rfl, rfl, T.v_BINDINGS, hbw, _, _, rfl, rfl, _, rfl, ite2 (fun h4 => ?_) (fun h4 => ?_)⟩
              · have h4' : bnd t.w ≤ bnd x := by
                  have := of_decide_eq_true h4
                  omega
                refine ⟨_, fun σ' H' h => h, ?_⟩
                refine ⟨_, rfl, .inl ⟨rfl, _, SqL.of hb3⟩, _, rfl, .inl ⟨rfl, _, SqL.of hc3⟩, c, _, V.str (S x), rfl, rfl, hc3, by simp, by show 3 ≤ sizeLine; decide, fun z hz => ?_⟩
                rw [List.dropLast_concat] at hz ⊢
                have sz := same_new (o := .tup [V.str (S x), .str (("" : String) : Str), .str (("" : String) : Str)]) hz
                have hb5 := sz _ _ (show (upd H3 c (.lst (vH r3))) b = some (.lst (qs1.map V.ref)) by rw [upd_ne hbc]; exact hb3)
                refine ⟨b, _, _, rfl, rfl, hb5, by rw [List.length_map, hr3.len]; exact szT (by omega), ?_⟩
                refine ⟨r3.length, by simp, qs1 ++ [z], us1 ++ [opT x], r3, rfl, rfl, same_upd ((same_upd s3 hcH).trans sz) hb, ?_, ?_, ?_, fun y hy => hh3 y (List.mem_cons_of_mem _ hy), by rw [List.length_append]; rw [List.length_cons] at hn3; simp only [List.length_singleton]; omega, ?_⟩
                · rw [List.map_append]
                  exact upd_same
                · rw [upd_ne (Ne.symm hbc)]
                  exact sz _ _ upd_same
                · refine Row.app (qs := [z]) (us := [opT x]) (show SqT K _ z _ ∧ True from ⟨?_, trivial⟩) (Row.upd hb5 ((Row.upd hc3 hr3).keep sz))
                  rw [opT_v]
                  exact sqT_upd (sqT_of upd_same) hb5
                · rw [← hp3, popF, if_pos h4']
              · refine ex _ _ ⟨qs1, us1, x :: r3, rfl, s3, hb3, by rw [vH_cons]; exact hc3, hr3, hh3, hn3, ?_⟩
                have : ¬ bnd t.w ≤ bnd x := by
                  have := of_decide_eq_false (Bool.eq_false_iff.mpr h4)
                  omega
                rw [← hp3, popF, if_neg this]
        · have h1' : ¬ (t.w = wAnd ∨ t.w = wOr ∨ t.w = [41]) := by simpa using of_decide_eq_false (Bool.eq_false_iff.mpr h1)
          refine q0' ?_ H2 s12
          unfold stepM
          rw [if_neg (by decide : ¬ (false = true)), if_neg (fun e => h1' (e.elim .inl fun e => .inr (.inl e))), if_neg (fun e => h1' (.inr (.inr e)))]
    · rintro σ H1 ⟨qs, us, h, wn, o4, o5, rfl, s1, hb1, hc1, hr1, hh, hn, hrun⟩
      rw [List.length_map, hpl, List.take_length] at hrun
      have hl2 : us.length + h.length ≤ 50000 := by
        rw [List.length_map, hpl] at hn
        omega
      have ex0 : exprF ts = if wn then none else if [40] ∈ h then none else some (us ++ h.map opT) := by
        unfold exprF
        rw [hrun]
        cases wn <;> rfl
      rw [ex0] at q0 q1
      cases wn with
      | true => exact ⟨_, rfl, _, rfl, iteT (q0 rfl H1 s1)⟩
      | false =>
        refine ⟨_, rfl, _, rfl, iteF ⟨_, rfl, c, _, rfl, .inl (SqL.of hc1), rfl, flat_S _, _, rfl, ?_⟩⟩
        have ei : inV (.str (("(" : String) : Str)) (vH h) = decide ([40] ∈ h) := by
          rw [opar_t]
          show inV _ (h.reverse.map _) = _
          rw [inV_S]
          exact decide_eq_decide.mpr List.mem_reverse
        rw [if_neg (by decide : ¬ (false = true)), ei]
        refine ite2 (fun h6 => ?_) (fun h6 => ?_)
        · exact q0 (by rw [if_neg (by decide : ¬ (false = true)), if_pos (of_decide_eq_true h6)]) H1 s1
        · rw [if_neg (by decide : ¬ (false = true)), if_neg (of_decide_eq_false (Bool.eq_false_iff.mpr h6))] at q1
          refine ⟨_, rfl, _, rfl, c, _, rfl, .inl ⟨SqL.of hc1, fun L hL => lc_grow ((walk_rev (K := K) (a := c) (xs := vH h)).mono (Y' := fun i H x H' => H' = H ∧ ∃ a, h[i]? = some a ∧ x = V.str (S a)) (fun _ q => q) (fun i H x H' hi _ y => ⟨y.1, vH_at (by rw [vH_len] at hi; exact hi) y.2⟩)) h (fun x => V.str (S x)) (vH_len h) (fun i H x H' y => y) (fun x => some (opT x)) (fun H v b => ∃ z, v = .ref z ∧ SqT K H z (vM b)) (fun H H' v b l hl hbut hv => ?_) hL (by rw [vH_len]; exact szT (by omega)) (fun H' s' => SqL.of (s' _ _ hc1)) (fun x hx H2 R S' s2 h1 h2 => ?_) (fun H2 acc s2 ha2 hp2 hl2 => ?_)⟩⟩
          · obtain ⟨z, e, q⟩ := hv
            exact ⟨z, e, sqT_but hl hbut q⟩
          · refine ⟨rfl, _, rfl, by show 3 ≤ sizeLine; decide, fun z hz => ?_⟩
            refine h1 _ (opT x) _ rfl (same_new hz) ⟨z, rfl, ?_⟩
            rw [opT_v]
            exact sqT_of upd_same
          · have e2 : acc.map (·.2) = h.map opT := by
              rw [ha2]
              exact fm_some h
            obtain ⟨rs, e3, r3⟩ := rows_of acc hp2
            rw [e2] at r3
            rw [e3] at hl2
            have hlr : rs.length = h.length := by
              rw [r3.len, List.length_map]
            refine ⟨b, L, _, _, rfl, rfl, s2 _ _ hb1, hl2, by rw [List.length_map, List.length_map, hr1.len, hlr]; exact szL (by omega), fun p2 hp2' => ⟨p2, _, rfl, .inl ⟨SqL.of upd_same, fun l2 hl2' => ?_⟩⟩⟩
            have sF := ((s1.trans s2).trans (same_new hp2')).trans (same_new (o := .tup (qs.map V.ref ++ rs.map V.ref)) hl2')
            refine q1 _ (qs ++ rs) l2 _ rfl (none_back sF hl2' (s1.trans s2 |>.trans (same_new hp2'))) sF (by rw [List.map_append]; exact upd_same) ?_
            exact Row.app ((r3.keep (same_new hp2')).keep (same_new hl2')) (((hr1.keep s2).keep (same_new hp2')).keep (same_new hl2'))
end

/-! ## Markers: a text read; a text written -/
section
variable {P : Program} {w : World} {K : PySem.W.Frag} {mg : Str → Option Value} {base : Heap} {D : Ad}
open TL SX
theorem toksG_len : ∀ (n : Nat) (l : Txt) (ws : List Txt), l.length ≤ n → toksG l = some ws → ws.length ≤ l.length ∧ ∀ x ∈ ws, x.length ≤ l.length
  | _, [], ws, _, h => by
    rw [toksG] at h
    cases h
    exact ⟨Nat.le_refl _, fun x hx => by cases hx⟩
  | 0, c :: r, ws, hn, h => by simp at hn
  | n + 1, c :: r, ws, hn, h => by
    rw [toksG_one] at h
    by_cases ht : tokF (c :: r) = []
    · rw [if_pos ht] at h
      by_cases hc : c = 32
      · rw [if_pos hc] at h
        obtain ⟨a, b⟩ := toksG_len n r ws (by simpa using hn) h
        exact ⟨by simp; omega, fun x hx => by have := b x hx; simp; omega⟩
      · rw [if_neg hc] at h
        cases h
    · rw [if_neg ht] at h
      cases e : toksG ((c :: r).drop (tokF (c :: r)).length) with
      | none =>
        rw [e] at h
        cases h
      | some vs =>
        rw [e] at h
        cases h
        have hp : 1 ≤ (tokF (c :: r)).length := List.length_pos_iff.mpr ht
        have hl := tokF_len (c :: r)
        have hd : ((c :: r).drop (tokF (c :: r)).length).length = (c :: r).length - (tokF (c :: r)).length := List.length_drop
        obtain ⟨a, b⟩ := toksG_len n _ vs (by rw [hd]; omega) e
        rw [hd] at a b
        refine ⟨by rw [List.length_cons]; omega, fun x hx => ?_⟩
        rcases List.mem_cons.mp hx with rfl | hx
        · exact hl
        · have := b x hx
          omega
theorem toksF_len {l : Txt} {ws : List Txt} (h : toksF l = some ws) : ws.length ≤ l.length ∧ ∀ x ∈ ws, x.length ≤ l.length := by
  unfold toksF at h
  split at h
  · cases h
  · exact toksG_len _ l ws (Nat.le_refl _) h
theorem termsF_len : ∀ (n : Nat) (ws : List Txt) (ts : List Tm), ws.length ≤ n → termsF ws = some ts → ts.length ≤ ws.length
  | _, [], ts, _, h => by
    rw [termsF] at h
    cases h
    exact Nat.le_refl _
  | 0, c :: r, ts, hn, h => by simp at hn
  | n + 1, c :: r, ts, hn, h => by
    rw [List.length_cons] at hn
    rw [termsF] at h
    by_cases hc : c ∈ fieldL
    · rw [if_pos hc] at h
      cases e1 : cmp3 ((c :: r).take 3) with
      | none =>
        rw [e1] at h
        cases h
      | some t =>
        rw [e1] at h
        cases e : termsF (r.drop 2) with
        | none =>
          rw [show ((some t).bind fun t => (termsF (r.drop 2)).map (t :: ·)) = (termsF (r.drop 2)).map (t :: ·) from rfl, e] at h
          cases h
        | some vs =>
          rw [show ((some t).bind fun t => (termsF (r.drop 2)).map (t :: ·)) = (termsF (r.drop 2)).map (t :: ·) from rfl, e] at h
          cases h
          have := termsF_len n _ vs (by rw [List.length_drop]; omega) e
          rw [List.length_drop] at this
          simp only [List.length_cons]
          omega
    · rw [if_neg hc] at h
      cases e : termsF r with
      | none =>
        rw [e] at h
        cases h
      | some vs =>
        rw [e] at h
        cases h
        have := termsF_len n r vs (by omega) e
        simp only [List.length_cons]
        omega
def spWithin : Sp := fun vs H Q _ => ∃ (x : List Nat) (b k : Nat), vs = [.str (S x), .int (b : Int), .int (k : Int)] ∧ x.length ≤ 1000000 ∧ Q (.str (S (inP b k x))) H
theorem clo_t : ((")" : String) : Str) = S [41] := by decide +kernel
theorem ok_text_within (T : TexW w K mg D) : FnOk P w K mg base CX0 1 D.a_text_within D.d_text_within P_text_within spWithin := by
  refine T.text_within_F.ok S_text_within (fun vs H Q E h => ?_) (fun cdv A outer s H vs Q E hr h => ?_)
  · obtain ⟨x, b, k, rfl, _⟩ := h
    rfl
  · obtain ⟨x, b, k, rfl, hx, q⟩ := h
    refine ⟨_, (pss_one (ps_ret (pe_ifExp (pt_cmpR op_lt (pv 1) (pv 2) (nomark _)) (pe_joined (.cons pe_str (.cons (pe_fmt (pv 0)) (.cons pe_str .nil)))) (pv 0)))), ?_⟩
    unfold inP at q
    have big : ∀ n : Nat, n ≤ 1000010 → n ≤ sizeLine := fun n h => Nat.le_trans h (by decide)
    refine ⟨_, rfl, _, rfl, _, _, rfl, rfl, _, rfl, ite2 (fun h1 => ?_) (fun h1 => ?_)⟩
    · rw [if_pos (by have := of_decide_eq_true h1; omega)] at q
      have e0 : Str.empty ++ (("(" : String) : Str) = S [40] := by decide +kernel
      refine ⟨_, rfl, by decide +kernel, ?_⟩
      rw [e0]
      refine ⟨_, rfl, .inl ⟨_, rfl, by rw [S_len]; exact big _ (by omega), _, rfl, by rw [S_cat, S_len, List.length_append]; exact big _ (by simp; omega), ?_⟩⟩
      rw [S_cat]
      refine ⟨_, rfl, by rw [clo_t, S_cat, S_len, List.length_append, List.length_append]; exact big _ (by simp; omega), ?_⟩
      rw [clo_t, S_cat]
      exact q
    · rw [if_neg (by have := of_decide_eq_false (Bool.eq_false_iff.mpr h1); omega)] at q
      exact ⟨_, rfl, q⟩
def spOperand : Sp := fun vs H Q _ => ∃ t : Tm, vs = vM t ∧ t.w.length ≤ 100000 ∧ t.s.length ≤ 100000 ∧ (txV t.v).length ≤ 100000 ∧ (∀ n, t.v = .inr n → n ≤ 1000) ∧ Q (.str (S (txTm t))) H
theorem ok_text_of_operand (T : TexW w K mg D) : FnOk P w K mg base CX0 1 D.a_text_of_operand D.d_text_of_operand P_text_of_operand spOperand := by
  refine T.text_of_operand_F.ok S_text_of_operand (fun vs H Q E h => ?_) (fun cdv A outer s H vs Q E hr h => ?_)
  · obtain ⟨t, rfl, _⟩ := h
    rfl
  · obtain ⟨t, rfl, hw, hs, hv, hn, q⟩ := h
    refine ⟨_, (pss_one (ps_ret (pe_ifExp (pt_cmpR op_in_seq (pv 0) (pe_glob (v := .ref D.k_FIELDS) rfl T.c_FIELDS rfl) rfl) (pe_joined (.cons (pe_fmt (pv 0)) (.cons pe_str (.cons (pe_fmt (pv 1)) (.cons pe_str (.cons (pe_fmt (pv 2)) .nil)))))) (pv 0)))), ?_⟩
    unfold txTm at q
    have big : ∀ n : Nat, n ≤ 400000 → n ≤ sizeLine := fun n h => Nat.le_trans h (by decide)
    refine ⟨_, rfl, D.k_FIELDS, _, rfl, .inr (sqK T.v_FIELDS _), rfl, rfl, _, rfl, ?_⟩
    rw [fld_v, if_neg (by decide : ¬ (false = true)), inV_S]
    refine ite2 (fun h1 => ?_) (fun h1 => ?_)
    · rw [if_pos (of_decide_eq_true h1)] at q
      have e1 : ∀ l : List Nat, Str.empty ++ S l = S l := fun l => S_cat [] l
      refine ⟨_, rfl, .inl ⟨_, rfl, by rw [S_len]; exact szL hw, _, rfl, by rw [e1, S_len]; exact szL hw, ?_⟩⟩
      rw [e1]
      refine ⟨_, rfl, by rw [spc, S_cat, S_len, List.length_append]; exact big _ (by simp; omega), ?_⟩
      rw [spc, S_cat]
      refine ⟨_, rfl, .inl ⟨_, rfl, by rw [S_len]; exact szL hs, _, rfl, by rw [S_cat, S_len]; simp only [List.length_append]; exact big _ (by simp; omega), ?_⟩⟩
      rw [S_cat]
      refine ⟨_, rfl, by rw [S_cat, S_len]; simp only [List.length_append]; exact big _ (by simp; omega), ?_⟩
      rw [S_cat]
      cases hx : t.v with
      | inl l =>
        rw [hx] at hv q
        refine ⟨_, rfl, .inl ⟨S l, congrArg (fun v => vW v) hx, by rw [S_len]; exact szL hv, _, rfl, by rw [S_cat, S_len]; simp only [List.length_append]; exact big _ (by simp [txV] at hv ⊢; omega), ?_⟩⟩
        rw [S_cat]
        exact q
      | inr n =>
        rw [hx] at hv q
        have hn' := hn n hx
        refine ⟨_, rfl, .inr ⟨_, congrArg (fun v => vW v) hx, log_num (by omega), ?_⟩⟩
        rw [str_num]
        refine ⟨_, rfl, by rw [S_cat, S_len]; simp only [List.length_append]; exact big _ (by simp [txV] at hv ⊢; omega), ?_⟩
        rw [S_cat]
        exact q
    · rw [if_neg (of_decide_eq_false (Bool.eq_false_iff.mpr h1))] at q
      exact ⟨_, rfl, q⟩
end

/-! ## A marker read from any object -/
section
variable {P : Program} {w : World} {K : PySem.W.Frag} {mg : Str → Option Value} {base : Heap} {D : Ad}
open TL SX
def spExpInA (K : PySem.W.Frag) : Sp := fun vs H Q _ => ∃ x : V, vs = [x] ∧
  ((∃ l : List Nat, x = .str (S l) ∧ l.length ≤ 50000 ∧ (readF l = none → ∀ H', Same H H' → Q .non H') ∧
    ∀ us qs p H', readF l = some us → H p = none → Same H H' → H' p = some (.tup (qs.map V.ref)) → Row K H' qs us → Q (.ref p) H') ∨
   (NoTxt K H x ∧ ∀ H', Same H H' → Q .non H'))
theorem ok_expression_in (T : TexW w K mg D) : FnOk P w K mg base CX0 6 D.a_expression_in D.d_expression_in P_expression_in (spExpInA K) := by
  have G_tokens_of : FnOk P w K mg base CX0 2 D.a_tokens_of D.d_tokens_of P_tokens_of spToks := ok_tokens_of T
  have G_terms_of : FnOk P w K mg base CX0 5 D.a_terms_of D.d_terms_of P_terms_of (spTerms K) := ok_terms_of T
  have G_expression_of : FnOk P w K mg base CX0 1 D.a_expression_of D.d_expression_of P_expression_of (spExpr K) := ok_expression_of T
  refine T.expression_in_F.ok S_expression_in (fun vs H Q E h => ?_) (fun cdv A outer s H vs Q E hr h => ?_)
  · obtain ⟨x, rfl, _⟩ := h
    rfl
  · obtain ⟨x, rfl, h⟩ := h
    refine ⟨_, (pss_cons (ps_set (i := 1) S_expression_in.nd rfl (Or.inl rfl) (pe_ifExp (pt_val (pe_callB call_isi (by rfl) T.b_isinstance (by decide +kernel) (pa_cons (pv 0) (pa_cons (pe_bltn (v := .ty "str") (u := .type "str") (by rfl) T.b_str (by decide +kernel) rfl) pa_nil)))) (pe_call G_tokens_of (hr.mono (by decide)) (by rfl) T.tokens_of_g T.tokens_of_F.kp T.tokens_of_b .nil pass0 (pa_cons (pv 0) pa_nil)) pe_non))
      (pss_cons (ps_set (i := 2) S_expression_in.nd rfl (Or.inl rfl) (pe_ifExp (pt_cmpR op_isN (pv 1) pe_non (nomark _)) pe_non (pe_call G_terms_of (hr.mono (by decide)) (by rfl) T.terms_of_g T.terms_of_F.kp T.terms_of_b .nil pass0 (pa_cons (pv 1) pa_nil))))
      (pss_one (ps_ret (pe_ifExp (pt_cmpR op_isN (pv 2) pe_non (nomark _)) pe_non (pe_call G_expression_of (hr.mono (by decide)) (by rfl) T.expression_of_g T.expression_of_F.kp T.expression_of_b .nil pass0 (pa_cons (pv 2) pa_nil))))))), ?_⟩
    rcases h with ⟨l, rfl, hl, q0, q1⟩ | ⟨⟨t, ty, hk⟩, q⟩
    · refine ⟨_, rfl, .str (S l), .ty "str", .type "str", .type "str", true, rfl, .ty _, .base (.str (S l)), kit_ty (by decide +kernel), true, rfl, iteT ?_⟩
      refine ⟨_, rfl, l, rfl, hl, fun hn H1 s1 => ?_, fun ws p H1 hw hp s1 h1p => ?_⟩
      · have e : readF l = none := by unfold readF; rw [hn]; rfl
        exact ⟨_, rfl, rfl, _, rfl, iteT ⟨_, rfl, rfl, _, rfl, iteT (q0 e H1 s1)⟩⟩
      · obtain ⟨w1, w2⟩ := toksF_len hw
        have e1 : readF l = (termsF ws).bind exprF := by unfold readF; rw [hw]; rfl
        rw [e1] at q0 q1
        refine ⟨_, rfl, rfl, _, rfl, iteF ⟨_, rfl, p, ws, rfl, h1p, by omega, fun x hx => Nat.le_trans (w2 x hx) (by omega), fun hn H2 s2 => ?_, fun ts ps p2 H2 ht hp2 s2 h2p hrow => ?_⟩⟩
        · exact ⟨_, rfl, rfl, _, rfl, iteT (q0 (by rw [hn]; rfl) H2 (s1.trans s2))⟩
        · rw [ht] at q0 q1
          have tl := termsF_len _ ws ts (Nat.le_refl _) ht
          refine ⟨_, rfl, rfl, _, rfl, iteF ⟨_, rfl, p2, ps, ts, rfl, h2p, hrow, by omega, fun hn H3 s3 => q0 hn H3 ((s1.trans s2).trans s3), fun us qs p3 H3 hu hp3 s3 h3p hr3 => q1 us qs p3 H3 hu (none_back (s1.trans s2) hp3 (s1.trans s2)) ((s1.trans s2).trans s3) h3p hr3⟩⟩
    · refine ⟨_, rfl, x, .ty "str", t, .type "str", false, rfl, .ty _, ty, hk, false, rfl, iteF ?_⟩
      exact ⟨_, rfl, rfl, _, rfl, iteT ⟨_, rfl, rfl, _, rfl, iteT (q H (Same.refl H))⟩⟩
end

/-! ## Markers: the text of an expression -/
section
variable {P : Program} {w : World} {K : PySem.W.Frag} {mg : Str → Option Value} {base : Heap} {D : Ad}
open TL SX
def vP (q : Txt × Nat) : List V := [.str (S q.1), .int ((q.2 : Nat) : Int)]
def RowH (K : PySem.W.Frag) (H : Hp) : List Addr → Hs → Prop
  | [], [] => True
  | p :: ps, q :: h => SqT K H p (vP q) ∧ RowH K H ps h
  | _, _ => False
theorem RowH.upd {H : Hp} {p : Addr} {ys zs : List V} (hp : H p = some (.lst ys)) : ∀ {ps : List Addr} {ts : Hs}, RowH K H ps ts → RowH K (upd H p (.lst zs)) ps ts
  | [], [], _ => trivial
  | _ :: _, _ :: _, h => ⟨sqT_upd h.1 hp, RowH.upd hp h.2⟩
  | [], _ :: _, h => h.elim
  | _ :: _, [], h => h.elim
theorem RowH.keep {H H' : Hp} (s : Same H H') : ∀ {ps : List Addr} {ts : Hs}, RowH K H ps ts → RowH K H' ps ts
  | [], [], _ => trivial
  | _ :: _, _ :: _, h => ⟨sqT_keep s h.1, RowH.keep s h.2⟩
  | [], _ :: _, h => h.elim
  | _ :: _, [], h => h.elim
theorem RowH.len {H : Hp} : ∀ {ps : List Addr} {ts : Hs}, RowH K H ps ts → ps.length = ts.length
  | [], [], _ => rfl
  | _ :: _, _ :: _, h => congrArg (· + 1) (RowH.len h.2)
  | [], _ :: _, h => h.elim
  | _ :: _, [], h => h.elim
theorem RowH.out {H : Hp} {ps : List Addr} {q : Txt × Nat} {h : Hs} (r : RowH K H ps (q :: h)) : ∃ p rs, ps = p :: rs ∧ SqT K H p (vP q) ∧ RowH K H rs h := by
  cases ps with
  | nil => exact r.elim
  | cons p rs => exact ⟨p, rs, rfl, r.1, r.2⟩
def vS (ps : List Addr) : List V := ps.reverse.map V.ref
theorem vS_cons (p : Addr) (ps : List Addr) : vS (p :: ps) = vS ps ++ [.ref p] := by simp [vS]
theorem vS_len (ps : List Addr) : (vS ps).length = ps.length := by simp [vS]
def tot (h : Hs) : Nat := (h.map fun q => q.1.length).sum
theorem inP_len (b k : Nat) (x : Txt) : (inP b k x).length ≤ x.length + 2 := by
  unfold inP
  split
  · simp
  · omega
theorem tot_in {h : Hs} {q : Txt × Nat} (m : q ∈ h) : q.1.length ≤ tot h := by
  unfold tot
  induction h with
  | nil => cases m
  | cons a r ih =>
    rw [List.map_cons, List.sum_cons]
    rcases List.mem_cons.mp m with rfl | m
    · omega
    · have := ih m
      omega
/-- a term that can be shown -/
def Shw (t : Tm) : Prop := t.w.length ≤ 100 ∧ t.s.length ≤ 100 ∧ (txV t.v).length ≤ 100 ∧ ∀ n, t.v = .inr n → n ≤ 1000
theorem Shw.len {t : Tm} (h : Shw t) : (txTm t).length ≤ 302 := by
  obtain ⟨a, b, c, _⟩ := h
  unfold txTm
  split
  · simp only [List.length_append, List.length_singleton]
    omega
  · omega
theorem txM_tot {h h' : Hs} {t : Tm} (s : Shw t) (e : txM h t = some h') : tot h' ≤ tot h + 320 ∧ h'.length ≤ h.length + 1 := by
  unfold txM at e
  split at e
  · cases h with
    | nil => cases e
    | cons q r =>
      cases e
      have := inP_len q.2 3 q.1
      simp only [tot, List.map_cons, List.sum_cons, List.length_append, List.length_nil, List.length_cons, show wNot.length = 3 from rfl]
      omega
  · split at e
    · rename_i hw
      have hwl : t.w.length ≤ 3 := by rcases hw with e | e <;> rw [e] <;> decide
      cases h with
      | nil => cases e
      | cons q r =>
        cases r with
        | nil => cases e
        | cons q2 r =>
          cases e
          have := inP_len q.2 (bndT t.w) q.1
          have := inP_len q2.2 (bndT t.w) q2.1
          simp only [tot, List.map_cons, List.sum_cons, List.length_append, List.length_nil, List.length_cons]
          omega
    · cases e
      have := s.len
      simp only [tot, List.map_cons, List.sum_cons, List.length_cons]
      omega
theorem txR_at {ts : List Tm} {i : Nat} {t : Tm} {h r : Hs} (e : txR [] ts = some r) (k : txR [] (ts.take i) = some h) (ht : ts[i]? = some t) : ∃ h', txM h t = some h' ∧ txR [] (ts.take (i + 1)) = some h' := by
  have e1 : txR [] (ts.take (i + 1)) = txM h t := by
    rw [one_more ht, txR_append, k]
    show (txM h t).bind _ = _
    cases txM h t <;> rfl
  have e2 : txR [] ts = (txR [] (ts.take (i + 1))).bind fun h' => txR h' (ts.drop (i + 1)) := by
    rw [← txR_append, List.take_append_drop]
  rw [e1] at e2
  cases hm : txM h t with
  | none =>
    rw [hm, e] at e2
    cases e2
  | some h' => exact ⟨h', rfl, e1.trans hm⟩
theorem bind_get (x : Txt) : ((bindL.lookup (S x)).getD (.int 4)) = .int ((bndT x : Nat) : Int) := by
  have k : ∀ a : Txt, (S x == S a) = decide (x = a) := fun a => by
    rw [Bool.eq_iff_iff, beq_iff_eq, decide_eq_true_eq]
    exact ⟨S_inj, fun e => by rw [e]⟩
  have e : bindL = [(S [40], .int 0), (S [41], .int 1), (S wOr, .int 1), (S wAnd, .int 2), (S wNot, .int 3)] := by decide +kernel
  rw [e]
  simp only [List.lookup, k]
  unfold bndT
  by_cases h1 : x = [40]
  · subst h1; rfl
  · by_cases h2 : x = [41]
    · subst h2; rfl
    · by_cases h3 : x = wOr
      · subst h3; rfl
      · by_cases h4 : x = wAnd
        · subst h4; rfl
        · by_cases h5 : x = wNot
          · subst h5; rfl
          · simp [h1, h2, h3, h4, h5]
theorem not_t : (("not" : String) : Str) = S wNot := by decide +kernel
theorem and_t : (("and" : String) : Str) = S wAnd := by decide +kernel
theorem or_t : (("or" : String) : Str) = S wOr := by decide +kernel
theorem nots_t : (("not " : String) : Str) = S (wNot ++ [32]) := by decide +kernel
theorem or_split {c : Bool} {A B : Prop} (hB : c = false → A → B) (hA : A) : if c = true then A else B := by
  cases c with
  | true => exact hA
  | false => exact hB rfl hA
def spTextE (K : PySem.W.Frag) : Sp := fun vs H Q _ => ∃ (a : Addr) (ps : List Addr) (ts : List Tm) (x : Txt) (b : Nat), vs = [.ref a] ∧ SqT K H a (ps.map V.ref) ∧ Row K H ps ts ∧ ts.length ≤ 3000 ∧ (∀ t ∈ ts, Shw t) ∧ txR [] ts = some [(x, b)] ∧
  ∀ H', Same H H' → Q (.str (S x)) H'
theorem ok_text_of_expression (T : TexW w K mg D) : FnOk P w K mg base CX0 2 D.a_text_of_expression D.d_text_of_expression P_text_of_expression (spTextE K) := by
  have G_text_within : FnOk P w K mg base CX0 1 D.a_text_within D.d_text_within P_text_within spWithin := ok_text_within T
  have G_text_of_operand : FnOk P w K mg base CX0 1 D.a_text_of_operand D.d_text_of_operand P_text_of_operand spOperand := ok_text_of_operand T
  refine T.text_of_expression_F.ok S_text_of_expression (fun vs H Q E h => ?_) (fun cdv A outer s H vs Q E hr h => ?_)
  · obtain ⟨a, ps, ts, x, b, rfl, _⟩ := h
    rfl
  · obtain ⟨a, ps, ts, x, b, rfl, ha, hrow, hl, hsh, htx, q⟩ := h
    refine ⟨_, (pss_cons (ps_set (i := 1) S_text_of_expression.nd rfl (Or.inl rfl) (pe_lst pa_nil))
      (pss_cons (ps_for PassesOwn.never rfl (pi_tup (pv 0)) (pg_tup (by rfl) (pgs_cons (pg_name (i := 2) S_text_of_expression.nd rfl (Or.inl rfl)) (pgs_cons (pg_name (i := 3) S_text_of_expression.nd rfl (Or.inl rfl)) (pgs_cons (pg_name (i := 4) S_text_of_expression.nd rfl (Or.inl rfl)) pgs_nil)))) (pss_cons (ps_set (i := 5) S_text_of_expression.nd rfl (Or.inl rfl) (pe_dgetK (pe_glob (v := .ref D.k_BINDINGS) rfl T.c_BINDINGS rfl) (pv 2) (pe_glob (v := .int 4) rfl T.c_TIGHTEST ⟨_, rfl⟩) ⟨by rfl, by rfl, by rfl, by rfl⟩))
      (pss_one (ps_if (pt_cmpR op_eq (pv 2) pe_str (nomark _)) (pss_cons (ps_asg (pe_bm0 PySem.F.plainAttrs_list PySem.F.slot_list_pop PySem.F.type_list_pop mt_pop (pv 1)) (pg_tup (by rfl) (pgs_cons (pg_name (i := 6) S_text_of_expression.nd rfl (Or.inl rfl)) (pgs_cons (pg_name (i := 7) S_text_of_expression.nd rfl (Or.inl rfl)) pgs_nil))))
      (pss_one (ps_expr (pe_bm PySem.F.plainAttrs_list PySem.F.slot_list_append PySem.F.type_list_append mt_append (pv 1) (pa_cons (pe_tup (pa_cons (pe_op op_add_str pe_str (pe_call G_text_within (hr.mono (by decide)) (by rfl) T.text_within_g T.text_within_F.kp T.text_within_b .nil pass0 (pa_cons (pv 6) (pa_cons (pv 7) (pa_cons (pv 5) pa_nil))))) (pa_cons (pv 5) pa_nil))) pa_nil))))) (pss_one (ps_if (PW.pt (pw_or (pt_cmpR op_eq (pv 2) pe_str (nomark _)) (pw_or1 (pt_cmpR op_eq (pv 2) pe_str (nomark _))))) (pss_cons (ps_asg (pe_bm0 PySem.F.plainAttrs_list PySem.F.slot_list_pop PySem.F.type_list_pop mt_pop (pv 1)) (pg_tup (by rfl) (pgs_cons (pg_name (i := 8) S_text_of_expression.nd rfl (Or.inl rfl)) (pgs_cons (pg_name (i := 9) S_text_of_expression.nd rfl (Or.inl rfl)) pgs_nil))))
      (pss_cons (ps_asg (pe_bm0 PySem.F.plainAttrs_list PySem.F.slot_list_pop PySem.F.type_list_pop mt_pop (pv 1)) (pg_tup (by rfl) (pgs_cons (pg_name (i := 10) S_text_of_expression.nd rfl (Or.inl rfl)) (pgs_cons (pg_name (i := 11) S_text_of_expression.nd rfl (Or.inl rfl)) pgs_nil))))
      (pss_cons (ps_set (i := 12) S_text_of_expression.nd rfl (Or.inl rfl) (pe_call G_text_within (hr.mono (by decide)) (by rfl) T.text_within_g T.text_within_F.kp T.text_within_b .nil pass0 (pa_cons (pv 10) (pa_cons (pv 11) (pa_cons (pv 5) pa_nil)))))
      (pss_cons (ps_set (i := 13) S_text_of_expression.nd rfl (Or.inl rfl) (pe_call G_text_within (hr.mono (by decide)) (by rfl) T.text_within_g T.text_within_F.kp T.text_within_b .nil pass0 (pa_cons (pv 8) (pa_cons (pv 9) (pa_cons (pv 5) pa_nil)))))
      (pss_one (ps_expr (pe_bm PySem.F.plainAttrs_list PySem.F.slot_list_append PySem.F.type_list_append mt_append (pv 1) (pa_cons (pe_tup (pa_cons (pe_joined (.cons (pe_fmt (pv 12)) (.cons pe_str (.cons (pe_fmt (pv 2)) (.cons pe_str (.cons (pe_fmt (pv 13)) .nil)))))) (pa_cons (pv 5) pa_nil))) pa_nil)))))))) (pss_one (ps_expr (pe_bm PySem.F.plainAttrs_list PySem.F.slot_list_append PySem.F.type_list_append mt_append (pv 1) (pa_cons (pe_tup (pa_cons (pe_call G_text_of_operand (hr.mono (by decide)) (by rfl) T.text_of_operand_g T.text_of_operand_F.kp T.text_of_operand_b .nil pass0 (pa_cons (pv 2) (pa_cons (pv 3) (pa_cons (pv 4) pa_nil)))) (pa_cons (pv 5) pa_nil))) pa_nil))))))))))
      (pss_one (ps_ret (pe_ix ix_tup (pe_ix ix_list (pv 1) pe_int (fun _ _ => rfl)) pe_int (fun _ _ => rfl)))))), ?_⟩
    have hpl := hrow.len
    refine ⟨by show 0 ≤ sizeLine; decide, fun c hc => ?_⟩
    refine ⟨_, rfl, a, rfl, ⟨_, sqT_keep (same_new hc) ha⟩, for_tup (K := K) (a := a) (xs := ps.map V.ref) (fun i σ H' => ∃ hs h o2 o3 o4 o5 o6 o7 o8 o9 o10 o11 o12 o13, σ = [some (.ref a), some (.ref c), o2, o3, o4, o5, o6, o7, o8, o9, o10, o11, o12, o13] ∧ Same H H' ∧ H' c = some (.lst (vS hs)) ∧ RowH K H' hs h ∧ txR [] (ts.take i) = some h ∧ tot h ≤ 320 * i ∧ h.length ≤ i) ⟨[], [], _, _, _, _, _, _, _, _, _, _, _, _, rfl, same_new hc, upd_same, trivial, by simp [txR], by simp [tot], Nat.le_refl _⟩ (fun i σ H' _ h => by
      obtain ⟨_, _, _, _, _, _, _, _, _, _, _, _, _, _, _, s1, _⟩ := h
      exact sqT_keep s1 ha) ?_ ?_⟩
    · rintro i v σ H1 hi ⟨hs, h, o2, o3, o4, o5, o6, o7, o8, o9, o10, o11, o12, o13, rfl, s1, hc1, hr1, htk, htot, hhl⟩
      rw [List.getElem?_map] at hi
      obtain ⟨pt, hpt, rfl⟩ : ∃ p, ps[i]? = some p ∧ v = V.ref p := by
        cases e : ps[i]? with
        | none =>
          rw [e] at hi
          cases hi
        | some p =>
          rw [e] at hi
          exact ⟨p, rfl, (Option.some.inj hi).symm⟩
      obtain ⟨t, ht, hst⟩ := (hrow.keep s1).at hpt
      have hil : i < 3000 := by
        have := (List.getElem?_eq_some_iff.mp ht).1
        omega
      have hsw := hsh t (List.mem_of_getElem? ht)
      obtain ⟨h', hm, htk'⟩ := txR_at htx htk ht
      obtain ⟨ht2, hl2⟩ := txM_tot hsw hm
      have hlen : hs.length ≤ i := by rw [hr1.len]; exact hhl
      refine ⟨pt, _, rfl, hst, rfl, _, _, rfl, _, _, rfl, _, _, rfl, rfl, ?_⟩
      refine ⟨D.k_BINDINGS, bindL, rfl, T.v_BINDINGS, _, rfl, S t.w, rfl, ?_⟩
      rw [bind_get]
      refine ⟨_, rfl, rfl, _, rfl, ?_⟩
      rw [not_t, eq_S]
      have big : ∀ n : Nat, n ≤ 1000000 → n ≤ sizeLine := fun n h => Nat.le_trans h (by decide)
      have ten : ∀ q : Txt × Nat, q ∈ h → q.1.length ≤ 960000 := fun q m => by
        have := tot_in m
        omega
      refine ite2 (fun h1 => ?_) (fun h1 => ?_)
      · have h1' := of_decide_eq_true h1
        have hbt : bndT t.w = 3 := by rw [h1']; rfl
        rw [hbt]
        unfold txM at hm
        rw [if_pos h1'] at hm
        cases h with
        | nil => cases hm
        | cons z r =>
          cases hm
          obtain ⟨p1, rs, rfl, hp1, hr2⟩ := hr1.out
          rw [vS_cons] at hc1
          refine ⟨_, rfl, .inl ⟨rfl, _, SqL.of hc1⟩, c, _, V.ref p1, rfl, rfl, hc1, by simp, p1, _, rfl, sqT_upd hp1 hc1, rfl, _, _, rfl, _, _, rfl, rfl, ?_⟩
          rw [List.dropLast_concat]
          have hc2 : (upd H1 c (.lst (vS rs))) c = some (.lst (vS rs)) := upd_same
          have s2 : Same H (upd H1 c (.lst (vS rs))) := same_upd s1 hc
          have hr3 : RowH K (upd H1 c (.lst (vS rs))) rs r := RowH.upd hc1 hr2
          clear hc1 hr1 hr2 s1 hst hp1
          revert hc2 s2 hr3
          generalize upd H1 c (.lst (vS rs)) = H2
          intro hc2 s2 hr3
          refine ⟨_, rfl, .inl ⟨rfl, _, SqL.of hc2⟩, _, rfl, _, rfl, _, rfl, z.1, z.2, 3, rfl, Nat.le_trans (ten z (by simp)) (by decide), ?_⟩
          have hil2 := inP_len z.2 3 z.1
          have hz1 := ten z (by simp)
          refine ⟨_, _, rfl, rfl, by rw [nots_t, S_len, S_len]; exact big _ (by simp [wNot]; omega), ?_⟩
          rw [nots_t, S_cat]
          refine ⟨_, rfl, by show 2 ≤ sizeLine; decide, fun z2 hz2 => ?_⟩
          have sz := same_new (o := .tup [V.str (S (wNot ++ [32] ++ inP z.2 3 z.1)), .int ((3 : Nat) : Int)]) hz2
          have hrl : rs.length ≤ i := by rw [List.length_cons] at hlen; omega
          refine ⟨c, _, _, rfl, rfl, sz _ _ hc2, by rw [vS_len]; exact szT (by omega), ?_⟩
          refine ⟨z2 :: rs, (wNot ++ [32] ++ inP z.2 3 z.1, 3) :: r, _, _, _, _, _, _, _, _, _, _, _, _, rfl, same_upd (s2.trans sz) hc, by rw [vS_cons]; exact upd_same, (show SqT K _ z2 (vP _) ∧ RowH K _ rs r from ⟨?_, RowH.upd (sz _ _ hc2) (hr3.keep sz)⟩), htk', by omega, by omega⟩
          exact sqT_upd (sqT_of upd_same) (sz _ _ hc2)
      · have h1' := of_decide_eq_false (Bool.eq_false_iff.mpr h1)
        refine ⟨_, rfl, rfl, _, rfl, ?_⟩
        rw [and_t, eq_S]
        unfold txM at hm
        rw [if_neg h1'] at hm
        by_cases hw : t.w = wAnd ∨ t.w = wOr
        · rw [if_pos hw] at hm
          refine or_split (fun hf k => ⟨_, rfl, rfl, _, rfl, by
            rw [or_t, eq_S, decide_eq_true (hw.resolve_left (of_decide_eq_false hf))]
            exact k⟩) (iteT ?_)
          match h, hm, hr1, ten, htot, hhl with
          | (y, cb) :: (x0, bb) :: r, hm, hr1, ten, htot, hhl =>
          cases hm
          obtain ⟨p1, rs0, rfl, hp1, hr2⟩ := hr1.out
          obtain ⟨p2, rs, rfl, hp2, hr2⟩ := hr2.out
          rw [vS_cons] at hc1
          refine ⟨_, rfl, .inl ⟨rfl, _, SqL.of hc1⟩, c, _, V.ref p1, rfl, rfl, hc1, by simp, p1, _, rfl, sqT_upd hp1 hc1, rfl, _, _, rfl, _, _, rfl, rfl, ?_⟩
          rw [List.dropLast_concat]
          have hc2 : (upd H1 c (.lst (vS (p2 :: rs)))) c = some (.lst (vS (p2 :: rs))) := upd_same
          have hp3 := sqT_upd (zs := vS (p2 :: rs)) hp2 hc1
          have s2 : Same H (upd H1 c (.lst (vS (p2 :: rs)))) := same_upd s1 hc
          have hr3 : RowH K (upd H1 c (.lst (vS (p2 :: rs)))) rs r := RowH.upd hc1 hr2
          clear hc1 hr1 hr2 s1 hst hp1 hp2
          revert hc2 s2 hr3 hp3
          generalize upd H1 c (.lst (vS (p2 :: rs))) = H2
          intro hc2 hp3 s2 hr3
          rw [vS_cons] at hc2
          refine ⟨_, rfl, .inl ⟨rfl, _, SqL.of hc2⟩, c, _, V.ref p2, rfl, rfl, hc2, by simp, p2, _, rfl, sqT_upd hp3 hc2, rfl, _, _, rfl, _, _, rfl, rfl, ?_⟩
          rw [List.dropLast_concat]
          have hc3 : (upd H2 c (.lst (vS rs))) c = some (.lst (vS rs)) := upd_same
          have s3 : Same H (upd H2 c (.lst (vS rs))) := same_upd s2 hc
          have hr4 : RowH K (upd H2 c (.lst (vS rs))) rs r := RowH.upd hc2 hr3
          clear hc2 s2 hr3 hp3
          revert hc3 s3 hr4
          generalize upd H2 c (.lst (vS rs)) = H3
          intro hc3 s3 hr4
          have hx0 := ten (x0, bb) (by simp)
          have hy := ten (y, cb) (by simp)
          have i1 := inP_len bb (bndT t.w) x0
          have i2 := inP_len cb (bndT t.w) y
          have hwl : t.w.length ≤ 3 := by rcases hw with e | e <;> rw [e] <;> decide
          have htt := tot_in (h := (inP bb (bndT t.w) x0 ++ [32] ++ t.w ++ [32] ++ inP cb (bndT t.w) y, bndT t.w) :: r) (List.mem_cons_self ..)
          simp only [List.length_append, List.length_cons, List.length_nil] at htt
          refine ⟨_, rfl, _, rfl, _, rfl, x0, bb, bndT t.w, rfl, Nat.le_trans hx0 (by decide), ?_⟩
          refine ⟨_, rfl, _, rfl, _, rfl, y, cb, bndT t.w, rfl, Nat.le_trans hy (by decide), ?_⟩
          have e1 : ∀ l : List Nat, Str.empty ++ S l = S l := fun l => S_cat [] l
          refine ⟨_, rfl, .inl ⟨rfl, _, SqL.of hc3⟩, _, rfl, .inl ⟨_, rfl, by rw [S_len]; exact big _ (by omega), _, rfl, by rw [e1, S_len]; exact big _ (by omega), ?_⟩⟩
          rw [e1]
          refine ⟨_, rfl, by rw [spc, S_cat, S_len]; simp only [List.length_append, List.length_cons, List.length_nil]; exact big _ (by omega), ?_⟩
          rw [spc, S_cat]
          refine ⟨_, rfl, .inl ⟨_, rfl, by rw [S_len]; exact big _ (by omega), _, rfl, by rw [S_cat, S_len]; simp only [List.length_append, List.length_cons, List.length_nil]; exact big _ (by omega), ?_⟩⟩
          rw [S_cat]
          refine ⟨_, rfl, by rw [S_cat, S_len]; simp only [List.length_append, List.length_cons, List.length_nil]; exact big _ (by omega), ?_⟩
          rw [S_cat]
          refine ⟨_, rfl, .inl ⟨_, rfl, by rw [S_len]; exact big _ (by omega), _, rfl, by rw [S_cat, S_len]; simp only [List.length_append, List.length_cons, List.length_nil]; exact big _ (by omega), ?_⟩⟩
          rw [S_cat]
          refine ⟨_, rfl, by show 2 ≤ sizeLine; decide, fun z2 hz2 => ?_⟩
          have sz := same_new (o := .tup [V.str (S (inP bb (bndT t.w) x0 ++ [32] ++ t.w ++ [32] ++ inP cb (bndT t.w) y)), .int ((bndT t.w : Nat) : Int)]) hz2
          have hrl : rs.length ≤ i := by simp only [List.length_cons] at hlen; omega
          refine ⟨c, _, _, rfl, rfl, sz _ _ hc3, by rw [vS_len]; exact szT (by omega), ?_⟩
          refine ⟨z2 :: rs, (inP bb (bndT t.w) x0 ++ [32] ++ t.w ++ [32] ++ inP cb (bndT t.w) y, bndT t.w) :: r, _, _, _, _, _, _, _, _, _, _, _, _, rfl, same_upd (s3.trans sz) hc, by rw [vS_cons]; exact upd_same, (show SqT K _ z2 (vP _) ∧ RowH K _ rs r from ⟨?_, RowH.upd (sz _ _ hc3) (hr4.keep sz)⟩), htk', by omega, by simp only [List.length_cons] at hl2 hhl ⊢; omega⟩
          exact sqT_upd (sqT_of upd_same) (sz _ _ hc3)
        · rw [if_neg hw] at hm
          cases hm
          rw [decide_eq_false (fun e => hw (.inl e))]
          refine ⟨_, rfl, rfl, _, rfl, ?_⟩
          rw [or_t, eq_S, decide_eq_false (fun e => hw (.inr e))]
          refine ⟨_, rfl, .inl ⟨rfl, _, SqL.of hc1⟩, _, rfl, _, rfl, _, rfl, t, rfl, by have := hsw.1; omega, by have := hsw.2.1; omega, by have := hsw.2.2.1; omega, hsw.2.2.2, ?_⟩
          refine ⟨_, rfl, by show 2 ≤ sizeLine; decide, fun z2 hz2 => ?_⟩
          have sz := same_new (o := .tup [V.str (S (txTm t)), .int ((bndT t.w : Nat) : Int)]) hz2
          refine ⟨c, _, _, rfl, rfl, sz _ _ hc1, by rw [vS_len]; exact szT (by omega), ?_⟩
          refine ⟨z2 :: hs, (txTm t, bndT t.w) :: h, _, _, _, _, _, _, _, _, _, _, _, _, rfl, same_upd (s1.trans sz) hc, by rw [vS_cons]; exact upd_same, (show SqT K _ z2 (vP _) ∧ RowH K _ hs h from ⟨?_, RowH.upd (sz _ _ hc1) (hr1.keep sz)⟩), htk', by omega, by simp only [List.length_cons] at hl2 ⊢; omega⟩
          exact sqT_upd (sqT_of upd_same) (sz _ _ hc1)
    · rintro σ H1 ⟨hs, h, o2, o3, o4, o5, o6, o7, o8, o9, o10, o11, o12, o13, rfl, s1, hc1, hr1, htk, htot, hhl⟩
      rw [List.length_map, hpl, List.take_length, htx] at htk
      cases htk
      obtain ⟨p, rs, rfl, hp, hr2⟩ := hr1.out
      cases rs with
      | cons _ _ => exact hr2.elim
      | nil =>
        refine ⟨_, rfl, c, _, _, _, rfl, rfl, SqL.of hc1, rfl, p, _, _, _, rfl, rfl, hp, rfl, ?_⟩
        exact q H1 s1
end

/-! ## Markers: the class -/
section
variable {P : Program} {w : World} {K : PySem.W.Frag} {mg : Str → Option Value} {base : Heap} {D : Ad}
open TL SX
theorem make_same {H H1 : Hp} {C x dx : Addr} {fs : List (Str × V)} (hx : H x = none) (hd : H dx = none) (s : Same (upd (upd H dx (.own x)) x (.ins C dx [])) H1) : Same H (upd H1 x (.ins C dx fs)) := by
  intro b o e
  have n1 : b ≠ x := ne_of_none e hx
  have n2 : b ≠ dx := ne_of_none e hd
  rw [upd_ne n1]
  refine s b o ?_
  rw [upd_ne n1, upd_ne n2]
  exact e
theorem sqT_ins {H : Hp} {b x C C' dx dx' : Addr} {xs : List V} {fs fs' : List (Str × V)} (h : SqT K H b xs) (hx : H x = some (.ins C dx fs)) : SqT K (upd H x (.ins C' dx' fs')) b xs := by
  rcases h with h | h
  · refine .inl ?_
    rcases h with h | ⟨o, h⟩
    · exact .inl (by rw [upd_ne (fun e => by rw [e, hx] at h; cases h)]; exact h)
    · exact .inr ⟨o, by rw [upd_ne (fun e => by rw [e, hx] at h; cases h)]; exact h⟩
  · exact .inr h
theorem Row.ins {H : Hp} {x C C' dx dx' : Addr} {fs fs' : List (Str × V)} (hx : H x = some (.ins C dx fs)) : ∀ {ps : List Addr} {ts : List Tm}, Row K H ps ts → Row K (L2.upd H x (.ins C' dx' fs')) ps ts
  | [], [], _ => trivial
  | _ :: _, _ :: _, h => ⟨sqT_ins h.1 hx, Row.ins hx h.2⟩
  | [], _ :: _, h => h.elim
  | _ :: _, [], h => h.elim
/-- a marker of these steps -/
def Mkr (K : PySem.W.Frag) (C : Addr) (H : Hp) (m : Addr) (us : List Tm) : Prop := ∃ dx p ps, H m = some (.ins C dx [("_steps", .ref p)]) ∧ SqT K H p (ps.map V.ref) ∧ Row K H ps us
theorem Mkr.keep {C m : Addr} {H H' : Hp} {us : List Tm} (h : Mkr K C H m us) (s : Same H H') : Mkr K C H' m us :=
  let ⟨dx, p, ps, a, b, c⟩ := h; ⟨dx, p, ps, s _ _ a, sqT_keep s b, c.keep s⟩
theorem alw_t : (("always" : String) : Str) = S wAlways := by decide +kernel
theorem read_one {x : Txt} (hx : x ∈ operL) (hf : x ∉ fieldL) (hk : TokOk x) : readF x = some [opT x] := by
  have e1 : toksF x = some [x] := by
    have := toks_lay (w := x) (ps := []) (.one hk)
    simpa [lay] using this
  have e2 : termsF [x] = some [opT x] := by
    have := terms_tk (ts := [opT x]) (fun t ht => by
      rw [List.mem_singleton.mp ht]
      unfold TmOk
      rw [if_neg (show ¬ (opT x).w ∈ fieldL from hf)]
      rfl)
    rw [show ([opT x] : List Tm).flatMap tkT = [x] by simp [tkT, opT, hf]] at this
    exact this
  unfold readF
  rw [e1]
  show (termsF [x]).bind exprF = _
  rw [e2]
  obtain ⟨a, b, c, _⟩ := oper_bnd x hx
  have n1 : ¬ (x = [40] ∨ x = wNot) := by
    rintro (e | e)
    · rw [e] at hx
      exact absurd hx (by decide)
    · exact a e
  show exprF [opT x] = _
  have r : runM ([], [], true) [opT x] = some ([opT x], [], false) := by
    show (stepM ([], [], true) (opT x)).bind _ = _
    have : stepM ([], [], true) (opT x) = some ([opT x], [], false) := by
      unfold stepM
      rw [if_pos rfl, if_neg (show ¬ ((opT x).w = [40] ∨ (opT x).w = wNot) from n1), if_pos (show (opT x).w ∈ operL from hx)]
      rfl
    rw [this]
    rfl
  unfold exprF
  rw [r]
  rfl
theorem stp_lk (p : Addr) : List.lookup ("_steps" : Str) [(("_steps" : Str), V.ref p)] = some (V.ref p) := by simp [List.lookup]
def spMStr (K : PySem.W.Frag) (C : Addr) : Sp := fun vs H Q _ => ∃ (a : Addr) (us : List Tm) (x : Txt) (b : Nat), vs = [.ref a] ∧ Mkr K C H a us ∧ us.length ≤ 3000 ∧ (∀ t ∈ us, Shw t) ∧ txR [] us = some [(x, b)] ∧ ∀ H', Same H H' → Q (.str (S x)) H'
theorem ok_Marker_str (T : TexW w K mg D) : FnOk P w K mg base CX0 4 D.a_Marker_str D.d_Marker_str P_Marker_str (spMStr K D.a_Marker) := by
  have G_text_of_expression : FnOk P w K mg base CX0 2 D.a_text_of_expression D.d_text_of_expression P_text_of_expression (spTextE K) := ok_text_of_expression T
  refine T.Marker_str_F.ok S_Marker_str (fun vs H Q E h => ?_) (fun cdv A outer s H vs Q E hr h => ?_)
  · obtain ⟨a, us, x, b, rfl, _⟩ := h
    rfl
  · obtain ⟨a, us, x, b, rfl, ⟨dx, p, ps, ha, hp, hr1⟩, hl, hs, ht, q⟩ := h
    refine ⟨_, (pss_one (ps_ret (pe_callTy SkE.call_str_str (by rfl) T.b_str (by decide +kernel) (pa_cons (pe_call G_text_of_expression (hr.mono (by decide)) (by rfl) T.text_of_expression_g T.text_of_expression_F.kp T.text_of_expression_b .nil pass0 (pa_cons (pe_fld (pv 0) rfl) pa_nil)) pa_nil)))), ?_⟩
    exact ⟨_, rfl, a, _, dx, _, _, rfl, ha, T.Marker_cl, T.Marker_n_steps, stp_lk p, p, ps, us, x, b, rfl, hp, hr1, hl, hs, ht, fun H' s' => ⟨_, rfl, q H' s'⟩⟩
end

/-! ## Marker(x): a marker, or BadMarker with the very thing -/
section
variable {P : Program} {w : World} {K : PySem.W.Frag} {mg : Str → Option Value} {base : Heap} {D : Ad}
open TL SX
def spXI (C : Addr) (f : Str) : Sp := fun vs H Q _ => ∃ (a : Addr) (y : V), vs = [.ref a, y] ∧ H a = some (exo a C none) ∧ ∀ dx, H dx = none → dx ≠ a → Q .non (upd (upd H dx (exd dx [(f, y)])) a (exo a C (some dx)))
theorem ok_BadMarker_init (T : TexW w K mg D) : FnOk P w K mg base CX0 1 D.a_BadMarker_init D.d_BadMarker_init P_BadMarker_init (spXI D.a_BadMarker "given") := by
  refine T.BadMarker_init_F.ok S_BadMarker_init (fun vs H Q E h => ?_) (fun cdv A outer s H vs Q E hr h => ?_)
  · obtain ⟨a, y, rfl, _⟩ := h
    rfl
  · obtain ⟨a, y, rfl, ha, q⟩ := h
    exact ⟨_, (pss_one (ps_ost (pv 0) (pv 1))), _, rfl, _, rfl, a, _, rfl, T.BadMarker_xa.o, T.BadMarker_xf, .inl ⟨ha, fun dx h1 h2 => q dx h1 h2⟩⟩
theorem raised_same {H : Hp} {a dx C : Addr} {fs : List (Str × V)} (ha : H a = none) (hd : (upd H a (exo a C none)) dx = none) :
    Same H (upd (del (upd (upd (upd H a (exo a C none)) dx (exd dx fs)) a (exo a C (some dx))) a) dx (.xd fs)) := by
  intro b o e
  have n1 : b ≠ a := ne_of_none e ha
  have n2 : b ≠ dx := by
    rintro rfl
    rw [upd_ne n1, e] at hd
    cases hd
  rw [upd_ne n2, del_ne n1, upd_ne n1, upd_ne n2, upd_ne n1]
  exact e
/-- what is no marker -/
def NoMk (K : PySem.W.Frag) (H : Hp) (x : V) : Prop := (∃ l : List Nat, x = .str (S l) ∧ l.length ≤ 50000 ∧ readF l = none) ∨ NoTxt K H x
def spMInitA (K : PySem.W.Frag) (C B : Addr) : Sp := fun vs H Q E => ∃ (x dx : Addr) (y : V), vs = [.ref x, y] ∧ H x = some (.ins C dx []) ∧
  ((∃ (l : List Nat) (us : List Tm), y = .str (S l) ∧ l.length ≤ 50000 ∧ readF l = some us ∧
     ∀ H1 p qs, Same H H1 → H1 p = some (.tup (qs.map V.ref)) → Row K H1 qs us → Q .non (upd H1 x (.ins C dx [("_steps", .ref p)]))) ∨
   (NoMk K H y ∧ ∀ d H', Same H H' → H' d = some (.xd [("given", y)]) → E (.ref B) (some d) H'))
theorem ok_Marker_init (T : TexW w K mg D) : FnOk P w K mg base (L2.CX P w) 8 D.a_Marker_init D.d_Marker_init P_Marker_init (spMInitA K D.a_Marker D.a_BadMarker) := by
  have G_expression_in : FnOk P w K mg base CX0 6 D.a_expression_in D.d_expression_in P_expression_in (spExpInA K) := ok_expression_in T
  have G_BadMarker_init : FnOk P w K mg base CX0 1 D.a_BadMarker_init D.d_BadMarker_init P_BadMarker_init (spXI D.a_BadMarker "given") := ok_BadMarker_init T
  refine T.Marker_init_F.ok S_Marker_init (fun vs H Q E h => ?_) (fun cdv A outer s H vs Q E hr h => ?_)
  · obtain ⟨x, dx, y, rfl, _⟩ := h
    rfl
  · obtain ⟨x, dx, y, rfl, hx, h⟩ := h
    refine ⟨_, (pss_cons (ps_set (i := 2) S_Marker_init.nd rfl (Or.inl rfl) (pe_call G_expression_in (hr.mono (by decide)) (by rfl) T.expression_in_g T.expression_in_F.kp T.expression_in_b .nil pass0 (pa_cons (pv 1) pa_nil)))
      (pss_cons (ps_if (pt_cmpR op_isN (pv 2) pe_non (nomark _)) (pss_one (ps_raise rfl (takes_of rfl rfl rfl rfl) (pmk_oex T.BadMarker_xa.o T.BadMarker_xi T.BadMarker_xt G_BadMarker_init (hr.mono (by decide)) T.BadMarker_init_b .nil pass0 rfl T.BadMarker_g (pa_cons (pv 1) pa_nil)))) pss_nil)
      (pss_one (ps_fld (pv 0) (pv 2) rfl)))), ?_⟩
    rcases h with ⟨l, us, rfl, hl, hu, q⟩ | ⟨hb, q⟩
    · refine ⟨_, rfl, _, rfl, .inl ⟨l, rfl, hl, fun e => (by rw [hu] at e; cases e), fun us' qs p H1 e hp s1 h1p hrow => ?_⟩⟩
      rw [hu] at e
      cases e
      refine ⟨_, rfl, rfl, _, rfl, iteF ?_⟩
      exact ⟨_, rfl, _, rfl, x, _, dx, [], rfl, s1 _ _ hx, T.Marker_cl, T.Marker_n_steps, by decide, q H1 p qs s1 h1p hrow⟩
    · have raise : ∀ H1, Same H H1 → (1 : Nat) ≤ 1000 ∧ ∀ a, H1 a = none → spXI D.a_BadMarker "given" (.ref a :: ([y] ++ [])) (upd H1 a (exo a D.a_BadMarker none))
          (fun v H2 => v = .non ∧ ∃ (d : Addr) (fs : List (Str × V)), H2 a = some (exo a D.a_BadMarker (some d)) ∧ H2 d = some (exd d fs) ∧ H1 d = none ∧ E (.ref D.a_BadMarker) (some d) (upd (del H2 a) d (.xd fs))) (fun _ _ _ => False) := by
        intro H1 s1
        refine ⟨by decide, fun e he => ⟨e, _, rfl, upd_same, fun dx hd hne => ⟨rfl, dx, _, upd_same, by rw [upd_ne hne, upd_same], ?_, ?_⟩⟩⟩
        · rw [upd_ne hne] at hd
          exact hd
        · exact q dx _ (s1.trans (raised_same he hd)) upd_same
      rcases hb with ⟨l, rfl, hl, e⟩ | nt
      · refine ⟨_, rfl, _, rfl, .inl ⟨l, rfl, hl, fun _ H1 s1 => ?_, fun us qs p H1 e' => (by rw [e] at e'; cases e')⟩⟩
        exact ⟨_, rfl, rfl, _, rfl, iteT ⟨_, rfl, raise H1 s1⟩⟩
      · refine ⟨_, rfl, _, rfl, .inr ⟨nt, fun H1 s1 => ?_⟩⟩
        exact ⟨_, rfl, rfl, _, rfl, iteT ⟨_, rfl, raise H1 s1⟩⟩
end

/-! ## Markers: what is laid out loosely is read -/
section
open TL SX
def Adj : List Txt → Prop
  | [] => True
  | [_] => True
  | w :: w' :: r => ((w = [60] ∨ w = [62]) → w'.head? ≠ some 61) ∧ Adj (w' :: r)
structure St (T : List Txt) : Prop where
  tok : ∀ x ∈ T, TokOk x
  adj : Adj T
  hd : ∀ x, T.head? = some x → x.head? ≠ some 61
  lst : ∀ x, T.getLast? = some x → x ≠ [60] ∧ x ≠ [62]
  ne : T ≠ []
theorem Adj.app : ∀ {A B : List Txt}, Adj A → Adj B → (∀ x, A.getLast? = some x → x ≠ [60] ∧ x ≠ [62]) → Adj (A ++ B)
  | [], B, _, b, _ => b
  | [w], [], _, _, _ => trivial
  | [w], w' :: r, _, b, l => ⟨fun e => by
    have := l w rfl
    rcases e with e | e
    · exact absurd e this.1
    · exact absurd e this.2, b⟩
  | w :: w' :: r, B, a, b, l => ⟨a.1, Adj.app (A := w' :: r) a.2 b (fun x hx => l x (by simpa [List.getLast?_cons_cons] using hx))⟩
theorem St.app {A B : List Txt} (a : St A) (b : St B) : St (A ++ B) where
  tok := fun x hx => (List.mem_append.mp hx).elim (a.tok x) (b.tok x)
  adj := a.adj.app b.adj a.lst
  hd := fun x hx => by
    obtain ⟨y, r, e⟩ := List.exists_cons_of_ne_nil a.ne
    rw [e] at hx
    exact a.hd x (by rw [e]; simpa using hx)
  lst := fun x hx => by
    rw [List.getLast?_append] at hx
    cases e : B.getLast? with
    | none => exact absurd (List.getLast?_eq_none_iff.mp e) b.ne
    | some y =>
      rw [e] at hx
      have : y = x := by simpa using hx
      rw [← this]
      exact b.lst y e
  ne := fun e => a.ne (List.append_eq_nil_iff.mp e).1
theorem St.one {x : Txt} (h : TokOk x) (h1 : x.head? ≠ some 61) (h2 : x ≠ [60] ∧ x ≠ [62]) : St [x] where
  tok := fun y hy => by rw [List.mem_singleton.mp hy]; exact h
  adj := trivial
  hd := fun y hy => by
    have : x = y := by simpa using hy
    rw [← this]; exact h1
  lst := fun y hy => by
    have : x = y := by simpa using hy
    rw [← this]; exact h2
  ne := by simp
/-- a leaf as the law draws them -/
structure GT (t : Tm) : Prop where
  op : t.w ∈ operL
  ok : TmOk t
  sh : Shw t
  tk : t.w ∈ fieldL → t.s ∈ lvSigns ∧ txV t.v ≠ [] ∧ ∀ c ∈ txV t.v, isLD c = true
theorem ld_tok {x : Txt} (h : x ≠ []) (k : ∀ c ∈ x, isLD c = true) : TokOk x ∧ x.head? ≠ some 61 ∧ (x ≠ [60] ∧ x ≠ [62]) := by
  refine ⟨.inl ⟨h, k⟩, fun e => ?_, fun e => ?_, fun e => ?_⟩
  · exact absurd (k 61 (List.mem_of_head? e)) (by decide)
  · rw [e] at k
    exact absurd (k 60 (by simp)) (by decide)
  · rw [e] at k
    exact absurd (k 62 (by simp)) (by decide)
theorem oper_ld : ∀ x ∈ operL, x ≠ [] ∧ ∀ c ∈ x, isLD c = true := by decide
theorem word_st {x : Txt} (h : x ∈ ([[40], [41], wNot, wAnd, wOr] : List Txt)) : St [x] := by
  simp only [List.mem_cons, List.not_mem_nil, or_false] at h
  rcases h with rfl | rfl | rfl | rfl | rfl
  · exact .one (.inr (by decide)) (by decide) (by decide)
  · exact .one (.inr (by decide)) (by decide) (by decide)
  all_goals exact .one (.inl (by decide)) (by decide) (by decide)
theorem sgn_tok : ∀ s ∈ lvSigns, s ∈ sgn8 := by decide
theorem GT.st {t : Tm} (g : GT t) : St (tkT t) := by
  obtain ⟨a, b⟩ := oper_ld t.w g.op
  obtain ⟨x1, x2, x3⟩ := ld_tok a b
  unfold tkT
  by_cases h : t.w ∈ fieldL
  · rw [if_pos h]
    obtain ⟨hs, hv, hc⟩ := g.tk h
    obtain ⟨y1, y2, y3⟩ := ld_tok hv hc
    refine ⟨fun x hx => ?_, ⟨fun e => ?_, fun _ => y2, trivial⟩, fun x hx => ?_, fun x hx => ?_, by simp⟩
    · simp only [List.mem_cons, List.not_mem_nil, or_false] at hx
      rcases hx with rfl | rfl | rfl
      · exact x1
      · exact .inr (sgn_tok _ hs)
      · exact y1
    · rcases e with e | e
      · exact absurd e x3.1
      · exact absurd e x3.2
    · have : t.w = x := by simpa using hx
      rw [← this]
      exact x2
    · have : txV t.v = x := by simpa using hx
      rw [← this]
      exact y3
  · rw [if_neg h]
    exact .one x1 x2 x3
theorem word_tk {x : Txt} (h : x ∈ ([[40], [41], wNot, wAnd, wOr] : List Txt)) : TmOk (opT x) ∧ tkT (opT x) = [x] := by
  have hf : x ∉ fieldL := by
    simp only [List.mem_cons, List.not_mem_nil, or_false] at h
    rcases h with rfl | rfl | rfl | rfl | rfl <;> decide
  exact ⟨by unfold TmOk; rw [if_neg (show ¬ (opT x).w ∈ fieldL from hf)]; rfl, by unfold tkT; rw [if_neg (show ¬ (opT x).w ∈ fieldL from hf)]; rfl⟩
theorem op_mem (a : Bool) : wOp a ∈ ([[40], [41], wNot, wAnd, wOr] : List Txt) := by cases a <;> decide
theorem pcs_ok {t : Tr} {b : Nat} {ts : List Tm} (h : Pcs t b ts) : (∀ x ∈ t.lvs, GT x) → (∀ x ∈ ts, TmOk x) ∧ St (ts.flatMap tkT) := by
  induction h with
  | @lf t h =>
    intro g
    have gt := g t (by simp [Tr.lvs])
    exact ⟨fun x hx => by rw [List.mem_singleton.mp hx]; exact gt.ok, by simpa using gt.st⟩
  | @par t b ts h ih =>
    intro g
    obtain ⟨a, s⟩ := ih g
    obtain ⟨o1, o2⟩ := word_tk (x := [40]) (by decide)
    obtain ⟨c1, c2⟩ := word_tk (x := [41]) (by decide)
    refine ⟨fun x hx => ?_, ?_⟩
    · simp only [List.mem_cons, List.mem_append, List.not_mem_nil, or_false] at hx
      rcases hx with rfl | hx | rfl
      · exact o1
      · exact a x hx
      · exact c1
    · rw [List.flatMap_cons, List.flatMap_append, o2]
      simp only [List.flatMap_cons, List.flatMap_nil, c2, List.append_nil]
      exact (word_st (by decide)).app (s.app (word_st (by decide)))
  | @no t b ts h hb ih =>
    intro g
    obtain ⟨a, s⟩ := ih g
    obtain ⟨o1, o2⟩ := word_tk (x := wNot) (by decide)
    refine ⟨fun x hx => ?_, ?_⟩
    · rcases List.mem_cons.mp hx with rfl | hx
      · exact o1
      · exact a x hx
    · rw [List.flatMap_cons, o2]
      exact (word_st (by decide)).app s
  | @bi o t u b c ts us h k hb hc ih ik =>
    intro g
    obtain ⟨a, s⟩ := ih fun x hx => g x (by simp [Tr.lvs, hx])
    obtain ⟨a2, s2⟩ := ik fun x hx => g x (by simp [Tr.lvs, hx])
    obtain ⟨o1, o2⟩ := word_tk (op_mem o)
    refine ⟨fun x hx => ?_, ?_⟩
    · rcases List.mem_append.mp hx with hx | hx
      · exact a x hx
      · rcases List.mem_cons.mp hx with rfl | hx
        · exact o1
        · exact a2 x hx
    · rw [List.flatMap_append, List.flatMap_cons, o2]
      exact s.app ((word_st (op_mem o)).app s2)
/-- a sign that needs no gap beside it -/
def brk (c : Nat) : Bool := decide (c ∈ ([40, 41, 60, 62, 61, 33] : List Nat))
def Gap (w w' : Txt) : Prop := (∃ c, w.getLast? = some c ∧ brk c = true) ∨ ∃ c, w'.head? = some c ∧ brk c = true
theorem gap_glue {w w' : Txt} (hw' : w' ≠ []) (h : Gap w w') (k : (w = [60] ∨ w = [62]) → w'.head? ≠ some 61) : glue w w' := by
  obtain ⟨c, r, rfl⟩ := List.exists_cons_of_ne_nil hw'
  refine ⟨fun hl => ?_, fun e q => k e (by rw [q]; rfl)⟩
  have nb : ∀ c, brk c = true → isLD c = false := fun c h => by
    simp only [brk, decide_eq_true_eq, List.mem_cons, List.not_mem_nil, or_false] at h
    rcases h with rfl | rfl | rfl | rfl | rfl | rfl <;> decide
  rcases h with ⟨x, e, b⟩ | ⟨x, e, b⟩
  · have := hl x (List.mem_of_getLast? e)
    rw [nb x b] at this
    cases this
  · have : c = x := by simpa using e
    rw [this]
    exact nb x b
/-- gaps as the law draws them -/
inductive Lo : List (Nat × Txt) → Prop where
  | one {w : Txt} : Lo [(0, w)]
  | snoc {ps : List (Nat × Txt)} {g g' : Nat} {w w' : Txt} (h : Lo (ps ++ [(g, w)])) (k : g' = 0 → Gap w w') : Lo (ps ++ [(g, w)] ++ [(g', w')])
theorem LayOk.snoc {g g' : Nat} {w w' : Txt} (ht : TokOk w') (k : g' = 0 → glue w w') : ∀ {ps : List (Nat × Txt)}, LayOk (ps ++ [(g, w)]) → LayOk (ps ++ [(g, w)] ++ [(g', w')])
  | [], h => by
    cases h with
    | one h => exact .cons h k (.one ht)
  | [(g0, w0)], h => by
    cases h with
    | cons h k0 r => exact .cons h k0 (LayOk.snoc (ps := []) ht k r)
  | (g0, w0) :: (g1, w1) :: ps, h => by
    cases h with
    | cons h k0 r => exact .cons h k0 (LayOk.snoc (ps := (g1, w1) :: ps) ht k r)
theorem Adj.left : ∀ {A B : List Txt}, Adj (A ++ B) → Adj A
  | [], _, _ => trivial
  | [_], _, _ => trivial
  | _ :: w' :: r, B, h => ⟨h.1, Adj.left (A := w' :: r) h.2⟩
theorem Adj.two : ∀ {A : List Txt} {w w' : Txt}, Adj (A ++ [w] ++ [w']) → ((w = [60] ∨ w = [62]) → w'.head? ≠ some 61)
  | [], _, _, h => h.1
  | [_], _, _, h => h.2.1
  | _ :: x :: r, w, w', h => Adj.two (A := x :: r) h.2
theorem lo_lay {ps : List (Nat × Txt)} (h : Lo ps) : (∀ x ∈ ps.map (·.2), TokOk x) → Adj (ps.map (·.2)) → LayOk ps := by
  induction h with
  | @one w => exact fun t _ => .one (t w (by simp))
  | @snoc ps g g' w w' h k ih =>
    intro t a
    rw [List.map_append] at a t
    refine LayOk.snoc (t w' (by simp)) (fun e => ?_) (ih (fun x hx => t x (List.mem_append_left _ hx)) a.left)
    refine gap_glue (tok_ne (t w' (by simp))) (k e) ?_
    rw [List.map_append] at a
    exact Adj.two a
theorem lo_zero {ps : List (Nat × Txt)} (h : Lo ps) : ∃ w qs, ps = (0, w) :: qs := by
  induction h with
  | @one w => exact ⟨w, [], rfl⟩
  | @snoc ps g g' w w' h k ih =>
    obtain ⟨x, qs, e⟩ := ih
    exact ⟨x, qs ++ [(g', w')], by rw [e]; rfl⟩
/-- a tree's tokens, loosely laid, are read as a tree that shows and answers the same -/
theorem read_lo {t : Tr} {b : Nat} {ts : List Tm} {ps : List (Nat × Txt)} (h : Pcs t b ts) (g : ∀ x ∈ t.lvs, GT x) (hl : Lo ps) (e : ps.map (·.2) = ts.flatMap tkT) : ∃ u, Eqv u t ∧ readF (lay ps) = some u.pfx := by
  obtain ⟨hok, hst⟩ := pcs_ok h g
  have hlay := lo_lay hl (by rw [e]; exact hst.tok) (by rw [e]; exact hst.adj)
  obtain ⟨w, qs, rfl⟩ := lo_zero hl
  have e1 := toks_lay hlay
  obtain ⟨u, q, ex⟩ := pcs_expr h
  refine ⟨u, q, ?_⟩
  unfold readF
  rw [e1, show w :: qs.map (·.2) = ts.flatMap tkT from e]
  show (termsF _).bind exprF = _
  rw [terms_tk hok]
  exact ex
end

/-! ## Markers: the law's trees -/
section
variable {P : Program} {w : World} {K : PySem.W.Frag} {mg : Str → Option Value} {base : Heap} {D : Ad}
open TL SX
inductive Tre (H : Hp) : Addr → Tr → Prop where
  | all {p : Addr} (b : Bool) (h : H p = some (.tup [.str "all", .bl b])) : Tre H p (.lf (opT (if b then wAlways else wNever)))
  | is {p : Addr} {f s : Txt} {v : Txt ⊕ Nat} (h : H p = some (.tup [.str "is", .str (S f), .str (S s), vW v])) (hf : f ∈ fieldL) : Tre H p (.lf ⟨f, s, v⟩)
  | no {p q : Addr} {t : Tr} (h : H p = some (.tup [.str "not", .ref q])) (r : Tre H q t) : Tre H p (.no t)
  | bi {p q r : Addr} {a : Bool} {t u : Tr} (h : H p = some (.tup [.str (S (wOp a)), .ref q, .ref r])) (x : Tre H q t) (y : Tre H r u) : Tre H p (.bi a t u)
def TK (H H' : Hp) : Prop := ∀ b xs, H b = some (.tup xs) → H' b = some (.tup xs)
theorem TK.trans {H H1 H2 : Hp} (a : TK H H1) (b : TK H1 H2) : TK H H2 := fun x xs e => b x xs (a x xs e)
theorem tk_same {H H' : Hp} (s : Same H H') : TK H H' := fun b xs e => s _ _ e
theorem tk_but {H H' : Hp} {d c : Addr} {n : Nat} (h : Dr H d c n) (s : But d H H') : TK H H' := fun b xs e => s _ _ e (fun q => by
  obtain ⟨_, _, _, _, ho, _⟩ := h
  rw [q, ho] at e
  cases e)
theorem Tre.keep {H H' : Hp} (k : TK H H') {p : Addr} {t : Tr} (h : Tre H p t) : Tre H' p t := by
  induction h with
  | all b h => exact .all b (k _ _ h)
  | is h hf => exact .is (k _ _ h) hf
  | no h _ ih => exact .no (k _ _ h) ih
  | bi h _ _ ih ik => exact .bi (k _ _ h) ih ik
def Tr.dep : Tr → Nat
  | .lf _ => 0
  | .no t => t.dep + 1
  | .bi _ t u => max t.dep u.dep + 1
def drw : Nat → Nat
  | 0 => 3
  | k + 1 => 2 * drw k + 4
def szb : Nat → Nat
  | 0 => 1
  | k + 1 => 2 * szb k + 1
theorem two_next {b : Bool} {A B : Prop} {R : Int → Hp → Prop} {G : Bool → Int → Hp → Prop} (hA : b = true → (∀ z H', G true z H' → R z H') → A) (hB : b = false → (∀ z H', G false z H' → R z H') → B) (h : ∀ z H', G b z H' → R z H') : if b = true then A else B := by
  cases b with
  | true => exact hA rfl h
  | false => exact hB rfl h
theorem at_S {ws : List Txt} {v : Int} (h0 : 0 ≤ v) (h1 : v < (ws.length : Int)) : ∃ s, atI (ws.map fun l => V.str (S l)) v = some (.str (S s)) ∧ s ∈ ws := by
  obtain ⟨j, rfl⟩ := Int.eq_ofNat_of_zero_le h0
  have hj : j < ws.length := by omega
  refine ⟨ws[j], atI_nat ?_, List.getElem_mem hj⟩
  rw [List.getElem?_map, List.getElem?_eq_getElem hj]
  rfl
def names5 : List Txt := [[110, 111, 114, 116, 104], [97], [98], wNot, [97, 97]]
def lev7 : List Nat := [0, 1, 3, 4, 50, 98, 99]
theorem nm5_v : ([.str "north", .str "a", .str "b", .str "not", .str "aa"] : List V) = names5.map fun l => V.str (S l) := by decide +kernel
theorem sm_v : ([.str "system", .str "machine"] : List V) = ([wSystem, wMachine] : List Txt).map fun l => V.str (S l) := by decide +kernel
theorem gt_all (b : Bool) : GT (opT (if b then wAlways else wNever)) := by
  cases b
  · exact ⟨by decide, by unfold TmOk; rw [if_neg (by decide)]; rfl, ⟨by decide, by decide, by decide, fun n e => by cases e⟩, fun h => absurd h (by decide)⟩
  · exact ⟨by decide, by unfold TmOk; rw [if_neg (by decide)]; rfl, ⟨by decide, by decide, by decide, fun n e => by cases e⟩, fun h => absurd h (by decide)⟩
theorem word_fin : ∀ f ∈ ([wSystem, wMachine] : List Txt), ∀ s ∈ ([[61, 61], [33, 61]] : List Txt), ∀ v ∈ names5, f ∈ operL ∧ f ∈ fieldL ∧ cmpF f s v = some ⟨f, s, .inl v⟩ ∧ f.length ≤ 100 ∧ s.length ≤ 100 ∧ v.length ≤ 100 ∧ s ∈ lvSigns ∧ v ≠ [] ∧ ∀ c ∈ v, isLD c = true := by decide +kernel
theorem lev_fin : ∀ s ∈ lvSigns, ∀ n ∈ lev7, cmpF wLevel s (numL n) = some ⟨wLevel, s, .inr n⟩ ∧ s.length ≤ 100 ∧ (numL n).length ≤ 100 ∧ numL n ≠ [] ∧ n ≤ 1000 ∧ ∀ c ∈ numL n, isLD c = true := by decide +kernel
theorem gt_word {f s v : Txt} (hf : f ∈ ([wSystem, wMachine] : List Txt)) (hs : s ∈ ([[61, 61], [33, 61]] : List Txt)) (hv : v ∈ names5) : GT ⟨f, s, .inl v⟩ := by
  obtain ⟨a, b, c, d, e, g, h, i, j⟩ := word_fin f hf s hs v hv
  exact ⟨a, by unfold TmOk; rw [if_pos b]; exact c, ⟨d, e, g, fun n e => by cases e⟩, fun _ => ⟨h, i, j⟩⟩
theorem gt_lev {s : Txt} {n : Nat} (hs : s ∈ lvSigns) (hn : n ∈ lev7) : GT ⟨wLevel, s, .inr n⟩ := by
  obtain ⟨c, d, e, g, h, i⟩ := lev_fin s hs n hn
  exact ⟨show wLevel ∈ operL by decide, by unfold TmOk; rw [if_pos (show wLevel ∈ fieldL by decide)]; exact c, ⟨show wLevel.length ≤ 100 by decide, d, e, fun m e => by cases e; exact h⟩, fun _ => ⟨hs, g, i⟩⟩
theorem at_N {ws : List Nat} {v : Int} (h0 : 0 ≤ v) (h1 : v < (ws.length : Int)) : ∃ s, atI (ws.map fun l => V.int ((l : Nat) : Int)) v = some (.int ((s : Nat) : Int)) ∧ s ∈ ws := by
  obtain ⟨j, rfl⟩ := Int.eq_ofNat_of_zero_le h0
  have hj : j < ws.length := by omega
  refine ⟨ws[j], atI_nat ?_, List.getElem_mem hj⟩
  rw [List.getElem?_map, List.getElem?_eq_getElem hj]
  rfl
theorem lv7_v : ([.int 0, .int 1, .int 3, .int 4, .int 50, .int 98, .int 99] : List V) = lev7.map fun l => V.int ((l : Nat) : Int) := by decide +kernel
theorem lst_but {H H' : Hp} {d c p : Addr} {n : Nat} {xs : List V} (hp : H p = some (.lst xs)) (h : Dr H d c n) (s : But d H H') : H' p = some (.lst xs) := s _ _ hp (fun q => by
  obtain ⟨_, _, _, _, ho, _⟩ := h
  rw [q, ho] at hp
  cases hp)
theorem aor_v : ([.str "and", .str "or", .str "or"] : List V) = ([wAnd, wOr, wOr] : List Txt).map fun l => V.str (S l) := by decide +kernel
theorem sz_pos (k : Nat) : 1 ≤ szb k := by cases k <;> simp [szb]
def spTree : Nat → Sp := fun n vs H Q _ => ∃ (d c : Addr) (k m : Nat), vs = [.ref d, .int (k : Int)] ∧ k < n ∧ Dr H d c m ∧ m + drw k ≤ 90000000000 ∧
  ∀ p t H', Tre H' p t → (∀ x ∈ t.lvs, GT x) → t.sz ≤ szb k → t.dep ≤ k → But d H H' → Dr H' d c (m + drw k) → Q (.ref p) H'
theorem ok_tree (T : TexW w K mg D) : ∀ n, FnOk P w K mg base CX0 (n + 3) D.a_tree D.d_tree P_tree (spTree n) := by
  have G_next : FnOk P w K mg base CX0 2 D.a_next D.d_next P_next spNext := ok_next T
  intro n
  induction n with
  | zero => exact ⟨fun _ _ _ _ ⟨_, _, _, _, _, h, _⟩ => absurd h (Nat.not_lt_zero _), fun _ _ _ _ _ _ _ _ _ _ _ _ _ ⟨_, _, _, _, _, h, _⟩ => absurd h (Nat.not_lt_zero _)⟩
  | succ n G_tree =>
    refine T.tree_F.ok S_tree (fun vs H Q E h => ?_) (fun cdv A outer s H vs Q E hr h => ?_)
    · obtain ⟨d, c, k, m, rfl, _⟩ := h
      rfl
    · obtain ⟨d, c, k, m, rfl, hk, hd, hm, q⟩ := h
      refine ⟨_, (pss_cons (ps_set (i := 2) S_tree.nd rfl (Or.inl rfl) (pe_ifExp (pt_cmpR op_gt (pv 1) pe_int (nomark _)) (pe_call G_next (hr.mono (by omega)) (by rfl) T.next_g T.next_F.kp T.next_b .nil pass0 (pa_cons (pv 0) (pa_cons pe_int pa_nil))) (pe_call G_next (hr.mono (by omega)) (by rfl) T.next_g T.next_F.kp T.next_b .nil pass0 (pa_cons (pv 0) (pa_cons pe_int pa_nil)))))
      (pss_cons (ps_if (pt_cmpR op_eq (pv 2) pe_int (nomark _)) (pss_one (ps_ret (pe_tup (pa_cons pe_str (pa_cons (pe_cmpR op_eq (pe_call G_next (hr.mono (by omega)) (by rfl) T.next_g T.next_F.kp T.next_b .nil pass0 (pa_cons (pv 0) (pa_cons pe_int pa_nil))) pe_int (nomark _)) pa_nil))))) pss_nil)
      (pss_cons (ps_if (pt_cmpR op_lt (pv 2) pe_int (nomark _)) (pss_cons (ps_set (i := 3) S_tree.nd rfl (Or.inl rfl) (pe_lst (pa_cons pe_str (pa_cons pe_str (pa_cons pe_str (pa_cons pe_str (pa_cons pe_str pa_nil)))))))
      (pss_one (ps_ret (pe_tup (pa_cons pe_str (pa_cons (pe_ix ix_list (pe_lst (pa_cons pe_str (pa_cons pe_str pa_nil))) (pe_op op_sub (pv 2) pe_int) (fun _ _ => rfl)) (pa_cons (pe_ix ix_list (pe_lst (pa_cons pe_str (pa_cons pe_str pa_nil))) (pe_call G_next (hr.mono (by omega)) (by rfl) T.next_g T.next_F.kp T.next_b .nil pass0 (pa_cons (pv 0) (pa_cons pe_int pa_nil))) (fun _ _ => rfl)) (pa_cons (pe_ix ix_list (pv 3) (pe_call G_next (hr.mono (by omega)) (by rfl) T.next_g T.next_F.kp T.next_b .nil pass0 (pa_cons (pv 0) (pa_cons pe_int pa_nil))) (fun _ _ => rfl)) pa_nil)))))))) pss_nil)
      (pss_cons (ps_if (pt_cmpR op_lt (pv 2) pe_int (nomark _)) (pss_cons (ps_set (i := 4) S_tree.nd rfl (Or.inl rfl) (pe_lst (pa_cons pe_str (pa_cons pe_str (pa_cons pe_str (pa_cons pe_str (pa_cons pe_str (pa_cons pe_str pa_nil))))))))
      (pss_one (ps_ret (pe_tup (pa_cons pe_str (pa_cons pe_str (pa_cons (pe_ix ix_list (pv 4) (pe_call G_next (hr.mono (by omega)) (by rfl) T.next_g T.next_F.kp T.next_b .nil pass0 (pa_cons (pv 0) (pa_cons pe_int pa_nil))) (fun _ _ => rfl)) (pa_cons (pe_ix ix_list (pe_lst (pa_cons pe_int (pa_cons pe_int (pa_cons pe_int (pa_cons pe_int (pa_cons pe_int (pa_cons pe_int (pa_cons pe_int pa_nil)))))))) (pe_call G_next (hr.mono (by omega)) (by rfl) T.next_g T.next_F.kp T.next_b .nil pass0 (pa_cons (pv 0) (pa_cons pe_int pa_nil))) (fun _ _ => rfl)) pa_nil)))))))) pss_nil)
      (pss_cons (ps_if (pt_cmpR op_lt (pv 2) pe_int (nomark _)) (pss_one (ps_ret (pe_tup (pa_cons pe_str (pa_cons (pe_call G_tree (hr.mono (by omega)) (by rfl) T.tree_g T.tree_F.kp T.tree_b .nil pass0 (pa_cons (pv 0) (pa_cons (pe_op op_sub (pv 1) pe_int) pa_nil))) pa_nil))))) pss_nil)
      (pss_one (ps_ret (pe_tup (pa_cons (pe_ix ix_list (pe_lst (pa_cons pe_str (pa_cons pe_str (pa_cons pe_str pa_nil)))) (pe_op op_sub (pv 2) pe_int) (fun _ _ => rfl)) (pa_cons (pe_call G_tree (hr.mono (by omega)) (by rfl) T.tree_g T.tree_F.kp T.tree_b .nil pass0 (pa_cons (pv 0) (pa_cons (pe_op op_sub (pv 1) pe_int) pa_nil))) (pa_cons (pe_call G_tree (hr.mono (by omega)) (by rfl) T.tree_g T.tree_F.kp T.tree_b .nil pass0 (pa_cons (pv 0) (pa_cons (pe_op op_sub (pv 1) pe_int) pa_nil))) pa_nil))))))))))), ?_⟩
      refine ⟨_, rfl, _, _, rfl, rfl, _, rfl, ?_⟩
      have dk : 3 ≤ drw k := by cases k with
        | zero => exact Nat.le_refl _
        | succ k => show 3 ≤ 2 * drw k + 4; omega
      refine two_next (G := fun b z H' => 0 ≤ z ∧ z < 10 ∧ (b = false → z < 5) ∧ Dr H' d c (m + 1) ∧ But d H H') (fun hb kk => ⟨_, rfl, d, c, 10, _, rfl, hd, by omega, by decide, by decide, fun z1 H1 z10 z11 d1 b1 => kk _ _ ⟨z10, z11, (fun e => nomatch e), d1, b1⟩⟩)
        (fun hb kk => ⟨_, rfl, d, c, 5, _, rfl, hd, by omega, by decide, by decide, fun z1 H1 z10 z11 d1 b1 => kk _ _ ⟨z10, by omega, fun _ => z11, d1, b1⟩⟩) ?_
      rintro z H1 ⟨z0, z10, z5, d1, b1⟩
      obtain ⟨j, rfl⟩ := Int.eq_ofNat_of_zero_le z0
      have jn : ∀ i : Nat, decide (V.int ((j : Nat) : Int) = V.int ((i : Nat) : Int)) = decide (j = i) := fun i => decide_eq_decide.mpr ⟨fun e => by
        have := V.int.inj e
        omega, fun e => by rw [e]⟩
      refine ⟨_, rfl, rfl, _, rfl, ?_⟩
      rw [show decide (V.int ((j : Nat) : Int) = V.int 0) = decide (j = 0) from jn 0]
      refine ite2 (fun h1 => ?_) (fun h1 => ?_)
      · refine ⟨_, rfl, d, c, 2, _, rfl, d1, by omega, by decide, by decide, fun z2 H2 z20 z21 d2 b2 => ⟨rfl, by show 2 ≤ sizeLine; decide, fun p hp => ?_⟩⟩
        refine q p _ _ (.all _ upd_same) (fun x hx => ?_) ?_ (Nat.zero_le _) ((b1.trans b2).new hp) ((d2.keep (same_new hp)).mono (by omega))
        · have : x = opT (if decide (V.int z2 = V.int 0) then wAlways else wNever) := by simpa [Tr.lvs] using hx
          rw [this]
          exact gt_all _
        · exact sz_pos k
      · have h1' : j ≠ 0 := of_decide_eq_false (Bool.eq_false_iff.mpr h1)
        refine ⟨_, rfl, _, _, rfl, rfl, _, rfl, ite2 (fun h2 => ?_) (fun h2 => ?_)⟩
        · have h2' := of_decide_eq_true h2
          refine ⟨by show 5 ≤ sizeLine; decide, fun L hL => ⟨by show 2 ≤ sizeLine; decide, fun A1 hA => ⟨_, rfl, _, _, rfl, rfl, ?_⟩⟩⟩
          obtain ⟨f, hf, hfm⟩ := at_S (ws := [wSystem, wMachine]) (v := ((j : Nat) : Int) - 1) (by omega) (by show _ < (2 : Int); omega)
          rw [sm_v, nm5_v]
          have dB : ∀ B1, (upd (upd H1 L (.lst (names5.map fun l => V.str (S l)))) A1 (.lst (([wSystem, wMachine] : List Txt).map fun l => V.str (S l)))) B1 = none → Dr (upd (upd (upd H1 L (.lst (names5.map fun l => V.str (S l)))) A1 (.lst (([wSystem, wMachine] : List Txt).map fun l => V.str (S l)))) B1 (.lst (([[61, 61], [33, 61]] : List Txt).map fun l => V.str (S l)))) d c (m + 1) := fun B1 hB => ((d1.keep (same_new hL)).keep (same_new hA)).keep (same_new hB)
          refine ⟨A1, _, _, _, rfl, rfl, SqL.of upd_same, hf, by show 2 ≤ sizeLine; decide, fun B1 hB => ?_⟩
          rw [two_v]
          refine ⟨_, rfl, d, c, 2, m + 1, rfl, dB B1 hB, by omega, by decide, by decide, fun z2 H2 z20 z21 d2 b2 => ?_⟩
          have hb2 := lst_but upd_same (dB B1 hB) b2
          have hl2 := lst_but (((same_new hA).trans (same_new hB)) L _ upd_same) (dB B1 hB) b2
          obtain ⟨sg, hs, hsm⟩ := at_S (ws := [[61, 61], [33, 61]]) z20 (by exact z21)
          refine ⟨B1, _, _, _, rfl, rfl, SqL.of hb2, hs, _, rfl, _, rfl, d, c, 5, m + 2, rfl, d2, by omega, by decide, by decide, fun z3 H3 z30 z31 d3 b3 => ?_⟩
          obtain ⟨vv, hv, hvm⟩ := at_S (ws := names5) z30 (by exact z31)
          refine ⟨L, _, _, _, rfl, rfl, SqL.of (lst_but hl2 d2 b3), hv, by show 4 ≤ sizeLine; decide, fun p hp => ?_⟩
          have hff : f ∈ fieldL := by
            simp only [List.mem_cons, List.not_mem_nil, or_false] at hfm
            rcases hfm with rfl | rfl <;> decide
          refine q p _ _ (.is (v := .inl vv) upd_same hff) (fun x hx => ?_) (sz_pos k) (Nat.zero_le _) ((((((b1.new hL).new hA).new hB).trans b2).trans b3).new hp) ((d3.keep (same_new hp)).mono (by omega))
          have : x = ⟨f, sg, .inl vv⟩ := by simpa [Tr.lvs] using hx
          rw [this]
          exact gt_word hfm hsm hvm
        · have h2' := of_decide_eq_false (Bool.eq_false_iff.mpr h2)
          refine ⟨_, rfl, _, _, rfl, rfl, _, rfl, ite2 (fun h3 => ?_) (fun h3 => ?_)⟩
          · have h3' := of_decide_eq_true h3
            refine ⟨by show 6 ≤ sizeLine; decide, fun L hL => ?_⟩
            rw [lvs_v]
            refine ⟨_, rfl, _, rfl, d, c, 6, m + 1, rfl, d1.keep (same_new hL), by omega, by decide, by decide, fun z2 H2 z20 z21 d2 b2 => ?_⟩
            have hl2 := lst_but upd_same (d1.keep (same_new hL)) b2
            obtain ⟨sg, hs, hsm⟩ := at_S (ws := lvSigns) z20 (by exact z21)
            refine ⟨L, _, _, _, rfl, rfl, SqL.of hl2, hs, by show 7 ≤ sizeLine; decide, fun B1 hB => ?_⟩
            rw [lv7_v]
            refine ⟨_, rfl, d, c, 7, m + 2, rfl, d2.keep (same_new hB), by omega, by decide, by decide, fun z3 H3 z30 z31 d3 b3 => ?_⟩
            obtain ⟨nn, hn, hnm⟩ := at_N (ws := lev7) z30 (by exact z31)
            refine ⟨B1, _, _, _, rfl, rfl, SqL.of (lst_but upd_same (d2.keep (same_new hB)) b3), hn, by show 4 ≤ sizeLine; decide, fun p hp => ?_⟩
            rw [lev_t]
            refine q p _ _ (.is (f := wLevel) (v := .inr nn) upd_same (by decide)) (fun x hx => ?_) (sz_pos k) (Nat.zero_le _) (((((b1.new hL).trans b2).new hB).trans b3).new hp) ((d3.keep (same_new hp)).mono (by omega))
            have : x = ⟨wLevel, sg, .inr nn⟩ := by simpa [Tr.lvs] using hx
            rw [this]
            exact gt_lev hsm hnm
          · have h3' := of_decide_eq_false (Bool.eq_false_iff.mpr h3)
            cases k with
            | zero => exact absurd (z5 (by decide)) (by omega)
            | succ k =>
            have ek : (((k + 1 : Nat) : Int) - 1) = ((k : Nat) : Int) := by omega
            have ed : drw (k + 1) = 2 * drw k + 4 := rfl
            have es : szb (k + 1) = 2 * szb k + 1 := rfl
            refine ⟨_, rfl, _, _, rfl, rfl, _, rfl, ite2 (fun h4 => ?_) (fun h4 => ?_)⟩
            · refine ⟨_, rfl, _, rfl, _, _, rfl, rfl, d, c, k, m + 1, congrArg (fun x => [V.ref d, V.int x]) ek, by omega, d1, by omega, fun p1 t1 H2 ht1 hg1 hz1 he1 b2 d2 => ⟨by show 2 ≤ sizeLine; decide, fun p hp => ?_⟩⟩
              refine q p (.no t1) _ (.no upd_same (ht1.keep (tk_same (same_new hp)))) hg1 (by show t1.sz + 1 ≤ _; omega) (by show t1.dep + 1 ≤ _; omega) ((b1.trans b2).new hp) ((d2.keep (same_new hp)).mono (by omega))
            · have h4' := of_decide_eq_false (Bool.eq_false_iff.mpr h4)
              refine ⟨by show 3 ≤ sizeLine; decide, fun L hL => ?_⟩
              rw [aor_v]
              refine ⟨_, rfl, _, _, rfl, rfl, ?_⟩
              obtain ⟨i, ei, him⟩ := at_S (ws := [wAnd, wOr, wOr]) (v := ((j : Nat) : Int) - 7) (by omega) (by show _ < (3 : Int); omega)
              refine ⟨L, _, _, _, rfl, rfl, SqL.of upd_same, ei, ?_⟩
              refine ⟨_, rfl, _, rfl, _, _, rfl, rfl, d, c, k, m + 1, congrArg (fun x => [V.ref d, V.int x]) ek, by omega, d1.keep (same_new hL), by omega, fun p1 t1 H2 ht1 hg1 hz1 he1 b2 d2 => ?_⟩
              refine ⟨_, rfl, _, rfl, _, _, rfl, rfl, d, c, k, m + 1 + drw k, congrArg (fun x => [V.ref d, V.int x]) ek, by omega, d2, by omega, fun p2 t2 H3 ht2 hg2 hz2 he2 b3 d3 => ⟨by show 3 ≤ sizeLine; decide, fun p hp => ?_⟩⟩
              obtain ⟨o, rfl⟩ : ∃ o, i = wOp o := by
                simp only [List.mem_cons, List.not_mem_nil, or_false] at him
                rcases him with rfl | rfl | rfl
                · exact ⟨true, rfl⟩
                · exact ⟨false, rfl⟩
                · exact ⟨false, rfl⟩
              refine q p (.bi o t1 t2) _ (.bi upd_same ((ht1.keep (tk_but d2 b3)).keep (tk_same (same_new hp))) (ht2.keep (tk_same (same_new hp)))) (fun x hx => ?_) (by show t1.sz + t2.sz + 1 ≤ _; omega) (by show max t1.dep t2.dep + 1 ≤ _; omega) ((((b1.new hL).trans b2).trans b3).new hp) ((d3.keep (same_new hp)).mono (by omega))
              rcases List.mem_append.mp hx with hx | hx
              · exact hg1 x hx
              · exact hg2 x hx
end

/-! ## Markers: the law's texts -/
section
variable {P : Program} {w : World} {K : PySem.W.Frag} {mg : Str → Option Value} {base : Heap} {D : Ad}
open TL SX
theorem wr_len : ∀ (t : Tr), (∀ x ∈ t.lvs, Shw x) → t.wr.length ≤ 330 * t.sz
  | .lf x, h => by
    have := (h x (by simp [Tr.lvs])).len
    show (txTm x).length ≤ 330 * 1
    omega
  | .no t, h => by
    have := wr_len t h
    have := inP_len t.bd 3 t.wr
    show (wNot ++ [32] ++ inP t.bd 3 t.wr).length ≤ 330 * (t.sz + 1)
    simp only [List.length_append, List.length_cons, List.length_nil, show wNot.length = 3 from rfl]
    omega
  | .bi a t u, h => by
    have := wr_len t (fun x hx => h x (by simp [Tr.lvs, hx]))
    have := wr_len u (fun x hx => h x (by simp [Tr.lvs, hx]))
    have := inP_len t.bd (bo a) t.wr
    have := inP_len u.bd (bo a) u.wr
    have hw : (wOp a).length ≤ 3 := by cases a <;> decide
    show (inP t.bd (bo a) t.wr ++ [32] ++ wOp a ++ [32] ++ inP u.bd (bo a) u.wr).length ≤ 330 * (t.sz + u.sz + 1)
    simp only [List.length_append, List.length_cons, List.length_nil]
    omega
theorem ao_v : ([.str "and", .str "or"] : List V) = ([wAnd, wOr] : List Txt).map fun l => V.str (S l) := by decide +kernel
theorem Tre.head {H : Hp} {p : Addr} {t : Tr} (h : Tre H p t) : ∃ xs s, H p = some (.tup (.str (S s) :: xs)) ∧ decide (s ∈ ([wAnd, wOr] : List Txt)) = decide (t.bd < 3) ∧ decide (s = wOr) = decide (t.bd < 2) := by
  cases h with
  | all b h => exact ⟨_, [97, 108, 108], h, (by decide : decide (([97, 108, 108] : Txt) ∈ ([wAnd, wOr] : List Txt)) = decide (4 < 3)), (by decide : decide (([97, 108, 108] : Txt) = wOr) = decide (4 < 2))⟩
  | is h hf => exact ⟨_, [105, 115], h, (by decide : decide (([105, 115] : Txt) ∈ ([wAnd, wOr] : List Txt)) = decide (4 < 3)), (by decide : decide (([105, 115] : Txt) = wOr) = decide (4 < 2))⟩
  | no h r => exact ⟨_, wNot, h, (by decide : decide (wNot ∈ ([wAnd, wOr] : List Txt)) = decide (3 < 3)), (by decide : decide (wNot = wOr) = decide (3 < 2))⟩
  | @bi _ _ _ a _ _ h x y =>
    refine ⟨_, wOp a, h, ?_, ?_⟩
    · exact (by decide : ∀ a, decide (wOp a ∈ ([wAnd, wOr] : List Txt)) = decide (bo a < 3)) a
    · exact (by decide : ∀ a, decide (wOp a = wOr) = decide (bo a < 2)) a
theorem notp_t : (("not (" : String) : Str) = S (wNot ++ [32, 40]) := by decide +kernel
end

/-! ## Markers: the law's pieces -/
section
variable {P : Program} {w : World} {K : PySem.W.Frag} {mg : Str → Option Value} {base : Heap} {D : Ad}
open TL SX
theorem seq_mid {a rest : TS} {D : Ends} {σ : L2.St} {H : Hp} (M : L2.St → Hp → Prop) (hr : ∀ σ' H', M σ' H' → rest D σ' H') (h : ∀ N : L2.St → Hp → Prop, (∀ σ' H', M σ' H' → N σ' H') → a { D with nx := N } σ H) : tSeq a rest D σ H := h (rest D) hr
theorem nx_to {a : L2.St → Hp → Prop} {b : VK} {c d : L2.St → Hp → Prop} {σ : L2.St} {H : Hp} (h : a σ H) : (Ends.mk a b c d).nx σ H := h
theorem par_tok (ts : List Tm) : (opT [40] :: (ts ++ [opT [41]])).flatMap tkT = [40] :: (ts.flatMap tkT ++ [[41]]) := by
  rw [List.flatMap_cons, List.flatMap_append, (word_tk (x := [40]) (by decide)).2]
  simp only [List.flatMap_cons, List.flatMap_nil, (word_tk (x := [41]) (by decide)).2, List.append_nil]
  rfl
theorem par_v (T : List Txt) : [V.str (("(" : String) : Str)] ++ vT T ++ [V.str ((")" : String) : Str)] = vT ([40] :: (T ++ [[41]])) := by
  rw [opar_t, clo_t]
  simp [vT]
theorem bd_le (t : Tr) : t.bd ≤ 4 := by
  cases t with
  | lf _ => exact Nat.le_refl 4
  | no _ => exact (by decide : 3 ≤ 4)
  | bi a _ _ => exact (by decide : ∀ a, bo a ≤ 4) a
/-- the list at L holds a tree's tokens -/
def Pt (H : Hp) (L : Addr) (t : Tr) (e : Nat) : Prop := ∃ ts b, Pcs t b ts ∧ t.bd ≤ b ∧ (ts.flatMap tkT).length + e ≤ 7 * t.sz ∧ H L = some (.lst (vT (ts.flatMap tkT)))
theorem Pt.but {H H' : Hp} {L d c n : Addr} {t : Tr} {e : Nat} (h : Pt H L t e) (hd : Dr H d c n) (b : But d H H') : Pt H' L t e :=
  let ⟨ts, k, x, y, z, q⟩ := h; ⟨ts, k, x, y, z, lst_but q hd b⟩
theorem Pt.keep {H H' : Hp} {L : Addr} {t : Tr} {e : Nat} (h : Pt H L t e) (s : Same H H') : Pt H' L t e :=
  let ⟨ts, k, x, y, z, q⟩ := h; ⟨ts, k, x, y, z, s _ _ q⟩
/-- the same, as tight as asked, perhaps in brackets -/
def Pq (H : Hp) (L : Addr) (t : Tr) (k : Nat) : Prop := ∃ ts b, Pcs t b ts ∧ k ≤ b ∧ (ts.flatMap tkT).length ≤ 7 * t.sz + 2 ∧ H L = some (.lst (vT (ts.flatMap tkT)))
theorem Pq.keep {H H' : Hp} {L : Addr} {t : Tr} {e : Nat} (h : Pq H L t e) (s : Same H H') : Pq H' L t e :=
  let ⟨ts, k, x, y, z, q⟩ := h; ⟨ts, k, x, y, z, s _ _ q⟩
def spPc : Nat → Sp := fun n vs H Q _ => ∃ (d p c m : Nat) (t : Tr), vs = [.ref d, .ref p] ∧ Tre H p t ∧ t.dep < n ∧ t.sz ≤ 1000 ∧ (∀ x ∈ t.lvs, GT x) ∧ Dr H d c m ∧ m + t.sz ≤ 90000000000 ∧
  ∀ L H', Pt H' L t 0 → But d H H' → Dr H' d c (m + t.sz) → Q (.ref L) H'
theorem ok_pieces (T : TexW w K mg D) : ∀ n, FnOk P w K mg base CX0 (n + 3) D.a_pieces D.d_pieces P_pieces (spPc n) := by
  have G_next : FnOk P w K mg base CX0 2 D.a_next D.d_next P_next spNext := ok_next T
  intro n
  induction n with
  | zero => exact ⟨fun _ _ _ _ ⟨_, _, _, _, _, _, _, h, _⟩ => absurd h (Nat.not_lt_zero _), fun _ _ _ _ _ _ _ _ _ _ _ _ _ ⟨_, _, _, _, _, _, _, h, _⟩ => absurd h (Nat.not_lt_zero _)⟩
  | succ n G_pieces =>
    refine T.pieces_F.ok S_pieces (fun vs H Q E h => ?_) (fun cdv A outer s H vs Q E hr h => ?_)
    · obtain ⟨d, p, c, m, t, rfl, _⟩ := h
      rfl
    · obtain ⟨d, p, c, m, t, rfl, ht, hd, hz, hg, hD, hm, q⟩ := h
      refine ⟨_, (pss_cons (ps_if (pt_cmpR op_eq (pe_ix ix_tup (pv 1) pe_int (fun _ _ => rfl)) pe_str (nomark _)) (pss_one (ps_set (i := 2) S_pieces.nd rfl (Or.inl rfl) (pe_lst (pa_cons (pe_ifExp (pt_val (pe_ix ix_tup (pv 1) pe_int (fun _ _ => rfl))) pe_str pe_str) pa_nil)))) (pss_one (ps_if (pt_cmpR op_eq (pe_ix ix_tup (pv 1) pe_int (fun _ _ => rfl)) pe_str (nomark _)) (pss_one (ps_set (i := 2) S_pieces.nd rfl (Or.inl rfl) (pe_lst (pa_cons (pe_ix ix_tup (pv 1) pe_int (fun _ _ => rfl)) (pa_cons (pe_ix ix_tup (pv 1) pe_int (fun _ _ => rfl)) (pa_cons (pe_callTy (callR_or SkE.call_str_str call_str_int) (by rfl) T.b_str (by decide +kernel) (pa_cons (pe_ix ix_tup (pv 1) pe_int (fun _ _ => rfl)) pa_nil)) pa_nil)))))) (pss_one (ps_if (pt_cmpR op_eq (pe_ix ix_tup (pv 1) pe_int (fun _ _ => rfl)) pe_str (nomark _)) (pss_cons (ps_set (i := 3) S_pieces.nd rfl (Or.inl rfl) (pe_call G_pieces (hr.mono (by omega)) (by rfl) T.pieces_g T.pieces_F.kp T.pieces_b .nil pass0 (pa_cons (pv 0) (pa_cons (pe_ix ix_tup (pv 1) pe_int (fun _ _ => rfl)) pa_nil))))
      (pss_one (ps_set (i := 2) S_pieces.nd rfl (Or.inl rfl) (pe_op op_cat (pe_lst (pa_cons pe_str pa_nil)) (pe_ifExp (pt_cmpR op_in_seq (pe_ix ix_tup (pe_ix ix_tup (pv 1) pe_int (fun _ _ => rfl)) pe_int (fun _ _ => rfl)) (pe_tup (pa_cons pe_str (pa_cons pe_str pa_nil))) rfl) (pe_op op_cat (pe_op op_cat (pe_lst (pa_cons pe_str pa_nil)) (pv 3)) (pe_lst (pa_cons pe_str pa_nil))) (pv 3)))))) (pss_cons (ps_par (i := 4) (j := 5) (by rfl) S_pieces.nd rfl rfl (by decide) rfl rfl (pa_cons (pe_call G_pieces (hr.mono (by omega)) (by rfl) T.pieces_g T.pieces_F.kp T.pieces_b .nil pass0 (pa_cons (pv 0) (pa_cons (pe_ix ix_tup (pv 1) pe_int (fun _ _ => rfl)) pa_nil))) (pa_cons (pe_call G_pieces (hr.mono (by omega)) (by rfl) T.pieces_g T.pieces_F.kp T.pieces_b .nil pass0 (pa_cons (pv 0) (pa_cons (pe_ix ix_tup (pv 1) pe_int (fun _ _ => rfl)) pa_nil))) pa_nil)) (by rfl))
      (pss_cons (ps_set (i := 4) S_pieces.nd rfl (Or.inl rfl) (pe_ifExp (PW.pt (pw_and (pt_cmpR op_eq (pe_ix ix_tup (pv 1) pe_int (fun _ _ => rfl)) pe_str (nomark _)) (pw_and1 (pt_cmpR op_eq (pe_ix ix_tup (pe_ix ix_tup (pv 1) pe_int (fun _ _ => rfl)) pe_int (fun _ _ => rfl)) pe_str (nomark _))))) (pe_op op_cat (pe_op op_cat (pe_lst (pa_cons pe_str pa_nil)) (pv 4)) (pe_lst (pa_cons pe_str pa_nil))) (pv 4)))
      (pss_cons (ps_set (i := 5) S_pieces.nd rfl (Or.inl rfl) (pe_ifExp (PW.pt (pw_and (pt_cmpR op_eq (pe_ix ix_tup (pv 1) pe_int (fun _ _ => rfl)) pe_str (nomark _)) (pw_and1 (pt_cmpR op_eq (pe_ix ix_tup (pe_ix ix_tup (pv 1) pe_int (fun _ _ => rfl)) pe_int (fun _ _ => rfl)) pe_str (nomark _))))) (pe_op op_cat (pe_op op_cat (pe_lst (pa_cons pe_str pa_nil)) (pv 5)) (pe_lst (pa_cons pe_str pa_nil))) (pv 5)))
      (pss_one (ps_set (i := 2) S_pieces.nd rfl (Or.inl rfl) (pe_op op_cat (pe_op op_cat (pv 4) (pe_lst (pa_cons (pe_ix ix_tup (pv 1) pe_int (fun _ _ => rfl)) pa_nil))) (pv 5))))))))))))
      (pss_one (ps_ret (pe_ifExp (pt_cmpR op_eq (pe_call G_next (hr.mono (by omega)) (by rfl) T.next_g T.next_F.kp T.next_b .nil pass0 (pa_cons (pv 0) (pa_cons pe_int pa_nil))) pe_int (nomark _)) (pe_op op_cat (pe_op op_cat (pe_lst (pa_cons pe_str pa_nil)) (pv 2)) (pe_lst (pa_cons pe_str pa_nil))) (pv 2))))), ?_⟩
      have tp : 1 ≤ t.sz := by cases t <;> simp [Tr.sz]
      refine seq_mid (fun σ' H' => ∃ F o3 o4 o5, σ' = [some (.ref d), some (.ref p), some (.ref F), o3, o4, o5] ∧ Pt H' F t 2 ∧ But d H H' ∧ Dr H' d c (m + t.sz - 1)) ?_ ?_
      · rintro σ' H2 ⟨F, o3, o4, o5, rfl, ⟨ts, b, hp, hb, hlen, hF⟩, b2, d2⟩
        refine ⟨_, rfl, d, c, 5, _, rfl, d2, by omega, by decide, by decide, fun z H3 z0 z1 d3 b3 => ⟨rfl, _, rfl, ite2 (fun h1 => ?_) (fun h1 => ?_)⟩⟩
        · have hF3 := lst_but hF d2 b3
          refine ⟨by show 1 ≤ sizeLine; decide, fun l1 hl1 => ⟨_, rfl, l1, F, _, _, rfl, rfl, upd_same, (same_new hl1) _ _ hF3, ?_, fun l2 hl2 => ⟨by show 1 ≤ sizeLine; decide, fun l3 hl3 => ⟨l2, l3, _, _, rfl, rfl, (same_new hl3) _ _ upd_same, upd_same, ?_, fun l4 hl4 => ?_⟩⟩⟩⟩
          · rw [show (vT (ts.flatMap tkT)).length = (ts.flatMap tkT).length from List.length_map _]
            exact szL (by show 1 + _ ≤ _; omega)
          · rw [List.length_append, show (vT (ts.flatMap tkT)).length = (ts.flatMap tkT).length from List.length_map _]
            exact szL (by show 1 + _ + 1 ≤ _; omega)
          · refine q l4 _ ⟨_, 4, .par hp, bd_le t, by rw [par_tok]; simp only [List.length_cons, List.length_append, List.length_nil]; omega, by rw [par_tok, ← par_v]; exact upd_same⟩ (((((b2.trans b3).new hl1).new hl2).new hl3).new hl4) (((((d3.keep (same_new hl1)).keep (same_new hl2)).keep (same_new hl3)).keep (same_new hl4)).mono (by omega))
        · exact ⟨_, rfl, q F H3 ⟨ts, b, hp, hb, by omega, lst_but hF d2 b3⟩ (b2.trans b3) (d3.mono (by omega))⟩
      · intro N hN
        cases ht with
        | all b h =>
          refine ⟨_, rfl, p, _, _, _, rfl, rfl, sqT_of h, rfl, rfl, _, rfl, ?_⟩
          rw [show decide (V.str (("all" : String) : Str) = V.str (("all" : String) : Str)) = true by decide]
          refine iteT ⟨_, rfl, p, _, _, _, rfl, rfl, sqT_of h, rfl, _, rfl, ?_⟩
          have fin : ∀ (x : Txt), x = (if b then wAlways else wNever) → ([V.str (S x)].length ≤ sizeLine ∧ ∀ F, H F = none → N [some (.ref d), some (.ref p), some (.ref F), none, none, none] (upd H F (.lst [V.str (S x)]))) := by
            rintro x rfl
            refine ⟨by show 1 ≤ sizeLine; decide, fun F hF => hN _ _ ⟨F, _, _, _, rfl, ⟨[opT (if b then wAlways else wNever)], 4, .lf (gt_all b).op, Nat.le_refl _, ?_, ?_⟩, But.refl.new hF, (hD.keep (same_new hF)).mono (by omega)⟩⟩
            · cases b <;> exact (by decide : 1 + 2 ≤ 7 * 1)
            · cases b <;> exact upd_same
          cases b with
          | true =>
            refine iteT ?_
            rw [alw_t]
            exact fin wAlways rfl
          | false =>
            refine iteF ?_
            rw [show (("never" : String) : Str) = S wNever by decide +kernel]
            exact fin wNever rfl
        | @is _ f sg v h hf =>
          refine ⟨_, rfl, p, _, _, _, rfl, rfl, sqT_of h, rfl, rfl, _, rfl, ?_⟩
          rw [show decide (V.str (("is" : String) : Str) = V.str (("all" : String) : Str)) = false by decide +kernel]
          refine iteF ⟨_, rfl, p, _, _, _, rfl, rfl, sqT_of h, rfl, rfl, _, rfl, ?_⟩
          rw [show decide (V.str (("is" : String) : Str) = V.str (("is" : String) : Str)) = true by decide]
          have g := hg ⟨f, sg, v⟩ (by simp [Tr.lvs])
          have et : [(⟨f, sg, v⟩ : Tm)].flatMap tkT = [f, sg, txV v] := by
            have : tkT (⟨f, sg, v⟩ : Tm) = [f, sg, txV v] := if_pos hf
            simp [this]
          have fin : ∀ (x : Str), x = S (txV v) → ([V.str (S f), .str (S sg), .str x].length ≤ sizeLine ∧ ∀ F, H F = none → N [some (.ref d), some (.ref p), some (.ref F), none, none, none] (upd H F (.lst [V.str (S f), .str (S sg), .str x]))) := by
            rintro x rfl
            exact ⟨by show 3 ≤ sizeLine; decide, fun F hF => hN _ _ ⟨F, _, _, _, rfl, ⟨[⟨f, sg, v⟩], 4, .lf g.op, Nat.le_refl _, by rw [et]; exact (by decide : 3 + 2 ≤ 7 * 1), by rw [et]; exact upd_same⟩, But.refl.new hF, (hD.keep (same_new hF)).mono (by omega)⟩⟩
          refine iteT ⟨_, rfl, p, _, _, _, rfl, rfl, sqT_of h, rfl, _, rfl, p, _, _, _, rfl, rfl, sqT_of h, rfl, _, rfl, p, _, _, _, rfl, rfl, sqT_of h, rfl, ?_⟩
          cases v with
          | inl l => exact .inl ⟨_, rfl, fin _ rfl⟩
          | inr n =>
            have hn : n ≤ 1000 := g.sh.2.2.2 n rfl
            refine .inr ⟨_, rfl, log_num (by omega), ?_⟩
            exact fin _ (str_num n)
        | @no _ p1 t1 h r =>
          have hd1 : t1.dep + 1 < n + 1 := hd
          have hz1 : t1.sz + 1 ≤ 1000 := hz
          have hm1 : m + (t1.sz + 1) ≤ 90000000000 := hm
          refine ⟨_, rfl, p, _, _, _, rfl, rfl, sqT_of h, rfl, rfl, _, rfl, ?_⟩
          rw [show decide (V.str (("not" : String) : Str) = V.str (("all" : String) : Str)) = false by decide +kernel]
          refine iteF ⟨_, rfl, p, _, _, _, rfl, rfl, sqT_of h, rfl, rfl, _, rfl, ?_⟩
          rw [show decide (V.str (("not" : String) : Str) = V.str (("is" : String) : Str)) = false by decide +kernel]
          refine iteF ⟨_, rfl, p, _, _, _, rfl, rfl, sqT_of h, rfl, rfl, _, rfl, ?_⟩
          rw [show decide (V.str (("not" : String) : Str) = V.str (("not" : String) : Str)) = true by decide]
          refine iteT ⟨_, rfl, _, rfl, p, _, _, _, rfl, rfl, sqT_of h, rfl, d, p1, c, m, t1, rfl, r, by omega, by omega, hg, hD, by omega, fun L1 H1 hP b1 d1 => ?_⟩
          obtain ⟨ts, b, hp, hb, hlen, hL⟩ := hP
          obtain ⟨xs, hw, hx, ha, _⟩ := r.head
          have h1 := tk_but hD b1 _ _ h
          have hx1 := tk_but hD b1 _ _ hx
          have vl : (vT (ts.flatMap tkT)).length = (ts.flatMap tkT).length := List.length_map _
          refine ⟨by show 1 ≤ sizeLine; decide, fun l0 hl0 => ?_⟩
          have s0 := same_new (o := .lst [V.str (("not" : String) : Str)]) hl0
          refine ⟨_, rfl, p, _, _, _, rfl, rfl, sqT_of (s0 _ _ h1), rfl, p1, _, _, _, rfl, rfl, sqT_of (s0 _ _ hx1), (show atI (V.str (S hw) :: xs) ((0 : Nat) : Int) = some (V.str (S hw)) from atI_nat rfl), by show 2 ≤ sizeLine; decide, fun r2 hr2 => ⟨r2, _, rfl, .inr (sqT_of upd_same), rfl, rfl, _, rfl, ?_⟩⟩
          rw [ao_v, if_neg (by decide : ¬ (false = true)), inV_S, ha]
          have s2 := s0.trans (same_new (o := .tup (([wAnd, wOr] : List Txt).map fun l => V.str (S l))) hr2)
          have d2 := d1.keep s2
          have b2 : But d H _ := (b1.new hl0).new (o := .tup (([wAnd, wOr] : List Txt).map fun l => V.str (S l))) hr2
          have hL2 := s2 _ _ hL
          have h02 := (same_new (o := .tup (([wAnd, wOr] : List Txt).map fun l => V.str (S l))) hr2) l0 _ upd_same
          clear s2 s0 hl0
          revert d2 b2 hL2 h02
          generalize upd (upd H1 l0 (.lst [V.str (("not" : String) : Str)])) r2 (.tup (([wAnd, wOr] : List Txt).map fun l => V.str (S l))) = H2
          intro d2 b2 hL2 h02
          have nt : ∀ us : List Tm, (opT wNot :: us).flatMap tkT = wNot :: us.flatMap tkT := fun us => by
            rw [List.flatMap_cons, (word_tk (x := wNot) (by decide)).2]
            rfl
          refine ite2 (fun h4 => ?_) (fun h4 => ?_)
          · refine ⟨by show 1 ≤ sizeLine; decide, fun l1 hl1 => ⟨_, rfl, l1, L1, _, _, rfl, rfl, upd_same, (same_new hl1) _ _ hL2, by rw [vl]; exact szL (by show 1 + _ ≤ _; omega), fun l2 hl2 => ⟨by show 1 ≤ sizeLine; decide, fun l3 hl3 => ⟨l2, l3, _, _, rfl, rfl, (same_new hl3) _ _ upd_same, upd_same, by rw [List.length_append, vl]; exact szL (by show 1 + _ + 1 ≤ _; omega), fun l4 hl4 => ⟨l0, l4, [V.str (("not" : String) : Str)], _, rfl, rfl, ?_, upd_same, by rw [List.length_append, List.length_append, vl]; exact szL (by show 1 + (1 + _ + 1) ≤ _; omega), fun l5 hl5 => ?_⟩⟩⟩⟩⟩
            · exact ((((same_new hl1).trans (same_new hl2)).trans (same_new hl3)).trans (same_new hl4)) _ _ h02
            · refine hN _ _ ⟨l5, _, _, _, rfl, ⟨opT wNot :: (opT [40] :: (ts ++ [opT [41]])), 3, .no (.par hp) (by decide), Nat.le_refl _, ?_, ?_⟩, ((((b2.new hl1).new hl2).new hl3).new hl4).new hl5, (((((d2.keep (same_new hl1)).keep (same_new hl2)).keep (same_new hl3)).keep (same_new hl4)).keep (same_new hl5)).mono (by show _ ≤ m + (t1.sz + 1) - 1; omega)⟩
              · rw [nt, par_tok]
                simp only [List.length_cons, List.length_append, List.length_nil]
                show _ ≤ 7 * (t1.sz + 1)
                omega
              · rw [nt, par_tok, show vT (wNot :: [40] :: (ts.flatMap tkT ++ [[41]])) = [V.str (S wNot)] ++ vT ([40] :: (ts.flatMap tkT ++ [[41]])) from rfl, ← par_v, ← not_t]
                exact upd_same
          · have hb3 : ¬ t1.bd < 3 := of_decide_eq_false (Bool.eq_false_iff.mpr h4)
            refine ⟨_, rfl, l0, L1, _, _, rfl, rfl, h02, hL2, by rw [vl]; exact szL (by show 1 + _ ≤ _; omega), fun l5 hl5 => ?_⟩
            refine hN _ _ ⟨l5, _, _, _, rfl, ⟨opT wNot :: ts, 3, .no hp (by omega), Nat.le_refl _, ?_, ?_⟩, b2.new hl5, (d2.keep (same_new hl5)).mono (by show _ ≤ m + (t1.sz + 1) - 1; omega)⟩
            · rw [nt]
              simp only [List.length_cons]
              show _ ≤ 7 * (t1.sz + 1)
              omega
            · rw [nt, show vT (wNot :: ts.flatMap tkT) = [V.str (S wNot)] ++ vT (ts.flatMap tkT) from rfl, ← not_t]
              exact upd_same
        | @bi _ p1 p2 a t1 t2 h x y =>
          have hd1 : max t1.dep t2.dep + 1 < n + 1 := hd
          have hz1 : t1.sz + t2.sz + 1 ≤ 1000 := hz
          have hm1 : m + (t1.sz + t2.sz + 1) ≤ 90000000000 := hm
          have hg1 : ∀ x ∈ t1.lvs, GT x := fun x hx => hg x (by simp [Tr.lvs, hx])
          have hg2 : ∀ x ∈ t2.lvs, GT x := fun x hx => hg x (by simp [Tr.lvs, hx])
          have n1 : ∀ (a : Bool) (k : String), k ∈ ["all", "is", "not"] → decide (V.str (S (wOp a)) = V.str (Str.ofString k)) = false := by decide +kernel
          refine ⟨_, rfl, p, _, _, _, rfl, rfl, sqT_of h, rfl, rfl, _, rfl, ?_⟩
          rw [show decide (V.str (S (wOp a)) = V.str (("all" : String) : Str)) = false from n1 a "all" (by simp)]
          refine iteF ⟨_, rfl, p, _, _, _, rfl, rfl, sqT_of h, rfl, rfl, _, rfl, ?_⟩
          rw [show decide (V.str (S (wOp a)) = V.str (("is" : String) : Str)) = false from n1 a "is" (by simp)]
          refine iteF ⟨_, rfl, p, _, _, _, rfl, rfl, sqT_of h, rfl, rfl, _, rfl, ?_⟩
          rw [show decide (V.str (S (wOp a)) = V.str (("not" : String) : Str)) = false from n1 a "not" (by simp)]
          refine iteF ⟨_, rfl, _, rfl, p, _, _, _, rfl, rfl, sqT_of h, rfl, d, p1, c, m, t1, rfl, x, by omega, by omega, hg1, hD, by omega, fun L1 H1 hP1 b1 d1 => ?_⟩
          have k1 := tk_but hD b1
          refine ⟨_, rfl, _, rfl, p, _, _, _, rfl, rfl, sqT_of (k1 _ _ h), rfl, d, p2, c, m + t1.sz, t2, rfl, y.keep k1, by omega, by omega, hg2, d1, by omega, fun L2 H2 hP2 b2' hd2 => ⟨_, _, rfl, ?_⟩⟩
          have hT : TK H H2 := k1.trans (tk_but d1 b2')
          have hb2 := b1.trans b2'
          have hP1 := hP1.but d1 b2'
          clear b1 b2' d1 k1
          refine nx_to ?_
          refine seq_mid (fun σ' H' => ∃ K1, σ' = [some (V.ref d), some (.ref p), none, none, some (.ref K1), some (.ref L2)] ∧ Pq H' K1 t1 (bo a) ∧ But d H H' ∧ Dr H' d c (m + t1.sz + t2.sz) ∧ TK H H' ∧ Pt H' L2 t2 0) ?_ ?_
          · rintro σ' H2 ⟨K1, rfl, hQ1, hb2, hd2, hT, hP2⟩
            refine seq_mid (fun σ' H' => ∃ K2, σ' = [some (V.ref d), some (.ref p), none, none, some (.ref K1), some (.ref K2)] ∧ Pq H' K2 t2 (bo a) ∧ But d H H' ∧ Dr H' d c (m + t1.sz + t2.sz) ∧ TK H H' ∧ Pq H' K1 t1 (bo a)) ?_ ?_
            · rintro σ' H2 ⟨K2, rfl, ⟨us, b', hp', hb', hl', hK2⟩, hb2, hd2, hT, ⟨ts, b, hp, hb, hl, hK1⟩⟩
              have vl : (vT (ts.flatMap tkT)).length = (ts.flatMap tkT).length := List.length_map _
              have vl' : (vT (us.flatMap tkT)).length = (us.flatMap tkT).length := List.length_map _
              refine ⟨_, rfl, _, rfl, p, _, _, _, rfl, rfl, sqT_of (hT _ _ h), rfl, by show 1 ≤ sizeLine; decide, fun l1 hl1 => ⟨K1, l1, _, _, rfl, rfl, (same_new hl1) _ _ hK1, upd_same, by rw [vl]; exact szL (by show _ + 1 ≤ _; omega), fun l2 hl2 => ⟨_, rfl, l2, K2, _, _, rfl, rfl, upd_same, ((same_new hl1).trans (same_new hl2)) _ _ hK2, by rw [List.length_append, vl, vl']; exact szL (by show _ + 1 + _ ≤ _; omega), fun l3 hl3 => ?_⟩⟩⟩
              refine hN _ _ ⟨l3, _, _, _, rfl, ⟨ts ++ opT (wOp a) :: us, bo a, .bi hp hp' hb hb', Nat.le_refl _, ?_, ?_⟩, ((hb2.new hl1).new hl2).new hl3, (((hd2.keep (same_new hl1)).keep (same_new hl2)).keep (same_new hl3)).mono (by show _ ≤ m + (t1.sz + t2.sz + 1) - 1; omega)⟩
              · rw [List.flatMap_append, List.flatMap_cons, (word_tk (op_mem a)).2]
                simp only [List.length_append, List.length_cons, List.length_nil]
                show _ ≤ 7 * (t1.sz + t2.sz + 1)
                omega
              · rw [List.flatMap_append, List.flatMap_cons, (word_tk (op_mem a)).2, show vT (ts.flatMap tkT ++ ([wOp a] ++ us.flatMap tkT)) = vT (ts.flatMap tkT) ++ [V.str (S (wOp a))] ++ vT (us.flatMap tkT) by simp [vT]]
                exact upd_same
            · rintro N2 hN2
              obtain ⟨xs, hw, hx, _, hb⟩ := y.head
              obtain ⟨ts, b, hp, hbb, hlen, hL⟩ := hP2
              have vl : (vT (ts.flatMap tkT)).length = (ts.flatMap tkT).length := List.length_map _
              refine ⟨_, rfl, p, _, _, _, rfl, rfl, sqT_of (hT _ _ h), rfl, rfl, _, rfl, ?_⟩
              rw [and_t, eq_S]
              have keep : (bo a ≤ b) → N2 _ _ := fun hk => hN2 _ _ ⟨L2, rfl, ⟨ts, b, hp, hk, by omega, hL⟩, hb2, hd2, hT, hQ1⟩
              cases a with
              | false =>
                rw [show decide (wOp false = wAnd) = false by decide]
                exact iteF ⟨_, rfl, keep hp.pos⟩
              | true =>
                rw [show decide (wOp true = wAnd) = true by decide]
                refine iteT ⟨_, rfl, p, _, _, _, rfl, rfl, sqT_of (hT _ _ h), rfl, p2, _, _, _, rfl, rfl, sqT_of (hT _ _ hx), (show atI (V.str (S hw) :: xs) ((0 : Nat) : Int) = some (V.str (S hw)) from atI_nat rfl), rfl, _, rfl, ?_⟩
                rw [or_t, eq_S, hb]
                refine ite2 (fun h6 => ?_) (fun h6 => ?_)
                · refine ⟨by show 1 ≤ sizeLine; decide, fun l1 hl1 => ⟨_, rfl, l1, L2, _, _, rfl, rfl, upd_same, (same_new hl1) _ _ hL, by rw [vl]; exact szL (by show 1 + _ ≤ _; omega), fun l2 hl2 => ⟨by show 1 ≤ sizeLine; decide, fun l3 hl3 => ⟨l2, l3, _, _, rfl, rfl, (same_new hl3) _ _ upd_same, upd_same, by rw [List.length_append, vl]; exact szL (by show 1 + _ + 1 ≤ _; omega), fun l4 hl4 => ?_⟩⟩⟩⟩
                  have s4 := (((same_new (o := .lst [V.str (("(" : String) : Str)]) hl1).trans (same_new hl2)).trans (same_new hl3)).trans (same_new (o := .lst ([V.str (("(" : String) : Str)] ++ vT (ts.flatMap tkT) ++ [V.str ((")" : String) : Str)])) hl4)
                  refine hN2 _ _ ⟨l4, rfl, ⟨_, 4, .par hp, (by decide : 2 ≤ 4), by rw [par_tok]; simp only [List.length_cons, List.length_append, List.length_nil]; omega, by rw [par_tok, ← par_v]; exact upd_same⟩, (((hb2.new hl1).new hl2).new hl3).new hl4, hd2.keep s4, hT.trans (tk_same s4), hQ1.keep s4⟩
                · have : ¬ t2.bd < 2 := of_decide_eq_false (Bool.eq_false_iff.mpr h6)
                  exact ⟨_, rfl, keep (by show 2 ≤ b; omega)⟩
          · rintro N2 hN2
            obtain ⟨xs, hw, hx, _, hb⟩ := x.head
            obtain ⟨ts, b, hp, hbb, hlen, hL⟩ := hP1
            have vl : (vT (ts.flatMap tkT)).length = (ts.flatMap tkT).length := List.length_map _
            refine ⟨_, rfl, p, _, _, _, rfl, rfl, sqT_of (hT _ _ h), rfl, rfl, _, rfl, ?_⟩
            rw [and_t, eq_S]
            have keep : (bo a ≤ b) → N2 _ _ := fun hk => hN2 _ _ ⟨L1, rfl, ⟨ts, b, hp, hk, by omega, hL⟩, hb2, hd2, hT, hP2⟩
            cases a with
            | false =>
              rw [show decide (wOp false = wAnd) = false by decide]
              exact iteF ⟨_, rfl, keep hp.pos⟩
            | true =>
              rw [show decide (wOp true = wAnd) = true by decide]
              refine iteT ⟨_, rfl, p, _, _, _, rfl, rfl, sqT_of (hT _ _ h), rfl, p1, _, _, _, rfl, rfl, sqT_of (hT _ _ hx), (show atI (V.str (S hw) :: xs) ((0 : Nat) : Int) = some (V.str (S hw)) from atI_nat rfl), rfl, _, rfl, ?_⟩
              rw [or_t, eq_S, hb]
              refine ite2 (fun h6 => ?_) (fun h6 => ?_)
              · refine ⟨by show 1 ≤ sizeLine; decide, fun l1 hl1 => ⟨_, rfl, l1, L1, _, _, rfl, rfl, upd_same, (same_new hl1) _ _ hL, by rw [vl]; exact szL (by show 1 + _ ≤ _; omega), fun l2 hl2 => ⟨by show 1 ≤ sizeLine; decide, fun l3 hl3 => ⟨l2, l3, _, _, rfl, rfl, (same_new hl3) _ _ upd_same, upd_same, by rw [List.length_append, vl]; exact szL (by show 1 + _ + 1 ≤ _; omega), fun l4 hl4 => ?_⟩⟩⟩⟩
                have s4 := (((same_new (o := .lst [V.str (("(" : String) : Str)]) hl1).trans (same_new hl2)).trans (same_new hl3)).trans (same_new (o := .lst ([V.str (("(" : String) : Str)] ++ vT (ts.flatMap tkT) ++ [V.str ((")" : String) : Str)])) hl4)
                refine hN2 _ _ ⟨l4, rfl, ⟨_, 4, .par hp, (by decide : 2 ≤ 4), by rw [par_tok]; simp only [List.length_cons, List.length_append, List.length_nil]; omega, by rw [par_tok, ← par_v]; exact upd_same⟩, (((hb2.new hl1).new hl2).new hl3).new hl4, hd2.keep s4, hT.trans (tk_same s4), hP2.keep s4⟩
              · have : ¬ t1.bd < 2 := of_decide_eq_false (Bool.eq_false_iff.mpr h6)
                exact ⟨_, rfl, keep (by show 2 ≤ b; omega)⟩
end

/-! ## Markers: tokens laid loosely -/
section
open TL SX PySem.Spec PyProof.Rows
def rMulS3 : R2 := fun x y H Q => ∃ (l : List Nat) (n : Nat), x = .str (S l) ∧ y = .int (n : Int) ∧ l ≠ [] ∧ l.length * n ≤ 100000 ∧ Q (.str (S (List.replicate n l).flatten)) H
theorem op_mulS3 {X : Cx} : OpR X (binaryOp .Mult) rMulS3 := by
  intro pins s σ H x y v u Q I rx ry h
  obtain ⟨l, n, rfl, rfl, hne, hz, q⟩ := h
  match n, hz, ry, q with
  | 0, _, ry, q =>
    obtain ⟨t, rfl⟩ := rx
    obtain ⟨t', rfl⟩ := ry
    exact PySem.P.mul_str_none (by decide) (by decide) ⟨.str (S []), H, I.tok _, ⟨_, rfl⟩, q⟩
  | 1, hz, ry, q =>
    obtain ⟨t, rfl⟩ := rx
    obtain ⟨t', rfl⟩ := ry
    refine PySem.P.mul_str (x := S l) (n := ((1 : Nat) : Int)) (by decide) (fun _ e => absurd e (by simp)) (fun _ e => absurd e (by simp)) ?_
    rw [if_neg (by decide), if_pos (by simp)]
    have e : (List.replicate 1 l).flatten = l := by simp
    rw [e] at q
    exact ⟨.str (S l), H, I, ⟨t, rfl⟩, q⟩
  | n + 2, hz, ry, q => exact op_mulS pins s σ H _ _ v u Q I rx ry ⟨l, n + 2, rfl, rfl, hne, by omega, hz, q⟩
theorem reps (n : Nat) : (List.replicate n ([32] : List Nat)).flatten = List.replicate n 32 := by
  induction n with
  | zero => rfl
  | succ n ih => rw [List.replicate_succ, List.flatten_cons, ih]; rfl
end
section
variable {P : Program} {w : World} {K : PySem.W.Frag} {mg : Str → Option Value} {base : Heap} {D : Ad}
open TL SX
theorem brk_t : (("()<>=!" : String) : Str).cps.toList = [40, 41, 60, 62, 61, 33] := by decide +kernel
theorem brks_t : ((" ()<>=!" : String) : Str).cps.toList = [32, 40, 41, 60, 62, 61, 33] := by decide +kernel
theorem lay_snoc (ps : List (Nat × Txt)) (g : Nat) (x : Txt) : lay (ps ++ [(g, x)]) = lay ps ++ List.replicate g 32 ++ x := by simp [lay]
theorem lo_ne {ps : List (Nat × Txt)} (h : Lo ps) : ∃ qs g x, ps = qs ++ [(g, x)] := by
  cases h with
  | one => exact ⟨[], 0, _, rfl⟩
  | snoc h k => exact ⟨_, _, _, rfl⟩
end

/-! ## Any tokens as a text -/
section
variable {P : Program} {w : World} {K : PySem.W.Frag} {mg : Str → Option Value} {base : Heap} {D : Ad}
open TL SX
def Asc (l : Txt) : Prop := ∀ c ∈ l, c < 128
theorem Asc.app {a b : Txt} (h : Asc a) (k : Asc b) : Asc (a ++ b) := fun c hc => (List.mem_append.mp hc).elim (h c) (k c)
theorem Asc.sp (n : Nat) : Asc (List.replicate n 32) := fun c hc => by rw [(List.mem_replicate.mp hc).2]; decide
def spLoA : Sp := fun vs H Q _ => ∃ (d l c m : Nat) (T : List Txt), vs = [.ref d, .ref l] ∧ H l = some (.lst (vT T)) ∧ T.length ≤ 7000 ∧ (∀ x ∈ T, x ≠ [] ∧ x.length ≤ 100 ∧ Asc x) ∧ Dr H d c m ∧ m + T.length ≤ 90000000000 ∧
  ∀ y H', Asc y → y.length ≤ 2 * T.length + (T.map List.length).sum → But d H H' → Dr H' d c (m + T.length) → Q (.str (S y)) H'
theorem ok_loose (T : TexW w K mg D) : FnOk P w K mg base CX0 3 D.a_loose D.d_loose P_loose spLoA := by
  have G_next : FnOk P w K mg base CX0 2 D.a_next D.d_next P_next spNext := ok_next T
  refine T.loose_F.ok S_loose (fun vs H Q E h => ?_) (fun cdv A outer s H vs Q E hr h => ?_)
  · obtain ⟨d, l, c, m, T, rfl, _⟩ := h
    rfl
  · obtain ⟨d, l, c, m, ws, rfl, hL, hl, hw, hD, hm, q⟩ := h
    refine ⟨_, (pss_cons (ps_set (i := 2) S_loose.nd rfl (Or.inl rfl) pe_str)
      (pss_cons (ps_for PassesOwn.never rfl (pi_list (pv 1)) (pg_name (i := 3) S_loose.nd rfl (Or.inl rfl)) (pss_cons (ps_set (i := 4) S_loose.nd rfl (Or.inl rfl) (pe_and (pe_cmpR op_ne (pv 2) pe_str (nomark _)) (pe_and (pe_cmpR op_notIn_sign (pe_ix ix_str (pv 2) (pe_un un_neg pe_int) (fun _ _ => rfl)) pe_str rfl) (pe_one (pe_cmpR op_notIn_sign (pe_ix ix_str (pv 3) pe_int (fun _ _ => rfl)) pe_str rfl)))))
      (pss_cons (ps_set (i := 5) S_loose.nd rfl (Or.inl rfl) (pe_ifExp (pt_val (pv 4)) (pe_op op_add pe_int (pe_call G_next (hr.mono (by decide)) (by rfl) T.next_g T.next_F.kp T.next_b .nil pass0 (pa_cons (pv 0) (pa_cons pe_int pa_nil)))) (pe_call G_next (hr.mono (by decide)) (by rfl) T.next_g T.next_F.kp T.next_b .nil pass0 (pa_cons (pv 0) (pa_cons pe_int pa_nil)))))
      (pss_one (ps_set (i := 2) S_loose.nd rfl (Or.inl rfl) (pe_op op_add_str (pe_op op_add_str (pv 2) (pe_op op_mulS3 pe_str (pe_ifExp (pt_cmpR op_ne (pv 2) pe_str (nomark _)) (pv 5) pe_int))) (pv 3)))))))
      (pss_one (ps_ret (pv 2))))), ?_⟩
    have hsum : ∀ i, i ≤ ws.length → ((ws.take i).map List.length).sum ≤ 100 * i := fun i hi => by
      have : ∀ (ls : List Txt), (∀ x ∈ ls, x.length ≤ 100) → (ls.map List.length).sum ≤ 100 * ls.length := by
        intro ls
        induction ls with
        | nil => intro _; exact Nat.le_refl _
        | cons x r ih =>
          intro h
          have h1 := h x (by simp)
          have h2 := ih fun y hy => h y (List.mem_cons_of_mem _ hy)
          simp only [List.map_cons, List.sum_cons, List.length_cons]
          omega
      have h := this (ws.take i) fun x hx => (hw x (List.mem_of_mem_take hx)).2.1
      rw [List.length_take] at h
      omega
    refine ⟨_, rfl, l, rfl, ⟨_, SqL.of hL⟩, for_list (K := K) (a := l) (xs := vT ws) (fun i σ H' => ∃ y o3 o4 o5, σ = [some (.ref d), some (.ref l), some (.str (S y)), o3, o4, o5] ∧ Asc y ∧ y.length ≤ 2 * i + ((ws.take i).map List.length).sum ∧ But d H H' ∧ Dr H' d c (m + i) ∧ H' l = some (.lst (vT ws))) ⟨[], none, none, none, ?_, (fun c hc => by cases hc), Nat.zero_le _, But.refl, hD, hL⟩ (fun i σ H' _ h => by
      obtain ⟨_, _, _, _, _, _, _, _, _, h7⟩ := h
      exact SqL.of h7) ?_ ?_⟩
    · rw [emp_t]
      rfl
    · rintro i v σ H1 hi ⟨y, o3, o4, o5, rfl, hy, hlen, b1, d1, h1l⟩
      obtain ⟨x, hx, rfl⟩ : ∃ x, ws[i]? = some x ∧ v = V.str (S x) := by
        unfold vT at hi
        rw [List.getElem?_map] at hi
        cases e : ws[i]? with
        | none =>
          rw [e] at hi
          cases hi
        | some p =>
          rw [e] at hi
          exact ⟨p, rfl, (Option.some.inj hi).symm⟩
      obtain ⟨hxt, hxl, hxa⟩ := hw x (List.mem_of_getElem? hx)
      have hiw : i < ws.length := (List.getElem?_eq_some_iff.mp hx).1
      have hil : i < 7000 := by omega
      have hs1 := hsum i (by omega)
      have es1 : ((ws.take (i + 1)).map List.length).sum = ((ws.take i).map List.length).sum + x.length := by
        rw [one_more hx, List.map_append, List.sum_append]
        rfl
      have big : ∀ n : Nat, n ≤ 1000000 → n ≤ sizeLine := fun n h => Nat.le_trans h (by decide)
      have e0 : ∀ y : List Nat, (!decide (V.str (S y) = V.str (("" : String) : Str))) = !decide (y = []) := fun y => by rw [emp_t, eq_S]
      by_cases hy0 : y = []
      · subst hy0
        refine ⟨_, rfl, rfl, _, rfl, ?_⟩
        rw [e0, show (!decide (([] : List Nat) = [])) = false from rfl]
        refine iteF ⟨_, rfl, _, rfl, iteF ⟨_, rfl, d, c, 3, _, rfl, d1, by omega, by decide, by decide, fun z H2 z0 z1 d2 b2 => ?_⟩⟩
        refine ⟨_, rfl, _, rfl, rfl, _, rfl, ?_⟩
        rw [e0, show (!decide (([] : List Nat) = [])) = false from rfl]
        refine iteF ?_
        refine ⟨[32], 0, congrArg V.str spc, rfl, by simp, by decide, ?_⟩
        refine ⟨_, _, rfl, rfl, by decide +kernel, _, rfl, _, _, rfl, rfl, by rw [reps, S_cat, S_len, S_len]; exact big _ (by simp; omega), ?_⟩
        rw [reps, S_cat, S_cat]
        exact ⟨_, _, _, _, rfl, (Asc.app (fun c hc => by cases hc) (Asc.sp 0)).app hxa, by rw [es1]; simp only [List.length_append, List.length_replicate, List.length_nil]; omega, b1.trans b2, d2, lst_but h1l d1 b2⟩
      · obtain ⟨a0, r0, ew⟩ : ∃ a0 r0, y = r0 ++ [a0] := ⟨_, _, (List.dropLast_concat_getLast hy0).symm⟩
        obtain ⟨b0, s0, ex⟩ := List.exists_cons_of_ne_nil hxt
        refine ⟨_, rfl, rfl, _, rfl, ?_⟩
        rw [e0, show (!decide (y = [])) = true by simp [hy0]]
        have hsl : (S y).length ≤ sizeLine := by rw [S_len]; exact big _ (by omega)
        have hx0 : x.head? = some b0 := by rw [ex]; rfl
        have fin : ∀ (zn : Nat) (o3 o4 o5 : Option V) (H2 : Hp), zn ≤ 2 → But d H1 H2 → Dr H2 d c (m + (i + 1)) → ∃ y' o3' o4' o5', [some (V.ref d), some (V.ref l), some (V.str (S (y ++ List.replicate zn 32 ++ x))), o3, o4, o5] = [some (.ref d), some (.ref l), some (.str (S y')), o3', o4', o5'] ∧ Asc y' ∧ y'.length ≤ 2 * (i + 1) + ((ws.take (i + 1)).map List.length).sum ∧ But d H H2 ∧ Dr H2 d c (m + (i + 1)) ∧ H2 l = some (.lst (vT ws)) :=
          fun zn o3 o4 o5 H2 hz b2 d2 => ⟨_, _, _, _, rfl, (hy.app (Asc.sp zn)).app hxa, by rw [es1]; simp only [List.length_append, List.length_replicate]; omega, b1.trans b2, d2, lst_but h1l d1 b2⟩
        refine iteT ⟨_, rfl, 1, rfl, S y, -1, a0, rfl, rfl, hsl, ?_, a0, _, rfl, rfl, _, rfl, ?_⟩
        · rw [ew]
          exact atI_last _ _
        · generalize (!decide (a0 ∈ (((" ()<>=!" : String) : Str)).cps.toList)) = ba
          cases ba with
          | false =>
            refine iteF ?_
            refine ⟨_, rfl, _, rfl, iteF ⟨_, rfl, d, c, 3, _, rfl, d1, by omega, by decide, by decide, fun z H2 z0 z1 d2 b2 => ?_⟩⟩
            obtain ⟨zn, rfl⟩ := Int.eq_ofNat_of_zero_le z0
            refine ⟨_, rfl, _, rfl, rfl, _, rfl, ?_⟩
            rw [e0, show (!decide (y = [])) = true by simp [hy0]]
            refine iteT ⟨_, rfl, [32], zn, congrArg V.str spc, rfl, by simp, by simp; omega, ?_⟩
            refine ⟨_, _, rfl, rfl, by rw [reps, S_len, S_len]; exact big _ (by simp; omega), _, rfl, _, _, rfl, rfl, by rw [reps, S_cat, S_len, S_len]; exact big _ (by simp; omega), ?_⟩
            rw [reps, S_cat, S_cat]
            exact fin zn _ _ _ _ (by omega) b2 d2
          | true =>
            refine iteT ⟨_, rfl, S x, 0, b0, rfl, rfl, by rw [S_len]; exact big _ (by omega), (show atI x ((0 : Nat) : Int) = some b0 from atI_nat (by rw [← List.head?_eq_getElem?]; exact hx0)), b0, _, rfl, rfl, ?_⟩
            generalize (!decide (b0 ∈ ((("()<>=!" : String) : Str)).cps.toList)) = bb
            cases bb with
            | false =>
              refine ⟨_, rfl, _, rfl, iteF ⟨_, rfl, d, c, 3, _, rfl, d1, by omega, by decide, by decide, fun z H2 z0 z1 d2 b2 => ?_⟩⟩
              obtain ⟨zn, rfl⟩ := Int.eq_ofNat_of_zero_le z0
              refine ⟨_, rfl, _, rfl, rfl, _, rfl, ?_⟩
              rw [e0, show (!decide (y = [])) = true by simp [hy0]]
              refine iteT ⟨_, rfl, [32], zn, congrArg V.str spc, rfl, by simp, by simp; omega, ?_⟩
              refine ⟨_, _, rfl, rfl, by rw [reps, S_len, S_len]; exact big _ (by simp; omega), _, rfl, _, _, rfl, rfl, by rw [reps, S_cat, S_len, S_len]; exact big _ (by simp; omega), ?_⟩
              rw [reps, S_cat, S_cat]
              exact fin zn _ _ _ _ (by omega) b2 d2
            | true =>
              refine ⟨_, rfl, _, rfl, iteT ⟨_, rfl, d, c, 2, _, rfl, d1, by omega, by decide, by decide, fun z H2 z0 z1 d2 b2 => ⟨_, _, rfl, rfl, ?_⟩⟩⟩
              obtain ⟨zn, rfl⟩ := Int.eq_ofNat_of_zero_le z0
              refine ⟨_, rfl, _, rfl, rfl, _, rfl, ?_⟩
              rw [e0, show (!decide (y = [])) = true by simp [hy0]]
              refine iteT ⟨_, rfl, [32], (1 + zn), congrArg V.str spc, congrArg V.int (by omega), by simp, by simp; omega, ?_⟩
              refine ⟨_, _, rfl, rfl, by rw [reps, S_len, S_len]; exact big _ (by simp; omega), _, rfl, _, _, rfl, rfl, by rw [reps, S_cat, S_len, S_len]; exact big _ (by simp; omega), ?_⟩
              rw [reps, S_cat, S_cat]
              exact fin (1 + zn) _ _ _ _ (by omega) b2 d2
    · rintro σ H1 ⟨y, o3, o4, o5, rfl, hy, hlen, b1, d1, h1l⟩
      have e : (vT ws).length = ws.length := List.length_map _
      rw [e] at hlen d1
      rw [List.take_length] at hlen
      exact ⟨_, rfl, q y H1 hy hlen b1 d1⟩
end

/-! ## Refused markers: mathematics of the law's own reading -/
section
open TL SX
def wE : Txt := [69]
def symT (t : Tm) : Txt := if t.w ∈ operL then wE else t.w
/-! ### a row of signs: how deep, and whether something is wanted -/
abbrev Au := Nat × Bool
def auS (a : Au) (x : Txt) : Option Au :=
  if a.2 = true then (if x = [40] then some (a.1 + 1, true) else if x = wNot then some a else if x = wE then some (a.1, false) else none)
  else if x = wAnd ∨ x = wOr then some (a.1, true)
  else if x = [41] then (if a.1 = 0 then none else some (a.1 - 1, false)) else none
def auR : Au → List Txt → Option Au
  | a, [] => some a
  | a, x :: xs => (auS a x).bind fun b => auR b xs
theorem auR_app : ∀ (xs ys : List Txt) (a : Au), auR a (xs ++ ys) = (auR a xs).bind fun b => auR b ys
  | [], _, _ => rfl
  | x :: xs, ys, a => by
    show (auS a x).bind _ = ((auS a x).bind _).bind _
    cases auS a x with
    | none => rfl
    | some b => exact auR_app xs ys b
def accA (xs : List Txt) : Bool := decide (auR (0, true) xs = some (0, false))
/-! ### the rows that are replaced -/
def redR : List (List Txt) := [[wNot, wE], [[40], wE, [41]], [wE, wAnd, wE], [wE, wOr, wE]]
theorem red_au {r : List Txt} (h : r ∈ redR) (a : Au) : auR a r = auR a [wE] := by
  obtain ⟨d, b⟩ := a
  simp only [redR, List.mem_cons, List.not_mem_nil, or_false] at h
  rcases h with rfl | rfl | rfl | rfl <;> cases b <;> simp [auR, auS, wE, wNot, wAnd, wOr]
theorem red_acc {A B r : List Txt} (h : r ∈ redR) : accA (A ++ r ++ B) = accA (A ++ [wE] ++ B) := by
  unfold accA
  rw [auR_app, auR_app, auR_app, auR_app]
  congr 2
  cases auR (0, true) A with
  | none => rfl
  | some a =>
    show (auR a r).bind _ = (auR a [wE]).bind _
    rw [red_au h]
def HasRed (xs : List Txt) : Prop := ∃ A r B, r ∈ redR ∧ xs = A ++ r ++ B
theorem HasRed.cons {xs : List Txt} (x : Txt) (h : HasRed xs) : HasRed (x :: xs) := by
  obtain ⟨A, r, B, hr, rfl⟩ := h
  exact ⟨x :: A, r, B, hr, rfl⟩
theorem au_red : ∀ (n : Nat) (xs : List Txt) (d : Nat), xs.length ≤ n → auR (d, true) xs = some (0, false) →
    HasRed xs ∨ ∃ ys, xs = wE :: ys ∧ (ys = [] ∨ ∃ zs, ys = [41] :: zs)
  | _, [], d, _, h => by simp [auR] at h
  | 0, x :: xs, _, hn, _ => by simp at hn
  | n + 1, x :: xs, d, hn, h => by
    have hn' : xs.length ≤ n := by simpa using hn
    have e : auR (d, true) (x :: xs) = (auS (d, true) x).bind fun b => auR b xs := rfl
    rw [e] at h
    unfold auS at h
    rw [if_pos rfl] at h
    by_cases h1 : x = [40]
    · rw [if_pos h1] at h
      have h : auR (d + 1, true) xs = some (0, false) := h
      rcases au_red n xs (d + 1) hn' h with k | ⟨ys, rfl, k⟩
      · exact .inl (k.cons x)
      · rcases k with rfl | ⟨zs, rfl⟩
        · have : auR (d + 1, true) [wE] = some (d + 1, false) := by simp [auR, auS, wE, wNot]
          rw [this] at h
          simp at h
        · exact .inl ⟨[], [[40], wE, [41]], zs, by simp [redR], by rw [h1]; rfl⟩
    · rw [if_neg h1] at h
      by_cases h2 : x = wNot
      · rw [if_pos h2] at h
        have h : auR (d, true) xs = some (0, false) := h
        rcases au_red n xs d hn' h with k | ⟨ys, rfl, k⟩
        · exact .inl (k.cons x)
        · exact .inl ⟨[], [wNot, wE], ys, by simp [redR], by rw [h2]; rfl⟩
      · rw [if_neg h2] at h
        by_cases h3 : x = wE
        · rw [if_pos h3] at h
          have h : auR (d, false) xs = some (0, false) := h
          subst h3
          cases xs with
          | nil => exact .inr ⟨[], rfl, .inl rfl⟩
          | cons y r =>
            have e : auR (d, false) (y :: r) = (auS (d, false) y).bind fun b => auR b r := rfl
            rw [e] at h
            unfold auS at h
            rw [if_neg (by decide : ¬ (false = true))] at h
            by_cases h4 : y = wAnd ∨ y = wOr
            · rw [if_pos h4] at h
              have h : auR (d, true) r = some (0, false) := h
              rcases au_red n r d (by simp at hn'; omega) h with k | ⟨ys, rfl, k⟩
              · exact .inl ((k.cons y).cons wE)
              · rcases h4 with rfl | rfl
                · exact .inl ⟨[], [wE, wAnd, wE], ys, by simp [redR], rfl⟩
                · exact .inl ⟨[], [wE, wOr, wE], ys, by simp [redR], rfl⟩
            · rw [if_neg h4] at h
              by_cases h5 : y = [41]
              · exact .inr ⟨_, rfl, .inr ⟨r, by rw [h5]⟩⟩
              · rw [if_neg h5] at h
                cases h
        · rw [if_neg h3] at h
          cases h
/-- where nothing can be replaced, just one sign is accepted -/
theorem acc_nf {xs : List Txt} (h : ¬ HasRed xs) : accA xs = decide (xs = [wE]) := by
  by_cases e : xs = [wE]
  · subst e
    simp [accA, auR, auS, wE, wNot]
  · rw [decide_eq_false e]
    unfold accA
    rw [decide_eq_false]
    intro k
    rcases au_red _ xs 0 (Nat.le_refl _) k with q | ⟨ys, rfl, q⟩
    · exact h q
    · rcases q with rfl | ⟨zs, rfl⟩
      · exact e rfl
      · simp [auR, auS, wE, wNot, wAnd, wOr] at k
/-! ### the program's reader and the signs -/
theorem pop_cnt {b : Nat} (hb : 1 ≤ b) : ∀ (h : List Txt) (s : List Tm), (popF b h s).1.count [40] = h.count [40] ∧ (∀ x ∈ (popF b h s).1, x ∈ h)
  | [], s => ⟨rfl, fun _ q => q⟩
  | x :: r, s => by
    unfold popF
    by_cases e : b ≤ bnd x
    · rw [if_pos e]
      obtain ⟨h1, h2⟩ := pop_cnt hb r (s ++ [opT x])
      refine ⟨?_, fun y hy => List.mem_cons_of_mem _ (h2 y hy)⟩
      have : x ≠ [40] := by
        rintro rfl
        exact absurd e (by show ¬ b ≤ 0; omega)
      rw [h1, List.count_cons_of_ne this]
    · rw [if_neg e]
      exact ⟨rfl, fun _ q => q⟩
theorem pop_one : ∀ (h : List Txt) (s : List Tm), (∀ x ∈ h, x ∈ ([[40], wNot, wAnd, wOr] : List Txt)) → (popF 1 h s).1 = [] ∧ h.count [40] = 0 ∨ ∃ r, (popF 1 h s).1 = [40] :: r ∧ h.count [40] = r.count [40] + 1 ∧ ∀ x ∈ r, x ∈ h
  | [], s, _ => .inl ⟨rfl, rfl⟩
  | x :: r, s, k => by
    unfold popF
    by_cases e : 1 ≤ bnd x
    · rw [if_pos e]
      have ne : x ≠ [40] := by
        rintro rfl
        exact absurd e (by decide)
      rcases pop_one r (s ++ [opT x]) (fun y hy => k y (List.mem_cons_of_mem _ hy)) with ⟨h1, h2⟩ | ⟨q, h1, h2, h3⟩
      · exact .inl ⟨h1, by rw [List.count_cons_of_ne ne, h2]⟩
      · exact .inr ⟨q, h1, by rw [List.count_cons_of_ne ne, h2], fun y hy => List.mem_cons_of_mem _ (h3 y hy)⟩
    · rw [if_neg e]
      have : x = [40] := by
        have hx := k x (by simp)
        simp only [List.mem_cons, List.not_mem_nil, or_false] at hx
        rcases hx with h | h | h | h
        · exact h
        all_goals (subst h; exact absurd (by decide) e)
      subst this
      exact .inr ⟨r, rfl, by rw [List.count_cons_self], fun y hy => List.mem_cons_of_mem _ hy⟩
def auM (m : Ms) : Au := (m.2.1.count [40], m.2.2)
def HldOk (m : Ms) : Prop := ∀ x ∈ m.2.1, x ∈ ([[40], wNot, wAnd, wOr] : List Txt)
theorem oper_not : ∀ x ∈ operL, x ≠ [40] ∧ x ≠ wNot ∧ x ≠ wAnd ∧ x ≠ wOr ∧ x ≠ [41] := by decide
theorem step_au {m : Ms} {t : Tm} (k : HldOk m) (ht : t.w ≠ wE) : (stepM m t).map auM = auS (auM m) (symT t) ∧ ∀ m', stepM m t = some m' → HldOk m' := by
  obtain ⟨s, h, wn⟩ := m
  unfold stepM auS symT
  cases wn with
  | true =>
    show Option.map _ (if true = true then _ else _) = (if true = true then _ else _) ∧ ∀ m', (if true = true then _ else _) = some m' → HldOk m'
    rw [if_pos rfl, if_pos rfl]
    by_cases o : t.w ∈ operL
    · obtain ⟨n1, n2, _⟩ := oper_not _ o
      rw [if_pos o, if_neg (show ¬ (t.w = [40] ∨ t.w = wNot) from fun e => e.elim n1 n2), if_pos o, if_neg (by decide : ¬ wE = [40]), if_neg (by decide : ¬ wE = wNot), if_pos rfl]
      refine ⟨rfl, fun m' e => ?_⟩
      cases e
      exact k
    · rw [if_neg o, if_neg o]
      by_cases h1 : t.w = [40]
      · rw [if_pos (.inl h1), if_pos h1]
        refine ⟨?_, fun m' e => ?_⟩
        · show some (List.count [40] (t.w :: h), true) = some (List.count [40] h + 1, true)
          rw [h1, List.count_cons_self]
        · cases e
          intro x hx
          rcases List.mem_cons.mp hx with rfl | hx
          · rw [h1]; simp
          · exact k x hx
      · by_cases h2 : t.w = wNot
        · rw [if_pos (.inr h2), if_neg h1, if_pos h2]
          refine ⟨?_, fun m' e => ?_⟩
          · show some (List.count [40] (t.w :: h), true) = some (List.count [40] h, true)
            rw [List.count_cons_of_ne h1]
          · cases e
            intro x hx
            rcases List.mem_cons.mp hx with rfl | hx
            · rw [h2]; simp
            · exact k x hx
        · rw [if_neg (show ¬ (t.w = [40] ∨ t.w = wNot) from fun e => e.elim h1 h2), if_neg h1, if_neg h2, if_neg ht]
          exact ⟨rfl, fun m' e => nomatch e⟩
  | false =>
    show Option.map _ (if false = true then _ else _) = (if false = true then _ else _) ∧ ∀ m', (if false = true then _ else _) = some m' → HldOk m'
    rw [if_neg (by decide : ¬ (false = true)), if_neg (by decide : ¬ (false = true))]
    by_cases o : t.w ∈ operL
    · obtain ⟨_, _, n3, n4, n5⟩ := oper_not _ o
      rw [if_pos o, if_neg (show ¬ (t.w = wAnd ∨ t.w = wOr) from fun e => e.elim n3 n4), if_neg n5, if_neg (by decide : ¬ (wE = wAnd ∨ wE = wOr)), if_neg (by decide : ¬ wE = [41])]
      exact ⟨rfl, fun m' e => nomatch e⟩
    · rw [if_neg o]
      by_cases h1 : t.w = wAnd ∨ t.w = wOr
      · rw [if_pos h1, if_pos h1]
        have hb : 1 ≤ bnd t.w := by rcases h1 with e | e <;> rw [e] <;> decide
        have hn : t.w ≠ [40] := by rcases h1 with e | e <;> rw [e] <;> decide
        obtain ⟨p1, p2⟩ := pop_cnt hb h s
        refine ⟨?_, fun m' e => ?_⟩
        · show some (List.count [40] (t.w :: (popF (bnd t.w) h s).1), true) = some (List.count [40] h, true)
          rw [List.count_cons_of_ne hn, p1]
        · cases e
          intro x hx
          rcases List.mem_cons.mp hx with rfl | hx
          · rcases h1 with e | e <;> rw [e] <;> simp
          · exact k x (p2 x hx)
      · rw [if_neg h1, if_neg h1]
        by_cases h2 : t.w = [41]
        · rw [if_pos h2, if_pos h2]
          rcases pop_one h s k with ⟨q1, q2⟩ | ⟨r, q1, q2, q3⟩
          · show Option.map auM (match (popF 1 h s).1 with | _ :: r => _ | [] => none) = (if List.count [40] h = 0 then _ else _) ∧ ∀ m', (match (popF 1 h s).1 with | _ :: r => _ | [] => none) = some m' → HldOk m'
            rw [q1, if_pos q2]
            exact ⟨rfl, fun m' e => nomatch e⟩
          · show Option.map auM (match (popF 1 h s).1 with | _ :: r => some ((popF 1 h s).2, r, false) | [] => none) = (if List.count [40] h = 0 then none else some (List.count [40] h - 1, false)) ∧ ∀ m', (match (popF 1 h s).1 with | _ :: r => some ((popF 1 h s).2, r, false) | [] => none) = some m' → HldOk m'
            rw [q1, if_neg (by omega)]
            refine ⟨?_, fun m' e => ?_⟩
            · show some (List.count [40] r, false) = some (List.count [40] h - 1, false)
              rw [q2]
              rfl
            · cases e
              exact fun x hx => k x (q3 x hx)
        · rw [if_neg h2, if_neg h2]
          exact ⟨rfl, fun m' e => nomatch e⟩
theorem run_au : ∀ (ts : List Tm) (m : Ms), HldOk m → (∀ t ∈ ts, t.w ≠ wE) → (runM m ts).map auM = auR (auM m) (ts.map symT)
  | [], _, _, _ => rfl
  | t :: ts, m, k, ht => by
    obtain ⟨h1, h2⟩ := step_au k (ht t (by simp))
    show ((stepM m t).bind fun m' => runM m' ts).map auM = (auS (auM m) (symT t)).bind fun b => auR b (ts.map symT)
    rw [← h1]
    cases e : stepM m t with
    | none => rfl
    | some m' => exact run_au ts m' (h2 m' e) fun x hx => ht x (List.mem_cons_of_mem _ hx)
theorem expr_acc {ts : List Tm} (ht : ∀ t ∈ ts, t.w ≠ wE) : (exprF ts).isSome = accA (ts.map symT) := by
  have h := run_au ts ([], [], true) (fun x hx => by cases hx) ht
  have e0 : auM ([], [], true) = (0, true) := rfl
  rw [e0] at h
  unfold exprF accA
  rw [← h]
  cases runM ([], [], true) ts with
  | none => rfl
  | some m =>
    obtain ⟨s, h, wn⟩ := m
    cases wn with
    | true =>
      show false = decide (some (auM (s, h, true)) = some (0, false))
      rw [decide_eq_false (fun q => by simp [auM] at q)]
    | false =>
      show (if [40] ∈ h then none else some (s ++ h.map opT)).isSome = decide (some (h.count [40], false) = some (0, false))
      by_cases q : [40] ∈ h
      · rw [if_pos q]
        have : 0 < h.count [40] := List.count_pos_iff.mpr q
        rw [decide_eq_false (fun z => by simp only [Option.some.injEq, Prod.mk.injEq, and_true] at z; omega)]
        rfl
      · rw [if_neg q, decide_eq_true (by rw [List.count_eq_zero.mpr q])]
        rfl
end

/-! ## Refused markers: the law's tokens and signs -/
section
open TL SX
def spcl (c : Nat) : Bool := decide (c ∈ ([32, 40, 41, 60, 62, 61, 33] : List Nat))
def eq4 : List Nat := [60, 62, 61, 33]
def sg4 : List Txt := [[60], [62], [61], [33]]
def addF (c : Nat) : List Txt → Option (List Txt)
  | x :: r => some ((x ++ [c]) :: r)
  | [] => none
def cut1 (F : List Txt) (last c : Nat) : Option (List Txt) :=
  if isLD c = true ∧ spcl last = false then addF c F
  else if c = 61 ∧ last ∈ eq4 ∧ F.headD [] ∈ sg4 then addF c F
  else if brk c = true ∨ isLD c = true then some ([c] :: F)
  else if c = 32 then some F else none
def cutR : List Txt → Nat → Txt → Option (List Txt)
  | F, _, [] => some F
  | F, last, c :: l => (cut1 F last c).bind fun F' => cutR F' c l
theorem ld_plain {c : Nat} (h : isLD c = true) : spcl c = false ∧ brk c = false ∧ c ≠ 61 ∧ c ≠ 32 ∧ c ∉ eq4 := by
  have h' : (97 ≤ c ∧ c ≤ 122) ∨ (48 ≤ c ∧ c ≤ 57) := by
    simpa [isLD, isLow, isDig] using h
  refine ⟨?_, ?_, by omega, by omega, ?_⟩
  · unfold spcl
    rw [decide_eq_false]
    intro q
    simp only [List.mem_cons, List.not_mem_nil, or_false] at q
    omega
  · unfold brk
    rw [decide_eq_false]
    intro q
    simp only [List.mem_cons, List.not_mem_nil, or_false] at q
    omega
  · intro q
    simp only [eq4, List.mem_cons, List.not_mem_nil, or_false] at q
    omega
theorem run_ld (rest : Txt) : ∀ (tw : Txt), (∀ c ∈ tw, isLD c = true) → ∀ (x : Txt) (F : List Txt) (last : Nat), spcl last = false → cutR (x :: F) last (tw ++ rest) = cutR ((x ++ tw) :: F) (tw.getLastD last) rest ∧ spcl (tw.getLastD last) = false
  | [], _, x, F, last, h => ⟨by simp, h⟩
  | c :: tw, k, x, F, last, h => by
    have hc := k c (by simp)
    have e : cut1 (x :: F) last c = some ((x ++ [c]) :: F) := by
      unfold cut1
      rw [if_pos ⟨hc, h⟩]
      rfl
    obtain ⟨h1, h2⟩ := run_ld rest tw (fun y hy => k y (List.mem_cons_of_mem _ hy)) (x ++ [c]) F c (ld_plain hc).1
    have eg : (c :: tw).getLastD last = tw.getLastD c := by cases tw <;> simp [List.getLastD]
    refine ⟨?_, by rw [eg]; exact h2⟩
    show (cut1 (x :: F) last c).bind (fun F' => cutR F' c (tw ++ rest)) = _
    rw [e, eg]
    show cutR ((x ++ [c]) :: F) c (tw ++ rest) = _
    rw [h1, List.append_assoc]
    rfl
theorem persist : ∀ (l : Txt) (x : Txt) (F : List Txt) (last : Nat) (G : List Txt), cutR (x :: F) last l = some G → ∀ y ∈ F, y ∈ G
  | [], x, F, last, G, h, y, hy => by
    cases h
    exact List.mem_cons_of_mem _ hy
  | c :: l, x, F, last, G, h, y, hy => by
    have h : (cut1 (x :: F) last c).bind (fun F' => cutR F' c l) = some G := h
    unfold cut1 at h
    by_cases h1 : isLD c = true ∧ spcl last = false
    · rw [if_pos h1] at h
      exact persist l (x ++ [c]) F c G h y hy
    · rw [if_neg h1] at h
      by_cases h2 : c = 61 ∧ last ∈ eq4 ∧ (x :: F).headD [] ∈ sg4
      · rw [if_pos h2] at h
        exact persist l (x ++ [c]) F c G h y hy
      · rw [if_neg h2] at h
        by_cases h3 : brk c = true ∨ isLD c = true
        · rw [if_pos h3] at h
          exact persist l [c] (x :: F) c G h y (List.mem_cons_of_mem _ hy)
        · rw [if_neg h3] at h
          by_cases h4 : c = 32
          · rw [if_pos h4] at h
            exact persist l x F c G h y hy
          · rw [if_neg h4] at h
            cases h
theorem stuck32 : ∀ (l : Txt) (b : Txt) (F G : List Txt), cutR (b :: F) 32 l = some G → b ∈ G
  | [], b, F, G, h => by
    cases h
    simp
  | c :: l, b, F, G, h => by
    have h : (cut1 (b :: F) 32 c).bind (fun F' => cutR F' c l) = some G := h
    unfold cut1 at h
    rw [if_neg (fun q => absurd q.2 (by decide)), if_neg (fun q => absurd q.2.1 (by decide))] at h
    by_cases h3 : brk c = true ∨ isLD c = true
    · rw [if_pos h3] at h
      exact persist l [c] (b :: F) c G h b (by simp)
    · rw [if_neg h3] at h
      by_cases h4 : c = 32
      · rw [if_pos h4] at h
        subst h4
        exact stuck32 l b F G h
      · rw [if_neg h4] at h
        cases h
theorem stuck {l : Txt} {b : Txt} {F G : List Txt} {last : Nat} (hs : spcl last = true) (hl : l.head? ≠ some 61) (h : cutR (b :: F) last l = some G) : b ∈ G := by
  cases l with
  | nil =>
    cases h
    simp
  | cons c l =>
    have h : (cut1 (b :: F) last c).bind (fun F' => cutR F' c l) = some G := h
    have hc : c ≠ 61 := fun e => hl (by rw [e]; rfl)
    unfold cut1 at h
    rw [if_neg (fun q => by rw [hs] at q; exact absurd q.2 (by decide)), if_neg (fun q => hc q.1)] at h
    by_cases h3 : brk c = true ∨ isLD c = true
    · rw [if_pos h3] at h
      exact persist l [c] (b :: F) c G h b (by simp)
    · rw [if_neg h3] at h
      by_cases h4 : c = 32
      · rw [if_pos h4] at h
        subst h4
        exact stuck32 l b F G h
      · rw [if_neg h4] at h
        cases h
def Bd (F : List Txt) (last : Nat) (l : Txt) : Prop := ∀ c r, l = c :: r → (isLD c = true → spcl last = true) ∧ (c = 61 → ¬ (last ∈ eq4 ∧ F.headD [] ∈ sg4))
theorem sgn_is {c : Nat} {r : Txt} (h : isLD c = false) : tokF (c :: r) = if r.head? = some 61 ∧ c ∈ eq4 then [c, 61] else if c ∈ ([60, 62, 40, 41] : List Nat) then [c] else [] := by
  have e : (c :: r).takeWhile isLD = [] := by rw [List.takeWhile_cons, h]; rfl
  unfold tokF
  rw [e, if_pos rfl]
  have e2 : (c :: r).take 2 = c :: r.take 1 := rfl
  rw [e2]
  have key : ∀ (q : Bool) (t : Txt), (r.take 1 = t) → ((t = [61]) ↔ q = true) → (t = [] ∨ ∃ d, t = [d]) → ((sgn8.find? fun s => s.isPrefixOf (c :: t)).getD []) = if q = true ∧ c ∈ eq4 then [c, 61] else if c ∈ ([60, 62, 40, 41] : List Nat) then [c] else [] := by
    intro q t _ hq ht
    rcases ht with rfl | ⟨d, rfl⟩
    · have : q = false := by
        cases q with
        | false => rfl
        | true => exact absurd (hq.mpr rfl) (by simp)
      subst this
      by_cases c1 : c = 60
      · subst c1; decide
      by_cases c2 : c = 62
      · subst c2; decide
      by_cases c3 : c = 40
      · subst c3; decide
      by_cases c4 : c = 41
      · subst c4; decide
      have f : ∀ k : Nat, c ≠ k → (k == c) = false := fun k n => by rw [beq_eq_false_iff_ne]; exact Ne.symm n
      simp [sgn8, List.find?, List.isPrefixOf, f 60 c1, f 62 c2, f 40 c3, f 41 c4, c1, c2, c3, c4]
    · by_cases hd : d = 61
      · subst hd
        have : q = true := hq.mp rfl
        subst this
        by_cases c1 : c = 60
        · subst c1; decide
        by_cases c2 : c = 62
        · subst c2; decide
        by_cases c3 : c = 40
        · subst c3; decide
        by_cases c4 : c = 41
        · subst c4; decide
        by_cases c5 : c = 61
        · subst c5; decide
        by_cases c6 : c = 33
        · subst c6; decide
        have f : ∀ k : Nat, c ≠ k → (k == c) = false := fun k n => by rw [beq_eq_false_iff_ne]; exact Ne.symm n
        simp [sgn8, List.find?, List.isPrefixOf, f 60 c1, f 62 c2, f 40 c3, f 41 c4, f 61 c5, f 33 c6, c1, c2, c3, c4, c5, c6, eq4]
      · have : q = false := by
          cases q with
          | false => rfl
          | true => exact absurd (hq.mpr rfl) (by simpa using hd)
        subst this
        have e61 : (61 == d) = false := by rw [beq_eq_false_iff_ne]; exact Ne.symm hd
        by_cases c1 : c = 60
        · subst c1; simp [sgn8, List.find?, List.isPrefixOf, e61]
        by_cases c2 : c = 62
        · subst c2; simp [sgn8, List.find?, List.isPrefixOf, e61]
        by_cases c3 : c = 40
        · subst c3; simp [sgn8, List.find?, List.isPrefixOf, e61]
        by_cases c4 : c = 41
        · subst c4; simp [sgn8, List.find?, List.isPrefixOf, e61]
        have f : ∀ k : Nat, c ≠ k → (k == c) = false := fun k n => by rw [beq_eq_false_iff_ne]; exact Ne.symm n
        simp [sgn8, List.find?, List.isPrefixOf, f 60 c1, f 62 c2, f 40 c3, f 41 c4, c1, c2, c3, c4, e61]
  have := key (decide (r.head? = some 61)) (r.take 1) rfl (by cases r <;> simp) (by cases r <;> simp)
  simp only [decide_eq_true_eq] at this
  exact this
theorem brk_spcl {c : Nat} (h : brk c = true) : spcl c = true := by
  simp only [brk, spcl, decide_eq_true_eq, List.mem_cons, List.not_mem_nil, or_false] at h ⊢
  omega
/-- the law's tokens are the program's, or one of them is no token -/
theorem cut_toks : ∀ (n : Nat) (l : Txt) (F : List Txt) (last : Nat), l.length ≤ n → Bd F last l →
    (∀ ws, toksG l = some ws → cutR F last l = some (ws.reverse ++ F)) ∧ (toksG l = none → ∀ G, cutR F last l = some G → [61] ∈ G ∨ [33] ∈ G)
  | _, [], F, last, _, _ => by
    rw [toksG]
    exact ⟨fun ws h => by cases h; rfl, fun h => by cases h⟩
  | 0, c :: r, _, _, hn, _ => by simp at hn
  | n + 1, c :: r, F, last, hn, hB => by
    have hn' : r.length ≤ n := by simpa using hn
    obtain ⟨b1, b2⟩ := hB c r rfl
    have step : ∀ F', cut1 F last c = some F' → cutR F last (c :: r) = cutR F' c r := fun F' e => by
      show (cut1 F last c).bind _ = _
      rw [e]
      rfl
    have no1 : ¬ (isLD c = true ∧ spcl last = false) := fun q => by rw [b1 q.1] at q; exact absurd q.2 (by decide)
    have no2 : ¬ (c = 61 ∧ last ∈ eq4 ∧ F.headD [] ∈ sg4) := fun q => b2 q.1 q.2
    rw [toksG_one]
    cases hc : isLD c with
    | true =>
      have tw : tokF (c :: r) = c :: r.takeWhile isLD := by
        unfold tokF
        rw [List.takeWhile_cons, hc]
        rfl
      have e1 : cut1 F last c = some ([c] :: F) := by
        unfold cut1
        rw [if_neg no1, if_neg no2, if_pos (.inr hc)]
      have hr : r = r.takeWhile isLD ++ r.dropWhile isLD := (List.takeWhile_append_dropWhile).symm
      have hall : ∀ y ∈ r.takeWhile isLD, isLD y = true := fun y hy => by
        exact List.all_eq_true.mp List.all_takeWhile y hy
      obtain ⟨g1, g2⟩ := run_ld (r.dropWhile isLD) (r.takeWhile isLD) hall [c] F c (ld_plain hc).1
      rw [← hr] at g1
      have ed : (c :: r).drop (tokF (c :: r)).length = r.dropWhile isLD := by
        rw [tw]
        show r.drop (r.takeWhile isLD).length = _
        have e : (r.takeWhile isLD ++ r.dropWhile isLD).drop (r.takeWhile isLD).length = r.dropWhile isLD := List.drop_left
        rw [← hr] at e
        exact e
      rw [if_neg (by rw [tw]; simp), ed, tw, step _ e1, g1]
      have ln : (r.dropWhile isLD).length ≤ n := Nat.le_trans (List.dropWhile_sublist isLD).length_le hn'
      have bd : Bd (([c] ++ r.takeWhile isLD) :: F) ((r.takeWhile isLD).getLastD c) (r.dropWhile isLD) := by
        intro d s e
        refine ⟨fun hd => ?_, fun _ q => ?_⟩
        · have := List.head?_dropWhile_not isLD r
          rw [e] at this
          simp at this
          rw [this] at hd
          cases hd
        · have : spcl ((r.takeWhile isLD).getLastD c) = true := by
            have := q.1
            simp only [eq4, List.mem_cons, List.not_mem_nil, or_false] at this
            unfold spcl
            rw [decide_eq_true]
            simp only [List.mem_cons, List.not_mem_nil, or_false]
            omega
          rw [g2] at this
          cases this
      obtain ⟨i1, i2⟩ := cut_toks n (r.dropWhile isLD) (([c] ++ r.takeWhile isLD) :: F) ((r.takeWhile isLD).getLastD c) ln bd
      refine ⟨fun ws h => ?_, fun h => ?_⟩
      · cases e : toksG (r.dropWhile isLD) with
        | none =>
          rw [e] at h
          cases h
        | some vs =>
          rw [e] at h
          cases h
          rw [i1 vs e]
          simp
      · cases e : toksG (r.dropWhile isLD) with
        | none => exact i2 e
        | some vs =>
          rw [e] at h
          cases h
    | false =>
      have ncl : ¬ isLD c = true := by rw [hc]; decide
      rw [sgn_is hc]
      by_cases h2 : r.head? = some 61 ∧ c ∈ eq4
      · rw [if_pos h2, if_neg (by simp)]
        obtain ⟨r', rfl⟩ : ∃ r', r = 61 :: r' := by
          cases r with
          | nil => simp at h2
          | cons d r' => exact ⟨r', by have := h2.1; simp at this; rw [this]⟩
        have hbrk : brk c = true := by
          have := h2.2
          simp only [eq4, List.mem_cons, List.not_mem_nil, or_false] at this
          unfold brk
          rw [decide_eq_true]
          simp only [List.mem_cons, List.not_mem_nil, or_false]
          omega
        have e1 : cut1 F last c = some ([c] :: F) := by
          unfold cut1
          rw [if_neg no1, if_neg no2, if_pos (.inl hbrk)]
        have e2 : cut1 ([c] :: F) c 61 = some ([c, 61] :: F) := by
          unfold cut1
          rw [if_neg (fun q => absurd q.1 (by decide)), if_pos ⟨rfl, h2.2, by
            have := h2.2
            simp only [eq4, List.mem_cons, List.not_mem_nil, or_false] at this
            rcases this with rfl | rfl | rfl | rfl <;> (show [_] ∈ sg4; decide)⟩]
          rfl
        rw [step _ e1]
        have e3 : cutR ([c] :: F) c (61 :: r') = cutR ([c, 61] :: F) 61 r' := by
          show (cut1 ([c] :: F) c 61).bind _ = _
          rw [e2]
          rfl
        rw [e3]
        have bd : Bd ([c, 61] :: F) 61 r' := fun d s _ => ⟨fun _ => by decide, fun _ q => by
          have := q.2
          simp [sg4] at this⟩
        have ed : (c :: 61 :: r').drop ([c, 61] : Txt).length = r' := rfl
        rw [ed]
        obtain ⟨i1, i2⟩ := cut_toks n r' ([c, 61] :: F) 61 (by simp at hn'; omega) bd
        refine ⟨fun ws h => ?_, fun h => ?_⟩
        · cases e : toksG r' with
          | none =>
            rw [e] at h
            cases h
          | some vs =>
            rw [e] at h
            cases h
            rw [i1 vs e]
            simp
        · cases e : toksG r' with
          | none => exact i2 e
          | some vs =>
            rw [e] at h
            cases h
      · rw [if_neg h2]
        by_cases h3 : c ∈ ([60, 62, 40, 41] : List Nat)
        · rw [if_pos h3, if_neg (by simp)]
          have hbrk : brk c = true := by
            simp only [List.mem_cons, List.not_mem_nil, or_false] at h3
            unfold brk
            rw [decide_eq_true]
            simp only [List.mem_cons, List.not_mem_nil, or_false]
            omega
          have e1 : cut1 F last c = some ([c] :: F) := by
            unfold cut1
            rw [if_neg no1, if_neg no2, if_pos (.inl hbrk)]
          rw [step _ e1]
          have bd : Bd ([c] :: F) c r := fun d s e => ⟨fun _ => brk_spcl hbrk, fun hd q => h2 ⟨by rw [e, hd]; rfl, q.1⟩⟩
          have ed : (c :: r).drop ([c] : Txt).length = r := rfl
          rw [ed]
          obtain ⟨i1, i2⟩ := cut_toks n r ([c] :: F) c hn' bd
          refine ⟨fun ws h => ?_, fun h => ?_⟩
          · cases e : toksG r with
            | none =>
              rw [e] at h
              cases h
            | some vs =>
              rw [e] at h
              cases h
              rw [i1 vs e]
              simp
          · cases e : toksG r with
            | none => exact i2 e
            | some vs =>
              rw [e] at h
              cases h
        · rw [if_neg h3, if_pos rfl]
          by_cases h4 : c = 32
          · subst h4
            rw [if_pos rfl]
            have e1 : cut1 F last 32 = some F := by
              unfold cut1
              rw [if_neg no1, if_neg no2, if_neg (by decide), if_pos rfl]
            rw [step _ e1]
            exact cut_toks n r F 32 hn' fun d s _ => ⟨fun _ => by decide, fun _ q => absurd q.1 (by decide)⟩
          · rw [if_neg h4]
            refine ⟨fun ws h => (by cases h), fun _ G hG => ?_⟩
            by_cases hb : brk c = true
            · have c6 : c = 61 ∨ c = 33 := by
                simp only [brk, decide_eq_true_eq, List.mem_cons, List.not_mem_nil, or_false] at hb h3
                omega
              have hh : r.head? ≠ some 61 := fun e => h2 ⟨e, by rcases c6 with rfl | rfl <;> decide⟩
              have e1 : cut1 F last c = some ([c] :: F) := by
                unfold cut1
                rw [if_neg no1, if_neg no2, if_pos (.inl hb)]
              rw [step _ e1] at hG
              have := stuck (brk_spcl hb) hh hG
              rcases c6 with rfl | rfl
              · exact .inl this
              · exact .inr this
            · have e1 : cut1 F last c = none := by
                unfold cut1
                rw [if_neg no1, if_neg no2, if_neg (fun q => q.elim hb ncl), if_neg h4]
              have : cutR F last (c :: r) = none := by
                show (cut1 F last c).bind _ = none
                rw [e1]
                rfl
              rw [this] at hG
              cases hG
def cutL (l : Txt) : Option (List Txt) := if l.head? = some 32 ∨ l.getLast? = some 32 then none else (cutR [] 32 l).map List.reverse
theorem cut_toksF (l : Txt) : (∀ ws, toksF l = some ws → cutL l = some ws) ∧ (toksF l = none → ∀ G, cutL l = some G → [61] ∈ G ∨ [33] ∈ G) := by
  unfold toksF cutL
  by_cases h : l.head? = some 32 ∨ l.getLast? = some 32
  · rw [if_pos h, if_pos h]
    exact ⟨fun ws e => (by cases e), fun _ G e => (by cases e)⟩
  · rw [if_neg h, if_neg h]
    obtain ⟨i1, i2⟩ := cut_toks _ l [] 32 (Nat.le_refl _) fun d s _ => ⟨fun _ => by decide, fun _ q => absurd q.1 (by decide)⟩
    refine ⟨fun ws e => (by rw [i1 ws e]; simp), fun e G hG => ?_⟩
    cases k : cutR [] 32 l with
    | none =>
      rw [k] at hG
      cases hG
    | some F =>
      rw [k] at hG
      cases hG
      exact (i2 e F k).imp List.mem_reverse.mpr List.mem_reverse.mpr
end

/-! ## Refused markers: the law's signs, and whether a text is a marker -/
section
open TL SX
def two2 : List Txt := [[61, 61], [33, 61]]
def isCmpL : List Txt → Bool
  | [w, s, x] => if w = wLevel then decide (s ∈ lvSigns) && (nTL 99 x).isSome else decide (s ∈ two2) && (decide ((x.filter isLow).length = x.length) && decide ((x.filter isLow).length < 13))
  | _ => false
theorem isCmp3 (w s x : Txt) : isCmpL [w, s, x] = if w = wLevel then decide (s ∈ lvSigns) && (nTL 99 x).isSome else decide (s ∈ two2) && (decide ((x.filter isLow).length = x.length) && decide ((x.filter isLow).length < 13)) := rfl
def opsL (ws : List Txt) : Option (List Txt) := match ws with
  | [] => some []
  | w :: r => if w ∈ fieldL then (if isCmpL ((w :: r).take 3) = true then (opsL (r.drop 2)).map (wE :: ·) else none) else (opsL r).map ((if w = wAlways ∨ w = wNever then wE else w) :: ·)
termination_by ws.length
decreasing_by
  all_goals simp only [List.length_drop, List.length_cons]
  all_goals omega
theorem filt_all (x : Txt) : decide ((x.filter isLow).length = x.length) = x.all isLow := by
  rw [Bool.eq_iff_iff, decide_eq_true_eq, List.all_eq_true]
  exact List.length_filter_eq_length_iff
theorem cmp_same {w s x : Txt} (hx : x ≠ []) : isCmpL [w, s, x] = (cmpF w s x).isSome := by
  rw [isCmp3]
  unfold cmpF
  by_cases h : w = wLevel
  · rw [if_pos h, if_pos h]
    cases nTL 99 x with
    | none => simp
    | some n =>
      by_cases k : s ∈ lvSigns
      · simp [k]
      · simp [k]
  · rw [if_neg h, if_neg h, filt_all]
    have e2 : decide (s ∈ two2) = decide (s = [61, 61] ∨ s = [33, 61]) := by simp [two2]
    rw [e2]
    have ew : wordT x = (x.all isLow && decide ((x.filter isLow).length < 13)) := by
      have h1 : 1 ≤ x.length := List.length_pos_iff.mpr hx
      unfold wordT
      rw [decide_eq_true h1, Bool.true_and]
      cases ha : x.all isLow with
      | false => simp
      | true =>
        have : (x.filter isLow).length = x.length := by
          have := filt_all x
          rw [ha] at this
          exact of_decide_eq_true this
        rw [this, Bool.and_true, Bool.true_and]
        exact decide_eq_decide.mpr (by omega)
    rw [← ew]
    by_cases k : s = [61, 61] ∨ s = [33, 61]
    · cases hw : wordT x with
      | true => rw [if_pos ⟨k, rfl⟩]; simp [k]
      | false => rw [if_neg (fun q => by cases q.2)]; simp
    · rw [if_neg (fun q => k q.1)]
      simp [k]
theorem cmpF_w {w s x : Txt} {t : Tm} (h : cmpF w s x = some t) : t.w = w := by
  unfold cmpF at h
  by_cases e : w = wLevel
  · rw [if_pos e] at h
    cases k : nTL 99 x with
    | none =>
      rw [k] at h
      cases h
    | some n =>
      rw [k] at h
      by_cases q : s ∈ lvSigns
      · simp only [q, if_true] at h
        cases h
        rfl
      · simp only [q, if_false] at h
        cases h
  · rw [if_neg e] at h
    by_cases q : (s = [61, 61] ∨ s = [33, 61]) ∧ wordT x = true
    · rw [if_pos q] at h
      cases h
      rfl
    · rw [if_neg q] at h
      cases h
theorem field_oper : ∀ w ∈ fieldL, w ∈ operL := by decide
theorem oper_field : ∀ w ∈ operL, w ∈ fieldL ∨ (w = wAlways ∨ w = wNever) := by decide
theorem sym_word {w : Txt} (h : w ∉ fieldL) : symT (opT w) = if w = wAlways ∨ w = wNever then wE else w := by
  unfold symT
  by_cases e : w = wAlways ∨ w = wNever
  · rw [if_pos e, if_pos (show (opT w).w ∈ operL from by rcases e with e | e <;> (subst e; decide))]
  · rw [if_neg e, if_neg (show ¬ (opT w).w ∈ operL from fun q => (oper_field w q).elim h e)]
    rfl
theorem cut3 {w : Txt} {r : List Txt} : (∃ s x r', r = s :: x :: r' ∧ (w :: r).take 3 = [w, s, x]) ∨ (isCmpL ((w :: r).take 3) = false ∧ cmp3 ((w :: r).take 3) = none) := by
  match r with
  | [] => exact .inr ⟨rfl, rfl⟩
  | [s] => exact .inr ⟨rfl, rfl⟩
  | s :: x :: r' => exact .inl ⟨s, x, r', rfl, rfl⟩
theorem ops_terms : ∀ (n : Nat) (ws : List Txt), ws.length ≤ n → (∀ x ∈ ws, x ≠ []) → opsL ws = (termsF ws).map fun ts => ts.map symT
  | _, [], _, _ => by rw [opsL, termsF]; rfl
  | 0, w :: r, h, _ => by simp at h
  | n + 1, w :: r, hn, hx => by
    rw [List.length_cons] at hn
    rw [opsL, termsF]
    by_cases hf : w ∈ fieldL
    · rw [if_pos hf, if_pos hf]
      rcases cut3 (w := w) (r := r) with ⟨s, x, r', rfl, e⟩ | ⟨e1, e2⟩
      · rw [e]
        have hne : x ≠ [] := hx x (by simp)
        have ih := ops_terms n r' (by simp at hn; omega) (fun y hy => hx y (by simp [hy]))
        have ed : (s :: x :: r').drop 2 = r' := rfl
        rw [ed, ih, cmp_same hne]
        show _ = Option.map _ ((cmpF w s x).bind _)
        cases k : cmpF w s x with
        | none => rfl
        | some t =>
          have ht : symT t = wE := by
            unfold symT
            rw [cmpF_w k, if_pos (field_oper w hf)]
          show Option.map _ (Option.map _ (termsF r')) = Option.map _ (Option.map _ (termsF r'))
          rw [Option.map_map, Option.map_map]
          congr 1
          funext ts
          show wE :: ts.map symT = (t :: ts).map symT
          rw [List.map_cons, ht]
      · rw [e1, e2]
        rfl
    · rw [if_neg hf, if_neg hf, ops_terms n r (by omega) (fun y hy => hx y (List.mem_cons_of_mem _ hy)), Option.map_map, Option.map_map]
      congr 1
      funext ts
      show _ :: ts.map symT = (opT w :: ts).map symT
      rw [List.map_cons, sym_word hf]
theorem bad_ops {b : Txt} (hb : b = [61] ∨ b = [33]) : ∀ (n : Nat) (ws : List Txt), ws.length ≤ n → b ∈ ws → ∀ os, opsL ws = some os → b ∈ os
  | _, [], _, h => by cases h
  | 0, w :: r, h, _ => by simp at h
  | n + 1, w :: r, hn, h => by
    intro os ho
    rw [List.length_cons] at hn
    have nf : b ∉ fieldL := by rcases hb with rfl | rfl <;> decide
    rw [opsL] at ho
    by_cases hf : w ∈ fieldL
    · rw [if_pos hf] at ho
      rcases cut3 (w := w) (r := r) with ⟨s, x, r', rfl, e⟩ | ⟨e1, _⟩
      · rw [e] at ho
        have ed : (s :: x :: r').drop 2 = r' := rfl
        rw [ed] at ho
        by_cases hc : isCmpL [w, s, x] = true
        · rw [if_pos hc] at ho
          have hbx : b ∈ r' := by
            rcases List.mem_cons.mp h with rfl | h
            · exact absurd hf nf
            · rcases List.mem_cons.mp h with rfl | h
              · exfalso
                rw [isCmp3] at hc
                by_cases k : w = wLevel
                · rw [if_pos k] at hc
                  rcases hb with rfl | rfl
                  · simp [lvSigns] at hc
                  · simp [lvSigns] at hc
                · rw [if_neg k] at hc
                  rcases hb with rfl | rfl
                  · simp [two2] at hc
                  · simp [two2] at hc
              · rcases List.mem_cons.mp h with rfl | h
                · exfalso
                  rw [isCmp3] at hc
                  by_cases k : w = wLevel
                  · rw [if_pos k] at hc
                    have e : nTL 99 b = none := by rcases hb with rfl | rfl <;> decide +kernel
                    rw [e] at hc
                    simp at hc
                  · rw [if_neg k] at hc
                    have e : decide ((b.filter isLow).length = b.length) = false := by rcases hb with rfl | rfl <;> decide +kernel
                    rw [e] at hc
                    simp at hc
                · exact h
          cases k : opsL r' with
          | none =>
            rw [k] at ho
            cases ho
          | some vs =>
            rw [k] at ho
            cases ho
            exact List.mem_cons_of_mem _ (bad_ops hb n r' (by simp at hn; omega) hbx vs k)
        · rw [if_neg hc] at ho
          cases ho
      · rw [e1] at ho
        cases ho
    · rw [if_neg hf] at ho
      cases k : opsL r with
      | none =>
        rw [k] at ho
        cases ho
      | some vs =>
        rw [k] at ho
        cases ho
        rcases List.mem_cons.mp h with rfl | h
        · rw [if_neg (by rcases hb with rfl | rfl <;> decide)]
          simp
        · exact List.mem_cons_of_mem _ (bad_ops hb n r (by omega) h vs k)
theorem bad_au {b : Txt} (hb : b = [61] ∨ b = [33]) : ∀ (os : List Txt) (a : Au), b ∈ os → auR a os = none
  | [], _, h => by cases h
  | x :: os, a, h => by
    show (auS a x).bind _ = none
    rcases List.mem_cons.mp h with rfl | h
    · have : auS a b = none := by
        obtain ⟨d, q⟩ := a
        rcases hb with rfl | rfl <;> cases q <;> simp [auS, wE, wNot, wAnd, wOr]
      rw [this]
      rfl
    · cases auS a x with
      | none => rfl
      | some a' => exact bad_au hb os a' h
def isMk (l : Txt) : Bool := match cutL l with
  | none => false
  | some ws => match opsL ws with
    | none => false
    | some os => accA os
theorem tokF_ok (l : Txt) : tokF l ≠ wE := by
  intro e
  unfold tokF at e
  by_cases h : l.takeWhile isLD = []
  · rw [if_pos h] at e
    cases k : sgn8.find? fun s => s.isPrefixOf (l.take 2) with
    | none =>
      rw [k] at e
      exact absurd e (by decide)
    | some s =>
      rw [k] at e
      have hs := List.mem_of_find?_eq_some k
      have : s = wE := e
      rw [this] at hs
      exact absurd hs (by decide)
  · rw [if_neg h] at e
    have : (l.takeWhile isLD).all isLD = true := List.all_takeWhile
    rw [e] at this
    exact absurd this (by decide)
theorem toksG_ok : ∀ (n : Nat) (l : Txt) (ws : List Txt), l.length ≤ n → toksG l = some ws → ∀ x ∈ ws, x ≠ [] ∧ x ≠ wE
  | _, [], ws, _, h => by
    rw [toksG] at h
    cases h
    exact fun x hx => by cases hx
  | 0, c :: r, ws, hn, h => by simp at hn
  | n + 1, c :: r, ws, hn, h => by
    rw [toksG_one] at h
    by_cases ht : tokF (c :: r) = []
    · rw [if_pos ht] at h
      by_cases hc : c = 32
      · rw [if_pos hc] at h
        exact toksG_ok n r ws (by simpa using hn) h
      · rw [if_neg hc] at h
        cases h
    · rw [if_neg ht] at h
      cases e : toksG ((c :: r).drop (tokF (c :: r)).length) with
      | none =>
        rw [e] at h
        cases h
      | some vs =>
        rw [e] at h
        cases h
        have hp : 1 ≤ (tokF (c :: r)).length := List.length_pos_iff.mpr ht
        have hd : ((c :: r).drop (tokF (c :: r)).length).length = (c :: r).length - (tokF (c :: r)).length := List.length_drop
        intro x hx
        rcases List.mem_cons.mp hx with rfl | hx
        · exact ⟨ht, tokF_ok _⟩
        · exact toksG_ok n _ vs (by rw [hd]; simp at hn ⊢; omega) e x hx
theorem toksF_ok {l : Txt} {ws : List Txt} (h : toksF l = some ws) : ∀ x ∈ ws, x ≠ [] ∧ x ≠ wE := by
  unfold toksF at h
  split at h
  · cases h
  · exact toksG_ok _ l ws (Nat.le_refl _) h
theorem terms_w : ∀ (n : Nat) (ws : List Txt) (ts : List Tm), ws.length ≤ n → termsF ws = some ts → ∀ t ∈ ts, t.w ∈ ws
  | _, [], ts, _, h => by
    rw [termsF] at h
    cases h
    exact fun t ht => by cases ht
  | 0, w :: r, _, hn, _ => by simp at hn
  | n + 1, w :: r, ts, hn, h => by
    rw [List.length_cons] at hn
    rw [termsF] at h
    by_cases hf : w ∈ fieldL
    · rw [if_pos hf] at h
      rcases cut3 (w := w) (r := r) with ⟨s, x, r', rfl, e⟩ | ⟨_, e2⟩
      · rw [e] at h
        have h : ((cmpF w s x).bind fun t => (termsF r').map (t :: ·)) = some ts := h
        cases k : cmpF w s x with
        | none =>
          rw [k] at h
          cases h
        | some t =>
          rw [k] at h
          have h : (termsF r').map (t :: ·) = some ts := h
          cases k2 : termsF r' with
          | none =>
            rw [k2] at h
            cases h
          | some vs =>
            rw [k2] at h
            cases h
            intro u hu
            rcases List.mem_cons.mp hu with rfl | hu
            · rw [cmpF_w k]
              simp
            · have := terms_w n r' vs (by simp at hn; omega) k2 u hu
              simp [this]
      · rw [e2] at h
        cases h
    · rw [if_neg hf] at h
      cases k2 : termsF r with
      | none =>
        rw [k2] at h
        cases h
      | some vs =>
        rw [k2] at h
        cases h
        intro u hu
        rcases List.mem_cons.mp hu with rfl | hu
        · show w ∈ _
          simp
        · exact List.mem_cons_of_mem _ (terms_w n r vs (by omega) k2 u hu)
/-- the law's own word is the program's -/
theorem mk_read (l : Txt) : isMk l = (readF l).isSome := by
  obtain ⟨c1, c2⟩ := cut_toksF l
  unfold isMk readF
  cases h : toksF l with
  | some ws =>
    rw [c1 ws h]
    have ok := toksF_ok h
    show (match opsL ws with | none => false | some os => accA os) = ((termsF ws).bind exprF).isSome
    rw [ops_terms _ ws (Nat.le_refl _) fun x hx => (ok x hx).1]
    cases k : termsF ws with
    | none => rfl
    | some ts =>
      show accA (ts.map symT) = (exprF ts).isSome
      exact (expr_acc fun t ht => (ok _ (terms_w _ ws ts (Nat.le_refl _) k t ht)).2).symm
  | none =>
    show _ = false
    cases k : cutL l with
    | none => rfl
    | some ws =>
      show (match opsL ws with | none => false | some os => accA os) = false
      cases k2 : opsL ws with
      | none => rfl
      | some os =>
        show accA os = false
        unfold accA
        rw [decide_eq_false]
        intro q
        rcases c2 h ws k with hb | hb
        · rw [bad_au (.inl rfl) os (0, true) (bad_ops (.inl rfl) _ ws (Nat.le_refl _) hb os k2)] at q
          cases q
        · rw [bad_au (.inr rfl) os (0, true) (bad_ops (.inr rfl) _ ws (Nat.le_refl _) hb os k2)] at q
          cases q
end

/-! ## Markers: the plain texts are laid out, too -/
section
open TL SX
def shG (g : Nat) : List (Nat × Txt) → List (Nat × Txt)
  | [] => []
  | (_, w) :: r => (g, w) :: r
theorem shG_app {g : Nat} : ∀ {A B : List (Nat × Txt)}, A ≠ [] → shG g (A ++ B) = shG g A ++ B
  | [], _, h => absurd rfl h
  | (_, _) :: _, _, _ => rfl
theorem shG_snd (g : Nat) : ∀ A : List (Nat × Txt), (shG g A).map (·.2) = A.map (·.2)
  | [] => rfl
  | (_, _) :: _ => rfl
theorem lay_shG {g : Nat} {A : List (Nat × Txt)} (h : Lo A) : lay (shG g A) = List.replicate g 32 ++ lay A := by
  obtain ⟨w, qs, rfl⟩ := lo_zero h
  simp [shG, lay]
theorem lay_app (A B : List (Nat × Txt)) : lay (A ++ B) = lay A ++ lay B := by simp [lay]
theorem Lo.app {A B : List (Nat × Txt)} {g : Nat} (a : Lo A) (b : Lo B) (k : g = 0 → ∀ w w', (A.map (·.2)).getLast? = some w → (B.map (·.2)).head? = some w' → Gap w w') : Lo (A ++ shG g B) := by
  induction b with
  | @one w =>
    obtain ⟨qs, g0, x, rfl⟩ := lo_ne a
    exact .snoc a (fun e => k e x w (by simp) rfl)
  | @snoc ps g1 g2 w1 w2 h k2 ih =>
    have k' : g = 0 → ∀ w w', (A.map (·.2)).getLast? = some w → ((ps ++ [(g1, w1)]).map (·.2)).head? = some w' → Gap w w' := fun e w w' h1 h2 => k e w w' h1 (by
      rw [List.map_append, List.head?_append, h2]
      rfl)
    have i := ih k'
    rw [shG_app (by simp), ← List.append_assoc]
    cases ps with
    | nil => exact .snoc (ps := A) i k2
    | cons p ps =>
      have e : A ++ shG g (p :: ps ++ [(g1, w1)]) = (A ++ shG g (p :: ps)) ++ [(g1, w1)] := by
        rw [shG_app (by simp), List.append_assoc]
      rw [e] at i ⊢
      exact .snoc i k2
theorem one_lay (w : Txt) : lay [(0, w)] = w := by simp [lay]
/-- brackets around what is laid out -/
theorem par_lo {ps : List (Nat × Txt)} (h : Lo ps) : ∃ qs, Lo qs ∧ lay qs = [40] ++ lay ps ++ [41] ∧ qs.map (·.2) = [40] :: (ps.map (·.2) ++ [[41]]) := by
  have h1 : Lo ([(0, [40])] ++ shG 0 ps) := Lo.app .one h (fun _ w w' e _ => .inl ⟨40, by
    have : [40] = w := by simpa using e
    rw [← this]; rfl, by decide⟩)
  have h2 : Lo ([(0, [40])] ++ shG 0 ps ++ shG 0 [(0, [41])]) := Lo.app h1 .one (fun _ w w' _ e => .inr ⟨41, by
    have : [41] = w' := by simpa using e
    rw [← this]; rfl, by decide⟩)
  refine ⟨_, h2, ?_, ?_⟩
  · rw [lay_app, lay_app, lay_shG h, lay_shG .one, one_lay, one_lay]
    simp
  · rw [List.map_append, List.map_append, shG_snd, shG_snd]
    rfl
theorem wr_lo : ∀ (t : Tr), (∀ x ∈ t.lvs, GT x) → ∃ ps ts b, Lo ps ∧ lay ps = t.wr ∧ Pcs t b ts ∧ t.bd ≤ b ∧ ps.map (·.2) = ts.flatMap tkT := by
  have wrap : ∀ (t : Tr) (k : Nat), k ≤ 4 → (∃ ps ts b, Lo ps ∧ lay ps = t.wr ∧ Pcs t b ts ∧ t.bd ≤ b ∧ ps.map (·.2) = ts.flatMap tkT) → ∃ ps ts b, Lo ps ∧ lay ps = inP t.bd k t.wr ∧ Pcs t b ts ∧ k ≤ b ∧ ps.map (·.2) = ts.flatMap tkT := by
    rintro t k hk ⟨ps, ts, b, h1, h2, h3, h4, h5⟩
    by_cases hb : t.bd < k
    · obtain ⟨qs, q1, q2, q3⟩ := par_lo h1
      exact ⟨qs, _, 4, q1, by rw [q2, h2]; exact (if_pos hb).symm, .par h3, hk, by rw [q3, h5, par_tok]⟩
    · exact ⟨ps, ts, b, h1, by rw [h2]; exact (if_neg hb).symm, h3, by omega, h5⟩
  intro t
  induction t with
  | lf x =>
    intro g
    have gt := g x (by simp [Tr.lvs])
    by_cases hf : x.w ∈ fieldL
    · have l1 : Lo ([(0, x.w)] ++ [(1, x.s)]) := .snoc (ps := []) .one (fun e => absurd e (by decide))
      have l2 : Lo ([(0, x.w)] ++ [(1, x.s)] ++ [(1, txV x.v)]) := .snoc l1 (fun e => absurd e (by decide))
      refine ⟨_, [x], 4, l2, ?_, .lf gt.op, Nat.le_refl _, ?_⟩
      · show _ = txTm x
        unfold txTm
        rw [if_pos hf]
        simp [lay]
      · have : tkT x = [x.w, x.s, txV x.v] := if_pos hf
        simp [this]
    · refine ⟨_, [x], 4, .one (w := x.w), ?_, .lf gt.op, Nat.le_refl _, ?_⟩
      · show _ = txTm x
        unfold txTm
        rw [if_neg hf, one_lay]
      · have : tkT x = [x.w] := if_neg hf
        simp [this]
  | no t ih =>
    intro g
    obtain ⟨ps, ts, b, h1, h2, h3, h4, h5⟩ := wrap t 3 (by decide) (ih g)
    refine ⟨[(0, wNot)] ++ shG 1 ps, opT wNot :: ts, 3, Lo.app .one h1 (fun e => absurd e (by decide)), ?_, .no h3 h4, Nat.le_refl _, ?_⟩
    · rw [lay_app, lay_shG h1, one_lay, h2]
      show _ = wNot ++ [32] ++ inP t.bd 3 t.wr
      simp
    · rw [List.map_append, shG_snd, h5, List.flatMap_cons, (word_tk (x := wNot) (by decide)).2]
      rfl
  | bi a t u ih ik =>
    intro g
    have h4a : bo a ≤ 4 := (by decide : ∀ a, bo a ≤ 4) a
    obtain ⟨ps, ts, b, h1, h2, h3, h4, h5⟩ := wrap t (bo a) h4a (ih fun x hx => g x (by simp [Tr.lvs, hx]))
    obtain ⟨qs, us, c, k1, k2, k3, k4, k5⟩ := wrap u (bo a) h4a (ik fun x hx => g x (by simp [Tr.lvs, hx]))
    have l1 : Lo (ps ++ shG 1 [(0, wOp a)]) := Lo.app h1 .one (fun e => absurd e (by decide))
    refine ⟨ps ++ shG 1 [(0, wOp a)] ++ shG 1 qs, ts ++ opT (wOp a) :: us, bo a, Lo.app l1 k1 (fun e => absurd e (by decide)), ?_, .bi h3 k3 h4 k4, Nat.le_refl _, ?_⟩
    · rw [lay_app, lay_app, lay_shG k1, lay_shG .one, one_lay, h2, k2]
      show _ = inP t.bd (bo a) t.wr ++ [32] ++ wOp a ++ [32] ++ inP u.bd (bo a) u.wr
      simp
    · rw [List.map_append, List.map_append, shG_snd, shG_snd, h5, k5, List.flatMap_append, List.flatMap_cons, (word_tk (op_mem a)).2]
      simp
theorem pfx_shw : ∀ (t : Tr), (∀ x ∈ t.lvs, Shw x) → ∀ x ∈ t.pfx, Shw x := by
  have op : ∀ x ∈ ([[40], [41], wNot, wAnd, wOr] : List Txt), Shw (opT x) := by
    intro x hx
    simp only [List.mem_cons, List.not_mem_nil, or_false] at hx
    rcases hx with rfl | rfl | rfl | rfl | rfl <;> exact ⟨by decide, by decide, by decide, fun n e => by cases e⟩
  intro t
  induction t with
  | lf x => exact fun h => h
  | no t ih =>
    intro h x hx
    rcases List.mem_append.mp (show x ∈ t.pfx ++ [opT wNot] from hx) with hx | hx
    · exact ih h x hx
    · rw [List.mem_singleton.mp hx]
      exact op _ (by decide)
  | bi a t u ih ik =>
    intro h x hx
    rcases List.mem_append.mp (show x ∈ t.pfx ++ u.pfx ++ [opT (wOp a)] from hx) with hx | hx
    · rcases List.mem_append.mp hx with hx | hx
      · exact ih (fun y hy => h y (by simp [Tr.lvs, hy])) x hx
      · exact ik (fun y hy => h y (by simp [Tr.lvs, hy])) x hx
    · rw [List.mem_singleton.mp hx]
      exact op _ (op_mem a)
/-- what a marker read from t's text holds: steps of a tree that is the same as t -/
def Like (t : Tr) (us : List Tm) : Prop := ∃ u, Eqv u t ∧ us = u.pfx
theorem Like.str {t : Tr} {us : List Tm} (h : Like t us) (g : ∀ x ∈ t.lvs, GT x) : us.length = t.sz ∧ us ≠ [] ∧ (∀ x ∈ us, Shw x) ∧ txR [] us = some [(t.wr, t.bd)] := by
  obtain ⟨u, e, rfl⟩ := h
  have gl : ∀ x ∈ u.lvs, GT x := fun x hx => g x (by rw [← e.lvs]; exact hx)
  have hl : u.pfx.length = t.sz := by rw [pfx_sz, e.sz]
  refine ⟨hl, fun q => ?_, pfx_shw u (fun x hx => (gl x hx).sh), ?_⟩
  · rw [q] at hl
    cases t <;> simp [Tr.sz] at hl
  · rw [txR_pfx u (fun x hx => (gl x hx).op), e.wr, e.bd]
theorem Like.no {t : Tr} {us : List Tm} (h : Like t us) : Like (.no t) (us ++ [opT wNot]) := by
  obtain ⟨u, e, rfl⟩ := h
  exact ⟨.no u, e.no, rfl⟩
theorem Like.bi {a : Bool} {t t' : Tr} {us ws : List Tm} (h : Like t us) (k : Like t' ws) : Like (.bi a t t') (us ++ ws ++ [opT (wOp a)]) := by
  obtain ⟨u, e, rfl⟩ := h
  obtain ⟨v, f, rfl⟩ := k
  exact ⟨.bi a u v, e.bi f, rfl⟩
theorem read_like {t : Tr} {b : Nat} {ts : List Tm} {ps : List (Nat × Txt)} (h : Pcs t b ts) (g : ∀ x ∈ t.lvs, GT x) (hl : Lo ps) (e : ps.map (·.2) = ts.flatMap tkT) : ∃ us, readF (lay ps) = some us ∧ Like t us := by
  obtain ⟨u, q, r⟩ := read_lo h g hl e
  exact ⟨_, r, u, q, rfl⟩
theorem read_wr {t : Tr} (g : ∀ x ∈ t.lvs, GT x) : ∃ us, readF t.wr = some us ∧ Like t us := by
  obtain ⟨ps, ts, b, h1, h2, h3, h4, h5⟩ := wr_lo t g
  obtain ⟨us, r, l⟩ := read_like h3 g h1 h5
  rw [h2] at r
  exact ⟨us, r, l⟩
end

/-! ## Refused markers: what is read is a tree, and its text is read as the same -/
section
open TL SX
def frL : Fr → List Tm
  | .bi _ t => t.lvs
  | _ => []
def FrOk (Pl : Tm → Prop) (F : List Fr) : Prop := ∀ f ∈ F, ∀ x ∈ frL f, Pl x
theorem red_lvs {Pl : Tm → Prop} {f : Fr} {t : Tr} (h : ∀ x ∈ frL f, Pl x) (k : ∀ x ∈ t.lvs, Pl x) : ∀ x ∈ (f.red t).lvs, Pl x := by
  intro x hx
  cases f with
  | par => exact k x hx
  | no => exact k x hx
  | bi a u =>
    rcases List.mem_append.mp (show x ∈ u.lvs ++ t.lvs from hx) with q | q
    · exact h x q
    · exact k x q
theorem shut_lvs {Pl : Tm → Prop} (b : Nat) : ∀ (F : List Fr) (t : Tr), FrOk Pl F → (∀ x ∈ t.lvs, Pl x) → FrOk Pl (shut b F t).1 ∧ ∀ x ∈ (shut b F t).2.lvs, Pl x
  | [], t, hF, ht => ⟨hF, ht⟩
  | f :: F, t, hF, ht => by
    unfold shut
    by_cases e : b ≤ f.b
    · rw [if_pos e]
      exact shut_lvs b F (f.red t) (fun g hg => hF g (List.mem_cons_of_mem _ hg)) (red_lvs (hF f (by simp)) ht)
    · rw [if_neg e]
      exact ⟨hF, ht⟩
theorem shut_head (b : Nat) : ∀ (F : List Fr) (t : Tr) (f : Fr) (G : List Fr), (shut b F t).1 = f :: G → f.b < b
  | [], t, f, G, h => by cases h
  | g :: F, t, f, G, h => by
    unfold shut at h
    by_cases e : b ≤ g.b
    · rw [if_pos e] at h
      exact shut_head b F _ f G h
    · rw [if_neg e] at h
      cases h
      omega
/-- the machine's states are frames, and a tree beside them -/
def MTree (Pl : Tm → Prop) (m : Ms) : Prop := ∃ F, FrOk Pl F ∧ (m = (stL F, F.map Fr.w, true) ∨ ∃ t : Tr, (∀ x ∈ t.lvs, Pl x) ∧ m = (stL F ++ t.pfx, F.map Fr.w, false))
theorem step_tree {Pl : Tm → Prop} {m m' : Ms} {t : Tm} (h : MTree Pl m) (ht : t.w ∈ operL → Pl t) (e : stepM m t = some m') : MTree Pl m' := by
  obtain ⟨F, hF, h⟩ := h
  rcases h with rfl | ⟨u, hu, rfl⟩
  · unfold stepM at e
    rw [if_pos rfl] at e
    by_cases h1 : t.w = [40] ∨ t.w = wNot
    · rw [if_pos h1] at e
      cases e
      rcases h1 with h1 | h1
      · refine ⟨.par :: F, fun f hf => ?_, .inl ?_⟩
        · rcases List.mem_cons.mp hf with rfl | hf
          · exact fun x hx => by cases hx
          · exact hF f hf
        · show (stL F, t.w :: F.map Fr.w, true) = (stL F ++ [], [40] :: F.map Fr.w, true)
          rw [h1, List.append_nil]
      · refine ⟨.no :: F, fun f hf => ?_, .inl ?_⟩
        · rcases List.mem_cons.mp hf with rfl | hf
          · exact fun x hx => by cases hx
          · exact hF f hf
        · show (stL F, t.w :: F.map Fr.w, true) = (stL F ++ [], wNot :: F.map Fr.w, true)
          rw [h1, List.append_nil]
    · rw [if_neg h1] at e
      by_cases h2 : t.w ∈ operL
      · rw [if_pos h2] at e
        cases e
        refine ⟨F, hF, .inr ⟨.lf t, fun x hx => ?_, rfl⟩⟩
        rw [List.mem_singleton.mp (show x ∈ [t] from hx)]
        exact ht h2
      · rw [if_neg h2] at e
        cases e
  · unfold stepM at e
    rw [if_neg (by decide : ¬ (false = true))] at e
    by_cases h1 : t.w = wAnd ∨ t.w = wOr
    · rw [if_pos h1] at e
      obtain ⟨a, ha⟩ : ∃ a, t.w = wOp a := by
        rcases h1 with q | q
        · exact ⟨true, q⟩
        · exact ⟨false, q⟩
      have hb : 1 ≤ bnd t.w := by rw [ha]; cases a <;> decide
      have eb : bnd t.w = bo a := by rw [ha]; cases a <;> rfl
      have pe : popF (bnd t.w) (F.map Fr.w) (stL F ++ u.pfx) = _ := pop_shut hb F u
      obtain ⟨k1, k2⟩ := shut_lvs (Pl := Pl) (bnd t.w) F u hF hu
      have e : some ((popF (bnd t.w) (F.map Fr.w) (stL F ++ u.pfx)).2, t.w :: (popF (bnd t.w) (F.map Fr.w) (stL F ++ u.pfx)).1, true) = some m' := e
      rw [pe] at e
      cases e
      refine ⟨.bi a (shut (bnd t.w) F u).2 :: (shut (bnd t.w) F u).1, fun f hf => ?_, .inl ?_⟩
      · rcases List.mem_cons.mp hf with rfl | hf
        · exact k2
        · exact k1 f hf
      · show (_, t.w :: _, true) = (_, wOp a :: _, true)
        rw [ha]
        rfl
    · rw [if_neg h1] at e
      by_cases h2 : t.w = [41]
      · rw [if_pos h2] at e
        have pe : popF 1 (F.map Fr.w) (stL F ++ u.pfx) = _ := pop_shut (Nat.le_refl 1) F u
        obtain ⟨k1, k2⟩ := shut_lvs (Pl := Pl) 1 F u hF hu
        have e : (match (popF 1 (F.map Fr.w) (stL F ++ u.pfx)).1 with | _ :: r => some ((popF 1 (F.map Fr.w) (stL F ++ u.pfx)).2, r, false) | [] => none) = some m' := e
        rw [pe] at e
        have hp := shut_head 1 F u
        cases q : (shut 1 F u).1 with
        | nil =>
          rw [q] at e
          cases e
        | cons f G =>
          rw [q] at e k1
          have hp := hp f G q
          have e : some (stL (f :: G) ++ (shut 1 F u).2.pfx, G.map Fr.w, false) = some m' := e
          cases e
          have fp : f = .par := by
            cases f with
            | par => rfl
            | no => exact absurd hp (by show ¬ (3 < 1); decide)
            | bi a _ => exact absurd hp (by have := bo_pos a; show ¬ (bo a < 1); omega)
          subst fp
          exact ⟨G, fun g hg => k1 g (List.mem_cons_of_mem _ hg), .inr ⟨(shut 1 F u).2, k2, by show (stL G ++ [] ++ _, _, _) = _; rw [List.append_nil]⟩⟩
      · rw [if_neg h2] at e
        cases e
theorem run_tree {Pl : Tm → Prop} : ∀ (ts : List Tm) (m m' : Ms), MTree Pl m → (∀ t ∈ ts, t.w ∈ operL → Pl t) → runM m ts = some m' → MTree Pl m'
  | [], m, m', h, _, e => by
    cases e
    exact h
  | t :: ts, m, m', h, ht, e => by
    have e : (stepM m t).bind (fun m1 => runM m1 ts) = some m' := e
    cases k : stepM m t with
    | none =>
      rw [k] at e
      cases e
    | some m1 =>
      rw [k] at e
      exact run_tree ts m1 m' (step_tree h (ht t (by simp)) k) (fun x hx => ht x (List.mem_cons_of_mem _ hx)) e
theorem shut_all : ∀ (F : List Fr) (t : Tr), [40] ∉ F.map Fr.w → (shut 1 F t).1 = []
  | [], _, _ => rfl
  | f :: F, t, h => by
    have hf : 1 ≤ f.b := by
      cases f with
      | par => exact absurd (by simp [Fr.w]) h
      | no => decide
      | bi a _ => exact bo_pos a
    rw [shut, if_pos hf]
    exact shut_all F _ fun q => h (by rw [List.map_cons]; exact List.mem_cons_of_mem _ q)
theorem expr_tree {Pl : Tm → Prop} {ts us : List Tm} (ht : ∀ t ∈ ts, t.w ∈ operL → Pl t) (e : exprF ts = some us) : ∃ u : Tr, us = u.pfx ∧ ∀ x ∈ u.lvs, Pl x := by
  unfold exprF at e
  cases k : runM ([], [], true) ts with
  | none =>
    rw [k] at e
    cases e
  | some m =>
    rw [k] at e
    obtain ⟨F, hF, h⟩ := run_tree ts _ m ⟨[], fun f hf => (by cases hf), .inl rfl⟩ ht k
    rcases h with rfl | ⟨t, hl, rfl⟩
    · cases e
    · have e : (if [40] ∈ F.map Fr.w then none else some (stL F ++ t.pfx ++ (F.map Fr.w).map opT)) = some us := e
      by_cases q : [40] ∈ F.map Fr.w
      · rw [if_pos q] at e
        cases e
      · rw [if_neg q] at e
        cases e
        obtain ⟨_, e2⟩ := shut_end F t (shut_all F t q)
        exact ⟨_, e2, (shut_lvs 1 F t hF hl).2⟩
/-! ### how long -/
theorem pop_len (b : Nat) : ∀ (h : List Txt) (s : List Tm), (popF b h s).1.length + (popF b h s).2.length = h.length + s.length
  | [], s => rfl
  | x :: r, s => by
    unfold popF
    by_cases e : b ≤ bnd x
    · rw [if_pos e, pop_len b r]
      simp only [List.length_append, List.length_cons, List.length_nil]
      omega
    · rw [if_neg e]
theorem step_len {m m' : Ms} {t : Tm} (e : stepM m t = some m') : m'.1.length + m'.2.1.length ≤ m.1.length + m.2.1.length + 1 := by
  obtain ⟨s, h, wn⟩ := m
  unfold stepM at e
  cases wn with
  | true =>
    rw [if_pos rfl] at e
    by_cases h1 : t.w = [40] ∨ t.w = wNot
    · rw [if_pos h1] at e
      cases e
      show s.length + (t.w :: h).length ≤ s.length + h.length + 1
      simp only [List.length_cons]
      omega
    · rw [if_neg h1] at e
      by_cases h2 : t.w ∈ operL
      · rw [if_pos h2] at e
        cases e
        show (s ++ [t]).length + h.length ≤ s.length + h.length + 1
        simp only [List.length_append, List.length_cons, List.length_nil]
        omega
      · rw [if_neg h2] at e
        cases e
  | false =>
    rw [if_neg (by decide : ¬ (false = true))] at e
    by_cases h1 : t.w = wAnd ∨ t.w = wOr
    · rw [if_pos h1] at e
      cases e
      have := pop_len (bnd t.w) h s
      show (popF (bnd t.w) h s).2.length + (t.w :: (popF (bnd t.w) h s).1).length ≤ s.length + h.length + 1
      simp only [List.length_cons]
      omega
    · rw [if_neg h1] at e
      by_cases h2 : t.w = [41]
      · rw [if_pos h2] at e
        have hp := pop_len 1 h s
        have e : (match (popF 1 h s).1 with | _ :: r => some ((popF 1 h s).2, r, false) | [] => none) = some m' := e
        cases q : (popF 1 h s).1 with
        | nil =>
          rw [q] at e
          cases e
        | cons x r =>
          rw [q] at e hp
          cases e
          show (popF 1 h s).2.length + r.length ≤ s.length + h.length + 1
          simp only [List.length_cons] at hp
          omega
      · rw [if_neg h2] at e
        cases e
theorem run_len : ∀ (ts : List Tm) (m m' : Ms), runM m ts = some m' → m'.1.length + m'.2.1.length ≤ m.1.length + m.2.1.length + ts.length
  | [], m, m', e => by
    cases e
    exact Nat.le_refl _
  | t :: ts, m, m', e => by
    have e : (stepM m t).bind (fun m1 => runM m1 ts) = some m' := e
    cases k : stepM m t with
    | none =>
      rw [k] at e
      cases e
    | some m1 =>
      rw [k] at e
      have h1 := step_len k
      have h2 := run_len ts m1 m' e
      simp only [List.length_cons]
      omega
theorem expr_len {ts us : List Tm} (e : exprF ts = some us) : us.length ≤ ts.length := by
  unfold exprF at e
  cases k : runM ([], [], true) ts with
  | none =>
    rw [k] at e
    cases e
  | some m =>
    rw [k] at e
    have hl := run_len ts _ m k
    obtain ⟨s, h, wn⟩ := m
    cases wn with
    | true => cases e
    | false =>
      have e : (if [40] ∈ h then none else some (s ++ h.map opT)) = some us := e
      by_cases q : [40] ∈ h
      · rw [if_pos q] at e
        cases e
      · rw [if_neg q] at e
        cases e
        simp only [List.length_append, List.length_map, List.length_nil] at hl ⊢
        omega
/-! ### the terms of a text -/
theorem num_fin : ∀ n : Fin 100, numL n.val ≠ [] ∧ (numL n.val).length ≤ 2 ∧ ∀ c ∈ numL n.val, isLD c = true := by decide +kernel
theorem sgn_len : ∀ s ∈ lvSigns, s.length ≤ 2 := by decide
theorem fld_len : ∀ w ∈ fieldL, w.length ≤ 7 := by decide
theorem two_lv : ∀ s : Txt, s = [61, 61] ∨ s = [33, 61] → s ∈ lvSigns := by
  rintro s (rfl | rfl) <;> decide
theorem low_ld {c : Nat} (h : isLow c = true) : isLD c = true := by
  unfold isLD
  rw [h]
  rfl
def Lt24 (t : Tm) : Prop := t.w.length ≤ 7 ∧ t.s.length ≤ 2 ∧ (txV t.v).length ≤ 12
theorem cmp_gt {w s x : Txt} {t : Tm} (hw : w ∈ fieldL) (h : cmpF w s x = some t) : GT t ∧ Lt24 t := by
  have hl := fld_len w hw
  unfold cmpF at h
  by_cases e : w = wLevel
  · rw [if_pos e] at h
    cases k : nTL 99 x with
    | none =>
      rw [k] at h
      cases h
    | some n =>
      rw [k] at h
      obtain ⟨_, hn⟩ := nTL99 k
      obtain ⟨n1, n2, n3⟩ := num_fin ⟨n, by omega⟩
      by_cases q : s ∈ lvSigns
      · simp only [q, if_true] at h
        cases h
        have hs := sgn_len s q
        have n2 : (numL n).length ≤ 2 := n2
        refine ⟨⟨field_oper w hw, ?_, ⟨?_, ?_, ?_, ?_⟩, fun _ => ⟨q, n1, n3⟩⟩, hl, hs, ?_⟩
        · unfold TmOk
          rw [if_pos (show (⟨w, s, .inr n⟩ : Tm).w ∈ fieldL from hw)]
          show cmpF w s (numL n) = _
          unfold cmpF
          rw [if_pos e, nTL_num99 hn]
          simp only [q, if_true]
        · show w.length ≤ 100
          omega
        · show s.length ≤ 100
          omega
        · show (numL n).length ≤ 100
          omega
        · intro m em
          cases em
          omega
        · show (numL n).length ≤ 12
          omega
      · simp only [q, if_false] at h
        cases h
  · rw [if_neg e] at h
    by_cases q : (s = [61, 61] ∨ s = [33, 61]) ∧ wordT x = true
    · rw [if_pos q] at h
      cases h
      have hs := sgn_len s (two_lv s q.1)
      have hx : 1 ≤ x.length ∧ x.length ≤ 12 ∧ x.all isLow = true := by
        have := q.2
        unfold wordT at this
        simpa only [Bool.and_eq_true, decide_eq_true_eq] using this
      refine ⟨⟨field_oper w hw, ?_, ⟨?_, ?_, ?_, ?_⟩, fun _ => ⟨two_lv s q.1, ?_, ?_⟩⟩, hl, hs, hx.2.1⟩
      · unfold TmOk
        rw [if_pos (show (⟨w, s, .inl x⟩ : Tm).w ∈ fieldL from hw)]
        show cmpF w s x = _
        unfold cmpF
        rw [if_neg e, if_pos q]
      · show w.length ≤ 100
        omega
      · show s.length ≤ 100
        omega
      · show x.length ≤ 100
        omega
      · intro m em
        cases em
      · exact List.length_pos_iff.mp hx.1
      · exact fun c hc => low_ld (List.all_eq_true.mp hx.2.2 c hc)
    · rw [if_neg q] at h
      cases h
theorem alw_gt {w : Txt} (h : w = wAlways ∨ w = wNever) : GT (opT w) ∧ Lt24 (opT w) := by
  refine ⟨?_, ?_⟩
  · rcases h with rfl | rfl
    · exact gt_all true
    · exact gt_all false
  · rcases h with rfl | rfl <;> exact ⟨by decide, by decide, by decide⟩
theorem terms_gt : ∀ (n : Nat) (ws : List Txt) (ts : List Tm), ws.length ≤ n → termsF ws = some ts → ∀ t ∈ ts, t.w ∈ operL → GT t ∧ Lt24 t
  | _, [], ts, _, h => by
    rw [termsF] at h
    cases h
    exact fun t ht => by cases ht
  | 0, w :: r, _, hn, _ => by simp at hn
  | n + 1, w :: r, ts, hn, h => by
    rw [List.length_cons] at hn
    rw [termsF] at h
    by_cases hf : w ∈ fieldL
    · rw [if_pos hf] at h
      rcases cut3 (w := w) (r := r) with ⟨s, x, r', rfl, e⟩ | ⟨_, e2⟩
      · rw [e] at h
        have h : ((cmpF w s x).bind fun t => (termsF r').map (t :: ·)) = some ts := h
        cases k : cmpF w s x with
        | none =>
          rw [k] at h
          cases h
        | some t =>
          rw [k] at h
          have h : (termsF r').map (t :: ·) = some ts := h
          cases k2 : termsF r' with
          | none =>
            rw [k2] at h
            cases h
          | some vs =>
            rw [k2] at h
            cases h
            intro u hu ho
            rcases List.mem_cons.mp hu with rfl | hu
            · exact cmp_gt hf k
            · exact terms_gt n r' vs (by simp at hn; omega) k2 u hu ho
      · rw [e2] at h
        cases h
    · rw [if_neg hf] at h
      cases k2 : termsF r with
      | none =>
        rw [k2] at h
        cases h
      | some vs =>
        rw [k2] at h
        cases h
        intro u hu ho
        rcases List.mem_cons.mp hu with rfl | hu
        · exact alw_gt ((oper_field w ho).resolve_left hf)
        · exact terms_gt n r vs (by omega) k2 u hu ho
theorem inP_le (b k : Nat) (x : Txt) : (inP b k x).length ≤ x.length + 2 := by
  unfold inP
  split
  · simp only [List.length_append, List.length_cons, List.length_nil]
    omega
  · omega
theorem wr_24 : ∀ (t : Tr), (∀ x ∈ t.lvs, Lt24 x) → t.wr.length ≤ 24 * t.sz
  | .lf x, h => by
    obtain ⟨a, b, c⟩ := h x (by simp [Tr.lvs])
    show (txTm x).length ≤ 24 * 1
    unfold txTm
    split
    · simp only [List.length_append, List.length_cons, List.length_nil]
      omega
    · omega
  | .no t, h => by
    have := wr_24 t h
    have := inP_le t.bd 3 t.wr
    show (wNot ++ [32] ++ inP t.bd 3 t.wr).length ≤ 24 * (t.sz + 1)
    simp only [List.length_append, List.length_cons, List.length_nil, show wNot.length = 3 from rfl]
    omega
  | .bi a t u, h => by
    have := wr_24 t (fun x hx => h x (by simp [Tr.lvs, hx]))
    have := wr_24 u (fun x hx => h x (by simp [Tr.lvs, hx]))
    have := inP_le t.bd (bo a) t.wr
    have := inP_le u.bd (bo a) u.wr
    have hw : (wOp a).length ≤ 3 := by cases a <;> decide
    show (inP t.bd (bo a) t.wr ++ [32] ++ wOp a ++ [32] ++ inP u.bd (bo a) u.wr).length ≤ 24 * (t.sz + u.sz + 1)
    simp only [List.length_append, List.length_cons, List.length_nil]
    omega
/-- what a text is read as: a tree whose text is read as the same -/
theorem read_tree {l : Txt} {us : List Tm} (h : readF l = some us) : ∃ u : Tr, Like u us ∧ (∀ x ∈ u.lvs, GT x) ∧ u.wr.length ≤ 24 * l.length ∧ us.length ≤ l.length := by
  unfold readF at h
  cases k : toksF l with
  | none =>
    rw [k] at h
    cases h
  | some ws =>
    rw [k] at h
    have h : (termsF ws).bind exprF = some us := h
    cases k2 : termsF ws with
    | none =>
      rw [k2] at h
      cases h
    | some ts =>
      rw [k2] at h
      have h : exprF ts = some us := h
      obtain ⟨u, rfl, hu⟩ := expr_tree (Pl := fun t => GT t ∧ Lt24 t) (terms_gt _ ws ts (Nat.le_refl _) k2) h
      have l1 := expr_len h
      have l2 := termsF_len _ ws ts (Nat.le_refl _) k2
      have l3 := (toksF_len k).1
      have l4 := wr_24 u fun x hx => (hu x hx).2
      have l5 := pfx_sz u
      refine ⟨u, ⟨u, Eqv.rfl' u, rfl⟩, fun x hx => (hu x hx).1, ?_, by omega⟩
      have : u.sz ≤ l.length := by omega
      omega
end

/-! ## Refused markers: the law's tokens -/
section
variable {P : Program} {w : World} {K : PySem.W.Frag} {mg : Str → Option Value} {base : Heap} {D : Ad}
open TL SX
theorem cont32 (c : Nat) : (S [32]).cps.contains c = decide (c = 32) := by
  rw [Bool.eq_iff_iff, decide_eq_true_eq]
  show (#[32] : Array Nat).contains c = true ↔ _
  simp
theorem strip_eq {l : List Nat} (h : ¬ (l.head? = some 32 ∨ l.getLast? = some 32)) : Txt.stripChars (S l) (S [32]) = S l := by
  have g : ∀ c, c ≠ 32 → (S [32]).cps.contains c = false := fun c hc => by rw [cont32, decide_eq_false hc]
  have e1 : (S l).cps.toList.takeWhile ((S [32]).cps.contains) = [] := tw0 l fun c hc => g c fun e => h (.inl (by rw [hc, e]))
  have e2 : ((S l).cps.toList.drop 0).reverse.takeWhile ((S [32]).cps.contains) = [] := tw0 l.reverse fun c hc => g c fun e => h (.inr (by rw [← List.head?_reverse, hc, e]))
  have e0 : stripLo ((S [32]).cps.contains) true (S l) = 0 := by
    unfold stripLo
    rw [if_pos rfl, e1] <;> rfl
  have e3 : stripHi ((S [32]).cps.contains) true (S l) 0 = (S l).length := by
    unfold stripHi
    rw [if_pos rfl, e2] <;> rfl
  unfold Txt.stripChars Txt.stripBy stripSame
  rw [e0, e3]
  exact if_pos (by simp)
theorem strip_ne {l : List Nat} (h : l.head? = some 32 ∨ l.getLast? = some 32) : Txt.stripChars (S l) (S [32]) ≠ S l := by
  intro e
  unfold Txt.stripChars at e
  rw [PyProof.Rows.stripBy_eq] at e
  have hl : l ≠ [] := by
    rintro rfl
    simp at h
  have len : l.length ≤ (stripHi ((S [32]).cps.contains) true (S l) (stripLo ((S [32]).cps.contains) true (S l))) - stripLo ((S [32]).cps.contains) true (S l) := by
    have this := (congrArg Str.length e).trans (S_len l)
    have h3 : ∀ a b : Nat, Str.length (Builtin.Str.strSub (S l) a b) ≤ b - a := fun a b => by
      show ((S l).cps.extract a b).size ≤ _
      rw [Array.size_extract]
      omega
    exact this ▸ h3 _ _
  have hi : stripHi ((S [32]).cps.contains) true (S l) (stripLo ((S [32]).cps.contains) true (S l)) ≤ l.length := by
    unfold stripHi
    rw [if_pos rfl, S_len]
    omega
  have pos : 0 < l.length := List.length_pos_iff.mpr hl
  have lo0 : stripLo ((S [32]).cps.contains) true (S l) = 0 := by omega
  rw [lo0] at len hi
  rcases h with h | h
  · have : 0 < stripLo ((S [32]).cps.contains) true (S l) := by
      unfold stripLo
      rw [if_pos rfl]
      show 0 < (l.takeWhile _).length
      cases l with
      | nil => exact absurd rfl hl
      | cons c r =>
        have : c = 32 := by simpa using h
        rw [List.takeWhile_cons, cont32, decide_eq_true this]
        simp
    omega
  · have : 0 < (l.reverse.takeWhile ((S [32]).cps.contains)).length := by
      rw [← List.head?_reverse] at h
      cases k : l.reverse with
      | nil =>
        rw [k] at h
        cases h
      | cons c r =>
        rw [k] at h
        have : c = 32 := by simpa using h
        rw [List.takeWhile_cons, cont32, decide_eq_true this]
        simp
    have e2 : stripHi ((S [32]).cps.contains) true (S l) 0 = l.length - (l.reverse.takeWhile ((S [32]).cps.contains)).length := by
      unfold stripHi
      rw [if_pos rfl, S_len]
      rfl
    rw [e2] at len
    omega
theorem chain_rd {σ : L2.St} {H : Hp} {Q : VK} {i c a b : Nat} {lo hi : Str} (ha : lo.cps.toList = [a]) (hb : hi.cps.toList = [b]) (hv : σ[i]? = some (some (V.str ⟨#[c]⟩))) (h : Q (.bl (decide (a ≤ c) && decide (c ≤ b))) H) :
    tChain (fun x y H Q => ∃ i j, x = V.str i ∧ y = V.str j ∧ Q (V.bl !decide (j.cps.toList < i.cps.toList)) H) (fun x y H Q => ∃ i j, x = V.str i ∧ y = V.str j ∧ Q (V.bl !decide (j.cps.toList < i.cps.toList)) H) (tC (V.str lo)) (tVar i) (tC (V.str hi)) σ H Q := by
  have lt : ∀ x y : Nat, (!decide ([y] < [x])) = decide (x ≤ y) := fun x y => by
    have : decide ([y] < [x]) = decide (y < x) := decide_eq_decide.mpr (by
      constructor
      · intro h
        rcases List.cons_lt_cons_iff.mp h with h | ⟨_, h⟩
        · exact h
        · cases h
      · intro h
        exact List.cons_lt_cons_iff.mpr (.inl h))
    rw [this]
    by_cases e : x ≤ y
    · rw [decide_eq_true e, decide_eq_false (by omega)]
      rfl
    · rw [decide_eq_false e, decide_eq_true (by omega)]
      rfl
  refine ⟨_, hv, lo, _, rfl, rfl, _, rfl, ?_⟩
  rw [ha, show (⟨#[c]⟩ : Str).cps.toList = [c] from rfl, lt]
  by_cases e : a ≤ c
  · rw [decide_eq_true e] at h ⊢
    refine (if_pos rfl).mpr ⟨_, _, rfl, rfl, ?_⟩
    rw [hb, show (⟨#[c]⟩ : Str).cps.toList = [c] from rfl, lt]
    exact h
  · rw [decide_eq_false e] at h ⊢
    exact h
theorem isld_rd {σ : L2.St} {H : Hp} {Q : VK} {i c : Nat} (hv : σ[i]? = some (some (V.str ⟨#[c]⟩))) (h : Q (.bl (isLD c)) H) :
    tOrV (tChain (fun x y H Q => ∃ i j, x = V.str i ∧ y = V.str j ∧ Q (V.bl !decide (j.cps.toList < i.cps.toList)) H) (fun x y H Q => ∃ i j, x = V.str i ∧ y = V.str j ∧ Q (V.bl !decide (j.cps.toList < i.cps.toList)) H) (tC (V.str (("a" : String) : Str))) (tVar i) (tC (V.str (("z" : String) : Str))))
      (tChain (fun x y H Q => ∃ i j, x = V.str i ∧ y = V.str j ∧ Q (V.bl !decide (j.cps.toList < i.cps.toList)) H) (fun x y H Q => ∃ i j, x = V.str i ∧ y = V.str j ∧ Q (V.bl !decide (j.cps.toList < i.cps.toList)) H) (tC (V.str (("0" : String) : Str))) (tVar i) (tC (V.str (("9" : String) : Str)))) σ H Q := by
  refine chain_rd (a := 97) (b := 122) (by decide +kernel) (by decide +kernel) hv ⟨_, rfl, ?_⟩
  have e : isLD c = ((decide (97 ≤ c) && decide (c ≤ 122)) || (decide (48 ≤ c) && decide (c ≤ 57))) := by
    unfold isLD isLow isDig
    rw [Bool.decide_and, Bool.decide_and]
  rw [e] at h
  cases hb : (decide (97 ≤ c) && decide (c ≤ 122)) with
  | true =>
    rw [hb] at h
    exact h
  | false =>
    rw [hb] at h
    refine chain_rd (a := 48) (b := 57) (by decide +kernel) (by decide +kernel) hv ?_
    exact h
theorem cut1_len {F F' : List Txt} {last c i : Nat} (h : cut1 F last c = some F') (k : ∀ x ∈ F, x.length ≤ i) : F'.length ≤ F.length + 1 ∧ (∀ x ∈ F', x.length ≤ i + 1) ∧ (c ≠ 32 → F' ≠ []) := by
  have add : addF c F = some F' → F'.length ≤ F.length + 1 ∧ (∀ x ∈ F', x.length ≤ i + 1) ∧ (c ≠ 32 → F' ≠ []) := by
    intro e
    cases F with
    | nil => cases e
    | cons x r =>
      cases e
      refine ⟨by simp, fun y hy => ?_, fun _ => by simp⟩
      rcases List.mem_cons.mp hy with rfl | hy
      · have := k x (by simp)
        simp only [List.length_append, List.length_cons, List.length_nil]
        omega
      · exact Nat.le_succ_of_le (k y (List.mem_cons_of_mem _ hy))
  unfold cut1 at h
  by_cases h1 : isLD c = true ∧ spcl last = false
  · rw [if_pos h1] at h
    exact add h
  · rw [if_neg h1] at h
    by_cases h2 : c = 61 ∧ last ∈ eq4 ∧ F.headD [] ∈ sg4
    · rw [if_pos h2] at h
      exact add h
    · rw [if_neg h2] at h
      by_cases h3 : brk c = true ∨ isLD c = true
      · rw [if_pos h3] at h
        cases h
        refine ⟨by simp, fun y hy => ?_, fun _ => by simp⟩
        rcases List.mem_cons.mp hy with rfl | hy
        · simp
        · exact Nat.le_succ_of_le (k y hy)
      · rw [if_neg h3] at h
        by_cases h4 : c = 32
        · rw [if_pos h4] at h
          cases h
          exact ⟨by omega, fun y hy => Nat.le_succ_of_le (k y hy), fun e => absurd h4 e⟩
        · rw [if_neg h4] at h
          cases h
theorem vH_last {x : Txt} {r : List Txt} : atI (vH (x :: r)) (-1) = some (V.str (S x)) := by
  rw [vH_cons]
  exact atI_last _ _
theorem eq_ch (c d : Nat) {t : Str} (ht : t = S [d]) : decide (V.str (⟨#[c]⟩ : Str) = V.str t) = decide (c = d) := by
  subst ht
  have := eq_S [c] [d]
  rw [show S [c] = (⟨#[c]⟩ : Str) from rfl] at this
  rw [this]
  exact decide_eq_decide.mpr (by simp)
theorem brks_sp (c : Nat) : decide (c ∈ (((" ()<>=!" : String) : Str)).cps.toList) = spcl c := by
  rw [brks_t]
  rfl
theorem brk_sp (c : Nat) : decide (c ∈ ((("()<>=!" : String) : Str)).cps.toList) = brk c := by
  rw [brk_t]
  rfl
theorem eq4_sp (c : Nat) : decide (c ∈ ((("<>=!" : String) : Str)).cps.toList) = decide (c ∈ eq4) := by
  rw [show ((("<>=!" : String) : Str)).cps.toList = eq4 from by decide +kernel]
theorem sg4_v : ([.str "<", .str ">", .str "=", .str "!"] : List V) = sg4.map fun l => V.str (S l) := by decide +kernel
theorem set_end (r : List Txt) (x v : V) : (vH r ++ [x]).set r.length v = vH r ++ [v] := by
  rw [← vH_len r]
  simp
def spCutL : Sp := fun vs H Q _ => ∃ l : List Nat, vs = [.str (S l)] ∧ l.length ≤ 50000 ∧ (cutL l = none → ∀ H', Same H H' → Q .non H') ∧
  ∀ ws p H', cutL l = some ws → H p = none → Same H H' → H' p = some (.lst (vT ws)) → Q (.ref p) H'
theorem ok_cut (T : TexW w K mg D) : FnOk P w K mg base CX0 1 D.a_cut D.d_cut P_cut spCutL := by
  refine T.cut_F.ok S_cut (fun vs H Q E h => ?_) (fun cdv A outer s H vs Q E hr h => ?_)
  · obtain ⟨l, rfl, _⟩ := h
    rfl
  · obtain ⟨l, rfl, hl, q0, q1⟩ := h
    refine ⟨_, (pss_cons (ps_par (i := 1) (j := 2) (by rfl) S_cut.nd rfl rfl (by decide) rfl rfl (pa_cons (pe_lst pa_nil) (pa_cons pe_str pa_nil)) (by rfl))
      (pss_cons (ps_if (pt_cmpR op_ne (pv 0) (pe_bm PySem.F.plainAttrs_str PySem.F.slot_str_strip PySem.F.type_str_strip mt_stripChars (pv 0) (pa_cons pe_str pa_nil)) (nomark _)) (pss_one (ps_ret pe_non)) pss_nil)
      (pss_cons (ps_for PassesOwn.never rfl (pi_str (pv 0)) (pg_name (i := 3) S_cut.nd rfl (Or.inl rfl)) (pss_cons (ps_set (i := 4) S_cut.nd rfl (Or.inl rfl) (pe_or (pe_chain op_le_str op_le_str pe_str (pv 3) pe_str) (pe_one (pe_chain op_le_str op_le_str pe_str (pv 3) pe_str))))
      (pss_cons (ps_if (PW.pt (pw_and (pt_val (pv 4)) (pw_and1 (pt_cmpR op_notIn_sign (pv 2) pe_str rfl)))) (pss_one (ps_asg (pe_op op_add_str (pe_ix ix_list (pv 1) (pe_un un_neg pe_int) (fun _ _ => rfl)) (pv 3)) (pg_sub (pv 1) (pe_un un_neg pe_int) set_list))) (pss_one (ps_if (PW.pt (pw_and (pt_cmpR op_eq (pv 3) pe_str (nomark _)) (pw_and (pt_cmpR op_in_sign (pv 2) pe_str rfl) (pw_and1 (pt_cmpR op_in_seq (pe_ix ix_list (pv 1) (pe_un un_neg pe_int) (fun _ _ => rfl)) (pe_tup (pa_cons pe_str (pa_cons pe_str (pa_cons pe_str (pa_cons pe_str pa_nil))))) rfl))))) (pss_one (ps_asg (pe_op op_add_str (pe_ix ix_list (pv 1) (pe_un un_neg pe_int) (fun _ _ => rfl)) (pv 3)) (pg_sub (pv 1) (pe_un un_neg pe_int) set_list))) (pss_one (ps_if (PW.pt (pw_or (pt_cmpR op_in_sign (pv 3) pe_str rfl) (pw_or1 (pt_val (pv 4))))) (pss_one (ps_expr (pe_bm PySem.F.plainAttrs_list PySem.F.slot_list_append PySem.F.type_list_append mt_append (pv 1) (pa_cons (pv 3) pa_nil)))) (pss_one (ps_if (pt_cmpR op_ne (pv 3) pe_str (nomark _)) (pss_one (ps_ret pe_non)) pss_nil)))))))
      (pss_one (ps_set (i := 2) S_cut.nd rfl (Or.inl rfl) (pv 3))))))
      (pss_one (ps_ret (pv 1)))))), ?_⟩
    have sl : (S l).length ≤ sizeLine := by rw [S_len]; exact szL (by omega)
    refine ⟨by show 0 ≤ sizeLine; decide, fun p hp => ⟨_, _, rfl, ?_⟩⟩
    refine ⟨_, rfl, _, rfl, rfl, _, _, rfl, rfl, sl, rfl, _, rfl, ?_⟩
    have s1 : Same H (upd H p (.lst [])) := same_new hp
    have h1p : (upd H p (.lst [])) p = some (.lst (vH [])) := upd_same
    revert s1 h1p
    generalize upd H p (.lst []) = H1
    intro s1 h1p
    rw [spc]
    unfold cutL at q0 q1
    by_cases h1 : l.head? = some 32 ∨ l.getLast? = some 32
    · rw [if_pos h1] at q0
      have e : (!decide (V.str (S l) = V.str (Txt.stripChars (S l) (S [32])))) = true := by
        rw [decide_eq_false (fun e => strip_ne h1 (V.str.inj e).symm)]
        rfl
      rw [e]
      exact iteT (q0 rfl H1 s1)
    · rw [if_neg h1] at q0 q1
      have e : (!decide (V.str (S l) = V.str (Txt.stripChars (S l) (S [32])))) = false := by
        rw [strip_eq h1, decide_eq_true rfl]
        rfl
      rw [e]
      refine iteF ?_
      refine ⟨_, rfl, S l, rfl, for_it (walk_str (z := S l)) (fun i σ H' => ∃ (F : List Txt) (last : Nat) (o3 o4 : Option V), σ = [some (.str (S l)), some (.ref p), some (.str (S [last])), o3, o4] ∧ Same H H' ∧ H' p = some (.lst (vH F)) ∧ F.length ≤ i ∧ (∀ x ∈ F, x.length ≤ i) ∧ (last ≠ 32 → F ≠ []) ∧ cutR [] 32 l = cutR F last (l.drop i)) ⟨[], 32, _, _, rfl, s1, h1p, Nat.le_refl _, (fun x hx => by cases hx), (fun e => absurd rfl e), rfl⟩ (fun _ _ _ _ _ => trivial) ?_ ?_⟩
      · rintro i x σ H2 H3 hi ⟨F, last, o3, o4, rfl, s2, h2p, hF, hFx, hne, hcut⟩ ⟨rfl, c, hc, rfl⟩
        have hc' : l[i]? = some c := by simpa using hc
        show tOrV _ _ _ _ _
        refine isld_rd rfl ?_
        refine nx_to ?_
        change tSeq _ _ _ [some (.str (S l)), some (.ref p), some (.str (S [last])), some (.str ⟨#[c]⟩), some (.bl (isLD c))] _
        refine seq_mid (fun σ H' => ∃ F', σ = [some (.str (S l)), some (.ref p), some (.str (S [last])), some (.str ⟨#[c]⟩), some (.bl (isLD c))] ∧ Same H H' ∧ H' p = some (.lst (vH F')) ∧ cut1 F last c = some F') ?_ ?_
        · rintro σ' H4 ⟨F', rfl, s4, h4p, e4⟩
          obtain ⟨k1, k2, k3⟩ := cut1_len e4 hFx
          have hd : l.drop i = c :: l.drop (i + 1) := by
            obtain ⟨hi', e⟩ := List.getElem?_eq_some_iff.mp hc'
            rw [List.drop_eq_getElem_cons hi', e]
          refine ⟨_, rfl, F', c, _, _, rfl, s4, h4p, by omega, k2, k3, ?_⟩
          rw [hcut, hd]
          show (cut1 F last c).bind _ = _
          rw [e4]
          rfl
        · intro N hN
          have app : ∀ (H' : Hp), Same H H' → H' p = some (.lst (vH F)) → cut1 F last c = some ([c] :: F) → N [some (.str (S l)), some (.ref p), some (.str (S [last])), some (.str ⟨#[c]⟩), some (.bl (isLD c))] (upd H' p (.lst (vH F ++ [.str ⟨#[c]⟩]))) := by
            intro H' s5 h5 e5
            refine hN _ _ ⟨[c] :: F, rfl, same_upd s5 hp, ?_, e5⟩
            rw [upd_same, vH_cons]
          have addN : ∀ (H' : Hp) (x : Txt) (r : List Txt), F = x :: r → Same H H' → H' p = some (.lst (vH F)) → cut1 F last c = addF c F → N [some (.str (S l)), some (.ref p), some (.str (S [last])), some (.str ⟨#[c]⟩), some (.bl (isLD c))] (upd H' p (.lst ((vH F).set r.length (.str (S x ++ ⟨#[c]⟩))))) := by
            rintro H' x r rfl s5 h5 e5
            refine hN _ _ ⟨(x ++ [c]) :: r, rfl, same_upd s5 hp, ?_, e5⟩
            rw [upd_same, vH_cons, vH_cons, set_end]
            show some (HO.lst (vH r ++ [V.str (S x ++ S [c])])) = _
            rw [S_cat]
          have slF : ∀ {x : Txt}, x ∈ F → (S x).length + (⟨#[c]⟩ : Str).length ≤ sizeLine := fun hx => by
            have h1 := hFx _ hx
            have h2 : i < l.length := (List.getElem?_eq_some_iff.mp hc').1
            rw [S_len, show (⟨#[c]⟩ : Str) = S [c] from rfl, S_len]
            exact szL (by simp only [List.length_cons, List.length_nil]; omega)
          have szF : (vH F).length < sizeLine := by
            have h2 : i < l.length := (List.getElem?_eq_some_iff.mp hc').1
            rw [vH_len]
            exact szT (by omega)
          have ixl : ∀ {x : Txt} {r : List Txt}, F = x :: r → ixN (vH F).length (-1) = some r.length := by
            rintro x r rfl
            rw [vH_len]
            unfold ixN
            rw [if_neg (by decide), if_pos (by simp only [List.length_cons]; omega)]
            congr 1
            simp only [List.length_cons]
            omega
          cases g1 : isLD c with
          | true =>
            obtain ⟨n1, n2, n3, n4, n5⟩ := ld_plain g1
            refine ⟨_, rfl, _, rfl, iteT ⟨_, rfl, last, _, rfl, rfl, _, rfl, ?_⟩⟩
            rw [brks_sp]
            cases g2 : spcl last with
            | false =>
              cases F with
              | nil => exact absurd rfl (hne (fun e => by rw [e] at g2; exact absurd g2 (by decide)))
              | cons x r =>
                refine iteT ⟨_, rfl, 1, rfl, p, _, _, _, rfl, rfl, SqL.of h2p, vH_last, _, rfl, _, _, rfl, rfl, slF (by simp), _, rfl, 1, rfl, p, _, _, _, rfl, rfl, h2p, ixl rfl, ?_⟩
                rw [← g1]
                exact addN H3 x r rfl s2 h2p (by unfold cut1; rw [if_pos ⟨g1, g2⟩])
            | true =>
              refine iteF ⟨_, rfl, rfl, _, rfl, ?_⟩
              rw [eq_ch c 61 (by decide +kernel), decide_eq_false n3]
              refine iteF ⟨_, rfl, c, _, rfl, rfl, _, rfl, ?_⟩
              rw [brk_sp, n2]
              refine iteF ⟨_, rfl, _, rfl, iteT ⟨_, rfl, .inl ⟨rfl, _, SqL.of h2p⟩, _, rfl, p, _, _, rfl, rfl, h2p, szF, ?_⟩⟩
              rw [← g1]
              exact app H3 s2 h2p (by unfold cut1; rw [if_neg (fun q => by rw [g2] at q; exact absurd q.2 (by decide)), if_neg (fun q => n3 q.1), if_pos (.inr g1)])
          | false =>
            refine ⟨_, rfl, _, rfl, iteF ⟨_, rfl, rfl, _, rfl, ?_⟩⟩
            rw [eq_ch c 61 (by decide +kernel)]
            have n1 : ¬ (isLD c = true ∧ spcl last = false) := fun q => by rw [g1] at q; exact absurd q.1 (by decide)
            by_cases c6 : c = 61
            · rw [decide_eq_true c6]
              have hb : brk c = true := by rw [c6]; rfl
              refine iteT ⟨_, rfl, last, _, rfl, rfl, _, rfl, ?_⟩
              rw [eq4_sp]
              by_cases g2 : last ∈ eq4
              · rw [decide_eq_true g2]
                cases F with
                | nil => exact absurd rfl (hne (fun e => by rw [e] at g2; exact absurd g2 (by decide)))
                | cons x r =>
                  refine iteT ⟨_, rfl, 1, rfl, p, _, _, _, rfl, rfl, SqL.of h2p, vH_last, by show 4 ≤ sizeLine; decide, fun t ht => ⟨t, _, rfl, .inr (sqT_of upd_same), rfl, rfl, _, rfl, ?_⟩⟩
                  rw [sg4_v, inV_S]
                  have s5 := s2.trans (same_new (o := .tup (sg4.map fun l => V.str (S l))) ht)
                  have h5 := same_new (o := .tup (sg4.map fun l => V.str (S l))) ht _ _ h2p
                  by_cases g3 : x ∈ sg4
                  · rw [decide_eq_true g3]
                    refine iteT ⟨_, rfl, 1, rfl, p, _, _, _, rfl, rfl, SqL.of h5, vH_last, _, rfl, _, _, rfl, rfl, slF (by simp), _, rfl, 1, rfl, p, _, _, _, rfl, rfl, h5, ixl rfl, ?_⟩
                    rw [← g1]
                    exact addN _ x r rfl s5 h5 (by unfold cut1; rw [if_neg n1, if_pos ⟨c6, g2, g3⟩])
                  · rw [decide_eq_false g3]
                    refine iteF ⟨_, rfl, c, _, rfl, rfl, _, rfl, ?_⟩
                    rw [brk_sp, hb]
                    refine iteT ⟨_, rfl, .inl ⟨rfl, _, SqL.of h5⟩, _, rfl, p, _, _, rfl, rfl, h5, szF, ?_⟩
                    rw [← g1]
                    exact app _ s5 h5 (by unfold cut1; rw [if_neg n1, if_neg (fun q => g3 q.2.2), if_pos (.inl hb)])
              · rw [decide_eq_false g2]
                refine iteF ⟨_, rfl, c, _, rfl, rfl, _, rfl, ?_⟩
                rw [brk_sp, hb]
                refine iteT ⟨_, rfl, .inl ⟨rfl, _, SqL.of h2p⟩, _, rfl, p, _, _, rfl, rfl, h2p, szF, ?_⟩
                rw [← g1]
                exact app H3 s2 h2p (by unfold cut1; rw [if_neg n1, if_neg (fun q => g2 q.2.1), if_pos (.inl hb)])
            · rw [decide_eq_false c6]
              refine iteF ⟨_, rfl, c, _, rfl, rfl, _, rfl, ?_⟩
              rw [brk_sp]
              cases hb : brk c with
              | true =>
                refine iteT ⟨_, rfl, .inl ⟨rfl, _, SqL.of h2p⟩, _, rfl, p, _, _, rfl, rfl, h2p, szF, ?_⟩
                rw [← g1]
                exact app H3 s2 h2p (by unfold cut1; rw [if_neg n1, if_neg (fun q => c6 q.1), if_pos (.inl hb)])
              | false =>
                refine iteF ⟨_, rfl, _, rfl, iteF ⟨_, rfl, rfl, _, rfl, ?_⟩⟩
                rw [eq_ch c 32 (by decide +kernel)]
                have nb : ¬ (brk c = true ∨ isLD c = true) := by rw [hb, g1]; decide
                by_cases c3 : c = 32
                · rw [decide_eq_true c3]
                  refine iteF ?_
                  rw [← g1]
                  exact hN _ _ ⟨F, rfl, s2, h2p, by unfold cut1; rw [if_neg n1, if_neg (fun q => c6 q.1), if_neg nb, if_pos c3]⟩
                · rw [decide_eq_false c3]
                  refine iteT ?_
                  refine q0 ?_ H3 s2
                  rw [hcut]
                  have hd : l.drop i = c :: l.drop (i + 1) := by
                    obtain ⟨hi', e⟩ := List.getElem?_eq_some_iff.mp hc'
                    rw [List.drop_eq_getElem_cons hi', e]
                  rw [hd]
                  show Option.map _ ((cut1 F last c).bind _) = none
                  have : cut1 F last c = none := by unfold cut1; rw [if_neg n1, if_neg (fun q => c6 q.1), if_neg nb, if_neg c3]
                  rw [this]
                  rfl
      · rintro σ H2 ⟨F, last, o3, o4, rfl, s2, h2p, hF, hFx, hne, hcut⟩
        have e : l.drop (S l).cps.size = [] := by simp
        rw [e] at hcut
        refine ⟨_, rfl, ?_⟩
        exact q1 F.reverse p H2 (by rw [hcut]; rfl) hp s2 h2p
end

/-! ## Refused markers: the law's signs -/
section
variable {P : Program} {w : World} {K : PySem.W.Frag} {mg : Str → Option Value} {base : Heap} {D : Ad}
open TL SX
theorem in100 (c : List Nat) : inV (.str (S c)) (((List.range 100).map fun n => S (numL n)).map V.str) = (nTL 99 c).isSome := by
  unfold inV
  rw [Bool.eq_iff_iff, List.any_eq_true]
  constructor
  · rintro ⟨x, hx, e⟩
    simp only [List.mem_map, List.mem_range] at hx
    obtain ⟨_, ⟨n, hn, rfl⟩, rfl⟩ := hx
    have e1 : S (numL n) = S c := by simpa [eqV] using e
    have e2 := S_inj e1
    rw [← e2, nTL_num99 (by omega)]
    rfl
  · intro h
    obtain ⟨n, hn⟩ := Option.isSome_iff_exists.mp h
    obtain ⟨rfl, h99⟩ := nTL99 hn
    exact ⟨.str (S (numL n)), List.mem_map.mpr ⟨_, List.mem_map.mpr ⟨n, List.mem_range.mpr (by omega), rfl⟩, rfl⟩, by simp [eqV]⟩
theorem at3 {a b c : V} : atI [a, b, c] 0 = some a ∧ atI [a, b, c] 1 = some b ∧ atI [a, b, c] 2 = some c := ⟨rfl, rfl, rfl⟩
theorem int_eq (n k : Nat) : decide (V.int (n : Int) = V.int (k : Int)) = decide (n = k) := decide_eq_decide.mpr ⟨fun q => by have := V.int.inj q; omega, fun q => by rw [q]⟩
theorem two2_v : ([.str "==", .str "!="] : List V) = two2.map fun l => V.str (S l) := by decide +kernel
def spIsCmp : Sp := fun vs H Q _ => ∃ (a : Addr) (x : Txt) (r : List Txt), vs = [.ref a] ∧ H a = some (.lst (vT (x :: r))) ∧ r.length ≤ 2 ∧ (∀ y ∈ x :: r, y.length ≤ 60000) ∧ x ∈ fieldL ∧ ∀ H', Same H H' → Q (.bl (isCmpL (x :: r))) H'
theorem ok_is_comparison (T : TexW w K mg D) : FnOk P w K mg base CX0 1 D.a_is_comparison D.d_is_comparison P_is_comparison spIsCmp := by
  refine T.is_comparison_F.ok S_is_comparison (fun vs H Q E h => ?_) (fun cdv A outer s H vs Q E hr h => ?_)
  · obtain ⟨a, x, r, rfl, _⟩ := h
    rfl
  · obtain ⟨a, x, r, rfl, ha, hr2, hlen, hf, q⟩ := h
    refine ⟨_, (pss_cons (ps_if (PW.pt (pw_or (pt_cmpR op_lt (pe_callB call_len_seq (by rfl) T.b_len (by decide +kernel) (pa_cons (pv 0) pa_nil)) pe_int (nomark _)) (pw_or1 (pt_cmpR op_notIn_seq (pe_ix ix_list (pv 0) pe_int (fun _ _ => rfl)) (pe_tup (pa_cons pe_str (pa_cons pe_str (pa_cons pe_str pa_nil)))) rfl)))) (pss_one (ps_ret pe_bl)) pss_nil)
      (pss_cons (ps_if (pt_cmpR op_eq (pe_ix ix_list (pv 0) pe_int (fun _ _ => rfl)) pe_str (nomark _)) (pss_one (ps_ret (pe_and (pe_cmpR op_in_seq (pe_ix ix_list (pv 0) pe_int (fun _ _ => rfl)) (pe_tup (pa_cons pe_str (pa_cons pe_str (pa_cons pe_str (pa_cons pe_str (pa_cons pe_str (pa_cons pe_str pa_nil))))))) rfl) (pe_one (pe_cmpR op_in_seq (pe_ix ix_list (pv 0) pe_int (fun _ _ => rfl)) (pe_lc (own := [(("_law_number" : Str), 2)]) (g := gName 2) (tt := tYes) rfl S_is_comparison.nd (pi_range1 rfl T.b_range (pa_cons pe_int pa_nil)) (blkOk_by (N := N_is_comparison) (sc := defScope s_is_comparison) (by decide +kernel)) (fun _ _ _ _ _ => pg_name (i := 2) S_is_comparison.nd rfl (Or.inl rfl)) (fun _ _ _ _ _ => pts_nil) (fun _ _ _ _ _ => (pe_callTy call_str_int (by rfl) T.b_str (by decide +kernel) (pa_cons (pv 2) pa_nil)))) rfl))))) pss_nil)
      (pss_cons (ps_setLc (i := 1) (own := [(("_law_sign" : Str), 3)]) (g := gName 3) rfl S_is_comparison.nd rfl rfl (sw_true rfl rfl rfl (by decide +kernel)) (pi_str (pe_ix ix_list (pv 0) pe_int (fun _ _ => rfl))) (blkOk_by (N := N_is_comparison) (sc := defScope s_is_comparison) (by decide +kernel)) (fun _ _ _ _ _ => pg_name (i := 3) S_is_comparison.nd rfl (Or.inl rfl)) (fun _ _ _ _ _ => (pts_one (pt_chain op_le_str op_le_str pe_str (pv 3) pe_str))) (fun _ _ _ _ _ => (pv 3)))
      (pss_one (ps_ret (pe_and (pe_cmpR op_in_seq (pe_ix ix_list (pv 0) pe_int (fun _ _ => rfl)) (pe_tup (pa_cons pe_str (pa_cons pe_str pa_nil))) rfl) (pe_and (pe_cmpR op_eq (pe_callB call_len_seq (by rfl) T.b_len (by decide +kernel) (pa_cons (pv 1) pa_nil)) (pe_callB call_len_str (by rfl) T.b_len (by decide +kernel) (pa_cons (pe_ix ix_list (pv 0) pe_int (fun _ _ => rfl)) pa_nil)) (nomark _)) (pe_one (pe_cmpR op_lt (pe_callB call_len_seq (by rfl) T.b_len (by decide +kernel) (pa_cons (pv 1) pa_nil)) pe_int (nomark _)))))))))), ?_⟩
    refine ⟨_, rfl, a, _, rfl, .inl (SqL.of ha), _, _, rfl, rfl, _, rfl, ite2 (fun h1 => ?_) (fun h1 => ?_)⟩
    · have : isCmpL (x :: r) = false := by
        match r, hr2 with
        | [], _ => rfl
        | [_], _ => rfl
        | [_, _], _ => exact absurd (of_decide_eq_true h1) (by show ¬ ((3 : Int) < 3); decide)
      rw [this] at q
      exact iteT (q H (Same.refl H))
    · match r, hr2 with
      | [], _ => exact absurd rfl h1
      | [_], _ => exact absurd rfl h1
      | [sg, y], _ =>
      have hy : y.length ≤ 60000 := hlen y (by simp)
      refine ⟨_, rfl, a, _, _, _, rfl, rfl, SqL.of ha, at3.1, by show 3 ≤ sizeLine; decide, fun t ht => ⟨t, _, rfl, .inr (sqT_of upd_same), rfl, rfl, _, rfl, ?_⟩⟩
      rw [fld_v, inV_S, decide_eq_true hf]
      refine iteF ?_
      have s1 := same_new (o := .tup (fieldL.map fun l => V.str (S l))) ht
      have h1a := s1 _ _ ha
      revert s1 h1a
      generalize upd H t (.tup (fieldL.map fun l => V.str (S l))) = H1
      intro s1 h1a
      rw [isCmp3] at q
      refine ⟨_, rfl, a, _, _, _, rfl, rfl, SqL.of h1a, at3.1, rfl, _, rfl, ?_⟩
      rw [lev_t, eq_S]
      refine ite2 (fun h2 => ?_) (fun h2 => ?_)
      · rw [if_pos (of_decide_eq_true h2)] at q
        refine ⟨_, rfl, a, _, _, _, rfl, rfl, SqL.of h1a, at3.2.1, by show 6 ≤ sizeLine; decide, fun t2 ht2 => ⟨t2, _, rfl, .inr (sqT_of upd_same), rfl, rfl, _, rfl, ?_⟩⟩
        rw [lvs_v, inV_S]
        have s2 := s1.trans (same_new (o := .tup (lvSigns.map fun l => V.str (S l))) ht2)
        have h2a := same_new (o := .tup (lvSigns.map fun l => V.str (S l))) ht2 _ _ h1a
        by_cases h3 : sg ∈ lvSigns
        · rw [decide_eq_true h3] at q ⊢
          refine iteT ⟨_, rfl, a, _, _, _, rfl, rfl, SqL.of h2a, at3.2.2, 100, rfl, by decide, by decide, fun D' hD' => ?_⟩
          refine lc_range (lo := 0) (n := 100) (fun i H' => Same H H' ∧ H' D' = some (.lst (((List.range i).map fun n => S (numL n)).map V.str))) ⟨s2.trans (same_new hD'), upd_same⟩ ?_ ?_
          · rintro i H4 hi ⟨s4, h4⟩
            refine ⟨rfl, _, rfl, _, rfl, by rw [Int.zero_add]; exact log_num (by omega), ?_⟩
            refine ⟨_, h4, by rw [List.length_map, List.length_map, List.length_range]; exact szt (by omega), same_upd s4 (s2.free hD'), ?_⟩
            rw [upd_same, List.range_succ, List.map_append, List.map_append, Int.zero_add, str_num]
            rfl
          · rintro H4 ⟨s4, h4⟩
            refine ⟨D', _, rfl, .inl (SqL.of h4), rfl, ?_, ?_⟩
            · rw [List.all_eq_true]
              intro x hx
              obtain ⟨_, _, rfl⟩ := List.mem_map.mp hx
              rfl
            · rw [in100]
              exact q H4 s4
        · rw [decide_eq_false h3] at q ⊢
          exact iteF (q _ s2)
      · rw [if_neg (of_decide_eq_false (Bool.eq_false_iff.mpr h2))] at q
        refine ⟨_, rfl, a, _, _, _, rfl, rfl, SqL.of h1a, at3.2.2, S y, rfl, fun D' hD' => lc_txt isLow (fun c => .str ⟨#[c]⟩) hD' (szT (by rw [S_len]; omega)) (fun c hc H2 R S' s2 g1 g2 => ?_) (fun H2 s2 g2 => ?_)⟩
        · refine ⟨rfl, ?_⟩
          show tChain _ _ _ _ _ _ _ _
          refine chain_rd (a := 97) (b := 122) (by decide +kernel) (by decide +kernel) rfl ⟨_, rfl, ?_⟩
          have e : isLow c = (decide (97 ≤ c) && decide (c ≤ 122)) := by
            unfold isLow
            rw [Bool.decide_and]
          rw [← e]
          cases hb : isLow c with
          | true => exact iteT ⟨_, rfl, g1 hb H2 (Same.refl H2)⟩
          | false => exact iteF (g2 hb H2 (Same.refl H2))
        · have s3 := s1.trans s2
          have h3a := s2 _ _ h1a
          have el : (((S y).cps.toList.filter isLow).map fun c => V.str ⟨#[c]⟩).length = (y.filter isLow).length := by
            rw [List.length_map]
          refine ⟨_, rfl, a, _, _, _, rfl, rfl, SqL.of h3a, at3.2.1, by show 2 ≤ sizeLine; decide, fun t2 ht2 => ⟨t2, _, rfl, .inr (sqT_of upd_same), rfl, rfl, _, rfl, ?_⟩⟩
          rw [two2_v, inV_S]
          have s4 := s3.trans (same_new (o := .tup (two2.map fun l => V.str (S l))) ht2)
          have h4a := same_new (o := .tup (two2.map fun l => V.str (S l))) ht2 _ _ h3a
          have h4d := same_new (o := .tup (two2.map fun l => V.str (S l))) ht2 _ _ g2
          by_cases h3 : sg ∈ two2
          · rw [decide_eq_true h3] at q ⊢
            refine iteT ⟨_, rfl, D', _, rfl, .inl (SqL.of h4d), _, rfl, a, _, _, _, rfl, rfl, SqL.of h4a, at3.2.2, S y, rfl, by rw [S_len]; exact szL (by omega), rfl, _, rfl, ?_⟩
            rw [el, S_len, int_eq]
            by_cases h5 : (y.filter isLow).length = y.length
            · rw [decide_eq_true h5] at q ⊢
              refine iteT ⟨_, rfl, D', _, rfl, .inl (SqL.of h4d), _, _, rfl, rfl, ?_⟩
              have e : decide (((((S y).cps.toList.filter isLow).map fun c => V.str ⟨#[c]⟩).length : Int) < 13) = decide ((y.filter isLow).length < 13) := by
                rw [el]
                exact decide_eq_decide.mpr (by omega)
              rw [← e] at q
              exact q _ s4
            · rw [decide_eq_false h5] at q ⊢
              exact iteF (q _ s4)
          · rw [decide_eq_false h3] at q ⊢
            exact iteF (q _ s4)
end

/-! ## Refused markers: the law's operands -/
section
variable {P : Program} {w : World} {K : PySem.W.Frag} {mg : Str → Option Value} {base : Heap} {D : Ad}
open TL SX
theorem an_v : ([.str "always", .str "never"] : List V) = ([wAlways, wNever] : List Txt).map fun l => V.str (S l) := by decide +kernel
theorem E_t : (("E" : String) : Str) = S wE := by decide +kernel
def spOps : Sp := fun vs H Q _ => ∃ (a : Addr) (ws : List Txt), vs = [.ref a] ∧ H a = some (.lst (vT ws)) ∧ ws.length ≤ 50000 ∧ (∀ y ∈ ws, y.length ≤ 60000) ∧ (opsL ws = none → ∀ H', Same H H' → Q .non H') ∧
  ∀ os p H', opsL ws = some os → H p = none → Same H H' → H' p = some (.lst (vT os)) → os.length ≤ ws.length → Q (.ref p) H'
theorem ok_operands (T : TexW w K mg D) : FnOk P w K mg base CX0 2 D.a_operands D.d_operands P_operands spOps := by
  have G_is_comparison : FnOk P w K mg base CX0 1 D.a_is_comparison D.d_is_comparison P_is_comparison spIsCmp := ok_is_comparison T
  refine T.operands_F.ok S_operands (fun vs H Q E h => ?_) (fun cdv A outer s H vs Q E hr h => ?_)
  · obtain ⟨a, ws, rfl, _⟩ := h
    rfl
  · obtain ⟨a, ws, rfl, ha, hl, hlen, q0, q1⟩ := h
    refine ⟨_, (pss_cons (ps_par (i := 1) (j := 2) (by rfl) S_operands.nd rfl rfl (by decide) rfl rfl (pa_cons (pe_lst pa_nil) (pa_cons pe_int pa_nil)) (by rfl))
      (pss_cons (ps_while PassesOwn.never (pt_cmpR op_lt (pv 2) (pe_callB call_len_seq (by rfl) T.b_len (by decide +kernel) (pa_cons (pv 0) pa_nil)) (nomark _)) (pss_one (ps_if (pt_cmpR op_in_seq (pe_ix ix_list (pv 0) (pv 2) (fun _ _ => rfl)) (pe_tup (pa_cons pe_str (pa_cons pe_str (pa_cons pe_str pa_nil)))) rfl) (pss_cons (ps_if (pt_not (pt_val (pe_call G_is_comparison (hr.mono (by decide)) (by rfl) T.is_comparison_g T.is_comparison_F.kp T.is_comparison_b .nil pass0 (pa_cons (pe_slice sl_list (pv 0) (po_some (pv 2)) (po_some (pe_op op_add (pv 2) pe_int))) pa_nil)))) (pss_one (ps_ret pe_non)) pss_nil)
      (pss_one (ps_par (i := 1) (j := 2) (by rfl) S_operands.nd rfl rfl (by decide) rfl rfl (pa_cons (pe_op op_cat (pv 1) (pe_lst (pa_cons pe_str pa_nil))) (pa_cons (pe_op op_add (pv 2) pe_int) pa_nil)) (by rfl)))) (pss_one (ps_par (i := 1) (j := 2) (by rfl) S_operands.nd rfl rfl (by decide) rfl rfl (pa_cons (pe_op op_cat (pv 1) (pe_lst (pa_cons (pe_ifExp (pt_cmpR op_in_seq (pe_ix ix_list (pv 0) (pv 2) (fun _ _ => rfl)) (pe_tup (pa_cons pe_str (pa_cons pe_str pa_nil))) rfl) pe_str (pe_ix ix_list (pv 0) (pv 2) (fun _ _ => rfl))) pa_nil))) (pa_cons (pe_op op_add (pv 2) pe_int) pa_nil)) (by rfl))))))
      (pss_one (ps_ret (pv 1))))), ?_⟩
    refine ⟨by show 0 ≤ sizeLine; decide, fun p hp => ⟨_, _, rfl, ?_⟩⟩
    have vl : (vT ws).length = ws.length := List.length_map _
    refine while_to (fun m σ H' => ∃ (F : List Txt) (p : Addr) (k : Nat), σ = [some (.ref a), some (.ref p), some (.int ((k : Nat) : Int))] ∧ m = ws.length - k ∧ k ≤ ws.length ∧ F.length ≤ k ∧ H p = none ∧ Same H H' ∧ H' p = some (.lst (vT F)) ∧ opsL ws = (opsL (ws.drop k)).map (F ++ ·))
      (fun σ H' => ∃ (F : List Txt) (p : Addr), σ = [some (.ref a), some (.ref p), some (.int ((ws.length : Nat) : Int))] ∧ H p = none ∧ Same H H' ∧ H' p = some (.lst (vT F)) ∧ opsL ws = some F ∧ F.length ≤ ws.length) ⟨_, [], p, 0, rfl, rfl, Nat.zero_le _, Nat.le_refl _, hp, same_new hp, upd_same, by rw [List.drop_zero]; cases opsL ws <;> rfl⟩ ?_ ?_
    · rintro σ H1 ⟨F, p, rfl, hp, s1, h1p, e, hF⟩
      exact ⟨_, rfl, q1 F p H1 e hp s1 h1p hF⟩
    · rintro ex m σ H1 ⟨F, p, k, rfl, rfl, hk, hF, hp, s1, h1p, e⟩
      have h1a := s1 _ _ ha
      refine ⟨_, rfl, _, rfl, a, _, rfl, .inl (SqL.of h1a), _, _, rfl, rfl, _, rfl, ite2 (fun h3 => ?_) (fun h3 => ?_)⟩
      · have h3' := of_decide_eq_true h3
        rw [vl] at h3'
        have hlt : k < ws.length := by omega
        obtain ⟨c, r, hd⟩ : ∃ c r, ws.drop k = c :: r := List.exists_cons_of_ne_nil (by
          intro e
          have := congrArg List.length e
          rw [List.length_drop] at this
          simp at this
          omega)
        have hc : ws[k]? = some c := by
          have := congrArg List.head? hd
          rw [List.head?_drop] at this
          exact this
        have hcv : (vT ws)[k]? = some (V.str (S c)) := by
          show (ws.map _)[k]? = _
          rw [List.getElem?_map, hc]
          rfl
        rw [hd, opsL] at e
        refine ⟨fun σ H' => ∃ m', m' < ws.length - k ∧ ∃ (F : List Txt) (p : Addr) (k : Nat), σ = [some (.ref a), some (.ref p), some (.int ((k : Nat) : Int))] ∧ m' = ws.length - k ∧ k ≤ ws.length ∧ F.length ≤ k ∧ H p = none ∧ Same H H' ∧ H' p = some (.lst (vT F)) ∧ opsL ws = (opsL (ws.drop k)).map (F ++ ·), fun σ' H' h => h, ?_⟩
        refine ⟨_, rfl, _, rfl, a, _, _, _, rfl, rfl, SqL.of h1a, atI_nat hcv, by show 3 ≤ sizeLine; decide, fun t ht => ⟨t, _, rfl, .inr (sqT_of upd_same), rfl, rfl, _, rfl, ?_⟩⟩
        rw [fld_v, inV_S]
        have s2 := s1.trans (same_new (o := .tup (fieldL.map fun l => V.str (S l))) ht)
        have h2a := same_new (o := .tup (fieldL.map fun l => V.str (S l))) ht _ _ h1a
        have h2p := same_new (o := .tup (fieldL.map fun l => V.str (S l))) ht _ _ h1p
        clear h1a h1p s1
        revert s2 h2a h2p
        generalize upd H1 t (.tup (fieldL.map fun l => V.str (S l))) = H2
        intro s2 h2a h2p
        by_cases h4 : c ∈ fieldL
        · rw [decide_eq_true h4]
          rw [if_pos h4] at e
          have ecut : cutV (vT ws) (some ((k : Nat) : Int)) (some ((k : Int) + 3)) = vT ((c :: r).take 3) := by
            have := cutV_mid (xs := vT ws) (k := k) (m := k + 3) (by rw [vl]; omega)
            rw [show k + 3 - k = 3 by omega] at this
            rw [← hd, show vT ((ws.drop k).take 3) = ((vT ws).drop k).take 3 by simp [vT, List.map_take, List.map_drop]]
            exact this
          refine iteT ⟨_, rfl, _, rfl, _, rfl, _, rfl, _, _, rfl, rfl, _, rfl, a, _, rfl, SqL.of h2a, fun z hz => ?_⟩
          rw [ecut]
          have e3 : (c :: r).take 3 = c :: r.take 2 := rfl
          rw [e3] at e ⊢
          have lr : r.length = ws.length - k - 1 := by
            have := congrArg List.length hd
            rw [List.length_drop, List.length_cons] at this
            omega
          have hz' := same_new (o := .lst (vT (c :: r.take 2))) hz
          refine ⟨z, c, r.take 2, rfl, upd_same, by rw [List.length_take]; omega, fun y hy => hlen y ?_, h4, fun H3 s3 => ⟨_, rfl, ?_⟩⟩
          · have : y ∈ (ws.drop k).take 3 := by rw [hd]; exact hy
            exact List.mem_of_mem_drop (List.mem_of_mem_take this)
          · have s4 := (s2.trans hz').trans s3
            have h4p := s3 _ _ (hz' _ _ h2p)
            cases hb : isCmpL (c :: r.take 2) with
            | false =>
              rw [hb, if_neg (by decide)] at e
              refine iteT ?_
              exact q0 (by rw [e]; rfl) H3 s4
            | true =>
              rw [hb, if_pos rfl] at e
              have l3 : 2 ≤ r.length := by
                rcases cut3 (w := c) (r := r) with ⟨s, x, r', rfl, _⟩ | ⟨e1, _⟩
                · simp
                · rw [e3] at e1
                  rw [e1] at hb
                  cases hb
              refine iteF ⟨_, rfl, by show 1 ≤ sizeLine; decide, fun y hy => ⟨p, y, _, _, rfl, rfl, same_new hy _ _ h4p, upd_same, ?_, fun p2 hp2 => ⟨_, rfl, _, _, rfl, rfl, _, _, rfl, ?_⟩⟩⟩
              · rw [show (vT F).length = F.length from List.length_map _]
                exact szL (by simp only [List.length_cons, List.length_nil]; omega)
              · have sy := same_new (o := .lst [V.str (("E" : String) : Str)]) hy
                have sp2 := same_new (o := .lst (vT F ++ [V.str (("E" : String) : Str)])) hp2
                refine ⟨ws.length - (k + 3), by omega, F ++ [wE], p2, k + 3, rfl, rfl, by omega, by simp only [List.length_append, List.length_cons, List.length_nil]; omega, (s4.trans sy).free hp2, (s4.trans sy).trans sp2, ?_, ?_⟩
                · rw [upd_same, E_t]
                  simp [vT]
                · rw [e, ← List.drop_drop, hd, Option.map_map]
                  show Option.map _ (opsL (r.drop 2)) = Option.map _ (opsL (r.drop 2))
                  congr 1
                  funext x
                  simp
        · rw [decide_eq_false h4]
          rw [if_neg h4] at e
          have fin : ∀ (H' : Hp) (b : Txt), b = (if c = wAlways ∨ c = wNever then wE else c) → Same H H' → H' p = some (.lst (vT F)) → ∀ y, H' y = none → ∀ p2, (upd H' y (.lst [V.str (S b)])) p2 = none → ∃ m', m' < ws.length - k ∧ ∃ (F' : List Txt) (p' : Addr) (k' : Nat), [some (V.ref a), some (V.ref p2), some (V.int ((k : Int) + 1))] = [some (.ref a), some (.ref p'), some (.int ((k' : Nat) : Int))] ∧ m' = ws.length - k' ∧ k' ≤ ws.length ∧ F'.length ≤ k' ∧ H p' = none ∧ Same H (upd (upd H' y (.lst [V.str (S b)])) p2 (.lst (vT F ++ [V.str (S b)]))) ∧ (upd (upd H' y (.lst [V.str (S b)])) p2 (.lst (vT F ++ [V.str (S b)]))) p' = some (.lst (vT F')) ∧ opsL ws = (opsL (ws.drop k')).map (F' ++ ·) := by
            rintro H' b rfl s4 h4p y hy p2 hp2
            have sy := same_new (o := .lst [V.str (S (if c = wAlways ∨ c = wNever then wE else c))]) hy
            have sp2 := same_new (o := .lst (vT F ++ [V.str (S (if c = wAlways ∨ c = wNever then wE else c))])) hp2
            refine ⟨ws.length - (k + 1), by omega, F ++ [if c = wAlways ∨ c = wNever then wE else c], p2, k + 1, rfl, rfl, by omega, by simp only [List.length_append, List.length_cons, List.length_nil]; omega, (s4.trans sy).free hp2, (s4.trans sy).trans sp2, ?_, ?_⟩
            · rw [upd_same]
              simp [vT]
            · rw [e, ← List.drop_drop, hd, Option.map_map]
              show Option.map _ (opsL r) = Option.map _ (opsL r)
              congr 1
              funext x
              simp
          have szF : (vT F).length + 1 ≤ sizeLine := by
            rw [show (vT F).length = F.length from List.length_map _]
            exact szL (by omega)
          refine iteF ⟨_, rfl, _, rfl, _, rfl, a, _, _, _, rfl, rfl, SqL.of h2a, atI_nat hcv, by show 2 ≤ sizeLine; decide, fun t2 ht2 => ⟨t2, _, rfl, .inr (sqT_of upd_same), rfl, rfl, _, rfl, ?_⟩⟩
          rw [an_v, inV_S]
          have s3 := s2.trans (same_new (o := .tup (([wAlways, wNever] : List Txt).map fun l => V.str (S l))) ht2)
          have h3a := same_new (o := .tup (([wAlways, wNever] : List Txt).map fun l => V.str (S l))) ht2 _ _ h2a
          have h3p := same_new (o := .tup (([wAlways, wNever] : List Txt).map fun l => V.str (S l))) ht2 _ _ h2p
          by_cases h5 : c ∈ ([wAlways, wNever] : List Txt)
          · rw [decide_eq_true h5]
            have h5' : c = wAlways ∨ c = wNever := by simpa using h5
            refine iteT ⟨by show 1 ≤ sizeLine; decide, fun y hy => ⟨p, y, _, _, rfl, rfl, same_new hy _ _ h3p, upd_same, szF, fun p2 hp2 => ⟨_, rfl, _, _, rfl, rfl, _, _, rfl, ?_⟩⟩⟩
            have := fin _ wE (by rw [if_pos h5']) s3 h3p y hy p2 (by rw [← E_t]; exact hp2)
            rw [← E_t] at this
            exact this
          · rw [decide_eq_false h5]
            have h5' : ¬ (c = wAlways ∨ c = wNever) := by simpa using h5
            refine iteF ⟨_, rfl, _, rfl, a, _, _, _, rfl, rfl, SqL.of h3a, atI_nat hcv, by show 1 ≤ sizeLine; decide, fun y hy => ⟨p, y, _, _, rfl, rfl, same_new hy _ _ h3p, upd_same, szF, fun p2 hp2 => ⟨_, rfl, _, _, rfl, rfl, _, _, rfl, ?_⟩⟩⟩
            exact fin _ c (by rw [if_neg h5']) s3 h3p y hy p2 hp2
      · have : k = ws.length := by
          have := of_decide_eq_false (Bool.eq_false_iff.mpr h3)
          rw [vl] at this
          omega
        subst this
        rw [List.drop_length, opsL] at e
        exact ex _ _ ⟨F, p, rfl, hp, s1, h1p, by rw [e]; simp, hF⟩
end

/-! ## Refused markers: is it a marker? -/
section
variable {P : Program} {w : World} {K : PySem.W.Frag} {mg : Str → Option Value} {base : Heap} {D : Ad}
open TL SX
def AscL (xs : List Txt) : Prop := ∀ x ∈ xs, Asc x
theorem Asc.ok {x : Txt} (h : Asc x) : PyData.strOk (S x) = true := by
  unfold PyData.strOk
  rw [Array.all_eq_true]
  intro i hi
  have := h _ (Array.getElem_mem_toList hi)
  exact decide_eq_true (by
    have h2 : (S x).cps[i] < 128 := this
    omega)
theorem cut1_asc {F F' : List Txt} {last c : Nat} (h : cut1 F last c = some F') (k : AscL F) (hc : c < 128) : AscL F' := by
  have add : addF c F = some F' → AscL F' := by
    intro e
    cases F with
    | nil => cases e
    | cons x r =>
      cases e
      intro y hy
      rcases List.mem_cons.mp hy with rfl | hy
      · exact (k x (by simp)).app (fun d hd => by rw [List.mem_singleton.mp hd]; exact hc)
      · exact k y (List.mem_cons_of_mem _ hy)
  unfold cut1 at h
  by_cases h1 : isLD c = true ∧ spcl last = false
  · rw [if_pos h1] at h
    exact add h
  · rw [if_neg h1] at h
    by_cases h2 : c = 61 ∧ last ∈ eq4 ∧ F.headD [] ∈ sg4
    · rw [if_pos h2] at h
      exact add h
    · rw [if_neg h2] at h
      by_cases h3 : brk c = true ∨ isLD c = true
      · rw [if_pos h3] at h
        cases h
        intro y hy
        rcases List.mem_cons.mp hy with rfl | hy
        · exact fun d hd => by rw [List.mem_singleton.mp hd]; exact hc
        · exact k y hy
      · rw [if_neg h3] at h
        by_cases h4 : c = 32
        · rw [if_pos h4] at h
          cases h
          exact k
        · rw [if_neg h4] at h
          cases h
theorem cutR_asc : ∀ (l : Txt) (F : List Txt) (last : Nat) (G : List Txt), Asc l → AscL F → cutR F last l = some G → AscL G
  | [], F, _, G, _, k, h => by
    cases h
    exact k
  | c :: l, F, last, G, hl, k, h => by
    have h : (cut1 F last c).bind (fun F' => cutR F' c l) = some G := h
    cases e : cut1 F last c with
    | none =>
      rw [e] at h
      cases h
    | some F' =>
      rw [e] at h
      exact cutR_asc l F' c G (fun d hd => hl d (List.mem_cons_of_mem _ hd)) (cut1_asc e k (hl c (by simp))) h
theorem cutL_asc {l : Txt} {ws : List Txt} (hl : Asc l) (h : cutL l = some ws) : AscL ws := by
  unfold cutL at h
  split at h
  · cases h
  · cases e : cutR [] 32 l with
    | none =>
      rw [e] at h
      cases h
    | some F =>
      rw [e] at h
      cases h
      exact fun x hx => cutR_asc l [] 32 F hl (fun y hy => by cases hy) e x (List.mem_reverse.mp hx)
theorem cutR_len : ∀ (l : Txt) (F : List Txt) (last i : Nat) (G : List Txt), (∀ x ∈ F, x.length ≤ i) → cutR F last l = some G → G.length ≤ F.length + l.length ∧ ∀ x ∈ G, x.length ≤ i + l.length
  | [], F, _, i, G, k, h => by
    cases h
    exact ⟨Nat.le_refl _, k⟩
  | c :: l, F, last, i, G, k, h => by
    have h : (cut1 F last c).bind (fun F' => cutR F' c l) = some G := h
    cases e : cut1 F last c with
    | none =>
      rw [e] at h
      cases h
    | some F' =>
      rw [e] at h
      obtain ⟨a, b, _⟩ := cut1_len e k
      obtain ⟨u, v⟩ := cutR_len l F' c (i + 1) G b h
      exact ⟨by simp only [List.length_cons]; omega, fun x hx => by have := v x hx; simp only [List.length_cons]; omega⟩
theorem cutL_len {l : Txt} {ws : List Txt} (h : cutL l = some ws) : ws.length ≤ l.length ∧ ∀ x ∈ ws, x.length ≤ l.length := by
  unfold cutL at h
  split at h
  · cases h
  · cases e : cutR [] 32 l with
    | none =>
      rw [e] at h
      cases h
    | some F =>
      rw [e] at h
      cases h
      obtain ⟨a, b⟩ := cutR_len l [] 32 0 F (fun y hy => by cases hy) e
      rw [List.length_nil, Nat.zero_add] at a
      exact ⟨by rw [List.length_reverse]; exact a, fun x hx => by have := b x (List.mem_reverse.mp hx); omega⟩
theorem opsL_asc : ∀ (n : Nat) (ws os : List Txt), ws.length ≤ n → AscL ws → opsL ws = some os → AscL os
  | _, [], os, _, _, h => by
    rw [opsL] at h
    cases h
    exact fun x hx => by cases hx
  | 0, w :: r, _, hn, _, _ => by simp at hn
  | n + 1, w :: r, os, hn, k, h => by
    rw [List.length_cons] at hn
    have hE : Asc wE := (by decide : ∀ c ∈ wE, c < 128)
    rw [opsL] at h
    by_cases hf : w ∈ fieldL
    · rw [if_pos hf] at h
      by_cases hc : isCmpL ((w :: r).take 3) = true
      · rw [if_pos hc] at h
        cases e : opsL (r.drop 2) with
        | none =>
          rw [e] at h
          cases h
        | some vs =>
          rw [e] at h
          cases h
          intro x hx
          rcases List.mem_cons.mp hx with rfl | hx
          · exact hE
          · exact opsL_asc n (r.drop 2) vs (by rw [List.length_drop]; omega) (fun y hy => k y (List.mem_cons_of_mem _ (List.mem_of_mem_drop hy))) e x hx
      · rw [if_neg hc] at h
        cases h
    · rw [if_neg hf] at h
      cases e : opsL r with
      | none =>
        rw [e] at h
        cases h
      | some vs =>
        rw [e] at h
        cases h
        intro x hx
        rcases List.mem_cons.mp hx with rfl | hx
        · split
          · exact hE
          · exact k w (by simp)
        · exact opsL_asc n r vs (by omega) (fun y hy => k y (List.mem_cons_of_mem _ hy)) e x hx
/-! ### lists of texts as data -/
def tD (xs : List Txt) : PyData := .list (xs.map fun x => .str (S x))
theorem tD_dp {H : Hp} {p : Addr} {xs : List Txt} (h : H p = some (.lst (vT xs))) : Dp K H (.ref p) (tD xs) := by
  have : ∀ xs : List Txt, DpAll K H (vT xs) (xs.map fun x => PyData.str (S x)) := by
    intro xs
    induction xs with
    | nil => exact .nil
    | cons x r ih => exact .cons (.str _) ih
  exact .lst (SqL.of h) (this xs)
theorem tD_shaped {xs : List Txt} (h : AscL xs) : SeqAt.shaped (tD xs) = true := by
  have lay : ∀ xs : List Txt, AscL xs → PyData.canLayAll0 (xs.map fun x => PyData.str (S x)) = true := by
    intro xs
    induction xs with
    | nil => intro _; rfl
    | cons x r ih =>
      intro h
      show (PyData.canLay0 (.str (S x)) && PyData.canLayAll0 (r.map fun x => PyData.str (S x))) = true
      rw [ih fun y hy => h y (List.mem_cons_of_mem _ hy)]
      simp [PyData.canLay0, (h x (by simp)).ok]
  have dep : ∀ xs : List Txt, PyData.depthAll (xs.map fun x => PyData.str (S x)) = 0 := by
    intro xs
    induction xs with
    | nil => rfl
    | cons x r ih =>
      show max (PyData.depth (.str (S x))) (PyData.depthAll (r.map fun x => PyData.str (S x))) = 0
      rw [ih]
      rfl
  have e : PyData.canLay0 (tD xs) = true := by
    unfold tD
    simp only [PyData.canLay0]
    exact lay xs h
  unfold SeqAt.shaped
  rw [e]
  unfold tD
  simp only [PyData.depth, dep]
  rfl
theorem map_S : ∀ {xs ys : List Txt}, xs.map S = ys.map S → xs = ys
  | [], [], _ => rfl
  | [], _ :: _, h => by cases h
  | _ :: _, [], h => by cases h
  | x :: xs, y :: ys, h => by
    rw [List.map_cons, List.map_cons] at h
    injection h with h1 h2
    rw [S_inj h1, map_S h2]
theorem tD_eqv (xs ys : List Txt) : PyData.eqv (tD xs) (tD ys) = decide (xs = ys) := by
  have h := PySem.W.Datum.eqv (α := List Str) (xs.map S) (ys.map S)
  have e : ∀ xs : List Txt, tD xs = PySem.W.Datum.toD (xs.map S) := fun xs => by
    show PyData.list _ = PyData.list ((xs.map S).map PyData.str)
    rw [List.map_map]
    rfl
  rw [e xs, e ys, h]
  exact decide_eq_decide.mpr ⟨map_S, fun q => by rw [q]⟩
/-! ### one pass -/
theorem cut_lo {xs : List V} {m : Nat} : cutV xs none (some ((m : Nat) : Int)) = xs.take m := by
  unfold cutV
  rw [HT.sIx_nat, show HT.sIx xs.length 0 none = 0 from rfl, List.drop_zero, Nat.sub_zero]
  by_cases h : m ≤ xs.length
  · rw [Nat.min_eq_left h]
  · rw [Nat.min_eq_right (by omega), List.take_length, List.take_of_length_le (by omega)]
theorem cut_hi {xs : List V} {m : Nat} (h : m ≤ xs.length) : cutV xs (some ((m : Nat) : Int)) none = xs.drop m := by
  unfold cutV
  rw [HT.sIx_nat, HT.sIx_none, Nat.min_eq_left h]
  exact List.take_of_length_le (by rw [List.length_drop]; omega)
theorem no_red {xs : List Txt} (h : ∀ i < xs.length, ∀ r ∈ redR, (xs.drop i).take r.length ≠ r) : ¬ HasRed xs := by
  rintro ⟨A, r, B, hr, rfl⟩
  have hp : 0 < r.length := by
    have : ∀ r ∈ redR, 0 < r.length := by decide
    exact this r hr
  refine h A.length ?_ r hr ?_
  · simp only [List.length_append]
    omega
  · rw [List.append_assoc, List.drop_left, List.take_left]
theorem red_at {xs r : List Txt} {i : Nat} (h : (xs.drop i).take r.length = r) (hr : r ∈ redR) : accA (xs.take i ++ [wE] ++ xs.drop (i + r.length)) = accA xs ∧ (xs.take i ++ [wE] ++ xs.drop (i + r.length)).length < xs.length := by
  have e : xs = xs.take i ++ r ++ xs.drop (i + r.length) := by
    conv => lhs; rw [← List.take_append_drop i xs, ← List.take_append_drop r.length (xs.drop i), h, List.drop_drop]
    rw [List.append_assoc]
  have hl : 2 ≤ r.length := by
    have : ∀ r ∈ redR, 2 ≤ r.length := by decide
    exact this r hr
  refine ⟨?_, ?_⟩
  · rw [← red_acc hr, ← e]
  · have := congrArg List.length e
    simp only [List.length_append, List.length_cons, List.length_nil] at this ⊢
    omega
theorem red_asc : ∀ r ∈ redR, ∀ x ∈ r, ∀ c ∈ x, c < 128 := by decide
theorem rows_v : [V.str "not", V.str "E"] = vT [wNot, wE] ∧ [V.str "(", V.str "E", V.str ")"] = vT [[40], wE, [41]] ∧ [V.str "E", V.str "and", V.str "E"] = vT [wE, wAnd, wE] ∧ [V.str "E", V.str "or", V.str "E"] = vT [wE, wOr, wE] := by decide +kernel
def spIsMk : Sp := fun vs H Q _ => ∃ l : List Nat, vs = [.str (S l)] ∧ l.length ≤ 40000 ∧ Asc l ∧ ∀ H', Same H H' → Q (.bl (isMk l)) H'
theorem ok_is_marker (T : TexW w K mg D) : FnOk P w K mg base CX0 3 D.a_is_marker D.d_is_marker P_is_marker spIsMk := by
  have G_cut : FnOk P w K mg base CX0 1 D.a_cut D.d_cut P_cut spCutL := ok_cut T
  have G_operands : FnOk P w K mg base CX0 2 D.a_operands D.d_operands P_operands spOps := ok_operands T
  refine T.is_marker_F.ok S_is_marker (fun vs H Q E h => ?_) (fun cdv A outer s H vs Q E hr h => ?_)
  · obtain ⟨l, rfl, _⟩ := h
    rfl
  · obtain ⟨l, rfl, hl, hasc, q⟩ := h
    refine ⟨_, (pss_cons (ps_set (i := 1) S_is_marker.nd rfl (Or.inl rfl) (pe_call G_cut (hr.mono (by decide)) (by rfl) T.cut_g T.cut_F.kp T.cut_b .nil pass0 (pa_cons (pv 0) pa_nil)))
      (pss_cons (ps_set (i := 2) S_is_marker.nd rfl (Or.inl rfl) (pe_ifExp (pt_cmpR op_isN (pv 1) pe_non (nomark _)) pe_non (pe_call G_operands (hr.mono (by decide)) (by rfl) T.operands_g T.operands_F.kp T.operands_b .nil pass0 (pa_cons (pv 1) pa_nil))))
      (pss_cons (ps_if (pt_cmpR op_isN (pv 2) pe_non (nomark _)) (pss_one (ps_ret pe_bl)) pss_nil)
      (pss_cons (ps_set (i := 3) S_is_marker.nd rfl (Or.inl rfl) pe_bl)
      (pss_cons (ps_while PassesOwn.never (pt_val (pv 3)) (pss_cons (ps_set (i := 3) S_is_marker.nd rfl (Or.inl rfl) pe_bl)
      (pss_one (ps_for PassesOwn.never rfl (pi_range1 rfl T.b_range (pa_cons (pe_callB call_len_seq (by rfl) T.b_len (by decide +kernel) (pa_cons (pv 2) pa_nil)) pa_nil)) (pg_name (i := 4) S_is_marker.nd rfl (Or.inl rfl)) (pss_one (ps_for PassesOwn.never rfl (pi_tup (pe_tup (pa_cons (pe_lst (pa_cons pe_str (pa_cons pe_str pa_nil))) (pa_cons (pe_lst (pa_cons pe_str (pa_cons pe_str (pa_cons pe_str pa_nil)))) (pa_cons (pe_lst (pa_cons pe_str (pa_cons pe_str (pa_cons pe_str pa_nil)))) (pa_cons (pe_lst (pa_cons pe_str (pa_cons pe_str (pa_cons pe_str pa_nil)))) pa_nil)))))) (pg_name (i := 5) S_is_marker.nd rfl (Or.inl rfl)) (pss_one (ps_if (PW.pt (pw_and (pt_not (pt_val (pv 3))) (pw_and1 (pt_cmpR (op_eqD hr.units) (pe_slice sl_list (pv 2) (po_some (pv 4)) (po_some (pe_op op_add (pv 4) (pe_callB call_len_seq (by rfl) T.b_len (by decide +kernel) (pa_cons (pv 5) pa_nil))))) (pv 5) (nomark _))))) (pss_one (ps_par (i := 2) (j := 3) (by rfl) S_is_marker.nd rfl rfl (by decide) rfl rfl (pa_cons (pe_op op_cat (pe_op op_cat (pe_slice sl_list (pv 2) po_none (po_some (pv 4))) (pe_lst (pa_cons pe_str pa_nil))) (pe_slice sl_list (pv 2) (po_some (pe_op op_add (pv 4) (pe_callB call_len_seq (by rfl) T.b_len (by decide +kernel) (pa_cons (pv 5) pa_nil)))) po_none)) (pa_cons pe_bl pa_nil)) (by rfl))) pss_nil))))))))
      (pss_one (ps_ret (pe_cmpR (op_eqD hr.units) (pv 2) (pe_lst (pa_cons pe_str pa_nil)) (nomark _))))))))), ?_⟩
    unfold isMk at q
    refine ⟨_, rfl, l, rfl, by omega, fun e H1 s1 => ?_, fun ws pw H1 e hpw s1 h1w => ?_⟩
    · rw [e] at q
      exact ⟨_, rfl, rfl, _, rfl, iteT ⟨_, rfl, rfl, _, rfl, iteT (q H1 s1)⟩⟩
    · rw [e] at q
      have q : ∀ H', Same H H' → Q (.bl (match opsL ws with | none => false | some os => accA os)) H' := q
      obtain ⟨l1, l2⟩ := cutL_len e
      have aw := cutL_asc hasc e
      refine ⟨_, rfl, rfl, _, rfl, iteF ⟨_, rfl, pw, ws, rfl, h1w, by omega, fun y hy => Nat.le_trans (l2 y hy) (by omega), fun e2 H2 s2 => ?_, fun os p H2 e2 hp s2 h2p lo => ?_⟩⟩
      · rw [e2] at q
        exact ⟨_, rfl, rfl, _, rfl, iteT (q H2 (s1.trans s2))⟩
      · rw [e2] at q
        have q : ∀ H', Same H H' → Q (.bl (accA os)) H' := q
        have ao := opsL_asc _ ws os (Nat.le_refl _) aw e2
        refine ⟨_, rfl, rfl, _, rfl, iteF ?_⟩
        have s3 := s1.trans s2
        refine while_to (fun m σ H' => ∃ (xs : List Txt) (p : Addr) (on : Bool) (o4 o5 : Option V), σ = [some (.str (S l)), some (.ref pw), some (.ref p), some (.bl on), o4, o5] ∧ Same H H' ∧ H' p = some (.lst (vT xs)) ∧ AscL xs ∧ xs.length ≤ 40000 ∧ accA xs = accA os ∧ (on = true ∧ m = xs.length + 1 ∨ on = false ∧ m = 0 ∧ ¬ HasRed xs))
          (fun σ H' => ∃ (xs : List Txt) (p : Addr) (o4 o5 : Option V), σ = [some (.str (S l)), some (.ref pw), some (.ref p), some (.bl false), o4, o5] ∧ Same H H' ∧ H' p = some (.lst (vT xs)) ∧ AscL xs ∧ accA xs = accA os ∧ ¬ HasRed xs) ⟨_, os, p, true, _, _, rfl, s3, h2p, ao, by omega, rfl, .inl ⟨rfl, rfl⟩⟩ ?_ ?_
        · rintro σ H3 ⟨xs, p, o4, o5, rfl, s4, h3p, ax, ea, hn⟩
          refine ⟨_, rfl, by show 1 ≤ sizeLine; decide, fun z hz => ⟨tD xs, tD [wE], tD_dp (same_new hz _ _ h3p), tD_dp (by rw [upd_same, E_t]; rfl), tD_shaped ax, tD_shaped (by decide : ∀ x ∈ [wE], ∀ c ∈ x, c < 128), ?_⟩⟩
          rw [tD_eqv, ← acc_nf hn, ea]
          exact q _ (s4.trans (same_new hz))
        · rintro ex m σ H3 ⟨xs, p, on, o4, o5, rfl, s4, h3p, ax, lx, ea, hm⟩
          refine ⟨_, rfl, _, rfl, ?_⟩
          rcases hm with ⟨rfl, rfl⟩ | ⟨rfl, rfl, hn⟩
          · refine iteT ⟨fun σ' H' => ∃ m', m' < xs.length + 1 ∧ ∃ (ys : List Txt) (p : Addr) (on : Bool) (o4 o5 : Option V), σ' = [some (.str (S l)), some (.ref pw), some (.ref p), some (.bl on), o4, o5] ∧ Same H H' ∧ H' p = some (.lst (vT ys)) ∧ AscL ys ∧ ys.length ≤ 40000 ∧ accA ys = accA os ∧ (on = true ∧ m' = ys.length + 1 ∨ on = false ∧ m' = 0 ∧ ¬ HasRed ys), fun σ' H' h => h, ?_⟩
            have vl : (vT xs).length = xs.length := List.length_map _
            refine ⟨_, rfl, p, _, rfl, .inl (SqL.of h3p), _, rfl, ?_, ?_, ?_⟩
            · omega
            · rw [vl]
              omega
            · refine for_range (lo := 0) (n := (vT xs).length) (fun i σ H' => ∃ (ys : List Txt) (p : Addr) (on : Bool) (o4 o5 : Option V), σ = [some (.str (S l)), some (.ref pw), some (.ref p), some (.bl on), o4, o5] ∧ Same H H' ∧ H' p = some (.lst (vT ys)) ∧ AscL ys ∧ ys.length ≤ 40000 ∧ accA ys = accA os ∧ (on = false ∧ ys = xs ∧ (∀ j < i, ∀ r ∈ redR, (xs.drop j).take r.length ≠ r) ∨ on = true ∧ ys.length < xs.length)) ⟨xs, p, false, _, _, rfl, s4, h3p, ax, lx, ea, .inl ⟨rfl, rfl, fun j hj => absurd hj (Nat.not_lt_zero j)⟩⟩ ?_ ?_
              · rintro i σ H4 hi ⟨ys, p, on, o4, o5, rfl, s5, h4p, ay, ly, ey, hon⟩
                rw [vl] at hi
                rw [Int.zero_add]
                refine ⟨by show 2 ≤ sizeLine; decide, fun r1 hr1 => ⟨by show 3 ≤ sizeLine; decide, fun r2 hr2 => ⟨by show 3 ≤ sizeLine; decide, fun r3 hr3 => ⟨by show 3 ≤ sizeLine; decide, fun r4 hr4 => ⟨by show 4 ≤ sizeLine; decide, fun t ht => ?_⟩⟩⟩⟩⟩
                have n1 := same_new (o := .lst [V.str (("not" : String) : Str), V.str (("E" : String) : Str)]) hr1
                have n2 := same_new (o := .lst [V.str (("(" : String) : Str), V.str (("E" : String) : Str), V.str ((")" : String) : Str)]) hr2
                have n3 := same_new (o := .lst [V.str (("E" : String) : Str), V.str (("and" : String) : Str), V.str (("E" : String) : Str)]) hr3
                have n4 := same_new (o := .lst [V.str (("E" : String) : Str), V.str (("or" : String) : Str), V.str (("E" : String) : Str)]) hr4
                have n5 := same_new (o := .tup [V.ref r1, V.ref r2, V.ref r3, V.ref r4]) ht
                obtain ⟨e1, e2, e3, e4⟩ := rows_v
                rw [e1] at n1 n2 n3 n4 n5
                rw [e2] at n2 n3 n4 n5
                rw [e3] at n3 n4 n5
                rw [e4] at n4 n5
                have hrow : ∀ (j : Nat) (x : V), [V.ref r1, V.ref r2, V.ref r3, V.ref r4][j]? = some x → ∃ rj r, x = .ref rj ∧ redR[j]? = some r ∧ (upd (upd (upd (upd (upd H4 r1 (.lst (vT [wNot, wE]))) r2 (.lst (vT [[40], wE, [41]]))) r3 (.lst (vT [wE, wAnd, wE]))) r4 (.lst (vT [wE, wOr, wE]))) t (.tup [V.ref r1, V.ref r2, V.ref r3, V.ref r4])) rj = some (.lst (vT r)) := by
                  intro j x hx
                  match j, hx with
                  | 0, hx => cases hx; exact ⟨r1, _, rfl, rfl, n5 _ _ (n4 _ _ (n3 _ _ (n2 _ _ upd_same)))⟩
                  | 1, hx => cases hx; exact ⟨r2, _, rfl, rfl, n5 _ _ (n4 _ _ (n3 _ _ upd_same))⟩
                  | 2, hx => cases hx; exact ⟨r3, _, rfl, rfl, n5 _ _ (n4 _ _ upd_same)⟩
                  | 3, hx => cases hx; exact ⟨r4, _, rfl, rfl, n5 _ _ upd_same⟩
                  | j + 4, hx => cases hx
                have ht5 : (upd (upd (upd (upd (upd H4 r1 (.lst (vT [wNot, wE]))) r2 (.lst (vT [[40], wE, [41]]))) r3 (.lst (vT [wE, wAnd, wE]))) r4 (.lst (vT [wE, wOr, wE]))) t (.tup [V.ref r1, V.ref r2, V.ref r3, V.ref r4])) t = some (.tup [V.ref r1, V.ref r2, V.ref r3, V.ref r4]) := upd_same
                have s6 := s5.trans (n1.trans (n2.trans (n3.trans (n4.trans n5))))
                have h5p := n5 _ _ (n4 _ _ (n3 _ _ (n2 _ _ (n1 _ _ h4p))))
                rw [show [V.str (("not" : String) : Str), V.str (("E" : String) : Str)] = vT [wNot, wE] from e1, show [V.str (("(" : String) : Str), V.str (("E" : String) : Str), V.str ((")" : String) : Str)] = vT [[40], wE, [41]] from e2, show [V.str (("E" : String) : Str), V.str (("and" : String) : Str), V.str (("E" : String) : Str)] = vT [wE, wAnd, wE] from e3, show [V.str (("E" : String) : Str), V.str (("or" : String) : Str), V.str (("E" : String) : Str)] = vT [wE, wOr, wE] from e4]
                clear n1 n2 n3 n4 n5 hr1 hr2 hr3 hr4 ht h4p s5
                revert hrow ht5 s6 h5p
                generalize upd (upd (upd (upd (upd H4 r1 (.lst (vT [wNot, wE]))) r2 (.lst (vT [[40], wE, [41]]))) r3 (.lst (vT [wE, wAnd, wE]))) r4 (.lst (vT [wE, wOr, wE]))) t (.tup [V.ref r1, V.ref r2, V.ref r3, V.ref r4]) = H5
                intro hrow ht5 s6 h5p
                refine ⟨t, rfl, ⟨_, sqT_of ht5⟩, for_tup (K := K) (xs := [V.ref r1, V.ref r2, V.ref r3, V.ref r4]) (fun j σ H' => ∃ (ys : List Txt) (p : Addr) (on : Bool) (o5 : Option V), σ = [some (.str (S l)), some (.ref pw), some (.ref p), some (.bl on), some (.int (i : Int)), o5] ∧ Same H5 H' ∧ H' p = some (.lst (vT ys)) ∧ AscL ys ∧ ys.length ≤ 40000 ∧ accA ys = accA os ∧ (on = false ∧ ys = xs ∧ (∀ j < i, ∀ r ∈ redR, (xs.drop j).take r.length ≠ r) ∧ (∀ j' < j, ∀ r, redR[j']? = some r → (xs.drop i).take r.length ≠ r) ∨ on = true ∧ ys.length < xs.length)) ⟨ys, p, on, _, rfl, Same.refl _, h5p, ay, ly, ey, hon.imp (fun ⟨a, b, c⟩ => ⟨a, b, c, fun j hj => absurd hj (Nat.not_lt_zero j)⟩) id⟩ (fun j σ H' _ h => by
                  obtain ⟨_, _, _, _, _, s, _⟩ := h
                  exact sqT_of (s _ _ ht5)) ?_ ?_⟩
                · rintro j x σ H6 hx ⟨zs, p2, on2, o5, rfl, s7, h6p, az, lz, ez, hon2⟩
                  obtain ⟨rj, r, rfl, hrj, hr5⟩ := hrow j x hx
                  have h6r := s7 _ _ hr5
                  have hrm : r ∈ redR := List.mem_of_getElem? hrj
                  have vr : (vT r).length = r.length := List.length_map _
                  have rle : r.length ≤ 3 := (by decide : ∀ r ∈ redR, r.length ≤ 3) r hrm
                  refine ⟨_, rfl, _, rfl, ?_⟩
                  rcases hon2 with ⟨rfl, rfl, hno, hj⟩ | ⟨rfl, hlt⟩
                  · refine iteT ⟨_, rfl, _, rfl, _, rfl, _, rfl, _, rfl, rj, _, rfl, .inl (SqL.of h6r), _, _, rfl, rfl, _, rfl, p2, _, rfl, SqL.of h6p, fun z hz => ?_⟩
                    have ecut : cutV (vT zs) (some ((i : Nat) : Int)) (some ((i : Int) + ((vT r).length : Int))) = vT ((zs.drop i).take r.length) := by
                      have := cutV_mid (xs := vT zs) (k := i) (m := i + r.length) (by rw [vl]; omega)
                      rw [show i + r.length - i = r.length by omega] at this
                      rw [vr, show vT ((zs.drop i).take r.length) = ((vT zs).drop i).take r.length by simp [vT, List.map_take, List.map_drop]]
                      exact this
                    rw [ecut]
                    have sz := same_new (o := .lst (vT ((zs.drop i).take r.length))) hz
                    have acut : AscL ((zs.drop i).take r.length) := fun x hx => az x (List.mem_of_mem_drop (List.mem_of_mem_take hx))
                    refine ⟨_, rfl, tD _, tD r, tD_dp upd_same, tD_dp (sz _ _ h6r), tD_shaped acut, tD_shaped (red_asc r hrm), _, rfl, ?_⟩
                    rw [tD_eqv]
                    by_cases hq : (zs.drop i).take r.length = r
                    · rw [decide_eq_true hq]
                      refine iteT ⟨_, rfl, _, rfl, _, rfl, p2, _, rfl, SqL.of (sz _ _ h6p), fun u hu => ?_⟩
                      have su := sz.trans (same_new (o := .lst (cutV (vT zs) none (some ((i : Nat) : Int)))) hu)
                      refine ⟨by show 1 ≤ sizeLine; decide, fun v hv => ⟨u, v, _, _, rfl, rfl, same_new hv _ _ upd_same, upd_same, ?_, fun w1 hw1 => ?_⟩⟩
                      · have := cutV_length (vT zs) none (some ((i : Nat) : Int))
                        rw [show (vT zs).length = zs.length from List.length_map _] at this
                        exact szL (by simp only [List.length_cons, List.length_nil]; omega)
                      have sv := su.trans (same_new (o := .lst [V.str (("E" : String) : Str)]) hv)
                      have sw := sv.trans (same_new (o := .lst (cutV (vT zs) none (some ((i : Nat) : Int)) ++ [V.str (("E" : String) : Str)])) hw1)
                      refine ⟨_, rfl, _, rfl, _, rfl, rj, _, rfl, .inl (SqL.of (sw _ _ h6r)), _, _, rfl, rfl, _, rfl, p2, _, rfl, SqL.of (sw _ _ h6p), fun y hy => ?_⟩
                      have ecut2 : cutV (vT zs) (some ((i : Int) + ((vT r).length : Int))) none = vT (zs.drop (i + r.length)) := by
                        have hle : i + r.length ≤ (vT zs).length := by
                          have := congrArg List.length hq
                          rw [List.length_take, List.length_drop] at this
                          rw [vl]
                          have h2 : 2 ≤ r.length := (by decide : ∀ r ∈ redR, 2 ≤ r.length) r hrm
                          omega
                        have := cut_hi (xs := vT zs) (m := i + r.length) hle
                        rw [vr, show vT (zs.drop (i + r.length)) = (vT zs).drop (i + r.length) by simp [vT]]
                        exact this
                      rw [ecut2]
                      have sy := sw.trans (same_new (o := .lst (vT (zs.drop (i + r.length)))) hy)
                      obtain ⟨r1', r2'⟩ := red_at hq hrm
                      have econ : cutV (vT zs) none (some ((i : Nat) : Int)) ++ [V.str (("E" : String) : Str)] ++ vT (zs.drop (i + r.length)) = vT (zs.take i ++ [wE] ++ zs.drop (i + r.length)) := by
                        rw [cut_lo, E_t]
                        simp [vT, List.map_take]
                      have al : AscL (zs.take i ++ [wE] ++ zs.drop (i + r.length)) := by
                        intro x hx
                        rcases List.mem_append.mp hx with hx | hx
                        · rcases List.mem_append.mp hx with hx | hx
                          · exact az x (List.mem_of_mem_take hx)
                          · rw [List.mem_singleton.mp hx]
                            exact (by decide : ∀ c ∈ wE, c < 128)
                        · exact az x (List.mem_of_mem_drop hx)
                      refine ⟨w1, y, _, _, rfl, rfl, same_new hy _ _ upd_same, upd_same, ?_, fun w2 hw2 => ⟨_, _, rfl, ?_⟩⟩
                      · rw [← List.length_append, econ, show (vT (zs.take i ++ [wE] ++ zs.drop (i + r.length))).length = (zs.take i ++ [wE] ++ zs.drop (i + r.length)).length from List.length_map _]
                        exact szL (by omega)
                      · rw [econ]
                        exact ⟨_, w2, true, _, rfl, s7.trans (sy.trans (same_new hw2)), upd_same, al, by omega, r1'.trans ez, .inr ⟨rfl, r2'⟩⟩
                    · rw [decide_eq_false hq]
                      refine iteF ⟨zs, p2, false, _, rfl, s7.trans sz, sz _ _ h6p, az, lz, ez, .inl ⟨rfl, rfl, hno, fun j' hj' r' hr' => ?_⟩⟩
                      by_cases hjj : j' < j
                      · exact hj j' hjj r' hr'
                      · have : j' = j := by omega
                        subst this
                        rw [hrj] at hr'
                        cases hr'
                        exact hq
                  · exact iteF (iteF ⟨zs, p2, true, _, rfl, s7, h6p, az, lz, ez, .inr ⟨rfl, hlt⟩⟩)
                · rintro σ H6 ⟨zs, p2, on2, o5, rfl, s7, h6p, az, lz, ez, hon2⟩
                  refine ⟨zs, p2, on2, _, _, rfl, s6.trans s7, h6p, az, lz, ez, hon2.imp (fun ⟨a, b, c, d⟩ => ⟨a, b, fun k hk r hr => ?_⟩) id⟩
                  by_cases hki : k < i
                  · exact c k hki r hr
                  · have : k = i := by omega
                    subst this
                    obtain ⟨j', hj'⟩ := List.mem_iff_getElem?.mp hr
                    exact d j' (show j' < 4 from (List.getElem?_eq_some_iff.mp hj').1) r hj'
              · rintro σ H4 ⟨ys, p, on, o4, o5, rfl, s5, h4p, ay, ly, ey, hon⟩
                rcases hon with ⟨rfl, rfl, hno⟩ | ⟨rfl, hlt⟩
                · exact ⟨0, by omega, ys, p, false, _, _, rfl, s5, h4p, ay, ly, ey, .inr ⟨rfl, rfl, no_red fun j hj => hno j (by rw [vl]; exact hj)⟩⟩
                · exact ⟨ys.length + 1, by omega, ys, p, true, _, _, rfl, s5, h4p, ay, ly, ey, .inl ⟨rfl, rfl⟩⟩
          · exact iteF (ex _ _ ⟨xs, p, _, _, rfl, s4, h3p, ax, ea, hn⟩)
end

/-! ## Refused markers: told; bent tokens -/
section
variable {P : Program} {w : World} {K : PySem.W.Frag} {mg : Str → Option Value} {base : Heap} {D : Ad}
open TL SX
/-- what the law's word makes of a lambda's reading: a list of what it gave, or a tuple of the field of BadMarker -/
def TTold (B : Addr) : (XK → Hp → VK → Prop) → Hp → VK → Prop := fun tl H Q => ∀ (H0 : Hp) (E : XK) (Q' : VK), Same H H0 →
  (∀ dd z H', H' dd = some (.xd [("given", z)]) → (∀ p H'', Same H' H'' → H' p = none → H'' p = some (.tup [z]) → Q (.ref p) H'') → E (.ref B) (some dd) H') →
  (∀ v H', (∀ p, H' p = none → Q (.ref p) (upd H' p (.lst [v]))) → Q' v H') → tl E H0 Q'
theorem told_gives (T : TexW w K mg D) {X : Cx} (hK : X.K = K) (hM : X.mg = mg) {q : Str} : Gives X N_told "_law_told" s_told D.a_told "_law_deed" q (TTold D.a_BadMarker) := by
  obtain ⟨_, _, K0, mg0, _, _, _, _, _, _, _, _, _, _, _, _, _⟩ := X
  obtain rfl : K0 = K := hK
  obtain rfl : mg0 = mg := hM
  intro cdg f c' s H Q tl act hc h
  refine ⟨_, (pss_cons (ps_par (i := 1) (j := 2) (by rfl) S_told.nd rfl rfl (by decide) rfl rfl (pa_cons pe_non (pa_cons (pe_lst pa_nil) pa_nil)) (by rfl))
      (pss_cons (ps_try_asT (i := 3) rfl rfl rfl S_told.nd rfl rfl (ht_one ⟨by rfl, by decide, .inl T.BadMarker_g⟩) takes0 (fun W pn xe tkB poB => (pss_one (ps_set (i := 2) S_told.nd rfl (Or.inl rfl) (pe_lst (pa_cons (act W pn xe _ _ tkB) pa_nil))))) (fun a oe cls d pn hz hf => (pss_one (ps_set (i := 1) S_told.nd rfl (Or.inl rfl) (pv 3)))))
      (pss_one (ps_ret (pe_ifExp (pt_cmpR op_isN (pv 1) pe_non (nomark _)) (pv 2) (pe_tup (pa_cons (pe_xfV (pv 1)) pa_nil))))))), ?_⟩
  refine ⟨by show 0 ≤ sizeLine; decide, fun p0 hp0 => ⟨_, _, rfl, ?_⟩⟩
  refine ⟨rfl, ?_, ?_⟩
  · show (upd H p0 (.lst [])) c' = _
    rw [upd_ne (ne_of_none hc hp0)]
    exact hc
  refine h _ _ _ (same_new hp0) (fun dd z H1 hd hq => ?_) (fun v H1 hq => ?_)
  · refine ⟨true, exm_sub T.BadMarker_nm T.BadMarker_BadMarker_s, fun _ e he => ?_, fun g => nomatch g⟩
    refine ⟨_, rfl, fun _ => ?_⟩
    have ned : dd ≠ e := ne_of_none hd he
    have hE : (upd H1 e (ExK (.ref D.a_BadMarker) (some dd) e)) e = some (ExK (.ref D.a_BadMarker) (some dd) e) := upd_same
    have hd2 : (upd H1 e (ExK (.ref D.a_BadMarker) (some dd) e)) dd = some (.xd [("given", z)]) := by
      rw [upd_ne ned]
      exact hd
    have s2 : Same H1 (upd H1 e (ExK (.ref D.a_BadMarker) (some dd) e)) := same_new he
    revert hE hd2 s2
    generalize upd H1 e (ExK (.ref D.a_BadMarker) (some dd) e) = H2
    intro hE hd2 s2
    refine ⟨_, rfl, rfl, _, rfl, iteF ?_⟩
    refine ⟨_, rfl, e, dd, D.a_BadMarker, _, z, rfl, T.BadMarker_xa.x, T.BadMarker_xf, hE, hd2, rfl, by show 1 ≤ sizeLine; decide, fun l hl => ?_⟩
    exact hq l _ (s2.trans (same_new hl)) (s2.free hl) upd_same
  · refine ⟨by show 1 ≤ sizeLine; decide, fun p hp => ?_⟩
    exact ⟨_, rfl, rfl, _, rfl, iteT ⟨_, rfl, hq p hp⟩⟩

def sm19 : List Txt := [[40], [41], wNot, wAnd, wOr, wAlways, wSystem, wLevel, [61, 61], [60], [97], [55], [48, 55], [49, 48, 48], [61], [97, 49], [10], [65], [44]]
def sm16V : List V := [.str "(", .str ")", .str "not", .str "and", .str "or", .str "always", .str "system", .str "level", .str "==", .str "<", .str "a", .str "7", .str "07", .str "100", .str "=", .str "a1"]
def sm3V : List V := [.str "\n", .str "A", .str ","]
theorem sm16_v : ([.str "(", .str ")", .str "not", .str "and", .str "or", .str "always", .str "system", .str "level", .str "==", .str "<", .str "a", .str "7", .str "07", .str "100", .str "=", .str "a1"] : List V) = sm16V := rfl
theorem sm3_v : ([.str "\n", .str "A", .str ","] : List V) = sm3V := rfl
theorem sm19_v : sm16V ++ sm3V = sm19.map fun l => V.str (S l) := by decide +kernel
theorem sm19_ok : ∀ x ∈ sm19, x ≠ [] ∧ x.length ≤ 12 ∧ ∀ c ∈ x, c < 128 := by decide
def TkOk (ws : List Txt) : Prop := ∀ x ∈ ws, x ≠ [] ∧ x.length ≤ 12 ∧ Asc x
theorem join_bound {sp : Txt} (hs : Asc sp) : ∀ {ws : List Txt}, TkOk ws → Asc (joinL sp ws) ∧ (joinL sp ws).length ≤ (12 + sp.length) * ws.length
  | [], _ => ⟨fun c hc => (by cases hc), Nat.zero_le _⟩
  | [x], h => by
    obtain ⟨_, a, b⟩ := h x (by simp)
    exact ⟨b, by show x.length ≤ (12 + sp.length) * 1; omega⟩
  | x :: y :: r, h => by
    obtain ⟨_, a, b⟩ := h x (by simp)
    obtain ⟨u, v⟩ := join_bound hs (ws := y :: r) fun z hz => h z (List.mem_cons_of_mem _ hz)
    refine ⟨b.app (hs.app u), ?_⟩
    show (x ++ (sp ++ joinL sp (y :: r))).length ≤ (12 + sp.length) * ((y :: r).length + 1)
    rw [List.length_append, List.length_append, Nat.mul_add]
    omega
theorem sum_bound : ∀ {ws : List Txt}, TkOk ws → (ws.map List.length).sum ≤ 12 * ws.length
  | [], _ => Nat.le_refl _
  | x :: r, h => by
    obtain ⟨_, a, _⟩ := h x (by simp)
    have := sum_bound (ws := r) fun z hz => h z (List.mem_cons_of_mem _ hz)
    simp only [List.map_cons, List.sum_cons, List.length_cons]
    omega
theorem cut_any {xs : List V} {m : Nat} : cutV xs (some ((m : Nat) : Int)) none = xs.drop m := by
  by_cases h : m ≤ xs.length
  · exact cut_hi h
  · unfold cutV
    rw [HT.sIx_nat, HT.sIx_none, Nat.min_eq_right (by omega), List.drop_length, List.drop_of_length_le (by omega)]
    simp
def spBent : Sp := fun vs H Q _ => ∃ (d l c m : Nat) (T : List Txt), vs = [.ref d, .ref l] ∧ H l = some (.lst (vT T)) ∧ T.length ≤ 100 ∧ TkOk T ∧ Dr H d c m ∧ m + 200 ≤ 90000000000 ∧
  ∀ y H', Asc y → y.length ≤ 14 * (T.length + 1) → But d H H' → Dr H' d c (m + 110) → Q (.str (S y)) H'
theorem ok_bent (T : TexW w K mg D) : FnOk P w K mg base CX0 4 D.a_bent D.d_bent P_bent spBent := by
  have G_next : FnOk P w K mg base CX0 2 D.a_next D.d_next P_next spNext := ok_next T
  have G_loose : FnOk P w K mg base CX0 3 D.a_loose D.d_loose P_loose spLoA := ok_loose T
  refine T.bent_F.ok S_bent (fun vs H Q E h => ?_) (fun cdv A outer s H vs Q E hr h => ?_)
  · obtain ⟨d, l, c, m, T, rfl, _⟩ := h
    rfl
  · obtain ⟨d, l, c, m, ws, rfl, hL, hl, hw, hD, hm, q⟩ := h
    refine ⟨_, (pss_cons (ps_set (i := 2) S_bent.nd rfl (Or.inl rfl) (pe_lst (pa_cons pe_str (pa_cons pe_str (pa_cons pe_str (pa_cons pe_str (pa_cons pe_str (pa_cons pe_str (pa_cons pe_str (pa_cons pe_str (pa_cons pe_str (pa_cons pe_str (pa_cons pe_str (pa_cons pe_str (pa_cons pe_str (pa_cons pe_str (pa_cons pe_str (pa_cons pe_str pa_nil))))))))))))))))))
      (pss_cons (ps_set (i := 2) S_bent.nd rfl (Or.inl rfl) (pe_op op_cat (pv 2) (pe_lst (pa_cons pe_str (pa_cons pe_str (pa_cons pe_str pa_nil))))))
      (pss_cons (ps_par (i := 3) (j := 4) (by rfl) S_bent.nd rfl rfl (by decide) rfl rfl (pa_cons (pe_call G_next (hr.mono (by decide)) (by rfl) T.next_g T.next_F.kp T.next_b .nil pass0 (pa_cons (pv 0) (pa_cons (pe_op op_add (pe_callB call_len_seq (by rfl) T.b_len (by decide +kernel) (pa_cons (pv 1) pa_nil)) pe_int) pa_nil))) (pa_cons (pe_call G_next (hr.mono (by decide)) (by rfl) T.next_g T.next_F.kp T.next_b .nil pass0 (pa_cons (pv 0) (pa_cons pe_int pa_nil))) pa_nil)) (by rfl))
      (pss_cons (ps_set (i := 5) S_bent.nd rfl (Or.inl rfl) (pe_ifExp (pt_cmpR op_eq (pv 4) pe_int (nomark _)) (pe_lst pa_nil) (pe_lst (pa_cons (pe_ix ix_list (pv 2) (pe_call G_next (hr.mono (by decide)) (by rfl) T.next_g T.next_F.kp T.next_b .nil pass0 (pa_cons (pv 0) (pa_cons pe_int pa_nil))) (fun _ _ => rfl)) pa_nil))))
      (pss_cons (ps_set (i := 1) S_bent.nd rfl (Or.inl rfl) (pe_op op_cat (pe_op op_cat (pe_slice sl_list (pv 1) po_none (po_some (pv 3))) (pv 5)) (pe_slice sl_list (pv 1) (po_some (pe_op op_add (pv 3) (pe_op op_mod (pv 4) pe_int))) po_none)))
      (pss_cons (ps_if (pt_cmpR op_eq (pv 4) pe_int (nomark _)) (pss_one (ps_ret (pe_join pe_str (pv 1)))) pss_nil)
      (pss_one (ps_ret (pe_ifExp (pt_cmpR (op_neD hr.units) (pv 1) (pe_lst pa_nil) (nomark _)) (pe_call G_loose (hr.mono (by decide)) (by rfl) T.loose_g T.loose_F.kp T.loose_b .nil pass0 (pa_cons (pv 0) (pa_cons (pv 1) pa_nil))) pe_str))))))))), ?_⟩
    have vl : (vT ws).length = ws.length := List.length_map _
    refine ⟨by show 16 ≤ sizeLine; decide, fun p1 hp1 => ⟨_, rfl, by show 3 ≤ sizeLine; decide, fun p2 hp2 => ⟨p1, p2, _, _, rfl, rfl, same_new hp2 _ _ upd_same, upd_same, by show 19 ≤ sizeLine; decide, fun p3 hp3 => ?_⟩⟩⟩
    rw [sm16_v] at hp2 hp3 ⊢
    rw [sm3_v] at hp3 ⊢
    rw [sm19_v]
    have s1 : Same H (upd (upd (upd H p1 (.lst sm16V)) p2 (.lst sm3V)) p3 (.lst (sm19.map fun l => V.str (S l)))) := (same_new hp1).trans ((same_new hp2).trans (same_new hp3))
    have h3 : (upd (upd (upd H p1 (.lst sm16V)) p2 (.lst sm3V)) p3 (.lst (sm19.map fun l => V.str (S l)))) p3 = some (.lst (sm19.map fun l => V.str (S l))) := upd_same
    have ndp3 : d ≠ p3 := (hD.keep ((same_new hp1).trans (same_new hp2))).ne_new hp3
    clear hp1 hp2 hp3
    revert s1 h3
    generalize upd (upd (upd H p1 (.lst sm16V)) p2 (.lst sm3V)) p3 (.lst (sm19.map fun l => V.str (S l))) = H1
    intro s1 h3
    have d1 := hD.keep s1
    have h1L := s1 _ _ hL
    refine ⟨_, rfl, _, rfl, l, _, rfl, .inl (SqL.of h1L), _, _, rfl, rfl, d, c, _, _, rfl, d1, by omega, by rw [vl]; omega, by rw [vl]; omega, fun v1 H2 a1 b1 d2 u2 => ?_⟩
    refine ⟨_, rfl, d, c, 4, _, rfl, d2, by omega, by decide, by decide, fun v2 H3 a2 b2 d3 u3 => ⟨_, _, rfl, ?_⟩⟩
    have h3' := u3 _ _ (u2 _ _ h3 ndp3.symm) ndp3.symm
    have ndl : l ≠ d := by
      obtain ⟨o, ho⟩ := hD.dict
      exact ne_of hL ho (by intro z; cases z)
    have h3L := u3 _ _ (u2 _ _ h1L ndl) ndl
    have bt : But d H H3 := (But.of_same s1).trans (u2.trans u3)
    refine nx_to ?_
    change tSeq _ _ _ [some (.ref d), some (.ref l), some (.ref p3), some (.int v1), some (.int v2), none] _
    refine seq_mid (fun σ H' => ∃ (p4 : Addr) (nw : List Txt), σ = [some (.ref d), some (.ref l), some (.ref p3), some (.int v1), some (.int v2), some (.ref p4)] ∧ H' p4 = some (.lst (vT nw)) ∧ nw.length ≤ 1 ∧ TkOk nw ∧ But d H H' ∧ Dr H' d c (m + 3) ∧ H' l = some (.lst (vT ws)) ∧ p4 ≠ d) ?_ ?_
    · rintro σ H4 ⟨p4, nw, rfl, h4n, ln, kn, b4, d4, h4L, ndn⟩
      obtain ⟨m1, rfl⟩ := Int.eq_ofNat_of_zero_le a1
      refine ⟨_, rfl, _, rfl, _, rfl, l, _, rfl, SqL.of h4L, fun y1 hy1 => ?_⟩
      rw [cut_lo, show (vT ws).take m1 = vT (ws.take m1) by simp [vT, List.map_take]]
      have nd1 := d4.ne_new hy1
      have s5 := same_new (o := .lst (vT (ws.take m1))) hy1
      refine ⟨_, rfl, y1, p4, _, _, rfl, rfl, upd_same, s5 _ _ h4n, by rw [show (vT (ws.take m1)).length = (ws.take m1).length from List.length_map _, show (vT nw).length = nw.length from List.length_map _, List.length_take]; exact szL (by omega), fun y2 hy2 => ?_⟩
      rw [show vT (ws.take m1) ++ vT nw = vT (ws.take m1 ++ nw) by simp [vT]]
      have d5 := d4.keep s5
      have nd2 := d5.ne_new hy2
      have s6 := s5.trans (same_new (o := .lst (vT (ws.take m1 ++ nw))) hy2)
      refine ⟨_, rfl, _, rfl, _, rfl, _, _, rfl, rfl, (posI rfl), _, _, rfl, rfl, _, rfl, l, _, rfl, SqL.of (s6 _ _ h4L), fun y3 hy3 => ?_⟩
      have e2 : (m1 : Int) + v2 % 2 = ((m1 + (v2 % 2).toNat : Nat) : Int) := by omega
      rw [e2, cut_any, show (vT ws).drop (m1 + (v2 % 2).toNat) = vT (ws.drop (m1 + (v2 % 2).toNat)) by simp [vT]]
      generalize hT : ws.take m1 ++ nw ++ ws.drop (m1 + (v2 % 2).toNat) = T'
      have kT : TkOk T' := by
        rw [← hT]
        intro x hx
        rcases List.mem_append.mp hx with hx | hx
        · rcases List.mem_append.mp hx with hx | hx
          · exact hw x (List.mem_of_mem_take hx)
          · exact kn x hx
        · exact hw x (List.mem_of_mem_drop hx)
      have lT : T'.length ≤ ws.length + 1 := by
        rw [← hT]
        simp only [List.length_append, List.length_take, List.length_drop]
        omega
      have s7 := s6.trans (same_new (o := .lst (vT (ws.drop (m1 + (v2 % 2).toNat)))) hy3)
      have eT' : vT (ws.take m1 ++ nw) ++ vT (ws.drop (m1 + (v2 % 2).toNat)) = vT T' := by rw [← hT]; simp [vT]
      refine ⟨y2, y3, _, _, rfl, rfl, same_new hy3 _ _ upd_same, upd_same, ?_, fun y4 hy4 => ?_⟩
      · rw [← List.length_append, eT', show (vT T').length = T'.length from List.length_map _]
        exact szL (by omega)
      rw [eT']
      have s8 := s7.trans (same_new (o := .lst (vT T')) hy4)
      have h8 : (upd (upd (upd (upd H4 y1 (.lst (vT (ws.take m1)))) y2 (.lst (vT (ws.take m1 ++ nw)))) y3 (.lst (vT (ws.drop (m1 + (v2 % 2).toNat))))) y4 (.lst (vT T'))) y4 = some (.lst (vT T')) := upd_same
      clear hy1 hy2 hy3 hy4 s5 s6 s7
      revert s8 h8
      generalize upd (upd (upd (upd H4 y1 (.lst (vT (ws.take m1)))) y2 (.lst (vT (ws.take m1 ++ nw)))) y3 (.lst (vT (ws.drop (m1 + (v2 % 2).toNat))))) y4 (.lst (vT T')) = H8
      intro s8 h8
      have b8 : But d H H8 := b4.trans (But.of_same s8)
      have d8 := d4.keep s8
      refine ⟨_, rfl, rfl, _, rfl, ite2 (fun g => ?_) (fun g => ?_)⟩
      · obtain ⟨j1, j2⟩ := join_bound (sp := []) (fun c hc => by cases hc) kT
        refine ⟨⟨_, rfl⟩, _, rfl, (("" : String) : Str), y4, T'.map S, rfl, rfl, .inl (by rw [List.map_map]; exact SqL.of h8), ?_, ?_⟩
        · have hs := sum_bound kT
          rw [List.map_map, List.length_map]
          have e : (T'.map (Str.length ∘ S)) = T'.map List.length := List.map_congr_left fun x _ => S_len x
          show (T'.map (Str.length ∘ S)).sum + _ ≤ _
          rw [e]
          have : ((("" : String) : Str)).length = 0 := by decide +kernel
          rw [this]
          omega
        · rw [emp_t, join_S]
          refine q _ H8 j1 ?_ b8 (d8.mono (by omega))
          rw [List.length_nil] at j2
          omega
      · refine ⟨_, rfl, by show 0 ≤ sizeLine; decide, fun z hz => ?_⟩
        have s9 := same_new (o := .lst []) hz
        have aT : AscL T' := fun x hx => (kT x hx).2.2
        refine ⟨tD T', tD [], tD_dp (s9 _ _ h8), tD_dp upd_same, tD_shaped aT, tD_shaped (fun x hx => by cases hx), _, rfl, ?_⟩
        rw [tD_eqv]
        by_cases hn : T' = []
        · rw [decide_eq_true hn]
          refine iteF ?_
          have := q [] _ (fun c hc => by cases hc) (Nat.zero_le _) (b8.trans (But.of_same s9)) ((d8.keep s9).mono (by omega))
          rw [← emp_t] at this
          exact this
        · rw [decide_eq_false hn]
          refine iteT ⟨_, rfl, _, rfl, d, y4, c, m + 3, T', rfl, s9 _ _ h8, by omega, fun x hx => ⟨(kT x hx).1, by have := (kT x hx).2.1; omega, (kT x hx).2.2⟩, d8.keep s9, by omega, fun y H9 ya yl b9 d9 => ?_⟩
          have hs := sum_bound kT
          exact q y H9 ya (by omega) ((b8.trans (But.of_same s9)).trans b9) (d9.mono (by omega))
    · intro N hN
      refine ⟨_, rfl, rfl, _, rfl, ite2 (fun g => ?_) (fun g => ?_)⟩
      · refine ⟨by show 0 ≤ sizeLine; decide, fun p4 hp4 => ?_⟩
        refine hN _ _ ⟨p4, [], rfl, upd_same, by decide, (fun x hx => by cases hx), bt.trans (But.refl.new hp4), (d3.new hp4).mono (by omega), same_new hp4 _ _ h3L, (d3.ne_new hp4).symm⟩
      · refine ⟨_, rfl, _, rfl, d, c, 19, _, rfl, d3, by omega, by decide, by decide, fun v3 H4 a3 b3 d4 u4 => ?_⟩
        obtain ⟨s, es, ms⟩ := at_S (ws := sm19) a3 b3
        refine ⟨p3, _, _, _, rfl, rfl, SqL.of (u4 _ _ h3' ndp3.symm), es, by show 1 ≤ sizeLine; decide, fun p4 hp4 => ?_⟩
        refine hN _ _ ⟨p4, [s], rfl, upd_same, by simp, (fun x hx => by rw [List.mem_singleton.mp hx]; exact sm19_ok s ms), (bt.trans u4).trans (But.refl.new hp4), d4.new hp4, same_new hp4 _ _ (u4 _ _ h3L ndl), (d4.ne_new hp4).symm⟩
end

/-! ## Refused markers: texts that are refused; tokens of a tree -/
section
open TL SX
theorem pcs_mem {t : Tr} {b : Nat} {ts : List Tm} (h : Pcs t b ts) : ∀ x ∈ ts, x ∈ t.lvs ∨ ∃ w ∈ ([[40], [41], wNot, wAnd, wOr] : List Txt), x = opT w := by
  induction h with
  | lf h => exact fun x hx => .inl hx
  | par h ih =>
    intro x hx
    rcases List.mem_cons.mp hx with rfl | hx
    · exact .inr ⟨_, by simp, rfl⟩
    · rcases List.mem_append.mp hx with hx | hx
      · exact ih x hx
      · rw [List.mem_singleton.mp hx]
        exact .inr ⟨_, by simp, rfl⟩
  | no h hb ih =>
    intro x hx
    rcases List.mem_cons.mp hx with rfl | hx
    · exact .inr ⟨_, by simp, rfl⟩
    · exact ih x hx
  | @bi a t u b c ts us h k hb hc ih jh =>
    intro x hx
    rcases List.mem_append.mp hx with hx | hx
    · exact (ih x hx).imp (fun q => List.mem_append.mpr (.inl q)) id
    · rcases List.mem_cons.mp hx with rfl | hx
      · exact .inr ⟨_, op_mem a, rfl⟩
      · exact (jh x hx).imp (fun q => List.mem_append.mpr (.inr q)) id
theorem ld_asc {x : Txt} (h : ∀ c ∈ x, isLD c = true) : Asc x := fun c hc => by
  have h' : (97 ≤ c ∧ c ≤ 122) ∨ (48 ≤ c ∧ c ≤ 57) := by
    simpa [isLD, isLow, isDig] using h c hc
  omega
theorem sgn_asc : ∀ s ∈ lvSigns, s ≠ [] ∧ ∀ c ∈ s, c < 128 := by decide
theorem five_ok : ∀ w ∈ ([[40], [41], wNot, wAnd, wOr] : List Txt), w ∉ fieldL ∧ w ≠ [] ∧ w.length ≤ 12 ∧ ∀ c ∈ w, c < 128 := by decide
theorem oper_len : ∀ w ∈ operL, w ≠ [] ∧ w.length ≤ 12 ∧ ∀ c ∈ w, c < 128 := by decide
theorem gt_lt {t : Tm} (g : GT t) (h : t.w ∈ fieldL) : Lt24 t := by
  have k := g.ok
  unfold TmOk at k
  rw [if_pos h] at k
  exact (cmp_gt h k).2
theorem tk_gt {t : Tm} (g : GT t) : TkOk (tkT t) := by
  obtain ⟨a, b, c⟩ := oper_len t.w g.op
  unfold tkT
  by_cases h : t.w ∈ fieldL
  · rw [if_pos h]
    obtain ⟨hs, hv, hc⟩ := g.tk h
    obtain ⟨_, l2, l3⟩ := gt_lt g h
    obtain ⟨s1, s2⟩ := sgn_asc t.s hs
    intro x hx
    simp only [List.mem_cons, List.not_mem_nil, or_false] at hx
    rcases hx with rfl | rfl | rfl
    · exact ⟨a, b, c⟩
    · exact ⟨s1, by omega, s2⟩
    · exact ⟨hv, l3, ld_asc hc⟩
  · rw [if_neg h]
    intro x hx
    rw [List.mem_singleton.mp hx]
    exact ⟨a, b, c⟩
theorem tk_pcs {t : Tr} {b : Nat} {ts : List Tm} (h : Pcs t b ts) (g : ∀ x ∈ t.lvs, GT x) : TkOk (ts.flatMap tkT) := by
  intro y hy
  obtain ⟨x, hx, hy⟩ := List.mem_flatMap.mp hy
  rcases pcs_mem h x hx with q | ⟨w, hw, rfl⟩
  · exact tk_gt (g x q) y hy
  · obtain ⟨w1, w2, w3, w4⟩ := five_ok w hw
    unfold tkT at hy
    rw [if_neg (show ¬ (opT w).w ∈ fieldL from w1)] at hy
    rw [List.mem_singleton.mp hy]
    exact ⟨w2, w3, w4⟩
theorem txTm_asc {t : Tm} (g : GT t) : Asc (txTm t) := by
  obtain ⟨a, b, c⟩ := oper_len t.w g.op
  unfold txTm
  by_cases h : t.w ∈ fieldL
  · rw [if_pos h]
    obtain ⟨hs, hv, hc⟩ := g.tk h
    exact (((Asc.app c (Asc.sp 1)).app (sgn_asc t.s hs).2).app (Asc.sp 1)).app (ld_asc hc)
  · rw [if_neg h]
    exact c
theorem inP_asc {b k : Nat} {x : Txt} (h : Asc x) : Asc (inP b k x) := by
  unfold inP
  split
  · exact (Asc.app (by decide : ∀ c ∈ ([40] : Txt), c < 128) h).app (by decide : ∀ c ∈ ([41] : Txt), c < 128)
  · exact h
theorem wr_asc : ∀ (t : Tr), (∀ x ∈ t.lvs, GT x) → Asc t.wr
  | .lf x, h => txTm_asc (h x (by simp [Tr.lvs]))
  | .no t, h => (Asc.app (by decide : ∀ c ∈ wNot, c < 128) (Asc.sp 1)).app (inP_asc (wr_asc t h))
  | .bi a t u, h => by
    have h1 := wr_asc t (fun x hx => h x (by simp [Tr.lvs, hx]))
    have h2 := wr_asc u (fun x hx => h x (by simp [Tr.lvs, hx]))
    have hw : Asc (wOp a) := by cases a <;> (show ∀ c ∈ wOp _, c < 128; decide)
    exact ((((inP_asc h1).app (Asc.sp 1)).app hw).app (Asc.sp 1)).app (inP_asc h2)
/-! ### what is refused -/
theorem no_mk {l : Txt} (h : isMk l = false) : readF l = none := by
  rw [mk_read] at h
  cases e : readF l with
  | none => rfl
  | some _ =>
    rw [e] at h
    cases h
theorem cutR_bad {c : Nat} (h1 : isLD c = false) (h2 : brk c = false) (h3 : c ≠ 32) (h4 : c ≠ 61) : ∀ (l : Txt) (F : List Txt) (last : Nat), c ∈ l → cutR F last l = none
  | [], _, _, h => by cases h
  | d :: l, F, last, h => by
    show (cut1 F last d).bind _ = none
    rcases List.mem_cons.mp h with rfl | h
    · have : cut1 F last c = none := by
        unfold cut1
        rw [if_neg (fun q => by rw [h1] at q; exact absurd q.1 (by decide)), if_neg (fun q => h4 q.1), if_neg (fun q => by rw [h1, h2] at q; exact absurd q (by decide)), if_neg h3]
      rw [this]
      rfl
    · cases cut1 F last d with
      | none => rfl
      | some F' => exact cutR_bad h1 h2 h3 h4 l F' d h
theorem mk_bad {c : Nat} {l : Txt} (h1 : isLD c = false) (h2 : brk c = false) (h3 : c ≠ 32) (h4 : c ≠ 61) (h : c ∈ l) : readF l = none := no_mk (by
  unfold isMk
  have : cutL l = none := by
    unfold cutL
    split
    · rfl
    · rw [cutR_bad h1 h2 h3 h4 l [] 32 h]
      rfl
  rw [this])
theorem mk_cmp {l w s x : Txt} {r : List Txt} (hc : cutL l = some (w :: s :: x :: r)) (hw : w ∈ fieldL) (hn : isCmpL [w, s, x] = false) : readF l = none := no_mk (by
  unfold isMk
  rw [hc]
  have : opsL (w :: s :: x :: r) = none := by
    rw [opsL, if_pos hw]
    show (if isCmpL [w, s, x] = true then _ else none) = none
    rw [hn]
    rfl
  show (match opsL (w :: s :: x :: r) with | none => false | some os => accA os) = false
  rw [this])
theorem cutR_app : ∀ (a b : Txt) (F : List Txt) (last : Nat), cutR F last (a ++ b) = (cutR F last a).bind fun F' => cutR F' (a.getLastD last) b
  | [], _, _, _ => rfl
  | c :: a, b, F, last => by
    have e : (c :: a).getLastD last = a.getLastD c := by cases a <;> simp [List.getLastD]
    rw [e]
    show (cut1 F last c).bind _ = ((cut1 F last c).bind _).bind _
    cases cut1 F last c with
    | none => rfl
    | some F' => exact cutR_app a b F' c
/-- a word or number behind a sign and a space -/
theorem cut_long {w s x : Txt} {c n : Nat} (hc : isLD c = true) (hp : cutR [] 32 (w ++ [32] ++ s ++ [32]) = some [s, w]) (hw : (w ++ [32] ++ s ++ [32]).head? ≠ some 32) (hx : x = List.replicate (n + 1) c) : cutL (w ++ [32] ++ s ++ [32] ++ x) = some [w, s, x] := by
  subst hx
  unfold cutL
  have hn : ¬ ((w ++ [32] ++ s ++ [32] ++ List.replicate (n + 1) c).head? = some 32 ∨ (w ++ [32] ++ s ++ [32] ++ List.replicate (n + 1) c).getLast? = some 32) := by
    rintro (h | h)
    · apply hw
      cases k : w ++ [32] ++ s ++ [32] with
      | nil => simp at k
      | cons d r =>
        rw [k] at h
        exact h
    · rw [List.replicate_succ', ← List.append_assoc, List.getLast?_concat] at h
      have : c = 32 := by simpa using h
      exact (ld_plain hc).2.2.2.1 this
  rw [if_neg hn, cutR_app, hp]
  have e : (w ++ [32] ++ s ++ [32]).getLastD 32 = 32 := by rw [List.getLastD_eq_getLast?, List.getLast?_concat]; rfl
  rw [e]
  show ((cutR [s, w] 32 (List.replicate (n + 1) c))).map List.reverse = _
  have e1 : cut1 [s, w] 32 c = some ([c] :: [s, w]) := by
    unfold cut1
    rw [if_neg (fun q => absurd q.2 (by decide)), if_neg (fun q => (ld_plain hc).2.2.1 q.1), if_pos (.inr hc)]
  have e2 : cutR [s, w] 32 (List.replicate (n + 1) c) = cutR ([c] :: [s, w]) c (List.replicate n c) := by
    rw [List.replicate_succ]
    show (cut1 [s, w] 32 c).bind _ = _
    rw [e1]
    rfl
  rw [e2]
  have h := (run_ld [] (List.replicate n c) (fun d hd => by rw [(List.mem_replicate.mp hd).2]; exact hc) [c] [s, w] c (ld_plain hc).1).1
  rw [List.append_nil] at h
  rw [h]
  rfl
theorem num_long {x : Txt} (h : 3 ≤ x.length) : nTL 99 x = none := by
  cases e : nTL 99 x with
  | none => rfl
  | some n =>
    obtain ⟨h1, h2⟩ := nTL99 e
    have := (num_fin ⟨n, by omega⟩).2.1
    have e3 : (numL n).length ≤ 2 := this
    rw [h1] at h
    omega
theorem lev_long {s : Txt} {c n : Nat} (hc : isLD c = true) (hn : 2 ≤ n) (hp : cutR [] 32 (wLevel ++ [32] ++ s ++ [32]) = some [s, wLevel]) : readF (wLevel ++ [32] ++ s ++ [32] ++ List.replicate (n + 1) c) = none :=
  mk_cmp (r := []) (cut_long hc hp (by simp [wLevel]) rfl) (by decide) (by
    rw [isCmp3, if_pos rfl, num_long (by rw [List.length_replicate]; omega)]
    simp)
theorem sys_long {s : Txt} {c n : Nat} (hc : isLow c = true) (hn : 13 ≤ n) (hp : cutR [] 32 (wSystem ++ [32] ++ s ++ [32]) = some [s, wSystem]) : readF (wSystem ++ [32] ++ s ++ [32] ++ List.replicate (n + 1) c) = none :=
  mk_cmp (r := []) (cut_long (low_ld hc) hp (by simp [wSystem]) rfl) (by decide) (by
    have e : (List.replicate (n + 1) c).filter isLow = List.replicate (n + 1) c := List.filter_eq_self.mpr fun d hd => by rw [(List.mem_replicate.mp hd).2]; exact hc
    rw [isCmp3, if_neg (by decide), e, List.length_replicate, decide_eq_false (show ¬ (n + 1 < 13) by omega)]
    simp)
end

/-! ## What stays where lambdas are made: all but the draw and the tables -/
section
open LamX
def ButN (d : Addr) (H H' : Hp) : Prop := ∀ b o, H b = some o → b ≠ d → (∀ ps, o ≠ .tbl ps) → H' b = some o
theorem ButN.refl {d : Addr} {H : Hp} : ButN d H H := fun _ _ e _ _ => e
theorem ButN.trans {d : Addr} {H H1 H2 : Hp} (x : ButN d H H1) (y : ButN d H1 H2) : ButN d H H2 := fun b o e n t => y b o (x b o e n t) n t
theorem But.toN {d : Addr} {H H' : Hp} (x : But d H H') : ButN d H H' := fun b o e n _ => x b o e n
theorem ButN.of_same {d : Addr} {H H' : Hp} (x : Same H H') : ButN d H H' := fun b o e _ _ => x b o e
theorem ButN.of_ext {d : Addr} {H H' : Hp} (x : ExtN H H') : ButN d H H' := fun b o e _ t => x b o e t
theorem Dr.ext {H H' : Hp} {d c : Addr} {n : Nat} (h : Dr H d c n) (e : ExtN H H') : Dr H' d c n := by
  obtain ⟨cs, a, l, u, h1, h2, r⟩ := h
  exact ⟨cs, a, l, u, e _ _ h1 (fun _ z => nomatch z), e _ _ h2 (fun _ z => nomatch z), r⟩
theorem Tabs.same {T : List (Addr × Str)} {H H' : Hp} (t : Tabs T H) (e : Same H H') : Tabs T H' := t.ext e
theorem Tabs.but {T : List (Addr × Str)} {H H' : Hp} {d c : Addr} {n : Nat} (t : Tabs T H) (hd : Dr H d c n) (e : But d H H') : Tabs T H' := by
  intro p hp
  obtain ⟨ps, h1, h2, h3⟩ := t p hp
  obtain ⟨o, ho⟩ := hd.dict
  refine ⟨ps, e _ _ h1 (ne_of h1 ho (by intro z; cases z)), h2, fun pos cv hc => ?_⟩
  obtain ⟨c0, e1, e2⟩ := h3 pos cv hc
  exact ⟨c0, e1, e _ _ e2 (ne_of e2 ho (by unfold CodeO; intro z; cases z))⟩
theorem tup_n {xs : List V} : ∀ ps, HO.tup xs ≠ .tbl ps := fun _ z => nomatch z
theorem lst_n {xs : List V} : ∀ ps, HO.lst xs ≠ .tbl ps := fun _ z => nomatch z
theorem ins_n {C dx : Addr} {fs : List (Str × V)} : ∀ ps, HO.ins C dx fs ≠ .tbl ps := fun _ z => nomatch z
end

/-! ## The law of k15 -/
section
variable {P : Program} {w : World} {K : PySem.W.Frag} {mg : Str → Option Value} {base : Heap} {D : Ad}
open TL SX LamX
theorem two_new {H : Hp} {x dx : Addr} {o u : HO} (hx : H x = none) (hd : H dx = none) : Same H (upd (upd H dx o) x u) := fun b e h => by
  rw [upd_ne (ne_of_none h hx), upd_ne (ne_of_none h hd)]
  exact h
theorem one_tup {x : Str} (h : PyData.strOk x = true) : PyData.eqv (.tuple [.str x]) (.tuple [.str x]) = true ∧ SeqAt.shaped (.tuple [.str x]) = true := ⟨SeqAt.eqv_refl _ (by simp [PyData.canLay0, PyData.canLayAll0, h]), by simp [SeqAt.shaped, PyData.canLay0, PyData.canLayAll0, PyData.depth, PyData.depthAll, h]⟩
/-- what is refused in a row -/
inductive Thg (K : PySem.W.Frag) (H : Hp) : V → Prop
  | txt (l : Txt) : readF l = none → Asc l → l.length ≤ 6000 → Thg K H (.str (S l))
  | oth (x : V) : NoTxt K H x → (flatB x = true ∨ ∃ a, x = .ref a) → Thg K H x
theorem flat1 (c n : Nat) : (List.replicate n [c]).flatten = List.replicate n c := by
  induction n with
  | zero => rfl
  | succ n ih => rw [List.replicate_succ, List.flatten_cons, ih]; rfl
theorem thg_txt {H : Hp} {x : Str} {l : Txt} (e : x = S l) (h : readF l = none) (a : Asc l) (b : l.length ≤ 6000) : Thg K H (.str x) := by
  rw [e]
  exact .txt l h a b
theorem rd_nil : readF [] = none := no_mk (by
  unfold isMk
  have e1 : cutL [] = some [] := by decide
  have e2 : opsL [] = some [] := by rw [opsL]
  rw [e1]
  show (match opsL [] with | none => false | some os => accA os) = false
  rw [e2]
  decide)
theorem cat_long {t : Str} {p : Txt} {c n : Nat} (e : t = S p) : t ++ S (List.replicate n [c]).flatten = S (p ++ List.replicate n c) := by
  rw [e, S_cat, flat1]
theorem asc_long {p : Txt} {c n : Nat} (h : ∀ d ∈ p, d < 128) (hc : c < 128) : Asc (p ++ List.replicate n c) := Asc.app h fun d hd => by rw [(List.mem_replicate.mp hd).2]; exact hc
def XS (pt pl pd : Addr) : List V := [.non, .int 5, .bl true, .ref pt, .ref pl, .ref pd, .str (("" : String) : Str), .str (("system == abcdefghijklm" : String) : Str), .str (("level < 3or never" : String) : Str)] ++
  [.str ((("level < " : String) : Str) ++ S (List.replicate 5000 [57]).flatten), .str ((("system != " : String) : Str) ++ S (List.replicate 5000 [97]).flatten), .str ((("level == " : String) : Str) ++ S (List.replicate 5000 [48]).flatten)] ++
  [.str (("not\nnever" : String) : Str), .str (("level <\n3" : String) : Str), .str (("always\nor never" : String) : Str), .str (("level < 3 , never" : String) : Str), .str (("level < 3\n" : String) : Str)]
theorem xs_thg {H : Hp} {pt pl pd : Addr} (h1 : H pt = some (.tup [V.str (("always" : String) : Str)])) (h2 : H pl = some (.lst [V.str (("always" : String) : Str)])) (h3 : H pd = some (.dK [])) : ∀ x ∈ XS pt pl pd, Thg K H x := by
  intro x hx
  have len5 : ∀ {p : Txt} {c : Nat}, p.length ≤ 20 → (p ++ List.replicate 5000 c).length ≤ 6000 := fun {p c} h => by
    rw [List.length_append, List.length_replicate]
    omega
  simp only [XS, List.mem_append, List.mem_cons, List.not_mem_nil, or_false] at hx
  rcases hx with (hx | hx) | hx
  · rcases hx with rfl | rfl | rfl | rfl | rfl | rfl | rfl | rfl | rfl
    · exact .oth _ ⟨_, .base .non, kit_ty (by decide +kernel)⟩ (.inl rfl)
    · exact .oth _ ⟨_, .base (.int 5), kit_ty (by decide +kernel)⟩ (.inl rfl)
    · exact .oth _ ⟨_, .base (.bl true), kit_ty (by decide +kernel)⟩ (.inl rfl)
    · exact .oth _ ⟨_, .base (.tup h1), kit_ty (by decide +kernel)⟩ (.inr ⟨_, rfl⟩)
    · exact .oth _ ⟨_, .base (.lst h2), kit_ty (by decide +kernel)⟩ (.inr ⟨_, rfl⟩)
    · exact .oth _ ⟨_, .base (.dK h3), kit_ty (by decide +kernel)⟩ (.inr ⟨_, rfl⟩)
    · exact thg_txt (l := []) (by decide +kernel) rd_nil (fun c hc => by cases hc) (by decide)
    · exact thg_txt (l := wSystem ++ [32, 61, 61, 32, 97, 98, 99, 100, 101, 102, 103, 104, 105, 106, 107, 108, 109]) (by decide +kernel) (mk_cmp (w := wSystem) (s := [61, 61]) (x := [97, 98, 99, 100, 101, 102, 103, 104, 105, 106, 107, 108, 109]) (r := []) (by decide +kernel) (by decide) (by decide +kernel)) (by show ∀ c ∈ _, c < 128; decide) (by decide)
    · exact thg_txt (l := wLevel ++ [32, 60, 32, 51, 111, 114, 32] ++ wNever) (by decide +kernel) (mk_cmp (w := wLevel) (s := [60]) (x := [51, 111, 114]) (r := [wNever]) (by decide +kernel) (by decide) (by decide +kernel)) (by show ∀ c ∈ _, c < 128; decide) (by decide)
  · rcases hx with rfl | rfl | rfl
    · exact thg_txt (cat_long (p := wLevel ++ [32] ++ [60] ++ [32]) (by decide +kernel)) (lev_long (n := 4999) (c := 57) (by decide) (by decide) (by decide +kernel)) (asc_long (by decide) (by decide)) (len5 (by decide))
    · exact thg_txt (cat_long (p := wSystem ++ [32] ++ [33, 61] ++ [32]) (by decide +kernel)) (sys_long (n := 4999) (c := 97) (by decide) (by decide) (by decide +kernel)) (asc_long (by decide) (by decide)) (len5 (by decide))
    · exact thg_txt (cat_long (p := wLevel ++ [32] ++ [61, 61] ++ [32]) (by decide +kernel)) (lev_long (n := 4999) (c := 48) (by decide) (by decide) (by decide +kernel)) (asc_long (by decide) (by decide)) (len5 (by decide))
  · rcases hx with rfl | rfl | rfl | rfl | rfl
    · exact thg_txt (l := wNot ++ [10] ++ wNever) (by decide +kernel) (mk_bad (c := 10) (by decide) (by decide) (by decide) (by decide) (by decide)) (by show ∀ c ∈ _, c < 128; decide) (by decide)
    · exact thg_txt (l := wLevel ++ [32, 60, 10, 51]) (by decide +kernel) (mk_bad (c := 10) (by decide) (by decide) (by decide) (by decide) (by decide)) (by show ∀ c ∈ _, c < 128; decide) (by decide)
    · exact thg_txt (l := wAlways ++ [10] ++ wOr ++ [32] ++ wNever) (by decide +kernel) (mk_bad (c := 10) (by decide) (by decide) (by decide) (by decide) (by decide)) (by show ∀ c ∈ _, c < 128; decide) (by decide)
    · exact thg_txt (l := wLevel ++ [32, 60, 32, 51, 32, 44, 32] ++ wNever) (by decide +kernel) (mk_bad (c := 44) (by decide) (by decide) (by decide) (by decide) (by decide)) (by show ∀ c ∈ _, c < 128; decide) (by decide)
    · exact thg_txt (l := wLevel ++ [32, 60, 32, 51, 10]) (by decide +kernel) (mk_bad (c := 10) (by decide) (by decide) (by decide) (by decide) (by decide)) (by show ∀ c ∈ _, c < 128; decide) (by decide)
def fr4 : List Txt := [[], [32], [10], [65]]
theorem fr4_v : ([.str "", .str " ", .str "\n", .str "A"] : List V) = fr4.map fun l => V.str (S l) := by decide +kernel
theorem fr4_ok : ∀ x ∈ fr4, x.length ≤ 1 ∧ ∀ c ∈ x, c < 128 := by decide
def spLaw (K : PySem.W.Frag) (cs : List (Addr × Addr)) : Sp := fun vs H Q _ => ∃ (a : Addr) (ns : List Int), vs = [.ref a] ∧ Bare K H a (ns.map V.int) ∧ ns.length ≤ 63 ∧ (∀ p ∈ cs, H p.2 = some (.tbl #[])) ∧ ∀ H', Q (.bl true) H'
theorem ok_law (T : TexW w K mg D) (tb : ∀ p ∈ D.cs, TabB base mg p.1 p.2) : FnG P w K mg base 18 D.a_law D.d_law P_law (spLaw K D.cs) := by
  have TB_law : TabB base mg D.c_law D.P_law := tb (D.c_law, D.P_law) (by unfold Ad.cs; simp)
  have G_begin : FnOk P w K mg base CX0 1 D.a_begin D.d_begin P_begin (spBegin K) := ok_begin T
  have G_next : FnOk P w K mg base CX0 2 D.a_next D.d_next P_next spNext := ok_next T
  have G_tree : FnOk P w K mg base CX0 8 D.a_tree D.d_tree P_tree (spTree 5) := ok_tree T 5
  have G_pieces : FnOk P w K mg base CX0 8 D.a_pieces D.d_pieces P_pieces (spPc 5) := ok_pieces T 5
  have G_bent : FnOk P w K mg base CX0 4 D.a_bent D.d_bent P_bent spBent := ok_bent T
  have G_is_marker : FnOk P w K mg base CX0 3 D.a_is_marker D.d_is_marker P_is_marker spIsMk := ok_is_marker T
  have G_Marker_init : FnOk P w K mg base (L2.CX P w) 8 D.a_Marker_init D.d_Marker_init P_Marker_init (spMInitA K D.a_Marker D.a_BadMarker) := ok_Marker_init T
  have G_Marker_str : FnOk P w K mg base CX0 4 D.a_Marker_str D.d_Marker_str P_Marker_str (spMStr K D.a_Marker) := ok_Marker_str T
  refine T.law_F.okG S_law (fun vs H Q E h => ?_) (fun A outer s H vs Q hg hr h => ?_)
  · obtain ⟨a, ns, rfl, _⟩ := h
    rfl
  · obtain ⟨a, ns, rfl, hb, hl, ht, q⟩ := h
    refine ⟨_, (pss_cons (ps_set (i := 1) S_law.nd rfl (Or.inl rfl) (pe_call G_begin (hr.mono (by decide)) (by rfl) T.begin_g T.begin_F.kp T.begin_b .nil pass0 (pa_cons (pv 0) pa_nil)))
      (pss_cons (ps_for PassesOwn.never rfl (pi_range1 rfl T.b_range (pa_cons pe_int pa_nil)) (pg_name (i := 2) S_law.nd rfl (Or.inl rfl)) (pss_cons (ps_set (i := 3) S_law.nd rfl (Or.inl rfl) (pe_call G_pieces (hr.mono (by decide)) (by rfl) T.pieces_g T.pieces_F.kp T.pieces_b .nil pass0 (pa_cons (pv 1) (pa_cons (pe_call G_tree (hr.mono (by decide)) (by rfl) T.tree_g T.tree_F.kp T.tree_b .nil pass0 (pa_cons (pv 1) (pa_cons pe_int pa_nil))) pa_nil))))
      (pss_cons (ps_set (i := 4) S_law.nd rfl (Or.inl rfl) (pe_lst (pa_cons (pe_call G_bent (hr.mono (by decide)) (by rfl) T.bent_g T.bent_F.kp T.bent_b .nil pass0 (pa_cons (pv 1) (pa_cons (pv 3) pa_nil))) (pa_cons (pe_call G_bent (hr.mono (by decide)) (by rfl) T.bent_g T.bent_F.kp T.bent_b .nil pass0 (pa_cons (pv 1) (pa_cons (pv 3) pa_nil))) pa_nil))))
      (pss_cons (ps_expr (pe_bm PySem.F.plainAttrs_list PySem.F.slot_list_append PySem.F.type_list_append mt_append (pv 4) (pa_cons (pe_op op_add_str (pe_join pe_str (pv 3)) (pe_ix ix_list (pe_lst (pa_cons pe_str (pa_cons pe_str (pa_cons pe_str (pa_cons pe_str pa_nil))))) (pe_call G_next (hr.mono (by decide)) (by rfl) T.next_g T.next_F.kp T.next_b .nil pass0 (pa_cons (pv 1) (pa_cons pe_int pa_nil))) (fun _ _ => rfl))) pa_nil)))
      (pss_one (ps_for PassesOwn.never rfl (pi_list (pv 4)) (pg_name (i := 5) S_law.nd rfl (Or.inr rfl)) (pss_cons (ps_set (i := 6) S_law.nd rfl (Or.inr rfl) (pe_lam (T := D.tabs) (k := 15) T.told_F T.told_b S_told (.inl rfl) rfl rfl T.told_g (told_gives T rfl rfl) TB_law rfl (by unfold Ad.tabs; exact List.mem_cons_self) T.law_hu (hr.mono (by decide)) (LamX.lamS_by (sc := defScope s_law) (by decide +kernel)) rfl (fun _ _ _ _ _ => by rfl) (fun A outer s H E f c' hr => (pe_callTy (call_strD T.Marker_str_at T.Marker_str_fn (G_Marker_str.raw T.Marker_str_b .nil) (hr.mono (by decide)) pass0) (by rfl) T.b_str (by decide +kernel) (pa_cons (pe_makeS T.Marker_mk G_Marker_init (hr.mono (by decide)) rfl T.Marker_g T.Marker_init_b .nil (fun σ pins H s e s' => passLam pins σ H s e s') (pa_cons (pv 5) pa_nil)) pa_nil)))))
      (pss_cons (ps_if (pt_cmpR op_ne (pe_callB call_isi (by rfl) T.b_isinstance (by decide +kernel) (pa_cons (pv 6) (pa_cons (pe_bltn (v := .ty "list") (u := .type "list") (by rfl) T.b_list (by decide +kernel) rfl) pa_nil))) (pe_call G_is_marker (hr.mono (by decide)) (by rfl) T.is_marker_g T.is_marker_F.kp T.is_marker_b .nil pass0 (pa_cons (pv 5) pa_nil)) (nomark _)) (pss_one (ps_ret pe_bl)) pss_nil)
      (pss_cons (ps_if (PW.pt (pw_and (pt_val (pe_callB call_isi (by rfl) T.b_isinstance (by decide +kernel) (pa_cons (pv 6) (pa_cons (pe_bltn (v := .ty "tuple") (u := .type "tuple") (by rfl) T.b_tuple (by decide +kernel) rfl) pa_nil)))) (pw_and1 (pt_cmpR (op_neD hr.units) (pv 6) (pe_tup (pa_cons (pv 5) pa_nil)) (nomark _))))) (pss_one (ps_ret pe_bl)) pss_nil)
      (pss_one (ps_if (PW.pt (pw_and (pt_val (pe_callB call_isi (by rfl) T.b_isinstance (by decide +kernel) (pa_cons (pv 6) (pa_cons (pe_bltn (v := .ty "list") (u := .type "list") (by rfl) T.b_list (by decide +kernel) rfl) pa_nil)))) (pw_and1 (pt_cmpR (op_neD hr.units) (pe_lam (T := D.tabs) (k := 15) T.told_F T.told_b S_told (.inl rfl) rfl rfl T.told_g (told_gives T rfl rfl) TB_law rfl (by unfold Ad.tabs; exact List.mem_cons_self) T.law_hu (hr.mono (by decide)) (LamX.lamS_by (sc := defScope s_law) (by decide +kernel)) rfl (fun _ _ _ _ _ => by rfl) (fun A outer s H E f c' hr => (pe_callTy (call_strD T.Marker_str_at T.Marker_str_fn (G_Marker_str.raw T.Marker_str_b .nil) (hr.mono (by decide)) pass0) (by rfl) T.b_str (by decide +kernel) (pa_cons (pe_makeS T.Marker_mk G_Marker_init (hr.mono (by decide)) rfl T.Marker_g T.Marker_init_b .nil (fun σ pins H s e s' => passLam pins σ H s e s') (pa_cons (pe_ix (ix_listK (KK := K) rfl) (pv 6) pe_int (fun _ _ => rfl)) pa_nil)) pa_nil)))) (pv 6) (nomark _))))) (pss_one (ps_ret pe_bl)) pss_nil)))))))))))
      (pss_cons (ps_set (i := 7) S_law.nd rfl (Or.inl rfl) (pe_lst (pa_cons pe_non (pa_cons pe_int (pa_cons pe_bl (pa_cons (pe_tup (pa_cons pe_str pa_nil)) (pa_cons (pe_lst (pa_cons pe_str pa_nil)) (pa_cons pe_dnewK (pa_cons pe_str (pa_cons pe_str (pa_cons pe_str pa_nil)))))))))))
      (pss_cons (ps_set (i := 7) S_law.nd rfl (Or.inl rfl) (pe_op op_cat (pv 7) (pe_lst (pa_cons (pe_op op_add_str pe_str (pe_op op_mulS pe_str pe_int)) (pa_cons (pe_op op_add_str pe_str (pe_op op_mulS pe_str pe_int)) (pa_cons (pe_op op_add_str pe_str (pe_op op_mulS pe_str pe_int)) pa_nil))))))
      (pss_cons (ps_for PassesOwn.never rfl (pi_list (pe_op op_cat (pv 7) (pe_lst (pa_cons pe_str (pa_cons pe_str (pa_cons pe_str (pa_cons pe_str (pa_cons pe_str pa_nil)))))))) (pg_name (i := 8) S_law.nd rfl (Or.inr rfl)) (pss_one (ps_if (pt_cmpR (opR_or (op_neD hr.units) (op_neSmT hr.units)) (pe_lam (T := D.tabs) (k := 15) T.told_F T.told_b S_told (.inl rfl) rfl rfl T.told_g (told_gives T rfl rfl) TB_law rfl (by unfold Ad.tabs; exact List.mem_cons_self) T.law_hu (hr.mono (by decide)) (LamX.lamS_by (sc := defScope s_law) (by decide +kernel)) rfl (fun _ _ _ _ _ => by rfl) (fun A outer s H E f c' hr => (pe_makeS T.Marker_mk G_Marker_init (hr.mono (by decide)) rfl T.Marker_g T.Marker_init_b .nil (fun σ pins H s e s' => passLam pins σ H s e s') (pa_cons (pv 8) pa_nil)))) (pe_tup (pa_cons (pv 8) pa_nil)) (nomark _)) (pss_one (ps_ret pe_bl)) pss_nil)))
      (pss_one (ps_ret pe_bl))))))), ?_⟩
    have t0 : Tabs D.tabs H := by
      intro p hp
      unfold Ad.tabs at hp
      simp only [List.mem_cons, List.not_mem_nil, or_false] at hp
      rcases hp with rfl
      exact TabS.nil (ht (D.c_law, D.P_law) (by unfold Ad.cs; simp))
    refine ⟨_, rfl, a, ns, rfl, hb, hl, fun d c H1 hd s1 D1 => ?_⟩
    have t1 := Tabs.same t0 s1
    clear s1 t0 ht
    refine ⟨10, rfl, by decide, by decide, ?_⟩
    refine for_range (lo := 0) (n := 10) (fun k σ H' => ∃ o2 o3 o4 o5 o6 o7 o8 : Option V, σ = [some (.ref a), some (.ref d), o2, o3, o4, o5, o6, o7, o8] ∧ Dr H' d c (1000 * k) ∧ Tabs D.tabs H') ⟨_, _, _, _, _, _, _, rfl, D1, t1⟩ ?_ ?_
    · rintro k σ H2 hk ⟨o2, o3, o4, o5, o6, o7, o8, rfl, D2, t2⟩
      refine ⟨_, rfl, _, rfl, d, c, 1, _, rfl, by decide, D2, by show 1000 * k + 10 ≤ _; omega, fun p t H3 htr hg hz he b3 d3 => ?_⟩
      have hz3 : t.sz ≤ 3 := hz
      have d3 : Dr H3 d c (1000 * k + 10) := d3
      refine ⟨d, p, c, _, t, rfl, htr, by omega, by omega, hg, d3, by omega, fun L H4 hP b4 d4 => ?_⟩
      obtain ⟨ts, bb, hpcs, _, hlen, hL⟩ := hP
      have kT := tk_pcs hpcs hg
      have lT : (ts.flatMap tkT).length ≤ 21 := by omega
      have t4 : Tabs D.tabs H4 := Tabs.but (Tabs.but t2 D2 b3) d3 b4
      clear hpcs hlen htr b3 b4 D2 d3 t2 hg hz he
      revert hL kT lT
      generalize ts.flatMap tkT = W
      intro hL kT lT
      refine ⟨_, rfl, _, rfl, d, L, c, _, W, rfl, hL, by omega, kT, d4, by omega, fun y1 H5 ya1 yl1 b5 d5 => ?_⟩
      have h5L := lst_but hL d4 b5
      refine ⟨_, rfl, _, rfl, d, L, c, _, W, rfl, h5L, by omega, kT, d5, by omega, fun y2 H6 ya2 yl2 b6 d6 => ?_⟩
      have h6L := lst_but h5L d5 b6
      have t6 : Tabs D.tabs H6 := Tabs.but (Tabs.but t4 d4 b5) d5 b6
      clear b5 b6 t4 hL h5L d4 d5
      refine ⟨by show 2 ≤ sizeLine; decide, fun pr hpr => ?_⟩
      have npr := d6.ne_new hpr
      have ncpr := d6.nc_new hpr
      have s7 := same_new (o := .lst [.str (S y1), .str (S y2)]) hpr
      obtain ⟨j1, j2⟩ := join_bound (sp := [32]) (by decide : ∀ c ∈ ([32] : Txt), c < 128) kT
      have j2 : (joinL [32] W).length ≤ 13 * W.length := j2
      have hs := sum_bound kT
      refine ⟨_, rfl, .inl ⟨rfl, _, SqL.of upd_same⟩, ⟨_, rfl⟩, _, rfl, ((" " : String) : Str), L, W.map S, rfl, rfl, .inl (by rw [List.map_map]; exact SqL.of (s7 _ _ h6L)), ?_, by show 4 ≤ sizeLine; decide, fun qq hqq => ?_⟩
      · rw [List.map_map, List.length_map]
        have e : (W.map (Str.length ∘ S)) = W.map List.length := List.map_congr_left fun x _ => S_len x
        show (W.map (Str.length ∘ S)).sum + _ ≤ _
        rw [e]
        have : (((" " : String) : Str)).length = 1 := by decide +kernel
        rw [this]
        omega
      have nqq := (d6.keep s7).ne_new hqq
      have s8 := same_new (o := .lst [.str (("" : String) : Str), .str ((" " : String) : Str), .str (("\n" : String) : Str), .str (("A" : String) : Str)]) hqq
      have d8 := (d6.keep s7).keep s8
      refine ⟨_, rfl, d, c, 4, _, rfl, d8, by omega, by decide, by decide, fun v H9 a9 b9 d9 u9 => ?_⟩
      have h9q := u9 _ _ (upd_same (H := upd H6 pr (.lst [.str (S y1), .str (S y2)])) (a := qq) (o := .lst [.str (("" : String) : Str), .str ((" " : String) : Str), .str (("\n" : String) : Str), .str (("A" : String) : Str)])) nqq.symm
      have h9p := u9 _ _ (s8 _ _ (upd_same (H := H6) (a := pr) (o := .lst [.str (S y1), .str (S y2)]))) npr.symm
      have t9 : Tabs D.tabs H9 := Tabs.but (Tabs.same t6 (s7.trans s8)) d8 u9
      have h9q : H9 qq = some (.lst (fr4.map fun l => V.str (S l))) := by rw [← fr4_v]; exact h9q
      obtain ⟨x9, e9, m9⟩ := at_S (ws := fr4) a9 b9
      obtain ⟨f1, f2⟩ := fr4_ok x9 m9
      rw [show ((" " : String) : Str) = S [32] from spc, join_S]
      refine ⟨qq, _, _, _, rfl, rfl, SqL.of h9q, e9, _, _, rfl, rfl, by rw [S_len, S_len]; exact szL (by omega), pr, _, _, rfl, rfl, h9p, by show 2 < sizeLine; decide, ?_⟩
      rw [S_cat]
      have ya3 : Asc (joinL [32] W ++ x9) := j1.app f2
      have yl3 : (joinL [32] W ++ x9).length ≤ 400 := by rw [List.length_append]; omega
      revert ya3 yl3
      generalize joinL [32] W ++ x9 = y3
      intro ya3 yl3
      have dA : Dr (upd H9 pr (.lst ([V.str (S y1), V.str (S y2)] ++ [V.str (S y3)]))) d c _ := d9.off npr ncpr
      have hA : (upd H9 pr (.lst ([V.str (S y1), V.str (S y2)] ++ [V.str (S y3)]))) pr = some (.lst (vT [y1, y2, y3])) := upd_same
      have tA : Tabs D.tabs (upd H9 pr (.lst ([V.str (S y1), V.str (S y2)] ++ [V.str (S y3)]))) := by
        intro p hp
        obtain ⟨ps, h1, h2, h3⟩ := t9 p hp
        refine ⟨ps, by rw [upd_ne (ne_of h1 h9p (by intro z; cases z))]; exact h1, h2, fun pos cv hc => ?_⟩
        obtain ⟨c0, e1, e2⟩ := h3 pos cv hc
        exact ⟨c0, e1, by rw [upd_ne (ne_of e2 h9p (by unfold CodeO; intro z; cases z))]; exact e2⟩
      clear h9p h9q e9 t9 d9 u9 d8 s8 s7 hqq hpr h6L d6 t6 a9 b9
      revert dA hA tA
      generalize upd H9 pr (.lst ([V.str (S y1), V.str (S y2)] ++ [V.str (S y3)])) = HA
      intro dA hA tA
      have rows : ∀ y ∈ [y1, y2, y3], Asc y ∧ y.length ≤ 400 := by
        intro y hy
        simp only [List.mem_cons, List.not_mem_nil, or_false] at hy
        rcases hy with rfl | rfl | rfl
        · exact ⟨ya1, by omega⟩
        · exact ⟨ya2, by omega⟩
        · exact ⟨ya3, yl3⟩
      refine ⟨_, rfl, pr, rfl, ⟨_, SqL.of hA⟩, for_list (K := K) (a := pr) (xs := vT [y1, y2, y3]) (fun i σ H' => ∃ o5 o6 o7 o8 : Option V, σ = [some (.ref a), some (.ref d), some (.int (0 + (k : Int))), some (.ref L), some (.ref pr), o5, o6, o7, o8] ∧ Dr H' d c (1000 * (k + 1)) ∧ Tabs D.tabs H' ∧ H' pr = some (.lst (vT [y1, y2, y3]))) ⟨_, _, _, _, rfl, dA.mono (by omega), tA, hA⟩ (fun i σ H' _ h => by
        obtain ⟨_, _, _, _, _, _, _, h4⟩ := h
        exact SqL.of h4) ?_ ?_⟩
      · rintro i x σ HB hi ⟨o5, o6, o7, o8, rfl, dB, tB, hB⟩
        obtain ⟨l, hl5, rfl⟩ : ∃ l, l ∈ [y1, y2, y3] ∧ x = V.str (S l) := by
          obtain ⟨l, h1, h2⟩ := List.mem_map.mp (List.mem_of_getElem? hi)
          exact ⟨l, h1, h2.symm⟩
        obtain ⟨hla, hll⟩ := rows l hl5
        refine ⟨tB, fun HC xC tC => ?_⟩
        intro HD ED QD sD hE hQ
        have dD := (dB.ext xC).keep sD
        have tD' := Tabs.same tC sD
        have hD := sD _ _ (xC _ _ hB lst_n)
        clear dB tB hB xC tC sD
        refine ⟨_, rfl, fun x dx hx hdx hne => ⟨x, dx, .str (S l), rfl, upd_same, ?_⟩⟩
        have em := mk_read l
        cases hu : readF l with
        | some us =>
          rw [hu] at em
          obtain ⟨u, hlk, hgt, hwl, hul⟩ := read_tree hu
          obtain ⟨k0, _, hsh, htx⟩ := hlk.str hgt
          have hwa := wr_asc u hgt
          refine .inl ⟨l, us, rfl, by omega, hu, fun H1 p qs s1 h1p hrow => ⟨rfl, ?_⟩⟩
          have sm := make_same (C := D.a_Marker) (fs := [("_steps", .ref p)]) hx hdx s1
          have hm : (upd H1 x (.ins D.a_Marker dx [("_steps", .ref p)])) x = some (.ins D.a_Marker dx [("_steps", .ref p)]) := upd_same
          have mk : Mkr K D.a_Marker (upd H1 x (.ins D.a_Marker dx [("_steps", .ref p)])) x us := ⟨dx, p, qs, hm, sqT_ins (sqT_of h1p) (s1 _ _ upd_same), Row.ins (s1 _ _ upd_same) hrow⟩
          refine ⟨x, dx, _, rfl, hm, x, us, u.wr, u.bd, rfl, mk, by omega, hsh, htx, fun HE sE => ⟨_, rfl, hQ _ HE fun p8 hp8 => ?_⟩⟩
          have s8 := sm.trans (sE.trans (same_new (o := .lst [.str (S u.wr)]) hp8))
          have h8 : (upd HE p8 (.lst [.str (S u.wr)])) p8 = some (.lst (vT [u.wr])) := upd_same
          clear hm mk sm s1 h1p hrow hx hdx hne sE hp8
          revert s8 h8
          generalize upd HE p8 (.lst [.str (S u.wr)]) = H8
          intro s8 h8
          have d8 := dD.keep s8
          have t8 := Tabs.same tD' s8
          have r8 := s8 _ _ hD
          refine ⟨_, rfl, .ref p8, .ty "list", .type "list", .type "list", true, rfl, .ty _, .base (.lst h8), kit_ty (by decide +kernel), _, rfl, l, rfl, by omega, hla, fun H9 s9 => ⟨rfl, _, rfl, ?_⟩⟩
          rw [em]
          have h9 := s9 _ _ h8
          have t9 := Tabs.same t8 s9
          have d9 := d8.keep s9
          have r9 := s9 _ _ r8
          clear h8 t8 d8 r8 s8 s9
          refine iteF ⟨_, rfl, .ref p8, .ty "tuple", .type "list", .type "tuple", false, rfl, .ty _, .base (.lst h9), kit_ty (by decide +kernel), _, rfl, iteF (iteF ?_)⟩
          refine ⟨_, rfl, .ref p8, .ty "list", .type "list", .type "list", true, rfl, .ty _, .base (.lst h9), kit_ty (by decide +kernel), _, rfl, iteT ⟨t9, fun HF xF tF => fun HG EG QG sG hE2 hQ2 => ?_⟩⟩
          have dG := (d9.ext xF).keep sG
          have tG := Tabs.same tF sG
          have hG8 := sG _ _ (xF _ _ h9 lst_n)
          have rG := sG _ _ (xF _ _ r9 lst_n)
          clear d9 tF h9 r9 t9 xF sG
          refine ⟨_, rfl, p8, _, _, _, rfl, rfl, SqL.of hG8, rfl, fun x dx hx hdx hne => ⟨x, dx, .str (S u.wr), rfl, upd_same, ?_⟩⟩
          obtain ⟨us2, hu2, hlk2⟩ := read_wr hgt
          obtain ⟨k1, _, hsh2, htx2⟩ := hlk2.str hgt
          refine .inl ⟨u.wr, us2, rfl, by omega, hu2, fun H1 p qs s1 h1p hrow => ⟨rfl, ?_⟩⟩
          have sm := make_same (C := D.a_Marker) (fs := [("_steps", .ref p)]) hx hdx s1
          have hm : (upd H1 x (.ins D.a_Marker dx [("_steps", .ref p)])) x = some (.ins D.a_Marker dx [("_steps", .ref p)]) := upd_same
          have mk : Mkr K D.a_Marker (upd H1 x (.ins D.a_Marker dx [("_steps", .ref p)])) x us2 := ⟨dx, p, qs, hm, sqT_ins (sqT_of h1p) (s1 _ _ upd_same), Row.ins (s1 _ _ upd_same) hrow⟩
          refine ⟨x, dx, _, rfl, hm, x, us2, u.wr, u.bd, rfl, mk, by omega, hsh2, htx2, fun HE sE => ⟨_, rfl, hQ2 _ HE fun p9 hp9 => ?_⟩⟩
          have sx := sm.trans (sE.trans (same_new (o := .lst [.str (S u.wr)]) hp9))
          have aw1 : AscL [u.wr] := fun y hy => by rw [List.mem_singleton.mp hy]; exact hwa
          refine ⟨_, rfl, tD [u.wr], tD [u.wr], tD_dp upd_same, tD_dp (sx _ _ hG8), tD_shaped aw1, tD_shaped aw1, _, rfl, ?_⟩
          rw [tD_eqv, decide_eq_true rfl]
          exact iteF ⟨_, _, _, _, rfl, dG.keep sx, Tabs.same tG sx, sx _ _ rG⟩
        | none =>
          rw [hu] at em
          refine .inr ⟨.inl ⟨l, rfl, by omega, hu⟩, fun dd H7 s7 hdd => hE dd _ H7 hdd fun p8 H8 s8 _ hp8 => ?_⟩
          have sx := ((two_new (o := .own x) (u := .ins D.a_Marker dx []) hx hdx).trans s7).trans s8
          have d8 := dD.keep sx
          have t8 := Tabs.same tD' sx
          have r8 := sx _ _ hD
          clear hx hdx s7 s8 sx hdd
          refine ⟨_, rfl, .ref p8, .ty "list", .type "tuple", .type "list", false, rfl, .ty _, .base (.tup hp8), kit_ty (by decide +kernel), _, rfl, l, rfl, by omega, hla, fun H9 s9 => ⟨rfl, _, rfl, ?_⟩⟩
          rw [em]
          have h9 := s9 _ _ hp8
          have t9 := Tabs.same t8 s9
          have d9 := d8.keep s9
          have r9 := s9 _ _ r8
          clear hp8 t8 d8 r8 s9
          refine iteF ⟨_, rfl, .ref p8, .ty "tuple", .type "tuple", .type "tuple", true, rfl, .ty _, .base (.tup h9), kit_ty (by decide +kernel), _, rfl, iteT ⟨_, rfl, _, rfl, by show 1 ≤ sizeLine; decide, fun z hz => ?_⟩⟩
          have hok := hla.ok
          have sz := same_new (o := .tup [.str (S l)]) hz
          refine ⟨.tuple [.str (S l)], .tuple [.str (S l)], .tup (sqT_of (sz _ _ h9)) (.cons (.str _) .nil), .tup (sqT_of upd_same) (.cons (.str _) .nil), (one_tup hok).2, (one_tup hok).2, _, rfl, ?_⟩
          rw [(one_tup hok).1]
          refine iteF ⟨_, rfl, .ref p8, .ty "list", .type "tuple", .type "list", false, rfl, .ty _, .base (.tup (sz _ _ h9)), kit_ty (by decide +kernel), _, rfl, iteF (iteF ?_)⟩
          exact ⟨_, _, _, _, rfl, d9.keep sz, Tabs.same t9 sz, sz _ _ r9⟩
      · rintro σ HB ⟨o5, o6, o7, o8, rfl, dB, tB, hB⟩
        exact ⟨_, _, _, _, _, _, _, rfl, dB, tB⟩
    · rintro σ H2 ⟨o2, o3, o4, o5, o6, o7, o8, rfl, D2, t2⟩
      refine ⟨by show 1 ≤ sizeLine; decide, fun pt hpt => ⟨by show 1 ≤ sizeLine; decide, fun pl hpl => fun pd hpd => ⟨by show 9 ≤ sizeLine; decide, fun lb hlb => ?_⟩⟩⟩
      refine ⟨_, rfl, [57], 5000, congrArg V.str (by decide +kernel), rfl, by simp, by decide, by decide, _, _, rfl, rfl, ?_, [97], 5000, congrArg V.str (by decide +kernel), rfl, by simp, by decide, by decide, _, _, rfl, rfl, ?_, [48], 5000, congrArg V.str (by decide +kernel), rfl, by simp, by decide, by decide, _, _, rfl, rfl, ?_, by show 3 ≤ sizeLine; decide, fun l2 hl2 => ?_⟩
      · rw [flat1, show (S (List.replicate 5000 57)).length = 5000 from (S_len _).trans List.length_replicate]
        decide +kernel
      · rw [flat1, show (S (List.replicate 5000 97)).length = 5000 from (S_len _).trans List.length_replicate]
        decide +kernel
      · rw [flat1, show (S (List.replicate 5000 48)).length = 5000 from (S_len _).trans List.length_replicate]
        decide +kernel
      refine ⟨lb, l2, _, _, rfl, rfl, same_new hl2 _ _ upd_same, upd_same, by show 12 ≤ sizeLine; decide, fun l3 hl3 => ?_⟩
      refine ⟨_, rfl, by show 5 ≤ sizeLine; decide, fun l4 hl4 => ⟨l3, l4, _, _, rfl, rfl, same_new hl4 _ _ upd_same, upd_same, by show 17 ≤ sizeLine; decide, fun l5 hl5 => ?_⟩⟩
      refine ⟨l5, rfl, ⟨_, SqL.of upd_same⟩, for_list (K := K) (a := l5) (xs := XS pt pl pd) (fun i σ H' => ∃ o8 : Option V, σ = [some (.ref a), some (.ref d), o2, o3, o4, o5, o6, some (.ref l3), o8] ∧ Tabs D.tabs H' ∧ H' pt = some (.tup [V.str (("always" : String) : Str)]) ∧ H' pl = some (.lst [V.str (("always" : String) : Str)]) ∧ H' pd = some (.dK []) ∧ H' l5 = some (.lst (XS pt pl pd)))
        ⟨_, rfl, Tabs.same t2 ((same_new hpt).trans ((same_new hpl).trans ((same_new hpd).trans ((same_new hlb).trans ((same_new hl2).trans ((same_new hl3).trans ((same_new hl4).trans (same_new hl5)))))))),
          same_new hl5 _ _ (same_new hl4 _ _ (same_new hl3 _ _ (same_new hl2 _ _ (same_new hlb _ _ (same_new hpd _ _ (same_new hpl _ _ upd_same)))))),
          same_new hl5 _ _ (same_new hl4 _ _ (same_new hl3 _ _ (same_new hl2 _ _ (same_new hlb _ _ (same_new hpd _ _ upd_same))))),
          same_new hl5 _ _ (same_new hl4 _ _ (same_new hl3 _ _ (same_new hl2 _ _ (same_new hlb _ _ upd_same)))), upd_same⟩ (fun i σ H' _ h => by
          obtain ⟨_, _, _, _, _, _, h6⟩ := h
          exact SqL.of h6) ?_ ?_⟩
      · clear hpt hpl hpd hlb hl2 hl3 hl4 hl5 t2
        rintro i x σ HB hi ⟨o8, rfl, tB, g1, g2, g3, g4⟩
        have hx := List.mem_of_getElem? hi
        refine ⟨tB, fun HC xC tC => fun HD ED QD sD hE hQ => ?_⟩
        have k1 := sD _ _ (xC _ _ g1 tup_n)
        have k2 := sD _ _ (xC _ _ g2 lst_n)
        have k3 := sD _ _ (xC _ _ g3 (fun _ z => nomatch z))
        have k4 := sD _ _ (xC _ _ g4 lst_n)
        have tD' := Tabs.same tC sD
        have th := xs_thg (K := K) k1 k2 k3 x hx
        clear g1 g2 g3 g4 tB xC tC sD
        refine ⟨_, rfl, fun y dy hy hdy hne => ⟨y, dy, x, rfl, upd_same, .inr ⟨?_, fun dd H7 s7 hdd => hE dd _ H7 hdd fun p8 H8 s8 _ hp8 => ?_⟩⟩⟩
        · cases th with
          | txt l h1 h2 h3 => exact .inl ⟨l, rfl, by omega, h1⟩
          | oth _ nt _ => exact .inr (nt.keep (two_new hy hdy))
        · have sx := ((two_new (o := .own y) (u := .ins D.a_Marker dy []) hy hdy).trans s7).trans s8
          refine ⟨_, rfl, by show 1 ≤ sizeLine; decide, fun z hz => ?_⟩
          have sz := same_new (o := .tup [x]) hz
          have fin : ∀ o8 : Option V, ∃ o8' : Option V, [some (V.ref a), some (V.ref d), o2, o3, o4, o5, o6, some (V.ref l3), o8] = [some (.ref a), some (.ref d), o2, o3, o4, o5, o6, some (.ref l3), o8'] ∧ Tabs D.tabs (upd H8 z (.tup [x])) ∧ (upd H8 z (.tup [x])) pt = some (.tup [V.str (("always" : String) : Str)]) ∧ (upd H8 z (.tup [x])) pl = some (.lst [V.str (("always" : String) : Str)]) ∧ (upd H8 z (.tup [x])) pd = some (.dK []) ∧ (upd H8 z (.tup [x])) l5 = some (.lst (XS pt pl pd)) :=
            fun o8 => ⟨_, rfl, Tabs.same tD' (sx.trans sz), sz _ _ (sx _ _ k1), sz _ _ (sx _ _ k2), sz _ _ (sx _ _ k3), sz _ _ (sx _ _ k4)⟩
          cases th with
          | txt l h1 h2 h3 =>
            refine .inl ⟨.tuple [.str (S l)], .tuple [.str (S l)], .tup (sqT_of (sz _ _ hp8)) (.cons (.str _) .nil), .tup (sqT_of upd_same) (.cons (.str _) .nil), (one_tup h2.ok).2, (one_tup h2.ok).2, _, rfl, ?_⟩
            rw [(one_tup h2.ok).1]
            exact iteF (fin _)
          | oth _ nt fl =>
            refine .inr ⟨p8, z, [x], rfl, rfl, sqT_of (sz _ _ hp8), sqT_of upd_same, (fun v hv => by rw [List.mem_singleton.mp hv]; exact fl), _, rfl, ?_⟩
            exact iteF (fin _)
      · rintro σ HB ⟨o8, rfl, _⟩
        exact q _
end

theorem all_mk {l : PySem.W.OpenLaw} {w : World} {K : PySem.W.Frag} {h : Heap} {mg : Str → Option Value} {fa : Addr} (X : K.In h) (G : h.Ns mainGlobals mg) (hfa : mg "law" = some (.ref fa))
    {f_consists_of : Addr} {od_consists_of an_consists_of : Option Addr} {sl_consists_of : Array (Option Value)} {oc_consists_of kV_consists_of dc_consists_of pm_consists_of cd_consists_of ct_consists_of : Value}
    (n_consists_of : PySem.W.nsIn K mainGlobals "consists_of" = some (some (.ref f_consists_of)))
    (l_consists_of : K.lookup f_consists_of = some ⟨oc_consists_of, od_consists_of, .func (PySem.W.fnOf "consists_of" "consists_of" (defArgs s_consists_of) (defBody s_consists_of) (defScope s_consists_of) .none kV_consists_of dc_consists_of pm_consists_of an_consists_of cd_consists_of ct_consists_of), sl_consists_of⟩)
    (c_consists_of : PySem.W.codeIn K cd_consists_of "consists_of" = true)
    (k_consists_of : PySem.W.keepIn K (.ref f_consists_of) = true)
    {f_is_string_of : Addr} {od_is_string_of an_is_string_of : Option Addr} {sl_is_string_of : Array (Option Value)} {oc_is_string_of kV_is_string_of dc_is_string_of pm_is_string_of cd_is_string_of ct_is_string_of : Value}
    (n_is_string_of : PySem.W.nsIn K mainGlobals "is_string_of" = some (some (.ref f_is_string_of)))
    (l_is_string_of : K.lookup f_is_string_of = some ⟨oc_is_string_of, od_is_string_of, .func (PySem.W.fnOf "is_string_of" "is_string_of" (defArgs s_is_string_of) (defBody s_is_string_of) (defScope s_is_string_of) .none kV_is_string_of dc_is_string_of pm_is_string_of an_is_string_of cd_is_string_of ct_is_string_of), sl_is_string_of⟩)
    (c_is_string_of : PySem.W.codeIn K cd_is_string_of "is_string_of" = true)
    (k_is_string_of : PySem.W.keepIn K (.ref f_is_string_of) = true)
    {f_number_in : Addr} {od_number_in an_number_in : Option Addr} {sl_number_in : Array (Option Value)} {oc_number_in kV_number_in dc_number_in pm_number_in cd_number_in ct_number_in : Value}
    (n_number_in : PySem.W.nsIn K mainGlobals "number_in" = some (some (.ref f_number_in)))
    (l_number_in : K.lookup f_number_in = some ⟨oc_number_in, od_number_in, .func (PySem.W.fnOf "number_in" "number_in" (defArgs s_number_in) (defBody s_number_in) (defScope s_number_in) .none kV_number_in dc_number_in pm_number_in an_number_in cd_number_in ct_number_in), sl_number_in⟩)
    (c_number_in : PySem.W.codeIn K cd_number_in "number_in" = true)
    (k_number_in : PySem.W.keepIn K (.ref f_number_in) = true)
    {f_is_word : Addr} {od_is_word an_is_word : Option Addr} {sl_is_word : Array (Option Value)} {oc_is_word kV_is_word dc_is_word pm_is_word cd_is_word ct_is_word : Value}
    (n_is_word : PySem.W.nsIn K mainGlobals "is_word" = some (some (.ref f_is_word)))
    (l_is_word : K.lookup f_is_word = some ⟨oc_is_word, od_is_word, .func (PySem.W.fnOf "is_word" "is_word" (defArgs s_is_word) (defBody s_is_word) (defScope s_is_word) .none kV_is_word dc_is_word pm_is_word an_is_word cd_is_word ct_is_word), sl_is_word⟩)
    (c_is_word : PySem.W.codeIn K cd_is_word "is_word" = true)
    (k_is_word : PySem.W.keepIn K (.ref f_is_word) = true)
    {f_token_at : Addr} {od_token_at an_token_at : Option Addr} {sl_token_at : Array (Option Value)} {oc_token_at kV_token_at dc_token_at pm_token_at cd_token_at ct_token_at : Value}
    (n_token_at : PySem.W.nsIn K mainGlobals "token_at" = some (some (.ref f_token_at)))
    (l_token_at : K.lookup f_token_at = some ⟨oc_token_at, od_token_at, .func (PySem.W.fnOf "token_at" "token_at" (defArgs s_token_at) (defBody s_token_at) (defScope s_token_at) .none kV_token_at dc_token_at pm_token_at an_token_at cd_token_at ct_token_at), sl_token_at⟩)
    (c_token_at : PySem.W.codeIn K cd_token_at "token_at" = true)
    (k_token_at : PySem.W.keepIn K (.ref f_token_at) = true)
    {f_tokens_of : Addr} {od_tokens_of an_tokens_of : Option Addr} {sl_tokens_of : Array (Option Value)} {oc_tokens_of kV_tokens_of dc_tokens_of pm_tokens_of cd_tokens_of ct_tokens_of : Value}
    (n_tokens_of : PySem.W.nsIn K mainGlobals "tokens_of" = some (some (.ref f_tokens_of)))
    (l_tokens_of : K.lookup f_tokens_of = some ⟨oc_tokens_of, od_tokens_of, .func (PySem.W.fnOf "tokens_of" "tokens_of" (defArgs s_tokens_of) (defBody s_tokens_of) (defScope s_tokens_of) .none kV_tokens_of dc_tokens_of pm_tokens_of an_tokens_of cd_tokens_of ct_tokens_of), sl_tokens_of⟩)
    (c_tokens_of : PySem.W.codeIn K cd_tokens_of "tokens_of" = true)
    (k_tokens_of : PySem.W.keepIn K (.ref f_tokens_of) = true)
    {f_comparison_of : Addr} {od_comparison_of an_comparison_of : Option Addr} {sl_comparison_of : Array (Option Value)} {oc_comparison_of kV_comparison_of dc_comparison_of pm_comparison_of cd_comparison_of ct_comparison_of : Value}
    (n_comparison_of : PySem.W.nsIn K mainGlobals "comparison_of" = some (some (.ref f_comparison_of)))
    (l_comparison_of : K.lookup f_comparison_of = some ⟨oc_comparison_of, od_comparison_of, .func (PySem.W.fnOf "comparison_of" "comparison_of" (defArgs s_comparison_of) (defBody s_comparison_of) (defScope s_comparison_of) .none kV_comparison_of dc_comparison_of pm_comparison_of an_comparison_of cd_comparison_of ct_comparison_of), sl_comparison_of⟩)
    (c_comparison_of : PySem.W.codeIn K cd_comparison_of "comparison_of" = true)
    (k_comparison_of : PySem.W.keepIn K (.ref f_comparison_of) = true)
    {f_terms_of : Addr} {od_terms_of an_terms_of : Option Addr} {sl_terms_of : Array (Option Value)} {oc_terms_of kV_terms_of dc_terms_of pm_terms_of cd_terms_of ct_terms_of : Value}
    (n_terms_of : PySem.W.nsIn K mainGlobals "terms_of" = some (some (.ref f_terms_of)))
    (l_terms_of : K.lookup f_terms_of = some ⟨oc_terms_of, od_terms_of, .func (PySem.W.fnOf "terms_of" "terms_of" (defArgs s_terms_of) (defBody s_terms_of) (defScope s_terms_of) .none kV_terms_of dc_terms_of pm_terms_of an_terms_of cd_terms_of ct_terms_of), sl_terms_of⟩)
    (c_terms_of : PySem.W.codeIn K cd_terms_of "terms_of" = true)
    (k_terms_of : PySem.W.keepIn K (.ref f_terms_of) = true)
    {f_expression_of : Addr} {od_expression_of an_expression_of : Option Addr} {sl_expression_of : Array (Option Value)} {oc_expression_of kV_expression_of dc_expression_of pm_expression_of cd_expression_of ct_expression_of : Value}
    (n_expression_of : PySem.W.nsIn K mainGlobals "expression_of" = some (some (.ref f_expression_of)))
    (l_expression_of : K.lookup f_expression_of = some ⟨oc_expression_of, od_expression_of, .func (PySem.W.fnOf "expression_of" "expression_of" (defArgs s_expression_of) (defBody s_expression_of) (defScope s_expression_of) .none kV_expression_of dc_expression_of pm_expression_of an_expression_of cd_expression_of ct_expression_of), sl_expression_of⟩)
    (c_expression_of : PySem.W.codeIn K cd_expression_of "expression_of" = true)
    (k_expression_of : PySem.W.keepIn K (.ref f_expression_of) = true)
    {f_expression_in : Addr} {od_expression_in an_expression_in : Option Addr} {sl_expression_in : Array (Option Value)} {oc_expression_in kV_expression_in dc_expression_in pm_expression_in cd_expression_in ct_expression_in : Value}
    (n_expression_in : PySem.W.nsIn K mainGlobals "expression_in" = some (some (.ref f_expression_in)))
    (l_expression_in : K.lookup f_expression_in = some ⟨oc_expression_in, od_expression_in, .func (PySem.W.fnOf "expression_in" "expression_in" (defArgs s_expression_in) (defBody s_expression_in) (defScope s_expression_in) .none kV_expression_in dc_expression_in pm_expression_in an_expression_in cd_expression_in ct_expression_in), sl_expression_in⟩)
    (c_expression_in : PySem.W.codeIn K cd_expression_in "expression_in" = true)
    (k_expression_in : PySem.W.keepIn K (.ref f_expression_in) = true)
    {f_text_within : Addr} {od_text_within an_text_within : Option Addr} {sl_text_within : Array (Option Value)} {oc_text_within kV_text_within dc_text_within pm_text_within cd_text_within ct_text_within : Value}
    (n_text_within : PySem.W.nsIn K mainGlobals "text_within" = some (some (.ref f_text_within)))
    (l_text_within : K.lookup f_text_within = some ⟨oc_text_within, od_text_within, .func (PySem.W.fnOf "text_within" "text_within" (defArgs s_text_within) (defBody s_text_within) (defScope s_text_within) .none kV_text_within dc_text_within pm_text_within an_text_within cd_text_within ct_text_within), sl_text_within⟩)
    (c_text_within : PySem.W.codeIn K cd_text_within "text_within" = true)
    (k_text_within : PySem.W.keepIn K (.ref f_text_within) = true)
    {f_text_of_operand : Addr} {od_text_of_operand an_text_of_operand : Option Addr} {sl_text_of_operand : Array (Option Value)} {oc_text_of_operand kV_text_of_operand dc_text_of_operand pm_text_of_operand cd_text_of_operand ct_text_of_operand : Value}
    (n_text_of_operand : PySem.W.nsIn K mainGlobals "text_of_operand" = some (some (.ref f_text_of_operand)))
    (l_text_of_operand : K.lookup f_text_of_operand = some ⟨oc_text_of_operand, od_text_of_operand, .func (PySem.W.fnOf "text_of_operand" "text_of_operand" (defArgs s_text_of_operand) (defBody s_text_of_operand) (defScope s_text_of_operand) .none kV_text_of_operand dc_text_of_operand pm_text_of_operand an_text_of_operand cd_text_of_operand ct_text_of_operand), sl_text_of_operand⟩)
    (c_text_of_operand : PySem.W.codeIn K cd_text_of_operand "text_of_operand" = true)
    (k_text_of_operand : PySem.W.keepIn K (.ref f_text_of_operand) = true)
    {f_text_of_expression : Addr} {od_text_of_expression an_text_of_expression : Option Addr} {sl_text_of_expression : Array (Option Value)} {oc_text_of_expression kV_text_of_expression dc_text_of_expression pm_text_of_expression cd_text_of_expression ct_text_of_expression : Value}
    (n_text_of_expression : PySem.W.nsIn K mainGlobals "text_of_expression" = some (some (.ref f_text_of_expression)))
    (l_text_of_expression : K.lookup f_text_of_expression = some ⟨oc_text_of_expression, od_text_of_expression, .func (PySem.W.fnOf "text_of_expression" "text_of_expression" (defArgs s_text_of_expression) (defBody s_text_of_expression) (defScope s_text_of_expression) .none kV_text_of_expression dc_text_of_expression pm_text_of_expression an_text_of_expression cd_text_of_expression ct_text_of_expression), sl_text_of_expression⟩)
    (c_text_of_expression : PySem.W.codeIn K cd_text_of_expression "text_of_expression" = true)
    (k_text_of_expression : PySem.W.keepIn K (.ref f_text_of_expression) = true)
    {f_Marker : Addr}
    {f_Marker_init : Addr} {od_Marker_init an_Marker_init : Option Addr} {sl_Marker_init : Array (Option Value)} {oc_Marker_init kV_Marker_init dc_Marker_init pm_Marker_init cd_Marker_init ct_Marker_init : Value}
    (n_Marker : PySem.W.nsIn K mainGlobals "Marker" = some (some (.ref f_Marker)))
    (at_Marker_init : PySem.W.findIn K (.ref f_Marker) "__init__" = some (some (.ref f_Marker_init)))
    {dt_Marker_init : Addr} {dod_Marker_init : Option Addr} {dsl_Marker_init : Array (Option Value)} {dnn_Marker_init : Nat} {dk_Marker_init0 : Tok}
    (l_Marker_init : K.lookup f_Marker_init = some ⟨oc_Marker_init, od_Marker_init, .func (PySem.W.fnOf "__init__" "Marker.__init__" (defArgs s_Marker_init) (defBody s_Marker_init) (defScope s_Marker_init) (.ref dt_Marker_init) kV_Marker_init dc_Marker_init pm_Marker_init an_Marker_init cd_Marker_init ct_Marker_init), sl_Marker_init⟩)
    (w_Marker_init : K.lookup dt_Marker_init = some ⟨.type "tuple", dod_Marker_init, .seq #[.str "always" dk_Marker_init0] dnn_Marker_init, dsl_Marker_init⟩)
    (c_Marker_init : PySem.W.codeIn K cd_Marker_init "Marker.__init__" = true)
    (k_Marker_init : PySem.W.keepIn K (.ref f_Marker_init) = true)
    {f_Marker_str : Addr} {od_Marker_str an_Marker_str : Option Addr} {sl_Marker_str : Array (Option Value)} {oc_Marker_str kV_Marker_str dc_Marker_str pm_Marker_str cd_Marker_str ct_Marker_str : Value}
    (at_Marker_str : PySem.W.findIn K (.ref f_Marker) "__str__" = some (some (.ref f_Marker_str)))
    (l_Marker_str : K.lookup f_Marker_str = some ⟨oc_Marker_str, od_Marker_str, .func (PySem.W.fnOf "__str__" "Marker.__str__" (defArgs s_Marker_str) (defBody s_Marker_str) (defScope s_Marker_str) .none kV_Marker_str dc_Marker_str pm_Marker_str an_Marker_str cd_Marker_str ct_Marker_str), sl_Marker_str⟩)
    (c_Marker_str : PySem.W.codeIn K cd_Marker_str "Marker.__str__" = true)
    (k_Marker_str : PySem.W.keepIn K (.ref f_Marker_str) = true)
    {f_begin : Addr} {od_begin an_begin : Option Addr} {sl_begin : Array (Option Value)} {oc_begin kV_begin dc_begin pm_begin cd_begin ct_begin : Value}
    (n_begin : PySem.W.nsIn K mainGlobals "_law_begin" = some (some (.ref f_begin)))
    (l_begin : K.lookup f_begin = some ⟨oc_begin, od_begin, .func (PySem.W.fnOf "_law_begin" "_law_begin" (defArgs s_begin) (defBody s_begin) (defScope s_begin) .none kV_begin dc_begin pm_begin an_begin cd_begin ct_begin), sl_begin⟩)
    (c_begin : PySem.W.codeIn K cd_begin "_law_begin" = true)
    (k_begin : PySem.W.keepIn K (.ref f_begin) = true)
    {f_mixed : Addr} {od_mixed an_mixed : Option Addr} {sl_mixed : Array (Option Value)} {oc_mixed kV_mixed dc_mixed pm_mixed cd_mixed ct_mixed : Value}
    (n_mixed : PySem.W.nsIn K mainGlobals "_law_mixed" = some (some (.ref f_mixed)))
    (l_mixed : K.lookup f_mixed = some ⟨oc_mixed, od_mixed, .func (PySem.W.fnOf "_law_mixed" "_law_mixed" (defArgs s_mixed) (defBody s_mixed) (defScope s_mixed) .none kV_mixed dc_mixed pm_mixed an_mixed cd_mixed ct_mixed), sl_mixed⟩)
    (c_mixed : PySem.W.codeIn K cd_mixed "_law_mixed" = true)
    (k_mixed : PySem.W.keepIn K (.ref f_mixed) = true)
    {f_next : Addr} {od_next an_next : Option Addr} {sl_next : Array (Option Value)} {oc_next kV_next dc_next pm_next cd_next ct_next : Value}
    (n_next : PySem.W.nsIn K mainGlobals "_law_next" = some (some (.ref f_next)))
    (l_next : K.lookup f_next = some ⟨oc_next, od_next, .func (PySem.W.fnOf "_law_next" "_law_next" (defArgs s_next) (defBody s_next) (defScope s_next) .none kV_next dc_next pm_next an_next cd_next ct_next), sl_next⟩)
    (c_next : PySem.W.codeIn K cd_next "_law_next" = true)
    (k_next : PySem.W.keepIn K (.ref f_next) = true)
    {f_tree : Addr} {od_tree an_tree : Option Addr} {sl_tree : Array (Option Value)} {oc_tree kV_tree dc_tree pm_tree cd_tree ct_tree : Value}
    (n_tree : PySem.W.nsIn K mainGlobals "_law_tree" = some (some (.ref f_tree)))
    (l_tree : K.lookup f_tree = some ⟨oc_tree, od_tree, .func (PySem.W.fnOf "_law_tree" "_law_tree" (defArgs s_tree) (defBody s_tree) (defScope s_tree) .none kV_tree dc_tree pm_tree an_tree cd_tree ct_tree), sl_tree⟩)
    (c_tree : PySem.W.codeIn K cd_tree "_law_tree" = true)
    (k_tree : PySem.W.keepIn K (.ref f_tree) = true)
    {f_pieces : Addr} {od_pieces an_pieces : Option Addr} {sl_pieces : Array (Option Value)} {oc_pieces kV_pieces dc_pieces pm_pieces cd_pieces ct_pieces : Value}
    (n_pieces : PySem.W.nsIn K mainGlobals "_law_pieces" = some (some (.ref f_pieces)))
    (l_pieces : K.lookup f_pieces = some ⟨oc_pieces, od_pieces, .func (PySem.W.fnOf "_law_pieces" "_law_pieces" (defArgs s_pieces) (defBody s_pieces) (defScope s_pieces) .none kV_pieces dc_pieces pm_pieces an_pieces cd_pieces ct_pieces), sl_pieces⟩)
    (c_pieces : PySem.W.codeIn K cd_pieces "_law_pieces" = true)
    (k_pieces : PySem.W.keepIn K (.ref f_pieces) = true)
    {f_loose : Addr} {od_loose an_loose : Option Addr} {sl_loose : Array (Option Value)} {oc_loose kV_loose dc_loose pm_loose cd_loose ct_loose : Value}
    (n_loose : PySem.W.nsIn K mainGlobals "_law_loose" = some (some (.ref f_loose)))
    (l_loose : K.lookup f_loose = some ⟨oc_loose, od_loose, .func (PySem.W.fnOf "_law_loose" "_law_loose" (defArgs s_loose) (defBody s_loose) (defScope s_loose) .none kV_loose dc_loose pm_loose an_loose cd_loose ct_loose), sl_loose⟩)
    (c_loose : PySem.W.codeIn K cd_loose "_law_loose" = true)
    (k_loose : PySem.W.keepIn K (.ref f_loose) = true)
    {f_told : Addr} {od_told an_told : Option Addr} {sl_told : Array (Option Value)} {oc_told kV_told dc_told pm_told cd_told ct_told : Value}
    (n_told : PySem.W.nsIn K mainGlobals "_law_told" = some (some (.ref f_told)))
    (l_told : K.lookup f_told = some ⟨oc_told, od_told, .func (PySem.W.fnOf "_law_told" "_law_told" (defArgs s_told) (defBody s_told) (defScope s_told) .none kV_told dc_told pm_told an_told cd_told ct_told), sl_told⟩)
    (c_told : PySem.W.codeIn K cd_told "_law_told" = true)
    (k_told : PySem.W.keepIn K (.ref f_told) = true)
    {f_cut : Addr} {od_cut an_cut : Option Addr} {sl_cut : Array (Option Value)} {oc_cut kV_cut dc_cut pm_cut cd_cut ct_cut : Value}
    (n_cut : PySem.W.nsIn K mainGlobals "_law_cut" = some (some (.ref f_cut)))
    (l_cut : K.lookup f_cut = some ⟨oc_cut, od_cut, .func (PySem.W.fnOf "_law_cut" "_law_cut" (defArgs s_cut) (defBody s_cut) (defScope s_cut) .none kV_cut dc_cut pm_cut an_cut cd_cut ct_cut), sl_cut⟩)
    (c_cut : PySem.W.codeIn K cd_cut "_law_cut" = true)
    (k_cut : PySem.W.keepIn K (.ref f_cut) = true)
    {f_is_comparison : Addr} {od_is_comparison an_is_comparison : Option Addr} {sl_is_comparison : Array (Option Value)} {oc_is_comparison kV_is_comparison dc_is_comparison pm_is_comparison cd_is_comparison ct_is_comparison : Value}
    (n_is_comparison : PySem.W.nsIn K mainGlobals "_law_is_comparison" = some (some (.ref f_is_comparison)))
    (l_is_comparison : K.lookup f_is_comparison = some ⟨oc_is_comparison, od_is_comparison, .func (PySem.W.fnOf "_law_is_comparison" "_law_is_comparison" (defArgs s_is_comparison) (defBody s_is_comparison) (defScope s_is_comparison) .none kV_is_comparison dc_is_comparison pm_is_comparison an_is_comparison cd_is_comparison ct_is_comparison), sl_is_comparison⟩)
    (c_is_comparison : PySem.W.codeIn K cd_is_comparison "_law_is_comparison" = true)
    (k_is_comparison : PySem.W.keepIn K (.ref f_is_comparison) = true)
    {f_operands : Addr} {od_operands an_operands : Option Addr} {sl_operands : Array (Option Value)} {oc_operands kV_operands dc_operands pm_operands cd_operands ct_operands : Value}
    (n_operands : PySem.W.nsIn K mainGlobals "_law_operands" = some (some (.ref f_operands)))
    (l_operands : K.lookup f_operands = some ⟨oc_operands, od_operands, .func (PySem.W.fnOf "_law_operands" "_law_operands" (defArgs s_operands) (defBody s_operands) (defScope s_operands) .none kV_operands dc_operands pm_operands an_operands cd_operands ct_operands), sl_operands⟩)
    (c_operands : PySem.W.codeIn K cd_operands "_law_operands" = true)
    (k_operands : PySem.W.keepIn K (.ref f_operands) = true)
    {f_is_marker : Addr} {od_is_marker an_is_marker : Option Addr} {sl_is_marker : Array (Option Value)} {oc_is_marker kV_is_marker dc_is_marker pm_is_marker cd_is_marker ct_is_marker : Value}
    (n_is_marker : PySem.W.nsIn K mainGlobals "_law_is_marker" = some (some (.ref f_is_marker)))
    (l_is_marker : K.lookup f_is_marker = some ⟨oc_is_marker, od_is_marker, .func (PySem.W.fnOf "_law_is_marker" "_law_is_marker" (defArgs s_is_marker) (defBody s_is_marker) (defScope s_is_marker) .none kV_is_marker dc_is_marker pm_is_marker an_is_marker cd_is_marker ct_is_marker), sl_is_marker⟩)
    (c_is_marker : PySem.W.codeIn K cd_is_marker "_law_is_marker" = true)
    (k_is_marker : PySem.W.keepIn K (.ref f_is_marker) = true)
    {f_bent : Addr} {od_bent an_bent : Option Addr} {sl_bent : Array (Option Value)} {oc_bent kV_bent dc_bent pm_bent cd_bent ct_bent : Value}
    (n_bent : PySem.W.nsIn K mainGlobals "_law_bent" = some (some (.ref f_bent)))
    (l_bent : K.lookup f_bent = some ⟨oc_bent, od_bent, .func (PySem.W.fnOf "_law_bent" "_law_bent" (defArgs s_bent) (defBody s_bent) (defScope s_bent) .none kV_bent dc_bent pm_bent an_bent cd_bent ct_bent), sl_bent⟩)
    (c_bent : PySem.W.codeIn K cd_bent "_law_bent" = true)
    (k_bent : PySem.W.keepIn K (.ref f_bent) = true)
    {f_law : Addr} {od_law an_law : Option Addr} {sl_law : Array (Option Value)} {oc_law kV_law dc_law pm_law ct_law : Value}
    (n_law : PySem.W.nsIn K mainGlobals "law" = some (some (.ref f_law)))
    {cc_law cP_law : Addr} {cy_law : Option Addr} {cv_law : Array Value} {cz_law : Array (Option Value)}
    (l_law : K.lookup f_law = some ⟨oc_law, od_law, .func (PySem.W.fnOf "law" "law" (defArgs s_law) (defBody s_law) (defScope s_law) .none kV_law dc_law pm_law an_law (.ref cc_law) ct_law), sl_law⟩)
    (lc_law : K.lookup cc_law = some ⟨.type "code", cy_law, .fields cv_law, cz_law⟩)
    (tp_law : (cv_law[11]? : Option Value) = some (.ref cP_law))
    (ch_law : PySem.W.codeHdIn K cc_law cP_law = true)
    (ol_law : K.lookup cP_law = none)
    (mt_law : h.get? cP_law = some { cls := .none, data := .fields #[] })
    (c_law : PySem.W.codeIn K (.ref cc_law) "law" = true)
    (k_law : PySem.W.keepIn K (.ref f_law) = true)
    {f_BadMarker : Addr}
    {f_BadMarker_init : Addr} {od_BadMarker_init an_BadMarker_init : Option Addr} {sl_BadMarker_init : Array (Option Value)} {oc_BadMarker_init kV_BadMarker_init dc_BadMarker_init pm_BadMarker_init cd_BadMarker_init ct_BadMarker_init : Value}
    (n_BadMarker : PySem.W.nsIn K mainGlobals "BadMarker" = some (some (.ref f_BadMarker)))
    (at_BadMarker_init : PySem.W.findIn K (.ref f_BadMarker) "__init__" = some (some (.ref f_BadMarker_init)))
    (l_BadMarker_init : K.lookup f_BadMarker_init = some ⟨oc_BadMarker_init, od_BadMarker_init, .func (PySem.W.fnOf "__init__" "BadMarker.__init__" (defArgs s_BadMarker_init) (defBody s_BadMarker_init) (defScope s_BadMarker_init) .none kV_BadMarker_init dc_BadMarker_init pm_BadMarker_init an_BadMarker_init cd_BadMarker_init ct_BadMarker_init), sl_BadMarker_init⟩)
    (c_BadMarker_init : PySem.W.codeIn K cd_BadMarker_init "BadMarker.__init__" = true)
    (k_BadMarker_init : PySem.W.keepIn K (.ref f_BadMarker_init) = true)
    (hu_law : ∀ p ∈ ([(cP_law, ("law" ++ ".<locals>.") ++ "<lambda>")] : List (Addr × Str)), p.1 = cP_law → p.2 = ("law" ++ ".<locals>.") ++ "<lambda>")
    {nm_BadMarker qn_BadMarker : Str} {N_BadMarker : Addr} {bs_BadMarker bm_BadMarker : List Value} {sn_BadMarker : List Str} {sub_BadMarker : List Value} {ab_BadMarker : Bool} {col_BadMarker : Option Bool} {dd_BadMarker : Option Addr} {k0_BadMarker k1_BadMarker k2_BadMarker k3_BadMarker k5_BadMarker : Option Value}
    (xl_BadMarker : K.lookup f_BadMarker = some (excClassObj nm_BadMarker qn_BadMarker f_BadMarker N_BadMarker bs_BadMarker bm_BadMarker true sn_BadMarker sub_BadMarker ab_BadMarker col_BadMarker dd_BadMarker k0_BadMarker k1_BadMarker k2_BadMarker k3_BadMarker k5_BadMarker "ValueError.__new__"))
    (xr_BadMarker : PySem.HandSPX.refsVE bm_BadMarker = true)
    (xsa_BadMarker : PySem.W.findIn K (.ref f_BadMarker) "__setattr__" = some (some (.builtin "object.__setattr__")))
    (xb_BadMarker : PySem.W.subIn K (.ref f_BadMarker) (.type "BaseException") = some true)
    (xd_BadMarker : PySem.W.hasDictIn K f_BadMarker = true)
    (xy_BadMarker : PySem.W.typeIn K (.ref f_BadMarker) = some (.type "type"))
    (xk_BadMarker : PySem.W.keepIn K (.ref f_BadMarker) = true)
    (xg_BadMarker : PySem.W.findIn K (.ref f_BadMarker) "__getattribute__" = some (some (.builtin "BaseException.__getattribute__")))
    (xh_BadMarker : PySem.W.findIn K (.ref f_BadMarker) "__getattr__" = some none)
    (xc_BadMarker : PySem.W.findIn K (.ref f_BadMarker) "__class__" = some (some (.builtin "object.__class__")))
    (xn_BadMarker : PySem.W.specialIn K (.builtin "object.__class__") "__get__" = some (some (.builtin "getset_descriptor.__get__")))
    (xq_BadMarker : PySem.W.takesIn K (.builtin "object.__class__") = some true)
    (xm_BadMarker : PySem.W.mroIn K f_BadMarker (.type "object") = some true)
    (xt_BadMarker : PySem.W.typeIn K (.ref f_BadMarker_init) = some (.type "function"))
    (xf_BadMarker : PySem.W.findIn K (.ref f_BadMarker) "given" = some none)
    (xz_BadMarker : PySem.W.subIn K (.ref f_BadMarker) (.ref f_BadMarker) = some true)
    (xs_BadMarker_BadMarker : PySem.W.subIn K (.ref f_BadMarker) (.ref f_BadMarker) = some true)
    (pg_Marker : PySem.W.plainGet K f_Marker Str.empty = true)
    (hd_Marker : PySem.W.hasDictIn K f_Marker = true)
    (po_Marker : PySem.W.plainOver K f_Marker = true)
    (sa_Marker : PySem.W.findIn K (.ref f_Marker) "__setattr__" = some (some (.builtin "object.__setattr__")))
    (mk_Marker : PySem.W.makesIn K f_Marker = true)
    (kc_Marker : PySem.W.keepIn K (.ref f_Marker) = true)
    (rd_Marker : PySem.W.readsIn K f_Marker (.type "type") = true)
    (ga_Marker : PySem.W.specialIn K (.ref f_Marker) "__getattribute__" = some (some (.builtin "type.__getattribute__")))
    (ca_Marker : PySem.W.findIn K (.ref f_Marker) "__class__" = some (some (.builtin "object.__class__")))
    (cn_Marker : PySem.W.specialIn K (.builtin "object.__class__") "__get__" = some (some (.builtin "getset_descriptor.__get__")))
    (ct_Marker : PySem.W.takesIn K (.builtin "object.__class__") = some true)
    (cm_Marker : PySem.W.mroIn K f_Marker (.type "object") = some true)
    (nf_Marker : PySem.W.notFirst K f_Marker (.ref f_Marker) = true)
    (fn_Marker_init : PySem.W.isFn K (.ref f_Marker_init) = true)
    (sf_Marker : PySem.W.selfFirst K f_Marker = true)
    (na_Marker_steps : PySem.W.findIn K (.ref f_Marker) "_steps" = some none)
    (fn_Marker_str : PySem.W.isFn K (.ref f_Marker_str) = true)
    {t_LETTERS : Tok}
    (g_LETTERS : PySem.W.nsIn K mainGlobals "LETTERS" = some (some (.str "abcdefghijklmnopqrstuvwxyz" t_LETTERS)))
    {t_DIGITS : Tok}
    (g_DIGITS : PySem.W.nsIn K mainGlobals "DIGITS" = some (some (.str "0123456789" t_DIGITS)))
    {t_HIGHEST : Tok}
    (g_HIGHEST : PySem.W.nsIn K mainGlobals "HIGHEST" = some (some (.int 99 t_HIGHEST)))
    {t_WORDS : Tok}
    (g_WORDS : PySem.W.nsIn K mainGlobals "WORDS" = some (some (.int 100000000000000000 t_WORDS)))
    {k_SIGNS : Addr} {od_SIGNS : Option Addr} {sl_SIGNS : Array (Option Value)} {nn_SIGNS : Nat} {t_SIGNS0 : Tok} {t_SIGNS1 : Tok} {t_SIGNS2 : Tok} {t_SIGNS3 : Tok} {t_SIGNS4 : Tok} {t_SIGNS5 : Tok} {t_SIGNS6 : Tok} {t_SIGNS7 : Tok}
    (g_SIGNS : PySem.W.nsIn K mainGlobals "SIGNS" = some (some (.ref k_SIGNS)))
    (w_SIGNS : K.lookup k_SIGNS = some ⟨.type "tuple", od_SIGNS, .seq #[.str "==" t_SIGNS0, .str "!=" t_SIGNS1, .str "<=" t_SIGNS2, .str ">=" t_SIGNS3, .str "<" t_SIGNS4, .str ">" t_SIGNS5, .str "(" t_SIGNS6, .str ")" t_SIGNS7] nn_SIGNS, sl_SIGNS⟩)
    {k_LEVEL_SIGNS : Addr} {od_LEVEL_SIGNS : Option Addr} {sl_LEVEL_SIGNS : Array (Option Value)} {nn_LEVEL_SIGNS : Nat} {t_LEVEL_SIGNS0 : Tok} {t_LEVEL_SIGNS1 : Tok} {t_LEVEL_SIGNS2 : Tok} {t_LEVEL_SIGNS3 : Tok} {t_LEVEL_SIGNS4 : Tok} {t_LEVEL_SIGNS5 : Tok}
    (g_LEVEL_SIGNS : PySem.W.nsIn K mainGlobals "LEVEL_SIGNS" = some (some (.ref k_LEVEL_SIGNS)))
    (w_LEVEL_SIGNS : K.lookup k_LEVEL_SIGNS = some ⟨.type "tuple", od_LEVEL_SIGNS, .seq #[.str "==" t_LEVEL_SIGNS0, .str "!=" t_LEVEL_SIGNS1, .str "<" t_LEVEL_SIGNS2, .str "<=" t_LEVEL_SIGNS3, .str ">" t_LEVEL_SIGNS4, .str ">=" t_LEVEL_SIGNS5] nn_LEVEL_SIGNS, sl_LEVEL_SIGNS⟩)
    {k_FIELDS : Addr} {od_FIELDS : Option Addr} {sl_FIELDS : Array (Option Value)} {nn_FIELDS : Nat} {t_FIELDS0 : Tok} {t_FIELDS1 : Tok} {t_FIELDS2 : Tok}
    (g_FIELDS : PySem.W.nsIn K mainGlobals "FIELDS" = some (some (.ref k_FIELDS)))
    (w_FIELDS : K.lookup k_FIELDS = some ⟨.type "tuple", od_FIELDS, .seq #[.str "system" t_FIELDS0, .str "machine" t_FIELDS1, .str "level" t_FIELDS2] nn_FIELDS, sl_FIELDS⟩)
    {k_OPERANDS : Addr} {od_OPERANDS : Option Addr} {sl_OPERANDS : Array (Option Value)} {nn_OPERANDS : Nat} {t_OPERANDS0 : Tok} {t_OPERANDS1 : Tok} {t_OPERANDS2 : Tok} {t_OPERANDS3 : Tok} {t_OPERANDS4 : Tok}
    (g_OPERANDS : PySem.W.nsIn K mainGlobals "OPERANDS" = some (some (.ref k_OPERANDS)))
    (w_OPERANDS : K.lookup k_OPERANDS = some ⟨.type "tuple", od_OPERANDS, .seq #[.str "always" t_OPERANDS0, .str "never" t_OPERANDS1, .str "system" t_OPERANDS2, .str "machine" t_OPERANDS3, .str "level" t_OPERANDS4] nn_OPERANDS, sl_OPERANDS⟩)
    {k_BINDINGS : Addr} {nn_BINDINGS : Nat} {t_BINDINGS0 u_BINDINGS0 : Tok} {t_BINDINGS1 u_BINDINGS1 : Tok} {t_BINDINGS2 u_BINDINGS2 : Tok} {t_BINDINGS3 u_BINDINGS3 : Tok} {t_BINDINGS4 u_BINDINGS4 : Tok}
    (g_BINDINGS : PySem.W.nsIn K mainGlobals "BINDINGS" = some (some (.ref k_BINDINGS)))
    (w_BINDINGS : K.lookup k_BINDINGS = some ⟨.type "dict", none, .dict #[⟨PyData.keyHash w.params "(", .str "(" t_BINDINGS0, .int 0 u_BINDINGS0⟩, ⟨PyData.keyHash w.params ")", .str ")" t_BINDINGS1, .int 1 u_BINDINGS1⟩, ⟨PyData.keyHash w.params "or", .str "or" t_BINDINGS2, .int 1 u_BINDINGS2⟩, ⟨PyData.keyHash w.params "and", .str "and" t_BINDINGS3, .int 2 u_BINDINGS3⟩, ⟨PyData.keyHash w.params "not", .str "not" t_BINDINGS4, .int 3 u_BINDINGS4⟩] nn_BINDINGS, #[]⟩)
    (s_BINDINGS : (k_BINDINGS == sysModules) = false)
    {t_TIGHTEST : Tok}
    (g_TIGHTEST : PySem.W.nsIn K mainGlobals "TIGHTEST" = some (some (.int 4 t_TIGHTEST)))
    {k_NOT0 : Addr} {od_NOT0 : Option Addr} {sl_NOT0 : Array (Option Value)} {nn_NOT0 : Nat} {t_NOT0_0 : Tok} {t_NOT0_1 : Tok} {t_NOT0_2 : Tok}
    {k_NOT : Addr} {od_NOT : Option Addr} {sl_NOT : Array (Option Value)} {nn_NOT : Nat} 
    (g_NOT : PySem.W.nsIn K mainGlobals "NOT" = some (some (.ref k_NOT)))
    (w_NOT : K.lookup k_NOT = some ⟨.type "tuple", od_NOT, .seq #[.ref k_NOT0] nn_NOT, sl_NOT⟩)
    (w_NOT0 : K.lookup k_NOT0 = some ⟨.type "tuple", od_NOT0, .seq #[.str "not" t_NOT0_0, .str "" t_NOT0_1, .str "" t_NOT0_2] nn_NOT0, sl_NOT0⟩)
    {k_AND0 : Addr} {od_AND0 : Option Addr} {sl_AND0 : Array (Option Value)} {nn_AND0 : Nat} {t_AND0_0 : Tok} {t_AND0_1 : Tok} {t_AND0_2 : Tok}
    {k_AND : Addr} {od_AND : Option Addr} {sl_AND : Array (Option Value)} {nn_AND : Nat} 
    (g_AND : PySem.W.nsIn K mainGlobals "AND" = some (some (.ref k_AND)))
    (w_AND : K.lookup k_AND = some ⟨.type "tuple", od_AND, .seq #[.ref k_AND0] nn_AND, sl_AND⟩)
    (w_AND0 : K.lookup k_AND0 = some ⟨.type "tuple", od_AND0, .seq #[.str "and" t_AND0_0, .str "" t_AND0_1, .str "" t_AND0_2] nn_AND0, sl_AND0⟩)
    {k_OR0 : Addr} {od_OR0 : Option Addr} {sl_OR0 : Array (Option Value)} {nn_OR0 : Nat} {t_OR0_0 : Tok} {t_OR0_1 : Tok} {t_OR0_2 : Tok}
    {k_OR : Addr} {od_OR : Option Addr} {sl_OR : Array (Option Value)} {nn_OR : Nat} 
    (g_OR : PySem.W.nsIn K mainGlobals "OR" = some (some (.ref k_OR)))
    (w_OR : K.lookup k_OR = some ⟨.type "tuple", od_OR, .seq #[.ref k_OR0] nn_OR, sl_OR⟩)
    (w_OR0 : K.lookup k_OR0 = some ⟨.type "tuple", od_OR0, .seq #[.str "or" t_OR0_0, .str "" t_OR0_1, .str "" t_OR0_2] nn_OR0, sl_OR0⟩)
    (z_all : PySem.W.nsIn K mainGlobals "all" = some none)
    (z_int : PySem.W.nsIn K mainGlobals "int" = some none)
    (z_isinstance : PySem.W.nsIn K mainGlobals "isinstance" = some none)
    (z_len : PySem.W.nsIn K mainGlobals "len" = some none)
    (z_list : PySem.W.nsIn K mainGlobals "list" = some none)
    (z_max : PySem.W.nsIn K mainGlobals "max" = some none)
    (z_range : PySem.W.nsIn K mainGlobals "range" = some none)
    (z_reversed : PySem.W.nsIn K mainGlobals "reversed" = some none)
    (z_str : PySem.W.nsIn K mainGlobals "str" = some none)
    (z_tuple : PySem.W.nsIn K mainGlobals "tuple" = some none) :
    ∃ (fd : FuncData) (cs : List (Addr × Addr)), Makers K h cs ∧ (∀ (s : Shared) (v : Value), BindsTo s fd ⟨[v], []⟩ [("_law_script", v)]) ∧ ∀ base : Heap, K.In base → base.Ns mainGlobals mg → (∀ p ∈ cs, LamX.TabB base mg p.1 p.2) → FnG l.prog w K mg base 18 fa fd ["_law_script"] (spLaw K cs) := by
  have e0 := hfa.symm.trans (PySem.W.mg_of X G n_law)
  have e : f_law = fa := by
    cases e0
    rfl
  subst e
  have F_consists_of := fun_mk (st := s_consists_of) l_consists_of c_consists_of k_consists_of
  have B_consists_of := F_consists_of.binds (ps := P_consists_of) fun _ _ _ _ _ _ us hl => match us, hl with | [_, _], _ => rfl
  have F_is_string_of := fun_mk (st := s_is_string_of) l_is_string_of c_is_string_of k_is_string_of
  have B_is_string_of := F_is_string_of.binds (ps := P_is_string_of) fun _ _ _ _ _ _ us hl => match us, hl with | [_, _, _], _ => rfl
  have F_number_in := fun_mk (st := s_number_in) l_number_in c_number_in k_number_in
  have B_number_in := F_number_in.binds (ps := P_number_in) fun _ _ _ _ _ _ us hl => match us, hl with | [_, _], _ => rfl
  have F_is_word := fun_mk (st := s_is_word) l_is_word c_is_word k_is_word
  have B_is_word := F_is_word.binds (ps := P_is_word) fun _ _ _ _ _ _ us hl => match us, hl with | [_], _ => rfl
  have F_token_at := fun_mk (st := s_token_at) l_token_at c_token_at k_token_at
  have B_token_at := F_token_at.binds (ps := P_token_at) fun _ _ _ _ _ _ us hl => match us, hl with | [_, _], _ => rfl
  have F_tokens_of := fun_mk (st := s_tokens_of) l_tokens_of c_tokens_of k_tokens_of
  have B_tokens_of := F_tokens_of.binds (ps := P_tokens_of) fun _ _ _ _ _ _ us hl => match us, hl with | [_], _ => rfl
  have F_comparison_of := fun_mk (st := s_comparison_of) l_comparison_of c_comparison_of k_comparison_of
  have B_comparison_of := F_comparison_of.binds (ps := P_comparison_of) fun _ _ _ _ _ _ us hl => match us, hl with | [_], _ => rfl
  have F_terms_of := fun_mk (st := s_terms_of) l_terms_of c_terms_of k_terms_of
  have B_terms_of := F_terms_of.binds (ps := P_terms_of) fun _ _ _ _ _ _ us hl => match us, hl with | [_], _ => rfl
  have F_expression_of := fun_mk (st := s_expression_of) l_expression_of c_expression_of k_expression_of
  have B_expression_of := F_expression_of.binds (ps := P_expression_of) fun _ _ _ _ _ _ us hl => match us, hl with | [_], _ => rfl
  have F_expression_in := fun_mk (st := s_expression_in) l_expression_in c_expression_in k_expression_in
  have B_expression_in := F_expression_in.binds (ps := P_expression_in) fun _ _ _ _ _ _ us hl => match us, hl with | [_], _ => rfl
  have F_text_within := fun_mk (st := s_text_within) l_text_within c_text_within k_text_within
  have B_text_within := F_text_within.binds (ps := P_text_within) fun _ _ _ _ _ _ us hl => match us, hl with | [_, _, _], _ => rfl
  have F_text_of_operand := fun_mk (st := s_text_of_operand) l_text_of_operand c_text_of_operand k_text_of_operand
  have B_text_of_operand := F_text_of_operand.binds (ps := P_text_of_operand) fun _ _ _ _ _ _ us hl => match us, hl with | [_, _, _], _ => rfl
  have F_text_of_expression := fun_mk (st := s_text_of_expression) l_text_of_expression c_text_of_expression k_text_of_expression
  have B_text_of_expression := F_text_of_expression.binds (ps := P_text_of_expression) fun _ _ _ _ _ _ us hl => match us, hl with | [_], _ => rfl
  have F_Marker_init : FunD K "__init__" "Marker.__init__" (defArgs s_Marker_init) (defBody s_Marker_init) (defScope s_Marker_init) [.str "always"] [] f_Marker_init (PySem.W.fnOf "__init__" "Marker.__init__" (defArgs s_Marker_init) (defBody s_Marker_init) (defScope s_Marker_init) (.ref dt_Marker_init) kV_Marker_init dc_Marker_init pm_Marker_init an_Marker_init cd_Marker_init ct_Marker_init) := ⟨⟨_, _, _, _, _, _, _, _, _, _, rfl, l_Marker_init, c_Marker_init, .inr ⟨by simp, dt_Marker_init, _, _, _, rfl, w_Marker_init, rfl, .cons ⟨_, rfl⟩ (.nil)⟩, .inl rfl⟩, k_Marker_init⟩
  have B0_Marker_init : ∃ ds : List Value, Vals [.str "always"] ds ∧ Binds K (PySem.W.fnOf "__init__" "Marker.__init__" (defArgs s_Marker_init) (defBody s_Marker_init) (defScope s_Marker_init) (.ref dt_Marker_init) kV_Marker_init dc_Marker_init pm_Marker_init an_Marker_init cd_Marker_init ct_Marker_init) P_Marker_init ds := F_Marker_init.binds1 (ps := P_Marker_init) 1 0 (by simp) rfl fun _ _ _ _ _ _ _ us its h1 h2 => match us, its, h1, h2 with | [_], [_], _, _ => ⟨_, rfl, rfl⟩
  have B_Marker_init : Binds K (PySem.W.fnOf "__init__" "Marker.__init__" (defArgs s_Marker_init) (defBody s_Marker_init) (defScope s_Marker_init) (.ref dt_Marker_init) kV_Marker_init dc_Marker_init pm_Marker_init an_Marker_init cd_Marker_init ct_Marker_init) P_Marker_init [] := by
    obtain ⟨ds, hv, hb⟩ := F_Marker_init.binds1 (ps := P_Marker_init) 2 1 (by simp) rfl fun _ _ _ _ _ _ _ us its h1 h2 => match us, its, h1, h2 with | [_, _], [_], _, _ => ⟨_, rfl, rfl⟩
    cases hv
    exact hb
  have F_Marker_str := fun_mk (st := s_Marker_str) l_Marker_str c_Marker_str k_Marker_str
  have B_Marker_str := F_Marker_str.binds (ps := P_Marker_str) fun _ _ _ _ _ _ us hl => match us, hl with | [_], _ => rfl
  have F_begin := fun_mk (st := s_begin) l_begin c_begin k_begin
  have B_begin := F_begin.binds (ps := P_begin) fun _ _ _ _ _ _ us hl => match us, hl with | [_], _ => rfl
  have F_mixed := fun_mk (st := s_mixed) l_mixed c_mixed k_mixed
  have B_mixed := F_mixed.binds (ps := P_mixed) fun _ _ _ _ _ _ us hl => match us, hl with | [_, _], _ => rfl
  have F_next := fun_mk (st := s_next) l_next c_next k_next
  have B_next := F_next.binds (ps := P_next) fun _ _ _ _ _ _ us hl => match us, hl with | [_, _], _ => rfl
  have F_tree := fun_mk (st := s_tree) l_tree c_tree k_tree
  have B_tree := F_tree.binds (ps := P_tree) fun _ _ _ _ _ _ us hl => match us, hl with | [_, _], _ => rfl
  have F_pieces := fun_mk (st := s_pieces) l_pieces c_pieces k_pieces
  have B_pieces := F_pieces.binds (ps := P_pieces) fun _ _ _ _ _ _ us hl => match us, hl with | [_, _], _ => rfl
  have F_loose := fun_mk (st := s_loose) l_loose c_loose k_loose
  have B_loose := F_loose.binds (ps := P_loose) fun _ _ _ _ _ _ us hl => match us, hl with | [_, _], _ => rfl
  have F_told := fun_mk (st := s_told) l_told c_told k_told
  have B_told := F_told.binds (ps := P_told) fun _ _ _ _ _ _ us hl => match us, hl with | [_], _ => rfl
  have F_cut := fun_mk (st := s_cut) l_cut c_cut k_cut
  have B_cut := F_cut.binds (ps := P_cut) fun _ _ _ _ _ _ us hl => match us, hl with | [_], _ => rfl
  have F_is_comparison := fun_mk (st := s_is_comparison) l_is_comparison c_is_comparison k_is_comparison
  have B_is_comparison := F_is_comparison.binds (ps := P_is_comparison) fun _ _ _ _ _ _ us hl => match us, hl with | [_], _ => rfl
  have F_operands := fun_mk (st := s_operands) l_operands c_operands k_operands
  have B_operands := F_operands.binds (ps := P_operands) fun _ _ _ _ _ _ us hl => match us, hl with | [_], _ => rfl
  have F_is_marker := fun_mk (st := s_is_marker) l_is_marker c_is_marker k_is_marker
  have B_is_marker := F_is_marker.binds (ps := P_is_marker) fun _ _ _ _ _ _ us hl => match us, hl with | [_], _ => rfl
  have F_bent := fun_mk (st := s_bent) l_bent c_bent k_bent
  have B_bent := F_bent.binds (ps := P_bent) fun _ _ _ _ _ _ us hl => match us, hl with | [_, _], _ => rfl
  have F_law : FunC K "law" "law" s_law f_law (PySem.W.fnOf "law" "law" (defArgs s_law) (defBody s_law) (defScope s_law) .none kV_law dc_law pm_law an_law (.ref cc_law) ct_law) cc_law := ⟨⟨_, _, _, _, _, _, _, _, rfl, l_law, c_law⟩, k_law⟩
  have B_law := F_law.toFun.binds (ps := P_law) fun _ _ _ _ _ _ us hl => match us, hl with | [_], _ => rfl
  have F_BadMarker_init := fun_mk (st := s_BadMarker_init) l_BadMarker_init c_BadMarker_init k_BadMarker_init
  have B_BadMarker_init := F_BadMarker_init.binds (ps := P_BadMarker_init) fun _ _ _ _ _ _ us hl => match us, hl with | [_, _], _ => rfl
  have T : TexW w K mg { a_consists_of := f_consists_of, d_consists_of := (PySem.W.fnOf "consists_of" "consists_of" (defArgs s_consists_of) (defBody s_consists_of) (defScope s_consists_of) .none kV_consists_of dc_consists_of pm_consists_of an_consists_of cd_consists_of ct_consists_of), a_is_string_of := f_is_string_of, d_is_string_of := (PySem.W.fnOf "is_string_of" "is_string_of" (defArgs s_is_string_of) (defBody s_is_string_of) (defScope s_is_string_of) .none kV_is_string_of dc_is_string_of pm_is_string_of an_is_string_of cd_is_string_of ct_is_string_of), a_number_in := f_number_in, d_number_in := (PySem.W.fnOf "number_in" "number_in" (defArgs s_number_in) (defBody s_number_in) (defScope s_number_in) .none kV_number_in dc_number_in pm_number_in an_number_in cd_number_in ct_number_in), a_is_word := f_is_word, d_is_word := (PySem.W.fnOf "is_word" "is_word" (defArgs s_is_word) (defBody s_is_word) (defScope s_is_word) .none kV_is_word dc_is_word pm_is_word an_is_word cd_is_word ct_is_word), a_token_at := f_token_at, d_token_at := (PySem.W.fnOf "token_at" "token_at" (defArgs s_token_at) (defBody s_token_at) (defScope s_token_at) .none kV_token_at dc_token_at pm_token_at an_token_at cd_token_at ct_token_at), a_tokens_of := f_tokens_of, d_tokens_of := (PySem.W.fnOf "tokens_of" "tokens_of" (defArgs s_tokens_of) (defBody s_tokens_of) (defScope s_tokens_of) .none kV_tokens_of dc_tokens_of pm_tokens_of an_tokens_of cd_tokens_of ct_tokens_of), a_comparison_of := f_comparison_of, d_comparison_of := (PySem.W.fnOf "comparison_of" "comparison_of" (defArgs s_comparison_of) (defBody s_comparison_of) (defScope s_comparison_of) .none kV_comparison_of dc_comparison_of pm_comparison_of an_comparison_of cd_comparison_of ct_comparison_of), a_terms_of := f_terms_of, d_terms_of := (PySem.W.fnOf "terms_of" "terms_of" (defArgs s_terms_of) (defBody s_terms_of) (defScope s_terms_of) .none kV_terms_of dc_terms_of pm_terms_of an_terms_of cd_terms_of ct_terms_of), a_expression_of := f_expression_of, d_expression_of := (PySem.W.fnOf "expression_of" "expression_of" (defArgs s_expression_of) (defBody s_expression_of) (defScope s_expression_of) .none kV_expression_of dc_expression_of pm_expression_of an_expression_of cd_expression_of ct_expression_of), a_expression_in := f_expression_in, d_expression_in := (PySem.W.fnOf "expression_in" "expression_in" (defArgs s_expression_in) (defBody s_expression_in) (defScope s_expression_in) .none kV_expression_in dc_expression_in pm_expression_in an_expression_in cd_expression_in ct_expression_in), a_text_within := f_text_within, d_text_within := (PySem.W.fnOf "text_within" "text_within" (defArgs s_text_within) (defBody s_text_within) (defScope s_text_within) .none kV_text_within dc_text_within pm_text_within an_text_within cd_text_within ct_text_within), a_text_of_operand := f_text_of_operand, d_text_of_operand := (PySem.W.fnOf "text_of_operand" "text_of_operand" (defArgs s_text_of_operand) (defBody s_text_of_operand) (defScope s_text_of_operand) .none kV_text_of_operand dc_text_of_operand pm_text_of_operand an_text_of_operand cd_text_of_operand ct_text_of_operand), a_text_of_expression := f_text_of_expression, d_text_of_expression := (PySem.W.fnOf "text_of_expression" "text_of_expression" (defArgs s_text_of_expression) (defBody s_text_of_expression) (defScope s_text_of_expression) .none kV_text_of_expression dc_text_of_expression pm_text_of_expression an_text_of_expression cd_text_of_expression ct_text_of_expression), a_Marker_init := f_Marker_init, d_Marker_init := (PySem.W.fnOf "__init__" "Marker.__init__" (defArgs s_Marker_init) (defBody s_Marker_init) (defScope s_Marker_init) (.ref dt_Marker_init) kV_Marker_init dc_Marker_init pm_Marker_init an_Marker_init cd_Marker_init ct_Marker_init), a_Marker_str := f_Marker_str, d_Marker_str := (PySem.W.fnOf "__str__" "Marker.__str__" (defArgs s_Marker_str) (defBody s_Marker_str) (defScope s_Marker_str) .none kV_Marker_str dc_Marker_str pm_Marker_str an_Marker_str cd_Marker_str ct_Marker_str), a_begin := f_begin, d_begin := (PySem.W.fnOf "_law_begin" "_law_begin" (defArgs s_begin) (defBody s_begin) (defScope s_begin) .none kV_begin dc_begin pm_begin an_begin cd_begin ct_begin), a_mixed := f_mixed, d_mixed := (PySem.W.fnOf "_law_mixed" "_law_mixed" (defArgs s_mixed) (defBody s_mixed) (defScope s_mixed) .none kV_mixed dc_mixed pm_mixed an_mixed cd_mixed ct_mixed), a_next := f_next, d_next := (PySem.W.fnOf "_law_next" "_law_next" (defArgs s_next) (defBody s_next) (defScope s_next) .none kV_next dc_next pm_next an_next cd_next ct_next), a_tree := f_tree, d_tree := (PySem.W.fnOf "_law_tree" "_law_tree" (defArgs s_tree) (defBody s_tree) (defScope s_tree) .none kV_tree dc_tree pm_tree an_tree cd_tree ct_tree), a_pieces := f_pieces, d_pieces := (PySem.W.fnOf "_law_pieces" "_law_pieces" (defArgs s_pieces) (defBody s_pieces) (defScope s_pieces) .none kV_pieces dc_pieces pm_pieces an_pieces cd_pieces ct_pieces), a_loose := f_loose, d_loose := (PySem.W.fnOf "_law_loose" "_law_loose" (defArgs s_loose) (defBody s_loose) (defScope s_loose) .none kV_loose dc_loose pm_loose an_loose cd_loose ct_loose), a_told := f_told, d_told := (PySem.W.fnOf "_law_told" "_law_told" (defArgs s_told) (defBody s_told) (defScope s_told) .none kV_told dc_told pm_told an_told cd_told ct_told), a_cut := f_cut, d_cut := (PySem.W.fnOf "_law_cut" "_law_cut" (defArgs s_cut) (defBody s_cut) (defScope s_cut) .none kV_cut dc_cut pm_cut an_cut cd_cut ct_cut), a_is_comparison := f_is_comparison, d_is_comparison := (PySem.W.fnOf "_law_is_comparison" "_law_is_comparison" (defArgs s_is_comparison) (defBody s_is_comparison) (defScope s_is_comparison) .none kV_is_comparison dc_is_comparison pm_is_comparison an_is_comparison cd_is_comparison ct_is_comparison), a_operands := f_operands, d_operands := (PySem.W.fnOf "_law_operands" "_law_operands" (defArgs s_operands) (defBody s_operands) (defScope s_operands) .none kV_operands dc_operands pm_operands an_operands cd_operands ct_operands), a_is_marker := f_is_marker, d_is_marker := (PySem.W.fnOf "_law_is_marker" "_law_is_marker" (defArgs s_is_marker) (defBody s_is_marker) (defScope s_is_marker) .none kV_is_marker dc_is_marker pm_is_marker an_is_marker cd_is_marker ct_is_marker), a_bent := f_bent, d_bent := (PySem.W.fnOf "_law_bent" "_law_bent" (defArgs s_bent) (defBody s_bent) (defScope s_bent) .none kV_bent dc_bent pm_bent an_bent cd_bent ct_bent), a_law := f_law, d_law := (PySem.W.fnOf "law" "law" (defArgs s_law) (defBody s_law) (defScope s_law) .none kV_law dc_law pm_law an_law (.ref cc_law) ct_law), a_BadMarker_init := f_BadMarker_init, d_BadMarker_init := (PySem.W.fnOf "__init__" "BadMarker.__init__" (defArgs s_BadMarker_init) (defBody s_BadMarker_init) (defScope s_BadMarker_init) .none kV_BadMarker_init dc_BadMarker_init pm_BadMarker_init an_BadMarker_init cd_BadMarker_init ct_BadMarker_init), c_law := cc_law, P_law := cP_law, a_BadMarker := f_BadMarker, a_Marker := f_Marker, t_LETTERS := t_LETTERS, t_DIGITS := t_DIGITS, t_HIGHEST := t_HIGHEST, t_WORDS := t_WORDS, k_SIGNS := k_SIGNS, k_LEVEL_SIGNS := k_LEVEL_SIGNS, k_FIELDS := k_FIELDS, k_OPERANDS := k_OPERANDS, k_BINDINGS := k_BINDINGS, t_TIGHTEST := t_TIGHTEST, k_NOT0 := k_NOT0, k_NOT := k_NOT, k_AND0 := k_AND0, k_AND := k_AND, k_OR0 := k_OR0, k_OR := k_OR } := { consists_of_F := F_consists_of, consists_of_g := PySem.W.mg_of X G n_consists_of, consists_of_b := B_consists_of, is_string_of_F := F_is_string_of, is_string_of_g := PySem.W.mg_of X G n_is_string_of, is_string_of_b := B_is_string_of, number_in_F := F_number_in, number_in_g := PySem.W.mg_of X G n_number_in, number_in_b := B_number_in, is_word_F := F_is_word, is_word_g := PySem.W.mg_of X G n_is_word, is_word_b := B_is_word, token_at_F := F_token_at, token_at_g := PySem.W.mg_of X G n_token_at, token_at_b := B_token_at, tokens_of_F := F_tokens_of, tokens_of_g := PySem.W.mg_of X G n_tokens_of, tokens_of_b := B_tokens_of, comparison_of_F := F_comparison_of, comparison_of_g := PySem.W.mg_of X G n_comparison_of, comparison_of_b := B_comparison_of, terms_of_F := F_terms_of, terms_of_g := PySem.W.mg_of X G n_terms_of, terms_of_b := B_terms_of, expression_of_F := F_expression_of, expression_of_g := PySem.W.mg_of X G n_expression_of, expression_of_b := B_expression_of, expression_in_F := F_expression_in, expression_in_g := PySem.W.mg_of X G n_expression_in, expression_in_b := B_expression_in, text_within_F := F_text_within, text_within_g := PySem.W.mg_of X G n_text_within, text_within_b := B_text_within, text_of_operand_F := F_text_of_operand, text_of_operand_g := PySem.W.mg_of X G n_text_of_operand, text_of_operand_b := B_text_of_operand, text_of_expression_F := F_text_of_expression, text_of_expression_g := PySem.W.mg_of X G n_text_of_expression, text_of_expression_b := B_text_of_expression, Marker_init_b0 := B0_Marker_init, Marker_init_F := F_Marker_init, Marker_init_b := B_Marker_init, Marker_str_F := F_Marker_str, Marker_str_b := B_Marker_str, begin_F := F_begin, begin_g := PySem.W.mg_of X G n_begin, begin_b := B_begin, mixed_F := F_mixed, mixed_g := PySem.W.mg_of X G n_mixed, mixed_b := B_mixed, next_F := F_next, next_g := PySem.W.mg_of X G n_next, next_b := B_next, tree_F := F_tree, tree_g := PySem.W.mg_of X G n_tree, tree_b := B_tree, pieces_F := F_pieces, pieces_g := PySem.W.mg_of X G n_pieces, pieces_b := B_pieces, loose_F := F_loose, loose_g := PySem.W.mg_of X G n_loose, loose_b := B_loose, told_F := F_told, told_g := PySem.W.mg_of X G n_told, told_b := B_told, cut_F := F_cut, cut_g := PySem.W.mg_of X G n_cut, cut_b := B_cut, is_comparison_F := F_is_comparison, is_comparison_g := PySem.W.mg_of X G n_is_comparison, is_comparison_b := B_is_comparison, operands_F := F_operands, operands_g := PySem.W.mg_of X G n_operands, operands_b := B_operands, is_marker_F := F_is_marker, is_marker_g := PySem.W.mg_of X G n_is_marker, is_marker_b := B_is_marker, bent_F := F_bent, bent_g := PySem.W.mg_of X G n_bent, bent_b := B_bent, law_F := F_law, law_g := PySem.W.mg_of X G n_law, law_b := B_law, BadMarker_init_F := F_BadMarker_init, BadMarker_init_b := B_BadMarker_init, law_hu := hu_law, BadMarker_g := PySem.W.mg_of X G n_BadMarker, BadMarker_xa := ⟨⟨⟨_, _, _, _, _, _, _, _, _, _, _, _, _, _, _, xl_BadMarker, xr_BadMarker⟩, xsa_BadMarker, xb_BadMarker, xy_BadMarker, xk_BadMarker⟩, ⟨xg_BadMarker, xh_BadMarker, xb_BadMarker, xd_BadMarker⟩, ⟨xg_BadMarker, xh_BadMarker, xb_BadMarker, xd_BadMarker, xc_BadMarker, xn_BadMarker, xq_BadMarker, xm_BadMarker⟩⟩, BadMarker_xt := xt_BadMarker, BadMarker_xf := xf_BadMarker, BadMarker_xi := at_BadMarker_init, BadMarker_nm := ⟨xb_BadMarker, xd_BadMarker, xy_BadMarker, xz_BadMarker⟩, BadMarker_BadMarker_s := xs_BadMarker_BadMarker, Marker_g := PySem.W.mg_of X G n_Marker, Marker_cl := ⟨pg_Marker, hd_Marker, po_Marker, sa_Marker⟩, Marker_mk := ⟨mk_Marker, at_Marker_init, fn_Marker_init, kc_Marker⟩, Marker_rd := ⟨rd_Marker, ga_Marker⟩, Marker_si := ⟨ca_Marker, cn_Marker, ct_Marker, cm_Marker⟩, Marker_nf := nf_Marker, Marker_sf := sf_Marker, Marker_n_steps := na_Marker_steps, Marker_init_at := at_Marker_init, Marker_init_fn := fn_Marker_init, Marker_str_at := at_Marker_str, Marker_str_fn := fn_Marker_str, c_LETTERS := PySem.W.mg_of X G g_LETTERS, c_DIGITS := PySem.W.mg_of X G g_DIGITS, c_HIGHEST := PySem.W.mg_of X G g_HIGHEST, c_WORDS := PySem.W.mg_of X G g_WORDS, c_SIGNS := PySem.W.mg_of X G g_SIGNS, v_SIGNS := .inr ⟨_, _, _, w_SIGNS, rfl, rfl, (by show 8 ≤ sizeLine; decide), .cons ⟨_, rfl⟩ (.cons ⟨_, rfl⟩ (.cons ⟨_, rfl⟩ (.cons ⟨_, rfl⟩ (.cons ⟨_, rfl⟩ (.cons ⟨_, rfl⟩ (.cons ⟨_, rfl⟩ (.cons ⟨_, rfl⟩ (.nil))))))))⟩, c_LEVEL_SIGNS := PySem.W.mg_of X G g_LEVEL_SIGNS, v_LEVEL_SIGNS := .inr ⟨_, _, _, w_LEVEL_SIGNS, rfl, rfl, (by show 6 ≤ sizeLine; decide), .cons ⟨_, rfl⟩ (.cons ⟨_, rfl⟩ (.cons ⟨_, rfl⟩ (.cons ⟨_, rfl⟩ (.cons ⟨_, rfl⟩ (.cons ⟨_, rfl⟩ (.nil))))))⟩, c_FIELDS := PySem.W.mg_of X G g_FIELDS, v_FIELDS := .inr ⟨_, _, _, w_FIELDS, rfl, rfl, (by show 3 ≤ sizeLine; decide), .cons ⟨_, rfl⟩ (.cons ⟨_, rfl⟩ (.cons ⟨_, rfl⟩ (.nil)))⟩, c_OPERANDS := PySem.W.mg_of X G g_OPERANDS, v_OPERANDS := .inr ⟨_, _, _, w_OPERANDS, rfl, rfl, (by show 5 ≤ sizeLine; decide), .cons ⟨_, rfl⟩ (.cons ⟨_, rfl⟩ (.cons ⟨_, rfl⟩ (.cons ⟨_, rfl⟩ (.cons ⟨_, rfl⟩ (.nil)))))⟩, c_BINDINGS := PySem.W.mg_of X G g_BINDINGS, v_BINDINGS := cdic_ints [("(", t_BINDINGS0, 0, u_BINDINGS0), (")", t_BINDINGS1, 1, u_BINDINGS1), ("or", t_BINDINGS2, 1, u_BINDINGS2), ("and", t_BINDINGS3, 2, u_BINDINGS3), ("not", t_BINDINGS4, 3, u_BINDINGS4)] w_BINDINGS s_BINDINGS, c_TIGHTEST := PySem.W.mg_of X G g_TIGHTEST, v_NOT0 := .inr ⟨_, _, _, w_NOT0, rfl, rfl, (by show 3 ≤ sizeLine; decide), .cons ⟨_, rfl⟩ (.cons ⟨_, rfl⟩ (.cons ⟨_, rfl⟩ (.nil)))⟩, c_NOT := PySem.W.mg_of X G g_NOT, v_NOT := .inr ⟨_, _, _, w_NOT, rfl, rfl, (by show 1 ≤ sizeLine; decide), .cons rfl (.nil)⟩, v_AND0 := .inr ⟨_, _, _, w_AND0, rfl, rfl, (by show 3 ≤ sizeLine; decide), .cons ⟨_, rfl⟩ (.cons ⟨_, rfl⟩ (.cons ⟨_, rfl⟩ (.nil)))⟩, c_AND := PySem.W.mg_of X G g_AND, v_AND := .inr ⟨_, _, _, w_AND, rfl, rfl, (by show 1 ≤ sizeLine; decide), .cons rfl (.nil)⟩, v_OR0 := .inr ⟨_, _, _, w_OR0, rfl, rfl, (by show 3 ≤ sizeLine; decide), .cons ⟨_, rfl⟩ (.cons ⟨_, rfl⟩ (.cons ⟨_, rfl⟩ (.nil)))⟩, c_OR := PySem.W.mg_of X G g_OR, v_OR := .inr ⟨_, _, _, w_OR, rfl, rfl, (by show 1 ≤ sizeLine; decide), .cons rfl (.nil)⟩, b_all := PySem.W.mg_none_of X G z_all, b_int := PySem.W.mg_none_of X G z_int, b_isinstance := PySem.W.mg_none_of X G z_isinstance, b_len := PySem.W.mg_none_of X G z_len, b_list := PySem.W.mg_none_of X G z_list, b_max := PySem.W.mg_none_of X G z_max, b_range := PySem.W.mg_none_of X G z_range, b_reversed := PySem.W.mg_none_of X G z_reversed, b_str := PySem.W.mg_none_of X G z_str, b_tuple := PySem.W.mg_none_of X G z_tuple }
  have M : Makers K h [(cc_law, cP_law)] := ⟨(List.forall_mem_cons.mpr ⟨mt_law, (fun q hq => nomatch hq)⟩), (List.forall_mem_cons.mpr ⟨ol_law, (fun q hq => nomatch hq)⟩), (List.forall_mem_cons.mpr ⟨PySem.W.codeHd_of_K X ch_law, (fun q hq => nomatch hq)⟩)⟩
  exact ⟨_, _, M, fun s v => .of_eq rfl, fun base _ _ tb => ok_law T tb⟩
end Pk
open PySem PySem.W PyProof.Rows
set_option maxRecDepth 100000 in
set_option maxHeartbeats 0 in
theorem PySem.Challenge.cw_parcelindex_k15_markers_refused_holds : PySem.Challenge.rw_parcelindex_k15_markers_refused.Holds := by
  w_on; o_law; k_head; (case hw => w_witness2)
  k_fill
  refine Pk.walkGT (l := PySem.Challenge.rw_parcelindex_k15_markers_refused) (k := 18) (x := "_law_script") (sp := Pk.spLaw) rfl rfl ⟨rfl, by decide, by decide⟩ (fun w h Y => PySem.W.km_in_of Y) ?F (fun K cs H a ns hl hT hS => ⟨a, ns, rfl, hS, hl, hT, fun _ => rfl⟩)
  case F =>
    intro w mg fa h Y KX G hmg
    refine' Pk.all_mk KX G hmg ?n_consists_of ?l_consists_of ?c_consists_of ?k_consists_of ?n_is_string_of ?l_is_string_of ?c_is_string_of ?k_is_string_of ?n_number_in ?l_number_in ?c_number_in ?k_number_in ?n_is_word ?l_is_word ?c_is_word ?k_is_word ?n_token_at ?l_token_at ?c_token_at ?k_token_at ?n_tokens_of ?l_tokens_of ?c_tokens_of ?k_tokens_of ?n_comparison_of ?l_comparison_of ?c_comparison_of ?k_comparison_of ?n_terms_of ?l_terms_of ?c_terms_of ?k_terms_of ?n_expression_of ?l_expression_of ?c_expression_of ?k_expression_of ?n_expression_in ?l_expression_in ?c_expression_in ?k_expression_in ?n_text_within ?l_text_within ?c_text_within ?k_text_within ?n_text_of_operand ?l_text_of_operand ?c_text_of_operand ?k_text_of_operand ?n_text_of_expression ?l_text_of_expression ?c_text_of_expression ?k_text_of_expression ?n_Marker ?at_Marker_init ?l_Marker_init ?w_Marker_init ?c_Marker_init ?k_Marker_init ?at_Marker_str ?l_Marker_str ?c_Marker_str ?k_Marker_str ?n_begin ?l_begin ?c_begin ?k_begin ?n_mixed ?l_mixed ?c_mixed ?k_mixed ?n_next ?l_next ?c_next ?k_next ?n_tree ?l_tree ?c_tree ?k_tree ?n_pieces ?l_pieces ?c_pieces ?k_pieces ?n_loose ?l_loose ?c_loose ?k_loose ?n_told ?l_told ?c_told ?k_told ?n_cut ?l_cut ?c_cut ?k_cut ?n_is_comparison ?l_is_comparison ?c_is_comparison ?k_is_comparison ?n_operands ?l_operands ?c_operands ?k_operands ?n_is_marker ?l_is_marker ?c_is_marker ?k_is_marker ?n_bent ?l_bent ?c_bent ?k_bent ?n_law ?l_law ?lc_law ?tp_law ?ch_law ?ol_law ?mt_law ?c_law ?k_law ?n_BadMarker ?at_BadMarker_init ?l_BadMarker_init ?c_BadMarker_init ?k_BadMarker_init ?hu_law ?xl_BadMarker ?xr_BadMarker ?xsa_BadMarker ?xb_BadMarker ?xd_BadMarker ?xy_BadMarker ?xk_BadMarker ?xg_BadMarker ?xh_BadMarker ?xc_BadMarker ?xn_BadMarker ?xq_BadMarker ?xm_BadMarker ?xt_BadMarker ?xf_BadMarker ?xz_BadMarker ?xs_BadMarker_BadMarker ?pg_Marker ?hd_Marker ?po_Marker ?sa_Marker ?mk_Marker ?kc_Marker ?rd_Marker ?ga_Marker ?ca_Marker ?cn_Marker ?ct_Marker ?cm_Marker ?nf_Marker ?fn_Marker_init ?sf_Marker ?na_Marker_steps ?fn_Marker_str ?g_LETTERS ?g_DIGITS ?g_HIGHEST ?g_WORDS ?g_SIGNS ?w_SIGNS ?g_LEVEL_SIGNS ?w_LEVEL_SIGNS ?g_FIELDS ?w_FIELDS ?g_OPERANDS ?w_OPERANDS ?g_BINDINGS ?w_BINDINGS ?s_BINDINGS ?g_TIGHTEST ?g_NOT ?w_NOT ?w_NOT0 ?g_AND ?w_AND ?w_AND0 ?g_OR ?w_OR ?w_OR0 ?z_all ?z_int ?z_isinstance ?z_len ?z_list ?z_max ?z_range ?z_reversed ?z_str ?z_tuple
    (case n_consists_of => k_is)
    (case l_consists_of => k_is)
    (case c_consists_of => k_is)
    (case k_consists_of => k_is)
    (case n_is_string_of => k_is)
    (case l_is_string_of => k_is)
    (case c_is_string_of => k_is)
    (case k_is_string_of => k_is)
    (case n_number_in => k_is)
    (case l_number_in => k_is)
    (case c_number_in => k_is)
    (case k_number_in => k_is)
    (case n_is_word => k_is)
    (case l_is_word => k_is)
    (case c_is_word => k_is)
    (case k_is_word => k_is)
    (case n_token_at => k_is)
    (case l_token_at => k_is)
    (case c_token_at => k_is)
    (case k_token_at => k_is)
    (case n_tokens_of => k_is)
    (case l_tokens_of => k_is)
    (case c_tokens_of => k_is)
    (case k_tokens_of => k_is)
    (case n_comparison_of => k_is)
    (case l_comparison_of => k_is)
    (case c_comparison_of => k_is)
    (case k_comparison_of => k_is)
    (case n_terms_of => k_is)
    (case l_terms_of => k_is)
    (case c_terms_of => k_is)
    (case k_terms_of => k_is)
    (case n_expression_of => k_is)
    (case l_expression_of => k_is)
    (case c_expression_of => k_is)
    (case k_expression_of => k_is)
    (case n_expression_in => k_is)
    (case l_expression_in => k_is)
    (case c_expression_in => k_is)
    (case k_expression_in => k_is)
    (case n_text_within => k_is)
    (case l_text_within => k_is)
    (case c_text_within => k_is)
    (case k_text_within => k_is)
    (case n_text_of_operand => k_is)
    (case l_text_of_operand => k_is)
    (case c_text_of_operand => k_is)
    (case k_text_of_operand => k_is)
    (case n_text_of_expression => k_is)
    (case l_text_of_expression => k_is)
    (case c_text_of_expression => k_is)
    (case k_text_of_expression => k_is)
    (case n_Marker => k_is)
    (case at_Marker_init => k_is)
    (case l_Marker_init => k_is)
    (case w_Marker_init => k_is)
    (case c_Marker_init => k_is)
    (case k_Marker_init => k_is)
    (case at_Marker_str => k_is)
    (case l_Marker_str => k_is)
    (case c_Marker_str => k_is)
    (case k_Marker_str => k_is)
    (case n_begin => k_is)
    (case l_begin => k_is)
    (case c_begin => k_is)
    (case k_begin => k_is)
    (case n_mixed => k_is)
    (case l_mixed => k_is)
    (case c_mixed => k_is)
    (case k_mixed => k_is)
    (case n_next => k_is)
    (case l_next => k_is)
    (case c_next => k_is)
    (case k_next => k_is)
    (case n_tree => k_is)
    (case l_tree => k_is)
    (case c_tree => k_is)
    (case k_tree => k_is)
    (case n_pieces => k_is)
    (case l_pieces => k_is)
    (case c_pieces => k_is)
    (case k_pieces => k_is)
    (case n_loose => k_is)
    (case l_loose => k_is)
    (case c_loose => k_is)
    (case k_loose => k_is)
    (case n_told => k_is)
    (case l_told => k_is)
    (case c_told => k_is)
    (case k_told => k_is)
    (case n_cut => k_is)
    (case l_cut => k_is)
    (case c_cut => k_is)
    (case k_cut => k_is)
    (case n_is_comparison => k_is)
    (case l_is_comparison => k_is)
    (case c_is_comparison => k_is)
    (case k_is_comparison => k_is)
    (case n_operands => k_is)
    (case l_operands => k_is)
    (case c_operands => k_is)
    (case k_operands => k_is)
    (case n_is_marker => k_is)
    (case l_is_marker => k_is)
    (case c_is_marker => k_is)
    (case k_is_marker => k_is)
    (case n_bent => k_is)
    (case l_bent => k_is)
    (case c_bent => k_is)
    (case k_bent => k_is)
    (case n_law => k_is)
    (case l_law => k_is)
    (case lc_law => k_is)
    (case tp_law => rfl)
    (case ch_law => kernel_rfl)
    (case ol_law => first | kernel_rfl | k_is)
    (case mt_law => exact PySem.W.km_tabs_of Y _ (by decide))
    (case c_law => k_is)
    (case k_law => k_is)
    (case n_BadMarker => k_is)
    (case at_BadMarker_init => k_is)
    (case l_BadMarker_init => k_is)
    (case c_BadMarker_init => k_is)
    (case k_BadMarker_init => k_is)
    (case hu_law => decide +kernel)
    (case xl_BadMarker => k_is)
    (case xr_BadMarker => first | rfl | decide +kernel | k_is)
    (case xsa_BadMarker => k_is)
    (case xb_BadMarker => k_is)
    (case xd_BadMarker => k_is)
    (case xy_BadMarker => k_is)
    (case xk_BadMarker => k_is)
    (case xg_BadMarker => k_is)
    (case xh_BadMarker => k_is)
    (case xc_BadMarker => k_is)
    (case xn_BadMarker => k_is)
    (case xq_BadMarker => k_is)
    (case xm_BadMarker => k_is)
    (case xt_BadMarker => k_is)
    (case xf_BadMarker => k_is)
    (case xz_BadMarker => k_is)
    (case xs_BadMarker_BadMarker => k_is)
    (case pg_Marker => k_is)
    (case hd_Marker => k_is)
    (case po_Marker => k_is)
    (case sa_Marker => k_is)
    (case mk_Marker => k_is)
    (case kc_Marker => k_is)
    (case rd_Marker => k_is)
    (case ga_Marker => k_is)
    (case ca_Marker => k_is)
    (case cn_Marker => k_is)
    (case ct_Marker => k_is)
    (case cm_Marker => k_is)
    (case nf_Marker => k_is)
    (case fn_Marker_init => k_is)
    (case sf_Marker => k_is)
    (case na_Marker_steps => k_is)
    (case fn_Marker_str => k_is)
    (case g_LETTERS => k_is)
    (case g_DIGITS => k_is)
    (case g_HIGHEST => k_is)
    (case g_WORDS => k_is)
    (case g_SIGNS => k_is)
    (case w_SIGNS => k_is)
    (case g_LEVEL_SIGNS => k_is)
    (case w_LEVEL_SIGNS => k_is)
    (case g_FIELDS => k_is)
    (case w_FIELDS => k_is)
    (case g_OPERANDS => k_is)
    (case w_OPERANDS => k_is)
    (case g_BINDINGS => k_is)
    (case w_BINDINGS => k_is)
    (case s_BINDINGS => first | rfl | decide | k_is)
    (case g_TIGHTEST => k_is)
    (case g_NOT => k_is)
    (case w_NOT => k_is)
    (case w_NOT0 => k_is)
    (case g_AND => k_is)
    (case w_AND => k_is)
    (case w_AND0 => k_is)
    (case g_OR => k_is)
    (case w_OR => k_is)
    (case w_OR0 => k_is)
    (case z_all => k_is)
    (case z_int => k_is)
    (case z_isinstance => k_is)
    (case z_len => k_is)
    (case z_list => k_is)
    (case z_max => k_is)
    (case z_range => k_is)
    (case z_reversed => k_is)
    (case z_str => k_is)
    (case z_tuple => k_is)
