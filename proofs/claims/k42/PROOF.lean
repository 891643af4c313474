import PyProof.Rows.All
import Wide.All
import OpenK.AllK
import Wide.FinOn
import PyProof.ReprRoads
import HandS.ForMost
import HandS.ForExc
import HandS.IsInst
import HandS.Walk
import HandS.Flow
import HandS.RaiseMore

import HandS.ClsMeth
import HandS.Property
import HandS.SlotsOwn
import HandS.FStr
import HandS.TupAny
import HandS.Codes
import KE.KCallOwn
import KE.GoesMore
import KE.GoesEnum
import KE.DatumOrd
import HandS.SortInts
import HandS.Defaults

import HandS.ExcInit
import HandS.ExcValue
import HandS.ExcField
import HandS.ExcIs
import HandS.TryMany

import HandS.Style
import HandS.DictComp
import HandS.Dict
import HandS.Set
import HandS.SetFor
import HandS.SetTxtIn
import HandS.Strs
import HandS.Zip
import HandS.MakeKw
import HandS.MakeKwOnly
import PyProof.DictUpdate
import PyProof.DictDisplay
import PyProof.MeetsSeq2
import PySem.Challenge.RW_parcelindex_k42_differences_of_rows
set_option Elab.async false
set_option maxRecDepth 100000
set_option maxHeartbeats 4000000

/-! ## Calls with the stack's repr marks known to be none: a def's promise, its body's rule, calls, the end -/
namespace Pk
open PySem PySem.Spec PyProof.Rows L2

/-- a def keeps its promise wherever no repr runs around it -/
structure FnG (P : Program) (w : World) (K : PySem.W.Frag) (mg : Str → Option Value) (base : Heap) (k : Nat) (f : Addr) (fd : FuncData) (ps : List Str) (sp : Sp) : Prop where
  lenG : ∀ vs H Q E, sp vs H Q E → vs.length = ps.length
  runG : ∀ (A : Around) (outer : List Env) (s : Shared) (H : Hp) (args : Args) (us : List Value) (vs : List V) (Q : VK),
    A.guards = some [] → Room k A → Env0 P w K mg base A outer s H →
    BindsTo s fd args (ps.zip us) → Vals vs us → sp vs H Q E0 →
    codeAny (model P w) A (.call (.ref f) args) (CR CX0 outer P w H s Q E0) s

section
variable {P : Program} {w : World} {K : PySem.W.Frag} {mg : Str → Option Value} {base : Heap}
theorem FnG.of {k : Nat} {f : Addr} {fd : FuncData} {ps : List Str} {sp : Sp} (F : FnOk P w K mg base CX0 k f fd ps sp) : FnG P w K mg base k f fd ps sp :=
  ⟨F.len, fun A outer s H args us vs Q _ h1 h2 h3 h4 h5 => F.run A outer s H args us vs Q E0 h1 h2 h3 h4 h5⟩

/-- the rule for a def's body, with the marks known -/
theorem fnG_of {x qual : Str} {st : Stmt} {f : Addr} {fd : FuncData} {N ps : List Str} {k : Nat} {sp : Sp} (F : Fun K x qual st f fd)
    (S : FnScope N ps (defScope st)) (len : ∀ vs H Q E, sp vs H Q E → vs.length = ps.length)
    (hbody : ∀ (cdv : Value) (A : Around) (outer : List Env) (s : Shared) (H : Hp) (vs : List V) (Q : VK),
      A.guards = some [] → Room k (A.deeper (envOfC qual (defScope st) s.heap.objs.size f cdv)) → sp vs H Q E0 →
      ∃ t, PSs (cxOf CX0 P w K mg base N qual (defScope st) f cdv A outer s H E0).nox (defBody st) t ∧
        t { nx := fun _ H' => Q .non H', rt := Q } (start N vs) H) :
    FnG P w K mg base (k + 1) f fd ps sp := by
  obtain ⟨oc, od, kV, doc, pm, an, cdv, ct, osl, rfl, lk, hcd⟩ := F.ex
  refine ⟨len, ?_⟩
  intro A outer s H args us vs Q hg hr e0 hb r hsp
  have hlen := len _ _ _ _ hsp
  have inK : K.In s.heap := e0.mod.kin.keeps (fun b o e => (e0.bs b o e).1)
  have nolim : s.heap.NoLimit := e0.mod.nolimit.keeps (fun b o e => (e0.bs b o e).1)
  have hk : ∀ y ∈ ps.zip us, (defScope st).names.lookup y.1 = some .local ∨ ((defScope st).names.lookup y.1 = some .cell ∧
      ((cellsFrom (s.heap.objs.size + 1) (defScope st).names []).lookup y.1).isSome = true) := by
    rintro ⟨n, v⟩ hy
    rcases S.par n (List.of_mem_zip hy).1 with q | q
    · exact Or.inl q
    · exact Or.inr ⟨q, PySem.W.cellsFrom_some _ _ _ (Or.inl q)⟩
  refine codeAny_call_function hr.depth (inK _ _ lk) rfl S.co S.gen rfl (PySem.W.codeRec_of inK hcd) (hb _ _ _ _ ?_)
  refine wpAny_newFunctionEnv_cells S.kind hk ?_
  intro env he s1 x
  subst he
  refine ⟨nolim.keeps x.toInCall.keep, codeAny_func ?_⟩
  obtain ⟨t, ht0, hq⟩ := hbody cdv A outer s H vs Q hg (hr.deeper _) hsp
  have ht := ht0.nox
  have J0 : Inv (cxOf CX0 P w K mg base N qual (defScope st) f cdv A outer s H E0) [] (start N vs) H s1 := inv_start S hr.hd e0 hlen r x
  have fin : ∀ {σ' : L2.St} {H' : Hp} {s' : Shared} {v : V} {u : Value},
      Inv (cxOf CX0 P w K mg base N qual (defScope st) f cdv A outer s H E0) [] σ' H' s' → RelV v u → Q v H' → CE outer P w H s Q u s' :=
    fun {σ' H' s' v u} J rv q => ⟨v, H', J.os, J.bare, J.base, J.hok, rv, q⟩
  refine wpAny_mono (ht.run [] s1 (start N vs) H _ J0 hq) ?_ (fun e s' hs => hs)
  rintro (_ | _ | _ | u) s' hs
  · obtain ⟨σ', H', J, q⟩ := hs
    exact fin (v := V.non) (u := Value.none) J rfl q
  · obtain ⟨_, _, _, q⟩ := hs
    exact q.elim
  · obtain ⟨_, _, _, q⟩ := hs
    exact q.elim
  · obtain ⟨v, σ', H', J, rv, q⟩ := hs
    exact fin J rv q
end

section
variable {X : Cx} {k : Nat} {f : Addr} {fd : FuncData} {ps ks : List Str} {sp : Sp} {x : Str} {p pos : Pos} {e : Expr} {es : List Expr} {t tk : TA} {kws : List Keyword}
theorem run_g {pins : List (Addr × Obj)} {σ : L2.St} {H : Hp} {s : Shared} {Q : VK} {args : Args} {us : List Value} {vs : List V}
    (F : FnG X.prog X.w X.K X.mg X.base k f fd ps sp) (hg : X.A.guards = some []) (hr : Room k X.A)
    (hb : BindsTo s fd args (ps.zip us)) (I : Inv X pins σ H s) (r : Vals vs us) (h : sp vs H Q E0) :
    codeAny (model X.prog X.w) X.A (.call (.ref f) args) (fun r s' => match r with | .ok (.ret v) => EP X pins σ Q v s' | .ok _ => False | .error e => X.xe e s') s := by
  refine codeAny_mono (F.runG X.A X.stack s H args us vs Q hg hr I.env0 hb r h) ?_
  rintro (e | fl) s' hq
  · exact (show False from hq).elim
  · cases fl with
    | ret u => exact I.after hq
    | next => exact (show False from hq).elim
    | brk => exact (show False from hq).elim
    | cont => exact (show False from hq).elim
/-- f(..), the parameters all given by position -/
theorem pe_callG (F : FnG X.prog X.w X.K X.mg X.base k f fd ps sp) (hgu : X.A.guards = some []) (hr : Room k X.A) (hg : Gl X x) (hm : X.mg x = some (.ref f))
    (hk : PySem.W.keepIn X.K (.ref f) = true) (hb : Binds X.K fd ps []) (ha : PA X (e :: es) t) (hdb : (x == ("__debug__" : Str)) = false := by decide)
    (he : starEach (e :: es) X.env = (false, eval e X.env) :: starEach es X.env := by rfl)
    (hpl : (backTo pos (starEach es X.env)).any (·.1) = false := by rfl) :
    PE X (.Call (.Name x p) (e :: es) [] pos) (tCall sp [] E0 t) := by
  constructor
  intro pins s σ H Q I h
  refine wpAny_Call_Name_kw (ld_glob I hg hm ?_ hdb)
  refine PySem.W.callWith_K (h₀ := X.base) I.ok.mod.kin hk (thn (ha.run pos pins s σ H _ I h) ?_) he hpl
  intro us s1 ⟨vs, H1, I1, r, q⟩
  have q' : sp vs H1 Q E0 := by
    have q0 : sp (vs ++ []) H1 Q E0 := q
    rw [List.append_nil] at q0
    exact q0
  have hl : (us ++ []).length = ps.length := by rw [List.append_nil, ← r.length]; exact F.lenG _ _ _ _ q'
  refine ⟨I1.kIn, wpAny_call (run_g F hgu hr ?_ I1 r q')⟩
  have hb1 := hb s1 us I1.kIn hl
  rw [List.append_nil] at hb1
  exact hb1
theorem pe_callG0 (F : FnG X.prog X.w X.K X.mg X.base k f fd ps sp) (hgu : X.A.guards = some []) (hr : Room k X.A) (hg : Gl X x) (hm : X.mg x = some (.ref f))
    (hk : PySem.W.keepIn X.K (.ref f) = true) (hb : Binds X.K fd ps []) (hdb : (x == ("__debug__" : Str)) = false := by decide) :
    PE X (.Call (.Name x p) [] [] pos) (tCall sp [] E0 tNil) := by
  constructor
  intro pins s σ H Q I h
  refine wpAny_Call_Name_kw (ld_glob I hg hm ?_ hdb)
  refine PySem.W.callWith_K0 I.kIn hk ?_
  have q' : sp [] H Q E0 := h
  have hl : (([] : List Value) ++ []).length = ps.length := by rw [List.append_nil]; exact F.lenG _ _ _ _ q'
  exact wpAny_call (run_g F hgu hr (hb s [] I.kIn hl) I .nil q')
/-- how keywords alone bind: the values are put in the parameters' order by pm -/
structure KB (K : PySem.W.Frag) (fd : FuncData) (ps ks : List Str) : Prop where
  toK : ∀ (s : Shared) (ws : List Value), K.In s.heap → ws.length = ps.length → BindsTo s fd ⟨[], ks.zip ws⟩ (ps.zip ws)
/-- f(k = v, ..), the keywords in the parameters' order -/
theorem pe_kwG (F : FnG X.prog X.w X.K X.mg X.base k f fd ps sp) (hgu : X.A.guards = some []) (hr : Room k X.A) (hg : Gl X x) (hm : X.mg x = some (.ref f))
    (hk : PySem.W.keepIn X.K (.ref f) = true) (hb : KB X.K fd ps ks) (hkw : PK X kws tk) (hall : (backToKw pos (keywordEach kws X.env)).all (·.1.isSome) = true := by rfl)
    (hks : (backToKw pos (keywordEach kws X.env)).filterMap (·.1) = ks := by rfl) (hdb : (x == ("__debug__" : Str)) = false := by decide)
    (hpl : ((backTo pos (starEach [] X.env)).any (·.1) || (backToKw pos (keywordEach kws X.env)).any (·.1.isNone)) = false := by rfl) :
    PE X (.Call (.Name x p) [] kws pos) (tCall sp [] E0 tk) := by
  constructor
  intro pins s σ H Q I h
  refine wpAny_Call_Name_kw (ld_glob I hg hm ?_ hdb)
  refine PySem.W.callWith_KW0 (h₀ := X.base) I.ok.mod.kin hk hall (thn (hkw.run pos pins s σ H _ I h) ?_) hpl
  intro ws s1 ⟨zs, H1, I1, r, q⟩
  have q' : sp zs H1 Q E0 := by
    have q0 : sp (zs ++ []) H1 Q E0 := q
    rw [List.append_nil] at q0
    exact q0
  rw [hks]
  exact ⟨I1.kIn, wpAny_call (run_g F hgu hr (hb.toK s1 ws I1.kIn (by rw [← r.length]; exact F.lenG _ _ _ _ q')) I1 r q')⟩
end

/-! ### repr of data -/
section
variable {X : Cx}
def rRepr (K : PySem.W.Frag) : List V → Hp → VK → Prop := fun xs H Q => ∃ x d, xs = [x] ∧ Dp K H x d ∧ d.showable = true ∧ d.hasDict = false ∧ d.depth ≤ 60 ∧ d.shown.length ≤ sizeLine ∧ Q (.str d.shown) H
theorem call_repr (hgu : X.A.guards = some []) (hu : X.A.units + 64 < cLine) : CallR X (.builtin "repr") (rRepr X.K) := by
  intro pins s σ H xs us Q I r h
  obtain ⟨x, d, rfl, hd, hs, hnd, hdp, hz, q⟩ := h
  obtain ⟨u, rfl, rx⟩ := vals1 r
  have hsm : ∀ as : List Addr, d.hasDict = true → sysModules ∉ as := fun as e => by
    rw [hnd] at e
    cases e
  obtain ⟨as, rd⟩ := Dp.reads I d x u hd rx
  cases hd with
  | non =>
    obtain rfl : u = Value.none := rx
    exact PySem.P.repr_of_none ⟨.str _, H, I.tok _, ⟨_, rfl⟩, q⟩
  | bl b =>
    obtain rfl : u = Value.bool b := rx
    exact PySem.P.repr_of_bool ⟨.str _, H, I.tok _, ⟨_, rfl⟩, by simpa only [PyData.shown] using q⟩
  | int i =>
    obtain ⟨t, rfl⟩ := rx
    exact PySem.P.repr_of_int (by simpa [PyData.showable] using hs) ⟨.str _, H, I.tok _, ⟨_, rfl⟩, by simpa only [PyData.shown] using q⟩
  | str y =>
    obtain ⟨t, rfl⟩ := rx
    exact PySem.P.repr_of_str ⟨.str _, H, I.tok _, ⟨_, rfl⟩, by simpa only [PyData.shown] using q⟩ (by simpa only [PyData.shown] using hz)
  | lst =>
    rename_i a _ _ _ _
    obtain rfl : u = Value.ref a := rx
    exact repr_of_reads' (h₀ := s.heap) rd hs (hsm as) hgu (by omega) (fun _ _ e => e) (fun h' v tk hk => ⟨.str _, H, I.kept hk, ⟨v, rfl⟩, q⟩) hz
  | tup =>
    rename_i a _ _ _ _
    obtain rfl : u = Value.ref a := rx
    exact repr_of_reads' (h₀ := s.heap) rd hs (hsm as) hgu (by omega) (fun _ _ e => e) (fun h' v tk hk => ⟨.str _, H, I.kept hk, ⟨v, rfl⟩, q⟩) hz
end

/-! ### the script + a list -/
/-- a list that stands with no dict and no slots of its own -/
def Bare (K : PySem.W.Frag) (H : Hp) (a : Addr) (xs : List V) : Prop :=
  (∃ (us : List Value) (n : Nat), H a = some (.frz { cls := .type "list", data := .seq us.toArray n } (.lst xs))) ∨
  (∃ (us : List Value) (n : Nat), K.lookup a = some { cls := .type "list", data := .seq us.toArray n } ∧ Vals xs us)
theorem Bare.seq {K : PySem.W.Frag} {H : Hp} {a : Addr} {xs : List V} (hz : xs.length ≤ sizeLine) (h : Bare K H a xs) : SqL K H a xs := by
  rcases h with ⟨us, n, e⟩ | ⟨us, n, e, r⟩
  · exact .inl (.inr ⟨_, e⟩)
  · refine .inr ⟨_, us.toArray, n, e, rfl, rfl, rfl, ?_, by simpa using r⟩
    rw [List.size_toArray, ← r.length]
    exact hz
theorem Bare.keep {K : PySem.W.Frag} {H H' : Hp} {a : Addr} {xs : List V} (h : Bare K H a xs) (e : Same H H') : Bare K H' a xs := by
  rcases h with ⟨us, n, q⟩ | h
  · exact .inl ⟨us, n, e _ _ q⟩
  · exact .inr h
section
variable {X : Cx}
def rCatS (K : PySem.W.Frag) : R2 := fun x y H Q => ∃ l b xs zs, x = .ref l ∧ y = .ref b ∧ Bare K H l xs ∧ H b = some (.lst zs) ∧ xs.length + zs.length ≤ sizeLine ∧
  ∀ p, H p = none → Q (.ref p) (upd H p (.lst (xs ++ zs)))
theorem op_catS : OpR X (binaryOp .Add) (rCatS X.K) := by
  intro pins s σ H x y v u Q I rx ry h
  obtain ⟨l, b, xs, zs, rfl, rfl, hl, hb, hz, q⟩ := h
  obtain rfl : v = Value.ref l := rx
  obtain rfl : u = Value.ref b := ry
  obtain ⟨z2, its2, n2, r2, hl2, e2⟩ := I.lstM hb
  have hfin : ∀ (its : List Value) (n : Nat), Vals xs its → s.heap.get? l = some { cls := .type "list", data := .seq its.toArray n } →
      wpAny (model X.prog X.w) X.A (binaryOp .Add (.ref l) (.ref b)) (EP X pins σ Q) X.xe s := by
    intro its n r e
    have hln := r.length
    refine PySem.P.add_list e e2 ?_ (by rw [List.size_toArray, List.size_toArray]; omega)
    rw [show its.toArray ++ its2.toArray = (its ++ its2).toArray by simp]
    exact ⟨.ref _, _, I.lnew (t' := s.toks) (r.append r2) (by rw [List.length_append]; exact hz), rfl, q _ I.fresh⟩
  rcases hl with ⟨us, n, e⟩ | ⟨us, n, e, r⟩
  · obtain ⟨e1, _, its, m, r, e3⟩ := I.hok l _ e
    rw [e1] at e3
    cases e3
    exact hfin _ _ r e1
  · exact hfin us n r (I.kIn l _ e)
end

/-! ### the end -/
/-- the law's own head, with the marks known and the script told to be bare -/
theorem enterG {P : Program} {w : World} {K : PySem.W.Frag} {mg mb : Str → Option Value} {k : Nat} {fa a : Addr} {fd : FuncData} {x : Str} {sp : Sp} {s₁ : Shared} {vs : List Value} {ns : List Int}
    (KX : K.In s₁.heap) (hns : s₁.heap.Ns mainGlobals mg) (hb : s₁.heap.Ns builtinsNs mb) (hbb : ∀ x : Str, x ≠ "__name__" → mb x = bootBuiltins x)
    (hlim : s₁.heap.NoLimit) (hg : s₁.gens = #[]) (ha : s₁.heap.get? a = some { cls := .type "list", data := .seq vs.toArray })
    (hi : IntsAre vs ns) (hl : ns.length ≤ sizeLine) (hr : Room k callerA)
    (F : ∀ base : Heap, K.In base → base.Ns mainGlobals mg → FnG P w K mg base k fa fd [x] sp)
    (hbind : ∀ (s : Shared) (u : Value), BindsTo s fd ⟨[u], []⟩ [(x, u)])
    (hsp : ∀ H : Hp, Bare K H a (ns.map V.int) → sp [.ref a] H (fun v _ => v = .bl true) E0) :
    codeAny (model P w) callerA (.call (.ref fa) ⟨[.ref a], []⟩)
      (fun r s' => r = .ok (.ret (.bool true)) ∧ OldK s₁.heap s'.heap ∧ s'.os = s₁.os ∧ AllBare s'.gens) s₁ := by
  have rv := vals_ints hi
  have nV := hi.length
  have core : ∀ H : Hp, Only H → Bare K H a (ns.map V.int) → HOk P w H s₁.heap → (∀ b, H b ≠ none → b = a) → (H a ≠ none → K.lookup a = none) →
      codeAny (model P w) callerA (.call (.ref fa) ⟨[.ref a], []⟩)
        (fun r s' => r = .ok (.ret (.bool true)) ∧ OldK s₁.heap s'.heap ∧ s'.os = s₁.os ∧ AllBare s'.gens) s₁ := by
    intro H hO hS hok hA hK
    have only_a : ∀ {b : Addr} {u : HO}, H b = some u → b = a := fun {b u} q => hA b (by rw [q]; simp)
    have un : ∀ {b : Addr} {o : Obj} {es : Array DictEntry} {ep : Nat}, s₁.heap.get? b = some o → o.data = .dict es ep → H b = none := by
      intro b o es ep e d
      cases q : H b with
      | none => rfl
      | some u =>
        have e' := only_a q
        rw [e', ha] at e
        cases e
        exact nomatch (show Data.seq vs.toArray _ = Data.dict es ep from d)
    have nsB : ∀ {b : Addr} {m : Str → Option Value}, s₁.heap.Ns b m → (hidT s₁.heap H).Ns b m :=
      fun {b m} ⟨o, es, ep, e, d, r⟩ => ⟨o, es, ep, hidT_get e (un e d), d, r⟩
    have inB : K.In (hidT s₁.heap H) := by
      intro b o e
      refine hidT_get (KX b o e) ?_
      cases q : H b with
      | none => rfl
      | some u =>
        have e' := only_a q
        rw [e', hK (by rw [← e', q]; simp)] at e
        cases e
    have md : Mod K mg (hidT s₁.heap H) := ⟨inB, nsB hns, ⟨mb, nsB hb, hbb⟩, let ⟨mc, h1, h2⟩ := hlim; ⟨mc, nsB h1, h2⟩⟩
    have e0 : Env0 P w K mg (hidT s₁.heap H) callerA [] s₁ H :=
      ⟨rfl, md, fun b o e => of_hidT e, Nat.le_of_eq (hidT_size _ _), trivial, fun b z => absurd (show b ∈ ([] : List Addr) from z) (by simp), hok, .of_eq hg⟩
    refine codeAny_mono ((F _ inB (nsB hns)).runG callerA [] s₁ H ⟨[.ref a], []⟩ [.ref a] [.ref a] _ rfl hr e0 (hbind s₁ (.ref a)) (.cons rfl .nil) (hsp H hS)) ?_
    rintro (e | fl) s' h
    · exact (show False from h).elim
    · cases fl with
      | next => exact (show False from h).elim
      | brk => exact (show False from h).elim
      | cont => exact (show False from h).elim
      | ret u =>
        obtain ⟨v, H', os, bare, uu, hok', r', q⟩ := h
        obtain rfl : v = .bl true := q
        obtain rfl : u = Value.bool true := r'
        refine ⟨rfl, OldK.of_keep ?_, os, bare⟩
        intro b o e
        cases q : H b with
        | none => exact uu.keep b o e q (fun z => absurd (show b ∈ ([] : List Addr) from z) (by simp)) (by simp)
        | some u =>
          rcases hO b with z | ⟨ob, xs, z⟩
          · rw [q] at z
            cases z
          · obtain ⟨e1, _⟩ := hok b _ z
            obtain ⟨e2, _⟩ := hok' b _ (uu.frzs b ob _ z)
            rw [e] at e1
            cases e1
            exact e2
  cases hk : K.lookup a with
  | some o =>
    have e := KX a o hk
    rw [ha] at e
    cases e
    exact core (fun _ => none) (fun _ => .inl rfl) (.inr ⟨vs, 0, hk, rv⟩) (fun b u z => nomatch (show (none : Option HO) = some u from z)) (fun b z => absurd rfl z) (fun z => absurd rfl z)
  | none =>
    have hat : ∀ b u, (if b = a then some (HO.frz { cls := .type "list", data := .seq vs.toArray } (.lst (ns.map V.int))) else none) = some u →
        b = a ∧ u = HO.frz { cls := .type "list", data := .seq vs.toArray } (.lst (ns.map V.int)) := by
      intro b u z
      by_cases hb : b = a
      · rw [if_pos hb] at z
        exact ⟨hb, (Option.some.inj z).symm⟩
      · rw [if_neg hb] at z
        cases z
    refine core (fun b => if b = a then some (.frz { cls := .type "list", data := .seq vs.toArray } (.lst (ns.map V.int))) else none) ?_ (.inl ⟨vs, 0, if_pos rfl⟩) ?_ ?_ (fun _ => hk)
    · intro b
      by_cases hb : b = a
      · exact .inr ⟨_, _, if_pos hb⟩
      · exact .inl (if_neg hb)
    · intro b u z
      obtain ⟨rfl, rfl⟩ := hat b u z
      exact ⟨ha, by rw [List.length_map]; exact hl, vs, _, rv, ha⟩
    · intro b z
      cases q : (if b = a then some (HO.frz { cls := .type "list", data := .seq vs.toArray } (.lst (ns.map V.int))) else none) with
      | none => exact absurd q z
      | some u => exact (hat b u q).1

/-- what the last theorem takes -/
theorem walkG {l : PySem.W.OpenLaw} {k : Nat} {q : Program} {loose : List Str} {XP : (Str → Option Value) → Heap → Prop} {YP : World → Heap → Prop} {d : DefRec} {K : Params → PySem.W.Frag} {sp : PySem.W.Frag → Sp} {x : Str}
    (hn : l.most = some 63) (hdf : d.params.defaults = []) (hr : Room k callerA) (hY : ∀ (w : World) (h : Heap), YP w h → (K w.params).In h)
    (F : ∀ (w : World) (mg : Str → Option Value) (fa : Addr) (h : Heap), (K w.params).In h → h.Ns mainGlobals mg → mg d.name = some (.ref fa) →
      ∃ fd : FuncData, (∀ (s : Shared) (u : Value), BindsTo s fd ⟨[u], []⟩ [(x, u)]) ∧
        ∀ base : Heap, (K w.params).In base → base.Ns mainGlobals mg → FnG l.prog w (K w.params) mg base k fa fd [x] (sp (K w.params)))
    (hsp : ∀ (K : PySem.W.Frag) (H : Hp) (a : Addr) (ns : List Int), ns.length ≤ 63 → Bare K H a (ns.map V.int) → sp K [.ref a] H (fun v _ => v = .bl true) E0) :
    PySem.W.WalkO q loose XP YP l.row.toRowW d [] (fun f vs => PySem.call f vs) := by
  refine Att.attach_call hn hdf ?_
  intro w s₀ s₁ mg mb fa o pm cd doc a vs ns G Y ho hd hcd hmg hobj hints hlen hg
  have KX := hY w _ Y
  obtain ⟨fd, hb, hF⟩ := F w mg fa _ KX G.T.g hmg
  exact enterG KX G.T.g G.T.b G.T.builtins G.T.nolimit hg hobj hints (Nat.le_trans hlen (by decide)) hr hF hb (fun H hS => hsp (K w.params) H a ns hlen hS)
end Pk

/-! ## Comprehensions whose element has a value that the heap does not change -/
namespace Pk
open PySem PySem.Spec PyProof.Rows L2
theorem posI {j : Int} (h : decide (0 < j) = true) : 0 < j := of_decide_eq_true h
theorem one_more {α : Type} {xs : List α} {i : Nat} {a : α} (h : xs[i]? = some a) : xs.take (i + 1) = xs.take i ++ [a] := by
  rw [List.take_add_one, h]
  rfl
theorem same_upd {H1 H : Hp} {D : Addr} {o : HO} (s : Same H1 H) (hD : H1 D = none) : Same H1 (upd H D o) := fun b u e => by
  rw [upd_ne (ne_of_none e hD)]
  exact s b u e
theorem same_new {H : Hp} {p : Addr} {o : HO} (h : H p = none) : Same H (upd H p o) := same_upd (Same.refl H) h
theorem lc_map {α : Type} {J : It} {n : Nat} {G : Hp → Prop} {Y : Nat → Hp → V → Hp → Prop} (w : Walk J n G Y) (xs : List α) (emb : α → V) (hn : n = xs.length)
    (hY : ∀ i H x H', Y i H x H' → H' = H ∧ ∃ a, xs[i]? = some a ∧ x = emb a)
    {g : TG} {tt : TT} {te : TE} {vs : List Nat} {σ : L2.St} {H1 : Hp} {D : Addr} {Qd : Hp → Prop} (p : α → Bool) (f : α → V) (hD : H1 D = none) (hz : n < sizeLine) (hG : ∀ H, Same H1 H → G H)
    (hs : ∀ a, a ∈ xs → ∀ (H : Hp) (R : VK) (S : Hp → Prop), Same H1 H → (p a = true → ∀ H', Same H H' → R (f a) H') → (p a = false → ∀ H', Same H H' → S H') →
      g (emb a) (wipe σ vs) H fun σ2 H2 => wipe σ2 vs = wipe σ vs ∧ tt σ2 H2 fun b H3 => if b = true then te σ2 H3 R else S H3)
    (hd : ∀ H, Same H1 H → H D = some (.lst ((xs.filter p).map f)) → Qd H) :
    ∃ W : Nat → Nat → Hp → Prop, (∃ m, W 0 m (upd H1 D (.lst []))) ∧ ∀ i m H, W i m H →
      (J.stop i H ∧ Qd H) ∨ (J.go i H ∧ ∃ Nx : Hp → Prop, (∀ H', Nx H' → ∃ m', m' < m ∧ W (i + 1) m' H') ∧
        ∀ x H', J.yld i H x H' → g x (wipe σ vs) H' fun σ2 H2 => wipe σ2 vs = wipe σ vs ∧ tt σ2 H2 fun b H3 =>
          if b = true then te σ2 H3 fun y H4 => ∃ acc, H4 D = some (.lst acc) ∧ acc.length < sizeLine ∧ Nx (upd H4 D (.lst (acc ++ [y]))) else Nx H3) := by
  refine lc_it w (fun i H => Same H1 H ∧ H D = some (.lst (((xs.take i).filter p).map f))) ⟨same_new hD, by rw [upd_same]; rfl⟩ (fun i H _ h => hG H h.1) ?_ ?_
  · rintro i x H H' hi ⟨s, hl⟩ y
    obtain ⟨rfl, a, ha, rfl⟩ := hY _ _ _ _ y
    have hlen : (((xs.take i).filter p).map f).length < sizeLine := by
      refine Nat.lt_of_le_of_lt ?_ hz
      rw [List.length_map]
      refine Nat.le_trans (List.length_filter_le _ _) ?_
      rw [List.length_take]
      omega
    refine hs a (List.mem_of_getElem? ha) H' _ _ s (fun hp H4 s4 => ?_) (fun hp H4 s4 => ?_)
    · refine ⟨_, s4 _ _ hl, hlen, same_upd (s.trans s4) hD, ?_⟩
      rw [upd_same, one_more ha, List.filter_append, List.map_append]
      simp [hp]
    · refine ⟨s.trans s4, ?_⟩
      rw [s4 _ _ hl, one_more ha, List.filter_append, List.map_append]
      simp [hp]
  · rintro H ⟨s, hl⟩
    refine hd H s ?_
    rw [hl, hn, List.take_length]
/-- over a text -/
theorem lc_txt {z : Str} {g : TG} {tt : TT} {te : TE} {vs : List Nat} {σ : L2.St} {H1 : Hp} {D : Addr} {Qd : Hp → Prop} (p : Nat → Bool) (f : Nat → V) (hD : H1 D = none) (hz : z.length < sizeLine)
    (hs : ∀ c, c ∈ z.cps.toList → ∀ (H : Hp) (R : VK) (S : Hp → Prop), Same H1 H → (p c = true → ∀ H', Same H H' → R (f c) H') → (p c = false → ∀ H', Same H H' → S H') →
      g (.str ⟨#[c]⟩) (wipe σ vs) H fun σ2 H2 => wipe σ2 vs = wipe σ vs ∧ tt σ2 H2 fun b H3 => if b = true then te σ2 H3 R else S H3)
    (hd : ∀ H, Same H1 H → H D = some (.lst ((z.cps.toList.filter p).map f)) → Qd H) :
    ∃ W : Nat → Nat → Hp → Prop, (∃ m, W 0 m (upd H1 D (.lst []))) ∧ ∀ i m H, W i m H →
      ((Its z).stop i H ∧ Qd H) ∨ ((Its z).go i H ∧ ∃ Nx : Hp → Prop, (∀ H', Nx H' → ∃ m', m' < m ∧ W (i + 1) m' H') ∧
        ∀ x H', (Its z).yld i H x H' → g x (wipe σ vs) H' fun σ2 H2 => wipe σ2 vs = wipe σ vs ∧ tt σ2 H2 fun b H3 =>
          if b = true then te σ2 H3 fun y H4 => ∃ acc, H4 D = some (.lst acc) ∧ acc.length < sizeLine ∧ Nx (upd H4 D (.lst (acc ++ [y]))) else Nx H3) :=
  lc_map (walk_str (z := z)) z.cps.toList (fun c => .str ⟨#[c]⟩) (by simp) (fun i H x H' ⟨e, c, h1, h2⟩ => ⟨e, c, by simpa using h1, h2⟩) p f hD hz (fun _ _ => trivial) hs hd
/-- over a list -/
theorem lc_lst {α : Type} {K : PySem.W.Frag} {a : Addr} (xs : List α) (emb : α → V) {g : TG} {tt : TT} {te : TE} {vs : List Nat} {σ : L2.St} {H1 : Hp} {D : Addr} {Qd : Hp → Prop} (p : α → Bool) (f : α → V) (hD : H1 D = none) (hz : xs.length < sizeLine)
    (ha : SqL K H1 a (xs.map emb))
    (hs : ∀ c, c ∈ xs → ∀ (H : Hp) (R : VK) (S : Hp → Prop), Same H1 H → (p c = true → ∀ H', Same H H' → R (f c) H') → (p c = false → ∀ H', Same H H' → S H') →
      g (emb c) (wipe σ vs) H fun σ2 H2 => wipe σ2 vs = wipe σ vs ∧ tt σ2 H2 fun b H3 => if b = true then te σ2 H3 R else S H3)
    (hd : ∀ H, Same H1 H → H D = some (.lst ((xs.filter p).map f)) → Qd H) :
    ∃ W : Nat → Nat → Hp → Prop, (∃ m, W 0 m (upd H1 D (.lst []))) ∧ ∀ i m H, W i m H →
      ((Itl K a).stop i H ∧ Qd H) ∨ ((Itl K a).go i H ∧ ∃ Nx : Hp → Prop, (∀ H', Nx H' → ∃ m', m' < m ∧ W (i + 1) m' H') ∧
        ∀ x H', (Itl K a).yld i H x H' → g x (wipe σ vs) H' fun σ2 H2 => wipe σ2 vs = wipe σ vs ∧ tt σ2 H2 fun b H3 =>
          if b = true then te σ2 H3 fun y H4 => ∃ acc, H4 D = some (.lst acc) ∧ acc.length < sizeLine ∧ Nx (upd H4 D (.lst (acc ++ [y]))) else Nx H3) :=
  lc_map (walk_list (K := K) (a := a) (xs := xs.map emb)) xs emb (by simp)
    (fun i H x H' ⟨e, h⟩ => ⟨e, by
      rw [List.getElem?_map] at h
      cases q : xs[i]? with
      | none =>
        rw [q] at h
        cases h
      | some c =>
        rw [q] at h
        exact ⟨c, rfl, (Option.some.inj h).symm⟩⟩) p f hD (by simpa using hz) (fun H s => s.seq ha) hs hd
end Pk

/-! ## Operators, str and construction of instances with a dict; enumerate over a tuple -/
namespace Pk
open PySem PySem.Spec PyProof.Rows L2
open SlX (cmpback)
section
variable {X : Cx} {k n : Nat} {f C g : Addr} {fd : FuncData} {ps : List Str} {sp : Sp} {E : XK} {CX : CXT}
/-- x op y, both instances of the class at C, whose def for op is at g -/
def rOwnD (C : Addr) (sp : Sp) (E : XK) : R2 := fun x y H Q => ∃ a dx fs b dy gs, x = .ref a ∧ y = .ref b ∧ H a = some (.ins C dx fs) ∧ H b = some (.ins C dy gs) ∧ sp [x, y] H Q E
theorem op_ownD {op : CmpOp} (hop : ∀ a b, compareOp op a b = richCompare op a b) (hs : PySem.W.findIn X.K (.ref C) (cmpInfo op).2.1 = some (some (.ref g)))
    (hf : PySem.W.isFn X.K (.ref g) = true) (hn : PySem.W.notFirst X.K C (.ref C) = true) (F : FnR X.prog X.w X.K X.mg X.base CX n g sp) (hr : Room n X.A) (hx : Passes CX X E) : OpR X (compareOp op) (rOwnD C sp E) := by
  intro pins s σ H x y v u Q I rx ry h
  obtain ⟨a, dx, fs, b, dy, gs, rfl, rfl, ha, hb, q⟩ := h
  obtain rfl : v = Value.ref a := rx
  obtain rfl : u = Value.ref b := ry
  obtain ⟨mA, O, _⟩ := ins_get I.hok ha
  obtain ⟨od, J, _⟩ := O.look
  obtain ⟨mB, O', _⟩ := ins_get I.hok hb
  obtain ⟨od', J', _⟩ := O'.look
  obtain ⟨m, hF⟩ := I.fr
  rw [hop]
  refine PySem.W.cmp_K (op := op) (tb := .ref C) hr.units0 hF I.ok.mod.kin J J'.type hn hs hf (wpAny_mono (wpAny_call (run_fnR (us := [.ref a, .ref b]) (vs := [.ref a, .ref b]) F hr hx I (.cons rfl (.cons rfl .nil)) q)) ?_ (fun _ _ x => x))
  rintro w s' ⟨z', H', I', rz, qz⟩
  exact cmpback rz ⟨z', H', I', rz, qz⟩
/-- str(x) of an instance -/
def rStrD (C : Addr) (sp : Sp) (E : XK) : List V → Hp → VK → Prop := fun xs H Q => ∃ a dx fs, xs = [.ref a] ∧ H a = some (.ins C dx fs) ∧ sp [.ref a] H (fun z H' => ∃ t, z = .str t ∧ Q z H') E
theorem call_strD (hs : PySem.W.findIn X.K (.ref C) "__str__" = some (some (.ref g))) (hf : PySem.W.isFn X.K (.ref g) = true) (F : FnR X.prog X.w X.K X.mg X.base CX n g sp) (hr : Room (n + 2) X.A) (hx : Passes CX X E) :
    CallR X (.type "str") (rStrD C sp E) := by
  intro pins s σ H xs us Q I r h
  obtain ⟨a, dx, fs, rfl, ha, q⟩ := h
  obtain ⟨u, rfl, ru⟩ := vals1 r
  obtain rfl : u = Value.ref a := ru
  obtain ⟨mA, O, _⟩ := ins_get I.hok ha
  obtain ⟨od, J, _⟩ := O.look
  have hr1 : Room (n + 1) X.A.in1 := Room.in1 hr
  have hr2 : Room n X.A.in1.in1 := hr1.in1
  refine PySem.W.kso_call hr2.units0 I.kIn J hs hf (wpAny_mono (wpAny_call (SlX.run_at (us := [.ref a]) (ws := [.ref a]) F hr2 I.env0.in1.in1 hx I (.cons rfl .nil) q)) ?_ (fun _ _ x => x))
  rintro w s' ⟨z', H', I', rz, t, rfl, qz⟩
  obtain ⟨tk, rfl⟩ := (show ∃ t', w = Value.str t t' from rz)
  exact ⟨.str t, H', I', ⟨tk, rfl⟩, qz⟩
/-- c(..), c a local name that holds the class at C -/
theorem pe_makeL {i : Nat} {x : Str} {p pos : Pos} {e : Expr} {es : List Expr} {t : TA} (M : Mk X.K C f) (F : FnOk X.prog X.w X.K X.mg X.base CX k f fd ps sp) (hr : Room (k + 1) X.A) (hN : X.N[i]? = some x) (hv : Vis X.env.scope x)
    (hb : Binds X.K fd ps []) (hx : Passes CX X E) (ha : PA X (e :: es) t) (hd : (x == ("__debug__" : Str)) = false := by decide) (hcd : (x == ("__classdict__" : Str)) = false := by decide)
    (he : starEach (e :: es) X.env = (false, eval e X.env) :: starEach es X.env := by rfl) (hpl : (backTo pos (starEach es X.env)).any (·.1) = false := by rfl) :
    PE X (.Call (.Name x p) (e :: es) [] pos) (fun σ H Q => σ[i]? = some (some (.ref C)) ∧ tMake C sp [] E t σ H Q) := by
  constructor
  intro pins s σ H Q I h
  obtain ⟨h1, h2⟩ := h
  refine wpAny_Call_Name_kw (thn ((pe_var hN hv hd hcd).run pins s σ H (fun v H' => v = .ref C ∧ H' = H) I ⟨.ref C, h1, rfl, rfl⟩) ?_)
  rintro u s1 ⟨v, H1, I1, rv, rfl, rfl⟩
  obtain rfl : u = Value.ref C := rv
  refine PySem.W.callWith_K (h₀ := X.base) I1.ok.mod.kin M.kp (thn (ha.run pos pins s1 σ H1 _ I1 h2) ?_) he hpl
  intro us s2 ⟨vs, H2, I2, r, q⟩
  exact ⟨I2.kIn, run_make M F hr hb .nil hx I2 r q⟩
end

/-! ### enumerate over a tuple -/
/-- the tuple at a, each item in a new pair -/
def ItT (K : PySem.W.Frag) (a : Addr) : It :=
  ⟨fun i H => ∃ (xs : List V) (x : V), SqT K H a xs ∧ xs[i]? = some x,
   fun i H v H' => ∃ T x, v = .ref T ∧ H T = none ∧ H' = upd H T (.tup [.int (i : Nat), x]) ∧ ∀ xs, SqT K H a xs → xs[i]? = some x,
   fun i H => ∃ xs : List V, SqT K H a xs ∧ xs.length = i⟩
theorem turn_enT {P : Program} {w : World} {K : PySem.W.Frag} {elts : List Expr} {kk : Nat} {tpos : Pos} (a e it : Addr) :
    Turn P w K (.Tuple elts kk tpos) (ItT K a) [e, it] e (fun i h => (∃ old, IsEnum h e it ((i : Nat) : Int) old) ∧ h.IsTupleIter it a i ∧ e ≠ it ∧ a ≠ it ∧ e ≠ a) where
  mem := by simp
  obj := by
    rintro i h ⟨⟨old, he⟩, ⟨o, ho, hc, hd⟩, _⟩ b hb
    rcases (show b = e ∨ b = it by simpa using hb) with rfl | rfl
    · exact ⟨_, he, fun v q => nomatch q⟩
    · exact ⟨o, ho, fun v q => by rw [hd] at q; cases q⟩
  keep := by
    rintro i h h' ⟨⟨old, he⟩, hi, hne⟩ k
    exact ⟨⟨old, k e (by simp) _ he⟩, hi.at fun o q => k it (by simp) o q, hne⟩
  item := by
    intro X hP hw hK hc i pins s σ H E I hf st hg
    subst hP hw hK
    obtain ⟨⟨old, he⟩, hit, hne, hai, hea⟩ := st
    obtain ⟨xs, x, hq, hx⟩ := hg
    obtain ⟨its, rv, ht, hz⟩ := I.tuple hq
    obtain ⟨u, hu, ru⟩ := rv.get hx
    have hlt : i < its.toArray.size := by
      have h1 := (List.getElem?_eq_some_iff.mp hu).1
      simpa using h1
    have hel : e < s.heap.objs.size := Heap.lt_size he
    have hil : it < s.heap.objs.size := by
      obtain ⟨_, q, _⟩ := hit
      exact Heap.lt_size q
    have D := Draws.tuple (prog := X.prog) (w := X.w) (A := X.A.in1) (I.ok.hd hc) it a hai its.toArray
    refine wpAny_pyNext_enum_itemD D he ⟨hit, ht⟩ hlt hne (by simp [hne, hea]) ?_
    intro y h' tk hy ho hst hT hsz hk
    obtain rfl : u = y := by
      have h1 : its[i]? = some y := by simpa using hy
      rw [hu] at h1
      exact Option.some.inj h1
    refine ⟨_, rfl, wpAny_letOwnedTupleGo_enum (s := { s with heap := h', toks := tk + 1 }) ho ?_⟩
    intro h'' he' sb
    have hT2 := (sb.2 _ (Nat.ne_of_gt hel)).trans hT
    have new : ObjOk X.prog X.w (upd H s.heap.objs.size (.tup [.int (i : Nat), x])) h'' s.heap.objs.size (.tup [.int (i : Nat), x]) :=
      ⟨by show 2 ≤ sizeLine; decide, [.int i tk, u], .cons ⟨_, rfl⟩ (.cons ru .nil), ⟨_, hT2, rfl, _, rfl⟩⟩
    have hk2 : ∀ b ob, b ∉ [e, it] → s.heap.get? b = some ob → h''.get? b = some ob := by
      intro b ob hb q
      have n1 : b ≠ e := fun z => hb (by simp [z])
      have n2 : b ≠ it := fun z => hb (by simp [z])
      exact (sb.2 b n1).trans (hk b ob n1 n2 q)
    have I1 : Inv X pins σ (upd H s.heap.objs.size (.tup [.int (i : Nat), x])) { s with heap := h'', toks := tk + 1 } :=
      I.turnedNew (ch := [e, it]) hk2 hf (Nat.le_refl _) new
    refine ⟨.ref s.heap.objs.size, _, I1, rfl, ⟨_, x, rfl, I.fresh, rfl, ?_⟩, ⟨⟨u, ?_⟩, hst.1.at (fun o q => (sb.2 it (Ne.symm hne)).trans q), hne, hai, hea⟩, ?_⟩
    · intro ys hys
      rw [I.tuple_inj hys hq]
      exact hx
    · rw [show ((i + 1 : Nat) : Int) = (i : Int) + 1 by omega]
      exact he'
    · intro b hb
      have hb' : b < s.heap.objs.size := by
        rcases (show b = e ∨ b = it by simpa using hb) with rfl | rfl
        · exact hel
        · exact hil
      rw [upd_ne (Nat.ne_of_lt hb')]
      exact (hf b hb).1
  done := by
    intro X hP hw hK hc i pins s σ H E I hf st hg
    subst hP hw hK
    obtain ⟨⟨old, he⟩, hit, hne, hai, hea⟩ := st
    obtain ⟨xs, hq, hx⟩ := hg
    obtain ⟨its, rv, ht, hz⟩ := I.tuple hq
    obtain ⟨f0, f1, f2, f3, f4, f5⟩ := hf it (by simp)
    have hln := rv.length
    have D := Draws.tuple (prog := X.prog) (w := X.w) (A := X.A.in1) (I.ok.hd hc) it a hai its.toArray
    have ei : i = its.toArray.size := by
      rw [List.size_toArray, ← hln]
      exact hx.symm
    rw [ei] at hit
    refine wpAny_pyNext_enum_endD D he ⟨hit, ht⟩ ?_
    intro h' eb
    exact ⟨rfl, I.turned (t' := s.toks) (fun b o hb q => eb b o hb q) f0 f1 f3 f4 f5⟩
  self := by
    rintro A i s Q E ⟨⟨_, he⟩, _⟩ h
    exact wpAny_pyIter_enum he h
/-- the making of enumerate(v), v told by what its iterator is -/
theorem new_enum {v : Value} {o : Obj} {W : Heap → Prop} (B : Begins v o W) :
    Meets (Builtin.«enumerate.__new__» ⟨[.type "enumerate", v], []⟩) (fun _ R s => W s.heap ∧ R (.ok (.ret (.ref (s.heap.push o).objs.size)))
      { s with heap := (s.heap.push o).push { cls := .type "enumerate", data := .fields #[.none, .bool false, .ref s.heap.objs.size, rawInt 0, .none, .none] } }) := by
  refine .of_wp ?_
  rintro prog w A R ⟨hp, g, d, tk, os⟩ ⟨h1, h⟩
  have hsub := sub_enumerate
  have q1 : ∀ {A' : Around} {E : Value → Shared → Prop} {Q : Value → Shared → Prop}, Q (.ref hp.objs.size) ⟨hp.push o, g, d, tk, os⟩ → wpAny (model prog w) A' (pyIter v) Q E ⟨hp, g, d, tk, os⟩ := by
    intro A' E Q q
    exact B.iter prog w _ _ ⟨hp, g, d, tk, os⟩ _ h1 q
  wp_walk using q1
  refine wpAny_stack_any (fun st => wpAny_pure ?_)
  split
  · rename_i c _ _ _ _ _
    cases (c == Value.type "enumerate") <;> (wp_walk using q1; exact ⟨_, rfl, h⟩)
  · wp_walk using q1
    exact ⟨_, rfl, h⟩
theorem call_enum {prog : Program} {w : World} {A : Around} {E : Value → Shared → Prop} {s : Shared} {v : Value} {o : Obj} {W : Heap → Prop} {Q : Value → Shared → Prop} (B : Begins v o W) (h1 : W s.heap)
    (h : ∀ h', IsEnum h' (s.heap.objs.size + 1) s.heap.objs.size 0 .none → h'.get? s.heap.objs.size = some o → (∀ b o, s.heap.get? b = some o → h'.get? b = some o) →
      Q (.ref (s.heap.objs.size + 1)) { s with heap := h' }) : wpAny (model prog w) A (call (.type "enumerate") [v]) Q E s := by
  refine callType_new F.called_enumerate (by decide) (F.typeCall_enumerate_1 _) (F.newCall_enumerate_1 _) (fun obj => F.args_object_init_2 obj _) F.entry_enumerate_new (new_enum B) ⟨h1, ?_⟩
  have hz : (s.heap.push o).objs.size = s.heap.objs.size + 1 := Heap.size_push ..
  show _ ∧ _
  rw [hz]
  have he : IsEnum ((s.heap.push o).push { cls := .type "enumerate", data := .fields #[.none, .bool false, .ref s.heap.objs.size, rawInt 0, .none, .none] }) (s.heap.objs.size + 1) s.heap.objs.size 0 .none := by
    have e1 := Heap.get?_push_size (s.heap.push o) (o := { cls := .type "enumerate", data := .fields #[.none, .bool false, .ref s.heap.objs.size, rawInt 0, .none, .none] }) rfl
    rw [hz] at e1
    exact e1
  exact ⟨⟨_, he, rfl⟩, h _ he (Heap.get?_push_of_some _ (Heap.get?_push_size _ B.free)) (fun b o x => Heap.get?_push_of_some _ (Heap.get?_push_of_some _ x))⟩
def iEnT (K : PySem.W.Frag) (ta : TA) : TI := fun σ H R => ta σ H fun vs H1 => ∃ a xs, vs = [.ref a] ∧ SqT K H1 a xs ∧ R (ItT K a) H1
/-- for i, x in enumerate(a tuple) -/
theorem pi_enT {X : Cx} {e : Expr} {ta : TA} {p pos tpos : Pos} {elts : List Expr} {kk : Nat} (hg : Gl X "enumerate") (hm : X.mg "enumerate" = none) (ha : PA X [e] ta)
    (hs : starEach [e] X.env = [(false, eval e X.env)] := by rfl) : PI X (.Tuple elts kk tpos) (.Call (.Name "enumerate" p) [e] [] pos) (iEnT X.K ta) := by
  constructor
  intro pins s σ H R I h
  refine Call_ (ld_blt I hg hm boot_enumerate (PyProof.Rows.callWith_type1 (thn (ha.run pos pins s σ H _ I h) ?_) hs rfl))
  rintro us s1 ⟨vs, H1, I1, r1, a, xs, rfl, hq, q⟩
  obtain ⟨u, rfl, rx⟩ := vals1 r1
  obtain rfl : u = Value.ref a := rx
  obtain ⟨its, rv, ht, hz⟩ := I1.tuple hq
  refine call_enum (begins_tuple a its.toArray) ht ?_
  intro h' he hit hk
  refine wpAny_pyIter_enum he ?_
  have I2 : Inv X pins σ H1 { s1 with heap := h' } := I1.kept (t' := s1.toks) hk
  have la : a < s1.heap.objs.size := ht.lt
  refine ⟨s1.heap.objs.size + 1, [s1.heap.objs.size + 1, s1.heap.objs.size], _, _, H1, rfl, I2, turn_enT a (s1.heap.objs.size + 1) s1.heap.objs.size,
    ⟨⟨.none, he⟩, ⟨_, hit, rfl, rfl⟩, Nat.succ_ne_self _, Nat.ne_of_lt la, Nat.ne_of_gt (Nat.lt_succ_of_lt la)⟩, ?_, q⟩
  intro b hb
  have hle : s1.heap.objs.size ≤ b := by
    rcases (show b = s1.heap.objs.size + 1 ∨ b = s1.heap.objs.size by simpa using hb) with rfl | rfl
    · exact Nat.le_succ _
    · exact Nat.le_refl _
  exact I1.fpOk hle (I1.hok.fresh hle)
theorem walk_enT {K : PySem.W.Frag} {a : Addr} {xs : List V} : Walk (ItT K a) xs.length (fun H => SqT K H a xs) (YPair (fun i => some (.int (i : Nat))) (fun i => xs[i]?)) := by
  refine ⟨fun i _ hi q => ⟨xs, xs[i], q, by simp [hi]⟩, fun _ q => ⟨xs, q, rfl⟩, ?_⟩
  rintro i H v H' _ q ⟨T, x, h1, h2, h3, h4⟩
  exact ⟨T, .int (i : Nat), x, h1, h2, h3, rfl, h4 xs q⟩
end Pk

/-! ## Versions: the mathematics of their texts -/
namespace Pk
open PySem L2 TL SX
def isDig (c : Nat) : Bool := decide (48 ≤ c ∧ c ≤ 57)
/-- number_of_text -/
def nT (l : List Nat) : Option Nat :=
  if (decide (1 ≤ l.length) && (decide (l.length ≤ 3) && l.all isDig)) = true then (if l.head? = some 48 ∧ l ≠ [48] then none else some (NumText.digitsVal l)) else none
def wd : Nat → List Nat
  | 0 => [97]
  | 1 => [98]
  | _ => [114, 99]
/-- stage_of_text, from the i-th word on -/
def sTn (l : List Nat) : Nat → Nat → List Nat × Option Nat
  | 0, _ => (l, some 3000)
  | k + 1, i => match par (wd i) [] l with
    | some (p, q) => (p, (nT q).map (fun n => i * 1000 + n))
    | none => sTn l k (i + 1)
def sT (l : List Nat) : List Nat × Option Nat := sTn l 3 0
def allSome : List (Option Nat) → Option (List Nat)
  | [] => some []
  | none :: _ => none
  | some n :: r => (allSome r).map (n :: ·)
/-- parts_of_text -/
def pT (l : List Nat) : Option (List Nat × Nat) :=
  match (sT l).2, allSome ((spl [46] 0 [] (sT l).1).map nT) with
  | some st, some ns => if ns.length > 4 then none else some (ns, st)
  | _, _ => none
def rk (ns : List Nat) (st : Nat) : Nat := ((ns ++ [0, 0, 0]).take 4).foldl (fun r n => r * 1000 + n) 0 * 3001 + st
def stg (st : Nat) : List Nat := if st = 3000 then [] else wd (st / 1000) ++ numL (st % 1000)
def wrt (figs : List Nat) (st : Nat) : List Nat := joinL [46] (figs.map numL) ++ stg st
theorem nT_num : ∀ n : Nat, n < 1000 → nT (numL n) = some n := by
  intro n hn
  have hd := numL_digits n
  have h1 : (numL n).length ≤ 3 := numL_len (by decide) hn
  have h2 : 1 ≤ (numL n).length := by
    have := numL_ne n
    cases e : numL n with
    | nil => exact absurd e this
    | cons c r => simp
  have h3 : (numL n).all isDig = true := by
    rw [List.all_eq_true]
    intro c hc
    have := hd c hc
    simp only [isDig, decide_eq_true_eq]
    omega
  have h4 : ¬ ((numL n).head? = some 48 ∧ numL n ≠ [48]) := by
    have key : ∀ n : Nat, n < 1000 → decide ((numL n).head? = some 48 ∧ numL n ≠ [48]) = false := by decide +kernel
    exact of_decide_eq_false (key n hn)
  unfold nT
  rw [decide_eq_true h1, decide_eq_true h2, h3]
  simp only [Bool.and_self, if_true]
  rw [if_neg h4, numL_val]
theorem join_chars : ∀ {figs : List Nat} {c : Nat}, c ∈ joinL [46] (figs.map numL) → c = 46 ∨ (48 ≤ c ∧ c ≤ 57)
  | [], c, h => by cases h
  | [n], c, h => by
    have := numL_digits n c h
    omega
  | n :: m :: r, c, h => by
    have h' : c ∈ numL n ++ ([46] ++ joinL [46] ((m :: r).map numL)) := h
    rcases List.mem_append.mp h' with h | h
    · have := numL_digits n c h
      omega
    · rcases List.mem_append.mp h with h | h
      · exact .inl (by simpa using h)
      · exact join_chars h
theorem allSome_map : ∀ figs : List Nat, allSome (figs.map some) = some figs
  | [] => rfl
  | n :: r => by
    show (allSome (r.map some)).map (n :: ·) = some (n :: r)
    rw [allSome_map r]
    rfl
theorem sT_wrt {figs : List Nat} {st : Nat} (hs : st ≤ 3000) : sT (wrt figs st) = (joinL [46] (figs.map numL), some st) := by
  have noc : ∀ c : Nat, 57 < c → c ∉ joinL [46] (figs.map numL) := fun c hc h => by
    have := join_chars h
    omega
  have nod : ∀ c n : Nat, 57 < c → c ∉ numL n := fun c n hc => numL_free (.inr hc)
  unfold wrt
  generalize joinL [46] (figs.map numL) = A at noc
  by_cases h3 : st = 3000
  · subst h3
    have e1 : par [97] [] A = none := par_none1 (noc 97 (by decide))
    have e2 : par [98] [] A = none := par_none1 (noc 98 (by decide))
    have e3 : par [114, 99] [] A = none := par_none1 (noc 114 (by decide))
    simp only [stg, if_true, List.append_nil, sT, sTn, wd, e1, e2, e3]
  · have hs0 : stg st = wd (st / 1000) ++ numL (st % 1000) := if_neg h3
    have hn : nT (numL (st % 1000)) = some (st % 1000) := nT_num _ (Nat.mod_lt _ (by decide))
    have hlt : st / 1000 < 3 := by omega
    rw [hs0]
    have hc : st / 1000 = 0 ∨ st / 1000 = 1 ∨ st / 1000 = 2 := by omega
    rcases hc with h | h | h
    · rw [h]
      have e1 : par [97] [] (A ++ ([97] ++ numL (st % 1000))) = some (A, numL (st % 1000)) := by
        have := par_part1 (s := 97) (S := []) (p := A) (rest := numL (st % 1000)) (acc := []) (noc 97 (by decide))
        simpa using this
      simp only [sT, sTn, wd, e1, hn, Option.map_some]
      congr 2
      omega
    · rw [h]
      have m1 : 97 ∉ A ++ ([98] ++ numL (st % 1000)) := by
        simp only [List.mem_append, List.mem_singleton]
        rintro (q | q | q)
        · exact noc 97 (by decide) q
        · exact absurd q (by decide)
        · exact nod 97 _ (by decide) q
      have e1 : par [97] [] (A ++ ([98] ++ numL (st % 1000))) = none := par_none1 m1
      have e2 : par [98] [] (A ++ ([98] ++ numL (st % 1000))) = some (A, numL (st % 1000)) := by
        have := par_part1 (s := 98) (S := []) (p := A) (rest := numL (st % 1000)) (acc := []) (noc 98 (by decide))
        simpa using this
      simp only [sT, sTn, wd, e1, e2, hn, Option.map_some]
      congr 2
      omega
    · rw [h]
      have m1 : 97 ∉ A ++ ([114, 99] ++ numL (st % 1000)) := by
        simp only [List.mem_append, List.mem_cons, List.not_mem_nil, or_false]
        rintro (q | (q | q) | q)
        · exact noc 97 (by decide) q
        · exact absurd q (by decide)
        · exact absurd q (by decide)
        · exact nod 97 _ (by decide) q
      have m2 : 98 ∉ A ++ ([114, 99] ++ numL (st % 1000)) := by
        simp only [List.mem_append, List.mem_cons, List.not_mem_nil, or_false]
        rintro (q | (q | q) | q)
        · exact noc 98 (by decide) q
        · exact absurd q (by decide)
        · exact absurd q (by decide)
        · exact nod 98 _ (by decide) q
      have e1 : par [97] [] (A ++ ([114, 99] ++ numL (st % 1000))) = none := par_none1 m1
      have e2 : par [98] [] (A ++ ([114, 99] ++ numL (st % 1000))) = none := par_none1 m2
      have e3 : par [114, 99] [] (A ++ ([114, 99] ++ numL (st % 1000))) = some (A, numL (st % 1000)) := by
        have := par_part1 (s := 114) (S := [99]) (p := A) (rest := numL (st % 1000)) (acc := []) (noc 114 (by decide))
        simpa using this
      simp only [sT, sTn, wd, e1, e2, e3, hn, Option.map_some]
      congr 2
      omega
theorem pT_wrt {figs : List Nat} {st : Nat} (hf : figs ≠ []) (h4 : figs.length ≤ 4) (hb : ∀ n ∈ figs, n < 1000) (hs : st ≤ 3000) : pT (wrt figs st) = some (figs, st) := by
  have e : (spl [46] 0 [] (joinL [46] (figs.map numL))).map nT = figs.map some := by
    rw [TL.spl_join (s := 46) (S := []) (by simpa using hf) (fun p hp => by
      obtain ⟨n, _, rfl⟩ := List.mem_map.mp hp
      exact numL_free (.inl (by decide))), List.map_map]
    exact List.map_congr_left fun n hn => nT_num n (hb n hn)
  unfold pT
  rw [sT_wrt hs, e, allSome_map]
  simp only
  rw [if_neg (by omega)]
/-- how many numbers are written -/
def many (ns : List Nat) : Nat → Nat
  | 0 => 0
  | 1 => 1
  | m + 2 => if ns[m + 1]? = some 0 then many ns (m + 1) else m + 2
theorem many_le (ns : List Nat) : ∀ m, many ns m ≤ m
  | 0 => Nat.le_refl _
  | 1 => Nat.le_refl _
  | m + 2 => by
    unfold many
    split
    · exact Nat.le_succ_of_le (many_le ns (m + 1))
    · exact Nat.le_refl _
theorem many_pos (ns : List Nat) : ∀ m, 0 < m → 0 < many ns m
  | 1, _ => Nat.one_pos
  | m + 2, _ => by
    unfold many
    split
    · exact many_pos ns (m + 1) (by omega)
    · omega
def trim (ns : List Nat) : List Nat := ns.take (many ns ns.length)
/-- text_at -/
def n4 (r : Nat) : List Nat := [r / 3001 / 1000000000, r / 3001 / 1000000 % 1000, r / 3001 / 1000 % 1000, r / 3001 % 1000]
def tA (r : Nat) : List Nat := wrt (trim (n4 r)) (r % 3001)
theorem n4_lt {r : Nat} (h : r ≤ 3000999999999999) : ∀ n ∈ n4 r, n < 1000 := by
  intro n hn
  simp only [n4, List.mem_cons, List.not_mem_nil, or_false] at hn
  rcases hn with rfl | rfl | rfl | rfl <;> omega
theorem trim_len (ns : List Nat) : (trim ns).length = many ns ns.length := by
  unfold trim
  rw [List.length_take]
  have := many_le ns ns.length
  omega
theorem pT_tA {r : Nat} (h : r ≤ 3000999999999999) : pT (tA r) = some (trim (n4 r), r % 3001) := by
  have hl : (n4 r).length = 4 := rfl
  refine pT_wrt ?_ ?_ (fun n hn => n4_lt h n (List.mem_of_mem_take hn)) (by omega)
  · intro e
    have h1 := trim_len (n4 r)
    rw [e, hl] at h1
    have := many_pos (n4 r) 4 (by decide)
    simp at h1
    omega
  · have h1 := trim_len (n4 r)
    have := many_le (n4 r) (n4 r).length
    omega
/-- what is left out is zero -/
theorem many_zero (ns : List Nat) : ∀ m i, many ns m ≤ i → i < m → ns[i]? = some 0 ∨ m = 0
  | 0, _, _, h => absurd h (Nat.not_lt_zero _)
  | 1, i, h1, h2 => by
    have : many ns 1 = 1 := rfl
    omega
  | m + 2, i, h1, h2 => by
    unfold many at h1
    split at h1
    · rename_i h0
      by_cases hi : i = m + 1
      · subst hi
        exact .inl h0
      · exact .inl ((many_zero ns (m + 1) i h1 (by omega)).resolve_right (by omega))
    · omega
theorem rk_n4 {r : Nat} (h : r ≤ 3000999999999999) : rk (n4 r) (r % 3001) = r := by
  simp only [rk, n4, List.cons_append, List.nil_append, List.take_succ_cons, List.take_zero, List.foldl_cons, List.foldl_nil]
  omega
theorem take4 {ns : List Nat} (h : ns.length = 4) : ((trim ns) ++ [0, 0, 0]).take 4 = (ns ++ [0, 0, 0]).take 4 := by
  have hz := many_zero ns 4
  have hp := many_pos ns 4 (by decide)
  have hl := many_le ns 4
  unfold trim
  rw [h]
  generalize many ns 4 = m at hz hp hl
  match ns, h with
  | [a, b, c, d], _ =>
    have hm : m = 1 ∨ m = 2 ∨ m = 3 ∨ m = 4 := by omega
    rcases hm with rfl | rfl | rfl | rfl
    · have h1 := (hz 1 (by decide) (by decide)).resolve_right (by decide)
      have h2 := (hz 2 (by decide) (by decide)).resolve_right (by decide)
      have h3 := (hz 3 (by decide) (by decide)).resolve_right (by decide)
      simp at h1 h2 h3
      subst h1 h2 h3
      rfl
    · have h2 := (hz 2 (by decide) (by decide)).resolve_right (by decide)
      have h3 := (hz 3 (by decide) (by decide)).resolve_right (by decide)
      simp at h2 h3
      subst h2 h3
      rfl
    · have h3 := (hz 3 (by decide) (by decide)).resolve_right (by decide)
      simp at h3
      subst h3
      rfl
    · rfl
theorem rk_trim {r : Nat} (h : r ≤ 3000999999999999) : rk (trim (n4 r)) (r % 3001) = r := by
  have e : rk (trim (n4 r)) (r % 3001) = rk (n4 r) (r % 3001) := by
    unfold rk
    rw [take4 rfl]
  rw [e, rk_n4 h]
end Pk

/-! ## An instance compared with any other object -/
namespace Pk
open PySem PySem.Spec PyProof.Rows L2
open SlX (cmpback)
section
variable {X : Cx} {k n : Nat} {f C g : Addr} {fd : FuncData} {ps : List Str} {sp : Sp} {E : XK} {CX : CXT}
/-- x op y, x an instance of the class at C, whose def for op is at g; y of a type that is not below C -/
def rOwnA (K : PySem.W.Frag) (C : Addr) (sp : Sp) (E : XK) : R2 := fun x y H Q => ∃ a dx fs t, x = .ref a ∧ H a = some (.ins C dx fs) ∧ TyX K H y t ∧ PySem.W.notFirst K C t = true ∧ sp [x, y] H Q E
theorem op_ownA {op : CmpOp} (hop : ∀ a b, compareOp op a b = richCompare op a b) (hs : PySem.W.findIn X.K (.ref C) (cmpInfo op).2.1 = some (some (.ref g)))
    (hf : PySem.W.isFn X.K (.ref g) = true) (F : FnR X.prog X.w X.K X.mg X.base CX n g sp) (hr : Room n X.A) (hx : Passes CX X E) : OpR X (compareOp op) (rOwnA X.K C sp E) := by
  intro pins s σ H x y v u Q I rx ry h
  obtain ⟨a, dx, fs, t, rfl, ha, ty, hn, q⟩ := h
  obtain rfl : v = Value.ref a := rx
  obtain ⟨mA, O, _⟩ := ins_get I.hok ha
  obtain ⟨od, J, _⟩ := O.look
  obtain ⟨m, hF⟩ := I.fr
  obtain ⟨P, Z, p, _⟩ := kit_of I ry ty
  rw [hop]
  refine PySem.W.cmp_K (op := op) (tb := t) hr.units0 hF I.ok.mod.kin J (Z.ty _ _ I.kIn p) hn hs hf (wpAny_mono (wpAny_call (run_fnR (us := [.ref a, u]) (vs := [.ref a, y]) F hr hx I (.cons rfl (.cons ry .nil)) q)) ?_ (fun _ _ x => x))
  rintro w s' ⟨z', H', I', rz, qz⟩
  exact cmpback rz ⟨z', H', I', rz, qz⟩
end
/-- no built-in type is an own class -/
theorem kit_not {K : PySem.W.Frag} {C : Addr} (cl : Cls K C) (rd : ClX.CRead K C (.type "type")) {T : String} (hT : (PySem.fastFind? T).isSome = true := by decide +kernel) :
    PySem.W.kitOne K (.type T) (.ref C) = some false ∧ PySem.W.notFirst K C (.type T) = true := by
  have hs : PySem.W.subIn K (.type T) (.ref C) = some false := by
    obtain ⟨d, hd⟩ := Option.isSome_iff_exists.mp hT
    show ((PySem.fastFind? T).map _).map _ = _
    rw [hd]
    show some (List.contains (d.mro.map Value.type) (.ref C)) = some false
    congr 1
    generalize d.mro = ts
    induction ts with
    | nil => rfl
    | cons t r ih =>
      rw [List.map_cons, List.contains_cons, ih]
      rfl
  have h1 : (PySem.W.clsIn K C).isSome = true := by
    have h := cl.hd
    unfold PySem.W.hasDictIn at h
    cases e : PySem.W.clsIn K C with
    | none =>
      rw [e] at h
      cases h
    | some c => rfl
  have h2 : PySem.W.typeIn K (.ref C) = some (.type "type") := by
    have h := rd.rd
    simp only [PySem.W.readsIn, Bool.and_eq_true, beq_iff_eq] at h
    exact h.1.1.1.2
  constructor
  · unfold PySem.W.kitOne
    rw [if_neg (by intro h; cases h)]
    show (if ((PySem.W.clsIn K C).isSome && PySem.W.typeIn K (.ref C) == some (.type "type")) = true then _ else _) = _
    rw [h1, h2, if_pos (by decide), hs]
  · unfold PySem.W.notFirst
    rw [hs]
    rfl
/-! ## Tuples of whole numbers: order -/
theorem dp_ints {K : PySem.W.Frag} {H : Hp} : ∀ {ns : List Int}, DpAll K H (ns.map V.int) (ns.map .int)
  | [] => .nil
  | n :: r => .cons (.int n) (dp_ints (ns := r))
theorem ints_lay : ∀ ns : List Int, PyData.canLayAll0 (ns.map .int) = true
  | [] => rfl
  | n :: r => by
    show (PyData.canLay0 (.int n) && PyData.canLayAll0 (r.map .int)) = true
    rw [ints_lay r]
    simp [PyData.canLay0]
theorem ints_depth : ∀ ns : List Int, PyData.depthAll (ns.map .int) = 0
  | [] => rfl
  | n :: r => by
    show max (PyData.depth (.int n)) (PyData.depthAll (r.map .int)) = 0
    rw [ints_depth r]
    rfl
theorem ints_shaped (ns : List Int) : SeqAt.shaped (.tuple (ns.map .int)) = true := by
  unfold SeqAt.shaped
  have e : PyData.canLay0 (.tuple (ns.map .int)) = true := by
    simp only [PyData.canLay0]
    exact ints_lay ns
  rw [e]
  simp only [PyData.depth, ints_depth]
  rfl
theorem ints_eqv (ns ms : List Int) : PyData.eqv (.tuple (ns.map .int)) (.tuple (ms.map .int)) = decide (ns = ms) := by
  have h := PySem.W.Datum.eqv (α := PySem.W.Tup Int) ⟨ns⟩ ⟨ms⟩
  refine h.trans (decide_eq_decide.mpr ⟨fun e => congrArg PySem.W.Tup.items e, fun e => by rw [e]⟩)
def rTupI (K : PySem.W.Frag) (f : List Int → List Int → Bool) : R2 := fun x y H Q => ∃ (a b : Addr) (ns ms : List Int), x = .ref a ∧ y = .ref b ∧ SqT K H a (ns.map V.int) ∧ SqT K H b (ms.map V.int) ∧ Q (.bl (f ns ms)) H
section
variable {X : Cx}
theorem holds_ints {pins : List (Addr × Obj)} {σ : L2.St} {H : Hp} {s : Shared} {a : Addr} {ns : List Int} {v : Value} (I : Inv X pins σ H s) (h : SqT X.K H a (ns.map V.int)) (r : RelV (.ref a) v) : PySem.W.Holds s.heap v (⟨ns⟩ : PySem.W.Tup Int) :=
  Dp.reads I _ _ v (.tup h dp_ints) r
theorem op_ltTI (hu : X.A.units + 64 < cLine) : OpR X (compareOp .Lt) (rTupI X.K fun ns ms => PySem.W.listLt ns ms) := by
  intro pins s σ H x y v u Q I rx ry h
  obtain ⟨a, b, ns, ms, rfl, rfl, ha, hb, q⟩ := h
  exact PySem.W.lt_datum (holds_ints I ha rx) (holds_ints I hb ry) (Nat.lt_of_le_of_lt (Nat.add_le_add_left (show (1 : Nat) ≤ 64 by decide) _) hu) ⟨.bl _, H, I, rfl, q⟩
theorem op_gtTI (hu : X.A.units + 64 < cLine) : OpR X (compareOp .Gt) (rTupI X.K fun ns ms => PySem.W.listLt ms ns) := by
  intro pins s σ H x y v u Q I rx ry h
  obtain ⟨a, b, ns, ms, rfl, rfl, ha, hb, q⟩ := h
  exact PySem.W.gt_datum (holds_ints I ha rx) (holds_ints I hb ry) (Nat.lt_of_le_of_lt (Nat.add_le_add_left (show (1 : Nat) ≤ 64 by decide) _) hu) ⟨.bl _, H, I, rfl, q⟩
theorem op_leTI (hu : X.A.units + 64 < cLine) : OpR X (compareOp .LtE) (rTupI X.K fun ns ms => !PySem.W.listLt ms ns) := by
  intro pins s σ H x y v u Q I rx ry h
  obtain ⟨a, b, ns, ms, rfl, rfl, ha, hb, q⟩ := h
  exact PySem.W.le_datum (holds_ints I ha rx) (holds_ints I hb ry) (Nat.lt_of_le_of_lt (Nat.add_le_add_left (show (1 : Nat) ≤ 64 by decide) _) hu) ⟨.bl _, H, I, rfl, q⟩
theorem op_geTI (hu : X.A.units + 64 < cLine) : OpR X (compareOp .GtE) (rTupI X.K fun ns ms => !PySem.W.listLt ns ms) := by
  intro pins s σ H x y v u Q I rx ry h
  obtain ⟨a, b, ns, ms, rfl, rfl, ha, hb, q⟩ := h
  exact PySem.W.ge_datum (holds_ints I ha rx) (holds_ints I hb ry) (Nat.lt_of_le_of_lt (Nat.add_le_add_left (show (1 : Nat) ≤ 64 by decide) _) hu) ⟨.bl _, H, I, rfl, q⟩
end
end Pk

/-! ## Rules inside comprehensions, the table of classes named -/
namespace Pk
open PySem PySem.Spec PyProof.Rows L2
section
variable {X : Cx} {tg o e l : Expr} {to te tl : TE} {KK : PySem.W.Frag}
theorem pi_listK (hK : X.K = KK) (hl : PE X l tl) : PI X tg l (iList KK tl) := by
  subst hK
  exact pi_list hl
theorem pi_tupK (hK : X.K = KK) (hl : PE X l tl) : PI X tg l (iTup KK tl) := by
  subst hK
  exact pi_tup hl
theorem ix_listK (hK : X.K = KK) : IxR X (rIxL KK) := by
  subst hK
  exact ix_list
theorem ix_tupK (hK : X.K = KK) : IxR X (rIxT KK) := by
  subst hK
  exact ix_tup
theorem pe_joinK {apos pos : Pos} (hK : X.K = KK) (ho : PE X o to) (he : PE X e te) (hs : starEach [e] X.env = [(false, eval e X.env)] := by rfl) (hbase : attributeBase o "join" X.env (eval o X.env) = eval o X.env := by rfl) (hline : (apos.endLine == pos.line) = true := by rfl) :
    PE X (.Call (.Attribute o "join" apos) [e] [] pos) (tM1 (fun x xs H Q => ∃ a p, ∃ ys : List Str, x = .str a ∧ xs = [.ref p] ∧ (SqL KK H p (ys.map V.str) ∨ SqT KK H p (ys.map V.str)) ∧
      (ys.map (·.length)).sum + ys.length * a.length ≤ 16777216 ∧ Q (.str (Txt.join a ys)) H) to te) := by
  subst hK
  exact pe_join ho he hs hbase hline
end
end Pk

/-! ## Exceptions that are kept as values: made, caught under a name, their fields read -/
namespace Pk
open PySem PySem.Spec PyProof.Rows L2
/-- at a: an exception of the class cls that is in nobody's flight, its dict at d -/
def ExK (cls : Value) (d : Option Addr) (a : Addr) : HO := .ext fun h => ∃ (oe : Obj) (vs : Array Value), h.get? a = some oe ∧ Zc cls d oe ∧ oe.data = .fields vs
theorem exK_ok {P : Program} {w : World} {H : Hp} {h : Heap} {a : Addr} {cls : Value} {d : Option Addr} {oe : Obj} {vs : Array Value} (e : h.get? a = some oe) (z : Zc cls d oe) (q : oe.data = .fields vs) : ObjOk P w H h a (ExK cls d a) :=
  ⟨⟨oe, vs, e, z, q⟩, ⟨oe, e⟩, fun _ _ ⟨o1, v1, e1, z1, q1⟩ k => ⟨o1, v1, k _ e1, z1, q1⟩⟩
theorem exK_at {P : Program} {w : World} {H : Hp} {h : Heap} {a : Addr} {cls : Value} {d : Option Addr} (k : HOk P w H h) (e : H a = some (ExK cls d a)) : ∃ (oe : Obj) (vs : Array Value), h.get? a = some oe ∧ Zc cls d oe ∧ oe.data = .fields vs :=
  (show ObjOk P w H h a (.ext fun h => ∃ (oe : Obj) (vs : Array Value), h.get? a = some oe ∧ Zc cls d oe ∧ oe.data = .fields vs) from k a _ e).1
theorem exK_ne {cls : Value} {d : Option Addr} {a : Addr} : (∀ xs, ExK cls d a ≠ .tup xs) ∧ (∀ o u, ExK cls d a ≠ .frz o u) ∧ (∀ ps, ExK cls d a ≠ .tbl ps) ∧ ∀ x, ExK cls d a ≠ .own x := by
  refine ⟨fun _ z => ?_, fun _ _ z => ?_, fun _ z => ?_, fun _ z => ?_⟩ <;> (unfold ExK at z; cases z)
section
variable {X : Cx} {pins : List (Addr × Obj)} {σ : L2.St} {H : Hp} {s : Shared}
/-- a thing of the heap that is younger than the def's call, told from now on -/
theorem track {a : Addr} {o : HO} (I : Inv X pins σ H s) (young : X.s_0.heap.get? a = none) (untold : H a = none) (nl : X.env.locals ≠ a) (nc : ∀ x c, X.env.cells.lookup x = some c → c ≠ a)
    (np : ∀ p ∈ X.pn ++ pins, p.1 ≠ a) (new : ObjOk X.prog X.w (upd H a o) s.heap a o) : Inv X pins σ (upd H a o) s := by
  have off : ∀ {b : Addr} {u : HO}, H b = some u → b ≠ a := fun {b u} e z => by
    rw [z, untold] at e
    cases e
  have old : ∀ {b : Addr} {u : Obj}, X.s_0.heap.get? b = some u → b ≠ a := fun {b u} e z => by
    rw [z, young] at e
    cases e
  have at_ : ∀ {b : Addr} {u : HO}, H b = some u → upd H a o b = some u := fun {b u} e => by
    rw [upd_ne (off e)]
    exact e
  refine { ok := I.ok, os := I.os, bare := I.bare, loc := I.loc, cell := I.cell, len := I.len, base := { keep := I.base.keep, slot := I.base.slot, there := I.base.there, free := ?_, tups := ?_, frzs := ?_, tbls := ?_ }, free := ?_, freeC := ?_, pin := ?_, hok := ?_ }
  · intro b u e n hx
    rw [upd_ne (old e)]
    exact I.base.free b u e n hx
  · exact fun b xs e => at_ (I.base.tups b xs e)
  · exact fun b u v e => at_ (I.base.frzs b u v e)
  · intro b ps e
    obtain ⟨m, q⟩ := I.base.tbls b ps e
    exact ⟨m, at_ q⟩
  · rw [upd_ne nl]
    exact I.free
  · intro x c e
    rw [upd_ne (nc x c e)]
    exact I.freeC x c e
  · intro p hp
    obtain ⟨q1, q2, q3, q4, q5⟩ := I.pin p hp
    exact ⟨q1, by rw [upd_ne (np p hp)]; exact q2, q3, q4, q5⟩
  · intro b u e
    by_cases hb : b = a
    · subst hb
      rw [upd_same] at e
      cases e
      exact new
    · rw [upd_ne hb] at e
      exact (I.hok b u e).stay (fun _ _ _ q => q) (fun _ q => at_ q) (fun _ _ q => at_ q)
theorem moved {s' : Shared} (I : Inv X pins σ H s) (hh : s'.heap = s.heap) (os : s'.os = s.os) (ag : AllBare s'.gens) : Inv X pins σ H s' := by
  obtain ⟨h1, g1, d1, t1, o1⟩ := s
  obtain ⟨h2, g2, d2, t2, o2⟩ := s'
  dsimp only at hh os ag
  subst hh os
  exact { ok := I.ok, os := I.os, bare := ag, base := I.base, loc := I.loc, cell := I.cell, free := I.free, freeC := I.freeC, pin := I.pin, hok := I.hok, len := I.len }
/-- what was not there before the call -/
theorem young_of (I : Inv X pins σ H s) (hex : X.ex = []) {a : Addr} (n : s.heap.get? a = none) : X.s_0.heap.get? a = none := by
  cases e : X.s_0.heap.get? a with
  | none => rfl
  | some o =>
    obtain ⟨o', q⟩ := I.base.there a o e (by rw [hex]; exact fun z => nomatch z)
    rw [n] at q
    cases q
theorem notcell (I : Inv X pins σ H s) {a : Addr} {oe : Obj} {vs : Array Value} (e : s.heap.get? a = some oe) (q : oe.data = .fields vs) : ∀ x c, X.env.cells.lookup x = some c → c ≠ a := fun x c hc z => by
  obtain ⟨v, o, ho, hd⟩ := I.cell x c hc
  rw [z, e] at ho
  cases ho
  rw [q] at hd
  cases hd
theorem notlocals (I : Inv X pins σ H s) {a : Addr} (n : s.heap.get? a = none) : X.env.locals ≠ a := fun z => by
  obtain ⟨m, ⟨o, es, ep, ho, _⟩, _⟩ := I.loc
  rw [z, n] at ho
  cases ho
end
/-! ### C(..) as a value -/
def tMkV (t : L2.St → Hp → XK → Prop) : TE := fun σ H Q => t σ H fun cls d H' => ∀ a, H' a = none → Q (.ref a) (upd H' a (ExK cls d a))
theorem pe_mkV {X : Cx} {e : Expr} {t : L2.St → Hp → XK → Prop} (hex : X.ex = []) (he : PMk X e t) : PE X e (tMkV t) := by
  refine ⟨fun pins s σ H Q I h => wpAny_mono (he pins s σ H _ I h) ?_ fun _ _ x => x⟩
  rintro u s' ⟨a, oe, vs, sI, H', cls, d, rfl, J, k, gone, there, hz, hd, _, na, os, ag, _, q⟩
  have J1 : Inv X pins σ H' s' := moved (s := { sI with heap := s'.heap, toks := sI.toks }) (J.kept k) rfl os ag
  refine ⟨.ref a, _, track J1 (young_of J hex gone) na (notlocals J gone) (notcell J1 there hd) (fun p hp z => ?_) (exK_ok there hz hd), rfl, q a na⟩
  have := (J.pin p hp).1
  rw [z, gone] at this
  cases this
/-! ### e.f -/
def tXfV (K : PySem.W.Frag) (f : Str) (te : TE) : TE := fun σ H Q => te σ H fun x H1 => ∃ (a dd C : Addr) (fs : List (Str × V)) (v : V), x = .ref a ∧ XfC K C ∧ PySem.W.findIn K (.ref C) f = some none ∧
  H1 a = some (ExK (.ref C) (some dd) a) ∧ H1 dd = some (.xd fs) ∧ fs.lookup f = some v ∧ Q v H1
theorem pe_xfV {X : Cx} {e : Expr} {te : TE} {pos : Pos} {n : Str} (he : PE X e te) (hb : attributeBase e n X.env (eval e X.env) = eval e X.env := by rfl) : PE X (.Attribute e n pos) (tXfV X.K n te) := by
  refine ⟨fun pins s σ H Q I h => attr_of hb (thn (he.run pins s σ H _ I h) ?_)⟩
  rintro u s1 ⟨x, H1, I1, rx, a, dd, C, fs, v, rfl, T, no, hx, hd, hl, q⟩
  obtain rfl : u = Value.ref a := rx
  obtain ⟨oe, vs, there, hz, hf⟩ := exK_at I1.hok hx
  obtain ⟨mA, hns, hr⟩ : ObjOk X.prog X.w H1 s1.heap dd (.xd fs) := I1.hok dd _ hd
  obtain ⟨od, ho, hlk⟩ := lookIn_ns hns
  obtain ⟨u, hu, ru⟩ := RelO.some_of (v := v) (o := mA n) (by rw [← hl]; exact hr n)
  have J : PySem.W.InstAt s1.heap a oe C (some od) := ⟨there, hz.1, by unfold PySem.W.notCls; rw [hf] <;> rfl, by rw [hz.2]; exact ho⟩
  exact HandSPX.exc_get I1.kIn J T.ga T.gg T.exC (PySem.W.findObj_own T.hdC no rfl (by rw [hlk, hu])) (handed_of ru) ⟨v, H1, I1.tok _, ru, q⟩
/-! ### try: body / except x as n: suite, the exception kept -/
/-- what follows the suite: the name is gone, the exception is told -/
def behindV (i : Nat) (a : Addr) (cls : Value) (d : Option Addr) (D : Ends) : Ends where
  nx := fun σ H => H a = none → D.nx (σ.set i none) (upd H a (ExK cls d a))
  rt := D.rt
  bk := fun σ H => D.bk (σ.set i none) H
  ct := fun σ H => D.ct (σ.set i none) H
def wAsV (K : PySem.W.Frag) (c : Value) (i : Nat) (ts : Addr → Value → Option Addr → TS) (Wout : WX) (D : Ends) : WX := fun cls d σ H =>
  ∃ b, PySem.W.exmOne K cls c = some b ∧ (b = true → ∀ a, H a = none → ts a cls d (behindV i a cls d D) (σ.set i (some (.ref a))) H) ∧ (b = false → Wout cls d σ H)
section
variable {X : Cx} {x n : Str} {c : Value} {i : Nat} {body suite : List Stmt} {b₀ : Stmt} {np pos pos' : Pos} {tb : WX → TS} {ts : Addr → Value → Option Addr → TS} {Wout : WX}
theorem unsuiteK {a : Addr} {q : Addr × Obj} {pins : List (Addr × Obj)} {σ : L2.St} {H : Hp} {s : Shared} (I : Inv (X.suite a (q :: (X.pn ++ pins))) [] σ H s) (ok : X.Ok) : Inv X (q :: pins) σ H s :=
  { ok := ok, os := I.os, bare := I.bare, base := I.base, loc := I.loc, cell := I.cell, free := I.free, freeC := I.freeC, hok := I.hok, len := I.len
    pin := fun p hp => I.pin p (by
      rcases List.mem_append.mp hp with h | h
      · exact List.mem_append_left _ (List.mem_cons_of_mem _ (List.mem_append_left _ h))
      · rcases List.mem_cons.mp h with h | h
        · rw [h]
          exact List.mem_append_left _ List.mem_cons_self
        · exact List.mem_append_left _ (List.mem_cons_of_mem _ (List.mem_append_right _ h))) }
theorem unpin {q : Addr × Obj} {pins : List (Addr × Obj)} {σ : L2.St} {H : Hp} {s : Shared} (I : Inv X (q :: pins) σ H s) : Inv X pins σ H s :=
  { ok := I.ok, os := I.os, bare := I.bare, base := I.base, loc := I.loc, cell := I.cell, free := I.free, freeC := I.freeC, hok := I.hok, len := I.len
    pin := fun p hp => I.pin p (by
      rcases List.mem_append.mp hp with h | h
      · exact List.mem_append_left _ h
      · exact List.mem_append_right _ (List.mem_cons_of_mem _ h)) }
theorem ps_try_asV (hex : X.ex = []) (hs : X.stack = X.env :: X.outer) (hf : X.env.frame = some X.env.locals) (hN : X.N.Nodup) (hi : X.N[i]? = some n) (hln : X.env.kindOf n = some .local) (hc : Names X x c) (tk : Takes X Wout)
    (hb : ∀ (W : WX) (pn : List (Addr × Obj)) (xe : Value → Shared → Prop), Takes (X.tr pn xe) W → PassesOwn (model X.prog X.w) X.A X.env xe → PSs (X.tr pn xe) body (tb W))
    (hsu : ∀ (a : Addr) (oe : Obj) (cls : Value) (d : Option Addr) (pn : List (Addr × Obj)), Zc cls d oe → (∃ vs, oe.data = .fields vs) → PSs (X.suite a ((a, oe) :: pn)) (b₀ :: suite) (ts a cls d)) :
    PS X (.Try body [.ExceptHandler (some (.Name x np)) (some n) (b₀ :: suite) pos'] [] [] pos) (fun D σ H => tb (wAsV X.K c i ts Wout D) D σ H) := by
  constructor
  intro pins s σ H D I h
  have okX := I.ok
  have frames : X.A.frames = some (X.env :: X.outer) := okX.frames.trans (by rw [hs])
  refine wpAny_Try_except ?_
  let XC : Value → Shared → Prop := fun e s₁ => wpAny (model X.prog X.w) X.A (noteFrame e X.env) (fun _ s₂ => wpAny (model X.prog X.w) X.A (setFlight e none) (fun _ s₃ =>
    wpAny (model X.prog X.w) X.A (handleBy e X.env [.ExceptHandler (some (.Name x np)) (some n) (b₀ :: suite) pos']) (SP X pins D) X.xe s₃) X.xe s₂) X.xe s₁
  have caught : Takes (X.tr (X.pn ++ pins) XC) (wAsV X.K c i ts Wout D) := by
    rintro u s' ⟨a, B, sI, pins', σ', H', cls, d, rfl, J', nb, up, sky, na, os, ag, b, hb1, hyes, hno⟩
    have J : Inv X pins σ' H' sI := J'.ofTry okX
    have sky' : Sky B (X.env :: X.outer) a (Zc cls d) X.env.locals s'.heap := by
      rw [← hs]
      exact sky
    show wpAny (model X.prog X.w) X.A (noteFrame (.ref a) X.env) _ _ _
    refine Sky.land Zc.steady frames hf sky' fun hA flA upA => ?_
    have JA : Inv X pins σ' H' { s' with heap := hA } := J.landed nb flA.1 (up.trans upA) os ag
    obtain ⟨oA, vA, eA, zA, dA⟩ := flA.there
    have nofr : a ∉ frs (X.env :: X.outer) := fun hm => by
      obtain ⟨_, o', e', hnf⟩ := flA.2.2.1.mem hm
      rw [eA] at e'
      cases e'
      exact hnf _ dA
    have goneI : sI.heap.get? a = none := by
      cases e : sI.heap.get? a with
      | none => rfl
      | some o =>
        have := nb a o e (by rw [show (X.tr (X.pn ++ pins) XC).stack = X.env :: X.outer from hs]; exact nofr)
        rw [flA.2.1] at this
        cases this
    have nLoc : a ≠ X.env.locals := fun z => nofr (List.mem_filterMap.mpr ⟨X.env, List.mem_cons_self, by rw [hf, z]⟩)
    have nFs : a ∉ X.fs := fun hm => by
      obtain ⟨e, he, q⟩ := List.mem_filterMap.mp hm
      exact nofr (List.mem_filterMap.mpr ⟨e, List.mem_cons_of_mem _ he, q⟩)
    have SA := JA.suite eA dA na nLoc nFs
    refine wpAny_handleBy_cons (codeAny_handlers_test ?_) (by intro q; cases q)
    have lookT : PySem.W.Looks (model X.prog X.w) hA (typeOf (.ref a)) cls := fun A Q E s k q => wpAny_typeOf_ref (k _ _ eA) (by rw [zA.1]; exact q)
    have lookM := PySem.W.exm_one (M := model X.prog X.w) JA.kIn lookT hb1
    have nameC : ∀ {Q : Value → Shared → Prop} {E : Value → Shared → Prop}, Q c { s' with heap := hA } → wpAny (model X.prog X.w) (X.A.mark (some (.ref a))) (eval (.Name x np) X.env) Q E { s' with heap := hA } := by
      intro Q E q
      obtain ⟨glo, dbg, m1 | ⟨m1, m2, m3⟩⟩ := hc
      · exact ld_glob (X := X.suite a ((a, oA) :: (X.pn ++ pins))) SA glo m1 q dbg
      · exact ld_blt (X := X.suite a ((a, oA) :: (X.pn ++ pins))) SA glo m1 m2 q m3 dbg
    refine nameC (lookM.here ?_)
    cases b with
    | true =>
      refine codeAny_handlers_suite_as (HandSPX.lands_againZ flA fun hB flB upB => ?_)
      have JB : Inv X pins σ' H' { s' with heap := hB } := J.landed nb flB.1 ((up.trans upA).trans upB) os ag
      obtain ⟨oB, vB, eB, zB, dB⟩ := flB.there
      refine store_ok (X := X.suite a ((a, oB) :: (X.pn ++ pins))) (v := .ref a) (JB.suite eB dB na nLoc nFs) hN hi (.inl hln) rfl (fun sS SS => ?_) (.inr hln)
      have inside := (hsu a oB cls d (X.pn ++ pins) zB ⟨_, dB⟩).run [] sS _ H' _ SS (hyes rfl a na)
      refine wpAny_mono inside (fun f sE hsp => ?_) (fun _ _ z => False.elim z)
      have close : ∀ {σE : L2.St} {HE : Hp} {Q : Shared → Prop}, Inv (X.suite a ((a, oB) :: (X.pn ++ pins))) [] σE HE sE → (∀ sZ, Inv X ((a, oB) :: pins) (σE.set i none) HE sZ → Q sZ) →
          wpAny (model X.prog X.w) X.A (do bindName X.env n .none; unbindBehindTheSuite X.env n pos') (fun _ sZ => Q sZ) X.xe sE := fun {σE HE Q} SE hq => gone_ok (unsuiteK SE okX) hN hi hln hq
      cases f with
      | next =>
        obtain ⟨σE, HE, SE, qE⟩ := hsp
        refine close SE fun sZ JZ => ?_
        obtain ⟨g1, g2, g3, _, _⟩ := JZ.pin (a, oB) (List.mem_append_right _ List.mem_cons_self)
        refine ⟨_, _, track (unpin JZ) (young_of J hex goneI) g2 (Ne.symm g3) (notcell (unpin JZ) g1 dB) (fun p hp z => ?_) (exK_ok g1 zB dB), qE g2⟩
        have := (J.pin p hp).1
        rw [z, goneI] at this
        cases this
      | brk =>
        obtain ⟨σE, HE, SE, qE⟩ := hsp
        exact close SE fun sZ JZ => ⟨_, _, unpin JZ, qE⟩
      | cont =>
        obtain ⟨σE, HE, SE, qE⟩ := hsp
        exact close SE fun sZ JZ => ⟨_, _, unpin JZ, qE⟩
      | ret u =>
        obtain ⟨vE, σE, HE, SE, rE, qE⟩ := hsp
        exact close SE fun sZ JZ => ⟨_, _, _, unpin JZ, rE, qE⟩
    | false =>
      show wpAny _ X.A (handleBy (.ref a) X.env []) _ _ _
      refine wpAny_handleBy_nil ?_
      obtain ⟨k1, k2, k3, oe, vs, T, oT, tt, eT, zT, dT, h1, hr⟩ := id flA
      unfold PySem.passOn
      refine wpAny_bind (wpAny_field eT dT h1 ?_)
      rw [if_neg (show ¬ ((Value.ref T == Value.none) = true) from by simp)]
      have away : wpAny (model X.prog X.w) X.A (setFlight (.ref a) X.env.frame) (fun _ s4 => wpAny (model X.prog X.w) X.A (throw (.ref a) : Sem Flow) (SP X pins D) X.xe s4) X.xe { s' with heap := hA } := by
        rw [hf]
        refine HandSPX.setFlight_upZ flA fun hB hhB upB => wpAny_throw (tk _ _ ?_)
        exact ⟨a, B, sI, pins, σ', H', cls, d, rfl, J, nb, (up.trans upA).trans upB, .inr (.inr (by rw [hs]; exact hhB)), na, os, ag, hno rfl⟩
      first
        | exact wpAny_bind (wpAny_pure (wpAny_bind away))
        | exact wpAny_bind away
  have through := (hb (wAsV X.K c i ts Wout D) (X.pn ++ pins) XC caught PassesOwn.looking).run [] s σ H D (I.toTry _) h
  refine wpAny_mono through (fun f s1 hsp => ?_) (fun _ _ he => he)
  cases f with
  | next =>
    obtain ⟨σ', H', JJ, q⟩ := hsp
    exact wpAny_execs_nil ⟨σ', H', JJ.ofTry okX, q⟩
  | brk =>
    obtain ⟨σ', H', JJ, q⟩ := hsp
    exact ⟨σ', H', JJ.ofTry okX, q⟩
  | cont =>
    obtain ⟨σ', H', JJ, q⟩ := hsp
    exact ⟨σ', H', JJ.ofTry okX, q⟩
  | ret u =>
    obtain ⟨v, σ', H', JJ, r, q⟩ := hsp
    exact ⟨v, σ', H', JJ.ofTry okX, r, q⟩
end
end Pk

/-! ## Calls whose exceptions are told with the slots as they stand: classmethods and classes, by position and by name -/
namespace Pk
open PySem PySem.Spec PyProof.Rows L2
section
variable {X : Cx} {CX : CXT} {k : Nat} {σ : L2.St} {H : Hp} {s : Shared} {pins : List (Addr × Obj)} {E : L2.St → XK} {sp : Sp}
theorem run_fnRS {f : Addr} {Q : VK} {us : List Value} {vs : List V} (F : FnR X.prog X.w X.K X.mg X.base CX k f sp) (hr : Room k X.A) (hx : PassesAt CX X σ (E σ)) (I : Inv X pins σ H s) (r : Vals vs us) (h : sp vs H Q (E σ)) :
    codeAny (model X.prog X.w) X.A (.call (.ref f) ⟨us, []⟩) (fun r s' => match r with | .ok (.ret v) => EP X pins σ Q v s' | .ok _ => False | .error e => X.xe e s') s := by
  refine codeAny_mono (F X.A X.stack s H us vs Q (E σ) hr I.env0 r h) fun r s' hq => ?_
  cases r with
  | error e => exact hx pins H s e s' I hq
  | ok fl =>
    cases fl with
    | ret u => exact I.after hq
    | next => exact False.elim hq
    | brk => exact False.elim hq
    | cont => exact False.elim hq
/-- C.m(..), m a classmethod, by position -/
def tCMethS (C : Addr) (sp : Sp) (E : L2.St → XK) (ta : TE) (t : TA) : TE := fun σ H Q => ta σ H fun x H1 => x = .ref C ∧ t σ H1 fun vs H2 => sp (.ref C :: vs) H2 Q (E σ)
theorem pe_cmethS {C p g : Addr} {mc : Value} {o e : Expr} {es : List Expr} {m : Str} {pos apos : Pos} {ta : TE} {t : TA} {pl : Sem Bool} (he : PE X o ta) (r : ClX.CRead X.K C mc) (c : ClX.CMet X.K C mc m p g) (F : FnR X.prog X.w X.K X.mg X.base CX k g sp) (hr : Room k X.A)
    (hx : ∀ σ, PassesAt CX X σ (E σ)) (ha : PA X (e :: es) t)
    (hst : starEach (e :: es) X.env = (false, eval e X.env) :: starEach es X.env := by rfl) (hpl : (backTo pos (starEach es X.env)).any (·.1) = false := by rfl)
    (ht : eval (.Call (.Attribute o m apos) (e :: es) [] pos) X.env = (do
      let ov ← eval o X.env
      standAt apos.atName
      let (f, first) ← holding [ov] (getMethod ov m pl)
      callWith pos f first (backTo pos (starEach (e :: es) X.env)) (backToKw pos (keywordEach [] X.env))) := by rfl) :
    PE X (.Call (.Attribute o m apos) (e :: es) [] pos) (tCMethS C sp E ta t) := by
  refine ⟨fun pins s σ H Q I h => ?_⟩
  refine PySem.W.methodCall_KW (pl := pl) (thn (he.run pins s σ H _ I h) fun u s1 ⟨x, H1, I1, rx, ex, q⟩ => ?_) ht
  subst ex
  obtain rfl : u = Value.ref C := rx
  refine ClX.getmethcm_ok I1 r c fun s2 I2 => ?_
  refine ClX.callwith_cm I2 (ClX.base_none I1 (Nat.le_refl _)) c.fi (thn (ha.run pos _ s2 σ H1 _ I2 q) fun us s3 ⟨vs, H2, I3, rv, q2⟩ => ⟨⟨ClX.pin_at I3, I3.kIn⟩, ?_⟩) hst hpl
  have z := wpAny_call (PySem.W.method_call (ClX.pin_at I3) (run_fnRS (us := .ref C :: us) (vs := .ref C :: vs) F hr (hx σ) I3 (.cons rfl rv) q2))
  exact thn z fun _ _ y => ClX.unpinE y
/-- how the parameters behind the first one bind, all by name -/
structure KM (K : PySem.W.Frag) (fd : FuncData) (ps ks : List Str) (g : List Value → List Value) (gV : List V → List V) : Prop where
  to : ∀ (s : Shared) (c : Value) (ws : List Value), K.In s.heap → ws.length = ks.length → BindsTo s fd ⟨[c], ks.zip ws⟩ (ps.zip (c :: g ws))
  rel : ∀ {zs : List V} {ws : List Value}, zs.length = ks.length → Vals zs ws → Vals (gV zs) (g ws)
/-- C.m(k = v, ..), m a classmethod -/
def tCMethK (C : Addr) (n : Nat) (sp : Sp) (gV : List V → List V) (E : L2.St → XK) (ta : TE) (tk : TA) : TE := fun σ H Q => ta σ H fun x H1 => x = .ref C ∧ tk σ H1 fun zs H2 => zs.length = n ∧ sp (.ref C :: gV zs) H2 Q (E σ)
theorem pe_cmethK {C p f : Addr} {fd : FuncData} {ps ks : List Str} {g : List Value → List Value} {gV : List V → List V} {mc : Value} {o : Expr} {kws : List Keyword} {m : Str} {pos apos : Pos} {ta : TE} {tk : TA} {pl : Sem Bool}
    (he : PE X o ta) (r : ClX.CRead X.K C mc) (c : ClX.CMet X.K C mc m p f) (F : FnOk X.prog X.w X.K X.mg X.base CX k f fd ps sp) (hb : KM X.K fd ps ks g gV) (hr : Room k X.A)
    (hx : ∀ σ, PassesAt CX X σ (E σ)) (hkw : PK X kws tk)
    (hall : (backToKw pos (keywordEach kws X.env)).all (·.1.isSome) = true := by rfl) (hks : (backToKw pos (keywordEach kws X.env)).filterMap (·.1) = ks := by rfl)
    (hpl : ((backTo pos (starEach [] X.env)).any (·.1) || (backToKw pos (keywordEach kws X.env)).any (·.1.isNone)) = false := by rfl)
    (ht : eval (.Call (.Attribute o m apos) [] kws pos) X.env = (do
      let ov ← eval o X.env
      standAt apos.atName
      let (f, first) ← holding [ov] (getMethod ov m pl)
      callWith pos f first (backTo pos (starEach [] X.env)) (backToKw pos (keywordEach kws X.env))) := by rfl) :
    PE X (.Call (.Attribute o m apos) [] kws pos) (tCMethK C ks.length sp gV E ta tk) := by
  refine ⟨fun pins s σ H Q I h => ?_⟩
  refine PySem.W.methodCall_KW (pl := pl) (thn (he.run pins s σ H _ I h) fun u s1 ⟨x, H1, I1, rx, ex, q⟩ => ?_) ht
  subst ex
  obtain rfl : u = Value.ref C := rx
  refine ClX.getmethcm_ok I1 r c fun s2 I2 => ?_
  refine PySem.W.callWith_of hpl (PySem.W.keeps_M (self := Value.ref C) c.fi) (evalArgs_kw2_nil hall ?_)
  refine thn (hkw.run pos _ s2 σ H1 _ I2 q) fun ws s3 ⟨zs, H2, I3, rz, l2, q2⟩ => ⟨⟨ClX.pin_at I3, I3.kIn⟩, ?_⟩
  rw [hks]
  have r2 : Vals (V.ref C :: gV zs) (Value.ref C :: g ws) := .cons rfl (hb.rel l2 rz)
  have z : wpAny (model X.prog X.w) X.A (call (.ref s1.heap.objs.size) ([] ++ []) (ks.zip ws)) (EP X ((s1.heap.objs.size, PySem.W.methodObj (.ref f) (.ref C)) :: pins) σ Q) X.xe s3 := by
    refine wpAny_call (PySem.W.method_call (ClX.pin_at I3) (codeAny_mono (F.run X.A X.stack s3 H2 ⟨[Value.ref C], ks.zip ws⟩ (Value.ref C :: g ws) (V.ref C :: gV zs) Q (E σ) hr I3.env0 (hb.to s3 _ ws I3.kIn (rz.length.symm.trans l2)) r2 q2) fun r s' hq => ?_))
    cases r with
    | error e => exact hx σ _ H2 s3 e s' I3 hq
    | ok fl =>
      cases fl with
      | ret u => exact I3.after hq
      | next => exact False.elim hq
      | brk => exact False.elim hq
      | cont => exact False.elim hq
  exact thn z fun _ _ y => ClX.unpinE y
/-- C(k = v, ..) -/
def tMakeKS (C : Addr) (n : Nat) (sp : Sp) (gV : List V → List V) (E : L2.St → XK) (tk : TA) : TE := fun σ H Q => tk σ H fun zs H2 => zs.length = n ∧ ∀ x dx, H2 x = none → H2 dx = none → dx ≠ x →
  sp (.ref x :: gV zs) (upd (upd H2 dx (.own x)) x (.ins C dx [])) (fun v H3 => v = .non ∧ Q (.ref x) H3) (E σ)
theorem pe_makeKS {C f : Addr} {fd : FuncData} {ps ks : List Str} {g : List Value → List Value} {gV : List V → List V} {x : Str} {p pos : Pos} {kws : List Keyword} {tk : TA}
    (M : Mk X.K C f) (F : FnOk X.prog X.w X.K X.mg X.base CX k f fd ps sp) (hr : Room (k + 1) X.A) (hg : Gl X x) (hm : X.mg x = some (.ref C)) (hb : KM X.K fd ps ks g gV) (hx : ∀ σ, PassesAt CX X σ (E σ)) (hkw : PK X kws tk)
    (hall : (backToKw pos (keywordEach kws X.env)).all (·.1.isSome) = true := by rfl) (hks : (backToKw pos (keywordEach kws X.env)).filterMap (·.1) = ks := by rfl) (hdb : (x == ("__debug__" : Str)) = false := by decide)
    (hpl : ((backTo pos (starEach [] X.env)).any (·.1) || (backToKw pos (keywordEach kws X.env)).any (·.1.isNone)) = false := by rfl) :
    PE X (.Call (.Name x p) [] kws pos) (tMakeKS C ks.length sp gV E tk) := by
  refine ⟨fun pins s σ H Q I h => ?_⟩
  refine wpAny_Call_Name_kw (ld_glob I hg hm ?_ hdb)
  refine PySem.W.callWith_KW0 (h₀ := X.base) I.ok.mod.kin M.kp hall ?_ hpl
  refine thn (hkw.run pos pins s σ H _ I h) fun ws s2 ⟨zs, H2, I2, rz, l2, q2⟩ => ⟨I2.kIn, ?_⟩
  rw [hks]
  have hq := q2 (s2.heap.objs.size + 1) s2.heap.objs.size (I2.hok.fresh (Nat.le_succ _)) (I2.hok.fresh (Nat.le_refl _)) (Nat.ne_of_lt (Nat.lt_succ_self _))
  have I3 := Inv.made (C := C) I2
  have r2 : Vals (V.ref (s2.heap.objs.size + 1) :: gV zs) (Value.ref (s2.heap.objs.size + 1) :: g ws) := .cons rfl (hb.rel l2 rz)
  refine wpAny_call (make_map (f := f) I2.kIn M.makes M.init (beq_iff_eq.mp M.fn) (codeAny_mono (F.run _ X.stack _ _ ⟨[Value.ref (s2.heap.objs.size + 1)], ks.zip ws⟩ (Value.ref (s2.heap.objs.size + 1) :: g ws) _ _ (E σ) (hr.make C [] (ks.zip ws))
    (I3.env0.make C [] (ks.zip ws)) (hb.to _ _ ws I3.kIn (rz.length.symm.trans l2)) r2 hq) fun r s' hq' => ?_))
  cases r with
  | error e => exact hx σ pins _ _ e s' I3 hq'
  | ok fl =>
    cases fl with
    | ret u =>
      obtain ⟨v, H', I4, rv, ev, q3⟩ := I3.after hq'
      subst ev
      exact ⟨rv, ⟨V.ref (s2.heap.objs.size + 1), H', I4, rfl, q3⟩⟩
    | next => exact False.elim hq'
    | brk => exact False.elim hq'
    | cont => exact False.elim hq'
end
end Pk

/-! ## More rules: a classmethod without arguments, texts times numbers, repr of a list with an empty dict, find -/
namespace Pk
open PySem PySem.Spec PyProof.Rows L2 TL SX
section
variable {X : Cx} {CX : CXT} {k : Nat} {E : L2.St → XK} {sp : Sp}
/-- C.m(), m a classmethod -/
theorem pe_cmeth0S {C p g : Addr} {mc : Value} {o : Expr} {m : Str} {pos apos : Pos} {ta : TE} {pl : Sem Bool} (he : PE X o ta) (r : ClX.CRead X.K C mc) (c : ClX.CMet X.K C mc m p g) (F : FnR X.prog X.w X.K X.mg X.base CX k g sp) (hr : Room k X.A)
    (hx : ∀ σ, PassesAt CX X σ (E σ))
    (ht : eval (.Call (.Attribute o m apos) [] [] pos) X.env = (do
      let ov ← eval o X.env
      standAt apos.atName
      let (f, first) ← holding [ov] (getMethod ov m pl)
      callWith pos f first (backTo pos (starEach [] X.env)) (backToKw pos (keywordEach [] X.env))) := by rfl) :
    PE X (.Call (.Attribute o m apos) [] [] pos) (tCMethS C sp E ta tNil) := by
  refine ⟨fun pins s σ H Q I h => ?_⟩
  refine PySem.W.methodCall_KW (pl := pl) (thn (he.run pins s σ H _ I h) fun u s1 ⟨x, H1, I1, rx, ex, q⟩ => ?_) ht
  subst ex
  obtain rfl : u = Value.ref C := rx
  refine ClX.getmethcm_ok I1 r c fun s2 I2 => ?_
  refine PySem.W.callWith_M0 (K := X.K) (self := Value.ref C) (g := g) ⟨ClX.pin_at I2, I2.kIn⟩ c.fi ?_
  have z := wpAny_call (PySem.W.method_call (ClX.pin_at I2) (run_fnRS (us := [Value.ref C]) (vs := [V.ref C]) F hr (hx σ) I2 (.cons rfl .nil) q))
  exact thn z fun _ _ y => ClX.unpinE y
end
/-! ### a text times a number -/
theorem fold_reps (a : Array Nat) : ∀ (n : Nat) (b : Array Nat), ((List.replicate n a).foldl (· ++ ·) b).toList = b.toList ++ (List.replicate n a.toList).flatten
  | 0, b => by simp
  | n + 1, b => by
    rw [List.replicate_succ, List.foldl_cons, fold_reps a n, List.replicate_succ, List.flatten_cons, Array.toList_append, List.append_assoc]
theorem len_reps (l : List Nat) : ∀ n, (List.replicate n l).flatten.length = l.length * n
  | 0 => by simp
  | n + 1 => by
    rw [List.replicate_succ, List.flatten_cons, List.length_append, len_reps l n, Nat.mul_succ]
    omega
def rMulS : R2 := fun x y H Q => ∃ (l : List Nat) (n : Nat), x = .str (S l) ∧ y = .int (n : Int) ∧ l ≠ [] ∧ 2 ≤ n ∧ l.length * n ≤ 100000 ∧ Q (.str (S (List.replicate n l).flatten)) H
theorem op_mulS {X : Cx} : OpR X (binaryOp .Mult) rMulS := by
  intro pins s σ H x y v u Q I rx ry h
  obtain ⟨l, n, rfl, rfl, hne, h2, hz, q⟩ := h
  obtain ⟨t, rfl⟩ := rx
  obtain ⟨t', rfl⟩ := ry
  have hl : (S l).length = l.length := S_len l
  have hn : n ≤ 100000 := Nat.le_trans (Nat.le_mul_of_pos_left n (List.length_pos_iff.mpr hne)) hz
  have h0 : ((n : Int) == 1 || (S l).length == 0) = false := by
    have h1 : l.length ≠ 0 := fun e => hne (List.length_eq_zero_iff.mp e)
    rw [hl]
    rw [Bool.or_eq_false_iff]
    exact ⟨beq_eq_false_iff_ne.mpr (by omega), beq_eq_false_iff_ne.mpr h1⟩
  have et : (⟨(List.replicate ((n : Int)).toNat (S l).cps).foldl (· ++ ·) #[]⟩ : Str) = S (List.replicate n l).flatten := by
    refine ext_tl ?_
    show ((List.replicate ((n : Int)).toNat (S l).cps).foldl (· ++ ·) #[]).toList = (S (List.replicate n l).flatten).cps.toList
    rw [fold_reps, Int.toNat_natCast]
    show [] ++ (List.replicate n (S l).cps.toList).flatten = _
    rw [List.nil_append]
  have hz2 : l.length * n ≤ sizeLine := by
    rw [sizeLine_eq]
    omega
  refine PySem.P.mul_str (x := S l) (n := (n : Int)) ?_ ?_ ?_ ?_
  · rw [Bool.or_eq_false_iff]
    exact ⟨decide_eq_false (by omega), decide_eq_false (by omega)⟩
  · intro _ _
    rw [hl]
    have h1 : l.length ≤ 100000 := Nat.le_trans (Nat.le_mul_of_pos_right _ (by omega)) hz
    have : (2 ^ 63 - 1 : Int) / (n : Int) ≥ 100000 := by
      refine (Int.le_ediv_iff_mul_le (by omega)).mpr ?_
      omega
    omega
  · intro _ _
    rw [hl, Int.toNat_natCast]
    show decide (l.length * n > sizeLine) = false
    exact decide_eq_false (by omega)
  · rw [if_neg (by omega), if_neg (by rw [h0]; exact Bool.false_ne_true), et]
    have hlen : (S (List.replicate n l).flatten).length ≤ sizeLine := by
      rw [S_len, len_reps]
      exact hz2
    exact ⟨hlen, ⟨.str _, H, I.tok _, ⟨_, rfl⟩, q⟩⟩
/-! ### repr of a list of a text and an empty dict -/
def rReprD : List V → Hp → VK → Prop := fun xs H Q => ∃ (a dd : Addr), xs = [.ref a] ∧ a ≠ sysModules ∧ H a = some (.lst [.str "version", .ref dd]) ∧ H dd = some (.dK []) ∧ Q (.str (PyData.shown (.list [.str "version", .dict []]))) H
theorem call_reprD {X : Cx} (hgu : X.A.guards = some []) (hu : X.A.units + 64 < cLine) : CallR X (.builtin "repr") rReprD := by
  intro pins s σ H xs us Q I r h
  obtain ⟨a, dd, rfl, na, ha, hd, q⟩ := h
  obtain ⟨u, rfl, rx⟩ := vals1 r
  obtain rfl : u = Value.ref a := rx
  obtain ⟨us, rv, ⟨o, n, ho, hc, _, hdt⟩, _⟩ := I.list (.inl (.inl ha))
  obtain ⟨hz, hS, vs, r, m⟩ : ([] : List (Key × V)).length ≤ sizeLine ∧ (dd == sysModules) = false ∧ ∃ vs, KV [] vs ∧ s.heap.DictOf (mixKind X.prog X.w) dd vs := I.hok dd _ hd
  cases r
  obtain ⟨o2, es, ep, ho2, hx, hd2, _, hp, _⟩ := m
  have he : es.toList = [] := by
    cases h : es.toList with
    | nil => rfl
    | cons e r =>
      rw [h] at hp
      cases hp
  cases rv with
  | cons r1 rr =>
    cases rr with
    | cons r2 rr =>
      cases rr
      obtain ⟨tk, rfl⟩ := r1
      have r2' : _ = Value.ref dd := r2
      subst r2'
      have rd : Reads s.heap (.ref dd) (.dict []) _ := Reads.dict ho2 hx.1 hd2 (by rw [he]; exact ReadsAll.nil) (by rw [he]; exact ReadsAll.nil)
      have rl := Reads.list ho hc hdt (ReadsAll.cons (Reads.str _ tk) (ReadsAll.cons rd ReadsAll.nil))
      refine repr_of_reads' (h₀ := s.heap) rl (by decide +kernel) (fun _ => ?_) hgu (by show X.A.units + (2 + 1) < cLine; omega) (fun _ _ e => e) (fun h' v tk hk => ⟨.str _, H, I.kept hk, ⟨v, rfl⟩, q⟩) (by decide +kernel)
      have nd : dd ≠ sysModules := by
        rintro rfl
        simp at hS
      simp [Ne.symm na, Ne.symm nd]
/-- either rule -/
theorem callR_or {X : Cx} {f : Value} {r1 r2 : List V → Hp → VK → Prop} (h1 : CallR X f r1) (h2 : CallR X f r2) : CallR X f (fun xs H Q => r1 xs H Q ∨ r2 xs H Q) := by
  intro pins s σ H xs us Q I r h
  rcases h with h | h
  · exact h1 pins s σ H xs us Q I r h
  · exact h2 pins s σ H xs us Q I r h
/-- a list whose place is none of the first ones -/
def tLstN (t : TA) : TE := fun σ H Q => t σ H fun xs H1 => xs.length ≤ sizeLine ∧ ∀ p, H1 p = none → p ≠ sysModules → Q (.ref p) (upd H1 p (.lst xs))
theorem pe_lstN {X : Cx} {es : List Expr} {pos : Pos} {t : TA} (h : PA X es t) : PE X (.List es pos) (tLstN t) := by
  refine ⟨fun pins s σ H Q I hq => ?_⟩
  refine wpAny_List_spliced (thn (h.run pos pins s σ H _ I hq) fun us s1 ⟨xs, H1, I1, r, z, q⟩ => ⟨by rw [← r.length]; exact z, ?_⟩)
  have hf : H1 s1.heap.objs.size = none := I1.hok.fresh (Nat.le_refl _)
  have hb : s1.heap.objs.size ≠ sysModules := by
    have lt : mainGlobals < s1.heap.objs.size := by
      obtain ⟨o, es, ep, e, _⟩ := I1.ok.mod.glob
      exact Heap.lt_size (I1.bk _ _ e)
    intro e
    rw [e] at lt
    exact absurd lt (by decide)
  refine ⟨.ref s1.heap.objs.size, upd H1 s1.heap.objs.size (.lst xs), I1.laid (t' := s1.toks) (fun b u e => Heap.get?_push_of_some _ e) (Nat.le_refl _) ?_, rfl, q _ hf hb⟩
  exact ⟨z, us, 0, r, Heap.get?_push_size _ rfl⟩
/-! ### find -/
theorem find_par (x y : Str) (hy : tl y ≠ []) : (∃ p q, par (tl y) [] (tl x) = some (p, q) ∧ Txt.find x y = (p.length : Int) ∧ tl x = p ++ (tl y ++ q)) ∨ (par (tl y) [] (tl x) = none ∧ Txt.find x y = -1) := by
  have hl := len_tl y
  have hx := len_tl x
  unfold Txt.find
  rcases StrLaws.occ_head x y 1 (Nat.le_refl 1) with ⟨e, hn⟩ | ⟨i, r, e, hi, hn⟩
  · have run := par_run (tl y) (tl x) (tl x).length 0 [] (by omega) (fun k _ _ => no_at hy (hn k))
    rw [List.drop_zero, Nat.zero_add, List.drop_length] at run
    rw [e, run]
    exact .inr ⟨rfl, rfl⟩
  · have hb : i + y.length ≤ x.length := hi.1
    have run := par_run (tl y) (tl x) i 0 [] (by omega) (fun k _ k2 => no_at hy (hn k (by omega)))
    rw [List.drop_zero, Nat.zero_add, List.nil_append, par_at hy ((at_iff hy i).mp hi)] at run
    rw [e, run]
    refine .inl ⟨_, _, rfl, ?_, ?_⟩
    · show (i : Int) = _
      rw [List.length_take]
      omega
    · have hp := (at_iff hy i).mp hi
      have e3 : ((tl x).drop i).take (tl y).length = tl y := by
        unfold pre at hp
        simpa using hp
      conv => lhs; rw [← List.take_append_drop i (tl x), ← List.take_append_drop (tl y).length ((tl x).drop i), e3, List.drop_drop]
/-! ### a list compared with the empty one -/
def rEqNil (K : PySem.W.Frag) : R2 := fun x y H Q => ∃ a b xs, x = .ref a ∧ y = .ref b ∧ SqL K H a xs ∧ SqL K H b [] ∧ Q (.bl xs.isEmpty) H
def rNeNil (K : PySem.W.Frag) : R2 := fun x y H Q => ∃ a b xs, x = .ref a ∧ y = .ref b ∧ SqL K H a xs ∧ SqL K H b [] ∧ Q (.bl (!xs.isEmpty)) H
theorem op_neNil {X : Cx} (hu : X.A.units + 64 < cLine) : OpR X (compareOp .NotEq) (rNeNil X.K) := by
  intro pins s σ H x y v u Q I rx ry h
  obtain ⟨a, b, xs, rfl, rfl, ha, hb, q⟩ := h
  cases (show v = Value.ref a from rx)
  cases (show u = Value.ref b from ry)
  obtain ⟨us, r1, p1, _⟩ := I.list ha
  obtain ⟨ws, r2, p2, _⟩ := I.list hb
  cases r2
  cases xs with
  | nil =>
    cases r1
    refine SeqAt.RcNeAt.lists (e := fun _ => true) p1.isList p2.isList rfl (by omega) (fun j h1 _ => absurd h1 (by simp)) X.prog X.w _ _ ?_
    exact ⟨.bl false, H, I, rfl, q⟩
  | cons x xs =>
    cases r1 with
    | cons ra rb => exact SeqAt.RcNeAt.lists_lengths p1.isList p2.isList (by simp [bne]) (by omega) X.prog X.w _ _ ⟨.bl true, H, I, rfl, q⟩
theorem op_eqNil {X : Cx} (hu : X.A.units + 64 < cLine) : OpR X (compareOp .Eq) (rEqNil X.K) := by
  intro pins s σ H x y v u Q I rx ry h
  obtain ⟨a, b, xs, rfl, rfl, ha, hb, q⟩ := h
  cases (show v = Value.ref a from rx)
  cases (show u = Value.ref b from ry)
  obtain ⟨us, r1, p1, _⟩ := I.list ha
  obtain ⟨ws, r2, p2, _⟩ := I.list hb
  cases r2
  cases xs with
  | nil =>
    cases r1
    refine SeqAt.RcAt.lists (e := fun _ => true) p1.isList p2.isList rfl (by omega) (fun j h1 _ => absurd h1 (by simp)) X.prog X.w _ _ ?_
    exact ⟨.bl true, H, I, rfl, q⟩
  | cons x xs =>
    cases r1 with
    | cons ra rb => exact SeqAt.RcAt.lists_lengths p1.isList p2.isList (by simp [bne]) (by omega) X.prog X.w _ _ ⟨.bl false, H, I, rfl, q⟩
end Pk

/-! ## More rules inside comprehensions, the table of classes named -/
namespace Pk
open PySem PySem.Spec PyProof.Rows L2
section
variable {X : Cx} {KK : PySem.W.Frag}
theorem call_isiN (hK : X.K = KK) : CallR X (.builtin "isinstance") (rIsi KK) := by
  subst hK
  exact call_isi
theorem op_in_seqN (hK : X.K = KK) : OpR X (compareOp .In) (rIn KK false) := by
  subst hK
  exact op_in_seq
theorem op_notIn_seqN (hK : X.K = KK) : OpR X (compareOp .NotIn) (rIn KK true) := by
  subst hK
  exact op_notIn_seq
theorem call_len_seqN (hK : X.K = KK) : CallR X (.builtin "len") (fun xs H Q => ∃ p ys, xs = [.ref p] ∧ (SqL KK H p ys ∨ SqT KK H p ys) ∧ Q (.int ys.length) H) := by
  subst hK
  exact call_len_seq
end
end Pk

/-! sets of texts: set(xs) of a list of texts, sorted(set) -/
namespace L2
open PySem PySem.Spec PyProof.Rows
def txtOf (e : Int × Value) : Str := match e.2 with | .str k _ => k | _ => Str.empty
def GoodT (w : World) (e : Int × Value) : Prop := ∃ k tk, e.2 = Value.str k tk ∧ e.1 = hashStr w k
/-- the set at a holds the texts xs, each once, in some order -/
def TxtR (w : World) (h : Heap) (a : Addr) (xs : List Str) : Prop :=
  ∃ o es ep t, h.get? a = some o ∧ o.ExactSet ∧ o.data = .set es ep t ∧ (∀ e ∈ es.toList, GoodT w e) ∧ (es.toList.map txtOf).Perm xs ∧ xs.Nodup ∧
    xs.length < scanBound ∧ t.fits es.size = true ∧ Ris t.place.toList ∧ (w.params.followText "set-order" = true ∨ t.led = true)
section
variable {P : Program} {w : World} {h h' : Heap} {a : Addr} {xs : List Str}
theorem TxtR.at (R : TxtR w h a xs) (k : ∀ o, h.get? a = some o → h'.get? a = some o) : TxtR w h' a xs := by
  obtain ⟨o, es, ep, t, ho, r⟩ := R
  exact ⟨o, es, ep, t, k o ho, r⟩
theorem txt_elems {l : List (Int × Value)} (g : ∀ e ∈ l, GoodT w e) : ElemsOf (PySem.strKind P w) l := fun e he => by
  obtain ⟨k, tk, h1, h2⟩ := g e he
  exact ⟨⟨k, by rw [h1]; exact strKind_is _ _ k tk, h2⟩, by rw [h1] <;> rfl⟩
theorem txt_is {e : Int × Value} (g : GoodT w e) (k : Str) : (PySem.strKind P w).is k e.2 = true ↔ txtOf e = k := by
  obtain ⟨k0, tk, h1, _⟩ := g
  unfold txtOf
  rw [h1]
  constructor
  · intro q
    exact (PySem.strKind P w).inj (.str k0 tk) k0 k (strKind_is _ _ k0 tk) q
  · intro q
    rw [← q]
    exact strKind_is _ _ k0 tk
end
section
variable {P : Program} {w : World} {A : Around} {E : Value → Shared → Prop} {s : Shared} {a : Addr} {xs : List Str}
/-- found.add(k) -/
def txAdd (xs : List Str) (k : Str) : List Str := if k ∈ xs then xs else k :: xs
theorem txt_tail {g : Bool → Sem Unit} (hg : ∀ (b : Bool) (s₁ : Shared) (Q' : Unit → Shared → Prop), Q' () s₁ → wpAny (model P w) A (g b) Q' E s₁)
    {o : Obj} {es : Array (Int × Value)} {ep : Nat} {t : SetTable} (ho : s.heap.get? a = some o) (hex : o.ExactSet) (hd : o.data = .set es ep t)
    {es1 : Array (Int × Value)} {t2 : SetTable} {ys : List Str} (g1 : ∀ e ∈ es1.toList, GoodT w e) (p1 : (es1.toList.map txtOf).Perm ys) (nd1 : ys.Nodup)
    (hb1 : ys.length < scanBound) (hf2 : t2.fits es1.size = true) (hr : Ris t2.place.toList) (hl : w.params.followText "set-order" = true ∨ t2.led = true) {wasDummy : Bool} {R : Option Bool → Shared → Prop}
    (hR : ∀ h', Heap.SameBut a s.heap h' → TxtR w h' a ys → R (some true) { s with heap := h' }) :
    wpAny (model P w) A (do
        storeSet a es1 t2
        if (!wasDummy && t2.tooFull) = true then do
            g (relayAll t2 es1 (SetTable.grown es1.size)).2.2
            storeSet a (relayAll t2 es1 (SetTable.grown es1.size)).1 (relayAll t2 es1 (SetTable.grown es1.size)).2.1
            pure (some true)
          else pure (some true)) R E s := by
  have hsz1 : es1.size = ys.length := by rw [← p1.length_eq, List.length_map, Array.length_toList]
  have hb0 : es1.size < scanBound := by rw [hsz1]; exact hb1
  refine wpAny_bind (wpAny_storeSet_of ho hd ?_ (fits_of_scanBound hb0))
  have ho1 := store_at (es' := es1) (t' := t2) ho hd
  have sb1 := Heap.SameBut.update s.heap a (Obj.putSet es1 t2)
  split
  · have pm := relayAll_perm t2 es1 (SetTable.grown es1.size)
    have hf3 := relayAll_fits t2 es1 (SetTable.grown es1.size)
    have hr3 := relayAll_ris t2 es1 (SetTable.grown es1.size)
    have hl3 := relayAll_led t2 es1 (SetTable.grown es1.size)
    generalize relayAll t2 es1 (SetTable.grown es1.size) = Z at pm hf3 hr3 hl3 ⊢
    obtain ⟨es2, t3, gave⟩ := Z
    dsimp only at pm hf3 hr3 hl3 ⊢
    have hb2 : es2.size < scanBound := by
      have e : es2.size = es1.size := by rw [← Array.length_toList, pm.length_eq, Array.length_toList]
      rw [e]; exact hb0
    refine wpAny_bind (hg _ _ _ ?_)
    refine wpAny_bind (wpAny_storeSet_of ho1 rfl ?_ (fits_of_scanBound hb2))
    have ho2 := store_at (es' := es2) (t' := t3) ho1 rfl
    refine wpAny_pure (hR _ (sb1.trans (Heap.SameBut.update _ a _)) ?_)
    exact ⟨_, es2, _, t3, ho2, hex, rfl, fun e he => g1 e (pm.mem_iff.mp he), (pm.map txtOf).trans p1, nd1, hb1, hf3, hr3, hl.imp id fun z => by rw [hl3]; exact z⟩
  · exact wpAny_pure (hR _ sb1 ⟨_, es1, _, t2, ho1, hex, rfl, g1, p1, nd1, hb1, hf2, hr, hl⟩)
theorem txt_add {k : Str} {tk : Tok} {Q : Bool → Shared → Prop} (R : TxtR w s.heap a xs) (room : xs.length + 1 < scanBound)
    (hQ : ∀ h' b, Heap.SameBut a s.heap h' → TxtR w h' a (txAdd xs k) → Q b { s with heap := h' }) :
    wpAny (model P w) A (setAddHashed a (.str k tk) ((PySem.strKind P w).hash k)) Q E s := by
  obtain ⟨o, es, ep, t, ho, hex, hd, g, pm0, nd, hb, hf, hr, hl⟩ := R
  have hes : es.size = xs.length := by rw [← pm0.length_eq, List.length_map, Array.length_toList]
  have hb0 : es.size < scanBound := by rw [hes]; exact hb
  have hkey : (PySem.strKind P w).is k (.str k tk) = true := strKind_is _ _ k tk
  have hsc : (Value.str k tk).scannable = true := rfl
  have hel : ElemsOf (PySem.strKind P w) es.toList := txt_elems g
  unfold setAddHashed setAddHashedIn
  refine wpAny_holding (wpAny_bind (wpAny_setState_of ho hd hf ?_))
  dsimp only
  rw [byScan_of hsc hb0 hel]
  simp only [↓reduceIte]
  unfold setAddByScan
  refine wpAny_bind ?_
  refine wpAny_bind (wpAny_rule ?_)
  refine wpAny_bind (wpAny_setScan_of hkey ho hd hf hel ?_)
  cases hfi : List.findIdx? (fun e => (PySem.strKind P w).is k e.2) es.toList with
  | some j =>
    dsimp only
    obtain ⟨hj, pj, _⟩ := List.findIdx?_eq_some_iff_getElem.mp hfi
    have hm : k ∈ xs := pm0.mem_iff.mp (List.mem_map.mpr ⟨es.toList[j], List.getElem_mem hj, (txt_is (P := P) (g _ (List.getElem_mem hj)) k).1 pj⟩)
    refine wpAny_pure (wpAny_pure ?_)
    refine hQ s.heap _ (Heap.SameBut.refl a s.heap) ?_
    unfold txAdd
    rw [if_pos hm]
    exact ⟨o, es, ep, t, ho, hex, hd, g, pm0, nd, hb, hf, hr, hl⟩
  | none =>
    dsimp only
    have hnk : k ∉ xs := fun z => by
      obtain ⟨e, he, q⟩ := List.mem_map.mp (pm0.mem_iff.mpr z)
      have c := List.findIdx?_eq_none_iff.mp hfi e he
      rw [(txt_is (P := P) (g e he) k).2 q] at c
      cases c
    have ea : txAdd xs k = k :: xs := by unfold txAdd; rw [if_neg hnk]
    have hgw : ∀ (b : Bool) {s₁ : Shared} {Q' : Unit → Shared → Prop}, Q' () s₁ → wpAny (model P w) A (match b with | true => rule "set.scan.the-table-gave-way" | false => pure ()) Q' E s₁ :=
      fun b s₁ Q' q => by cases b <;> first | exact wpAny_pure q | exact wpAny_rule q
    have pm := layNew_perm t es ((PySem.strKind P w).hash k) (.str k tk)
    have hf1 := layNew_fits t es ((PySem.strKind P w).hash k) (.str k tk)
    have hr1 := layNew_ris t es ((PySem.strKind P w).hash k) (.str k tk) hr
    have hl1 := layNew_led t es ((PySem.strKind P w).hash k) (.str k tk)
    generalize layNew t es ((PySem.strKind P w).hash k) (.str k tk) = Z at pm hf1 hr1 hl1 ⊢
    obtain ⟨es1, t1, wasDummy, gave⟩ := Z
    dsimp only at pm hf1 hr1 hl1 ⊢
    rw [Array.toList_push] at pm
    have pc : es1.toList.Perm (((PySem.strKind P w).hash k, Value.str k tk) :: es.toList) := pm.trans (List.perm_append_singleton _ _)
    have pk : (es1.toList.map txtOf).Perm (k :: xs) := (pc.map txtOf).trans (pm0.cons k)
    have g1 : ∀ e ∈ es1.toList, GoodT w e := fun e he => by
      rcases List.mem_cons.mp (pc.mem_iff.mp he) with z | z
      · rw [z]; exact ⟨k, tk, rfl, rfl⟩
      · exact g e z
    have nd1 : (k :: xs).Nodup := List.nodup_cons.mpr ⟨hnk, nd⟩
    have hled : w.params.followText "set-order" = true ∨ t1.led = true := hl.imp id fun z => by rw [hl1]; exact z
    have fin : ∀ h', Heap.SameBut a s.heap h' → TxtR w h' a (k :: xs) → Q true { s with heap := h' } := fun h' sb r => hQ h' true sb (by rw [ea]; exact r)
    refine wpAny_bind (hgw _ ?_)
    split
    · refine wpAny_bind ?_
      rw [hashByValue_scannable 8 hsc]
      refine wpAny_pure ?_
      refine txt_tail ?_ ho hex hd g1 pk nd1 room ?_ ?_ ?_ ?_
      · intro b s₁ Q' q; cases b <;> first | exact wpAny_pure q | exact wpAny_rule q
      · first | (split <;> first | exact hf1 | exact SetTable.fits_plain_off hf1) | exact hf1
      · first | (split <;> exact hr1) | exact hr1
      · first | (split <;> exact hled) | exact hled
      · intro h' sb r; dsimp only; exact wpAny_pure (fin h' sb r)
    · refine wpAny_bind (wpAny_pure ?_)
      simp only [↓reduceIte]
      refine txt_tail ?_ ho hex hd g1 pk nd1 room hf1 hr1 hled ?_
      · intro b s₁ Q' q; cases b <;> first | exact wpAny_pure q | exact wpAny_rule q
      · intro h' sb r; dsimp only; exact wpAny_pure (fin h' sb r)
/-- the texts of xs, each once -/
def txAll (xs : List Str) : List Str := xs.foldl txAdd []
theorem txAll_snoc (xs : List Str) (k : Str) : txAll (xs ++ [k]) = txAdd (txAll xs) k := by
  unfold txAll
  rw [List.foldl_append] <;> rfl
theorem txAdd_len (xs : List Str) (k : Str) : (txAdd xs k).length ≤ xs.length + 1 := by
  unfold txAdd
  split <;> simp
theorem txFold_len : ∀ (xs acc : List Str), (xs.foldl txAdd acc).length ≤ acc.length + xs.length
  | [], acc => Nat.le_refl _
  | x :: xs, acc => by
    have h1 := txFold_len xs (txAdd acc x)
    have h2 := txAdd_len acc x
    rw [List.foldl_cons, List.length_cons]
    omega
theorem txAll_len (xs : List Str) : (txAll xs).length ≤ xs.length := by
  have h := txFold_len xs []
  rw [List.length_nil, Nat.zero_add] at h
  exact h
theorem txAdd_mem {xs : List Str} {k y : Str} : y ∈ txAdd xs k ↔ y = k ∨ y ∈ xs := by
  unfold txAdd
  split
  · rename_i h
    exact ⟨.inr, fun z => z.elim (fun e => e ▸ h) id⟩
  · exact List.mem_cons
theorem txFold_mem : ∀ (xs acc : List Str) (y : Str), y ∈ xs.foldl txAdd acc ↔ y ∈ acc ∨ y ∈ xs
  | [], acc, y => by simp
  | x :: xs, acc, y => by
    rw [List.foldl_cons, txFold_mem xs, txAdd_mem, List.mem_cons]
    constructor
    · rintro ((h | h) | h)
      · exact .inr (.inl h)
      · exact .inl h
      · exact .inr (.inr h)
    · rintro (h | h | h)
      · exact .inl (.inr h)
      · exact .inl (.inl h)
      · exact .inr h
theorem txAll_mem {xs : List Str} {y : Str} : y ∈ txAll xs ↔ y ∈ xs := by
  unfold txAll
  rw [txFold_mem]
  simp
theorem txAdd_nodup {xs : List Str} (h : xs.Nodup) (k : Str) : (txAdd xs k).Nodup := by
  unfold txAdd
  split
  · exact h
  · rename_i hn
    exact List.nodup_cons.mpr ⟨hn, h⟩
theorem txFold_nodup : ∀ (xs acc : List Str), acc.Nodup → (xs.foldl txAdd acc).Nodup
  | [], acc, h => h
  | x :: xs, acc, h => txFold_nodup xs _ (txAdd_nodup h x)
theorem txAll_nodup (xs : List Str) : (txAll xs).Nodup := txFold_nodup xs [] List.nodup_nil
theorem txt_fresh {h : Heap} (ho : h.get? a = some { cls := .type "set", dict := none, data := .set #[] 0 (.fresh 0 0 (!w.params.followText "set-order")) }) : TxtR w h a [] :=
  ⟨_, #[], 0, _, ho, ⟨rfl, rfl, rfl⟩, rfl, (fun e he => by simp at he), List.Perm.nil, List.nodup_nil, (by decide), (by rfl), List.Pairwise.nil, by
    show _ ∨ (!w.params.followText "set-order") = true
    cases w.params.followText "set-order"
    · exact .inr rfl
    · exact .inl rfl⟩
theorem txt_loop {I : Addr} {fp wr : List Addr} {G : Array GenState → Array GenState → Prop} {n : Nat} {Pv : Nat → Value → Prop} {St : Nat → Shared → Prop} {R : Result → Shared → Prop}
    (W : WalksS P w A.in1 I fp wr G n Pv St) (S : Addr) (hSf : S ∉ fp) (ns : List Str) (hn : n = ns.length) (hb : ns.length + 1 < scanBound) (hval : ∀ i v, Pv i v → ∃ k t, ns[i]? = some k ∧ v = .str k t) :
    ∀ (k i : Nat) (s : Shared), n - i = k → i ≤ n → St i s → TxtR w s.heap S (txAll (ns.take i)) →
      (∀ s', Moved (S :: wr) G s s' → TxtR w s'.heap S (txAll ns) → R (.ok (.ret .none)) s') →
      codeAny (model P w) A (.builtin "set.update.loop" ⟨[.ref S, .ref I], []⟩) R s := by
  have hSw : S ∉ wr := fun h => hSf (W.sub _ h)
  have hsub : ∀ b ∈ wr, b ∈ S :: wr := fun b hb => List.mem_cons_of_mem _ hb
  intro k
  induction k with
  | zero =>
    intro i s hk' hi hst hS hR
    have hin : i = n := by omega
    subst hin
    refine codeAny_builtin F.entry_set_update_loop ?_
    rw [Around.under_plainId F.plain_set_update_loop _]
    show wpAny _ A.in1 (pyNext (.ref I) >>= _) _ _ s
    refine wpAny_bind (W.done s _ _ hst fun s' hm => ?_)
    show wpAny _ A.in1 (ret Value.none) _ _ s'
    have e : ns.take i = ns := List.take_of_length_le (by omega)
    rw [e] at hS
    exact wpAny_pure (hR s' (hm.mono hsub) (hS.at fun o e => hm.heap S o hSw e))
  | succ k ih =>
    intro i s hk' hi hst hS hR
    have hlt : i < n := by omega
    refine codeAny_builtin F.entry_set_update_loop ?_
    rw [Around.under_plainId F.plain_set_update_loop _]
    show wpAny _ A.in1 (pyNext (.ref I) >>= _) _ _ s
    refine wpAny_bind (W.item i s _ _ hlt hst fun v s' hP hst' hm => ?_)
    obtain ⟨z, t, hz, rfl⟩ := hval i v hP
    have hS' : TxtR w s'.heap S (txAll (ns.take i)) := hS.at fun o e => hm.heap S o hSw e
    show wpAny _ A.in1 (holding [Value.str z t] (setAdd S (.str z t)) >>= _) _ _ s'
    refine wpAny_bind (wpAny_holding ?_)
    unfold setAdd
    refine wpAny_holding ?_
    refine wpAny_bind ((PySem.strKind P w).pyHash (k := z) (strKind_is _ _ z t) ?_)
    have hroom : (txAll (ns.take i)).length + 1 < scanBound := by
      have h1 := txAll_len (ns.take i)
      have h2 : (ns.take i).length ≤ ns.length := by rw [List.length_take]; omega
      omega
    refine txt_add (s := { s' with toks := s'.toks + 1 }) hS' hroom fun h' bb hsb hS2 => ?_
    have hS3 : TxtR w h' S (txAll (ns.take (i + 1))) := by
      have e : ns.take (i + 1) = ns.take i ++ [z] := by rw [List.take_add_one, hz] <;> rfl
      rw [e, txAll_snoc]
      exact hS2
    refine wpAny_pure ⟨plainId_quiet F.plain_set_update_loop _, ih (i + 1) _ (by omega) hlt (W.frame _ s' _ _ hst' (Nat.le_succ _) fun b hb o e => ?_) hS3 fun s'' hm'' hS'' => ?_⟩
    · rw [hsb.2 b (fun h : b = S => hSf (by rw [← h]; exact hb))]; exact e
    · refine hR s'' (Moved.trans W.gtrans ((hm.mono hsub).then_heap (Nat.le_succ _) fun b o hb e => ?_) hm'') hS''
      rw [hsb.2 b (fun h : b = S => hb (by rw [h]; exact List.mem_cons_self))]; exact e
set_option maxRecDepth 100000 in
set_option maxHeartbeats 3200000 in
theorem txt_set {l : Addr} {items : Array Value} (ns : List Str) {Q : Value → Shared → Prop} (hh : A.handled = none) (hl : s.heap.IsList l items) (hit : StrsAre items.toList ns) (hb : ns.length + 1 < scanBound)
    (h : ∀ (h' : Heap) (tk : Nat), TxtR w h' s.heap.objs.size (txAll ns) → (∀ b o, s.heap.get? b = some o → h'.get? b = some o) → Q (.ref s.heap.objs.size) { s with heap := h', toks := tk }) :
    wpAny (model P w) A (call (.type "set") [.ref l]) Q E s := by
  have hisz : items.size = ns.length := by
    have q := StrsAre.length hit
    rw [Array.length_toList] at q
    exact q
  obtain ⟨c, tl, hmro⟩ := F.called_set.mro
  have hmade := F.called_set.made
  have hsub := F.called_set.sub
  refine wpAny_call (codeAny_of_tree ?_)
  show wpAny _ _ (callAny (.type "set") _) _ _ _
  refine wpAny_pure ⟨Code.quiet_builtin _ (by decide +kernel), codeAny_builtin F.entry_type_call ?_⟩
  rw [Around.under_plain (weight_type_call_type "set" [.ref l] []) rfl]
  have h1 := F.called_set.notType
  have h2 := F.called_set.canCreate
  have hct := F.typeCall_set_1 (.ref l)
  repeat (any_goals (first | assumption | wp_step))

  refine codeAny_mono (code_set_led1 (.ref l) (E := E) (Q₁ := fun obj s₁ => obj = .ref s.heap.objs.size ∧ s₁ = { s with heap := s.heap.push { cls := .type "set", dict := none, data := .set #[] 0 (.fresh 0 0 (!w.params.followText "set-order")) } }) ⟨rfl, rfl⟩) fun r s₁ hr => ?_
  cases r with
  | error e => exact hr
  | ok fl =>
    cases fl with
    | ret obj =>
      obtain ⟨rfl, rfl⟩ := hr
      have hS : (s.heap.push { cls := .type "set", dict := none, data := .set #[] 0 (.fresh 0 0 (!w.params.followText "set-order")) }).get? s.heap.objs.size = some { cls := .type "set", dict := none, data := .set #[] 0 (.fresh 0 0 (!w.params.followText "set-order")) } := Heap.get?_push_size _ rfl
      have hT : Shared.TypeIs { s with heap := s.heap.push { cls := .type "set", dict := none, data := .set #[] 0 (.fresh 0 0 (!w.params.followText "set-order")) } } (.ref s.heap.objs.size) "set" := ⟨_, hS, rfl⟩
      have hli := F.called_set.init.lookup
      have hbi := F.called_set.init.bind (.ref s.heap.objs.size)
      repeat (any_goals (first | assumption | wp_step))

      refine codeAny_mono (codeAny_call_builtin (R := wants (fun r s₂ => r = .none ∧ ∃ h' tk, s₂ = { s with heap := h', toks := tk } ∧ TxtR w h' s.heap.objs.size (txAll ns) ∧
          (∀ b o, s.heap.get? b = some o → h'.get? b = some o)) E) F.called_set.init.plain F.entry_set_init (check_set_init_1 hT ?_)) fun r₂ s₂ hr₂ => ?_
      · obtain ⟨ol, hol, hcl, nl, hdl⟩ := hl
        obtain ⟨ocls, odict, odata, oslots⟩ := ol
        simp only at hcl hdl
        subst hcl; subst hdl
        have hol' : (s.heap.push { cls := .type "set", dict := none, data := .set #[] 0 (.fresh 0 0 (!w.params.followText "set-order")) }).get? l = some { cls := .type "list", dict := odict, data := .seq items nl, slots := oslots } := Heap.get?_push_of_some _ hol
        have hsls := F.sub_list_set
        have hslf := F.sub_list_frozenset
        have hne : (Value.type "list" == Value.type "dict") = false := by decide
        have hl1 : (s.heap.push { cls := .type "set", dict := none, data := .set #[] 0 (.fresh 0 0 (!w.params.followText "set-order")) }).IsList l items := ⟨_, hol', rfl, nl, rfl⟩
        unfold Builtin.«set.__init__» noKeywords Builtin.Frozenset.updateFrom
        generalize hPI : pyIter = PI
        wp_walk
        subst hPI

        refine wpAny_pyIter_list hl1 ?_
        refine wpAny_bind (wpAny_runValue ?_)
        have hlS : l < s.heap.objs.size := Heap.lt_size hol
        have hh3 : A.in1.in1.in1.handled = none := by simp [hh]
        have hneI : l ≠ (s.heap.push { cls := .type "set", dict := none, data := .set #[] 0 (.fresh 0 0 (!w.params.followText "set-order")) }).objs.size := by
          rw [Heap.size_push]; exact Nat.ne_of_lt (Nat.lt_succ_of_lt hlS)
        have hSf : s.heap.objs.size ∉ [(s.heap.push { cls := .type "set", dict := none, data := .set #[] 0 (.fresh 0 0 (!w.params.followText "set-order")) }).objs.size, l] := by
          rw [Heap.size_push]; simp only [List.mem_cons, List.mem_singleton, List.not_mem_nil, or_false, not_or]
          exact ⟨Nat.ne_of_lt (Nat.lt_succ_self _), Nat.ne_of_gt hlS⟩
        have hval : ∀ (i : Nat) (v : Value), items[i]? = some v → ∃ k t, ns[i]? = some k ∧ v = .str k t := fun i v hv => by
          have hi : i < ns.length := by rw [← hisz]; exact (Array.getElem?_eq_some_iff.mp hv).1
          obtain ⟨t, e⟩ := SS.strs_at hit i v (by rw [Array.getElem?_toList]; exact hv)
          refine ⟨ns[i], t, List.getElem?_eq_getElem hi, ?_⟩
          rw [e, List.getD_eq_getElem?_getD, List.getElem?_eq_getElem hi] <;> rfl
        refine txt_loop ((Walks.list hh3 _ l hneI items).toS) s.heap.objs.size
          hSf ns hisz hb hval (items.size - 0) 0 _ (by omega) (Nat.zero_le _)
          ⟨⟨_, Heap.get?_push_size _ rfl, rfl, rfl⟩, (hl1.push _)⟩ ?hS0 ?hR
        case hS0 =>
          have hget : ((s.heap.push { cls := .type "set", dict := none, data := .set #[] 0 (.fresh 0 0 (!w.params.followText "set-order")) }).push { cls := .type "list_iterator", data := .fields #[.ref l, .int 0 0] }).get? s.heap.objs.size
              = some { cls := .type "set", dict := none, data := .set #[] 0 (.fresh 0 0 (!w.params.followText "set-order")) } := Heap.get?_push_of_some _ hS
          exact txt_fresh hget
        case hR =>
          intro s' hm hS'
          obtain ⟨h', g2, d', tk', os'⟩ := s'
          have eg : g2 = s.gens := hm.gens
          have ed : d' = s.drawn := hm.drawn
          have eo : os' = s.os := hm.os
          subst eg; subst ed; subst eo
          show wpAny _ _ _ _ _ _
          refine wpAny_pure ?_
          show wpAny _ _ (ret Value.none) _ _ _
          refine wpAny_pure ⟨rfl, h', tk', rfl, hS', fun b o e => ?_⟩
          have hb0 : b < s.heap.objs.size := Heap.lt_size e
          have hb1 : b ≠ s.heap.objs.size := Nat.ne_of_lt hb0
          have hb2 : b ≠ (s.heap.push { cls := .type "set", dict := none, data := .set #[] 0 (.fresh 0 0 (!w.params.followText "set-order")) }).objs.size := by
            rw [Heap.size_push]; exact Nat.ne_of_lt (Nat.lt_succ_of_lt hb0)
          exact hm.heap b o (by simp only [List.mem_cons, List.mem_singleton, List.not_mem_nil, or_false, not_or]; exact ⟨hb1, hb2⟩) (Heap.get?_push_of_some _ (Heap.get?_push_of_some _ e))
      · cases r₂ with
        | error e => exact hr₂
        | ok fl₂ =>
          cases fl₂ with
          | ret r =>
            obtain ⟨rfl, h', tk, rfl, hS', hk'⟩ := hr₂
            repeat (any_goals (first | assumption | wp_step))
            exact h _ _ hS' hk'
          | _ => exact hr₂.elim
    | _ => exact hr.elim
theorem strs_of_good : ∀ {vs : List Value}, (∀ v ∈ vs, ∃ k t, v = Value.str k t) → StrsAre vs (vs.map fun v => txtOf (0, v))
  | [], _ => .nil
  | v :: vs, h => by
    obtain ⟨k, t, e⟩ := h v List.mem_cons_self
    subst e
    exact .cons k t (strs_of_good fun v hv => h v (List.mem_cons_of_mem _ hv))
theorem txt_sorted {Q : Value → Shared → Prop} (R : TxtR w s.heap a xs) (hh : A.handled = none) (h64 : xs.length < 64)
    (hQ : ∀ s' p (out : Array Value) (c : Nat) (ns : List Str), (∀ b o, s.heap.get? b = some o → s'.heap.get? b = some o) → s'.gens = s.gens → s'.os = s.os → s.heap.objs.size ≤ p →
      s'.heap.get? p = some (seqObj "list" out c) → StrsAre out.toList ns → ns.Perm xs → sortedS ns = true → Q (.ref p) s') :
    wpAny (model P w) A (call (.builtin "sorted") [.ref a]) Q E s := by
  obtain ⟨o, es, ep, t, ho, hex, hd, g, pm0, nd, hb, hf, hr, hl⟩ := R
  have hes : es.size = xs.length := by rw [← pm0.length_eq, List.length_map, Array.length_toList]
  have hb0 : es.size < scanBound := by rw [hes]; exact hb
  refine Calls.call_function_entry kind_sorted plain_sorted entry_sorted (args_sorted1 _) ?_
  unfold Builtin.«sorted»
  refine wpAny_bind (m := checkCount "sorted" 1 1 _) (wpAny_pure ?_)
  refine wpAny_bind (collect_set (A := A.in1) hh ⟨o, ho, hex.1, hd⟩ hf hb0 hr hl fun s1 vs k1 hz g1 o1 pm => ?_)
  have hvl : vs.length < 64 := by rw [pm.length_eq, List.length_map, Array.length_toList, hes]; exact h64
  have hI : StrsAre vs (vs.map fun v => txtOf (0, v)) := strs_of_good fun v hv => by
    obtain ⟨e, he, q⟩ := List.mem_map.mp (pm.mem_iff.mp hv)
    obtain ⟨k, tk, h1, _⟩ := g e he
    exact ⟨k, tk, by rw [← q]; exact h1⟩
  have pk : (vs.map fun v => txtOf (0, v)).Perm xs := by
    have q := pm.map fun v => txtOf (0, v)
    rw [List.map_map] at q
    exact q.trans pm0
  refine wpAny_bind (wpAny_newList ?_ (by rw [sizeLine_eq]; omega))
  have hoL : (s1.heap.push (seqObj "list" vs.toArray 0)).get? s1.heap.objs.size = some (seqObj "list" vs.toArray 0) := Heap.get?_push_size _ rfl
  refine wpAny_bind (wpAny_holding (wpAny_call_entry slot_list_sort ⟨_, hoL, rfl⟩ entry_list_sort (list_sort_treeK strKind_oneLt hoL hI.keysOf (fun v₁ v₂ rest e => keyKind_strs (by rw [← e]; exact hI)) hvl fun st' hp hs => ?_) (args_list_sort _)))
  obtain ⟨ns', a1, a2, a3⟩ := sorted_out_str hI hp hs
  obtain ⟨c, hc⟩ := sortedHeap_at (vs := vs) (out := (arrOf st').map (·.2)) hoL
  refine ⟨_, rfl, wpAny_pure ⟨_, rfl, hQ _ s1.heap.objs.size ((arrOf st').map (·.2)) c ns' (fun b u e => ?_) g1 o1 hz hc a1 (a2.trans pk) a3⟩⟩
  have q := k1 b u e
  have hlt := Heap.lt_size q
  show (sortedHeap (s1.heap.push (seqObj "list" vs.toArray 0)) s1.heap.objs.size vs ((arrOf st').map (·.2))).get? b = some u
  rw [sortedHeap_old (Nat.ne_of_lt hlt) (by rw [size_push']; exact Nat.lt_succ_of_lt hlt)]
  exact Heap.get?_push_of_some _ q
end
/-- the set of texts at a, as an object of the readings -/
def TxtO (w : World) (a : Addr) (xs : List Str) : HO := .ext fun h => TxtR w h a xs
section
variable {X : Cx}
theorem txtO_new {w : World} {P : Program} {H : Hp} {h : Heap} {a : Addr} {xs : List Str} (R : TxtR w h a xs) : ObjOk P w H h a (TxtO w a xs) := by
  have ⟨o, _, _, _, ho, _⟩ := R
  exact ⟨R, ⟨o, ho⟩, fun h1 h2 p k => TxtR.at p k⟩
theorem txtO_get {pins : List (Addr × Obj)} {σ : St} {H : Hp} {s : Shared} {a : Addr} {xs : List Str} (I : Inv X pins σ H s) (ha : H a = some (TxtO X.w a xs)) : TxtR X.w s.heap a xs := (I.hok a _ ha).1
/-- set(xs), xs a list of texts -/
def rSetOfS (K : PySem.W.Frag) (w : World) : List V → Hp → VK → Prop := fun vs H Q => ∃ (l : Addr) (xs : List Str), vs = [V.ref l] ∧ SqL K H l (xs.map V.str) ∧ xs.length < 1000 ∧
  ∀ a, H a = none → Q (.ref a) (upd H a (TxtO w a (txAll xs)))
theorem cr_setOfS (hc : X.calm = true) : CallR X (.type "set") (rSetOfS X.K X.w) := by
  intro pins s σ H vs us Q I r h
  obtain ⟨l, xs, rfl, hl, hf, q⟩ := h
  rw [Vals.ref1 r]
  obtain ⟨its, rv, pl, hz⟩ := I.list hl
  have hn : H s.heap.objs.size = none := I.hok.fresh (Nat.le_refl _)
  refine txt_set (P := X.prog) (w := X.w) xs (I.ok.hd hc) pl.isList (by simpa using strsAre_of rv) (by unfold scanBound; omega) fun h' tk R k => ?_
  exact ⟨.ref s.heap.objs.size, upd H s.heap.objs.size (TxtO X.w s.heap.objs.size (txAll xs)), I.laid (t' := tk) k (Nat.le_refl _) (txtO_new R), rfl, q _ hn⟩
/-- sorted(set), fewer than 64 texts -/
def rSortedSetS (w : World) : List V → Hp → VK → Prop := fun vs H Q => ∃ (a : Addr) (xs : List Str), vs = [V.ref a] ∧ H a = some (TxtO w a xs) ∧ xs.length < 64 ∧
  ∀ (ns : List Str) (p : Addr), ns.Perm xs → sortedS ns = true → H p = none → Q (.ref p) (upd H p (.lst (ns.map V.str)))
theorem cr_sortedSetS (hc : X.calm = true) : CallR X (.builtin "sorted") (rSortedSetS X.w) := by
  intro pins s σ H vs us Q I r h
  obtain ⟨a, xs, rfl, ha, h64, q⟩ := h
  have R := txtO_get I ha
  rw [Vals.ref1 r]
  refine txt_sorted R (I.ok.hd hc) h64 fun s' p out c ns k g o hp hg hi hm hs => ?_
  have hlen : (ns.map V.str).length ≤ sizeLine := by rw [List.length_map, hm.length_eq, sizeLine_eq]; omega
  have hn : H p = none := I.hok.fresh hp
  have J : Inv X pins σ (upd H p (.lst (ns.map V.str))) { s with heap := s'.heap, gens := s'.gens, drawn := s'.drawn, toks := s'.toks } :=
    I.call (ch := []) (Un.laid k hp hn) (I.hok.laid k hp ⟨hlen, out.toList, c, vals_of_strs hi, hg⟩) (by rw [g]; exact I.bare) (fun _ z => nomatch z)
  have e : s' = { s with heap := s'.heap, gens := s'.gens, drawn := s'.drawn, toks := s'.toks } := by
    cases s'
    cases s
    cases o
    rfl
  rw [e]
  exact ⟨.ref p, _, J, rfl, q ns p hm hs hn⟩
end
end L2

/-! {**a, **b}: two dicts, their keys texts or ints -/
namespace L2
open PySem PySem.Spec PyProof.Rows
section
variable {P : Program} {w : World} {A : Around} {E : Value → Shared → Prop} {s : Shared}
theorem dm_put {d : Addr} {kvs : List (Key × Value)} {k : Key} {key v : Value} {Q : Unit → Shared → Prop} (hkey : (mixKind P w).is k key = true) (hm : s.heap.DictOf (mixKind P w) d kvs)
    (hQ : ∀ h', h'.DictOf (mixKind P w) d (stored kvs k v) → Heap.SameBut d s.heap h' → Q () { s with heap := h' })
    (hsz : kvs.length ≤ sizeLine) :
    wpAny (model P w) A (dictPut d ((mixKind P w).hash k) key v) Q E s := by
  obtain ⟨o, es, ep, ho, hc, hd, hk, hp, hn⟩ := hm
  have hes : es.size ≤ sizeLine := by
    have e1 := hp.length
    have e2 : es.toList.length = es.size := by simp
    omega
  unfold dictPut
  refine wpAny_bind (wpAny_dictFind_of hkey ho hd hk ?_)
  have hidx : (es.findIdx? fun e => (mixKind P w).is k e.key) = kvs.findIdx? fun kv => decide (kv.1 = k) := by
    rw [← hp.findIdx k]; obtain ⟨l⟩ := es; simp
  cases hi : es.findIdx? fun e => (mixKind P w).is k e.key with
  | some i =>
    refine wpAny_updateDict ho hd (hQ _ ⟨_, _, ep, Heap.get?_update_self _ ho (Obj.isFreed_of_dict (Obj.data_mapDict hd _)),
      hc.mapDict _, Obj.data_mapDict hd _, hk.modify _ _, ?_, ?_⟩ (Heap.SameBut.update ..))
    · rw [stored, if_pos (any_of_findIdx_some (hidx ▸ hi))]
      have hl : (es.toList.findIdx? fun e => (mixKind P w).is k e.key) = some i := by rw [← hi]; obtain ⟨l⟩ := es; simp
      have := hp.modify hn hl v
      obtain ⟨l⟩ := es
      simpa using this
    · rw [stored, if_pos (any_of_findIdx_some (hidx ▸ hi)), keys_map_store]; exact hn
  | none =>
    have hnot : k ∉ kvs.map (·.1) := not_mem_of_findIdx_none (hidx ▸ hi)
    have hany : ¬ (kvs.any fun kv => decide (kv.1 = k)) = true := by
      rw [List.any_eq_true]; rintro ⟨kv, hkv, he⟩
      exact hnot (List.mem_map.mpr ⟨kv, hkv, of_decide_eq_true he⟩)
    refine wpAny_updateDictKeys (hz := hes) ho hd (hQ _ ⟨_, _, ep + 1, Heap.get?_update_self _ ho (Obj.isFreed_of_dict (Obj.data_mapDictKeys hd _)),
      hc.mapDictKeys _, Obj.data_mapDictKeys hd _, hk.push hkey _, ?_, ?_⟩ (Heap.SameBut.update ..))
    · rw [stored, if_neg hany]
      have := hp.append hkey ((mixKind P w).hash k) v
      obtain ⟨l⟩ := es
      simpa using this
    · rw [stored, if_neg hany, List.map_append, List.nodup_append]
      refine ⟨hn, by simp, ?_⟩
      intro a ha b hb
      simp only [List.map_cons, List.map_nil, List.mem_singleton] at hb
      subst hb
      exact fun e => hnot (e ▸ ha)
theorem mix_noref {k : Key} {b : Addr} (h : (mixKind P w).is k (.ref b) = true) : False := by
  cases k <;> exact absurd h (by show ¬ false = true; decide)
theorem dm_merge {d o : Addr} {kvs more : List (Key × Value)} {Q : Unit → Shared → Prop} (hdo : d ≠ o) (hoS : (o == sysModules) = false)
    (hd : s.heap.DictOf (mixKind P w) d kvs) (ho : s.heap.DictOf (mixKind P w) o more)
    (hQ : ∀ h', h'.DictOf (mixKind P w) d (merged kvs more) → Heap.SameBut d s.heap h' → Q () { s with heap := h' })
    (hsz : kvs.length + more.length ≤ sizeLine) :
    wpAny (model P w) A (mergeMapping d (.ref o) false) Q E s := by
  obtain ⟨od, esd, epd, hod, hcd, hdd, hkd, hpd, hnd⟩ := id hd
  obtain ⟨oo, eso, epo, hoo, hco, hdo', hko, hpo, hno⟩ := id ho
  have hlen : more.length = eso.size := by rw [← hpo.length]; simp
  have hT : s.TypeIs (.ref o) "dict" := ho.typeIs
  unfold mergeMapping
  refine wpAny_bind (wpAny_isInstance (b := true) hT F.sub_dict_dict ?_)
  dsimp only
  rw [if_pos rfl]
  refine wpAny_bind (wpAny_specialOf hT F.slot_dict_iter.lookup ?_)
  rw [show (some (Value.builtin "dict.__iter__") == some (Value.builtin "dict.__iter__")) = true from by decide]
  refine wpAny_bind (wpAny_pure ?_)
  dsimp only
  rw [hoS]
  have loop : wpAny (model P w) A (do
      let l ← dictEntries o
      let epoch ← dictEpoch o
      forIn (List.range l.size) PUnit.unit fun i (_ : PUnit) => (do
          let l' ← dictEntries o
          match l'[i]? with
            | some e => do
              holding [e.key, e.val]
                (if false = true then do
                  let f ← dictFind d e.key e.hash
                  if f.isSome = true then do
                      rule "dict.merge.duplicate-key"
                      let x ← newExc (.type "KeyError") [e.key]
                      let r ← raiseNew x
                      (fun (_ : PUnit) => dictPut d e.hash e.key e.val) r
                    else dictPut d e.hash e.key e.val
                else dictPut d e.hash e.key e.val)
              let ep' ← dictEpoch o
              if (ep' != epoch) = true then do
                  (unsupported "dict.changed-during-merge" : Sem PUnit)
                  pure (ForInStep.yield PUnit.unit)
                else pure (ForInStep.yield PUnit.unit)
            | _ => do
              (unsupported "dict.changed-during-merge" : Sem PUnit)
              pure (ForInStep.yield PUnit.unit) : Sem (ForInStep PUnit))
      pure ()) Q E s := by
    refine wpAny_bind (wpAny_dictEntries hoo hdo' ?_)
    refine wpAny_bind (wpAny_dictEpoch hoo hdo' ?_)
    refine wpAny_bind ?_
    rw [List.range_eq_range']
    refine wpAny_forIn_list _
      (fun rest _ s' => ∃ h' i, s' = { s with heap := h' } ∧ rest = List.range' i (eso.size - i) ∧ i ≤ eso.size ∧ h'.DictOf (mixKind P w) d (merged kvs (more.take i)) ∧ h'.get? o = some oo ∧ Heap.SameBut d s.heap h')
      _ ?_ ?_ _ _ ⟨s.heap, 0, rfl, by simp, Nat.zero_le _, by simpa [merged] using hd, hoo, Heap.SameBut.refl _ _⟩
    · rintro x rest b s' ⟨h', i, rfl, hr, hi, hd', hoo', hs'⟩
      have hlt : i < eso.size := by
        rcases Nat.lt_or_ge i eso.size with h | h
        · exact h
        · rw [Nat.sub_eq_zero_of_le h] at hr; simp at hr
      obtain ⟨rfl, hrest⟩ : x = i ∧ rest = List.range' (i + 1) (eso.size - (i + 1)) := by
        have e : eso.size - i = (eso.size - (i + 1)) + 1 := by omega
        rw [e, List.range'_succ] at hr
        injection hr with h1 h2
        exact ⟨h1, h2⟩
      refine wpAny_bind (wpAny_dictEntries hoo' hdo' ?_)
      rw [Array.getElem?_eq_getElem hlt]
      obtain ⟨kv, hkv⟩ : ∃ kv, more[x]? = some kv := ⟨more[x]'(by rw [hlen]; exact hlt), List.getElem?_eq_getElem _⟩
      obtain ⟨k, v⟩ := kv
      obtain ⟨hkey, hval⟩ := hpo.get? (e := eso[x]) (by simp [hlt]) hkv
      obtain ⟨k', hkey', hhash⟩ := hko eso[x] (Array.getElem_mem hlt)
      obtain rfl : k' = k := (mixKind P w).inj _ _ _ hkey' hkey
      dsimp only
      rw [hhash, hval]
      have hmx : (merged kvs (more.take x)).length ≤ sizeLine := by
        have e1 := merged_length_le kvs (more.take x)
        have e2 : (more.take x).length ≤ more.length := by rw [List.length_take]; omega
        omega
      refine wpAny_bind (wpAny_holding ?_)
      rw [if_neg (by decide)]
      refine dm_put hkey hd' (fun h'' hd'' hs'' => ?_) hmx
      have hoo'' : h''.get? o = some oo := (hs''.2 o (Ne.symm hdo)).trans hoo'
      refine wpAny_bind (wpAny_dictEpoch hoo'' hdo' ?_)
      rw [if_neg (by simp)]
      exact wpAny_pure ⟨h'', x + 1, rfl, hrest, hlt, by rw [merged_take_succ kvs more x (k', v) hkv]; exact hd'', hoo'', hs'.trans hs''⟩
    · rintro b s' ⟨h', i, rfl, hr, hi, hd', hoo', hs'⟩
      have hin : i = eso.size := by
        rcases Nat.lt_or_ge i eso.size with h | h
        · have e : eso.size - i = (eso.size - (i + 1)) + 1 := by omega
          rw [e, List.range'_succ] at hr; exact nomatch hr
        · exact Nat.le_antisymm hi h
      rw [hin, ← hlen, List.take_length] at hd'
      exact wpAny_pure (hQ h' hd' hs')
  rw [if_neg (show ¬ (false = true) from by decide)]
  refine wpAny_bind (wpAny_dictEntries hod hdd ?_)
  split
  · refine wpAny_bind (wpAny_dictEntries hoo hdo' ?_)
    refine wpAny_bind ?_
    rw [← Array.forIn_toList]
    refine wpAny_forIn_list _ (fun rest _ s' => s' = s ∧ ∀ e ∈ rest, e ∈ eso.toList) _ ?_ ?_ _ _ ⟨rfl, fun e he => he⟩
    · rintro e rest b s' ⟨rfl, hall⟩
      obtain ⟨k', hkey', hhash⟩ := hko e (by simpa using hall e List.mem_cons_self)
      obtain ⟨eh, ek, ev⟩ := e
      cases ek with
      | ref b => exact (mix_noref hkey').elim
      | _ => exact wpAny_pure ⟨rfl, fun e he => hall e (List.mem_cons_of_mem _ he)⟩
    · rintro b s' ⟨rfl, _⟩
      exact loop
  · exact loop
end
/-- the table ks, and ls put over it -/
def ovK (ks ls : List (Key × V)) : List (Key × V) := ls.foldl (fun acc p => putK acc p.1 p.2) ks
theorem KV.over {ls : List (Key × V)} {us : List (Key × Value)} (r : KV ls us) : ∀ {ks : List (Key × V)} {vs : List (Key × Value)}, KV ks vs → KV (ovK ks ls) (merged vs us) := by
  unfold KV at r
  induction r with
  | nil => intro ks vs q; exact q
  | @cons p q ps qs h t ih =>
    intro ks vs r0
    obtain ⟨h1, h2⟩ := h
    have r1 := r0.put p.1 h2
    have e : merged vs (q :: qs) = merged (stored vs p.1 q.2) qs := by rw [h1] <;> rfl
    rw [e]
    exact ih r1
section
variable {X : Cx}
/-- {**a, **b}: D the new dict -/
def tDMerge (ta tb : TE) : TE := fun σ H Q => ∀ D, H D = none → ta σ (upd H D (.dK [])) fun x H1 => ∃ a ks, x = .ref a ∧ a ≠ D ∧ H1 a = some (.dK ks) ∧ H1 D = some (.dK []) ∧
  tb σ (upd H1 D (.dK (ovK [] ks))) fun y H2 => ∃ b ls k0, y = .ref b ∧ b ≠ D ∧ H2 b = some (.dK ls) ∧ H2 D = some (.dK k0) ∧ k0.length + ls.length ≤ sizeLine ∧ Q (.ref D) (upd H2 D (.dK (ovK k0 ls)))
theorem dm_step {pins : List (Addr × Obj)} {σ : St} {H : Hp} {s : Shared} {D a : Addr} {k0 ks : List (Key × V)} {A : Around} {E : Value → Shared → Prop} {Q : Unit → Shared → Prop} (I : Inv X pins σ H s) (hne : a ≠ D) (ha : H a = some (.dK ks)) (hD : H D = some (.dK k0))
    (hz : k0.length + ks.length ≤ sizeLine) (h : ∀ s', Inv X pins σ (upd H D (.dK (ovK k0 ks))) s' → Q () s') : wpAny (model X.prog X.w) A (mergeMapping D (.ref a) false) Q E s := by
  obtain ⟨_, hda, us, ru, da⟩ := dk_of I.hok ha
  obtain ⟨_, hdD, vs, rv, dD⟩ := dk_of I.hok hD
  refine dm_merge (Ne.symm hne) hda dD da (fun h' dd' hs => h _ ?_) (by rw [← ru.length, ← rv.length]; exact hz)
  have he : ∃ q, h'.get? D = some q := let ⟨q, _, _, hq, _⟩ := dd'; ⟨q, hq⟩
  have rel := ru.over rv
  have hl : (ovK k0 ks).length ≤ sizeLine := by
    have e1 := rel.length
    have e2 := merged_length_le vs us
    have e3 := ru.length
    have e4 := rv.length
    omega
  exact d_write (t' := s.toks) I (by rw [hD]; exact True.intro) hs he (dk_new hl hdD rel dd')
theorem pe_dmerge {ea eb : Expr} {ta tb : TE} {pos : Pos} (ha : PE X ea ta) (hb : PE X eb tb) : PE X (.Dict [none, none] [ea, eb] pos) (tDMerge ta tb) := by
  refine ⟨fun pins s σ H Q I h => ?_⟩
  rw [arm_eval_Dict]
  refine wpAny_bind (wpAny_standAt ?_)
  show wpAny _ _ (dictDisplay [(none, do let x ← eval ea X.env; standAt pos; pure x), (none, do let x ← eval eb X.env; standAt pos; pure x)]) _ _ _
  unfold dictDisplay
  simp only [List.forIn_cons, List.forIn_nil, List.isEmpty_nil]
  refine wpAny_bind (wpAny_bind (wpAny_bind ?_))
  rw [if_pos True.intro]
  refine wpAny_pure ?_
  dsimp only
  refine wpAny_bind (wpAny_alloc ?_)
  generalize hD : s.heap.objs.size = D
  have hDn : H D = none := I.hok.fresh (Nat.le_of_eq hD)
  have I0 : Inv X pins σ (upd H D (.dK [])) { s with heap := s.heap.push { cls := .type "dict", data := .dict #[] } } := by
    refine I.laid (t' := s.toks) (fun b o e => Heap.get?_push_of_some _ e) (Nat.le_of_eq hD) ?_
    rw [← hD]
    exact dk_empty s.heap I.big
  refine wpAny_bind (wpAny_holding (wpAny_bind (thn (ha.run pins _ σ _ _ I0 (h D hDn)) fun v s1 ⟨x, H1, I1, r1, q1⟩ => ?_)))
  obtain ⟨a, ks, rfl, hne, hka, hkD, q1⟩ := q1
  cases r1
  refine wpAny_bind (wpAny_standAt (wpAny_pure ?_))
  have hz1 : ([] : List (Key × V)).length + ks.length ≤ sizeLine := by
    obtain ⟨z, _⟩ := dk_of I1.hok hka
    rw [List.length_nil, Nat.zero_add]
    exact z
  refine wpAny_bind (wpAny_onRaise (wpAny_tryCatch (wpAny_onRaise (wpAny_holding (dm_step I1 hne hka hkD hz1 fun s2 I2 => ?_)))))
  refine wpAny_pure ?_
  dsimp only
  simp only [List.isEmpty_nil, if_true]
  refine wpAny_bind (wpAny_bind (wpAny_pure ?_))
  dsimp only
  refine wpAny_bind (wpAny_pure ?_)
  refine wpAny_bind (wpAny_holding (wpAny_bind (thn (hb.run pins _ σ _ _ I2 q1) fun v s3 ⟨y, H2, I3, r3, q3⟩ => ?_)))
  obtain ⟨b, ls, k0, rfl, hne2, hkb, hkD2, hz2, q3⟩ := q3
  cases r3
  refine wpAny_bind (wpAny_standAt (wpAny_pure ?_))
  refine wpAny_bind (wpAny_onRaise (wpAny_tryCatch (wpAny_onRaise (wpAny_holding (dm_step I3 hne2 hkb hkD2 hz2 fun s4 I4 => ?_)))))
  refine wpAny_pure ?_
  dsimp only
  refine wpAny_pure ?_
  dsimp only
  simp only [List.isEmpty_nil, if_true]
  refine wpAny_bind (wpAny_pure ?_)
  dsimp only
  exact wpAny_pure ⟨.ref D, _, I4, rfl, q3⟩
end
end L2

namespace Pk
open PySem L2
open ClX (CRead CMet CVal)
def top (i : Nat) : Stmt := PySem.Challenge.pw_parcelindex_k42_differences_of_rows.main.body.getD i (.Pass ⟨0, 0, 0, 0⟩)
abbrev s_consists_of : Stmt := top 6
abbrev N_consists_of : List Str := ["text", "signs", "sign"]
abbrev P_consists_of : List Str := ["text", "signs"]
theorem S_consists_of : FnScope N_consists_of P_consists_of (defScope s_consists_of) := ⟨rfl, rfl, rfl, by decide +kernel, rfl, by decide +kernel, by decide +kernel⟩
abbrev s_is_string_of : Stmt := top 7
abbrev N_is_string_of : List Str := ["thing", "signs", "most"]
abbrev P_is_string_of : List Str := ["thing", "signs", "most"]
theorem S_is_string_of : FnScope N_is_string_of P_is_string_of (defScope s_is_string_of) := ⟨rfl, rfl, rfl, by decide +kernel, rfl, by decide +kernel, by decide +kernel⟩
abbrev s_number_in : Stmt := top 8
abbrev N_number_in : List Str := ["text", "last", "number"]
abbrev P_number_in : List Str := ["text", "last"]
theorem S_number_in : FnScope N_number_in P_number_in (defScope s_number_in) := ⟨rfl, rfl, rfl, by decide +kernel, rfl, by decide +kernel, by decide +kernel⟩
abbrev s_stage_of_text : Stmt := top 18
abbrev N_stage_of_text : List Str := ["text", "at", "word", "front", "found", "back", "number"]
abbrev P_stage_of_text : List Str := ["text"]
theorem S_stage_of_text : FnScope N_stage_of_text P_stage_of_text (defScope s_stage_of_text) := ⟨rfl, rfl, rfl, by decide +kernel, rfl, by decide +kernel, by decide +kernel⟩
abbrev s_parts_of_text : Stmt := top 19
abbrev N_parts_of_text : List Str := ["thing", "front", "stage", "numbers", "part"]
abbrev P_parts_of_text : List Str := ["thing"]
theorem S_parts_of_text : FnScope N_parts_of_text P_parts_of_text (defScope s_parts_of_text) := ⟨rfl, rfl, rfl, by decide +kernel, rfl, by decide +kernel, by decide +kernel⟩
abbrev s_rank_of : Stmt := top 20
abbrev N_rank_of : List Str := ["numbers", "stage", "rank", "number"]
abbrev P_rank_of : List Str := ["numbers", "stage"]
theorem S_rank_of : FnScope N_rank_of P_rank_of (defScope s_rank_of) := ⟨rfl, rfl, rfl, by decide +kernel, rfl, by decide +kernel, by decide +kernel⟩
abbrev s_numbers_at : Stmt := top 21
abbrev N_numbers_at : List Str := ["rank", "row"]
abbrev P_numbers_at : List Str := ["rank"]
theorem S_numbers_at : FnScope N_numbers_at P_numbers_at (defScope s_numbers_at) := ⟨rfl, rfl, rfl, by decide +kernel, rfl, by decide +kernel, by decide +kernel⟩
abbrev s_text_of_numbers : Stmt := top 22
abbrev N_text_of_numbers : List Str := ["numbers", "many", "number"]
abbrev P_text_of_numbers : List Str := ["numbers"]
theorem S_text_of_numbers : FnScope N_text_of_numbers P_text_of_numbers (defScope s_text_of_numbers) := ⟨rfl, rfl, rfl, by decide +kernel, rfl, by decide +kernel, by decide +kernel⟩
abbrev s_text_of_stage : Stmt := top 23
abbrev N_text_of_stage : List Str := ["stage"]
abbrev P_text_of_stage : List Str := ["stage"]
theorem S_text_of_stage : FnScope N_text_of_stage P_text_of_stage (defScope s_text_of_stage) := ⟨rfl, rfl, rfl, by decide +kernel, rfl, by decide +kernel, by decide +kernel⟩
abbrev s_text_at : Stmt := top 24
abbrev N_text_at : List Str := ["rank"]
abbrev P_text_at : List Str := ["rank"]
theorem S_text_at : FnScope N_text_at P_text_at (defScope s_text_at) := ⟨rfl, rfl, rfl, by decide +kernel, rfl, by decide +kernel, by decide +kernel⟩
abbrev s_Version_init : Stmt := inClass (top 25) 1
abbrev N_Version_init : List Str := ["self", "text", "parts", "numbers", "stage"]
abbrev P_Version_init : List Str := ["self", "text"]
theorem S_Version_init : FnScope N_Version_init P_Version_init (defScope s_Version_init) := ⟨rfl, rfl, rfl, by decide +kernel, rfl, by decide +kernel, by decide +kernel⟩
abbrev s_Version_eq : Stmt := inClass (top 25) 7
abbrev N_Version_eq : List Str := ["self", "other"]
abbrev P_Version_eq : List Str := ["self", "other"]
theorem S_Version_eq : FnScope N_Version_eq P_Version_eq (defScope s_Version_eq) := ⟨rfl, rfl, rfl, by decide +kernel, rfl, by decide +kernel, by decide +kernel⟩
abbrev s_Version_str : Stmt := inClass (top 25) 12
abbrev N_Version_str : List Str := ["self"]
abbrev P_Version_str : List Str := ["self"]
theorem S_Version_str : FnScope N_Version_str P_Version_str (defScope s_Version_str) := ⟨rfl, rfl, rfl, by decide +kernel, rfl, by decide +kernel, by decide +kernel⟩
abbrev s_by_name : Stmt := top 27
abbrev N_by_name : List Str := ["rows", "row"]
abbrev P_by_name : List Str := ["rows"]
theorem S_by_name : FnScope N_by_name P_by_name (defScope s_by_name) := ⟨rfl, rfl, rfl, by decide +kernel, rfl, by decide +kernel, by decide +kernel⟩
abbrev s_difference : Stmt := top 28
abbrev N_difference : List Str := ["name", "old", "new"]
abbrev P_difference : List Str := ["name", "old", "new"]
theorem S_difference : FnScope N_difference P_difference (defScope s_difference) := ⟨rfl, rfl, rfl, by decide +kernel, rfl, by decide +kernel, by decide +kernel⟩
abbrev s_differences : Stmt := top 29
abbrev N_differences : List Str := ["old", "new", "before", "behind", "names", "told", "name", "key", "row"]
abbrev P_differences : List Str := ["old", "new"]
theorem S_differences : FnScope N_differences P_differences (defScope s_differences) := ⟨rfl, rfl, rfl, by decide +kernel, rfl, by decide +kernel, by decide +kernel⟩
abbrev s_begin : Stmt := top 31
abbrev N_begin : List Str := ["_law_script"]
abbrev P_begin : List Str := ["_law_script"]
theorem S_begin : FnScope N_begin P_begin (defScope s_begin) := ⟨rfl, rfl, rfl, by decide +kernel, rfl, by decide +kernel, by decide +kernel⟩
abbrev s_mixed : Stmt := top 32
abbrev N_mixed : List Str := ["_law_cell", "_law_k", "_law_mixed_here"]
abbrev P_mixed : List Str := ["_law_cell", "_law_k"]
theorem S_mixed : FnScope N_mixed P_mixed (defScope s_mixed) := ⟨rfl, rfl, rfl, by decide +kernel, rfl, by decide +kernel, by decide +kernel⟩
abbrev s_next : Stmt := top 33
abbrev N_next : List Str := ["_law_draw", "_law_bound", "_law_found", "_law_every", "_law_cell"]
abbrev P_next : List Str := ["_law_draw", "_law_bound"]
theorem S_next : FnScope N_next P_next (defScope s_next) := ⟨rfl, rfl, rfl, by decide +kernel, rfl, by decide +kernel, by decide +kernel⟩
abbrev s_rows_drawn : Stmt := top 34
abbrev N_rows_drawn : List Str := ["_law_draw", "_law_found", "_law_name", "_law_version", "_law_extras", "_law_number"]
abbrev P_rows_drawn : List Str := ["_law_draw"]
theorem S_rows_drawn : FnScope N_rows_drawn P_rows_drawn (defScope s_rows_drawn) := ⟨rfl, rfl, rfl, by decide +kernel, rfl, by decide +kernel, by decide +kernel⟩
abbrev s_made : Stmt := top 35
abbrev N_made : List Str := ["_law_rows", "_law_row"]
abbrev P_made : List Str := ["_law_rows"]
theorem S_made : FnScope N_made P_made (defScope s_made) := ⟨rfl, rfl, rfl, by decide +kernel, rfl, by decide +kernel, by decide +kernel⟩
abbrev s_due : Stmt := top 36
abbrev N_due : List Str := ["_law_old_rows", "_law_new_rows", "_law_found", "_law_name", "_law_one", "_law_two", "_law_row"]
abbrev P_due : List Str := ["_law_old_rows", "_law_new_rows"]
theorem S_due : FnScope N_due P_due (defScope s_due) := ⟨rfl, rfl, rfl, by decide +kernel, rfl, by decide +kernel, by decide +kernel⟩
abbrev s_plain : Stmt := top 37
abbrev N_plain : List Str := ["_law_told", "_law_found", "_law_word", "_law_name", "_law_one", "_law_two"]
abbrev P_plain : List Str := ["_law_told"]
theorem S_plain : FnScope N_plain P_plain (defScope s_plain) := ⟨rfl, rfl, rfl, by decide +kernel, rfl, by decide +kernel, by decide +kernel⟩
abbrev s_law : Stmt := top 38
abbrev N_law : List Str := ["_law_script", "_law_draw", "_law_turn", "_law_one", "_law_two", "_law_three", "_law_told", "_law_swapped", "_law_back", "_law_near", "_law_far", "_law_touched", "_law_row"]
abbrev P_law : List Str := ["_law_script"]
theorem S_law : FnScope N_law P_law (defScope s_law) := ⟨rfl, rfl, rfl, by decide +kernel, rfl, by decide +kernel, by decide +kernel⟩
structure Ad where
  a_consists_of : Addr
  d_consists_of : FuncData
  a_is_string_of : Addr
  d_is_string_of : FuncData
  a_number_in : Addr
  d_number_in : FuncData
  a_stage_of_text : Addr
  d_stage_of_text : FuncData
  a_parts_of_text : Addr
  d_parts_of_text : FuncData
  a_rank_of : Addr
  d_rank_of : FuncData
  a_numbers_at : Addr
  d_numbers_at : FuncData
  a_text_of_numbers : Addr
  d_text_of_numbers : FuncData
  a_text_of_stage : Addr
  d_text_of_stage : FuncData
  a_text_at : Addr
  d_text_at : FuncData
  a_Version_init : Addr
  d_Version_init : FuncData
  a_Version_eq : Addr
  d_Version_eq : FuncData
  a_Version_str : Addr
  d_Version_str : FuncData
  a_by_name : Addr
  d_by_name : FuncData
  a_difference : Addr
  d_difference : FuncData
  a_differences : Addr
  d_differences : FuncData
  a_begin : Addr
  d_begin : FuncData
  a_mixed : Addr
  d_mixed : FuncData
  a_next : Addr
  d_next : FuncData
  a_rows_drawn : Addr
  d_rows_drawn : FuncData
  a_made : Addr
  d_made : FuncData
  a_due : Addr
  d_due : FuncData
  a_plain : Addr
  d_plain : FuncData
  a_law : Addr
  d_law : FuncData
  a_Version : Addr
  t_Version_LAST : Tok
  k_STAGES : Addr
  t_DIGITS : Tok
  t_FINAL : Tok
  t_WIDTH : Tok
  t_GREATEST : Tok
structure Tex (K : PySem.W.Frag) (mg : Str → Option Value) (D : Ad) : Prop where
  consists_of_F : Fun K "consists_of" "consists_of" s_consists_of D.a_consists_of D.d_consists_of
  consists_of_g : mg "consists_of" = some (.ref D.a_consists_of)
  consists_of_b : Binds K D.d_consists_of P_consists_of []
  is_string_of_F : Fun K "is_string_of" "is_string_of" s_is_string_of D.a_is_string_of D.d_is_string_of
  is_string_of_g : mg "is_string_of" = some (.ref D.a_is_string_of)
  is_string_of_b : Binds K D.d_is_string_of P_is_string_of []
  number_in_F : Fun K "number_in" "number_in" s_number_in D.a_number_in D.d_number_in
  number_in_g : mg "number_in" = some (.ref D.a_number_in)
  number_in_b : Binds K D.d_number_in P_number_in []
  stage_of_text_F : Fun K "stage_of_text" "stage_of_text" s_stage_of_text D.a_stage_of_text D.d_stage_of_text
  stage_of_text_g : mg "stage_of_text" = some (.ref D.a_stage_of_text)
  stage_of_text_b : Binds K D.d_stage_of_text P_stage_of_text []
  parts_of_text_F : Fun K "parts_of_text" "parts_of_text" s_parts_of_text D.a_parts_of_text D.d_parts_of_text
  parts_of_text_g : mg "parts_of_text" = some (.ref D.a_parts_of_text)
  parts_of_text_b : Binds K D.d_parts_of_text P_parts_of_text []
  rank_of_F : Fun K "rank_of" "rank_of" s_rank_of D.a_rank_of D.d_rank_of
  rank_of_g : mg "rank_of" = some (.ref D.a_rank_of)
  rank_of_b : Binds K D.d_rank_of P_rank_of []
  numbers_at_F : Fun K "numbers_at" "numbers_at" s_numbers_at D.a_numbers_at D.d_numbers_at
  numbers_at_g : mg "numbers_at" = some (.ref D.a_numbers_at)
  numbers_at_b : Binds K D.d_numbers_at P_numbers_at []
  text_of_numbers_F : Fun K "text_of_numbers" "text_of_numbers" s_text_of_numbers D.a_text_of_numbers D.d_text_of_numbers
  text_of_numbers_g : mg "text_of_numbers" = some (.ref D.a_text_of_numbers)
  text_of_numbers_b : Binds K D.d_text_of_numbers P_text_of_numbers []
  text_of_stage_F : Fun K "text_of_stage" "text_of_stage" s_text_of_stage D.a_text_of_stage D.d_text_of_stage
  text_of_stage_g : mg "text_of_stage" = some (.ref D.a_text_of_stage)
  text_of_stage_b : Binds K D.d_text_of_stage P_text_of_stage []
  text_at_F : Fun K "text_at" "text_at" s_text_at D.a_text_at D.d_text_at
  text_at_g : mg "text_at" = some (.ref D.a_text_at)
  text_at_b : Binds K D.d_text_at P_text_at []
  Version_init_F : Fun K "__init__" "Version.__init__" s_Version_init D.a_Version_init D.d_Version_init
  Version_init_b : Binds K D.d_Version_init P_Version_init []
  Version_eq_F : Fun K "__eq__" "Version.__eq__" s_Version_eq D.a_Version_eq D.d_Version_eq
  Version_eq_b : Binds K D.d_Version_eq P_Version_eq []
  Version_str_F : Fun K "__str__" "Version.__str__" s_Version_str D.a_Version_str D.d_Version_str
  Version_str_b : Binds K D.d_Version_str P_Version_str []
  by_name_F : Fun K "by_name" "by_name" s_by_name D.a_by_name D.d_by_name
  by_name_g : mg "by_name" = some (.ref D.a_by_name)
  by_name_b : Binds K D.d_by_name P_by_name []
  difference_F : Fun K "difference" "difference" s_difference D.a_difference D.d_difference
  difference_g : mg "difference" = some (.ref D.a_difference)
  difference_b : Binds K D.d_difference P_difference []
  differences_F : Fun K "differences" "differences" s_differences D.a_differences D.d_differences
  differences_g : mg "differences" = some (.ref D.a_differences)
  differences_b : Binds K D.d_differences P_differences []
  differences_kb : KB K D.d_differences P_differences ["old", "new"]
  begin_F : Fun K "_law_begin" "_law_begin" s_begin D.a_begin D.d_begin
  begin_g : mg "_law_begin" = some (.ref D.a_begin)
  begin_b : Binds K D.d_begin P_begin []
  mixed_F : Fun K "_law_mixed" "_law_mixed" s_mixed D.a_mixed D.d_mixed
  mixed_g : mg "_law_mixed" = some (.ref D.a_mixed)
  mixed_b : Binds K D.d_mixed P_mixed []
  next_F : Fun K "_law_next" "_law_next" s_next D.a_next D.d_next
  next_g : mg "_law_next" = some (.ref D.a_next)
  next_b : Binds K D.d_next P_next []
  rows_drawn_F : Fun K "_law_rows_drawn" "_law_rows_drawn" s_rows_drawn D.a_rows_drawn D.d_rows_drawn
  rows_drawn_g : mg "_law_rows_drawn" = some (.ref D.a_rows_drawn)
  rows_drawn_b : Binds K D.d_rows_drawn P_rows_drawn []
  made_F : Fun K "_law_made" "_law_made" s_made D.a_made D.d_made
  made_g : mg "_law_made" = some (.ref D.a_made)
  made_b : Binds K D.d_made P_made []
  due_F : Fun K "_law_due" "_law_due" s_due D.a_due D.d_due
  due_g : mg "_law_due" = some (.ref D.a_due)
  due_b : Binds K D.d_due P_due []
  plain_F : Fun K "_law_plain" "_law_plain" s_plain D.a_plain D.d_plain
  plain_g : mg "_law_plain" = some (.ref D.a_plain)
  plain_b : Binds K D.d_plain P_plain []
  law_F : Fun K "law" "law" s_law D.a_law D.d_law
  law_g : mg "law" = some (.ref D.a_law)
  law_b : Binds K D.d_law P_law []
  Version_g : mg "Version" = some (.ref D.a_Version)
  Version_cl : Cls K D.a_Version
  Version_mk : Mk K D.a_Version D.a_Version_init
  Version_rd : CRead K D.a_Version (.type "type")
  Version_si : SlX.SIsi K D.a_Version
  Version_nf : PySem.W.notFirst K D.a_Version (.ref D.a_Version) = true
  Version_n_rank : NoAttr K D.a_Version "_rank"
  Version_init_at : PySem.W.findIn K (.ref D.a_Version) "__init__" = some (some (.ref D.a_Version_init))
  Version_init_fn : PySem.W.isFn K (.ref D.a_Version_init) = true
  Version_eq_at : PySem.W.findIn K (.ref D.a_Version) "__eq__" = some (some (.ref D.a_Version_eq))
  Version_eq_fn : PySem.W.isFn K (.ref D.a_Version_eq) = true
  Version_str_at : PySem.W.findIn K (.ref D.a_Version) "__str__" = some (some (.ref D.a_Version_str))
  Version_str_fn : PySem.W.isFn K (.ref D.a_Version_str) = true
  Version_LAST : CVal K D.a_Version (.type "type") "LAST" (.int 3000999999999999) (.int 3000999999999999 D.t_Version_LAST)
  c_STAGES : mg "STAGES" = some (.ref D.k_STAGES)
  v_STAGES : SqT K (fun _ => none) D.k_STAGES [.str "a", .str "b", .str "rc"]
  c_DIGITS : mg "DIGITS" = some (.str "0123456789" D.t_DIGITS)
  c_FINAL : mg "FINAL" = some (.int 3000 D.t_FINAL)
  c_WIDTH : mg "WIDTH" = some (.int 3001 D.t_WIDTH)
  c_GREATEST : mg "GREATEST" = some (.int 999 D.t_GREATEST)
  b_all : mg "all" = none
  b_enumerate : mg "enumerate" = none
  b_int : mg "int" = none
  b_isinstance : mg "isinstance" = none
  b_len : mg "len" = none
  b_range : mg "range" = none
  b_set : mg "set" = none
  b_sorted : mg "sorted" = none
  b_str : mg "str" = none
  b_tuple : mg "tuple" = none
/-! ## The draws -/
section
variable {P : Program} {w : World} {K : PySem.W.Frag} {mg : Str → Option Value} {base : Heap} {D : Ad}
def drK (c : Addr) (a l u : Int) : List (Key × V) := [(.inr "cells", .ref c), (.inr "at", .int a), (.inr "left", .int l), (.inr "used", .int u)]
theorem ne_ca : ¬ (("cells" : Str) = "at") := by decide +kernel
theorem ne_cl : ¬ (("cells" : Str) = "left") := by decide +kernel
theorem ne_cu : ¬ (("cells" : Str) = "used") := by decide +kernel
theorem ne_al : ¬ (("at" : Str) = "left") := by decide +kernel
theorem ne_au : ¬ (("at" : Str) = "used") := by decide +kernel
theorem ne_lu : ¬ (("left" : Str) = "used") := by decide +kernel
theorem ne_la : ¬ (("left" : Str) = "at") := by decide +kernel
theorem ne_ua : ¬ (("used" : Str) = "at") := by decide +kernel
theorem ne_ul : ¬ (("used" : Str) = "left") := by decide +kernel
theorem dr_cells (c : Addr) (a l u : Int) : valV (drK c a l u) (.inr "cells" : Key) = some (.ref c) := by simp [valV, drK]
theorem dr_at (c : Addr) (a l u : Int) : valV (drK c a l u) (.inr "at" : Key) = some (.int a) := by simp [valV, drK, ne_ca]
theorem dr_left (c : Addr) (a l u : Int) : valV (drK c a l u) (.inr "left" : Key) = some (.int l) := by simp [valV, drK, ne_cl, ne_al]
theorem dr_used (c : Addr) (a l u : Int) : valV (drK c a l u) (.inr "used" : Key) = some (.int u) := by simp [valV, drK, ne_cu, ne_au, ne_lu]
theorem dr_pat (c : Addr) (a l u x : Int) : putK (drK c a l u) (.inr "at" : Key) (.int x) = drK c x l u := by simp [putK, drK, ne_ca, ne_la, ne_ua]
theorem dr_pleft (c : Addr) (a l u x : Int) : putK (drK c a l u) (.inr "left" : Key) (.int x) = drK c a x u := by simp [putK, drK, ne_cl, ne_al, ne_ul]
theorem dr_pused (c : Addr) (a l u x : Int) : putK (drK c a l u) (.inr "used" : Key) (.int x) = drK c a l x := by simp [putK, drK, ne_cu, ne_au, ne_lu]

/-- a draw stands at d, its cells at c, at most n steps were made -/
def Dr (H : Hp) (d c : Addr) (n : Nat) : Prop := ∃ (cs : List Int) (a l u : Int), H d = some (.dK (drK c a l u)) ∧ H c = some (.lst (cs.map V.int)) ∧
  cs ≠ [] ∧ cs.length ≤ 64 ∧ 0 ≤ a ∧ a ≤ n ∧ 0 ≤ l ∧ 0 ≤ u ∧ u ≤ n
/-- all stands but what is at d -/
def But (d : Addr) (H H' : Hp) : Prop := ∀ b o, H b = some o → b ≠ d → H' b = some o
theorem But.refl {d : Addr} {H : Hp} : But d H H := fun _ _ e _ => e
theorem But.trans {d : Addr} {H H1 H2 : Hp} (x : But d H H1) (y : But d H1 H2) : But d H H2 := fun b o e n => y b o (x b o e n) n
theorem But.upd {d : Addr} {H : Hp} {o : HO} : But d H (upd H d o) := fun b u e n => by rw [upd_ne n]; exact e
theorem But.new {d p : Addr} {H H1 : Hp} {o : HO} (x : But d H H1) (h : H1 p = none) : But d H (L2.upd H1 p o) := fun b u e n => by
  have e1 := x b u e n
  rw [upd_ne (ne_of_none e1 h)]
  exact e1
theorem But.free {d p : Addr} {H H' : Hp} (x : But d H H') (hd : d ≠ p) (h : H' p = none) : H p = none := by
  cases q : H p with
  | none => rfl
  | some o =>
    rw [x p o q (Ne.symm hd)] at h
    cases h
theorem But.of_same {d : Addr} {H H' : Hp} (x : Same H H') : But d H H' := fun b o e _ => x b o e
theorem Dr.dict {H : Hp} {d c : Addr} {n : Nat} (h : Dr H d c n) : ∃ o, H d = some (.dK o) := let ⟨_, _, _, _, e, _⟩ := h; ⟨_, e⟩
theorem Dr.cells {H : Hp} {d c : Addr} {n : Nat} (h : Dr H d c n) : ∃ xs, H c = some (.lst xs) := let ⟨_, _, _, _, _, e, _⟩ := h; ⟨_, e⟩
theorem Dr.mono {H : Hp} {d c : Addr} {n m : Nat} (h : Dr H d c n) (q : n ≤ m) : Dr H d c m := by
  obtain ⟨cs, a, l, u, h1, h2, h3, h4, h5, h6, h7, h8, h9⟩ := h
  exact ⟨cs, a, l, u, h1, h2, h3, h4, h5, by omega, h7, h8, by omega⟩
theorem Dr.keep {H H' : Hp} {d c : Addr} {n : Nat} (h : Dr H d c n) (e : Same H H') : Dr H' d c n := by
  obtain ⟨cs, a, l, u, h1, h2, r⟩ := h
  exact ⟨cs, a, l, u, e _ _ h1, e _ _ h2, r⟩
theorem Dr.new {H : Hp} {d c p : Addr} {n : Nat} {o : HO} (h : Dr H d c n) (q : H p = none) : Dr (upd H p o) d c n :=
  h.keep fun b u e => by rw [upd_ne (ne_of_none e q)]; exact e
/-- what is at p changes -/
theorem Dr.off {H : Hp} {d c p : Addr} {n : Nat} {o : HO} (h : Dr H d c n) (hd : d ≠ p) (hc : c ≠ p) : Dr (upd H p o) d c n := by
  obtain ⟨cs, a, l, u, h1, h2, r⟩ := h
  exact ⟨cs, a, l, u, by rw [upd_ne hd]; exact h1, by rw [upd_ne hc]; exact h2, r⟩
theorem Dr.ne_new {H : Hp} {d c p : Addr} {n : Nat} (h : Dr H d c n) (q : H p = none) : d ≠ p := let ⟨_, e⟩ := h.dict; ne_of_none e q
theorem Dr.nc_new {H : Hp} {d c p : Addr} {n : Nat} (h : Dr H d c n) (q : H p = none) : c ≠ p := let ⟨_, e⟩ := h.cells; ne_of_none e q

def spMixed : Sp := fun vs H Q _ => ∃ c k : Int, vs = [.int c, .int k] ∧ 0 ≤ k ∧ k < 2 ^ 60 ∧ ∀ v, Q (.int v) H
theorem ok_mixed (T : Tex K mg D) : FnOk P w K mg base CX0 1 D.a_mixed D.d_mixed P_mixed spMixed := by
  refine T.mixed_F.ok S_mixed (fun vs H Q E h => ?_) (fun cdv A outer s H vs Q E hr h => ?_)
  · obtain ⟨c, k, rfl, _⟩ := h
    rfl
  · obtain ⟨c, k, rfl, h0, h1, q⟩ := h
    refine ⟨_, (pss_cons (ps_set (i := 2) S_mixed.nd rfl (Or.inl rfl) (pe_op op_mod (pe_op op_add (pe_op op_add (pe_op op_add (pe_op op_mod (pv 0) pe_int) (pe_op op_mul (pe_op op_mul pe_int (pv 1)) (pv 1))) (pe_op op_mul pe_int (pv 1))) pe_int) pe_int))
      (pss_cons (ps_set (i := 2) S_mixed.nd rfl (Or.inl rfl) (pe_op op_mod (pe_op op_mul (pe_op op_mod (pe_op op_mul (pv 2) (pv 2)) pe_int) (pv 2)) pe_int))
      (pss_one (ps_ret (pe_op op_fdiv (pe_op op_mod (pe_op op_mul (pv 2) (pe_op op_add pe_int (pe_op op_mul pe_int (pe_op op_mod (pv 1) pe_int)))) pe_int) pe_int))))), ?_⟩
    refine ⟨_, rfl, _, _, rfl, rfl, (posI rfl), ?_⟩
    refine ⟨_, rfl, _, _, rfl, rfl, .inl ⟨by decide, by decide⟩, ?_⟩
    refine ⟨_, rfl, _, _, rfl, rfl, .inr ⟨by omega, by omega⟩, _, _, rfl, rfl, ?_⟩
    refine ⟨_, rfl, _, _, rfl, rfl, .inl ⟨by decide, by decide⟩, _, _, rfl, rfl, _, _, rfl, rfl, _, _, rfl, rfl, (posI rfl), ?_⟩
    generalize hm : (c % 1000000007 + 7919 * k * k + 31 * k + 7) % 2147483647 = m
    have m0 : 0 ≤ m := by rw [← hm]; exact Int.emod_nonneg _ (by decide)
    have m1 : m < 2147483647 := by rw [← hm]; exact Int.emod_lt_of_pos _ (by decide)
    refine ⟨_, rfl, _, rfl, _, _, rfl, rfl, .inl ⟨by omega, by omega⟩, _, _, rfl, rfl, (posI rfl), ?_⟩
    refine ⟨_, rfl, _, _, rfl, rfl, .inr ⟨by omega, by omega⟩, _, _, rfl, rfl, (posI rfl), ?_⟩
    generalize hn : m * m % 2147483647 * m % 2147483629 = n
    have n0 : 0 ≤ n := by rw [← hn]; exact Int.emod_nonneg _ (by decide)
    have n1 : n < 2147483629 := by rw [← hn]; exact Int.emod_lt_of_pos _ (by decide)
    refine ⟨_, rfl, _, rfl, _, _, rfl, rfl, (posI rfl), _, _, rfl, rfl, .inl ⟨by decide, by decide⟩, _, _, rfl, rfl, _, _, rfl, rfl, .inl ⟨by omega, by omega⟩, ?_⟩
    refine ⟨_, _, rfl, rfl, (posI rfl), _, _, rfl, rfl, ⟨by decide, by decide⟩, ?_⟩
    exact q _

def spNext : Sp := fun vs H Q _ => ∃ (d c : Addr) (b : Int) (n : Nat), vs = [.ref d, .int b] ∧ Dr H d c n ∧ n ≤ 10 ^ 12 ∧ 0 < b ∧ b < 2 ^ 30 ∧
  ∀ (v : Int) (H' : Hp), 0 ≤ v → v < b → Dr H' d c (n + 1) → But d H H' → Q (.int v) H'
theorem ok_next (T : Tex K mg D) : FnOk P w K mg base CX0 2 D.a_next D.d_next P_next spNext := by
  have G_mixed : FnOk P w K mg base CX0 1 D.a_mixed D.d_mixed P_mixed spMixed := ok_mixed T
  refine T.next_F.ok S_next (fun vs H Q E h => ?_) (fun cdv A outer s H vs Q E hr h => ?_)
  · obtain ⟨d, c, b, n, rfl, _⟩ := h
    rfl
  · obtain ⟨d, c, b, n, rfl, ⟨cs, a, l, u, hd, hc, c0, c64, a0, an, l0, u0, un⟩, hn, b0, b1, q⟩ := h
    have hu := hu_of hr
    have ndc : d ≠ c := ne_of hd hc (by intro z; cases z)
    have sz : ∀ c' a' l' u', (drK c' a' l' u').length < sizeLine := fun _ _ _ _ => by show 4 < sizeLine; decide
    have cs0 : 0 < cs.length := List.length_pos_iff.mpr c0
    refine ⟨_, (pss_cons (ps_if (pt_cmpR op_gt (pe_dget hu (pv 0) pe_str (fun _ _ => rfl)) pe_int (nomark _)) (pss_cons (ps_set (i := 2) S_next.nd rfl (Or.inl rfl) (pe_op op_mod (pe_dget hu (pv 0) pe_str (fun _ _ => rfl)) (pv 1)))
      (pss_cons (ps_dput hu (pv 0) pe_str (pe_op op_fdiv (pe_dget hu (pv 0) pe_str (fun _ _ => rfl)) (pv 1)) rfl)
      (pss_one (ps_ret (pv 2))))) pss_nil)
      (pss_cons (ps_set (i := 3) S_next.nd rfl (Or.inl rfl) (pe_dget hu (pv 0) pe_str (fun _ _ => rfl)))
      (pss_cons (ps_set (i := 4) S_next.nd rfl (Or.inl rfl) (pe_ix ix_list (pv 3) (pe_op op_mod (pe_dget hu (pv 0) pe_str (fun _ _ => rfl)) (pe_callB call_len_seq (by rfl) T.b_len (by decide +kernel) (pa_cons (pv 3) pa_nil))) (fun _ _ => rfl)))
      (pss_cons (ps_dput hu (pv 0) pe_str (pe_op op_add (pe_dget hu (pv 0) pe_str (fun _ _ => rfl)) pe_int) rfl)
      (pss_cons (ps_if (PW.pt (pw_and (pt_cmpR op_ge (pv 4) (pe_op op_pow pe_int pe_int) (nomark _)) (pw_and1 (pt_cmpR op_le (pe_dget hu (pv 0) pe_str (fun _ _ => rfl)) (pe_callB call_len_seq (by rfl) T.b_len (by decide +kernel) (pa_cons (pv 3) pa_nil)) (nomark _))))) (pss_cons (ps_dput hu (pv 0) pe_str (pe_op op_fdiv (pv 4) (pv 1)) rfl)
      (pss_one (ps_ret (pe_op op_mod (pv 4) (pv 1))))) pss_nil)
      (pss_cons (ps_dput hu (pv 0) pe_str (pe_op op_add (pe_dget hu (pv 0) pe_str (fun _ _ => rfl)) pe_int) rfl)
      (pss_one (ps_ret (pe_op op_mod (pe_call G_mixed (hr.mono (by decide)) (by rfl) T.mixed_g T.mixed_F.kp T.mixed_b .nil pass0 (pa_cons (pe_call G_mixed (hr.mono (by decide)) (by rfl) T.mixed_g T.mixed_F.kp T.mixed_b .nil pass0 (pa_cons (pv 4) (pa_cons (pe_dget hu (pv 0) pe_str (fun _ _ => rfl)) pa_nil))) (pa_cons (pe_dget hu (pv 0) pe_str (fun _ _ => rfl)) pa_nil))) (pv 1)))))))))), ?_⟩
    refine ⟨_, rfl, d, _, rfl, (by have g := DGet.k (k := .inr "left") hd; rw [dr_left] at g; exact g), _, _, rfl, rfl, _, rfl, ?_⟩
    refine ite2 (fun hl => ?_) (fun hl => ?_)
    · refine ⟨_, rfl, d, _, rfl, (by have g := DGet.k (k := .inr "left") hd; rw [dr_left] at g; exact g), _, rfl, _, _, rfl, rfl, b0, ?_⟩
      refine ⟨_, rfl, d, _, rfl, (by have g := DGet.k (k := .inr "left") hd; rw [dr_left] at g; exact g), _, rfl, _, _, rfl, rfl, ⟨b0, b1⟩, _, rfl, d, _, rfl, DPut.k (k := .inr "left") hd (sz _ _ _ _), ?_⟩
      refine ⟨_, rfl, ?_⟩
      refine q _ _ (Int.emod_nonneg _ (by omega)) (Int.emod_lt_of_pos _ b0) ⟨cs, a, l / b, u, ?_, ?_, c0, c64, a0, by omega, Int.ediv_nonneg l0 (by omega), u0, by omega⟩ But.upd
      · rw [upd_same, dr_pleft]
      · rw [upd_ne ndc.symm]; exact hc
    · refine ⟨_, rfl, d, _, rfl, (by have g := DGet.k (k := .inr "cells") hd; rw [dr_cells] at g; exact g), ?_⟩
      refine ⟨_, rfl, _, rfl, d, _, rfl, (by have g := DGet.k (k := .inr "at") hd; rw [dr_at] at g; exact g), _, rfl, c, _, rfl, .inl (SqL.of hc), _, _, rfl, rfl, (by rw [List.length_map]; show (0 : Int) < (cs.length : Int); omega), ?_⟩
      have hix : 0 ≤ a % ((cs.map V.int).length : Int) ∧ a % ((cs.map V.int).length : Int) < ((cs.map V.int).length : Int) := by
        have e : ((cs.map V.int).length : Int) = (cs.length : Int) := by rw [List.length_map]
        rw [e]
        exact ⟨Int.emod_nonneg _ (by omega), Int.emod_lt_of_pos _ (by omega)⟩
      obtain ⟨x, hx⟩ : ∃ x, (cs.map V.int)[(a % ((cs.map V.int).length : Int)).toNat]? = some (V.int x) := by
        have hlt : (a % ((cs.map V.int).length : Int)).toNat < cs.length := by
          have e : ((cs.map V.int).length : Int) = (cs.length : Int) := by rw [List.length_map]
          omega
        exact ⟨cs[(a % ((cs.map V.int).length : Int)).toNat], by rw [List.getElem?_map, List.getElem?_eq_getElem hlt]; rfl⟩
      refine ⟨c, _, _, _, rfl, rfl, SqL.of hc, (by
        have e : a % ((cs.map V.int).length : Int) = ((a % ((cs.map V.int).length : Int)).toNat : Int) := (Int.toNat_of_nonneg hix.1).symm
        rw [e]
        exact atI_nat hx), ?_⟩
      -- at += 1
      refine ⟨_, rfl, d, _, rfl, (by have g := DGet.k (k := .inr "at") hd; rw [dr_at] at g; exact g), _, _, rfl, rfl, _, rfl, d, _, rfl, DPut.k (k := .inr "at") hd (sz _ _ _ _), ?_⟩
      rw [dr_pat]
      have hd1 : (upd H d (.dK (drK c (a + 1) l u))) d = some (.dK (drK c (a + 1) l u)) := upd_same
      have hc1 : (upd H d (.dK (drK c (a + 1) l u))) c = some (.lst (cs.map V.int)) := by rw [upd_ne ndc.symm]; exact hc
      have bu1 : But d H (upd H d (.dK (drK c (a + 1) l u))) := But.upd
      revert hd1 hc1 bu1
      generalize upd H d (.dK (drK c (a + 1) l u)) = H1
      intro hd1 hc1 bu1
      refine ⟨_, rfl, _, _, rfl, rfl, ⟨by decide, by decide, by decide⟩, _, _, rfl, rfl, _, rfl, ?_⟩
      refine ite2 (fun h18 => ?_) (fun h18 => ?_)
      · refine ⟨_, rfl, d, _, rfl, (by have g := DGet.k (k := .inr "at") hd1; rw [dr_at] at g; exact g), _, rfl, c, _, rfl, .inl (SqL.of hc1), _, _, rfl, rfl, _, rfl, ?_⟩
        refine ite2 (fun hat => ?_) (fun hat => ?_)
        · have x0 : 0 ≤ x := by
            have h2 := of_decide_eq_true h18
            have h3 : (0 : Int) ≤ 10 ^ (18 : Int).toNat := by decide
            omega
          refine ⟨_, rfl, _, rfl, _, _, rfl, rfl, ⟨b0, b1⟩, _, rfl, d, _, rfl, DPut.k (k := .inr "left") hd1 (sz _ _ _ _), ?_⟩
          refine ⟨_, rfl, _, rfl, _, _, rfl, rfl, b0, ?_⟩
          refine q _ _ (Int.emod_nonneg _ (by omega)) (Int.emod_lt_of_pos _ b0) ⟨cs, a + 1, x / b, u, ?_, ?_, c0, c64, by omega, by omega, Int.ediv_nonneg x0 (by omega), u0, by omega⟩ (bu1.trans But.upd)
          · rw [upd_same, dr_pleft]
          · rw [upd_ne ndc.symm]; exact hc1
        ·
          refine ⟨_, rfl, d, _, rfl, (by have g := DGet.k (k := .inr "used") hd1; rw [dr_used] at g; exact g), _, _, rfl, rfl, _, rfl, d, _, rfl, DPut.k (k := .inr "used") hd1 (sz _ _ _ _), ?_⟩
          rw [dr_pused]
          have hd2 : (upd H1 d (.dK (drK c (a + 1) l (u + 1)))) d = some (.dK (drK c (a + 1) l (u + 1))) := upd_same
          have hc2 : (upd H1 d (.dK (drK c (a + 1) l (u + 1)))) c = some (.lst (cs.map V.int)) := by rw [upd_ne ndc.symm]; exact hc1
          refine ⟨_, rfl, _, rfl, d, _, rfl, (by have g := DGet.k (k := .inr "at") hd2; rw [dr_at] at g; exact g), x, a + 1, rfl, by omega, by omega, fun v1 => ?_⟩
          refine ⟨_, rfl, d, _, rfl, (by have g := DGet.k (k := .inr "used") hd2; rw [dr_used] at g; exact g), v1, u + 1, rfl, by omega, by omega, fun v2 => ?_⟩
          refine ⟨_, rfl, _, _, rfl, rfl, b0, ?_⟩
          exact q _ _ (Int.emod_nonneg _ (by omega)) (Int.emod_lt_of_pos _ b0) ⟨cs, a + 1, l, u + 1, hd2, hc2, c0, c64, by omega, by omega, l0, by omega, by omega⟩ (bu1.trans But.upd)
      ·
        refine ⟨_, rfl, d, _, rfl, (by have g := DGet.k (k := .inr "used") hd1; rw [dr_used] at g; exact g), _, _, rfl, rfl, _, rfl, d, _, rfl, DPut.k (k := .inr "used") hd1 (sz _ _ _ _), ?_⟩
        rw [dr_pused]
        have hd2 : (upd H1 d (.dK (drK c (a + 1) l (u + 1)))) d = some (.dK (drK c (a + 1) l (u + 1))) := upd_same
        have hc2 : (upd H1 d (.dK (drK c (a + 1) l (u + 1)))) c = some (.lst (cs.map V.int)) := by rw [upd_ne ndc.symm]; exact hc1
        refine ⟨_, rfl, _, rfl, d, _, rfl, (by have g := DGet.k (k := .inr "at") hd2; rw [dr_at] at g; exact g), x, a + 1, rfl, by omega, by omega, fun v1 => ?_⟩
        refine ⟨_, rfl, d, _, rfl, (by have g := DGet.k (k := .inr "used") hd2; rw [dr_used] at g; exact g), v1, u + 1, rfl, by omega, by omega, fun v2 => ?_⟩
        refine ⟨_, rfl, _, _, rfl, rfl, b0, ?_⟩
        exact q _ _ (Int.emod_nonneg _ (by omega)) (Int.emod_lt_of_pos _ b0) ⟨cs, a + 1, l, u + 1, hd2, hc2, c0, c64, by omega, by omega, l0, by omega, by omega⟩ (bu1.trans But.upd)
end

/-! ## The draws begin -/
section
variable {P : Program} {w : World} {K : PySem.W.Frag} {mg : Str → Option Value} {base : Heap} {D : Ad}
theorem len_app (a b : Str) : (a ++ b).length = a.length + b.length := PySem.strLen_append a b

theorem at_in {α : Type} {xs : List α} {v : Int} (h0 : 0 ≤ v) (h1 : v < (xs.length : Int)) : ∃ x, atI xs v = some x ∧ x ∈ xs := by
  obtain ⟨j, rfl⟩ := Int.eq_ofNat_of_zero_le h0
  have hj : j < xs.length := by omega
  exact ⟨xs[j], atI_nat (List.getElem?_eq_getElem hj), List.getElem_mem hj⟩

/-! ### begin -/
theorem merge_dr (c : Addr) (a l u : Int) : mergeK [] (drK c a l u) = drK c a l u := by simp [mergeK, putK, drK, ne_ca, ne_cl, ne_cu, ne_al, ne_au, ne_lu]
def spBegin (K : PySem.W.Frag) : Sp := fun vs H Q _ => ∃ (a : Addr) (ns : List Int), vs = [.ref a] ∧ Bare K H a (ns.map V.int) ∧ ns.length ≤ 63 ∧ ∀ d c H', H d = none → Same H H' → Dr H' d c 0 → Q (.ref d) H'
theorem ok_begin (T : Tex K mg D) : FnOk P w K mg base CX0 1 D.a_begin D.d_begin P_begin (spBegin K) := by
  refine T.begin_F.ok S_begin (fun vs H Q E h => ?_) (fun cdv A outer s H vs Q E hr h => ?_)
  · obtain ⟨a, ns, rfl, _⟩ := h
    rfl
  · obtain ⟨a, ns, rfl, hb, hl, q⟩ := h
    refine ⟨_, (pss_one (ps_ret (pe_disp (pps_cons pe_str (pe_op op_catS (pv 0) (pe_lst (pa_cons pe_int pa_nil))) (pps_cons pe_str pe_int (pps_cons pe_str pe_int (pps_cons pe_str pe_int pps_nil)))) (by rfl) (by rfl) (fun z => by cases z) (by decide)))), ?_⟩
    intro p hp
    have s1 : Same H (upd H p (.dK [])) := same_new hp
    refine ⟨_, rfl, (by show 1 ≤ sizeLine; decide), fun l hl1 => ⟨a, l, _, _, rfl, rfl, (hb.keep s1).keep (same_new hl1), upd_same, Nat.le_trans (show _ ≤ 1000 by simp; omega) (by decide), fun c hc => ?_⟩⟩
    have s2 := s1.trans (same_new (o := .lst [.int 0]) hl1)
    have s3 := s2.trans (same_new (o := .lst (ns.map V.int ++ [.int 0])) hc)
    have npl : p ≠ l := ne_of_none upd_same hl1
    have npc : p ≠ c := by
      have e : (upd (upd H p (.dK [])) l (.lst [.int 0])) p = some (.dK []) := by rw [upd_ne npl, upd_same]
      exact ne_of_none e hc
    refine ⟨by rw [upd_ne npc, upd_ne npl, upd_same], drK c 0 0 0, rfl, (by show 4 ≤ 15; decide), ?_⟩
    rw [merge_dr]
    refine q p c _ hp (same_upd s3 hp) ⟨ns ++ [0], 0, 0, 0, upd_same, ?_, by simp, by simp; omega, by decide, by decide, by decide, by decide, by decide⟩
    rw [upd_ne npc.symm, upd_same]
    simp

end

/-! ## Versions: the program's defs -/
section
variable {P : Program} {w : World} {K : PySem.W.Frag} {mg : Str → Option Value} {base : Heap} {D : Ad}
open TL SX
theorem szl {n : Nat} (h : n ≤ 1000) : n ≤ sizeLine := Nat.le_trans h (by decide)
theorem szt {n : Nat} (h : n ≤ 1000) : n < sizeLine := Nat.lt_of_le_of_lt h (by decide)
theorem szL {n : Nat} (h : n ≤ 100000) : n ≤ sizeLine := Nat.le_trans h (by decide)
theorem szT {n : Nat} (h : n ≤ 100000) : n < sizeLine := Nat.lt_of_le_of_lt h (by decide)
theorem kit_self {C : Addr} : PySem.W.kitOne K (.ref C) (.ref C) = some true := by
  unfold PySem.W.kitOne
  simp
def inS (sg : Str) (c : Nat) : Bool := decide (c ∈ sg.cps.toList)
theorem filt1 {α : Type} {xs : List α} : xs.filter (fun _ => true) = xs := List.filter_eq_self.mpr (by simp)
def spConsistsOf : Sp := fun vs H Q _ => ∃ t sg : Str, vs = [.str t, .str sg] ∧ t.length ≤ 200 ∧ ∀ H', Same H H' → Q (.bl (t.cps.toList.all (inS sg))) H'
theorem ok_consists_of (T : Tex K mg D) : FnOk P w K mg base CX0 1 D.a_consists_of D.d_consists_of P_consists_of spConsistsOf := by
  refine T.consists_of_F.ok S_consists_of (fun vs H Q E h => ?_) (fun cdv A outer s H vs Q E hr h => ?_)
  · obtain ⟨t, sg, rfl, _⟩ := h
    rfl
  · obtain ⟨t, sg, rfl, hl, q⟩ := h
    refine ⟨_, (pss_one (ps_ret (pe_callB (cr_all rfl) (by rfl) T.b_all (by decide +kernel) (pa_cons (pe_lc (own := [(("sign" : Str), 2)]) (g := gName 2) (tt := tYes) rfl S_consists_of.nd (pi_str (pv 0)) (blkOk_by (N := N_consists_of) (sc := defScope s_consists_of) (by decide +kernel)) (fun _ _ _ _ _ => pg_name (i := 2) S_consists_of.nd rfl (Or.inl rfl)) (fun _ _ _ _ _ => pts_nil) (fun _ _ _ _ _ => (pe_cmpR op_in_sign (pv 2) (pv 1) rfl))) pa_nil)))), ?_⟩
    refine ⟨_, rfl, t, rfl, fun D hD => lc_txt (fun _ => true) (fun c => .bl (inS sg c)) hD (szt (by omega)) (fun c hc H2 R S s2 h1 h2 => ?_) (fun H2 s2 h2 => ?_)⟩
    · exact ⟨rfl, ⟨_, rfl, _, rfl, c, sg, rfl, rfl, h1 rfl _ (Same.refl _)⟩⟩
    · refine ⟨D, t.cps.toList.map (inS sg), rfl, SqL.of (by rw [h2, filt1, List.map_map]; rfl), ?_⟩
      rw [List.all_map]
      exact q _ s2
def goodT (t sg : Str) (m : Int) : Bool := decide (1 ≤ (t.length : Int)) && (decide ((t.length : Int) ≤ m) && t.cps.toList.all (inS sg))
def spStrT : Sp := fun vs H Q _ => ∃ (t sg : Str) (m : Int), vs = [.str t, .str sg, .int m] ∧ t.length ≤ 100000 ∧ m ≤ 100 ∧ ∀ H', Same H H' → Q (.bl (goodT t sg m)) H'
theorem ok_is_string_of (T : Tex K mg D) : FnOk P w K mg base CX0 2 D.a_is_string_of D.d_is_string_of P_is_string_of spStrT := by
  have G_consists_of : FnOk P w K mg base CX0 1 D.a_consists_of D.d_consists_of P_consists_of spConsistsOf := ok_consists_of T
  refine T.is_string_of_F.ok S_is_string_of (fun vs H Q E h => ?_) (fun cdv A outer s H vs Q E hr h => ?_)
  · obtain ⟨x, sg, m, rfl, _⟩ := h
    rfl
  · obtain ⟨t, sg, m, rfl, hl, hm, q⟩ := h
    refine ⟨_, (pss_one (ps_ret (pe_and (pe_callB call_isi (by rfl) T.b_isinstance (by decide +kernel) (pa_cons (pv 0) (pa_cons (pe_bltn (v := .ty "str") (u := .type "str") (by rfl) T.b_str (by decide +kernel) rfl) pa_nil))) (pe_and (pe_chain op_le op_le pe_int (pe_callB call_len_str (by rfl) T.b_len (by decide +kernel) (pa_cons (pv 0) pa_nil)) (pv 2)) (pe_one (pe_call G_consists_of (hr.mono (by decide)) (by rfl) T.consists_of_g T.consists_of_F.kp T.consists_of_b .nil pass0 (pa_cons (pv 0) (pa_cons (pv 1) pa_nil)))))))), ?_⟩
    refine ⟨_, rfl, .str t, .ty "str", .type "str", .type "str", true, rfl, .ty _, .base (.str t), kit_ty (by decide +kernel), true, rfl, iteT ?_⟩
    refine ⟨_, rfl, t, rfl, szL (by omega), _, _, rfl, rfl, _, rfl, ?_⟩
    unfold goodT at q
    refine ite2 (fun h1 => ?_) (fun h1 => ?_)
    · refine ⟨_, rfl, _, _, rfl, rfl, _, rfl, ite2 (fun h2 => ?_) (fun h2 => ?_)⟩
      · have h2' := of_decide_eq_true h2
        refine ⟨_, rfl, _, rfl, t, sg, rfl, by omega, fun H' s' => ?_⟩
        have q2 := q H' s'
        rw [h1, h2] at q2
        exact q2
      · have q2 := q H (Same.refl H)
        rw [h1, Bool.eq_false_iff.mpr h2] at q2
        exact q2
    · refine ⟨_, rfl, iteF ?_⟩
      have q2 := q H (Same.refl H)
      rw [Bool.eq_false_iff.mpr h1] at q2
      exact q2
def oV : Option Nat → V
  | none => .non
  | some n => .int (n : Int)
theorem inS_dig (c : Nat) : inS (("0123456789" : String) : Str) c = isDig c := by
  unfold inS isDig
  have e : ((("0123456789" : String) : Str)).cps.toList = [48, 49, 50, 51, 52, 53, 54, 55, 56, 57] := by decide +kernel
  rw [e, Bool.eq_iff_iff, decide_eq_true_eq, decide_eq_true_eq]
  simp only [List.mem_cons, List.not_mem_nil, or_false]
  omega
theorem good_nT (l : List Nat) (k : Nat) : goodT (S l) (("0123456789" : String) : Str) (k : Int) = (decide (1 ≤ l.length) && (decide (l.length ≤ k) && l.all isDig)) := by
  unfold goodT
  have e1 : decide (1 ≤ ((S l).length : Int)) = decide (1 ≤ l.length) := by rw [S_len]; exact decide_eq_decide.mpr (by omega)
  have e2 : decide (((S l).length : Int) ≤ (k : Int)) = decide (l.length ≤ k) := by rw [S_len]; exact decide_eq_decide.mpr (by omega)
  have e3 : (S l).cps.toList.all (inS (("0123456789" : String) : Str)) = l.all isDig := by
    show l.all _ = _
    congr 1
    funext c
    exact inS_dig c
  rw [e1, e2, e3]
theorem str_num (n : Nat) : Str.ofString (toString ((n : Nat) : Int)) = S (numL n) := ext_tl (tl_num n)
theorem log_num {n : Nat} (h : n < 100000) : ((n : Nat) : Int).natAbs.log2 < 1920 := by
  rw [Int.natAbs_natCast]
  by_cases h0 : n = 0
  · rw [h0]
    decide
  · exact Nat.lt_trans ((Nat.log2_lt h0).mpr (Nat.lt_of_lt_of_le h (by decide : 100000 ≤ 2 ^ 17))) (by decide)
theorem dv_lt : ∀ (l : List Nat), NumText.AllDigits l → NumText.digitsVal l < 10 ^ l.length := by
  intro l
  induction h : l.length generalizing l with
  | zero =>
    intro _
    have : l = [] := List.length_eq_zero_iff.mp h
    subst this
    decide
  | succ n ih =>
    intro hd
    obtain ⟨r, c, rfl⟩ : ∃ r c, l = r ++ [c] := ⟨l.dropLast, l.getLast (by intro e; rw [e] at h; cases h), (List.dropLast_concat_getLast _).symm⟩
    have hr : r.length = n := by simpa using h
    have h1 := ih r hr (fun x hx => hd x (List.mem_append_left _ hx))
    have h2 := hd c (by simp)
    rw [NumText.digitsVal_snoc, Nat.pow_succ]
    omega
/-- number_in, with the last number -/
def nTL (L : Nat) (l : List Nat) : Option Nat :=
  if (decide (1 ≤ l.length) && (decide (l.length ≤ (numL L).length) && l.all isDig)) = true then (if l.head? = some 48 ∧ l ≠ [48] then none else if NumText.digitsVal l ≤ L then some (NumText.digitsVal l) else none) else none
theorem allD {l : List Nat} (h : l.all isDig = true) : NumText.AllDigits l := by
  intro c hc
  have := List.all_eq_true.mp h c hc
  simp only [isDig, decide_eq_true_eq] at this
  omega
theorem nTL_999 (l : List Nat) : nTL 999 l = nT l := by
  unfold nTL nT
  have e : (numL 999).length = 3 := by decide +kernel
  rw [e]
  by_cases h : (decide (1 ≤ l.length) && (decide (l.length ≤ 3) && l.all isDig)) = true
  · rw [if_pos h, if_pos h]
    simp only [Bool.and_eq_true, decide_eq_true_eq] at h
    have hv := dv_lt l (allD h.2.2)
    have : NumText.digitsVal l ≤ 999 := by
      have h3 : (10 : Nat) ^ l.length ≤ 10 ^ 3 := Nat.pow_le_pow_right (by decide) h.2.1
      have : (10 : Nat) ^ 3 = 1000 := rfl
      omega
    rw [if_pos this]
  · rw [if_neg h, if_neg h]
def spNumL : Sp := fun vs H Q _ => ∃ (l : List Nat) (L : Nat), vs = [.str (S l), .int (L : Int)] ∧ l.length ≤ 100000 ∧ L < 100000 ∧ ∀ H', Same H H' → Q (oV (nTL L l)) H'
theorem zero_txt : (("0" : String) : Str) = S [48] := by decide +kernel
theorem ok_number_in (T : Tex K mg D) : FnOk P w K mg base CX0 3 D.a_number_in D.d_number_in P_number_in spNumL := by
  have G_is_string_of : FnOk P w K mg base CX0 2 D.a_is_string_of D.d_is_string_of P_is_string_of spStrT := ok_is_string_of T
  refine T.number_in_F.ok S_number_in (fun vs H Q E h => ?_) (fun cdv A outer s H vs Q E hr h => ?_)
  · obtain ⟨l, L, rfl, _⟩ := h
    rfl
  · obtain ⟨l, L, rfl, hl, hL, q⟩ := h
    have hLl : (numL L).length ≤ 5 := numL_len (by decide) hL
    refine ⟨_, (pss_cons (ps_if (pt_not (pt_val (pe_call G_is_string_of (hr.mono (by decide)) (by rfl) T.is_string_of_g T.is_string_of_F.kp T.is_string_of_b .nil pass0 (pa_cons (pv 0) (pa_cons (pe_glob (v := .str "0123456789") rfl T.c_DIGITS ⟨_, rfl⟩) (pa_cons (pe_callB call_len_str (by rfl) T.b_len (by decide +kernel) (pa_cons (pe_callTy call_str_int (by rfl) T.b_str (by decide +kernel) (pa_cons (pv 1) pa_nil)) pa_nil)) pa_nil)))))) (pss_one (ps_ret pe_non)) pss_nil)
      (pss_cons (ps_if (PW.pt (pw_and (pt_cmpR op_eq (pe_ix ix_str (pv 0) pe_int (fun _ _ => rfl)) pe_str (nomark _)) (pw_and1 (pt_cmpR op_ne (pv 0) pe_str (nomark _))))) (pss_one (ps_ret pe_non)) pss_nil)
      (pss_cons (ps_set (i := 2) S_number_in.nd rfl (Or.inl rfl) (pe_callTy call_int_str (by rfl) T.b_int (by decide +kernel) (pa_cons (pv 0) pa_nil)))
      (pss_one (ps_ret (pe_ifExp (pt_cmpR op_le (pv 2) (pv 1) (nomark _)) (pv 2) pe_non)))))), ?_⟩
    refine ⟨_, rfl, _, rfl, _, rfl, log_num hL, ?_⟩
    rw [str_num]
    refine ⟨_, rfl, by rw [S_len]; exact szl (by omega), S l, (("0123456789" : String) : Str), ((numL L).length : Int), by rw [S_len]; rfl, by rw [S_len]; exact hl, by omega, fun H1 s1 => ⟨_, rfl, ?_⟩⟩
    rw [good_nT]
    unfold nTL at q
    cases hg : (decide (1 ≤ l.length) && (decide (l.length ≤ (numL L).length) && l.all isDig)) with
    | false =>
      rw [hg] at q
      exact iteT (q H1 s1)
    | true =>
      rw [hg, if_pos rfl] at q
      refine iteF ?_
      simp only [Bool.and_eq_true, decide_eq_true_eq] at hg
      obtain ⟨hg1, hg3, hgd⟩ := hg
      have hdig : NumText.AllDigits l := allD hgd
      have hne : l ≠ [] := fun e => by
        rw [e] at hg1
        simp at hg1
      have hin : PySem.intText? (S l) = some ((NumText.digitsVal l : Nat) : Int) := intText_digits (x := S l) hdig hne (by rw [S_len]; omega)
      obtain ⟨c, r, rfl⟩ : ∃ c r, l = c :: r := by
        cases l with
        | nil => exact absurd rfl hne
        | cons c r => exact ⟨c, r, rfl⟩
      have h64 : (S (c :: r)).length ≤ 640 := by rw [S_len]; omega
      refine ⟨_, rfl, S (c :: r), 0, c, rfl, rfl, by rw [S_len]; exact szL (by omega), atI_nat (j := 0) rfl, rfl, _, rfl, ?_⟩
      rw [zero_txt]
      by_cases h0 : c = 48
      · subst h0
        rw [decide_eq_true rfl]
        refine iteT ⟨_, rfl, rfl, _, rfl, ?_⟩
        by_cases h1 : r = []
        · subst h1
          rw [decide_eq_true rfl]
          rw [if_neg (by simp)] at q
          refine iteF ⟨_, rfl, S [48], _, rfl, hin, h64, _, rfl, _, rfl, _, _, rfl, rfl, ?_⟩
          refine ⟨_, rfl, ite2 (fun h2 => ?_) (fun h2 => ?_)⟩
          · have h2' := of_decide_eq_true h2
            rw [if_pos (by omega)] at q
            exact ⟨_, rfl, q H1 s1⟩
          · have h2' := of_decide_eq_false (Bool.eq_false_iff.mpr h2)
            rw [if_neg (by omega)] at q
            exact q H1 s1
        · have hd : decide (V.str (S (48 :: r)) = V.str (S [48])) = false := decide_eq_false (by
            intro e
            injection e with e
            have e2 := S_inj e
            injection e2 with _ e3
            exact h1 e3)
          rw [hd]
          rw [if_pos (by simp [h1])] at q
          exact iteT (q H1 s1)
      · have hd : decide (V.str (S [c]) = V.str (S [48])) = false := decide_eq_false (by
          intro e
          injection e with e
          have e2 := S_inj e
          injection e2 with e3
          exact h0 e3)
        rw [hd]
        rw [if_neg (by simp [h0])] at q
        refine iteF (iteF ⟨_, rfl, S (c :: r), _, rfl, hin, h64, _, rfl, _, rfl, _, _, rfl, rfl, ?_⟩)
        refine ⟨_, rfl, ite2 (fun h2 => ?_) (fun h2 => ?_)⟩
        · have h2' := of_decide_eq_true h2
          rw [if_pos (by omega)] at q
          exact ⟨_, rfl, q H1 s1⟩
        · have h2' := of_decide_eq_false (Bool.eq_false_iff.mpr h2)
          rw [if_neg (by omega)] at q
          exact q H1 s1

/-! ### stage_of_text -/
def stN : List V := [.str "a", .str "b", .str "rc"]
theorem wd_txt : (("a" : String) : Str) = S (wd 0) ∧ (("b" : String) : Str) = S (wd 1) ∧ (("rc" : String) : Str) = S (wd 2) := by decide +kernel
theorem stN_at {i : Nat} {x : V} (h : stN[i]? = some x) : i < 3 ∧ x = .str (S (wd i)) := by
  match i, h with
  | 0, h => exact ⟨by decide, by rw [← wd_txt.1]; exact (Option.some.inj h).symm⟩
  | 1, h => exact ⟨by decide, by rw [← wd_txt.2.1]; exact (Option.some.inj h).symm⟩
  | 2, h => exact ⟨by decide, by rw [← wd_txt.2.2]; exact (Option.some.inj h).symm⟩
  | n + 3, h => simp [stN] at h
theorem wd_ne (i : Nat) : wd i ≠ [] := by
  match i with
  | 0 => simp [wd]
  | 1 => simp [wd]
  | n + 2 => simp [wd]
theorem par_len {b : List Nat} : ∀ {a acc p q : List Nat}, par b acc a = some (p, q) → q.length ≤ a.length ∧ p.length ≤ acc.length + a.length
  | [], acc, p, q, h => by simp [par] at h
  | c :: r, acc, p, q, h => by
    unfold par at h
    split at h
    · injection h with h
      injection h with h1 h2
      rw [← h2, ← h1, List.length_drop]
      omega
    · have := par_len h
      rw [List.length_append] at this
      simp only [List.length_cons, List.length_nil] at this ⊢
      omega
theorem sTn_step {l : List Nat} {k i : Nat} (h : par (wd i) [] l = none) : sTn l (k + 1) i = sTn l k (i + 1) := by
  show (match par (wd i) [] l with
    | some (p, q) => (p, (nT q).map (fun n => i * 1000 + n))
    | none => sTn l k (i + 1)) = _
  rw [h]
theorem sTn_hit {l p q : List Nat} {k i : Nat} (h : par (wd i) [] l = some (p, q)) : sTn l (k + 1) i = (p, (nT q).map (fun n => i * 1000 + n)) := by
  show (match par (wd i) [] l with
    | some (p, q) => (p, (nT q).map (fun n => i * 1000 + n))
    | none => sTn l k (i + 1)) = _
  rw [h]
def spStage : Sp := fun vs H Q _ => ∃ l : List Nat, vs = [.str (S l)] ∧ l.length ≤ 90000 ∧ ∀ p H', Same H H' → H p = none → H' p = some (.tup [.str (S (sT l).1), oV (sT l).2]) → (sT l).1.length ≤ l.length → Q (.ref p) H'
theorem ok_stage_of_text (T : Tex K mg D) : FnOk P w K mg base CX0 4 D.a_stage_of_text D.d_stage_of_text P_stage_of_text spStage := by
  have G_number_in : FnOk P w K mg base CX0 3 D.a_number_in D.d_number_in P_number_in spNumL := ok_number_in T
  refine T.stage_of_text_F.ok S_stage_of_text (fun vs H Q E h => ?_) (fun cdv A outer s H vs Q E hr h => ?_)
  · obtain ⟨l, rfl, _⟩ := h
    rfl
  · obtain ⟨l, rfl, hl, q⟩ := h
    have stK : ∀ H, SqT K H D.k_STAGES stN := fun H => T.v_STAGES.elim (fun h => by
      rcases h with h | ⟨o, h⟩
      · exact nomatch (show (none : Option HO) = some _ from h)
      · exact nomatch (show (none : Option HO) = some _ from h)) .inr
    refine ⟨_, (pss_cons (ps_for PassesOwn.never rfl (pi_enT (by rfl) T.b_enumerate (pa_cons (pe_glob (v := .ref D.k_STAGES) rfl T.c_STAGES rfl) pa_nil)) (pg_tup (by rfl) (pgs_cons (pg_name (i := 1) S_stage_of_text.nd rfl (Or.inl rfl)) (pgs_cons (pg_name (i := 2) S_stage_of_text.nd rfl (Or.inl rfl)) pgs_nil))) (pss_cons (ps_asg (pe_partition (pv 0) (pv 2)) (pg_tup (by rfl) (pgs_cons (pg_name (i := 3) S_stage_of_text.nd rfl (Or.inl rfl)) (pgs_cons (pg_name (i := 4) S_stage_of_text.nd rfl (Or.inl rfl)) (pgs_cons (pg_name (i := 5) S_stage_of_text.nd rfl (Or.inl rfl)) pgs_nil)))))
      (pss_one (ps_if (pt_truth (pv 4) (by intro _; rfl)) (pss_cons (ps_set (i := 6) S_stage_of_text.nd rfl (Or.inl rfl) (pe_call G_number_in (hr.mono (by decide)) (by rfl) T.number_in_g T.number_in_F.kp T.number_in_b .nil pass0 (pa_cons (pv 5) (pa_cons (pe_glob (v := .int 999) rfl T.c_GREATEST ⟨_, rfl⟩) pa_nil))))
      (pss_cons (ps_if (pt_cmpR op_isN (pv 6) pe_non (nomark _)) (pss_one (ps_ret (pe_tup (pa_cons (pv 3) (pa_cons pe_non pa_nil))))) pss_nil)
      (pss_one (ps_ret (pe_tup (pa_cons (pv 3) (pa_cons (pe_op op_add (pe_op op_mul (pv 1) pe_int) (pv 6)) pa_nil))))))) pss_nil))))
      (pss_one (ps_ret (pe_tup (pa_cons (pv 0) (pa_cons (pe_glob (v := .int 3000) rfl T.c_FINAL ⟨_, rfl⟩) pa_nil)))))), ?_⟩
    refine ⟨D.k_STAGES, stN, rfl, stK _, ?_⟩
    refine for_it (walk_enT (xs := stN)) (fun i σ H' => (∃ a b c d e f, σ = [some (.str (S l)), a, b, c, d, e, f]) ∧ Same H H' ∧ sT l = sTn l (3 - i) i) ⟨⟨_, _, _, _, _, _, rfl⟩, Same.refl _, rfl⟩ (fun i σ H' _ _ => stK _) ?_ ?_
    · rintro i x σ H1 H2 hi ⟨⟨o1, o2, o3, o4, o5, o6, rfl⟩, s1, est⟩ ⟨t1, x1, y1, rfl, ht1, rfl, ex, ey⟩
      obtain ⟨hi3, rfl⟩ := stN_at ey
      obtain rfl : V.int (i : Nat) = x1 := Option.some.inj ex
      have s2 := s1.trans (same_new (o := .tup [.int (i : Nat), .str (S (wd i))]) ht1)
      refine ⟨t1, _, rfl, .inl (.inl upd_same), rfl, _, _, rfl, _, _, rfl, rfl, ?_⟩
      have wl : ((S (wd i)).length == 0) = false := by
        rw [S_len]
        cases e : wd i with
        | nil => exact absurd e (wd_ne i)
        | cons c r => rfl
      have wl2 : (((S (wd i)).length : Int) != 0) = true := by
        rw [S_len]
        cases e : wd i with
        | nil => exact absurd e (wd_ne i)
        | cons c r =>
          rw [List.length_cons, bne_iff_ne]
          omega
      have wl3 : (S (wd i)).length ≤ sizeLine := by
        rw [S_len]
        exact szl (by
          match i with
          | 0 => decide
          | 1 => decide
          | n + 2 => simp [wd])
      cases hp : par (wd i) [] l with
      | none =>
        have ep : Txt.partition (S l) (S (wd i)) = (S l, S [], S []) := SX.partition_none (wd_ne i) hp
        refine ⟨_, rfl, ⟨_, rfl⟩, _, rfl, S l, S (wd i), rfl, rfl, wl, by rw [S_len]; exact szL (by omega), fun t2 ht2 => ?_⟩
        rw [ep]
        refine ⟨t2, _, rfl, .inl (.inl upd_same), rfl, _, _, rfl, _, _, rfl, _, _, rfl, rfl, ?_⟩
        refine ⟨_, rfl, false, ⟨Nat.zero_le _, rfl⟩, iteF ?_⟩
        refine ⟨⟨_, _, _, _, _, _, rfl⟩, s2.trans (same_new ht2), ?_⟩
        rw [est, show 3 - i = (3 - (i + 1)) + 1 by omega]
        exact sTn_step hp
      | some pq =>
        obtain ⟨p, q'⟩ := pq
        have ep : Txt.partition (S l) (S (wd i)) = (S p, S (wd i), S q') := SX.partition_some (wd_ne i) hp
        have hpl := par_len hp
        have eS : sT l = (p, (nT q').map (fun n => i * 1000 + n)) := by
          rw [est, show 3 - i = (3 - (i + 1)) + 1 by omega]
          exact sTn_hit hp
        rw [eS] at q
        refine ⟨_, rfl, ⟨_, rfl⟩, _, rfl, S l, S (wd i), rfl, rfl, wl, by rw [S_len]; exact szL (by omega), fun t2 ht2 => ?_⟩
        rw [ep]
        refine ⟨t2, _, rfl, .inl (.inl upd_same), rfl, _, _, rfl, _, _, rfl, _, _, rfl, rfl, ?_⟩
        refine ⟨_, rfl, true, ⟨wl3, wl2.symm⟩, iteT ?_⟩
        have s3 := s2.trans (same_new (o := .tup [.str (S p), .str (S (wd i)), .str (S q')]) ht2)
        refine ⟨_, rfl, q', 999, rfl, by omega, by decide, fun H4 s4 => ⟨_, rfl, rfl, _, rfl, ?_⟩⟩
        rw [nTL_999]
        cases hn : nT q' with
        | none =>
          rw [hn] at q
          refine iteT ⟨_, rfl, by show 2 ≤ sizeLine; decide, fun r hr => ?_⟩
          exact q r _ ((s3.trans s4).trans (same_new hr)) ((s3.trans s4).free hr) upd_same (by simpa using hpl.2)
        | some n =>
          rw [hn] at q
          refine iteF ⟨_, rfl, _, rfl, _, _, rfl, rfl, .inr ⟨by decide, by decide⟩, _, rfl, _, _, rfl, rfl, by show 2 ≤ sizeLine; decide, fun r hr => ?_⟩
          have e1 : oV ((some n).map (fun n => i * 1000 + n)) = V.int ((i : Int) * 1000 + (n : Int)) := by
            show V.int ((i * 1000 + n : Nat) : Int) = _
            congr 1
          rw [e1] at q
          exact q r _ ((s3.trans s4).trans (same_new hr)) ((s3.trans s4).free hr) upd_same (by simpa using hpl.2)
    · rintro σ H1 ⟨⟨o1, o2, o3, o4, o5, o6, rfl⟩, s1, est⟩
      have e0 : sT l = (l, some 3000) := est
      rw [e0] at q
      refine ⟨_, rfl, by show 2 ≤ sizeLine; decide, fun p hp => ?_⟩
      exact q p _ (s1.trans (same_new hp)) (s1.free hp) upd_same (Nat.le_refl _)

/-! ### parts_of_text -/
theorem dot_txt : (("." : String) : Str) = S [46] := by decide +kernel
theorem spl_len {b : List Nat} : ∀ {k : Nat} {acc l : List Nat}, (spl b k acc l).length ≤ l.length + 1 ∧ ∀ x ∈ spl b k acc l, x.length ≤ acc.length + l.length
  | k, acc, [] => by
    rw [spl_nil]
    simp
  | 0, acc, c :: r => by
    by_cases h : pre b (c :: r) = true
    · rw [spl_hit h]
      have ih := spl_len (b := b) (k := b.length - 1) (acc := []) (l := r)
      refine ⟨by simp only [List.length_cons]; omega, ?_⟩
      intro x hx
      rcases List.mem_cons.mp hx with rfl | hx
      · simp
      · have := ih.2 x hx
        simp only [List.length_nil, List.length_cons] at this ⊢
        omega
    · rw [spl_miss (Bool.eq_false_iff.mpr h)]
      have ih := spl_len (b := b) (k := 0) (acc := acc ++ [c]) (l := r)
      refine ⟨by simp only [List.length_cons]; omega, ?_⟩
      intro x hx
      have := ih.2 x hx
      simp only [List.length_append, List.length_cons, List.length_nil] at this ⊢
      omega
  | k + 1, acc, c :: r => by
    have ih := spl_len (b := b) (k := k) (acc := acc) (l := r)
    refine ⟨by show (spl b k acc r).length ≤ _; simp only [List.length_cons]; omega, ?_⟩
    intro x hx
    have := ih.2 x hx
    simp only [List.length_cons]
    omega
def vN (ns : List Nat) : List V := ns.map fun (n : Nat) => V.int (n : Int)
theorem allSome_some : ∀ {os : List (Option Nat)} {ns : List Nat}, allSome os = some ns → os = ns.map some
  | [], ns, h => by
    have : ns = [] := (Option.some.inj h).symm
    subst this
    rfl
  | none :: r, ns, h => by cases h
  | some n :: r, ns, h => by
    have h' : (allSome r).map (n :: ·) = some ns := h
    cases e : allSome r with
    | none =>
      rw [e] at h'
      cases h'
    | some m =>
      rw [e] at h'
      have h2 := Option.some.inj h'
      subst h2
      rw [allSome_some e]
      rfl
theorem allSome_none : ∀ {os : List (Option Nat)}, allSome os = none ↔ none ∈ os
  | [] => by simp [allSome]
  | none :: r => by simp [allSome]
  | some n :: r => by
    have ih := allSome_none (os := r)
    show (allSome r).map (n :: ·) = none ↔ _
    rw [Option.map_eq_none_iff, ih]
    simp
theorem inV_non (os : List (Option Nat)) : inV .non (os.map oV) = (allSome os).isNone := by
  rw [Bool.eq_iff_iff, Option.isNone_iff_eq_none, allSome_none]
  unfold inV
  rw [List.any_map, List.any_eq_true]
  constructor
  · rintro ⟨o, ho, he⟩
    cases o with
    | none => exact ho
    | some n => exact absurd he (by simp [oV, eqV])
  · intro h
    exact ⟨none, h, rfl⟩
theorem flat_oV (os : List (Option Nat)) : (os.map oV).all flatV = true := by
  rw [List.all_map, List.all_eq_true]
  intro o _
  cases o <;> rfl
/-- a version's parts as a value: None, or a new pair of a tuple of numbers and the stage -/
def spParts : Sp := fun vs H Q _ => ∃ l : List Nat, vs = [.str (S l)] ∧ l.length ≤ 80000 ∧
  (pT l = none → ∀ H', Same H H' → Q .non H') ∧
  (∀ ns st, pT l = some (ns, st) → ∀ p q H', Same H H' → H p = none → H' p = some (.tup [.ref q, .int (st : Int)]) → H' q = some (.tup (vN ns)) → Q (.ref p) H')
theorem ok_parts_of_text (T : Tex K mg D) : FnOk P w K mg base CX0 5 D.a_parts_of_text D.d_parts_of_text P_parts_of_text spParts := by
  have G_number_in : FnOk P w K mg base CX0 3 D.a_number_in D.d_number_in P_number_in spNumL := ok_number_in T
  have G_stage_of_text : FnOk P w K mg base CX0 4 D.a_stage_of_text D.d_stage_of_text P_stage_of_text spStage := ok_stage_of_text T
  refine T.parts_of_text_F.ok S_parts_of_text (fun vs H Q E h => ?_) (fun cdv A outer s H vs Q E hr h => ?_)
  · obtain ⟨l, rfl, _⟩ := h
    rfl
  · obtain ⟨l, rfl, hl, q0, q1⟩ := h
    refine ⟨_, (pss_cons (ps_if (pt_not (pt_val (pe_callB call_isi (by rfl) T.b_isinstance (by decide +kernel) (pa_cons (pv 0) (pa_cons (pe_bltn (v := .ty "str") (u := .type "str") (by rfl) T.b_str (by decide +kernel) rfl) pa_nil))))) (pss_one (ps_ret pe_non)) pss_nil)
      (pss_cons (ps_asg (pe_call G_stage_of_text (hr.mono (by decide)) (by rfl) T.stage_of_text_g T.stage_of_text_F.kp T.stage_of_text_b .nil pass0 (pa_cons (pv 0) pa_nil)) (pg_tup (by rfl) (pgs_cons (pg_name (i := 1) S_parts_of_text.nd rfl (Or.inl rfl)) (pgs_cons (pg_name (i := 2) S_parts_of_text.nd rfl (Or.inl rfl)) pgs_nil))))
      (pss_cons (ps_setLc (i := 3) (own := [(("part" : Str), 4)]) (g := gName 4) (tt := tYes) rfl S_parts_of_text.nd rfl rfl (sw_true rfl rfl rfl (by decide +kernel)) (pi_list (pe_split (pv 1) pe_str)) (blkOk_by (N := N_parts_of_text) (sc := defScope s_parts_of_text) (by decide +kernel)) (fun _ _ _ _ _ => pg_name (i := 4) S_parts_of_text.nd rfl (Or.inl rfl)) (fun _ _ _ _ _ => pts_nil) (fun _ _ _ _ _ => (pe_call G_number_in (hr.mono (by decide)) (by rfl) T.number_in_g T.number_in_F.kp T.number_in_b .nil pass0 (pa_cons (pv 4) (pa_cons (pe_glob (v := .int 999) rfl T.c_GREATEST ⟨_, rfl⟩) pa_nil)))))
      (pss_cons (ps_if (PW.pt (pw_or (pt_cmpR op_isN (pv 2) pe_non (nomark _)) (pw_or (pt_cmpR op_in_seq pe_non (pv 3) rfl) (pw_or1 (pt_cmpR op_gt (pe_callB call_len_seq (by rfl) T.b_len (by decide +kernel) (pa_cons (pv 3) pa_nil)) pe_int (nomark _)))))) (pss_one (ps_ret pe_non)) pss_nil)
      (pss_one (ps_ret (pe_tup (pa_cons (pe_callTy call_tuple_of (by rfl) T.b_tuple (by decide +kernel) (pa_cons (pv 3) pa_nil)) (pa_cons (pv 2) pa_nil))))))))), ?_⟩
    refine ⟨_, rfl, .str (S l), .ty "str", .type "str", .type "str", true, rfl, .ty _, .base (.str _), kit_ty (by decide +kernel), _, rfl, iteF ?_⟩
    refine ⟨_, rfl, l, rfl, by omega, fun t1 H1 s1 ht1 ht1' hfl => ?_⟩
    refine ⟨t1, _, rfl, .inl (.inl ht1'), rfl, _, _, rfl, _, _, rfl, rfl, ?_⟩
    generalize hfr : (sT l).1 = fr at hfl
    have esp : Txt.split (S fr) (S [46]) = (spl [46] 0 [] fr).map S := split_S (by simp) (by decide)
    have hsl := spl_len (b := [46]) (k := 0) (acc := []) (l := fr)
    refine ⟨_, rfl, ⟨_, rfl⟩, _, _, rfl, rfl, by rw [dot_txt]; rfl, by rw [S_len]; exact szL (by omega), fun t2 ht2 => ?_⟩
    rw [dot_txt, esp]
    have s2 := s1.trans (same_new (o := .lst (((spl [46] 0 [] fr).map S).map V.str)) ht2)
    have e2 : (upd H1 t2 (.lst (((spl [46] 0 [] fr).map S).map V.str))) t2 = some (.lst ((spl [46] 0 [] fr).map fun x => V.str (S x))) := by
      rw [upd_same, List.map_map]
      rfl
    revert s2 e2
    generalize upd H1 t2 (.lst (((spl [46] 0 [] fr).map S).map V.str)) = H2
    intro s2 e2
    refine ⟨t2, rfl, ⟨_, SqL.of e2⟩, fun D' hD' => lc_lst (spl [46] 0 [] fr) (fun x => V.str (S x)) (fun _ => true) (fun x => oV (nT x)) hD' (szT (by omega)) (SqL.of e2) (fun x hx H3 R S3 s3 h1 h2 => ?_) (fun H3 s3 h3 => ?_)⟩
    · have hxl := hsl.2 x hx
      exact ⟨rfl, ⟨_, rfl, x, 999, rfl, by simp at hxl; omega, by decide, fun H' s' => by rw [nTL_999]; exact h1 rfl H' s'⟩⟩
    · rw [filt1] at h3
      have h3' : H3 D' = some (.lst (((spl [46] 0 [] fr).map nT).map oV)) := by
        rw [h3, List.map_map]
        rfl
      have s4 := s2.trans s3
      have hlen : (((spl [46] 0 [] fr).map nT).map oV).length ≤ 90000 := by
        rw [List.length_map, List.length_map]
        omega
      have ep : pT l = (match (sT l).2, allSome ((spl [46] 0 [] fr).map nT) with
          | some st, some ns => if ns.length > 4 then none else some (ns, st)
          | _, _ => none) := by
        rw [← hfr]
        rfl
      rw [ep] at q0 q1
      generalize (spl [46] 0 [] fr).map nT = os at h3' hlen q0 q1
      generalize (sT l).2 = so at q0 q1
      refine ⟨_, rfl, rfl, _, rfl, ?_⟩
      cases so with
      | none => exact iteT (q0 rfl H3 s4)
      | some st =>
        refine iteF ⟨_, rfl, D', _, rfl, .inl (SqL.of h3'), rfl, flat_oV os, _, rfl, ?_⟩
        show if (inV .non (os.map oV)) = true then _ else _
        rw [inV_non]
        cases ea : allSome os with
        | none =>
          rw [ea] at q0
          exact iteT (q0 rfl H3 s4)
        | some ns =>
          rw [ea] at q0 q1
          have eo := allSome_some ea
          have eo2 : os.map oV = vN ns := by
            rw [eo, List.map_map]
            rfl
          rw [eo2] at h3' hlen
          refine iteF ⟨_, rfl, D', _, rfl, .inl (SqL.of h3'), _, _, rfl, rfl, _, rfl, ?_⟩
          have hln : (vN ns).length = ns.length := List.length_map _
          by_cases h4 : ns.length > 4
          · rw [decide_eq_true (by rw [hln]; omega)]
            refine iteT (q0 ?_ H3 s4)
            simp only [if_pos h4]
          · rw [decide_eq_false (by rw [hln]; omega)]
            refine iteF ⟨_, rfl, D', _, rfl, .inl ⟨SqL.of h3', fun q hq => ⟨_, rfl, by show 2 ≤ sizeLine; decide, fun p hp => ?_⟩⟩⟩
            have s5 := s4.trans (same_new (o := .tup (vN ns)) hq)
            refine q1 ns st (by simp only [if_neg h4]) p q _ (s5.trans (same_new hp)) (s5.free hp) upd_same ?_
            rw [upd_ne (ne_of_none upd_same hp), upd_same]

/-! ### ranks -/
def spRank (K : PySem.W.Frag) : Sp := fun vs H Q _ => ∃ (a : Addr) (ns : List Nat) (st : Nat), vs = [.ref a, .int (st : Int)] ∧ SqT K H a (vN ns) ∧ ns ≠ [] ∧ ns.length ≤ 10 ∧ ∀ H', Same H H' → Q (.int (rk ns st : Nat)) H'
theorem ok_rank_of (T : Tex K mg D) : FnOk P w K mg base CX0 1 D.a_rank_of D.d_rank_of P_rank_of (spRank K) := by
  refine T.rank_of_F.ok S_rank_of (fun vs H Q E h => ?_) (fun cdv A outer s H vs Q E hr h => ?_)
  · obtain ⟨a, ns, st, rfl, _⟩ := h
    rfl
  · obtain ⟨a, ns, st, rfl, ha, hne, h4, q⟩ := h
    refine ⟨_, (pss_cons (ps_set (i := 2) S_rank_of.nd rfl (Or.inl rfl) pe_int)
      (pss_cons (ps_for PassesOwn.never rfl (pi_tup (pe_slice sl_tupA (pe_op op_catA (pe_callTy call_tupleT (by rfl) T.b_tuple (by decide +kernel) (pa_cons (pv 0) pa_nil)) (pe_tup (pa_cons pe_int (pa_cons pe_int (pa_cons pe_int pa_nil))))) po_none (po_some pe_int))) (pg_name (i := 3) S_rank_of.nd rfl (Or.inl rfl)) (pss_one (ps_set (i := 2) S_rank_of.nd rfl (Or.inl rfl) (pe_op op_add (pe_op op_mul (pv 2) pe_int) (pv 3)))))
      (pss_one (ps_ret (pe_op op_add (pe_op op_mul (pv 2) (pe_glob (v := .int 3001) rfl T.c_WIDTH ⟨_, rfl⟩)) (pv 1)))))), ?_⟩
    have hln : (vN ns).length = ns.length := List.length_map _
    have hi0 : vN ns ≠ [] := by
      intro e
      exact hne (List.map_eq_nil_iff.mp e)
    refine ⟨_, rfl, a, _, rfl, ha, by show 3 ≤ sizeLine; decide, fun z hz => ?_⟩
    have hz0 : (vN [0, 0, 0]) = [V.int 0, .int 0, .int 0] := rfl
    have s1 : Same H (upd H z (.tup [.int 0, .int 0, .int 0])) := same_new hz
    have keepT : ∀ {H1 H2 : Hp} {b : Addr} {xs : List V}, Same H1 H2 → SqT K H1 b xs → SqT K H2 b xs := by
      intro H1 H2 b xs e h
      rcases h with (h | ⟨o, h⟩) | h
      · exact .inl (.inl (e _ _ h))
      · exact .inl (.inr ⟨o, e _ _ h⟩)
      · exact .inr h
    refine ⟨a, z, _, _, rfl, rfl, keepT s1 ha, .inl (.inl upd_same), by rw [hln]; exact szl (by simp; omega), fun e => absurd e hi0, fun _ e => (nomatch e), fun _ _ p hp => ?_⟩
    have s2 := s1.trans (same_new (o := .tup (vN ns ++ [.int 0, .int 0, .int 0])) hp)
    have ecut : cutV (vN ns ++ [.int 0, .int 0, .int 0]) none (some 4) = vN ((ns ++ [0, 0, 0]).take 4) := by
      unfold cutV
      have e1 : HT.sIx (vN ns ++ [V.int 0, .int 0, .int 0]).length 0 none = 0 := rfl
      have e2 : HT.sIx (vN ns ++ [V.int 0, .int 0, .int 0]).length (vN ns ++ [V.int 0, .int 0, .int 0]).length (some 4) = 4 := by
        have := HT.sIx_nat (vN ns ++ [V.int 0, .int 0, .int 0]).length (vN ns ++ [V.int 0, .int 0, .int 0]).length 4
        rw [List.length_append, hln] at this ⊢
        have hp : 1 ≤ ns.length := List.length_pos_iff.mpr hne
        have h3 : ([V.int 0, .int 0, .int 0] : List V).length = 3 := rfl
        rw [h3] at this ⊢
        rw [show ((4 : Nat) : Int) = 4 from rfl] at this
        rw [this]
        omega
      rw [e1, e2, List.drop_zero]
      show (vN ns ++ vN [0, 0, 0]).take 4 = _
      unfold vN
      rw [← List.map_append, List.map_take]
    refine ⟨_, rfl, p, _, rfl, .inl (.inl upd_same), fun hw => ?_, fun hw p2 hp2 => ?_⟩
    · have hb : SqT K (upd (upd H z (.tup [.int 0, .int 0, .int 0])) p (.tup (vN ns ++ [.int 0, .int 0, .int 0]))) p (vN ((ns ++ [0, 0, 0]).take 4)) := by
        have e : vN ((ns ++ [0, 0, 0]).take 4) = vN ns ++ [.int 0, .int 0, .int 0] := by
          rw [← ecut]
          unfold cutV
          rw [hw.1, hw.2, List.drop_zero, Nat.sub_zero, List.take_length]
        rw [e]
        exact .inl (.inl upd_same)
      revert hb s2
      generalize upd (upd H z (.tup [.int 0, .int 0, .int 0])) p (.tup (vN ns ++ [.int 0, .int 0, .int 0])) = H3
      intro s2 hb
      refine ⟨_, rfl, ⟨_, hb⟩, for_tup (K := K) (xs := vN ((ns ++ [0, 0, 0]).take 4)) (fun i σ H' => Same H3 H' ∧ ∃ x, σ = [some (.ref a), some (.int (st : Int)), some (.int (((((ns ++ [0, 0, 0]).take 4).take i).foldl (fun r n => r * 1000 + n) 0 : Nat) : Int)), x]) ⟨Same.refl _, _, rfl⟩ (fun i σ H' _ h => keepT h.1 hb) ?_ ?_⟩
      · rintro i y σ H4 hi ⟨s4, x, rfl⟩
        have hi' : ∃ n, ((ns ++ [0, 0, 0]).take 4)[i]? = some n ∧ y = V.int ((n : Nat) : Int) := by
          unfold vN at hi
          rw [List.getElem?_map] at hi
          cases e : ((ns ++ [0, 0, 0]).take 4)[i]? with
          | none =>
            rw [e] at hi
            cases hi
          | some n =>
            rw [e] at hi
            exact ⟨n, rfl, (Option.some.inj hi).symm⟩
        obtain ⟨n, hn, rfl⟩ := hi'
        refine ⟨_, rfl, _, _, rfl, rfl, .inr ⟨by decide, by decide⟩, _, rfl, _, _, rfl, rfl, s4, some (.int ((n : Nat) : Int)), ?_⟩
        rw [one_more hn, List.foldl_append]
        rfl
      · rintro σ H4 ⟨s4, x, rfl⟩
        refine ⟨_, rfl, _, _, rfl, rfl, .inr ⟨by decide, by decide⟩, _, rfl, _, _, rfl, rfl, ?_⟩
        have hl4 : (vN ((ns ++ [0, 0, 0]).take 4)).length = ((ns ++ [0, 0, 0]).take 4).length := List.length_map _
        rw [hl4, List.take_length]
        exact q _ (s2.trans s4)
    · have hb : SqT K (upd (upd (upd H z (.tup [.int 0, .int 0, .int 0])) p (.tup (vN ns ++ [.int 0, .int 0, .int 0]))) p2 (.tup (cutV (vN ns ++ [.int 0, .int 0, .int 0]) none (some 4)))) p2 (vN ((ns ++ [0, 0, 0]).take 4)) := by
        rw [← ecut]
        exact .inl (.inl upd_same)
      have s3 := s2.trans (same_new (o := .tup (cutV (vN ns ++ [.int 0, .int 0, .int 0]) none (some 4))) hp2)
      clear s2
      revert hb s3
      generalize upd (upd (upd H z (.tup [.int 0, .int 0, .int 0])) p (.tup (vN ns ++ [.int 0, .int 0, .int 0]))) p2 (.tup (cutV (vN ns ++ [.int 0, .int 0, .int 0]) none (some 4))) = H3
      intro hb s2
      refine ⟨_, rfl, ⟨_, hb⟩, for_tup (K := K) (xs := vN ((ns ++ [0, 0, 0]).take 4)) (fun i σ H' => Same H3 H' ∧ ∃ x, σ = [some (.ref a), some (.int (st : Int)), some (.int (((((ns ++ [0, 0, 0]).take 4).take i).foldl (fun r n => r * 1000 + n) 0 : Nat) : Int)), x]) ⟨Same.refl _, _, rfl⟩ (fun i σ H' _ h => keepT h.1 hb) ?_ ?_⟩
      · rintro i y σ H4 hi ⟨s4, x, rfl⟩
        have hi' : ∃ n, ((ns ++ [0, 0, 0]).take 4)[i]? = some n ∧ y = V.int ((n : Nat) : Int) := by
          unfold vN at hi
          rw [List.getElem?_map] at hi
          cases e : ((ns ++ [0, 0, 0]).take 4)[i]? with
          | none =>
            rw [e] at hi
            cases hi
          | some n =>
            rw [e] at hi
            exact ⟨n, rfl, (Option.some.inj hi).symm⟩
        obtain ⟨n, hn, rfl⟩ := hi'
        refine ⟨_, rfl, _, _, rfl, rfl, .inr ⟨by decide, by decide⟩, _, rfl, _, _, rfl, rfl, s4, some (.int ((n : Nat) : Int)), ?_⟩
        rw [one_more hn, List.foldl_append]
        rfl
      · rintro σ H4 ⟨s4, x, rfl⟩
        refine ⟨_, rfl, _, _, rfl, rfl, .inr ⟨by decide, by decide⟩, _, rfl, _, _, rfl, rfl, ?_⟩
        have hl4 : (vN ((ns ++ [0, 0, 0]).take 4)).length = ((ns ++ [0, 0, 0]).take 4).length := List.length_map _
        rw [hl4, List.take_length]
        exact q _ (s2.trans s4)
end

/-! ## Versions: written, made, compared -/
section
variable {P : Program} {w : World} {K : PySem.W.Frag} {mg : Str → Option Value} {base : Heap} {D : Ad}
open TL SX
def LAST : Nat := 3000999999999999
theorem sqT_keep {H1 H2 : Hp} {b : Addr} {xs : List V} (e : Same H1 H2) (h : SqT K H1 b xs) : SqT K H2 b xs := by
  rcases h with (h | ⟨o, h⟩) | h
  · exact .inl (.inl (e _ _ h))
  · exact .inl (.inr ⟨o, e _ _ h⟩)
  · exact .inr h
theorem sqT_of {H : Hp} {b : Addr} {xs : List V} (h : H b = some (.tup xs)) : SqT K H b xs := .inl (.inl h)
theorem stK (T : Tex K mg D) (H : Hp) : SqT K H D.k_STAGES stN := T.v_STAGES.elim (fun h => by
  rcases h with h | ⟨o, h⟩
  · exact nomatch (show (none : Option HO) = some _ from h)
  · exact nomatch (show (none : Option HO) = some _ from h)) .inr
def spN4 : Sp := fun vs H Q _ => ∃ r : Nat, vs = [.int (r : Int)] ∧ ∀ p H', Same H H' → H p = none → H' p = some (.tup (vN (n4 r))) → Q (.ref p) H'
theorem ok_numbers_at (T : Tex K mg D) : FnOk P w K mg base CX0 1 D.a_numbers_at D.d_numbers_at P_numbers_at spN4 := by
  refine T.numbers_at_F.ok S_numbers_at (fun vs H Q E h => ?_) (fun cdv A outer s H vs Q E hr h => ?_)
  · obtain ⟨r, rfl, _⟩ := h
    rfl
  · obtain ⟨r, rfl, q⟩ := h
    refine ⟨_, (pss_cons (ps_set (i := 1) S_numbers_at.nd rfl (Or.inl rfl) (pe_op op_fdiv (pv 0) (pe_glob (v := .int 3001) rfl T.c_WIDTH ⟨_, rfl⟩)))
      (pss_one (ps_ret (pe_tup (pa_cons (pe_op op_fdiv (pv 1) (pe_op op_pow pe_int pe_int)) (pa_cons (pe_op op_mod (pe_op op_fdiv (pv 1) (pe_op op_pow pe_int pe_int)) pe_int) (pa_cons (pe_op op_mod (pe_op op_fdiv (pv 1) pe_int) pe_int) (pa_cons (pe_op op_mod (pv 1) pe_int) pa_nil)))))))), ?_⟩
    refine ⟨_, rfl, _, _, rfl, rfl, ⟨by decide, by decide⟩, ?_⟩
    refine ⟨_, rfl, _, _, rfl, rfl, ⟨by decide, by decide, by decide⟩, _, _, rfl, rfl, ⟨by decide, by decide⟩, ?_⟩
    refine ⟨_, rfl, _, _, rfl, rfl, ⟨by decide, by decide, by decide⟩, _, _, rfl, rfl, ⟨by decide, by decide⟩, _, _, rfl, rfl, (posI rfl), ?_⟩
    refine ⟨_, rfl, _, _, rfl, rfl, ⟨by decide, by decide⟩, _, _, rfl, rfl, (posI rfl), _, rfl, _, _, rfl, rfl, (posI rfl), by show 4 ≤ sizeLine; decide, fun p hp => ?_⟩
    refine q p _ (same_new hp) hp ?_
    rw [upd_same]
    congr 2
def spTxN (K : PySem.W.Frag) : Sp := fun vs H Q _ => ∃ (a : Addr) (ns : List Nat), vs = [.ref a] ∧ SqT K H a (vN ns) ∧ ns ≠ [] ∧ ns.length ≤ 4 ∧ (∀ n ∈ ns, n < 1000) ∧ ∀ H', Same H H' → Q (.str (S (joinL [46] ((trim ns).map numL)))) H'
/-- a comprehension over a tuple -/
theorem lc_tpl {α : Type} {K : PySem.W.Frag} {a : Addr} (xs : List α) (emb : α → V) {g : TG} {tt : TT} {te : TE} {vs : List Nat} {σ : L2.St} {H1 : Hp} {D : Addr} {Qd : Hp → Prop} (p : α → Bool) (f : α → V) (hD : H1 D = none) (hz : xs.length < sizeLine)
    (ha : SqT K H1 a (xs.map emb))
    (hs : ∀ c, c ∈ xs → ∀ (H : Hp) (R : VK) (S : Hp → Prop), Same H1 H → (p c = true → ∀ H', Same H H' → R (f c) H') → (p c = false → ∀ H', Same H H' → S H') →
      g (emb c) (wipe σ vs) H fun σ2 H2 => wipe σ2 vs = wipe σ vs ∧ tt σ2 H2 fun b H3 => if b = true then te σ2 H3 R else S H3)
    (hd : ∀ H, Same H1 H → H D = some (.lst ((xs.filter p).map f)) → Qd H) :
    ∃ W : Nat → Nat → Hp → Prop, (∃ m, W 0 m (upd H1 D (.lst []))) ∧ ∀ i m H, W i m H →
      ((Itt K a).stop i H ∧ Qd H) ∨ ((Itt K a).go i H ∧ ∃ Nx : Hp → Prop, (∀ H', Nx H' → ∃ m', m' < m ∧ W (i + 1) m' H') ∧
        ∀ x H', (Itt K a).yld i H x H' → g x (wipe σ vs) H' fun σ2 H2 => wipe σ2 vs = wipe σ vs ∧ tt σ2 H2 fun b H3 =>
          if b = true then te σ2 H3 fun y H4 => ∃ acc, H4 D = some (.lst acc) ∧ acc.length < sizeLine ∧ Nx (upd H4 D (.lst (acc ++ [y]))) else Nx H3) :=
  lc_map (walk_tup (K := K) (a := a) (xs := xs.map emb)) xs emb (by simp)
    (fun i H x H' ⟨e, h⟩ => ⟨e, by
      rw [List.getElem?_map] at h
      cases q : xs[i]? with
      | none =>
        rw [q] at h
        cases h
      | some c =>
        rw [q] at h
        exact ⟨c, rfl, (Option.some.inj h).symm⟩⟩) p f hD (by simpa using hz) (fun H s => sqT_keep s ha) hs hd
theorem numL_len3 {n : Nat} (h : n < 1000) : (numL n).length ≤ 3 := numL_len (by decide) h
theorem sum_le : ∀ (xs : List Nat), (∀ n ∈ xs, n < 1000) → ((xs.map fun n => S (numL n)).map (·.length)).sum ≤ 3 * xs.length
  | [], _ => by simp
  | n :: r, h => by
    have ih := sum_le r fun m hm => h m (List.mem_cons_of_mem _ hm)
    have h1 := numL_len3 (h n (by simp))
    simp only [List.map_cons, List.sum_cons, List.length_cons, S_len]
    omega
theorem ok_text_of_numbers (T : Tex K mg D) : FnOk P w K mg base CX0 1 D.a_text_of_numbers D.d_text_of_numbers P_text_of_numbers (spTxN K) := by
  refine T.text_of_numbers_F.ok S_text_of_numbers (fun vs H Q E h => ?_) (fun cdv A outer s H vs Q E hr h => ?_)
  · obtain ⟨a, ns, rfl, _⟩ := h
    rfl
  · obtain ⟨a, ns, rfl, ha, hne, h4, hb, q⟩ := h
    have hln : (vN ns).length = ns.length := List.length_map _
    have hp1 : 1 ≤ ns.length := List.length_pos_iff.mpr hne
    refine ⟨_, (pss_cons (ps_set (i := 1) S_text_of_numbers.nd rfl (Or.inl rfl) (pe_callB call_len_seq (by rfl) T.b_len (by decide +kernel) (pa_cons (pv 0) pa_nil)))
      (pss_cons (ps_while PassesOwn.never (PW.pt (pw_and (pt_cmpR op_gt (pv 1) pe_int (nomark _)) (pw_and1 (pt_cmpR op_eq (pe_ix ix_tup (pv 0) (pe_op op_sub (pv 1) pe_int) (fun _ _ => rfl)) pe_int (nomark _))))) (pss_one (ps_aug (i := 1) S_text_of_numbers.nd rfl (Or.inl rfl) pe_int ip_sub)))
      (pss_one (ps_ret (pe_join pe_str (pe_lc (own := [(("number" : Str), 2)]) (g := gName 2) (tt := tYes) rfl S_text_of_numbers.nd (pi_tup (pe_slice sl_tupA (pv 0) po_none (po_some (pv 1)))) (blkOk_by (N := N_text_of_numbers) (sc := defScope s_text_of_numbers) (by decide +kernel)) (fun _ _ _ _ _ => pg_name (i := 2) S_text_of_numbers.nd rfl (Or.inl rfl)) (fun _ _ _ _ _ => pts_nil) (fun _ _ _ _ _ => (pe_callTy call_str_int (by rfl) T.b_str (by decide +kernel) (pa_cons (pv 2) pa_nil))))))))), ?_⟩
    refine ⟨_, rfl, a, _, rfl, .inr ha, ?_⟩
    rw [hln]
    refine ⟨fun m σ H' => H' = H ∧ σ = [some (.ref a), some (.int (m : Int)), none] ∧ 1 ≤ m ∧ m ≤ ns.length ∧ many ns m = many ns ns.length, ⟨ns.length, rfl, rfl, hp1, Nat.le_refl _, rfl⟩, ?_⟩
    rintro m σ H' ⟨rfl, rfl, m1, m2, m3⟩
    have fin : many ns m = m → trim ns = ns.take m := by
      intro e1
      unfold trim
      rw [← m3, e1]
    refine ⟨_, rfl, _, _, rfl, rfl, _, rfl, ?_⟩
    by_cases h1 : m = 1
    · rw [decide_eq_false (by omega)]
      refine iteF (iteF ?_)
      have et := fin (by rw [h1]; rfl)
      have hcl : (vN ns).length = ns.length := List.length_map _
      have esl : HT.sIx (vN ns).length (vN ns).length (some (m : Int)) = m := by
        rw [HT.sIx_nat, hcl]
        omega
      have ecv : cutV (vN ns) none (some (m : Int)) = vN (trim ns) := by
        unfold cutV
        rw [esl, show HT.sIx (vN ns).length 0 none = 0 from rfl, List.drop_zero, et]
        unfold vN
        rw [List.map_take, Nat.sub_zero]
      have htl : (trim ns).length ≤ 4 := by
        rw [et, List.length_take]
        omega
      have htb : ∀ n ∈ trim ns, n < 1000 := fun n hn => hb n (by
        rw [et] at hn
        exact List.mem_of_mem_take hn)
      refine ⟨⟨_, rfl⟩, _, rfl, _, rfl, _, rfl, a, _, rfl, ha, fun hw => ?_, fun hw p2 hp2 => ?_⟩
      · have hb2 : SqT K H' a (vN (trim ns)) := by
          rw [← ecv]
          unfold cutV
          rw [hw.1, hw.2, List.drop_zero, Nat.sub_zero, List.take_length]
          exact ha
        have s2 := Same.refl H'
        refine ⟨_, rfl, ⟨_, hb2⟩, fun DD hDD => lc_tpl (trim ns) (fun (n : Nat) => V.int (n : Int)) (fun _ => true) (fun n => .str (S (numL n))) hDD (szt (by omega)) hb2 (fun n hn H4 R S4 s4 g1 g2 => ?_) (fun H4 s4 h4' => ?_)⟩
        · refine ⟨rfl, _, rfl, _, rfl, log_num (by have := htb n hn; omega), ?_⟩
          rw [str_num]
          exact g1 rfl _ (Same.refl _)
        · rw [filt1] at h4'
          refine ⟨_, DD, (trim ns).map (fun n => S (numL n)), rfl, rfl, .inl (SqL.of (by rw [h4', List.map_map]; rfl)), ?_, ?_⟩
          · have h1 := sum_le (trim ns) htb
            rw [List.length_map]
            have h2 : (("." : String) : Str).length = 1 := rfl
            rw [h2]
            omega
          · have ej : Txt.join (("." : String) : Str) ((trim ns).map fun n => S (numL n)) = S (joinL [46] ((trim ns).map numL)) := by
              rw [dot_txt, ← join_S, List.map_map]
              rfl
            rw [ej]
            exact q _ (s2.trans s4)
      · have hb2 : SqT K (upd H' p2 (.tup (cutV (vN ns) none (some (m : Int))))) p2 (vN (trim ns)) := by
          rw [← ecv]
          exact sqT_of upd_same
        have s2 : Same H' (upd H' p2 (.tup (cutV (vN ns) none (some (m : Int))))) := same_new hp2
        revert hb2 s2
        generalize upd H' p2 (.tup (cutV (vN ns) none (some (m : Int)))) = H3
        intro hb2 s2
        refine ⟨_, rfl, ⟨_, hb2⟩, fun DD hDD => lc_tpl (trim ns) (fun (n : Nat) => V.int (n : Int)) (fun _ => true) (fun n => .str (S (numL n))) hDD (szt (by omega)) hb2 (fun n hn H4 R S4 s4 g1 g2 => ?_) (fun H4 s4 h4' => ?_)⟩
        · refine ⟨rfl, _, rfl, _, rfl, log_num (by have := htb n hn; omega), ?_⟩
          rw [str_num]
          exact g1 rfl _ (Same.refl _)
        · rw [filt1] at h4'
          refine ⟨_, DD, (trim ns).map (fun n => S (numL n)), rfl, rfl, .inl (SqL.of (by rw [h4', List.map_map]; rfl)), ?_, ?_⟩
          · have h1 := sum_le (trim ns) htb
            rw [List.length_map]
            have h2 : (("." : String) : Str).length = 1 := rfl
            rw [h2]
            omega
          · have ej : Txt.join (("." : String) : Str) ((trim ns).map fun n => S (numL n)) = S (joinL [46] ((trim ns).map numL)) := by
              rw [dot_txt, ← join_S, List.map_map]
              rfl
            rw [ej]
            exact q _ (s2.trans s4)
    · rw [decide_eq_true (by omega)]
      refine iteT ?_
      have hix : (m : Int) - 1 = ((m - 1 : Nat) : Int) := by omega
      have hlt : m - 1 < ns.length := by omega
      obtain ⟨z, hz⟩ : ∃ z, ns[m - 1]? = some z := ⟨_, List.getElem?_eq_getElem hlt⟩
      have hat : atI (vN ns) ((m : Int) - 1) = some (.int ((z : Nat) : Int)) := by
        rw [hix]
        refine atI_nat ?_
        unfold vN
        rw [List.getElem?_map, hz]
        rfl
      refine ⟨_, rfl, _, rfl, _, _, rfl, rfl, a, _, _, .int ((z : Nat) : Int), rfl, rfl, ha, hat, rfl, _, rfl, ?_⟩
      obtain ⟨j, hj⟩ : ∃ j, m = j + 2 := ⟨m - 2, by omega⟩
      have hz' : ns[j + 1]? = some z := by rw [show j + 1 = m - 1 by omega]; exact hz
      by_cases h0 : z = 0
      · rw [h0, decide_eq_true (show V.int ((0 : Nat) : Int) = V.int 0 from rfl)]
        rw [h0] at hz'
        refine iteT ⟨fun σ' H'' => H'' = H' ∧ σ' = [some (.ref a), some (.int ((j + 1 : Nat) : Int)), none], fun σ' H'' hh => ⟨j + 1, by omega, hh.1, hh.2, by omega, by omega, ?_⟩, ?_⟩
        · have e : many ns (j + 2) = many ns (j + 1) := by
            show (if ns[j + 1]? = some 0 then many ns (j + 1) else j + 2) = _
            rw [if_pos hz']
          rw [← e, ← hj]
          exact m3
        · refine ⟨_, rfl, _, _, rfl, rfl, rfl, ?_⟩
          have e : (m : Int) - 1 = ((j + 1 : Nat) : Int) := by omega
          show [some (V.ref a), some (V.int ((m : Int) - 1)), none] = _
          rw [e]
      · rw [decide_eq_false (by
          intro e
          injection e with e
          omega)]
        refine iteF ?_
        have et : trim ns = ns.take m := fin (by
          rw [hj]
          show (if ns[j + 1]? = some 0 then many ns (j + 1) else j + 2) = _
          rw [if_neg (by rw [hz']; intro e; exact h0 (Option.some.inj e))])
        have hcl : (vN ns).length = ns.length := List.length_map _
        have esl : HT.sIx (vN ns).length (vN ns).length (some (m : Int)) = m := by
          rw [HT.sIx_nat, hcl]
          omega
        have ecv : cutV (vN ns) none (some (m : Int)) = vN (trim ns) := by
          unfold cutV
          rw [esl, show HT.sIx (vN ns).length 0 none = 0 from rfl, List.drop_zero, et]
          unfold vN
          rw [List.map_take, Nat.sub_zero]
        have htl : (trim ns).length ≤ 4 := by
          rw [et, List.length_take]
          omega
        have htb : ∀ n ∈ trim ns, n < 1000 := fun n hn => hb n (by
          rw [et] at hn
          exact List.mem_of_mem_take hn)
        refine ⟨⟨_, rfl⟩, _, rfl, _, rfl, _, rfl, a, _, rfl, ha, fun hw => ?_, fun hw p2 hp2 => ?_⟩
        · have hb2 : SqT K H' a (vN (trim ns)) := by
            rw [← ecv]
            unfold cutV
            rw [hw.1, hw.2, List.drop_zero, Nat.sub_zero, List.take_length]
            exact ha
          have s2 := Same.refl H'
          refine ⟨_, rfl, ⟨_, hb2⟩, fun DD hDD => lc_tpl (trim ns) (fun (n : Nat) => V.int (n : Int)) (fun _ => true) (fun n => .str (S (numL n))) hDD (szt (by omega)) hb2 (fun n hn H4 R S4 s4 g1 g2 => ?_) (fun H4 s4 h4' => ?_)⟩
          · refine ⟨rfl, _, rfl, _, rfl, log_num (by have := htb n hn; omega), ?_⟩
            rw [str_num]
            exact g1 rfl _ (Same.refl _)
          · rw [filt1] at h4'
            refine ⟨_, DD, (trim ns).map (fun n => S (numL n)), rfl, rfl, .inl (SqL.of (by rw [h4', List.map_map]; rfl)), ?_, ?_⟩
            · have h1 := sum_le (trim ns) htb
              rw [List.length_map]
              have h2 : (("." : String) : Str).length = 1 := rfl
              rw [h2]
              omega
            · have ej : Txt.join (("." : String) : Str) ((trim ns).map fun n => S (numL n)) = S (joinL [46] ((trim ns).map numL)) := by
                rw [dot_txt, ← join_S, List.map_map]
                rfl
              rw [ej]
              exact q _ (s2.trans s4)
        · have hb2 : SqT K (upd H' p2 (.tup (cutV (vN ns) none (some (m : Int))))) p2 (vN (trim ns)) := by
            rw [← ecv]
            exact sqT_of upd_same
          have s2 : Same H' (upd H' p2 (.tup (cutV (vN ns) none (some (m : Int))))) := same_new hp2
          revert hb2 s2
          generalize upd H' p2 (.tup (cutV (vN ns) none (some (m : Int)))) = H3
          intro hb2 s2
          refine ⟨_, rfl, ⟨_, hb2⟩, fun DD hDD => lc_tpl (trim ns) (fun (n : Nat) => V.int (n : Int)) (fun _ => true) (fun n => .str (S (numL n))) hDD (szt (by omega)) hb2 (fun n hn H4 R S4 s4 g1 g2 => ?_) (fun H4 s4 h4' => ?_)⟩
          · refine ⟨rfl, _, rfl, _, rfl, log_num (by have := htb n hn; omega), ?_⟩
            rw [str_num]
            exact g1 rfl _ (Same.refl _)
          · rw [filt1] at h4'
            refine ⟨_, DD, (trim ns).map (fun n => S (numL n)), rfl, rfl, .inl (SqL.of (by rw [h4', List.map_map]; rfl)), ?_, ?_⟩
            · have h1 := sum_le (trim ns) htb
              rw [List.length_map]
              have h2 : (("." : String) : Str).length = 1 := rfl
              rw [h2]
              omega
            · have ej : Txt.join (("." : String) : Str) ((trim ns).map fun n => S (numL n)) = S (joinL [46] ((trim ns).map numL)) := by
                rw [dot_txt, ← join_S, List.map_map]
                rfl
              rw [ej]
              exact q _ (s2.trans s4)
end

/-! ## Versions: the class -/
section
variable {P : Program} {w : World} {K : PySem.W.Frag} {mg : Str → Option Value} {base : Heap} {D : Ad}
open TL SX
theorem wd_len (i : Nat) : (wd i).length ≤ 2 := by
  match i with
  | 0 => simp [wd]
  | 1 => simp [wd]
  | n + 2 => simp [wd]
theorem stN_wd {i : Nat} (h : i < 3) : stN[i]? = some (.str (S (wd i))) := by
  match i, h with
  | 0, _ => rw [← wd_txt.1]; rfl
  | 1, _ => rw [← wd_txt.2.1]; rfl
  | 2, _ => rw [← wd_txt.2.2]; rfl
def spTxSt : Sp := fun vs H Q _ => ∃ st : Nat, vs = [.int (st : Int)] ∧ st ≤ 3000 ∧ Q (.str (S (stg st))) H
theorem ok_text_of_stage (T : Tex K mg D) : FnOk P w K mg base CX0 1 D.a_text_of_stage D.d_text_of_stage P_text_of_stage spTxSt := by
  refine T.text_of_stage_F.ok S_text_of_stage (fun vs H Q E h => ?_) (fun cdv A outer s H vs Q E hr h => ?_)
  · obtain ⟨st, rfl, _⟩ := h
    rfl
  · obtain ⟨st, rfl, hs, q⟩ := h
    refine ⟨_, (pss_cons (ps_if (pt_cmpR op_eq (pv 0) (pe_glob (v := .int 3000) rfl T.c_FINAL ⟨_, rfl⟩) (nomark _)) (pss_one (ps_ret pe_str)) pss_nil)
      (pss_one (ps_ret (pe_joined (.cons (pe_fmt (pe_ix ix_tup (pe_glob (v := .ref D.k_STAGES) rfl T.c_STAGES rfl) (pe_op op_fdiv (pv 0) pe_int) (fun _ _ => rfl))) (.cons (pe_fmt (pe_op op_mod (pv 0) pe_int)) .nil)))))), ?_⟩
    refine ⟨_, rfl, rfl, _, rfl, ?_⟩
    by_cases h3 : st = 3000
    · subst h3
      rw [decide_eq_true (show V.int ((3000 : Nat) : Int) = V.int 3000 from rfl)]
      exact iteT q
    · rw [decide_eq_false (by
        intro e
        injection e with e
        omega)]
      have hlt : st / 1000 < 3 := by omega
      have hat : atI stN ((st : Int) / 1000) = some (.str (S (wd (st / 1000)))) := by
        rw [show (st : Int) / 1000 = ((st / 1000 : Nat) : Int) by omega]
        exact atI_nat (stN_wd hlt)
      have e0 : stg st = wd (st / 1000) ++ numL (st % 1000) := if_neg h3
      have hl := wd_len (st / 1000)
      have hn := numL_len3 (show st % 1000 < 1000 by omega)
      refine iteF ⟨_, rfl, _, _, rfl, rfl, ⟨by decide, by decide⟩, D.k_STAGES, stN, _, _, rfl, rfl, stK T _, hat, .inl ⟨_, rfl, ?_, ?_⟩⟩
      · rw [S_len]
        exact szl (by omega)
      · have e1 : Str.empty ++ S (wd (st / 1000)) = S (wd (st / 1000)) := S_cat [] _
        refine ⟨_, rfl, ?_, ?_⟩
        · rw [e1, S_len]
          exact szl (by omega)
        · refine ⟨_, rfl, _, _, rfl, rfl, (posI rfl), .inr ⟨_, rfl, ?_, ?_⟩⟩
          · rw [show (st : Int) % 1000 = ((st % 1000 : Nat) : Int) by omega]
            exact log_num (by omega)
          · rw [show (st : Int) % 1000 = ((st % 1000 : Nat) : Int) by omega]
            rw [e1, str_num]
            refine ⟨_, rfl, ?_, ?_⟩
            · rw [S_cat, S_len, List.length_append]
              exact szl (by omega)
            · rw [S_cat, ← e0]
              exact q
theorem n4_trim_len (r : Nat) : (trim (n4 r)).length ≤ 4 := by
  rw [trim_len]
  exact many_le (n4 r) 4
theorem join_len : ∀ {figs : List Nat}, (∀ n ∈ figs, n < 1000) → (joinL [46] (figs.map numL)).length ≤ 4 * figs.length
  | [], _ => by simp [joinL]
  | [n], h => by
    have := numL_len3 (h n (by simp))
    show (numL n).length ≤ _
    simp only [List.length_cons, List.length_nil]
    omega
  | n :: m :: r, h => by
    have h1 := numL_len3 (h n (by simp))
    have ih := join_len (figs := m :: r) fun x hx => h x (List.mem_cons_of_mem _ hx)
    show (numL n ++ ([46] ++ joinL [46] ((m :: r).map numL))).length ≤ _
    rw [List.length_append, List.length_append]
    simp only [List.length_cons, List.length_nil] at ih ⊢
    omega
theorem stg_len (st : Nat) : (stg st).length ≤ 5 := by
  unfold stg
  split
  · simp
  · rw [List.length_append]
    have h1 := wd_len (st / 1000)
    have h2 := numL_len3 (show st % 1000 < 1000 by omega)
    omega
theorem wrt_len {figs : List Nat} {st : Nat} (hb : ∀ n ∈ figs, n < 1000) : (wrt figs st).length ≤ 4 * figs.length + 5 := by
  unfold wrt
  rw [List.length_append]
  have h1 := join_len hb
  have h2 := stg_len st
  omega
theorem tA_len {r : Nat} (h : r ≤ 3000999999999999) : (tA r).length ≤ 100 := by
  have h1 := wrt_len (figs := trim (n4 r)) (st := r % 3001) (fun n hn => n4_lt h n (List.mem_of_mem_take hn))
  have h2 := n4_trim_len r
  unfold tA
  omega
def spTA : Sp := fun vs H Q _ => ∃ r : Nat, vs = [.int (r : Int)] ∧ r ≤ LAST ∧ ∀ H', Same H H' → Q (.str (S (tA r))) H'
theorem ok_text_at (T : Tex K mg D) : FnOk P w K mg base CX0 2 D.a_text_at D.d_text_at P_text_at spTA := by
  have G_numbers_at : FnOk P w K mg base CX0 1 D.a_numbers_at D.d_numbers_at P_numbers_at spN4 := ok_numbers_at T
  have G_text_of_numbers : FnOk P w K mg base CX0 1 D.a_text_of_numbers D.d_text_of_numbers P_text_of_numbers (spTxN K) := ok_text_of_numbers T
  have G_text_of_stage : FnOk P w K mg base CX0 1 D.a_text_of_stage D.d_text_of_stage P_text_of_stage spTxSt := ok_text_of_stage T
  refine T.text_at_F.ok S_text_at (fun vs H Q E h => ?_) (fun cdv A outer s H vs Q E hr h => ?_)
  · obtain ⟨r, rfl, _⟩ := h
    rfl
  · obtain ⟨r, rfl, hl, q⟩ := h
    refine ⟨_, (pss_one (ps_ret (pe_op op_add_str (pe_call G_text_of_numbers (hr.mono (by decide)) (by rfl) T.text_of_numbers_g T.text_of_numbers_F.kp T.text_of_numbers_b .nil pass0 (pa_cons (pe_call G_numbers_at (hr.mono (by decide)) (by rfl) T.numbers_at_g T.numbers_at_F.kp T.numbers_at_b .nil pass0 (pa_cons (pv 0) pa_nil)) pa_nil)) (pe_call G_text_of_stage (hr.mono (by decide)) (by rfl) T.text_of_stage_g T.text_of_stage_F.kp T.text_of_stage_b .nil pass0 (pa_cons (pe_op op_mod (pv 0) (pe_glob (v := .int 3001) rfl T.c_WIDTH ⟨_, rfl⟩)) pa_nil))))), ?_⟩
    refine ⟨_, rfl, r, rfl, fun p H1 s1 hp hp' => ⟨p, n4 r, rfl, sqT_of hp', by simp [n4], by simp [n4], n4_lt hl, fun H2 s2 => ?_⟩⟩
    refine ⟨_, rfl, _, _, rfl, rfl, (posI rfl), r % 3001, ?_, by omega, ?_⟩
    · show [V.int ((r : Int) % 3001)] = _
      rw [show (r : Int) % 3001 = ((r % 3001 : Nat) : Int) by omega]
    · have h1 := join_len (figs := trim (n4 r)) fun n hn => n4_lt hl n (List.mem_of_mem_take hn)
      have h2 := n4_trim_len r
      have h3 := stg_len (r % 3001)
      refine ⟨_, _, rfl, rfl, ?_, ?_⟩
      · rw [S_len, S_len]
        exact szl (by omega)
      · rw [S_cat]
        exact q H2 (s1.trans s2)
/-! ### the object -/
def Ver (C : Addr) (H : Hp) (a : Addr) (r : Nat) : Prop := ∃ dx, H a = some (.ins C dx [("_rank", .int (r : Int))])
theorem Ver.keep {C a : Addr} {H H' : Hp} {r : Nat} (h : Ver C H a r) (e : Same H H') : Ver C H' a r := let ⟨dx, h⟩ := h; ⟨dx, e _ _ h⟩
theorem lk_rank (v : V) : List.lookup ("_rank" : Str) [(("_rank" : Str), v)] = some v := by simp [List.lookup]
def spInit (C : Addr) : Sp := fun vs H Q _ => ∃ (x dx : Addr) (l ns : List Nat) (st : Nat), vs = [.ref x, .str (S l)] ∧ H x = some (.ins C dx []) ∧ l.length ≤ 80000 ∧ pT l = some (ns, st) ∧ ns ≠ [] ∧ ns.length ≤ 4 ∧
  ∀ H1, Same H H1 → Q .non (upd H1 x (.ins C dx [("_rank", .int (rk ns st : Nat))]))
theorem ok_Version_init (T : Tex K mg D) : FnOk P w K mg base CX0 6 D.a_Version_init D.d_Version_init P_Version_init (spInit D.a_Version) := by
  have G_parts_of_text : FnOk P w K mg base CX0 5 D.a_parts_of_text D.d_parts_of_text P_parts_of_text spParts := ok_parts_of_text T
  have G_rank_of : FnOk P w K mg base CX0 1 D.a_rank_of D.d_rank_of P_rank_of (spRank K) := ok_rank_of T
  refine T.Version_init_F.ok S_Version_init (fun vs H Q E h => ?_) (fun cdv A outer s H vs Q E hr h => ?_)
  · obtain ⟨x, dx, l, ns, st, rfl, _⟩ := h
    rfl
  · obtain ⟨x, dx, l, ns, st, rfl, hx, hl, hp, hne, h4, q⟩ := h
    refine ⟨_, (pss_cons (ps_set (i := 2) S_Version_init.nd rfl (Or.inl rfl) (pe_call G_parts_of_text (hr.mono (by decide)) (by rfl) T.parts_of_text_g T.parts_of_text_F.kp T.parts_of_text_b .nil pass0 (pa_cons (pv 1) pa_nil)))
      (pss_cons (ps_if (pt_cmpR op_isN (pv 2) pe_non (nomark _)) (pss_one ps_never) pss_nil)
      (pss_cons (ps_asg (pv 2) (pg_tup (by rfl) (pgs_cons (pg_name (i := 3) S_Version_init.nd rfl (Or.inl rfl)) (pgs_cons (pg_name (i := 4) S_Version_init.nd rfl (Or.inl rfl)) pgs_nil))))
      (pss_one (ps_fld (pv 0) (pe_call G_rank_of (hr.mono (by decide)) (by rfl) T.rank_of_g T.rank_of_F.kp T.rank_of_b .nil pass0 (pa_cons (pv 3) (pa_cons (pv 4) pa_nil))) rfl))))), ?_⟩
    refine ⟨_, rfl, l, rfl, hl, fun e => (by rw [hp] at e; cases e), fun ns' st' e p t H1 s1 hpf hp' ht' => ?_⟩
    rw [hp] at e
    cases e
    refine ⟨_, rfl, rfl, _, rfl, iteF ?_⟩
    refine ⟨_, rfl, p, _, rfl, .inl (.inl hp'), rfl, _, _, rfl, _, _, rfl, rfl, ?_⟩
    refine ⟨_, rfl, _, rfl, t, ns, st, rfl, sqT_of ht', hne, Nat.le_trans h4 (by decide), fun H2 s2 => ?_⟩
    exact ⟨_, rfl, x, _, dx, [], rfl, s2 _ _ (s1 _ _ hx), T.Version_cl, T.Version_n_rank, by decide, q H2 (s1.trans s2)⟩
/-- what the making of a version leaves -/
theorem make_same {H H1 : Hp} {C x dx : Addr} {fs : List (Str × V)} (hx : H x = none) (hd : H dx = none) (s : Same (upd (upd H dx (.own x)) x (.ins C dx [])) H1) : Same H (upd H1 x (.ins C dx fs)) := by
  intro b o e
  have n1 : b ≠ x := ne_of_none e hx
  have n2 : b ≠ dx := ne_of_none e hd
  rw [upd_ne n1]
  refine s b o ?_
  rw [upd_ne n1, upd_ne n2]
  exact e
end

/-! ## Versions compared and written -/
section
variable {P : Program} {w : World} {K : PySem.W.Frag} {mg : Str → Option Value} {base : Heap} {D : Ad}
open TL SX
def spEq (K : PySem.W.Frag) (C : Addr) : Sp := fun vs H Q _ => ∃ (a : Addr) (r : Nat) (y : V), vs = [.ref a, y] ∧ Ver C H a r ∧
  ((∃ b s, y = .ref b ∧ Ver C H b s ∧ Q (.bl (decide (r = s))) H) ∨ ∃ t, TyX K H y t ∧ PySem.W.kitOne K t (.ref C) = some false ∧ Q (.bl false) H)
theorem ok_Version_eq (T : Tex K mg D) : FnOk P w K mg base CX0 1 D.a_Version_eq D.d_Version_eq P_Version_eq (spEq K D.a_Version) := by
  refine T.Version_eq_F.ok S_Version_eq (fun vs H Q E h => ?_) (fun cdv A outer s H vs Q E hr h => ?_)
  · obtain ⟨a, r, y, rfl, _⟩ := h
    rfl
  · obtain ⟨a, r, y, rfl, ⟨dx, ha⟩, q⟩ := h
    refine ⟨_, (pss_one (ps_ret (pe_and (pe_callB call_isi (by rfl) T.b_isinstance (by decide +kernel) (pa_cons (pv 1) (pa_cons (pe_glob (v := .ref D.a_Version) rfl T.Version_g rfl) pa_nil))) (pe_one (pe_cmpR op_eq (pe_fld (pv 0) rfl) (pe_fld (pv 1) rfl) (nomark _)))))), ?_⟩
    rcases q with ⟨b, s', rfl, ⟨dy, hb⟩, q⟩ | ⟨t, ty, hk, q⟩
    · refine ⟨_, rfl, _, _, _, _, true, rfl, .own _, .base (.ins hb T.Version_cl T.Version_si.ca T.Version_si.cn T.Version_si.ct T.Version_si.cm), kit_self, true, rfl, iteT ?_⟩
      refine ⟨_, rfl, a, _, dx, _, _, rfl, ha, T.Version_cl, T.Version_n_rank, lk_rank _, _, rfl, b, _, dy, _, _, rfl, hb, T.Version_cl, T.Version_n_rank, lk_rank _, rfl, ?_⟩
      have e : decide (V.int ((r : Nat) : Int) = V.int ((s' : Nat) : Int)) = decide (r = s') := decide_eq_decide.mpr (by
        constructor
        · intro e
          injection e with e
          omega
        · rintro rfl
          rfl)
      rw [e]
      exact q
    · exact ⟨_, rfl, _, _, _, _, false, rfl, .own _, ty, hk, false, rfl, iteF q⟩
def spStr (C : Addr) : Sp := fun vs H Q _ => ∃ (a : Addr) (r : Nat), vs = [.ref a] ∧ Ver C H a r ∧ r ≤ LAST ∧ ∀ H', Same H H' → Q (.str (S (tA r))) H'
theorem ok_Version_str (T : Tex K mg D) : FnOk P w K mg base CX0 3 D.a_Version_str D.d_Version_str P_Version_str (spStr D.a_Version) := by
  have G_text_at : FnOk P w K mg base CX0 2 D.a_text_at D.d_text_at P_text_at spTA := ok_text_at T
  refine T.Version_str_F.ok S_Version_str (fun vs H Q E h => ?_) (fun cdv A outer s H vs Q E hr h => ?_)
  · obtain ⟨a, r, rfl, _⟩ := h
    rfl
  · obtain ⟨a, r, rfl, ⟨dx, ha⟩, hl, q⟩ := h
    exact ⟨_, (pss_one (ps_ret (pe_callTy SkE.call_str_str (by rfl) T.b_str (by decide +kernel) (pa_cons (pe_call G_text_at (hr.mono (by decide)) (by rfl) T.text_at_g T.text_at_F.kp T.text_at_b .nil pass0 (pa_cons (pe_fld (pv 0) rfl) pa_nil)) pa_nil)))), _, rfl, a, _, dx, _, _, rfl, ha, T.Version_cl, T.Version_n_rank, lk_rank _, r, rfl, hl, fun H1 s1 => ⟨_, rfl, q H1 s1⟩⟩
end

/-! ## Rows by names and their differences, as mathematics -/
section
variable {P : Program} {w : World} {K : PySem.W.Frag} {mg : Str → Option Value} {base : Heap} {D : Ad}
open TL SX PyProof.Rows
structure Rw where
  nm : Str
  vi : Nat
  num : Int
structure Df where
  wd : Str
  nm : Str
  o : Option Nat
  n : Option Nat
  deriving DecidableEq
def vtx : Nat → List Nat
  | 0 => [49]
  | 1 => [50]
  | _ => [50, 114, 99, 49]
def vrk (i : Nat) : Nat := match pT (vtx i) with | some (ns, st) => rk ns st | none => 0
theorem vrk_eq : ∀ i, i < 3 → ∃ ns st, pT (vtx i) = some (ns, st) ∧ ns ≠ [] ∧ ns.length ≤ 4 ∧ rk ns st = vrk i := by
  intro i hi
  match i, hi with
  | 0, _ => exact ⟨[1], 3000, by decide +kernel, by decide, by decide, by decide +kernel⟩
  | 1, _ => exact ⟨[2], 3000, by decide +kernel, by decide, by decide, by decide +kernel⟩
  | 2, _ => exact ⟨[2], 2001, by decide +kernel, by decide, by decide, by decide +kernel⟩
theorem vrk_txt : ∀ i, i < 3 → tA (vrk i) = vtx i ∧ vrk i ≤ LAST := by decide +kernel
theorem vrk_inj : ∀ i, i < 3 → ∀ j, j < 3 → vrk i = vrk j → i = j := by decide +kernel
theorem vtx_inj : ∀ i, i < 3 → ∀ j, j < 3 → vtx i = vtx j → i = j := by decide +kernel
/-- what stands under a name -/
def fnd (rs : List Rw) (nm : Str) : Option (Nat × Int) := (rs.find? fun r => decide (r.nm = nm)).map fun r => (r.vi, r.num)
def d1 (nm : Str) : Option (Nat × Int) → Option (Nat × Int) → Option Df
  | none, none => none
  | none, some b => some ⟨"added", nm, none, some b.1⟩
  | some a, none => some ⟨"removed", nm, some a.1, none⟩
  | some a, some b => if a = b then none else some ⟨"changed", nm, some a.1, some b.1⟩
def dif (ns : List Str) (o n : List Rw) : List Df := ns.filterMap fun nm => d1 nm (fnd o nm) (fnd n nm)
/-- the names of both, ascending, each once -/
def NmS (ns : List Str) (o n : List Rw) : Prop := sortedS ns = true ∧ ns.Nodup ∧ ∀ y, y ∈ ns ↔ y ∈ (o ++ n).map (·.nm)
theorem rising_pw : ∀ (r : List Str) (x : Str), risingS x r = true → (x :: r).Pairwise fun a b => ¬ (b.cps.toList < a.cps.toList)
  | [], x, _ => List.pairwise_singleton _ _
  | y :: r, x, h => by
    have h' : (!PySem.Spec.ltCps y.cps.toList x.cps.toList && risingS y r) = true := h
    rw [PyProof.Rows.ltCps_eq] at h'
    rw [Bool.and_eq_true, Bool.not_eq_true', decide_eq_false_iff_not] at h'
    obtain ⟨h1, h2⟩ := h'
    have ih := rising_pw r y h2
    refine List.pairwise_cons.mpr ⟨fun z hz => ?_, ih⟩
    rcases List.mem_cons.mp hz with e | e
    · rw [e]; exact h1
    · have h3 := (List.pairwise_cons.mp ih).1 z e
      exact fun q => (List.not_lt.mpr (List.le_trans (List.not_lt.mp h1) (List.not_lt.mp h3))) q
theorem sorted_pw {ns : List Str} (h : sortedS ns = true) : ns.Pairwise fun a b => ¬ (b.cps.toList < a.cps.toList) := by
  cases ns with
  | nil => exact List.Pairwise.nil
  | cons x r => exact rising_pw r x h
theorem sorted_eq {xs ys : List Str} (hx : sortedS xs = true) (hy : sortedS ys = true) (p : xs.Perm ys) : xs = ys := by
  refine List.Perm.eq_of_pairwise (fun a b _ _ h1 h2 => ?_) (sorted_pw hx) (sorted_pw hy) p
  exact ext_tl (List.le_antisymm (List.not_lt.mp h1) (List.not_lt.mp h2))
theorem NmS.uniq {ns ms : List Str} {o n : List Rw} (a : NmS ns o n) (b : NmS ms o n) : ns = ms :=
  sorted_eq a.1 b.1 ((List.perm_ext_iff_of_nodup a.2.1 b.2.1).mpr fun y => (a.2.2 y).trans (b.2.2 y).symm)
theorem NmS.swap {ns : List Str} {o n : List Rw} (a : NmS ns o n) : NmS ns n o := ⟨a.1, a.2.1, fun y => by
  rw [a.2.2 y, List.map_append, List.map_append, List.mem_append, List.mem_append]
  exact Or.comm⟩
theorem fnd_none {rs : List Rw} {nm : Str} : fnd rs nm = none ↔ nm ∉ rs.map (·.nm) := by
  unfold fnd
  rw [Option.map_eq_none_iff, List.find?_eq_none]
  constructor
  · intro h q
    obtain ⟨r, hr, e⟩ := List.mem_map.mp q
    exact h r hr (decide_eq_true e)
  · intro h r hr e
    exact h (List.mem_map.mpr ⟨r, hr, of_decide_eq_true e⟩)
theorem d1_same (nm : Str) (x : Option (Nat × Int)) : d1 nm x x = none := by
  cases x with
  | none => rfl
  | some a =>
    show (if a = a then none else _) = none
    rw [if_pos rfl]
theorem dif_same (ns : List Str) (o : List Rw) : dif ns o o = [] := by
  unfold dif
  rw [List.filterMap_eq_nil_iff]
  exact fun nm _ => d1_same nm _
def swp (d : Df) : Df := ⟨if d.wd = "added" then "removed" else if d.wd = "removed" then "added" else "changed", d.nm, d.n, d.o⟩
theorem wd_ne1 : ¬ (("removed" : Str) = "added") := by decide +kernel
theorem wd_ne2 : ¬ (("changed" : Str) = "added") := by decide +kernel
theorem wd_ne3 : ¬ (("changed" : Str) = "removed") := by decide +kernel
theorem d1_swap (nm : Str) (x y : Option (Nat × Int)) : d1 nm y x = (d1 nm x y).map swp := by
  cases x with
  | none => cases y with
    | none => rfl
    | some b =>
      show some _ = some (swp _)
      unfold swp
      rw [if_pos rfl]
  | some a => cases y with
    | none =>
      show some _ = some (swp _)
      unfold swp
      rw [if_neg wd_ne1, if_pos rfl]
    | some b =>
      show (if b = a then none else _) = Option.map swp (if a = b then none else _)
      by_cases e : a = b
      · rw [if_pos e, if_pos e.symm]; rfl
      · rw [if_neg e, if_neg (fun z => e z.symm)]
        show some _ = some (swp _)
        unfold swp
        rw [if_neg wd_ne2, if_neg wd_ne3]
theorem filterMap_map {α β γ : Type} (f : α → Option β) (g : β → γ) : ∀ l : List α, (l.filterMap fun a => (f a).map g) = (l.filterMap f).map g
  | [] => rfl
  | a :: l => by
    rw [List.filterMap_cons, List.filterMap_cons, filterMap_map f g l]
    cases f a <;> rfl
theorem dif_swap (ns : List Str) (o n : List Rw) : dif ns n o = (dif ns o n).map swp := by
  unfold dif
  rw [← filterMap_map]
  congr 1
  funext nm
  exact d1_swap nm _ _
theorem d1_nm {nm : Str} {x y : Option (Nat × Int)} {d : Df} (h : d1 nm x y = some d) : d.nm = nm ∧ x ≠ y := by
  refine ⟨?_, fun e => by rw [e, d1_same] at h; cases h⟩
  cases x with
  | none => cases y with
    | none => cases h
    | some b => cases h; rfl
  | some a => cases y with
    | none => cases h; rfl
    | some b =>
      have h' : (if a = b then none else some (⟨"changed", nm, some a.1, some b.1⟩ : Df)) = some d := h
      by_cases e : a = b
      · rw [if_pos e] at h'; cases h'
      · rw [if_neg e] at h'; cases h'; rfl
theorem d1_some {nm : Str} {x y : Option (Nat × Int)} (h : x ≠ y) : ∃ d, d1 nm x y = some d ∧ d.nm = nm := by
  cases x with
  | none => cases y with
    | none => exact (h rfl).elim
    | some b => exact ⟨_, rfl, rfl⟩
  | some a => cases y with
    | none => exact ⟨_, rfl, rfl⟩
    | some b =>
      refine ⟨⟨"changed", nm, some a.1, some b.1⟩, ?_, rfl⟩
      show (if a = b then none else _) = _
      rw [if_neg (fun e => h (by rw [e]))]
theorem touched {ns ms ks : List Str} {o n t : List Rw} (h1 : NmS ns o n) (h2 : NmS ms o t) (h3 : NmS ks t n) {d : Df} (hd : d ∈ dif ns o n) : d.nm ∈ (dif ms o t).map (·.nm) ++ (dif ks t n).map (·.nm) := by
  obtain ⟨nm, hm, e⟩ := List.mem_filterMap.mp hd
  obtain ⟨e1, e2⟩ := d1_nm e
  rw [List.mem_append]
  by_cases q : fnd o nm = fnd t nm
  · right
    have q2 : fnd t nm ≠ fnd n nm := fun z => e2 (q.trans z)
    obtain ⟨d2, h, hn⟩ := d1_some (nm := nm) q2
    have hk : nm ∈ ks := by
      rw [h3.2.2, List.map_append, List.mem_append]
      rcases Classical.em (nm ∈ t.map (·.nm)) with c | c
      · exact .inl c
      · rcases Classical.em (nm ∈ n.map (·.nm)) with c2 | c2
        · exact .inr c2
        · exact (q2 ((fnd_none.mpr c).trans (fnd_none.mpr c2).symm)).elim
    exact List.mem_map.mpr ⟨d2, List.mem_filterMap.mpr ⟨nm, hk, h⟩, by rw [hn, e1]⟩
  · left
    obtain ⟨d2, h, hn⟩ := d1_some (nm := nm) q
    have hk : nm ∈ ms := by
      rw [h2.2.2, List.map_append, List.mem_append]
      rcases Classical.em (nm ∈ o.map (·.nm)) with c | c
      · exact .inl c
      · rcases Classical.em (nm ∈ t.map (·.nm)) with c2 | c2
        · exact .inr c2
        · exact (q ((fnd_none.mpr c).trans (fnd_none.mpr c2).symm)).elim
    exact List.mem_map.mpr ⟨d2, List.mem_filterMap.mpr ⟨nm, hk, h⟩, by rw [hn, e1]⟩

/-! ## Comprehensions whose elements are new objects -/
theorem lc_grow {α β : Type} {J : It} {n : Nat} {G : Hp → Prop} {Y : Nat → Hp → V → Hp → Prop} (w : Walk J n G Y) (xs : List α) (emb : α → V) (hn : n = xs.length)
    (hY : ∀ i H x H', Y i H x H' → H' = H ∧ ∃ a, xs[i]? = some a ∧ x = emb a)
    {g : TG} {tt : TT} {te : TE} {vs : List Nat} {σ : L2.St} {H1 : Hp} {D : Addr} {Qd : Hp → Prop} (f : α → Option β) (Pr : Hp → V → β → Prop) (hPr : ∀ H H' v b l, H D = some (.lst l) → But D H H' → Pr H v b → Pr H' v b) (hD : H1 D = none) (hz : n < sizeLine) (hG : ∀ H, Same H1 H → G H)
    (hs : ∀ a, a ∈ xs → ∀ (H : Hp) (R : VK) (S : Hp → Prop), Same H1 H → (∀ v b H', f a = some b → Same H H' → Pr H' v b → R v H') → (f a = none → ∀ H', Same H H' → S H') →
      g (emb a) (wipe σ vs) H fun σ2 H2 => wipe σ2 vs = wipe σ vs ∧ tt σ2 H2 fun b H3 => if b = true then te σ2 H3 R else S H3)
    (hd : ∀ H (acc : List (V × β)), Same H1 H → acc.map (·.2) = xs.filterMap f → (∀ q ∈ acc, Pr H q.1 q.2) → H D = some (.lst (acc.map (·.1))) → Qd H) :
    ∃ W : Nat → Nat → Hp → Prop, (∃ m, W 0 m (upd H1 D (.lst []))) ∧ ∀ i m H, W i m H →
      (J.stop i H ∧ Qd H) ∨ (J.go i H ∧ ∃ Nx : Hp → Prop, (∀ H', Nx H' → ∃ m', m' < m ∧ W (i + 1) m' H') ∧
        ∀ x H', J.yld i H x H' → g x (wipe σ vs) H' fun σ2 H2 => wipe σ2 vs = wipe σ vs ∧ tt σ2 H2 fun b H3 =>
          if b = true then te σ2 H3 fun y H4 => ∃ acc, H4 D = some (.lst acc) ∧ acc.length < sizeLine ∧ Nx (upd H4 D (.lst (acc ++ [y]))) else Nx H3) := by
  refine lc_it w (fun i H => Same H1 H ∧ ∃ acc : List (V × β), acc.map (·.2) = (xs.take i).filterMap f ∧ (∀ q ∈ acc, Pr H q.1 q.2) ∧ H D = some (.lst (acc.map (·.1)))) ⟨same_new hD, [], rfl, (fun q hq => by cases hq), by rw [upd_same]; rfl⟩ (fun i H _ h => hG H h.1) ?_ ?_
  · rintro i x H H' hi ⟨s, acc, ha, hp, hl⟩ y
    obtain ⟨rfl, a, hx, rfl⟩ := hY _ _ _ _ y
    have hlen : (acc.map (·.1)).length < sizeLine := by
      have e := congrArg List.length ha
      rw [List.length_map] at e
      rw [List.length_map, e]
      refine Nat.lt_of_le_of_lt ?_ hz
      refine Nat.le_trans (List.length_filterMap_le _ _) ?_
      rw [List.length_take]
      omega
    refine hs a (List.mem_of_getElem? hx) H' _ _ s (fun v b H4 hf s4 hv => ?_) (fun hf H4 s4 => ?_)
    · have hl4 := s4 _ _ hl
      have bt : But D H4 (upd H4 D (.lst (acc.map (·.1) ++ [v]))) := But.upd
      refine ⟨_, hl4, hlen, same_upd (s.trans s4) hD, acc ++ [(v, b)], ?_, fun q hq => ?_, ?_⟩
      · rw [one_more hx, List.filterMap_append, List.map_append, ha]
        simp [hf]
      · rcases List.mem_append.mp hq with h | h
        · exact hPr _ _ _ _ _ hl4 bt (hPr _ _ _ _ _ hl (But.of_same s4) (hp q h))
        · rw [List.mem_singleton.mp h]
          exact hPr _ _ _ _ _ hl4 bt hv
      · rw [upd_same, List.map_append] <;> rfl
    · refine ⟨s.trans s4, acc, ?_, fun q hq => hPr _ _ _ _ _ hl (But.of_same s4) (hp q hq), s4 _ _ hl⟩
      rw [one_more hx, List.filterMap_append, ha]
      simp [hf]
  · rintro H ⟨s, acc, ha, hp, hl⟩
    refine hd H acc s ?_ hp hl
    rw [ha, hn, List.take_length]
end

/-! ## The program's rows, tables and differences -/
section
variable {P : Program} {w : World} {K : PySem.W.Frag} {mg : Str → Option Value} {base : Heap} {D : Ad}
open TL SX PyProof.Rows
def PRow (C : Addr) (H : Hp) (x : V) (r : Rw) : Prop := (∃ a v e m, x = .ref a ∧ H a = some (.tup [.str r.nm, .ref v, .ref e, .str m, .int r.num]) ∧ Ver C H v (vrk r.vi)) ∧ r.vi < 3
theorem Ver.but {C a D : Addr} {H H' : Hp} {r : Nat} {l : List V} (h : Ver C H a r) (hl : H D = some (.lst l)) (b : But D H H') : Ver C H' a r := by
  obtain ⟨dx, h⟩ := h
  exact ⟨dx, b _ _ h fun e => by rw [e, hl] at h; cases h⟩
theorem PRow.but {C D : Addr} {H H' : Hp} {x : V} {r : Rw} {l : List V} (h : PRow C H x r) (hl : H D = some (.lst l)) (b : But D H H') : PRow C H' x r := by
  obtain ⟨⟨a, v, e, m, rfl, ha, hv⟩, hi⟩ := h
  exact ⟨⟨a, v, e, m, rfl, b _ _ ha (fun q => by rw [q, hl] at ha; cases ha), hv.but hl b⟩, hi⟩
theorem PRow.keep {C : Addr} {H H' : Hp} {x : V} {r : Rw} (h : PRow C H x r) (s : Same H H') : PRow C H' x r := by
  obtain ⟨⟨a, v, e, m, rfl, ha, hv⟩, hi⟩ := h
  exact ⟨⟨a, v, e, m, rfl, s _ _ ha, hv.keep s⟩, hi⟩
/-- a tuple of rows -/
def PRows (K : PySem.W.Frag) (C : Addr) (H : Hp) (t : Addr) (rs : List Rw) : Prop := ∃ acc : List (V × Rw), SqT K H t (acc.map (·.1)) ∧ acc.map (·.2) = rs ∧ ∀ q ∈ acc, PRow C H q.1 q.2
theorem PRows.keep {K : PySem.W.Frag} {C : Addr} {H H' : Hp} {t : Addr} {rs : List Rw} (h : PRows K C H t rs) (s : Same H H') : PRows K C H' t rs := by
  obtain ⟨acc, h1, h2, h3⟩ := h
  exact ⟨acc, sqT_keep s h1, h2, fun q hq => (h3 q hq).keep s⟩
/-- what a table says of a name -/
def Says (C : Addr) (H : Hp) (x : V) : Option (Nat × Int) → Prop
  | none => x = .non
  | some (i, n) => (∃ p v, x = .ref p ∧ H p = some (.tup [.ref v, .int n]) ∧ Ver C H v (vrk i)) ∧ i < 3
theorem Says.keep {C : Addr} {H H' : Hp} {x : V} {o : Option (Nat × Int)} (h : Says C H x o) (s : Same H H') : Says C H' x o := by
  cases o with
  | none => exact h
  | some a =>
    obtain ⟨⟨p, v, e, hp, hv⟩, hi⟩ := h
    exact ⟨⟨p, v, e, s _ _ hp, hv.keep s⟩, hi⟩
theorem Says.but {C D : Addr} {H H' : Hp} {x : V} {o : Option (Nat × Int)} {kvs : List (Key × V)} (h : Says C H x o) (hl : H D = some (.dK kvs)) (b : But D H H') : Says C H' x o := by
  cases o with
  | none => exact h
  | some a =>
    obtain ⟨⟨p, v, e, hp, dx, hv⟩, hi⟩ := h
    exact ⟨⟨p, v, e, b _ _ hp (fun q => by rw [q, hl] at hp; cases hp), dx, b _ _ hv (fun q => by rw [q, hl] at hv; cases hv)⟩, hi⟩
/-- the table of rows -/
def Tab (C : Addr) (H : Hp) (kvs : List (Key × V)) (rs : List Rw) : Prop := kvs.map (·.1) = rs.map (fun r => (Sum.inr r.nm : Key)) ∧ ∀ nm : Str, Says C H ((valV kvs (Sum.inr nm : Key)).getD .non) (fnd rs nm)
theorem Tab.keep {C : Addr} {H H' : Hp} {kvs : List (Key × V)} {rs : List Rw} (h : Tab C H kvs rs) (s : Same H H') : Tab C H' kvs rs := ⟨h.1, fun nm => (h.2 nm).keep s⟩
theorem tab_none {kvs : List (Key × V)} {rs : List Rw} (h : kvs.map (·.1) = rs.map (fun r => (Sum.inr r.nm : Key))) {nm : Str} (hn : nm ∉ rs.map (·.nm)) : valV kvs (Sum.inr nm : Key) = none := by
  have q := valV_any (Sum.inr nm : Key) kvs
  cases e : valV kvs (Sum.inr nm : Key) with
  | none => rfl
  | some v =>
    rw [e, Option.isSome_some, List.any_eq_true] at q
    obtain ⟨kv, hk, e2⟩ := q
    have m : kv.1 ∈ kvs.map (·.1) := List.mem_map.mpr ⟨kv, hk, rfl⟩
    rw [h, of_decide_eq_true e2] at m
    obtain ⟨r, hr, e3⟩ := List.mem_map.mp m
    injection e3 with e3
    exact (hn (List.mem_map.mpr ⟨r, hr, e3⟩)).elim
theorem fnd_snoc {rs : List Rw} {r : Rw} (hn : r.nm ∉ rs.map (·.nm)) (nm : Str) : fnd (rs ++ [r]) nm = if nm = r.nm then some (r.vi, r.num) else fnd rs nm := by
  unfold fnd
  rw [List.find?_append, List.find?_cons, List.find?_nil]
  by_cases e : nm = r.nm
  · have h0 : (rs.find? fun q => decide (q.nm = nm)) = none := by
      have z := fnd_none.mpr hn
      unfold fnd at z
      rw [Option.map_eq_none_iff] at z
      rw [e]
      exact z
    rw [if_pos e, h0, e, decide_eq_true rfl]
    rfl
  · rw [if_neg e, decide_eq_false (fun z => e z.symm)]
    cases rs.find? (fun q => decide (q.nm = nm)) <;> rfl
theorem Tab.put {C : Addr} {H : Hp} {kvs : List (Key × V)} {rs : List Rw} {r : Rw} {y : V} (h : Tab C H kvs rs) (hn : r.nm ∉ rs.map (·.nm)) (hy : Says C H y (some (r.vi, r.num))) : Tab C H (putK kvs (Sum.inr r.nm : Key) y) (rs ++ [r]) := by
  have hv := tab_none h.1 hn
  refine ⟨?_, fun nm => ?_⟩
  · rw [putK_new _ hv, List.map_append, List.map_append, h.1]
    rfl
  · rw [valV_put, fnd_snoc hn]
    by_cases e : nm = r.nm
    · rw [if_pos e, if_pos (by rw [e])]
      exact hy
    · rw [if_neg e, if_neg (fun z => by injection z with z; exact e z)]
      exact h.2 nm
def spByName (K : PySem.W.Frag) (C : Addr) : Sp := fun vs H Q _ => ∃ (t : Addr) (rs : List Rw), vs = [.ref t] ∧ PRows K C H t rs ∧ rs.length ≤ 10 ∧ (rs.map (·.nm)).Nodup ∧
  ∀ d kvs H', Same H H' → H d = none → H' d = some (.dK kvs) → Tab C H' kvs rs → Q (.ref d) H'
theorem ok_by_name (T : Tex K mg D) : FnOk P w K mg base CX0 1 D.a_by_name D.d_by_name P_by_name (spByName K D.a_Version) := by
  refine T.by_name_F.ok S_by_name (fun vs H Q E h => ?_) (fun cdv A outer s H vs Q E hr h => ?_)
  · obtain ⟨t, rs, rfl, _⟩ := h
    rfl
  · obtain ⟨t, rs, rfl, ⟨acc, hacc, hrs, hpr⟩, hlen, hnd, q⟩ := h
    have hal : acc.length = rs.length := by rw [← hrs, List.length_map]
    refine ⟨_, (pss_one (ps_ret (pe_dc (own := [(("row" : Str), 1)]) (g := gName 1) (tt := tYes) rfl S_by_name.nd (pi_tup (pv 0)) (blkOk_by (N := N_by_name) (sc := defScope s_by_name) (by decide +kernel)) (fun _ _ _ _ _ => pg_name (i := 1) S_by_name.nd rfl (Or.inl rfl)) (fun _ _ _ _ _ => pts_nil) (fun _ _ _ _ _ => (pe_ix (ix_tupK (KK := K) rfl) (pv 1) pe_int (fun _ _ => rfl))) (fun _ _ _ _ _ => (pe_tup (pa_cons (pe_ix (ix_tupK (KK := K) rfl) (pv 1) pe_int (fun _ _ => rfl)) (pa_cons (pe_ix (ix_tupK (KK := K) rfl) (pv 1) pe_int (fun _ _ => rfl)) pa_nil))))))), ?_⟩
    refine ⟨_, rfl, t, rfl, ⟨_, hacc⟩, fun DD hDD => dc_tup (fun i H' => Same H H' ∧ ∃ kvs, H' DD = some (.dK kvs) ∧ Tab D.a_Version H' kvs (rs.take i)) ⟨same_new hDD, [], upd_same, ?_⟩ (fun i H' _ hh => sqT_keep hh.1 hacc) (fun i x H' hx hh => ?_) (fun H' hh => ?_)⟩
    · refine ⟨rfl, fun nm => ?_⟩
      exact rfl
    · obtain ⟨s1, kvs, hk, htab⟩ := hh
      have hx' := hx
      rw [List.getElem?_map] at hx'
      obtain ⟨z, hz, rfl⟩ := Option.map_eq_some_iff.mp hx'
      have hrz : rs[i]? = some z.2 := by rw [← hrs, List.getElem?_map, hz] <;> rfl
      obtain ⟨⟨a, v, e, m, ez, ha, hv⟩, hi⟩ := (hpr z (List.mem_of_getElem? hz)).keep s1
      have hnm : z.2.nm ∉ (rs.take i).map (·.nm) := by
        intro hm
        rw [List.map_take] at hm
        have e1 : (rs.map (·.nm))[i]? = some z.2.nm := by rw [List.getElem?_map, hrz] <;> rfl
        obtain ⟨j, hj⟩ := List.getElem?_of_mem hm
        rw [List.getElem?_take] at hj
        by_cases c : j < i
        · rw [if_pos c] at hj
          obtain ⟨l1, g1⟩ := List.getElem?_eq_some_iff.mp hj
          obtain ⟨l2, g2⟩ := List.getElem?_eq_some_iff.mp e1
          exact (List.pairwise_iff_getElem.mp hnd) j i l1 l2 c (g1.trans g2.symm)
        · rw [if_neg c] at hj
          cases hj
      have hkl : kvs.length < sizeLine := by
        have e1 := congrArg List.length htab.1
        rw [List.length_map, List.length_map, List.length_take] at e1
        exact szt (by omega)
      show _ ∧ _
      rw [ez]
      refine ⟨rfl, _, rfl, a, _, _, _, rfl, rfl, sqT_of ha, rfl, ?_⟩
      refine ⟨_, rfl, a, _, _, _, rfl, rfl, sqT_of ha, rfl, _, rfl, a, _, _, _, rfl, rfl, sqT_of ha, rfl, by show 2 ≤ sizeLine; decide, fun p hp => ?_⟩
      have s2 := s1.trans (same_new (o := .tup [V.ref v, .int z.2.num]) hp)
      have hne : DD ≠ p := ne_of_none hk hp
      refine ⟨kvs, Sum.inr z.2.nm, rfl, by rw [upd_ne hne]; exact hk, hkl, same_upd s2 hDD, _, upd_same, ?_⟩
      rw [one_more hrz]
      refine Tab.put ⟨htab.1, fun nm => ?_⟩ hnm ⟨⟨p, v, rfl, ?_, ?_⟩, hi⟩
      · have w1 := (htab.2 nm).keep (same_new (o := .tup [V.ref v, .int z.2.num]) hp)
        exact w1.but (by rw [upd_ne hne]; exact hk) But.upd
      · rw [upd_ne (Ne.symm hne), upd_same]
      · obtain ⟨dx, hv⟩ := hv
        refine ⟨dx, ?_⟩
        rw [upd_ne (fun e => by rw [e, hk] at hv; cases hv), upd_ne (ne_of_none hv hp)]
        exact hv
    · obtain ⟨s1, kvs, hk, htab⟩ := hh
      rw [List.length_map, hal, List.take_length] at htab
      exact q DD kvs H' s1 hDD hk htab
def Hv (C : Addr) (H : Hp) (x : V) : Option Nat → Prop
  | none => x = .non
  | some i => (∃ v, x = .ref v ∧ Ver C H v (vrk i)) ∧ i < 3
theorem Hv.but {C D : Addr} {H H' : Hp} {x : V} {o : Option Nat} {l : List V} (h : Hv C H x o) (hl : H D = some (.lst l)) (b : But D H H') : Hv C H' x o := by
  cases o with
  | none => exact h
  | some i =>
    obtain ⟨⟨v, e, hv⟩, hi⟩ := h
    exact ⟨⟨v, e, hv.but hl b⟩, hi⟩
theorem Hv.keep {C : Addr} {H H' : Hp} {x : V} {o : Option Nat} (h : Hv C H x o) (s : Same H H') : Hv C H' x o := by
  cases o with
  | none => exact h
  | some i =>
    obtain ⟨⟨v, e, hv⟩, hi⟩ := h
    exact ⟨⟨v, e, hv.keep s⟩, hi⟩
def DRow (C : Addr) (H : Hp) (z : V) (d : Df) : Prop := ∃ a x y, z = .ref a ∧ H a = some (.tup [.str d.wd, .str d.nm, x, y]) ∧ Hv C H x d.o ∧ Hv C H y d.n
theorem DRow.but {C D : Addr} {H H' : Hp} {z : V} {d : Df} {l : List V} (h : DRow C H z d) (hl : H D = some (.lst l)) (b : But D H H') : DRow C H' z d := by
  obtain ⟨a, x, y, e, ha, hx, hy⟩ := h
  exact ⟨a, x, y, e, b _ _ ha (fun q => by rw [q, hl] at ha; cases ha), hx.but hl b, hy.but hl b⟩
theorem DRow.keep {C : Addr} {H H' : Hp} {z : V} {d : Df} (h : DRow C H z d) (s : Same H H') : DRow C H' z d := by
  obtain ⟨a, x, y, e, ha, hx, hy⟩ := h
  exact ⟨a, x, y, e, s _ _ ha, hx.keep s, hy.keep s⟩
def Tells (C : Addr) (H : Hp) (z : V) : Option Df → Prop
  | none => z = .non
  | some d => DRow C H z d
def spDifference (C : Addr) : Sp := fun vs H Q _ => ∃ (nm : Str) (x y : V) (o n : Option (Nat × Int)), vs = [.str nm, x, y] ∧ Says C H x o ∧ Says C H y n ∧ (o = none → n ≠ none) ∧
  ∀ z H', Same H H' → Tells C H' z (d1 nm o n) → Q z H'
theorem ok_difference (T : Tex K mg D) : FnOk P w K mg base CX0 3 D.a_difference D.d_difference P_difference (spDifference D.a_Version) := by
  have G_Version_eq : FnOk P w K mg base CX0 1 D.a_Version_eq D.d_Version_eq P_Version_eq (spEq K D.a_Version) := ok_Version_eq T
  refine T.difference_F.ok S_difference (fun vs H Q E h => ?_) (fun cdv A outer s H vs Q E hr h => ?_)
  · obtain ⟨nm, x, y, o, n, rfl, _⟩ := h
    rfl
  · obtain ⟨nm, x, y, o, n, rfl, hx, hy, hon, q⟩ := h
    refine ⟨_, (pss_cons (ps_if (pt_cmpR op_isN (pv 1) pe_non (nomark _)) (pss_one (ps_ret (pe_tup (pa_cons pe_str (pa_cons (pv 0) (pa_cons pe_non (pa_cons (pe_ix ix_tup (pv 2) pe_int (fun _ _ => rfl)) pa_nil))))))) pss_nil)
      (pss_cons (ps_if (pt_cmpR op_isN (pv 2) pe_non (nomark _)) (pss_one (ps_ret (pe_tup (pa_cons pe_str (pa_cons (pv 0) (pa_cons (pe_ix ix_tup (pv 1) pe_int (fun _ _ => rfl)) (pa_cons pe_non pa_nil))))))) pss_nil)
      (pss_cons (ps_if (PW.pt (pw_and (pt_cmpR (op_ownD (fun _ _ => rfl) T.Version_eq_at T.Version_eq_fn T.Version_nf (G_Version_eq.raw T.Version_eq_b .nil) (hr.mono (by decide)) pass0) (pe_ix ix_tup (pv 1) pe_int (fun _ _ => rfl)) (pe_ix ix_tup (pv 2) pe_int (fun _ _ => rfl)) (nomark _)) (pw_and1 (pt_cmpR op_eq (pe_ix ix_tup (pv 1) pe_int (fun _ _ => rfl)) (pe_ix ix_tup (pv 2) pe_int (fun _ _ => rfl)) (nomark _))))) (pss_one (ps_ret pe_non)) pss_nil)
      (pss_one (ps_ret (pe_tup (pa_cons pe_str (pa_cons (pv 0) (pa_cons (pe_ix ix_tup (pv 1) pe_int (fun _ _ => rfl)) (pa_cons (pe_ix ix_tup (pv 2) pe_int (fun _ _ => rfl)) pa_nil)))))))))), ?_⟩
    cases o with
    | none =>
      cases n with
      | none => exact (hon rfl rfl).elim
      | some b =>
        obtain ⟨i, num⟩ := b
        obtain ⟨⟨p, v, rfl, hp, hv⟩, hi⟩ := hy
        cases (show x = .non from hx)
        refine ⟨_, rfl, rfl, _, rfl, iteT ⟨_, rfl, _, rfl, p, _, _, _, rfl, rfl, sqT_of hp, rfl, by show 4 ≤ sizeLine; decide, fun r hr' => ?_⟩⟩
        have s1 := same_new (o := .tup [V.str "added", .str nm, .non, .ref v]) hr'
        exact q _ _ s1 ⟨r, .non, .ref v, rfl, upd_same, rfl, ⟨v, rfl, hv.keep s1⟩, hi⟩
    | some a =>
      obtain ⟨i, num⟩ := a
      obtain ⟨⟨p, v, rfl, hp, hv⟩, hi⟩ := hx
      refine ⟨_, rfl, rfl, _, rfl, iteF ?_⟩
      cases n with
      | none =>
        cases (show y = .non from hy)
        refine ⟨_, rfl, rfl, _, rfl, iteT ⟨_, rfl, _, rfl, p, _, _, _, rfl, rfl, sqT_of hp, rfl, by show 4 ≤ sizeLine; decide, fun r hr' => ?_⟩⟩
        have s1 := same_new (o := .tup [V.str "removed", .str nm, .ref v, .non]) hr'
        exact q _ _ s1 ⟨r, .ref v, .non, rfl, upd_same, ⟨⟨v, rfl, hv.keep s1⟩, hi⟩, rfl⟩
      | some b =>
        obtain ⟨j, mum⟩ := b
        obtain ⟨⟨p2, v2, rfl, hp2, hv2⟩, hj⟩ := hy
        refine ⟨_, rfl, rfl, _, rfl, iteF ?_⟩
        obtain ⟨dx, hvx⟩ := id hv
        obtain ⟨dy, hvy⟩ := id hv2
        refine ⟨_, rfl, p, _, _, _, rfl, rfl, sqT_of hp, rfl, _, rfl, p2, _, _, _, rfl, rfl, sqT_of hp2, rfl, v, dx, _, v2, dy, _, rfl, rfl, hvx, hvy, v, _, _, rfl, hv, .inl ⟨v2, _, rfl, hv2, ?_⟩⟩
        refine ⟨_, rfl, ?_⟩
        have chg : ¬ ((i, num) = (j, mum)) → ∀ r, H r = none → Tells D.a_Version (upd H r (.tup [V.str "changed", .str nm, .ref v, .ref v2])) (.ref r) (d1 nm (some (i, num)) (some (j, mum))) := fun ne r hr' => by
          have s1 := same_new (o := .tup [V.str "changed", .str nm, .ref v, .ref v2]) hr'
          show Tells _ _ _ (if (i, num) = (j, mum) then none else _)
          rw [if_neg ne]
          exact ⟨r, .ref v, .ref v2, rfl, upd_same, ⟨⟨v, rfl, hv.keep s1⟩, hi⟩, ⟨v2, rfl, hv2.keep s1⟩, hj⟩
        by_cases e : vrk i = vrk j
        · rw [decide_eq_true e]
          have eij := vrk_inj i hi j hj e
          by_cases e2 : num = mum
          · refine iteT ⟨_, rfl, p, _, _, _, rfl, rfl, sqT_of hp, rfl, _, rfl, p2, _, _, _, rfl, rfl, sqT_of hp2, rfl, rfl, true, (by show V.bl (decide _) = _; rw [decide_eq_true (by rw [e2])]), iteT ?_⟩
            refine q _ H (Same.refl _) ?_
            show Tells _ _ _ (if (i, num) = (j, mum) then none else _)
            rw [if_pos (by rw [eij, e2])]
            exact rfl
          · refine iteT ⟨_, rfl, p, _, _, _, rfl, rfl, sqT_of hp, rfl, _, rfl, p2, _, _, _, rfl, rfl, sqT_of hp2, rfl, rfl, false, (by show V.bl (decide _) = _; rw [decide_eq_false (fun z => by injection z with z; exact e2 z)]), iteF ?_⟩
            refine ⟨_, rfl, _, rfl, p, _, _, _, rfl, rfl, sqT_of hp, rfl, _, rfl, p2, _, _, _, rfl, rfl, sqT_of hp2, rfl, by show 4 ≤ sizeLine; decide, fun r hr' => ?_⟩
            exact q _ _ (same_new hr') (chg (fun z => by injection z with _ z; exact e2 z) r hr')
        · rw [decide_eq_false e]
          refine iteF (iteF ?_)
          refine ⟨_, rfl, _, rfl, p, _, _, _, rfl, rfl, sqT_of hp, rfl, _, rfl, p2, _, _, _, rfl, rfl, sqT_of hp2, rfl, by show 4 ≤ sizeLine; decide, fun r hr' => ?_⟩
          exact q _ _ (same_new hr') (chg (fun z => by injection z with z _; exact e (by rw [z])) r hr')
end

/-! ## differences -/
section
variable {P : Program} {w : World} {K : PySem.W.Frag} {mg : Str → Option Value} {base : Heap} {D : Ad}
open TL SX PyProof.Rows
def NoOb (H : Hp) (D : Addr) : Prop := (∀ xs, H D ≠ some (.tup xs)) ∧ ∀ C dx fs, H D ≠ some (.ins C dx fs)
theorem DRow.butN {C D : Addr} {H H' : Hp} {z : V} {d : Df} (h : DRow C H z d) (hl : NoOb H D) (b : But D H H') : DRow C H' z d := by
  have hv : ∀ {x : V} {o : Option Nat}, Hv C H x o → Hv C H' x o := fun {x o} h => by
    cases o with
    | none => exact h
    | some i =>
      obtain ⟨⟨v, e, dx, hv⟩, hi⟩ := h
      exact ⟨⟨v, e, dx, b _ _ hv fun q => hl.2 _ _ _ (q ▸ hv)⟩, hi⟩
  obtain ⟨a, x, y, e, ha, hx, hy⟩ := h
  exact ⟨a, x, y, e, b _ _ ha (fun q => hl.1 _ (q ▸ ha)), hv hx, hv hy⟩
theorem Tells.butN {C D : Addr} {H H' : Hp} {z : V} {d : Option Df} (h : Tells C H z d) (hl : NoOb H D) (b : But D H H') : Tells C H' z d := by
  cases d with
  | none => exact h
  | some d => exact DRow.butN h hl b
theorem NoOb.lst {H : Hp} {D : Addr} {l : List V} (h : H D = some (.lst l)) : NoOb H D := ⟨fun xs e => (by rw [h] at e; cases e), fun C dx fs e => (by rw [h] at e; cases e)⟩
theorem NoOb.frz {H : Hp} {D : Addr} {o : Obj} {u : HO} (h : H D = some (.frz o u)) : NoOb H D := ⟨fun xs e => (by rw [h] at e; cases e), fun C dx fs e => (by rw [h] at e; cases e)⟩
theorem Tells.keep {C : Addr} {H H' : Hp} {z : V} {d : Option Df} (h : Tells C H z d) (s : Same H H') : Tells C H' z d := by
  cases d with
  | none => exact h
  | some d => exact DRow.keep h s
/-- a tuple of differences -/
def DRows (C : Addr) (H : Hp) (t : Addr) (ds : List Df) : Prop := ∃ acc : List (V × Df), H t = some (.tup (acc.map (·.1))) ∧ acc.map (·.2) = ds ∧ ∀ q ∈ acc, DRow C H q.1 q.2
theorem DRows.keep {C : Addr} {H H' : Hp} {t : Addr} {ds : List Df} (h : DRows C H t ds) (s : Same H H') : DRows C H' t ds := by
  obtain ⟨acc, h1, h2, h3⟩ := h
  exact ⟨acc, s _ _ h1, h2, fun q hq => (h3 q hq).keep s⟩
theorem keys_put {κ : Type} [DecidableEq κ] (ks : List (κ × V)) (k : κ) (v : V) : (putK ks k v).map (·.1) = if k ∈ ks.map (·.1) then ks.map (·.1) else ks.map (·.1) ++ [k] := by
  unfold putK
  have e : ((ks.any fun kv => decide (kv.1 = k)) = true) ↔ k ∈ ks.map (·.1) := by
    rw [List.any_eq_true, List.mem_map]
    exact ⟨fun ⟨x, h1, h2⟩ => ⟨x, h1, of_decide_eq_true h2⟩, fun ⟨x, h1, h2⟩ => ⟨x, h1, decide_eq_true h2⟩⟩
  by_cases c : k ∈ ks.map (·.1)
  · rw [if_pos (e.mpr c), if_pos c, List.map_map]
    refine List.map_congr_left fun x _ => ?_
    show (if x.1 = k then (x.1, v) else x).1 = x.1
    split <;> rfl
  · rw [if_neg (fun z => c (e.mp z)), if_neg c, List.map_append]
    rfl
theorem keys_ov : ∀ (ls ks : List (Key × V)), (ks.map (·.1)).Nodup → ((ovK ks ls).map (·.1)).Nodup ∧ ∀ k, k ∈ (ovK ks ls).map (·.1) ↔ k ∈ ks.map (·.1) ∨ k ∈ ls.map (·.1)
  | [], ks, h => ⟨h, fun k => by simp [ovK]⟩
  | p :: ls, ks, h => by
    have e : ovK ks (p :: ls) = ovK (putK ks p.1 p.2) ls := rfl
    have hk := keys_put ks p.1 p.2
    have hn : ((putK ks p.1 p.2).map (·.1)).Nodup := by
      rw [hk]
      split
      · exact h
      · rename_i c
        rw [List.nodup_append]
        refine ⟨h, List.pairwise_singleton _ _, fun a ha b hb => ?_⟩
        rw [List.mem_singleton.mp hb]
        exact fun z => c (z ▸ ha)
    obtain ⟨i1, i2⟩ := keys_ov ls (putK ks p.1 p.2) hn
    rw [e]
    refine ⟨i1, fun k => ?_⟩
    rw [i2 k, hk, List.map_cons, List.mem_cons]
    split
    · rename_i c
      constructor
      · rintro (h | h)
        · exact .inl h
        · exact .inr (.inr h)
      · rintro (h | h | h)
        · exact .inl h
        · exact .inl (h ▸ c)
        · exact .inr h
    · rw [List.mem_append, List.mem_singleton]
      constructor
      · rintro ((h | h) | h)
        · exact .inl h
        · exact .inr (.inl h)
        · exact .inr (.inr h)
      · rintro (h | h | h)
        · exact .inl (.inl h)
        · exact .inl (.inr h)
        · exact .inr h
/-- the names of two tables put over each other -/
theorem names_ov {k1 k2 : List (Key × V)} {r1 r2 : List Rw} (h1 : k1.map (·.1) = r1.map (fun r => (Sum.inr r.nm : Key))) (h2 : k2.map (·.1) = r2.map (fun r => (Sum.inr r.nm : Key))) :
    ∃ nms : List Str, (ovK (ovK [] k1) k2).map (·.1) = nms.map (fun x => (Sum.inr x : Key)) ∧ nms.Nodup ∧ ∀ y, y ∈ nms ↔ y ∈ (r1 ++ r2).map (·.nm) := by
  obtain ⟨a1, a2⟩ := keys_ov k1 [] List.nodup_nil
  obtain ⟨b1, b2⟩ := keys_ov k2 (ovK [] k1) a1
  have hm : ∀ k, k ∈ (ovK (ovK [] k1) k2).map (·.1) ↔ k ∈ ((r1 ++ r2).map (·.nm)).map (fun x => (Sum.inr x : Key)) := fun k => by
    rw [b2, a2, h1, h2, List.map_map, List.map_append, List.mem_append]
    constructor
    · rintro ((h | h) | h)
      · cases h
      · exact .inl h
      · exact .inr h
    · rintro (h | h)
      · exact .inl (.inr h)
      · exact .inr h
  have all : ∀ l : List Key, (∀ k ∈ l, ∃ x : Str, k = Sum.inr x) → ∃ nms : List Str, l = nms.map (fun x => (Sum.inr x : Key)) := by
    intro l
    induction l with
    | nil => intro _; exact ⟨[], rfl⟩
    | cons k l ih =>
      intro h
      obtain ⟨x, e⟩ := h k List.mem_cons_self
      obtain ⟨nms, e2⟩ := ih fun k hk => h k (List.mem_cons_of_mem _ hk)
      exact ⟨x :: nms, by rw [e, e2] <;> rfl⟩
  obtain ⟨nms, e⟩ := all _ fun k hk => by
    obtain ⟨x, _, e⟩ := List.mem_map.mp ((hm k).mp hk)
    exact ⟨x, e.symm⟩
  refine ⟨nms, e, ?_, fun y => ?_⟩
  · rw [e] at b1
    exact List.Pairwise.of_map _ (fun a b hne e => hne (by rw [e])) b1
  · have q := hm (Sum.inr y)
    rw [e] at q
    have inj : ∀ l : List Str, (Sum.inr y : Key) ∈ l.map (fun x => (Sum.inr x : Key)) ↔ y ∈ l := fun l => by
      rw [List.mem_map]
      constructor
      · rintro ⟨x, h, e⟩
        injection e with e
        exact e ▸ h
      · exact fun h => ⟨y, h, rfl⟩
    rw [inj, inj] at q
    exact q
theorem len_ov : ∀ (ls ks : List (Key × V)), (ovK ks ls).length ≤ ks.length + ls.length
  | [], ks => Nat.le_refl _
  | p :: ls, ks => by
    have e : ovK ks (p :: ls) = ovK (putK ks p.1 p.2) ls := rfl
    have h1 := len_ov ls (putK ks p.1 p.2)
    have h2 := length_putK ks p.1 p.2
    rw [e, List.length_cons]
    omega
theorem nms_len {k1 k2 : List (Key × V)} {r1 r2 : List Rw} {nms : List Str} (h1 : k1.map (·.1) = r1.map (fun r => (Sum.inr r.nm : Key))) (h2 : k2.map (·.1) = r2.map (fun r => (Sum.inr r.nm : Key)))
    (h : (ovK (ovK [] k1) k2).map (·.1) = nms.map (fun x => (Sum.inr x : Key))) : nms.length ≤ r1.length + r2.length := by
  have e := congrArg List.length h
  rw [List.length_map, List.length_map] at e
  have e1 := congrArg List.length h1
  have e2 := congrArg List.length h2
  rw [List.length_map, List.length_map] at e1 e2
  have a1 := len_ov k1 []
  have a2 := len_ov k2 (ovK [] k1)
  rw [List.length_nil] at a1
  omega
/-- what stands of a row of options -/
def som {α β : Type} (acc : List (α × Option β)) : List (α × β) := acc.filterMap fun q => q.2.map fun d => (q.1, d)
theorem som_fst {α β : Type} : ∀ acc : List (α × Option β), (som acc).map (·.1) = (acc.filter fun q => q.2.isSome).map (·.1)
  | [] => rfl
  | (x, none) :: acc => som_fst acc
  | (x, some d) :: acc => congrArg (x :: ·) (som_fst acc)
theorem som_snd {α β : Type} : ∀ acc : List (α × Option β), (som acc).map (·.2) = (acc.map (·.2)).filterMap id
  | [] => rfl
  | (x, none) :: acc => som_snd acc
  | (x, some d) :: acc => congrArg (d :: ·) (som_snd acc)
theorem som_mem {α β : Type} {acc : List (α × Option β)} {q : α × β} (h : q ∈ som acc) : (q.1, some q.2) ∈ acc := by
  obtain ⟨z, hz, e⟩ := List.mem_filterMap.mp h
  obtain ⟨d, hd, e2⟩ := Option.map_eq_some_iff.mp e
  rw [← e2, ← hd]
  exact hz
def spDiffs (K : PySem.W.Frag) (C : Addr) : Sp := fun vs H Q _ => ∃ (t1 t2 : Addr) (r1 r2 : List Rw), vs = [.ref t1, .ref t2] ∧ PRows K C H t1 r1 ∧ PRows K C H t2 r2 ∧ r1.length ≤ 10 ∧ r2.length ≤ 10 ∧ (r1.map (·.nm)).Nodup ∧ (r2.map (·.nm)).Nodup ∧
  ∀ a ns H', Same H H' → H a = none → NmS ns r1 r2 → ns.length ≤ 20 → DRows C H' a (dif ns r1 r2) → Q (.ref a) H'
theorem ok_differences (T : Tex K mg D) : FnOk P w K mg base CX0 5 D.a_differences D.d_differences P_differences (spDiffs K D.a_Version) := by
  have G_by_name : FnOk P w K mg base CX0 1 D.a_by_name D.d_by_name P_by_name (spByName K D.a_Version) := ok_by_name T
  have G_difference : FnOk P w K mg base CX0 3 D.a_difference D.d_difference P_difference (spDifference D.a_Version) := ok_difference T
  refine T.differences_F.ok S_differences (fun vs H Q E h => ?_) (fun cdv A outer s H vs Q E hr h => ?_)
  · obtain ⟨t1, t2, r1, r2, rfl, _⟩ := h
    rfl
  · obtain ⟨t1, t2, r1, r2, rfl, p1, p2, l1, l2, n1, n2, q⟩ := h
    have hu := hu_of hr
    refine ⟨_, (pss_cons (ps_set (i := 2) S_differences.nd rfl (Or.inr rfl) (pe_call G_by_name (hr.mono (by decide)) (by rfl) T.by_name_g T.by_name_F.kp T.by_name_b .nil pass0 (pa_cons (pv 0) pa_nil)))
      (pss_cons (ps_set (i := 3) S_differences.nd rfl (Or.inr rfl) (pe_call G_by_name (hr.mono (by decide)) (by rfl) T.by_name_g T.by_name_F.kp T.by_name_b .nil pass0 (pa_cons (pv 1) pa_nil)))
      (pss_cons (ps_set (i := 4) S_differences.nd rfl (Or.inl rfl) (pe_dmerge (pv 2) (pv 3)))
      (pss_cons (ps_lock (ps_setLc (i := 5) (own := [(("name" : Str), 6)]) (g := gName 6) (tt := tYes) rfl S_differences.nd rfl rfl (sw_true rfl rfl rfl (by decide +kernel)) (pi_list (pe_callB cr_sortedS (by rfl) T.b_sorted (by decide +kernel) (pa_cons (pe_lc (own := [(("key" : Str), 7)]) (g := gName 7) (tt := tYes) rfl S_differences.nd (pi_keys (pv 4)) (blkOk_by (N := N_differences) (sc := defScope s_differences) (by decide +kernel)) (fun _ _ _ _ _ => pg_name (i := 7) S_differences.nd rfl (Or.inl rfl)) (fun _ _ _ _ _ => pts_nil) (fun _ _ _ _ _ => (pe_callTy SkE.call_str_str (by rfl) T.b_str (by decide +kernel) (pa_cons (pv 7) pa_nil)))) pa_nil))) (blkOk_by (N := N_differences) (sc := defScope s_differences) (by decide +kernel)) (fun _ _ _ _ _ => pg_name (i := 6) S_differences.nd rfl (Or.inl rfl)) (fun _ _ _ _ _ => pts_nil) (fun _ _ _ _ _ => (pe_call G_difference (hr.mono (by decide)) (by rfl) T.difference_g T.difference_F.kp T.difference_b .nil pass0 (pa_cons (pv 6) (pa_cons (pe_dget1 hu (pv 2) (pv 6) ⟨by rfl, by rfl, by rfl, by rfl⟩) (pa_cons (pe_dget1 hu (pv 3) (pv 6) ⟨by rfl, by rfl, by rfl, by rfl⟩) pa_nil)))))))
      (pss_one (ps_ret (pe_callTy call_tuple_of (by rfl) T.b_tuple (by decide +kernel) (pa_cons (pe_lc (own := [(("row" : Str), 8)]) (g := gName 8) rfl S_differences.nd (pi_list (pv 5)) (blkOk_by (N := N_differences) (sc := defScope s_differences) (by decide +kernel)) (fun _ _ _ _ _ => pg_name (i := 8) S_differences.nd rfl (Or.inl rfl)) (fun _ _ _ _ _ => (pts_one (pt_cmpR op_notN (pv 8) pe_non (nomark _)))) (fun _ _ _ _ _ => (pv 8))) pa_nil)))))))), ?_⟩
    refine ⟨_, rfl, t1, r1, rfl, p1, l1, n1, fun d1' k1 H1 s1 hd1 hk1 tb1 => ?_⟩
    refine ⟨_, rfl, t2, r2, rfl, p2.keep s1, l2, n2, fun d2' k2 H2 s2 hd2 hk2 tb2 => ?_⟩
    have hk1' := s2 _ _ hk1
    refine fun Dn hDn => ⟨_, rfl, d1', k1, rfl, ne_of_none hk1' hDn, by rw [upd_ne (ne_of_none hk1' hDn)]; exact hk1', upd_same, ?_⟩
    refine ⟨_, rfl, d2', k2, _, rfl, ne_of_none hk2 hDn, by rw [upd_ne (ne_of_none hk2 hDn), upd_ne (ne_of_none hk2 hDn)]; exact hk2, upd_same, ?_, ?_⟩
    · have e1 := congrArg List.length tb1.1
      have e2 := congrArg List.length tb2.1
      rw [List.length_map, List.length_map] at e1 e2
      have a1 := len_ov k1 []
      rw [List.length_nil] at a1
      exact szl (by omega)
    obtain ⟨nms, en, nn, nm⟩ := names_ov tb1.1 tb2.1
    have nl := nms_len tb1.1 tb2.1 en
    have s3 : Same H2 (upd (upd (upd H2 Dn (.dK [])) Dn (.dK (ovK [] k1))) Dn (.dK (ovK (ovK [] k1) k2))) := same_upd (same_upd (same_new hDn) hDn) hDn
    have hN : (upd (upd (upd H2 Dn (.dK [])) Dn (.dK (ovK [] k1))) Dn (.dK (ovK (ovK [] k1) k2))) Dn = some (.dK (ovK (ovK [] k1) k2)) := upd_same
    revert s3 hN en
    generalize ovK (ovK [] k1) k2 = N
    generalize upd (upd (upd H2 Dn (.dK [])) Dn (.dK (ovK [] k1))) Dn (.dK N) = H3
    intro en s3 hN
    refine ⟨Dn, _, hN, trivial, fun od => ?_⟩
    have b4 : But Dn H3 (upd H3 Dn (.frz od (.dK N))) := But.upd
    have hF : (upd H3 Dn (.frz od (.dK N))) Dn = some (.frz od (.dK N)) := upd_same
    revert b4 hF
    generalize upd H3 Dn (.frz od (.dK N)) = H4
    intro b4 hF
    have d1n : d1' ≠ Dn := ne_of_none hk1' hDn
    have d2n : d2' ≠ Dn := ne_of_none hk2 hDn
    have hk14 : H4 d1' = some (.dK k1) := b4 _ _ (s3 _ _ hk1') d1n
    have hk24 : H4 d2' = some (.dK k2) := b4 _ _ (s3 _ _ hk2) d2n
    have hNl : N.length = nms.length := by rw [← List.length_map (f := Prod.fst), en, List.length_map]
    refine ⟨_, rfl, Dn, od, rfl, .inl ⟨N, hF, fun DD hDD => lc_map (walk_keys (kvs := N)) nms V.str hNl (fun i H x H' ⟨e, k, v, hk, ex⟩ => ⟨e, ?_⟩) (fun _ => true) V.str hDD (szt (by omega)) (fun H s => s _ _ hF) (fun nm0 hnm H5 R5 S5 s5 g1 g2 => ?_) (fun H5 s5 h5 => ?_)⟩⟩
    · have e1 : (N.map (·.1))[i]? = some k := by rw [List.getElem?_map, hk] <;> rfl
      rw [en, List.getElem?_map] at e1
      obtain ⟨z, hz, rfl⟩ := Option.map_eq_some_iff.mp e1
      exact ⟨z, hz, ex⟩
    · exact ⟨rfl, _, rfl, nm0, rfl, g1 rfl H5 (Same.refl _)⟩
    · rw [filt1] at h5
      refine ⟨DD, nms, rfl, SqL.of h5, by omega, fun ns p hperm hsort hp => ?_⟩
      have s6 := s5.trans (same_new (o := .lst (ns.map V.str)) hp)
      have hp6 : (upd H5 p (.lst (ns.map V.str))) p = some (.lst (ns.map V.str)) := upd_same
      revert s6 hp6
      generalize upd H5 p (.lst (ns.map V.str)) = H6
      intro s6 hp6
      have hns : NmS ns r1 r2 := ⟨hsort, hperm.nodup_iff.mpr nn, fun y => by rw [hperm.mem_iff]; exact nm y⟩
      have hnl : ns.length ≤ 20 := by rw [hperm.length_eq]; omega
      have t1 : ∀ b, b ≠ Dn → ∀ o, H1 b = some o → H6 b = some o := fun b hb o e => s6 _ _ (b4 _ _ (s3 _ _ (s2 _ _ e)) hb)
      have t2 : ∀ b, b ≠ Dn → ∀ o, H2 b = some o → H6 b = some o := fun b hb o e => s6 _ _ (b4 _ _ (s3 _ _ e) hb)
      have notDn1 : ∀ b o, H1 b = some o → b ≠ Dn := fun b o e => ne_of_none (s2 _ _ e) hDn
      have notDn2 : ∀ b o, H2 b = some o → b ≠ Dn := fun b o e => ne_of_none e hDn
      have tb1' : Tab D.a_Version H6 k1 r1 := tb1.keep fun b o e => t1 b (notDn1 b o e) o e
      have tb2' : Tab D.a_Version H6 k2 r2 := tb2.keep fun b o e => t2 b (notDn2 b o e) o e
      refine ⟨p, rfl, ⟨_, SqL.of hp6⟩, fun DT hDT => lc_grow (walk_list) ns V.str (List.length_map ..) (fun i H x H' ⟨e, hx⟩ => ⟨e, by rw [List.getElem?_map] at hx; obtain ⟨z, hz, e2⟩ := Option.map_eq_some_iff.mp hx; exact ⟨z, hz, e2.symm⟩⟩) (fun nm0 => some (d1 nm0 (fnd r1 nm0) (fnd r2 nm0))) (Tells D.a_Version) (fun H H' v b l hl bb hh => hh.butN (NoOb.lst hl) bb) hDT (szt (by rw [List.length_map]; omega)) (fun H s => SqL.of (s _ _ hp6)) (fun nm0 hnm H7 R7 S7 s7 g1 g2 => ?_) (fun H7 acc s7 ha hp7 h7 => ?_)⟩
      · have h1 := (tb1'.keep s7).2 nm0
        have h2 := (tb2'.keep s7).2 nm0
        have k17 : H7 d1' = some (.dK k1) := s7 _ _ (s6 _ _ hk14)
        have k27 : H7 d2' = some (.dK k2) := s7 _ _ (s6 _ _ hk24)
        refine ⟨rfl, _, rfl, _, rfl, d1', rfl, .inl ⟨k1, .inl k17⟩, _, rfl, _, DGet.k (k := Sum.inr nm0) k17, _, rfl, d2', rfl, .inl ⟨k2, .inl k27⟩, _, rfl, _, DGet.k (k := Sum.inr nm0) k27, nm0, _, _, _, _, rfl, h1, h2, fun e1 e2 => ?_, fun z H8 s8 hz => g1 z _ H8 rfl s8 hz⟩
        have hin := (hns.2.2 nm0).mp hnm
        rw [List.map_append, List.mem_append] at hin
        exact hin.elim (fnd_none.mp e1) (fnd_none.mp e2)
      · have hF7 : H7 Dn = some (.frz od (.dK N)) := s7 _ _ (s6 _ _ hF)
        refine ⟨hF7, ?_⟩
        have b8 : But Dn H7 (upd H7 Dn (.dK N)) := But.upd
        have h8 : (upd H7 Dn (.dK N)) DT = some (.lst (acc.map (·.1))) := b8 _ _ h7 (fun e => by rw [e, hF7] at h7; cases h7)
        have hp8 : ∀ q ∈ acc, Tells D.a_Version (upd H7 Dn (.dK N)) q.1 q.2 := fun q hq => (hp7 q hq).butN (NoOb.frz hF7) b8
        revert b8 h8 hp8
        generalize upd H7 Dn (.dK N) = H8
        intro b8 h8 hp8
        have hal : acc.length ≤ 20 := by
          have e := congrArg List.length ha
          rw [List.length_map] at e
          rw [e]
          exact Nat.le_trans (List.length_filterMap_le _ _) hnl
        have s28 : Same H2 H8 := fun b o e => b8 _ _ (s7 _ _ (t2 b (notDn2 b o e) o e)) (notDn2 b o e)
        refine ⟨_, rfl, DT, rfl, ⟨_, SqL.of h8⟩, fun DE hDE => lc_lst acc (·.1) (fun q => q.2.isSome) (·.1) hDE (szt (by omega)) (SqL.of h8) (fun z hz H9 R9 S9 s9 g1 g2 => ?_) (fun H9 s9 h9 => ?_)⟩
        · obtain ⟨x, d⟩ := z
          have hx := hp8 _ hz
          cases d with
          | none =>
            cases (show x = .non from hx)
            refine ⟨rfl, _, rfl, rfl, _, rfl, iteF (g2 rfl H9 (Same.refl _))⟩
          | some d =>
            obtain ⟨a, u, v, ex, _⟩ := hx
            cases (show x = .ref a from ex)
            exact ⟨rfl, _, rfl, rfl, _, rfl, iteT ⟨_, rfl, g1 rfl H9 (Same.refl _)⟩⟩
        · refine ⟨DE, _, rfl, .inl ⟨SqL.of h9, fun a ha' => ?_⟩⟩
          have s10 := same_new (o := .tup ((acc.filter fun q => q.2.isSome).map (·.1))) ha'
          have sall := ((s1.trans s2).trans s28).trans s9
          refine q a ns _ (sall.trans s10) (sall.free ha') hns hnl ⟨som acc, ?_, ?_, fun z hz => ?_⟩
          · rw [som_fst]
            exact upd_same
          · rw [som_snd, ha]
            unfold dif
            rw [List.filterMap_filterMap]
            rfl
          · exact DRow.keep (hp8 _ (som_mem hz)) (s9.trans s10)
end

/-! ## The law's rows -/
section
variable {P : Program} {w : World} {K : PySem.W.Frag} {mg : Str → Option Value} {base : Heap} {D : Ad}
open TL SX PyProof.Rows
def LRow (H : Hp) (x : V) (r : Rw) : Prop := (∃ a e m, x = .ref a ∧ H a = some (.tup [.str r.nm, .str (S (vtx r.vi)), .ref e, .str m, .int r.num])) ∧ r.vi < 3
theorem LRow.keep {H H' : Hp} {x : V} {r : Rw} (h : LRow H x r) (s : Same H H') : LRow H' x r := by
  obtain ⟨⟨a, e, m, rfl, ha⟩, hi⟩ := h
  exact ⟨⟨a, e, m, rfl, s _ _ ha⟩, hi⟩
theorem LRow.butN {D : Addr} {H H' : Hp} {x : V} {r : Rw} (h : LRow H x r) (hl : ∀ xs, H D ≠ some (.tup xs)) (b : But D H H') : LRow H' x r := by
  obtain ⟨⟨a, e, m, rfl, ha⟩, hi⟩ := h
  exact ⟨⟨a, e, m, rfl, b _ _ ha fun q => hl _ (q ▸ ha)⟩, hi⟩
def LRows (H : Hp) (l : Addr) (rs : List Rw) : Prop := ∃ acc : List (V × Rw), H l = some (.lst (acc.map (·.1))) ∧ acc.map (·.2) = rs ∧ ∀ q ∈ acc, LRow H q.1 q.2
theorem LRows.keep {H H' : Hp} {l : Addr} {rs : List Rw} (h : LRows H l rs) (s : Same H H') : LRows H' l rs := by
  obtain ⟨acc, h1, h2, h3⟩ := h
  exact ⟨acc, s _ _ h1, h2, fun q hq => (h3 q hq).keep s⟩
theorem LRows.butN {D : Addr} {H H' : Hp} {l : Addr} {rs : List Rw} (h : LRows H l rs) (hl : ∀ xs, H D ≠ some (.tup xs)) (hne : l ≠ D) (b : But D H H') : LRows H' l rs := by
  obtain ⟨acc, h1, h2, h3⟩ := h
  exact ⟨acc, b _ _ h1 hne, h2, fun q hq => (h3 q hq).butN hl b⟩
theorem vtx_len (i : Nat) : (vtx i).length ≤ 4 := by
  match i with
  | 0 => decide
  | 1 => decide
  | _ + 2 => exact Nat.le_refl 4
def spMade (K : PySem.W.Frag) (C : Addr) : Sp := fun vs H Q _ => ∃ (l : Addr) (rs : List Rw), vs = [.ref l] ∧ LRows H l rs ∧ rs.length ≤ 10 ∧ ∀ t H', Same H H' → H t = none → PRows K C H' t rs → Q (.ref t) H'
theorem PRow.butN {C D : Addr} {H H' : Hp} {x : V} {r : Rw} (h : PRow C H x r) (hl : NoOb H D) (b : But D H H') : PRow C H' x r := by
  obtain ⟨⟨a, v, e, m, rfl, ha, dx, hv⟩, hi⟩ := h
  exact ⟨⟨a, v, e, m, rfl, b _ _ ha (fun q => hl.1 _ (q ▸ ha)), dx, b _ _ hv fun q => hl.2 _ _ _ (q ▸ hv)⟩, hi⟩
theorem ok_made (T : Tex K mg D) : FnOk P w K mg base CX0 9 D.a_made D.d_made P_made (spMade K D.a_Version) := by
  have G_Version_init : FnOk P w K mg base CX0 6 D.a_Version_init D.d_Version_init P_Version_init (spInit D.a_Version) := ok_Version_init T
  refine T.made_F.ok S_made (fun vs H Q E h => ?_) (fun cdv A outer s H vs Q E hr h => ?_)
  · obtain ⟨l, rs, rfl, _⟩ := h
    rfl
  · obtain ⟨l, rs, rfl, ⟨acc, hl, hrs, hrow⟩, hlen, q⟩ := h
    have hal : acc.length = rs.length := by rw [← hrs, List.length_map]
    refine ⟨_, (pss_one (ps_ret (pe_callTy call_tuple_of (by rfl) T.b_tuple (by decide +kernel) (pa_cons (pe_lc (own := [(("_law_row" : Str), 1)]) (g := gName 1) (tt := tYes) rfl S_made.nd (pi_list (pv 0)) (blkOk_by (N := N_made) (sc := defScope s_made) (by decide +kernel)) (fun _ _ _ _ _ => pg_name (i := 1) S_made.nd rfl (Or.inl rfl)) (fun _ _ _ _ _ => pts_nil) (fun _ _ _ _ _ => (pe_tup (pa_cons (pe_ix (ix_tupK (KK := K) rfl) (pv 1) pe_int (fun _ _ => rfl)) (pa_cons (pe_make T.Version_mk G_Version_init (hr.mono (by decide)) rfl T.Version_g T.Version_init_b .nil pass0 (pa_cons (pe_ix (ix_tupK (KK := K) rfl) (pv 1) pe_int (fun _ _ => rfl)) pa_nil)) (pa_cons (pe_ix (ix_tupK (KK := K) rfl) (pv 1) pe_int (fun _ _ => rfl)) (pa_cons (pe_ix (ix_tupK (KK := K) rfl) (pv 1) pe_int (fun _ _ => rfl)) (pa_cons (pe_ix (ix_tupK (KK := K) rfl) (pv 1) pe_int (fun _ _ => rfl)) pa_nil)))))))) pa_nil)))), ?_⟩
    refine ⟨_, rfl, l, rfl, ⟨_, SqL.of hl⟩, fun DD hDD => lc_grow walk_list acc (·.1) (List.length_map ..) (fun i H x H' ⟨e, hx⟩ => ⟨e, by rw [List.getElem?_map] at hx; obtain ⟨z, hz, e2⟩ := Option.map_eq_some_iff.mp hx; exact ⟨z, hz, e2.symm⟩⟩) (fun z => some z.2) (PRow D.a_Version) (fun H H' v b l hl bb hh => hh.butN (NoOb.lst hl) bb) hDD (szt (by rw [List.length_map]; omega)) (fun H s => SqL.of (s _ _ hl)) (fun z hz H1 R1 S1 s1 g1 g2 => ?_) (fun H1 ac2 s1 ha hp h1 => ?_)⟩
    · obtain ⟨⟨a, e, m, ex, ha⟩, hi⟩ := (hrow z hz).keep s1
      obtain ⟨ns, st, v1, v2, v3, v4⟩ := vrk_eq _ hi
      show _ ∧ _
      rw [ex]
      refine ⟨rfl, _, rfl, a, _, _, _, rfl, rfl, sqT_of ha, rfl, _, rfl, a, _, _, _, rfl, rfl, sqT_of ha, rfl, fun x dx hx hdx _ => ⟨x, dx, _, ns, st, rfl, upd_same, Nat.le_trans (vtx_len _) (by decide), v1, v2, v3, fun H2 s2 => ⟨rfl, ?_⟩⟩⟩
      have t1 : Same H1 (upd H2 x (.ins D.a_Version dx [("_rank", .int (rk ns st : Nat))])) := make_same hx hdx s2
      have w1 : Ver D.a_Version (upd H2 x (.ins D.a_Version dx [("_rank", .int (rk ns st : Nat))])) x (vrk z.2.vi) := ⟨dx, by rw [upd_same, v4]⟩
      revert t1 w1
      generalize upd H2 x (.ins D.a_Version dx [("_rank", .int (rk ns st : Nat))]) = H3
      intro t1 w1
      have ha3 := t1 _ _ ha
      refine ⟨_, rfl, a, _, _, _, rfl, rfl, sqT_of ha3, rfl, _, rfl, a, _, _, _, rfl, rfl, sqT_of ha3, rfl, _, rfl, a, _, _, _, rfl, rfl, sqT_of ha3, rfl, by show 5 ≤ sizeLine; decide, fun p hp => ?_⟩
      have s4 := same_new (o := .tup [V.str z.2.nm, .ref x, .ref e, .str m, .int z.2.num]) hp
      exact g1 _ z.2 _ rfl (t1.trans s4) ⟨⟨p, x, e, m, rfl, upd_same, w1.keep s4⟩, hi⟩
    · refine ⟨DD, _, rfl, .inl ⟨SqL.of h1, fun t ht => ?_⟩⟩
      have s2 := same_new (o := .tup (ac2.map (·.1))) ht
      refine q t _ (s1.trans s2) (s1.free ht) ⟨ac2, sqT_of upd_same, ?_, fun z hz => (hp z hz).keep s2⟩
      rw [ha, ← hrs]
      exact congrFun (List.filterMap_eq_map (f := fun z : V × Rw => z.2)) acc
/-! ### what is told, as texts -/
def tx : Option Nat → Str
  | none => ""
  | some i => S (vtx i)
def TRow (H : Hp) (z : V) (d : Df) : Prop := ∃ a, z = .ref a ∧ H a = some (.tup [.str d.wd, .str d.nm, .str (tx d.o), .str (tx d.n)])
theorem TRow.keep {H H' : Hp} {z : V} {d : Df} (h : TRow H z d) (s : Same H H') : TRow H' z d := let ⟨a, e, ha⟩ := h; ⟨a, e, s _ _ ha⟩
theorem TRow.butN {D : Addr} {H H' : Hp} {z : V} {d : Df} (h : TRow H z d) (hl : ∀ xs, H D ≠ some (.tup xs)) (b : But D H H') : TRow H' z d :=
  let ⟨a, e, ha⟩ := h; ⟨a, e, b _ _ ha fun q => hl _ (q ▸ ha)⟩
def LT (H : Hp) (l : Addr) (ds : List Df) : Prop := ∃ acc : List (V × Df), H l = some (.lst (acc.map (·.1))) ∧ acc.map (·.2) = ds ∧ ∀ q ∈ acc, TRow H q.1 q.2
theorem LT.keep {H H' : Hp} {l : Addr} {ds : List Df} (h : LT H l ds) (s : Same H H') : LT H' l ds := by
  obtain ⟨acc, h1, h2, h3⟩ := h
  exact ⟨acc, s _ _ h1, h2, fun q hq => (h3 q hq).keep s⟩
/-- one more row -/
theorem LT.put {H : Hp} {l p : Addr} {ds : List Df} {d : Df} {l1 : List V} (h : LT H l ds) (e : H l = some (.lst l1)) (hp : H p = none) :
    LT (upd (upd H p (.tup [.str d.wd, .str d.nm, .str (tx d.o), .str (tx d.n)])) l (.lst (l1 ++ [.ref p]))) l (ds ++ [d]) := by
  obtain ⟨acc, h1, h2, h3⟩ := h
  rw [e] at h1
  injection h1 with h1
  injection h1 with h1
  subst h1
  have hne : l ≠ p := ne_of_none e hp
  have s1 := same_new (o := .tup [V.str d.wd, .str d.nm, .str (tx d.o), .str (tx d.n)]) hp
  have nt : ∀ xs, (upd H p (.tup [V.str d.wd, .str d.nm, .str (tx d.o), .str (tx d.n)])) l ≠ some (.tup xs) := fun xs q => by
    rw [upd_ne hne, e] at q
    cases q
  refine ⟨acc ++ [(.ref p, d)], ?_, ?_, fun q hq => ?_⟩
  · rw [upd_same, List.map_append] <;> rfl
  · rw [List.map_append, h2] <;> rfl
  · rcases List.mem_append.mp hq with h | h
    · exact ((h3 q h).keep s1).butN nt But.upd
    · rw [List.mem_singleton.mp h]
      exact ⟨p, rfl, by rw [upd_ne (Ne.symm hne), upd_same]⟩
theorem LT.len {H : Hp} {l : Addr} {ds : List Df} {l1 : List V} (h : LT H l ds) (e : H l = some (.lst l1)) : l1.length = ds.length := by
  obtain ⟨acc, h1, h2, h3⟩ := h
  rw [e] at h1
  injection h1 with h1
  injection h1 with h1
  rw [h1, ← h2, List.length_map, List.length_map]
theorem LT.raw {H : Hp} {l : Addr} {ds : List Df} (h : LT H l ds) : ∃ l1, H l = some (.lst l1) := let ⟨_, h1, _⟩ := h; ⟨_, h1⟩
theorem rd_opt {σ : L2.St} {H : Hp} {C : Addr} {i : Nat} {x : V} {o : Option Nat} {Q : VK} (hσ : σ[i]? = some (some x)) (hx : Hv C H x o) (q : ∀ H', Same H H' → Q (.str (tx o)) H') :
    tIf (tTest (tOp (fun x y H Q => y = V.non ∧ Q (V.bl !decide (x = V.non)) H) (tVar i) (tC V.non))) (tCB (rStrD C (fun vs H Q E => spStr C (vs ++ []) H Q E) E0) (tCons (tVar i) tNil)) (tC (V.str (Str.ofString ""))) σ H Q := by
  cases o with
  | none =>
    cases (show x = .non from hx)
    exact ⟨_, hσ, rfl, _, rfl, iteF (q H (Same.refl _))⟩
  | some j =>
    obtain ⟨⟨v, ex, dx, hv⟩, hj⟩ := hx
    cases (show x = .ref v from ex)
    obtain ⟨h1, h2⟩ := vrk_txt j hj
    refine ⟨_, hσ, rfl, _, rfl, iteT ⟨_, hσ, v, dx, _, rfl, hv, v, _, rfl, ⟨dx, hv⟩, h2, fun H2 s2 => ⟨_, rfl, ?_⟩⟩⟩
    rw [h1]
    exact q H2 s2
def spPlain (K : PySem.W.Frag) (C : Addr) : Sp := fun vs H Q _ => ∃ (t : Addr) (ds : List Df), vs = [.ref t] ∧ DRows C H t ds ∧ ds.length ≤ 20 ∧ ∀ a H', Same H H' → H a = none → LT H' a ds → Q (.ref a) H'
theorem ok_plain (T : Tex K mg D) : FnOk P w K mg base CX0 6 D.a_plain D.d_plain P_plain (spPlain K D.a_Version) := by
  have G_Version_str : FnOk P w K mg base CX0 3 D.a_Version_str D.d_Version_str P_Version_str (spStr D.a_Version) := ok_Version_str T
  refine T.plain_F.ok S_plain (fun vs H Q E h => ?_) (fun cdv A outer s H vs Q E hr h => ?_)
  · obtain ⟨t, ds, rfl, _⟩ := h
    rfl
  · obtain ⟨t, ds, rfl, ⟨acc, ht, hds, hrow⟩, hlen, q⟩ := h
    have hal : acc.length = ds.length := by rw [← hds, List.length_map]
    refine ⟨_, (pss_cons (ps_set (i := 1) S_plain.nd rfl (Or.inl rfl) (pe_lst pa_nil))
      (pss_cons (ps_for PassesOwn.never rfl (pi_tup (pv 0)) (pg_tup (by rfl) (pgs_cons (pg_name (i := 2) S_plain.nd rfl (Or.inl rfl)) (pgs_cons (pg_name (i := 3) S_plain.nd rfl (Or.inl rfl)) (pgs_cons (pg_name (i := 4) S_plain.nd rfl (Or.inl rfl)) (pgs_cons (pg_name (i := 5) S_plain.nd rfl (Or.inl rfl)) pgs_nil))))) (pss_one (ps_expr (pe_bm PySem.F.plainAttrs_list PySem.F.slot_list_append PySem.F.type_list_append mt_append (pv 1) (pa_cons (pe_tup (pa_cons (pv 2) (pa_cons (pv 3) (pa_cons (pe_ifExp (pt_cmpR op_notN (pv 4) pe_non (nomark _)) (pe_callTy (call_strD T.Version_str_at T.Version_str_fn (G_Version_str.raw T.Version_str_b .nil) (hr.mono (by decide)) pass0) (by rfl) T.b_str (by decide +kernel) (pa_cons (pv 4) pa_nil)) pe_str) (pa_cons (pe_ifExp (pt_cmpR op_notN (pv 5) pe_non (nomark _)) (pe_callTy (call_strD T.Version_str_at T.Version_str_fn (G_Version_str.raw T.Version_str_b .nil) (hr.mono (by decide)) pass0) (by rfl) T.b_str (by decide +kernel) (pa_cons (pv 5) pa_nil)) pe_str) pa_nil))))) pa_nil)))))
      (pss_one (ps_ret (pv 1))))), ?_⟩
    refine ⟨by show 0 ≤ sizeLine; decide, fun L hL => ?_⟩
    refine ⟨_, rfl, t, rfl, ⟨_, sqT_of (same_new hL _ _ ht)⟩, for_tup (K := K) (xs := acc.map (·.1)) (fun i σ H' => ∃ (x y u v : Option V), σ = [some (.ref t), some (.ref L), x, y, u, v] ∧ Same H H' ∧ LT H' L (ds.take i))
      ⟨none, none, none, none, rfl, same_new hL, [], upd_same, rfl, fun q hq => by cases hq⟩ (fun i σ H' _ ⟨_, _, _, _, _, e, _⟩ => sqT_of (e _ _ ht)) ?_ ?_⟩
    · rintro i x σ H1 hx ⟨_, _, _, _, rfl, s1, hT⟩
      rw [List.getElem?_map] at hx
      obtain ⟨z, hz, rfl⟩ := Option.map_eq_some_iff.mp hx
      have hdz : ds[i]? = some z.2 := by rw [← hds, List.getElem?_map, hz] <;> rfl
      obtain ⟨a, u, v, ez, ha, hu, hv⟩ := (hrow z (List.mem_of_getElem? hz)).keep s1
      obtain ⟨l1, hl1⟩ := hT.raw
      show gTup _ _ _ _ _ _ _
      rw [ez]
      have hll := hT.len hl1
      rw [List.length_take] at hll
      refine ⟨a, _, rfl, .inl (.inl ha), rfl, _, _, rfl, _, _, rfl, _, _, rfl, _, _, rfl, rfl, _, rfl, .inl ⟨rfl, _, SqL.of hl1⟩, _, rfl, _, rfl, rd_opt (i := 4) rfl hu fun H2 s2 => rd_opt (i := 5) rfl (hv.keep s2) fun H3 s3 => ⟨by show 4 ≤ sizeLine; decide, fun p hp => ?_⟩⟩
      have hL3 := s3 _ _ (s2 _ _ hl1)
      refine ⟨L, l1, _, rfl, rfl, ?_, szt (by omega), _, _, _, _, rfl, ?_, ?_⟩
      · rw [upd_ne (ne_of_none hL3 hp)]
        exact hL3
      · exact same_upd (((s1.trans s2).trans s3).trans (same_new hp)) hL
      · rw [one_more hdz]
        exact ((hT.keep s2).keep s3).put hL3 hp
    · rintro σ H1 ⟨_, _, _, _, rfl, s1, hT⟩
      rw [List.length_map, hal, List.take_length] at hT
      exact ⟨_, rfl, q L H1 s1 hL hT⟩
end

/-! ## What the law expects -/
section
variable {P : Program} {w : World} {K : PySem.W.Frag} {mg : Str → Option Value} {base : Heap} {D : Ad}
open TL SX PyProof.Rows
theorem at_zero {α : Type} (x : α) (r : List α) : atI (x :: r) 0 = some x := by
  unfold atI ixN
  rw [List.length_cons, if_pos (by decide), if_pos (by omega)]
  rfl
def hasNm (nm : Str) (z : V × Rw) : Bool := decide (z.2.nm = nm)
theorem flt_none {acc : List (V × Rw)} {nm : Str} (h : fnd (acc.map (·.2)) nm = none) : (acc.filter (hasNm nm)).map (·.1) = [] := by
  rw [List.map_eq_nil_iff, List.filter_eq_nil_iff]
  intro z hz e
  exact fnd_none.mp h (List.mem_map.mpr ⟨z.2, List.mem_map.mpr ⟨z, hz, rfl⟩, of_decide_eq_true e⟩)
theorem flt_some {H : Hp} {i : Nat} {n : Int} {nm : Str} : ∀ {acc : List (V × Rw)}, (∀ q ∈ acc, LRow H q.1 q.2) → fnd (acc.map (·.2)) nm = some (i, n) →
    ∃ (a e : Addr) (m : Str) (rest : List V), (acc.filter (hasNm nm)).map (·.1) = .ref a :: rest ∧ H a = some (.tup [.str nm, .str (S (vtx i)), .ref e, .str m, .int n]) ∧ i < 3
  | [], _, h => by cases h
  | z :: acc, hr, h => by
    unfold fnd at h
    rw [List.map_cons, List.find?_cons] at h
    by_cases c : z.2.nm = nm
    · rw [decide_eq_true c] at h
      have h' : some (z.2.vi, z.2.num) = some (i, n) := h
      injection h' with h'
      injection h' with e1 e2
      obtain ⟨⟨a, e, m, ez, ha⟩, hi⟩ := hr z List.mem_cons_self
      rw [c, e1, e2] at ha
      refine ⟨a, e, m, (acc.filter (hasNm nm)).map (·.1), ?_, ha, e1 ▸ hi⟩
      rw [List.filter_cons, if_pos (show hasNm nm z = true from decide_eq_true c), List.map_cons, ez]
    · rw [decide_eq_false c] at h
      obtain ⟨a, e, m, rest, q1, q2, q3⟩ := flt_some (fun q hq => hr q (List.mem_cons_of_mem _ hq)) h
      refine ⟨a, e, m, rest, ?_, q2, q3⟩
      rw [List.filter_cons, if_neg (show ¬ hasNm nm z = true from fun q => c (of_decide_eq_true q))]
      exact q1
theorem dif_next {ns : List Str} {o n : List Rw} {i : Nat} {nm : Str} (h : ns[i]? = some nm) : dif (ns.take (i + 1)) o n = dif (ns.take i) o n ++ (d1 nm (fnd o nm) (fnd n nm)).toList := by
  unfold dif
  rw [one_more h, List.filterMap_append]
  rw [List.filterMap_cons, List.filterMap_nil]
  cases d1 nm (fnd o nm) (fnd n nm) <;> rfl
theorem LT.butN {D : Addr} {H H' : Hp} {l : Addr} {ds : List Df} (h : LT H l ds) (hl : ∀ xs, H D ≠ some (.tup xs)) (hne : l ≠ D) (b : But D H H') : LT H' l ds := by
  obtain ⟨acc, h1, h2, h3⟩ := h
  exact ⟨acc, b _ _ h1 hne, h2, fun q hq => (h3 q hq).butN hl b⟩
def spDue : Sp := fun vs H Q _ => ∃ (l1 l2 : Addr) (r1 r2 : List Rw), vs = [.ref l1, .ref l2] ∧ LRows H l1 r1 ∧ LRows H l2 r2 ∧ r1.length ≤ 10 ∧ r2.length ≤ 10 ∧
  ∀ a ns H', Same H H' → H a = none → NmS ns r1 r2 → LT H' a (dif ns r1 r2) → Q (.ref a) H'
theorem ok_due (T : Tex K mg D) : FnOk P w K mg base CX0 2 D.a_due D.d_due P_due spDue := by
  refine T.due_F.ok S_due (fun vs H Q E h => ?_) (fun cdv A outer s H vs Q E hr h => ?_)
  · obtain ⟨l1, l2, r1, r2, rfl, _⟩ := h
    rfl
  · obtain ⟨l1, l2, r1, r2, rfl, ⟨ac1, hl1, e1, w1⟩, ⟨ac2, hl2, e2, w2⟩, n1, n2, q⟩ := h
    subst e1 e2
    rw [List.length_map] at n1 n2
    refine ⟨_, (pss_cons (ps_set (i := 2) S_due.nd rfl (Or.inl rfl) (pe_lst pa_nil))
      (pss_cons (ps_for PassesOwn.never rfl (pi_list (pe_callB (cr_sortedSetS rfl) (by rfl) T.b_sorted (by decide +kernel) (pa_cons (pe_callTy (cr_setOfS rfl) (by rfl) T.b_set (by decide +kernel) (pa_cons (pe_lc (own := [(("_law_row" : Str), 6)]) (g := gName 6) (tt := tYes) rfl S_due.nd (pi_list (pe_op op_cat (pv 0) (pv 1))) (blkOk_by (N := N_due) (sc := defScope s_due) (by decide +kernel)) (fun _ _ _ _ _ => pg_name (i := 6) S_due.nd rfl (Or.inl rfl)) (fun _ _ _ _ _ => pts_nil) (fun _ _ _ _ _ => (pe_callTy SkE.call_str_str (by rfl) T.b_str (by decide +kernel) (pa_cons (pe_ix (ix_tupK (KK := K) rfl) (pv 6) pe_int (fun _ _ => rfl)) pa_nil)))) pa_nil)) pa_nil))) (pg_name (i := 3) S_due.nd rfl (Or.inr rfl)) (pss_cons (ps_par (i := 4) (j := 5) (by rfl) S_due.nd rfl rfl (by decide) rfl rfl (pa_cons (pe_lc (own := [(("_law_row" : Str), 6)]) (g := gName 6) rfl S_due.nd (pi_list (pv 0)) (blkOk_by (N := N_due) (sc := defScope s_due) (by decide +kernel)) (fun _ _ _ _ _ => pg_name (i := 6) S_due.nd rfl (Or.inl rfl)) (fun _ _ _ _ _ => (pts_one (pt_cmpR op_eq (pe_ix (ix_tupK (KK := K) rfl) (pv 6) pe_int (fun _ _ => rfl)) (pv 3) (nomark _)))) (fun _ _ _ _ _ => (pv 6))) (pa_cons (pe_lc (own := [(("_law_row" : Str), 6)]) (g := gName 6) rfl S_due.nd (pi_list (pv 1)) (blkOk_by (N := N_due) (sc := defScope s_due) (by decide +kernel)) (fun _ _ _ _ _ => pg_name (i := 6) S_due.nd rfl (Or.inl rfl)) (fun _ _ _ _ _ => (pts_one (pt_cmpR op_eq (pe_ix (ix_tupK (KK := K) rfl) (pv 6) pe_int (fun _ _ => rfl)) (pv 3) (nomark _)))) (fun _ _ _ _ _ => (pv 6))) pa_nil)) (by rfl))
      (pss_one (ps_if (pt_cmpR (op_eqNil hr.units) (pv 4) (pe_lst pa_nil) (nomark _)) (pss_one (ps_expr (pe_bm PySem.F.plainAttrs_list PySem.F.slot_list_append PySem.F.type_list_append mt_append (pv 2) (pa_cons (pe_tup (pa_cons pe_str (pa_cons (pv 3) (pa_cons pe_str (pa_cons (pe_ix ix_tup (pe_ix ix_list (pv 5) pe_int (fun _ _ => rfl)) pe_int (fun _ _ => rfl)) pa_nil))))) pa_nil)))) (pss_one (ps_if (pt_cmpR (op_eqNil hr.units) (pv 5) (pe_lst pa_nil) (nomark _)) (pss_one (ps_expr (pe_bm PySem.F.plainAttrs_list PySem.F.slot_list_append PySem.F.type_list_append mt_append (pv 2) (pa_cons (pe_tup (pa_cons pe_str (pa_cons (pv 3) (pa_cons (pe_ix ix_tup (pe_ix ix_list (pv 4) pe_int (fun _ _ => rfl)) pe_int (fun _ _ => rfl)) (pa_cons pe_str pa_nil))))) pa_nil)))) (pss_one (ps_if (PW.pt (pw_or (pt_cmpR op_ne (pe_ix ix_tup (pe_ix ix_list (pv 4) pe_int (fun _ _ => rfl)) pe_int (fun _ _ => rfl)) (pe_ix ix_tup (pe_ix ix_list (pv 5) pe_int (fun _ _ => rfl)) pe_int (fun _ _ => rfl)) (nomark _)) (pw_or1 (pt_cmpR op_ne (pe_ix ix_tup (pe_ix ix_list (pv 4) pe_int (fun _ _ => rfl)) pe_int (fun _ _ => rfl)) (pe_ix ix_tup (pe_ix ix_list (pv 5) pe_int (fun _ _ => rfl)) pe_int (fun _ _ => rfl)) (nomark _))))) (pss_one (ps_expr (pe_bm PySem.F.plainAttrs_list PySem.F.slot_list_append PySem.F.type_list_append mt_append (pv 2) (pa_cons (pe_tup (pa_cons pe_str (pa_cons (pv 3) (pa_cons (pe_ix ix_tup (pe_ix ix_list (pv 4) pe_int (fun _ _ => rfl)) pe_int (fun _ _ => rfl)) (pa_cons (pe_ix ix_tup (pe_ix ix_list (pv 5) pe_int (fun _ _ => rfl)) pe_int (fun _ _ => rfl)) pa_nil))))) pa_nil)))) pss_nil))))))))
      (pss_one (ps_ret (pv 2))))), ?_⟩
    refine ⟨by show 0 ≤ sizeLine; decide, fun L hL => ?_⟩
    have s0 := same_new (o := .lst []) hL
    have hL0 : (upd H L (.lst [])) L = some (.lst []) := upd_same
    revert s0 hL0
    generalize upd H L (.lst []) = H0
    intro s0 hL0
    have hl10 := s0 _ _ hl1
    have hl20 := s0 _ _ hl2
    refine ⟨_, rfl, _, rfl, l1, l2, _, _, rfl, rfl, hl10, hl20, szl (by rw [List.length_map, List.length_map]; omega), fun pc hpc => ?_⟩
    have s1 := s0.trans (same_new (o := .lst (ac1.map (·.1) ++ ac2.map (·.1))) hpc)
    have hL1 := same_new (o := .lst (ac1.map (·.1) ++ ac2.map (·.1))) hpc _ _ hL0
    have hc1 : (upd H0 pc (.lst (ac1.map (·.1) ++ ac2.map (·.1)))) pc = some (.lst ((ac1 ++ ac2).map (·.1))) := by rw [upd_same, List.map_append]
    revert s1 hL1 hc1
    generalize upd H0 pc (.lst (ac1.map (·.1) ++ ac2.map (·.1))) = H1
    intro s1 hL1 hc1
    refine ⟨pc, rfl, ⟨_, SqL.of hc1⟩, fun DD hDD => lc_lst (ac1 ++ ac2) (·.1) (fun _ => true) (fun z => .str z.2.nm) hDD (szt (by rw [List.length_append]; omega)) (SqL.of hc1) (fun z hz H2 R2 S2 s2 g1 g2 => ?_) (fun H2 s2 h2 => ?_)⟩
    · have hz' : LRow H2 z.1 z.2 := by
        rcases List.mem_append.mp hz with c | c
        · exact ((w1 z c).keep s1).keep s2
        · exact ((w2 z c).keep s1).keep s2
      obtain ⟨⟨a, e, m, ez, ha⟩, hi⟩ := hz'
      show _ ∧ _
      rw [ez]
      exact ⟨rfl, _, rfl, a, _, _, _, rfl, rfl, sqT_of ha, rfl, z.2.nm, rfl, g1 rfl H2 (Same.refl _)⟩
    · rw [filt1] at h2
      have h2' : H2 DD = some (.lst (((ac1 ++ ac2).map (·.2.nm)).map V.str)) := by
        rw [h2, List.map_map]
        rfl
      have hnl := txAll_len ((ac1 ++ ac2).map (·.2.nm))
      rw [List.length_map, List.length_append] at hnl
      refine ⟨DD, _, rfl, SqL.of h2', by rw [List.length_map, List.length_append]; omega, fun st hst => ⟨st, _, rfl, upd_same, by omega, fun ns p hperm hsort hp => ?_⟩⟩
      have hp' : (upd H2 st (TxtO w st (txAll ((ac1 ++ ac2).map (·.2.nm))))) p = none := hp
      have s4 : Same H1 (upd (upd H2 st (TxtO w st (txAll ((ac1 ++ ac2).map (·.2.nm))))) p (.lst (ns.map V.str))) := s2.trans ((same_new hst).trans (same_new hp'))
      have hp4 : (upd (upd H2 st (TxtO w st (txAll ((ac1 ++ ac2).map (·.2.nm))))) p (.lst (ns.map V.str))) p = some (.lst (ns.map V.str)) := upd_same
      have hns : NmS ns (ac1.map (·.2)) (ac2.map (·.2)) := ⟨hsort, hperm.nodup_iff.mpr (txAll_nodup _), fun y => by
        rw [hperm.mem_iff, txAll_mem, ← List.map_append, List.map_map]
        rfl⟩
      have hnsl : ns.length ≤ 20 := by rw [hperm.length_eq]; omega
      have hL4 := s4 _ _ hL1
      have npL : L ≠ p := ne_of_none ((same_new hst) _ _ (s2 _ _ hL1)) hp'
      have neL : ∀ b o, H b = some o → b ≠ L := fun b o e => ne_of_none e hL
      refine ⟨p, rfl, ⟨_, SqL.of hp4⟩, for_list (K := K) (a := p) (xs := ns.map V.str) (fun i σ H' => ∃ (x y z : Option V), σ = [some (.ref l1), some (.ref l2), some (.ref L), x, y, z, none] ∧ But L H1 H' ∧ H' p = some (.lst (ns.map V.str)) ∧ LT H' L (dif (ns.take i) (ac1.map (·.2)) (ac2.map (·.2))))
        ⟨none, none, none, rfl, But.of_same s4, hp4, [], hL4, rfl, fun q hq => by cases hq⟩ (fun i σ H' _ ⟨_, _, _, _, _, e, _⟩ => SqL.of e) ?_ ?_⟩
      · rintro i x σ H5 hx ⟨_, _, _, rfl, b5, hp5, hT⟩
        rw [List.getElem?_map] at hx
        obtain ⟨nm, hnm, rfl⟩ := Option.map_eq_some_iff.mp hx
        have sH5 : Same H H5 := fun b o e => b5 _ _ (s1 _ _ e) (neL b o e)
        have nL1 : l1 ≠ L := neL _ _ hl1
        have nL2 : l2 ≠ L := neL _ _ hl2
        have hin := (hns.2.2 nm).mp (List.mem_of_getElem? hnm)
        have elem : ∀ (acc : List (V × Rw)), (∀ q ∈ acc, LRow H q.1 q.2) → ∀ (z : V × Rw), z ∈ acc → ∀ H6, Same H5 H6 → ∃ (a e : Addr) (m : Str), z.1 = .ref a ∧ H6 a = some (.tup [.str z.2.nm, .str (S (vtx z.2.vi)), .ref e, .str m, .int z.2.num]) := fun acc hw z hz H6 s6 => by
          obtain ⟨⟨a, e, m, ez, ha⟩, _⟩ := (hw z hz).keep (sH5.trans s6)
          exact ⟨a, e, m, ez, ha⟩
        refine ⟨_, rfl, l1, rfl, ⟨_, SqL.of (sH5 _ _ hl1)⟩, fun D1 hD1 => lc_lst ac1 (·.1) (hasNm nm) (·.1) hD1 (szt (by omega)) (SqL.of (sH5 _ _ hl1)) (fun z hz H6 R6 S6 s6 k1 k2 => ?_) (fun H6 s6 h6 => ?_)⟩
        · obtain ⟨a, e, m, ez, ha⟩ := elem ac1 w1 z hz H6 s6
          rw [ez] at k1
          show _ ∧ _
          rw [ez]
          by_cases c : z.2.nm = nm
          · exact ⟨rfl, _, rfl, a, _, _, _, rfl, rfl, sqT_of ha, rfl, _, rfl, rfl, true, (by show V.bl (decide _) = _; rw [decide_eq_true (by rw [c])]), iteT ⟨_, rfl, k1 (decide_eq_true c) H6 (Same.refl _)⟩⟩
          · exact ⟨rfl, _, rfl, a, _, _, _, rfl, rfl, sqT_of ha, rfl, _, rfl, rfl, false, (by show V.bl (decide _) = _; rw [decide_eq_false (fun z => by injection z with z; exact c z)]), iteF (k2 (decide_eq_false c) H6 (Same.refl _))⟩
        have s56 := s6
        refine ⟨_, rfl, l2, rfl, ⟨_, SqL.of (s6 _ _ (sH5 _ _ hl2))⟩, fun D2 hD2 => lc_lst ac2 (·.1) (hasNm nm) (·.1) hD2 (szt (by omega)) (SqL.of (s6 _ _ (sH5 _ _ hl2))) (fun z hz H7 R7 S7 s7 k1 k2 => ?_) (fun H7 s7 h7 => ?_)⟩
        · obtain ⟨a, e, m, ez, ha⟩ := elem ac2 w2 z hz H7 (s6.trans s7)
          rw [ez] at k1
          show _ ∧ _
          rw [ez]
          by_cases c : z.2.nm = nm
          · exact ⟨rfl, _, rfl, a, _, _, _, rfl, rfl, sqT_of ha, rfl, _, rfl, rfl, true, (by show V.bl (decide _) = _; rw [decide_eq_true (by rw [c])]), iteT ⟨_, rfl, k1 (decide_eq_true c) H7 (Same.refl _)⟩⟩
          · exact ⟨rfl, _, rfl, a, _, _, _, rfl, rfl, sqT_of ha, rfl, _, rfl, rfl, false, (by show V.bl (decide _) = _; rw [decide_eq_false (fun z => by injection z with z; exact c z)]), iteF (k2 (decide_eq_false c) H7 (Same.refl _))⟩
        refine ⟨_, _, rfl, ?_⟩
        refine ⟨_, rfl, by show 0 ≤ sizeLine; decide, fun pE hpE => ?_⟩
        have s57 := s6.trans s7
        have s78 := same_new (o := .lst []) hpE
        have hE : (upd H7 pE (.lst [])) pE = some (.lst []) := upd_same
        revert s78 hE
        generalize upd H7 pE (.lst []) = H8
        intro s78 hE
        have s58 := s57.trans s78
        have sH8 := sH5.trans s58
        have h18 := s78 _ _ (s7 _ _ h6)
        have h28 := s78 _ _ h7
        have w18 : ∀ q ∈ ac1, LRow H8 q.1 q.2 := fun q hq => (w1 q hq).keep sH8
        have w28 : ∀ q ∈ ac2, LRow H8 q.1 q.2 := fun q hq => (w2 q hq).keep sH8
        obtain ⟨ll, hll⟩ := hT.raw
        have hlen := hT.len hll
        have hdl : (dif (ns.take i) (ac1.map (·.2)) (ac2.map (·.2))).length ≤ 20 := by
          refine Nat.le_trans (List.length_filterMap_le _ _) ?_
          rw [List.length_take]
          omega
        have fin : ∀ (d : Df) (H9 : Hp) (q : Addr), Same H8 H9 → H9 q = none → d1 nm (fnd (ac1.map (·.2)) nm) (fnd (ac2.map (·.2)) nm) = some d →
            But L H1 (upd (upd H9 q (.tup [.str d.wd, .str d.nm, .str (tx d.o), .str (tx d.n)])) L (.lst (ll ++ [.ref q]))) ∧ (upd (upd H9 q (.tup [.str d.wd, .str d.nm, .str (tx d.o), .str (tx d.n)])) L (.lst (ll ++ [.ref q]))) p = some (.lst (ns.map V.str)) ∧
            LT (upd (upd H9 q (.tup [.str d.wd, .str d.nm, .str (tx d.o), .str (tx d.n)])) L (.lst (ll ++ [.ref q]))) L (dif (ns.take (i + 1)) (ac1.map (·.2)) (ac2.map (·.2))) := fun d H9 q s9 hq e => by
          have hL9 := s9 _ _ (s58 _ _ hll)
          have hp9 := s9 _ _ (s58 _ _ hp5)
          have bt : But L H9 (upd H9 q (.tup [.str d.wd, .str d.nm, .str (tx d.o), .str (tx d.n)])) := But.of_same (same_new hq)
          have b19 : But L H1 H9 := fun b o e n => s9 _ _ (s58 _ _ (b5 b o e n))
          refine ⟨(b19.trans bt).trans But.upd, ?_, ?_⟩
          · rw [upd_ne (Ne.symm npL), upd_ne (ne_of_none hp9 hq)]
            exact hp9
          · rw [dif_next hnm, e]
            exact ((hT.keep s58).keep s9).put hL9 hq
        cases f1 : fnd (ac1.map (·.2)) nm with
        | none =>
          rw [flt_none f1] at h18
          cases f2 : fnd (ac2.map (·.2)) nm with
          | none =>
            rw [List.map_append, List.mem_append] at hin
            exact (hin.elim (fnd_none.mp f1) (fnd_none.mp f2)).elim
          | some x =>
            obtain ⟨j, num⟩ := x
            obtain ⟨a, e, m, rest, q1, q2, q3⟩ := flt_some w28 f2
            rw [q1] at h28
            refine ⟨D1, pE, _, rfl, rfl, SqL.of h18, SqL.of hE, true, rfl, iteT ?_⟩
            refine ⟨_, rfl, .inl ⟨rfl, _, SqL.of (s58 _ _ hll)⟩, _, rfl, _, rfl, D2, _, _, _, rfl, rfl, SqL.of h28, at_zero _ _, a, _, _, _, rfl, rfl, sqT_of q2, rfl, by show 4 ≤ sizeLine; decide, fun q hq => ?_⟩
            have hL9 := (same_new (o := .tup [V.str "added", .str nm, .str "", .str (S (vtx j))]) hq) _ _ (s58 _ _ hll)
            obtain ⟨z1, z2, z3⟩ := fin ⟨"added", nm, none, some j⟩ H8 q (Same.refl _) hq (by rw [f1, f2] <;> rfl)
            exact ⟨L, ll, _, rfl, rfl, hL9, szt (by omega), _, _, _, rfl, z1, z2, z3⟩
        | some x =>
          obtain ⟨j, num⟩ := x
          obtain ⟨a, e, m, rest, q1, q2, q3⟩ := flt_some w18 f1
          rw [q1] at h18
          refine ⟨D1, pE, _, rfl, rfl, SqL.of h18, SqL.of hE, false, rfl, iteF ?_⟩
          refine ⟨_, rfl, by show 0 ≤ sizeLine; decide, fun pF hpF => ?_⟩
          have s89 := same_new (o := .lst []) hpF
          have hF : (upd H8 pF (.lst [])) pF = some (.lst []) := upd_same
          revert s89 hF
          generalize upd H8 pF (.lst []) = H9
          intro s89 hF
          have h19 := s89 _ _ h18
          have a9 := s89 _ _ q2
          have hll9 := s89 _ _ (s58 _ _ hll)
          cases f2 : fnd (ac2.map (·.2)) nm with
          | none =>
            rw [flt_none f2] at h28
            refine ⟨D2, pF, _, rfl, rfl, SqL.of (s89 _ _ h28), SqL.of hF, true, rfl, iteT ?_⟩
            refine ⟨_, rfl, .inl ⟨rfl, _, SqL.of hll9⟩, _, rfl, _, rfl, D1, _, _, _, rfl, rfl, SqL.of h19, at_zero _ _, a, _, _, _, rfl, rfl, sqT_of a9, rfl, by show 4 ≤ sizeLine; decide, fun q hq => ?_⟩
            have hL9 := (same_new (o := .tup [V.str "removed", .str nm, .str (S (vtx j)), .str ""]) hq) _ _ hll9
            obtain ⟨z1, z2, z3⟩ := fin ⟨"removed", nm, some j, none⟩ H9 q s89 hq (by rw [f1, f2] <;> rfl)
            exact ⟨L, ll, _, rfl, rfl, hL9, szt (by omega), _, _, _, rfl, z1, z2, z3⟩
          | some y =>
            obtain ⟨j2, num2⟩ := y
            obtain ⟨a2, e2, m2, rest2, y1, y2, y3⟩ := flt_some w28 f2
            rw [y1] at h28
            have h29 := s89 _ _ h28
            have a29 := s89 _ _ y2
            refine ⟨D2, pF, _, rfl, rfl, SqL.of h29, SqL.of hF, false, rfl, iteF ?_⟩
            have app : ¬ ((j, num) = (j2, num2)) → d1 nm (fnd (ac1.map (·.2)) nm) (fnd (ac2.map (·.2)) nm) = some ⟨"changed", nm, some j, some j2⟩ := fun ne => by
              rw [f1, f2]
              show (if (j, num) = (j2, num2) then none else _) = _
              rw [if_neg ne]
            by_cases c1 : j = j2
            · subst c1
              have r1 : V.bl (!decide (V.str (S (vtx j)) = V.str (S (vtx j)))) = V.bl false := by simp
              by_cases c2 : num = num2
              · subst c2
                refine ⟨_, rfl, D1, _, _, _, rfl, rfl, SqL.of h19, at_zero _ _, a, _, _, _, rfl, rfl, sqT_of a9, rfl, _, rfl, D2, _, _, _, rfl, rfl, SqL.of h29, at_zero _ _, a2, _, _, _, rfl, rfl, sqT_of a29, rfl, rfl, false, r1, iteF ?_⟩
                refine ⟨_, rfl, D1, _, _, _, rfl, rfl, SqL.of h19, at_zero _ _, a, _, _, _, rfl, rfl, sqT_of a9, rfl, _, rfl, D2, _, _, _, rfl, rfl, SqL.of h29, at_zero _ _, a2, _, _, _, rfl, rfl, sqT_of a29, rfl, rfl, false, (by show V.bl (!decide _) = _; rw [decide_eq_true rfl] <;> rfl), iteF ?_⟩
                refine ⟨_, _, _, rfl, fun b o eb nb => s89 _ _ (s58 _ _ (b5 b o eb nb)), s89 _ _ (s58 _ _ hp5), ?_⟩
                rw [dif_next hnm, f1, f2, d1_same]
                show LT H9 L (_ ++ [])
                rw [List.append_nil]
                exact (hT.keep s58).keep s89
              · have ne : ¬ ((j, num) = (j, num2)) := fun z => by injection z with _ z; exact c2 z
                refine ⟨_, rfl, D1, _, _, _, rfl, rfl, SqL.of h19, at_zero _ _, a, _, _, _, rfl, rfl, sqT_of a9, rfl, _, rfl, D2, _, _, _, rfl, rfl, SqL.of h29, at_zero _ _, a2, _, _, _, rfl, rfl, sqT_of a29, rfl, rfl, false, r1, iteF ?_⟩
                refine ⟨_, rfl, D1, _, _, _, rfl, rfl, SqL.of h19, at_zero _ _, a, _, _, _, rfl, rfl, sqT_of a9, rfl, _, rfl, D2, _, _, _, rfl, rfl, SqL.of h29, at_zero _ _, a2, _, _, _, rfl, rfl, sqT_of a29, rfl, rfl, true, (by show V.bl (!decide _) = _; rw [decide_eq_false (fun z => by injection z with z; exact c2 z)] <;> rfl), iteT ?_⟩
                refine ⟨_, rfl, .inl ⟨rfl, _, SqL.of hll9⟩, _, rfl, _, rfl, D1, _, _, _, rfl, rfl, SqL.of h19, at_zero _ _, a, _, _, _, rfl, rfl, sqT_of a9, rfl, _, rfl, D2, _, _, _, rfl, rfl, SqL.of h29, at_zero _ _, a2, _, _, _, rfl, rfl, sqT_of a29, rfl, by show 4 ≤ sizeLine; decide, fun q hq => ?_⟩
                have hL9 := (same_new (o := .tup [V.str "changed", .str nm, .str (S (vtx j)), .str (S (vtx j))]) hq) _ _ hll9
                obtain ⟨z1, z2, z3⟩ := fin _ H9 q s89 hq (app ne)
                exact ⟨L, ll, _, rfl, rfl, hL9, szt (by omega), _, _, _, rfl, z1, z2, z3⟩
            · have ne : ¬ ((j, num) = (j2, num2)) := fun z => by injection z with z _; exact c1 z
              have ct : S (vtx j) ≠ S (vtx j2) := fun z => c1 (vtx_inj j q3 j2 y3 (by
                have e1 := congrArg (fun t : Str => t.cps.toList) z
                simpa [S] using e1))
              refine ⟨_, rfl, D1, _, _, _, rfl, rfl, SqL.of h19, at_zero _ _, a, _, _, _, rfl, rfl, sqT_of a9, rfl, _, rfl, D2, _, _, _, rfl, rfl, SqL.of h29, at_zero _ _, a2, _, _, _, rfl, rfl, sqT_of a29, rfl, rfl, true, (by show V.bl (!decide _) = _; rw [decide_eq_false (fun z => by injection z with z; exact ct z)] <;> rfl), iteT (iteT ?_)⟩
              refine ⟨_, rfl, .inl ⟨rfl, _, SqL.of hll9⟩, _, rfl, _, rfl, D1, _, _, _, rfl, rfl, SqL.of h19, at_zero _ _, a, _, _, _, rfl, rfl, sqT_of a9, rfl, _, rfl, D2, _, _, _, rfl, rfl, SqL.of h29, at_zero _ _, a2, _, _, _, rfl, rfl, sqT_of a29, rfl, by show 4 ≤ sizeLine; decide, fun q hq => ?_⟩
              have hL9 := (same_new (o := .tup [V.str "changed", .str nm, .str (S (vtx j)), .str (S (vtx j2))]) hq) _ _ hll9
              obtain ⟨z1, z2, z3⟩ := fin _ H9 q s89 hq (app ne)
              exact ⟨L, ll, _, rfl, rfl, hL9, szt (by omega), _, _, _, rfl, z1, z2, z3⟩
      · rintro σ H5 ⟨_, _, _, rfl, b5, hp5, hT⟩
        rw [List.length_map, List.take_length] at hT
        exact ⟨_, rfl, q L ns H5 (fun b o e => b5 _ _ (s1 _ _ e) (neL b o e)) hL hns hT⟩
end

/-! ## Rows drawn -/
section
variable {P : Program} {w : World} {K : PySem.W.Frag} {mg : Str → Option Value} {base : Heap} {D : Ad}
open TL SX PyProof.Rows
def nm5 : List Str := ["cup", "milk", "pot", "tea", "tea-2"]
theorem nm5_nodup : nm5.Nodup := by decide +kernel
theorem vt_of {x : V} (h : x ∈ [V.str "1", .str "2", .str "2rc1"]) : ∃ i, i < 3 ∧ x = .str (S (vtx i)) := by
  rcases List.mem_cons.mp h with e | h
  · exact ⟨0, by decide, e.trans (by rw [show (("1" : String) : Str) = S (vtx 0) from by decide +kernel])⟩
  rcases List.mem_cons.mp h with e | h
  · exact ⟨1, by decide, e.trans (by rw [show (("2" : String) : Str) = S (vtx 1) from by decide +kernel])⟩
  · exact ⟨2, by decide, (List.mem_singleton.mp h).trans (by rw [show (("2rc1" : String) : Str) = S (vtx 2) from by decide +kernel])⟩
def spDrawn : Sp := fun vs H Q _ => ∃ (d c : Addr) (n : Nat), vs = [.ref d] ∧ Dr H d c n ∧ n ≤ 10 ^ 10 ∧ ∀ l rs H', LRows H' l rs → H l = none → rs.length ≤ 5 → (rs.map (·.nm)).Nodup → (∀ r ∈ rs, r.nm ∈ nm5) → Dr H' d c (n + 25) → But d H H' → Q (.ref l) H'
theorem ok_rows_drawn (T : Tex K mg D) : FnOk P w K mg base CX0 4 D.a_rows_drawn D.d_rows_drawn P_rows_drawn spDrawn := by
  have G_next : FnOk P w K mg base CX0 2 D.a_next D.d_next P_next spNext := ok_next T
  refine T.rows_drawn_F.ok S_rows_drawn (fun vs H Q E h => ?_) (fun cdv A outer s H vs Q E hr h => ?_)
  · obtain ⟨d, c, n, rfl, _⟩ := h
    rfl
  · obtain ⟨d, c, n, rfl, hd, hn, q⟩ := h
    refine ⟨_, (pss_cons (ps_set (i := 1) S_rows_drawn.nd rfl (Or.inl rfl) (pe_lst pa_nil))
      (pss_cons (ps_for PassesOwn.never rfl (pi_tup (pe_tup (pa_cons pe_str (pa_cons pe_str (pa_cons pe_str (pa_cons pe_str (pa_cons pe_str pa_nil))))))) (pg_name (i := 2) S_rows_drawn.nd rfl (Or.inl rfl)) (pss_one (ps_if (pt_cmpR op_gt (pe_call G_next (hr.mono (by decide)) (by rfl) T.next_g T.next_F.kp T.next_b .nil pass0 (pa_cons (pv 0) (pa_cons pe_int pa_nil))) pe_int (nomark _)) (pss_cons (ps_par (i := 3) (j := 4) (by rfl) S_rows_drawn.nd rfl rfl (by decide) rfl rfl (pa_cons (pe_ix ix_list (pe_lst (pa_cons pe_str (pa_cons pe_str (pa_cons pe_str pa_nil)))) (pe_call G_next (hr.mono (by decide)) (by rfl) T.next_g T.next_F.kp T.next_b .nil pass0 (pa_cons (pv 0) (pa_cons pe_int pa_nil))) (fun _ _ => rfl)) (pa_cons (pe_ix ix_list (pe_lst (pa_cons (pe_tup pa_nil) (pa_cons (pe_tup (pa_cons pe_str pa_nil)) (pa_cons (pe_tup (pa_cons pe_str (pa_cons pe_str pa_nil))) pa_nil)))) (pe_call G_next (hr.mono (by decide)) (by rfl) T.next_g T.next_F.kp T.next_b .nil pass0 (pa_cons (pv 0) (pa_cons pe_int pa_nil))) (fun _ _ => rfl)) pa_nil)) (by rfl))
      (pss_cons (ps_set (i := 5) S_rows_drawn.nd rfl (Or.inl rfl) (pe_ix ix_list (pe_lst (pa_cons pe_int (pa_cons pe_int (pa_cons (pe_op op_pow pe_int pe_int) pa_nil)))) (pe_call G_next (hr.mono (by decide)) (by rfl) T.next_g T.next_F.kp T.next_b .nil pass0 (pa_cons (pv 0) (pa_cons pe_int pa_nil))) (fun _ _ => rfl)))
      (pss_one (ps_expr (pe_bm PySem.F.plainAttrs_list PySem.F.slot_list_append PySem.F.type_list_append mt_append (pv 1) (pa_cons (pe_tup (pa_cons (pv 2) (pa_cons (pv 3) (pa_cons (pv 4) (pa_cons (pe_ix ix_list (pe_lst (pa_cons pe_str (pa_cons pe_str pa_nil))) (pe_call G_next (hr.mono (by decide)) (by rfl) T.next_g T.next_F.kp T.next_b .nil pass0 (pa_cons (pv 0) (pa_cons pe_int pa_nil))) (fun _ _ => rfl)) (pa_cons (pv 5) pa_nil)))))) pa_nil)))))) pss_nil)))
      (pss_one (ps_ret (pv 1))))), ?_⟩
    refine ⟨by show 0 ≤ sizeLine; decide, fun L hL => ?_⟩
    have ndL := hd.ne_new hL
    have ncL := hd.nc_new hL
    have hL0 : (upd H L (.lst [])) L = some (.lst []) := upd_same
    have bb0 : But d H (upd H L (.lst [])) := But.refl.new hL
    have d0 := hd.new (o := .lst []) hL
    revert hL0 bb0 d0
    generalize upd H L (.lst []) = H0
    intro hL0 bb0 d0
    refine ⟨by show 5 ≤ sizeLine; decide, fun pt hpt => ?_⟩
    have hLp : L ≠ pt := ne_of_none hL0 hpt
    have h1 : (upd H0 pt (.tup [V.str "cup", .str "milk", .str "pot", .str "tea", .str "tea-2"])) pt = some (.tup (nm5.map V.str)) := upd_same
    have hL1 := same_new (o := .tup [V.str "cup", .str "milk", .str "pot", .str "tea", .str "tea-2"]) hpt _ _ hL0
    have bb1 := bb0.new (o := .tup [V.str "cup", .str "milk", .str "pot", .str "tea", .str "tea-2"]) hpt
    have d1 := d0.new (o := .tup [V.str "cup", .str "milk", .str "pot", .str "tea", .str "tea-2"]) hpt
    revert h1 hL1 bb1 d1
    generalize upd H0 pt (.tup [V.str "cup", .str "milk", .str "pot", .str "tea", .str "tea-2"]) = H1
    intro h1 hL1 bb1 d1
    refine ⟨pt, rfl, ⟨_, sqT_of h1⟩, for_tup (K := K) (xs := nm5.map V.str) (fun i σ H' => ∃ (x y u v : Option V) (acc : List (V × Rw)), σ = [some (.ref d), some (.ref L), x, y, u, v] ∧ Dr H' d c (n + 5 * i) ∧ But d H H' ∧ H' pt = some (.tup (nm5.map V.str)) ∧ H' L = some (.lst (acc.map (·.1))) ∧ (∀ z ∈ acc, LRow H' z.1 z.2) ∧ (acc.map (·.2.nm)).Sublist (nm5.take i))
      ⟨none, none, none, none, [], rfl, d1, bb1, h1, hL1, (fun z hz => by cases hz), List.Sublist.refl _⟩ (fun i σ H' _ ⟨_, _, _, _, _, _, _, _, e, _⟩ => sqT_of e) ?_ ?_⟩
    · rintro i x σ H2 hx ⟨_, _, _, _, acc, rfl, d2, b2, hp2, hL2, hr2, hs2⟩
      have hi5 : i < 5 := by
        have := (List.getElem?_eq_some_iff.mp hx).1
        exact this
      rw [List.getElem?_map] at hx
      obtain ⟨nm, hnm, rfl⟩ := Option.map_eq_some_iff.mp hx
      refine ⟨_, rfl, d, c, 3, _, rfl, d2, by omega, by decide, by decide, fun v1 H3 v10 v11 d3 b3 => ?_⟩
      have npd : pt ≠ d := fun e => by
        obtain ⟨o, q⟩ := d2.dict
        rw [e, q] at hp2
        cases hp2
      have nLd : L ≠ d := ndL.symm
      have nt : ∀ {H' : Hp}, Dr H' d c (n + 5 * i + 1) → True := fun _ => trivial
      have ntd : ∀ {H' : Hp} {k : Nat}, Dr H' d c k → ∀ xs, H' d ≠ some (.tup xs) := fun {H' k} h xs e => by
        obtain ⟨o, q⟩ := h.dict
        rw [q] at e
        cases e
      have hp3 := b3 _ _ hp2 npd
      have hL3 := b3 _ _ hL2 nLd
      have hr3 : ∀ z ∈ acc, LRow H3 z.1 z.2 := fun z hz => (hr2 z hz).butN (ntd d2) b3
      refine ⟨_, _, rfl, rfl, _, rfl, ?_⟩
      by_cases c0 : v1 > 0
      · rw [decide_eq_true c0]
        refine iteT ?_
        -- the version
        refine ⟨by show 3 ≤ sizeLine; decide, fun lv hlv => ?_⟩
        have hv3 : (upd H3 lv (.lst [V.str "1", .str "2", .str "2rc1"])) lv = some (.lst [V.str "1", .str "2", .str "2rc1"]) := upd_same
        refine ⟨_, rfl, d, c, 3, _, rfl, d3.new hlv, by omega, by decide, by decide, fun v2 H4 v20 v21 d4 b4 => ?_⟩
        have ndv := d3.ne_new hlv
        have hv4 := b4 _ _ hv3 ndv.symm
        have b34 : But d H3 H4 := (But.refl.new hlv).trans b4
        obtain ⟨x1, e1, m1⟩ := at_in (xs := [V.str "1", .str "2", .str "2rc1"]) v20 v21
        obtain ⟨vi, hvi, rfl⟩ := vt_of m1
        refine ⟨lv, _, _, _, rfl, rfl, SqL.of hv4, e1, ?_⟩
        -- the extras
        refine ⟨by show 0 ≤ sizeLine; decide, fun p0 hp0 => ⟨by show 1 ≤ sizeLine; decide, fun p1 hp1 => ⟨by show 2 ≤ sizeLine; decide, fun p2 hp2' => ⟨by show 3 ≤ sizeLine; decide, fun le hle => ?_⟩⟩⟩⟩
        have b45 := ((((But.refl (d := d) (H := H4)).new (o := .tup []) hp0).new (o := .tup [V.str "x"]) hp1).new (o := .tup [V.str "x", .str "y"]) hp2').new (o := .lst [V.ref p0, .ref p1, .ref p2]) hle
        have d5 := (((d4.new (o := .tup []) hp0).new (o := .tup [V.str "x"]) hp1).new (o := .tup [V.str "x", .str "y"]) hp2').new (o := .lst [V.ref p0, .ref p1, .ref p2]) hle
        have ndl := (((d4.new (o := .tup []) hp0).new (o := .tup [V.str "x"]) hp1).new (o := .tup [V.str "x", .str "y"]) hp2').ne_new hle
        have he5 : (upd (upd (upd (upd H4 p0 (.tup [])) p1 (.tup [V.str "x"])) p2 (.tup [V.str "x", .str "y"])) le (.lst [V.ref p0, .ref p1, .ref p2])) le = some (.lst [V.ref p0, .ref p1, .ref p2]) := upd_same
        revert b45 d5 he5
        generalize (upd (upd (upd (upd H4 p0 (.tup [])) p1 (.tup [V.str "x"])) p2 (.tup [V.str "x", .str "y"])) le (.lst [V.ref p0, .ref p1, .ref p2])) = H5
        intro b45 d5 he5
        refine ⟨_, rfl, d, c, 3, _, rfl, d5, by omega, by decide, by decide, fun v3 H6 v30 v31 d6 b6 => ?_⟩
        have he6 := b6 _ _ he5 ndl.symm
        obtain ⟨x2, e2, m2⟩ := at_in (xs := [V.ref p0, .ref p1, .ref p2]) v30 v31
        obtain ⟨pe, rfl⟩ : ∃ pe, x2 = .ref pe := by
          rcases List.mem_cons.mp m2 with e | m
          · exact ⟨p0, e⟩
          rcases List.mem_cons.mp m with e | m
          · exact ⟨p1, e⟩
          · exact ⟨p2, List.mem_singleton.mp m⟩
        refine ⟨le, _, _, _, rfl, rfl, SqL.of he6, e2, _, _, rfl, ?_⟩
        have b36 : But d H3 H6 := (b34.trans b45).trans b6
        -- the number
        refine ⟨_, _, rfl, rfl, ⟨by decide, by decide, by decide⟩, by show 3 ≤ sizeLine; decide, fun ln hln => ?_⟩
        have hn6 : (upd H6 ln (.lst [V.int 7, .int 8, .int (2 ^ (60 : Int).toNat)])) ln = some (.lst [V.int 7, .int 8, .int (2 ^ (60 : Int).toNat)]) := upd_same
        refine ⟨_, rfl, d, c, 3, _, rfl, d6.new hln, by omega, by decide, by decide, fun v4 H7 v40 v41 d7 b7 => ?_⟩
        have ndn := d6.ne_new hln
        have hn7 := b7 _ _ hn6 ndn.symm
        have b67 : But d H6 H7 := (But.refl.new hln).trans b7
        obtain ⟨x3, e3, m3⟩ := at_in (xs := [V.int 7, .int 8, .int (2 ^ (60 : Int).toNat)]) v40 v41
        obtain ⟨num, rfl⟩ : ∃ num, x3 = .int num := by
          rcases List.mem_cons.mp m3 with e | m
          · exact ⟨_, e⟩
          rcases List.mem_cons.mp m with e | m
          · exact ⟨_, e⟩
          · exact ⟨_, List.mem_singleton.mp m⟩
        refine ⟨ln, _, _, _, rfl, rfl, SqL.of hn7, e3, ?_⟩
        have b37 := b36.trans b67
        have hL7 := b37 _ _ hL3 nLd
        have hp7 := b37 _ _ hp3 npd
        have hr7 : ∀ z ∈ acc, LRow H7 z.1 z.2 := fun z hz => (hr3 z hz).butN (ntd d3) b37
        have hal : acc.length ≤ 5 := by
          have e := hs2.length_le
          rw [List.length_map, List.length_take] at e
          omega
        refine ⟨_, rfl, .inl ⟨rfl, _, SqL.of hL7⟩, _, rfl, _, rfl, _, rfl, by show 2 ≤ sizeLine; decide, fun lm hlm => ?_⟩
        have hm7 : (upd H7 lm (.lst [V.str "all", .str "alt"])) lm = some (.lst [V.str "all", .str "alt"]) := upd_same
        refine ⟨_, rfl, d, c, 2, _, rfl, d7.new hlm, by omega, by decide, by decide, fun v5 H8 v50 v51 d8 b8 => ?_⟩
        have ndm := d7.ne_new hlm
        have hm8 := b8 _ _ hm7 ndm.symm
        have b78 : But d H7 H8 := (But.refl.new hlm).trans b8
        obtain ⟨x4, e4, m4⟩ := at_in (xs := [V.str "all", .str "alt"]) v50 v51
        obtain ⟨mk, rfl⟩ : ∃ mk, x4 = .str mk := by
          rcases List.mem_cons.mp m4 with e | m
          · exact ⟨_, e⟩
          · exact ⟨_, List.mem_singleton.mp m⟩
        refine ⟨lm, _, _, _, rfl, rfl, SqL.of hm8, e4, _, rfl, by show 5 ≤ sizeLine; decide, fun p hp => ?_⟩
        have hL8 := b78 _ _ hL7 nLd
        have hp8 := b78 _ _ hp7 npd
        have hr8 : ∀ z ∈ acc, LRow H8 z.1 z.2 := fun z hz => (hr7 z hz).butN (ntd d7) b78
        have ndp := d8.ne_new hp
        have hne : L ≠ p := ne_of_none hL8 hp
        have s89 := same_new (o := .tup [V.str nm, .str (S (vtx vi)), .ref pe, .str mk, .int num]) hp
        have hL9 := s89 _ _ hL8
        have bL : But L (upd H8 p (.tup [V.str nm, .str (S (vtx vi)), .ref pe, .str mk, .int num])) (upd (upd H8 p (.tup [V.str nm, .str (S (vtx vi)), .ref pe, .str mk, .int num])) L (.lst (acc.map (·.1) ++ [V.ref p]))) := But.upd
        have ntL : ∀ xs, (upd H8 p (.tup [V.str nm, .str (S (vtx vi)), .ref pe, .str mk, .int num])) L ≠ some (.tup xs) := fun xs e => by
          rw [hL9] at e
          cases e
        have npL : pt ≠ L := fun e => by
          rw [e, hL8] at hp8
          cases hp8
        refine ⟨L, acc.map (·.1), _, rfl, rfl, hL9, szt (by rw [List.length_map]; omega), _, _, _, _, acc ++ [(.ref p, ⟨nm, vi, num⟩)], rfl, ?_, ?_, ?_, ?_, fun z hz => ?_, ?_⟩
        · exact ((d8.new hp).off ndL ncL).mono (by omega)
        · intro b o e nb
          rw [upd_ne (ne_of_none e hL), upd_ne (ne_of_none (b78 _ _ (b37 _ _ (b3 _ _ (b2 b o e nb) nb) nb) nb) hp)]
          exact b78 _ _ (b37 _ _ (b3 _ _ (b2 b o e nb) nb) nb) nb
        · rw [upd_ne npL]
          exact s89 _ _ hp8
        · rw [upd_same, List.map_append] <;> rfl
        · rcases List.mem_append.mp hz with h | h
          · exact ((hr8 z h).keep s89).butN ntL bL
          · rw [List.mem_singleton.mp h]
            exact ⟨⟨p, pe, mk, rfl, by rw [upd_ne (Ne.symm hne), upd_same]⟩, hvi⟩
        · rw [one_more hnm, List.map_append]
          exact hs2.append (List.Sublist.refl _)
      · rw [decide_eq_false c0]
        refine iteF ⟨_, _, _, _, acc, rfl, d3.mono (by omega), b2.trans b3, hp3, hL3, hr3, ?_⟩
        exact hs2.trans (List.take_sublist_take_left (by omega))
    · rintro σ H2 ⟨_, _, _, _, acc, rfl, d2, b2, hp2, hL2, hr2, hs2⟩
      have hs5 : (acc.map (·.2.nm)).Sublist nm5 := hs2.trans (List.take_sublist _ _)
      refine ⟨_, rfl, q L (acc.map (·.2)) H2 ⟨acc, hL2, rfl, hr2⟩ hL ?_ ?_ ?_ (d2.mono (by show n + 5 * 5 ≤ n + 25; omega)) b2⟩
      · have := hs5.length_le
        rw [List.length_map] at this ⊢
        exact this
      · rw [List.map_map]
        exact hs5.nodup nm5_nodup
      · intro r hr0
        obtain ⟨z, hz, rfl⟩ := List.mem_map.mp hr0
        exact hs5.subset (List.mem_map.mpr ⟨z, hz, rfl⟩)
end

/-! ## The law -/
section
variable {P : Program} {w : World} {K : PySem.W.Frag} {mg : Str → Option Value} {base : Heap} {D : Ad}
open TL SX PyProof.Rows
/-- a statement and what comes behind it, met in the middle -/
theorem seq_rest {a rest : TS} {D : Ends} {σ : L2.St} {H : Hp} (M : L2.St → Hp → Prop) (hr : ∀ σ' H', M σ' H' → rest D σ' H') (h : ∀ N : L2.St → Hp → Prop, (∀ σ' H', M σ' H' → N σ' H') → a { D with nx := N } σ H) : tSeq a rest D σ H := h (rest D) hr
theorem LRows.dr {d c n : Nat} {H H' : Hp} {l : Addr} {rs : List Rw} (h : LRows H l rs) (hd : Dr H d c n) (hne : l ≠ d) (b : But d H H') : LRows H' l rs := h.butN (fun xs e => by
  obtain ⟨o, q⟩ := hd.dict
  rw [q] at e
  cases e) hne b
theorem LRows.ne {d c n : Nat} {H : Hp} {l : Addr} {rs : List Rw} (h : LRows H l rs) (hd : Dr H d c n) : l ≠ d := fun e => by
  obtain ⟨o, q⟩ := hd.dict
  obtain ⟨acc, h1, _⟩ := h
  rw [e, q] at h1
  cases h1
/-! ### rows of texts as data -/
def dD (d : Df) : PyData := .tuple [.str d.wd, .str d.nm, .str (tx d.o), .str (tx d.n)]
theorem dpLT {H : Hp} {l : Addr} {ds : List Df} (h : LT H l ds) : Dp K H (.ref l) (.list (ds.map dD)) := by
  obtain ⟨acc, h1, h2, h3⟩ := h
  refine .lst (SqL.of h1) ?_
  subst h2
  clear h1
  induction acc with
  | nil => exact .nil
  | cons z acc ih =>
    obtain ⟨a, ez, ha⟩ := h3 z List.mem_cons_self
    rw [List.map_cons, List.map_cons, List.map_cons, ez]
    exact .cons (.tup (sqT_of ha) (.cons (.str _) (.cons (.str _) (.cons (.str _) (.cons (.str _) .nil))))) (ih fun q hq => h3 q (List.mem_cons_of_mem _ hq))
def OkD (d : Df) : Prop := PyData.canLay0 (dD d) = true
theorem nm5_ok : ∀ x ∈ nm5, PyData.strOk x = true := by decide +kernel
theorem vtx_ok (i : Nat) : PyData.strOk (S (vtx i)) = true := by
  match i with
  | 0 => decide +kernel
  | 1 => decide +kernel
  | _ + 2 => exact (show PyData.strOk (S [50, 114, 99, 49]) = true from by decide +kernel)
theorem tx_ok (o : Option Nat) : PyData.strOk (tx o) = true := by
  cases o with
  | none => decide +kernel
  | some i => exact vtx_ok i
theorem okD_of {d : Df} (h1 : d.wd = "added" ∨ d.wd = "removed" ∨ d.wd = "changed") (h2 : d.nm ∈ nm5) : OkD d := by
  have hw : PyData.strOk d.wd = true := by
    rcases h1 with e | e | e
    · rw [e]; decide +kernel
    · rw [e]; decide +kernel
    · rw [e]; decide +kernel
  unfold OkD dD
  simp [PyData.canLay0, PyData.canLayAll0, hw, nm5_ok _ h2, tx_ok]
theorem dD_lay : ∀ ds : List Df, (∀ d ∈ ds, OkD d) → PyData.canLayAll0 (ds.map dD) = true
  | [], _ => rfl
  | d :: ds, h => by
    show (PyData.canLay0 (dD d) && PyData.canLayAll0 (ds.map dD)) = true
    rw [dD_lay ds fun q hq => h q (List.mem_cons_of_mem _ hq), h d List.mem_cons_self]
    rfl
theorem dD_depth : ∀ ds : List Df, PyData.depthAll (ds.map dD) ≤ 1
  | [] => Nat.zero_le _
  | d :: ds => by
    show max (PyData.depth (dD d)) (PyData.depthAll (ds.map dD)) ≤ 1
    have h := dD_depth ds
    have h2 : PyData.depth (dD d) ≤ 1 := by
      unfold dD
      simp [PyData.depth, PyData.depthAll]
    omega
theorem dD_shaped {ds : List Df} (hk : ∀ d ∈ ds, OkD d) : SeqAt.shaped (.list (ds.map dD)) = true := by
  unfold SeqAt.shaped
  have e : PyData.canLay0 (.list (ds.map dD)) = true := by
    simp only [PyData.canLay0]
    exact dD_lay ds hk
  have h1 := dD_depth ds
  have h2 : PyData.depth (.list (ds.map dD)) ≤ 64 := by
    simp only [PyData.depth]
    omega
  rw [e, decide_eq_true h2]
  rfl
theorem dD_eqv {ds : List Df} (hk : ∀ d ∈ ds, OkD d) : PyData.eqv (.list (ds.map dD)) (.list (ds.map dD)) = true := SeqAt.eqv_refl _ (by
  simp only [PyData.canLay0]
  exact dD_lay ds hk)
theorem dif_nm {ns : List Str} {o n : List Rw} (h : NmS ns o n) (h1 : ∀ r ∈ o, r.nm ∈ nm5) (h2 : ∀ r ∈ n, r.nm ∈ nm5) {d : Df} (hd : d ∈ dif ns o n) : d.nm ∈ nm5 := by
  obtain ⟨nm, hm, e⟩ := List.mem_filterMap.mp hd
  rw [(d1_nm e).1]
  obtain ⟨r, hr, e2⟩ := List.mem_map.mp ((h.2.2 nm).mp hm)
  rw [← e2]
  exact (List.mem_append.mp hr).elim (h1 r) (h2 r)
def swK : List (Key × V) := [(.inr "added", .str "removed"), (.inr "removed", .str "added"), (.inr "changed", .str "changed")]
theorem wd_ne4 : ¬ (("added" : Str) = "removed") := by decide +kernel
theorem wd_ne5 : ¬ (("added" : Str) = "changed") := by decide +kernel
theorem wd_ne6 : ¬ (("removed" : Str) = "changed") := by decide +kernel
theorem sw_merge : mergeK [] swK = swK := by simp [mergeK, putK, swK, wd_ne1, wd_ne2, wd_ne3, wd_ne4, wd_ne5, wd_ne6]
theorem d1_wd {nm : Str} {x y : Option (Nat × Int)} {d : Df} (h : d1 nm x y = some d) : d.wd = "added" ∨ d.wd = "removed" ∨ d.wd = "changed" := by
  cases x with
  | none => cases y with
    | none => cases h
    | some b => cases h; exact .inl rfl
  | some a => cases y with
    | none => cases h; exact .inr (.inl rfl)
    | some b =>
      have h' : (if a = b then none else some (⟨"changed", nm, some a.1, some b.1⟩ : Df)) = some d := h
      by_cases e : a = b
      · rw [if_pos e] at h'; cases h'
      · rw [if_neg e] at h'; cases h'; exact .inr (.inr rfl)
theorem dif_ok {ns : List Str} {o n : List Rw} (h : NmS ns o n) (h1 : ∀ r ∈ o, r.nm ∈ nm5) (h2 : ∀ r ∈ n, r.nm ∈ nm5) : ∀ d ∈ dif ns o n, OkD d := fun d hd => by
  obtain ⟨nm, _, e⟩ := List.mem_filterMap.mp hd
  exact okD_of (d1_wd e) (dif_nm h h1 h2 hd)
theorem sw_get {ns : List Str} {o n : List Rw} {d : Df} (h : d ∈ dif ns o n) : valV swK (Sum.inr d.wd : Key) = some (.str (swp d).wd) := by
  obtain ⟨nm, _, e⟩ := List.mem_filterMap.mp h
  unfold swp
  rcases d1_wd e with e | e | e
  · simp [valV, swK, e]
  · simp [valV, swK, e, wd_ne1, wd_ne4]
  · simp [valV, swK, e, wd_ne2, wd_ne3, wd_ne5, wd_ne6]
theorem inV_str {x : Str} {xs : List Str} (h : x ∈ xs) : inV (.str x) (xs.map V.str) = true := by
  unfold inV
  rw [List.any_eq_true]
  exact ⟨.str x, List.mem_map.mpr ⟨x, h, rfl⟩, by simp [eqV]⟩
theorem flat_strs (xs : List Str) : (xs.map V.str).all flatV = true := by
  rw [List.all_eq_true]
  intro y hy
  obtain ⟨x, _, rfl⟩ := List.mem_map.mp hy
  rfl
theorem asg_step {i : Nat} {x : V} {σ : L2.St} {H : Hp} {N : L2.St → Hp → Prop} (h : N (σ.set i (some x)) H) : gName i x σ H N := h
theorem nx_step {a : L2.St → Hp → Prop} {b : VK} {c d : L2.St → Hp → Prop} {σ : L2.St} {H : Hp} (h : a σ H) : (Ends.mk a b c d).nx σ H := h
def spLaw (K : PySem.W.Frag) : Sp := fun vs H Q _ => ∃ (a : Addr) (ns : List Int), vs = [.ref a] ∧ Bare K H a (ns.map V.int) ∧ ns.length ≤ 63 ∧ ∀ H', Q (.bl true) H'
theorem ok_law (T : Tex K mg D) : FnG P w K mg base 14 D.a_law D.d_law P_law (spLaw K) := by
  have G_begin : FnOk P w K mg base CX0 1 D.a_begin D.d_begin P_begin (spBegin K) := ok_begin T
  have G_next : FnOk P w K mg base CX0 2 D.a_next D.d_next P_next spNext := ok_next T
  have G_rows_drawn : FnOk P w K mg base CX0 4 D.a_rows_drawn D.d_rows_drawn P_rows_drawn spDrawn := ok_rows_drawn T
  have G_made : FnOk P w K mg base CX0 9 D.a_made D.d_made P_made (spMade K D.a_Version) := ok_made T
  have G_differences : FnOk P w K mg base CX0 5 D.a_differences D.d_differences P_differences (spDiffs K D.a_Version) := ok_differences T
  have G_plain : FnOk P w K mg base CX0 6 D.a_plain D.d_plain P_plain (spPlain K D.a_Version) := ok_plain T
  have G_due : FnOk P w K mg base CX0 2 D.a_due D.d_due P_due spDue := ok_due T
  refine fnG_of T.law_F S_law (fun vs H Q E h => ?_) (fun cdv A outer s H vs Q hg hr h => ?_)
  · obtain ⟨a, ns, rfl, _⟩ := h
    rfl
  · obtain ⟨a, ns, rfl, hb, hl, q⟩ := h
    have hu := hu_of hr
    refine ⟨_, (pss_cons (ps_set (i := 1) S_law.nd rfl (Or.inr rfl) (pe_call G_begin (hr.mono (by decide)) (by rfl) T.begin_g T.begin_F.kp T.begin_b .nil pass0 (pa_cons (pv 0) pa_nil)))
      (pss_cons (ps_for PassesOwn.never rfl (pi_range1 rfl T.b_range (pa_cons pe_int pa_nil)) (pg_name (i := 2) S_law.nd rfl (Or.inl rfl)) (pss_cons (ps_par (i := 3) (j := 4) (by rfl) S_law.nd rfl rfl (by decide) rfl rfl (pa_cons (pe_call G_rows_drawn (hr.mono (by decide)) (by rfl) T.rows_drawn_g T.rows_drawn_F.kp T.rows_drawn_b .nil pass0 (pa_cons (pv 1) pa_nil)) (pa_cons (pe_call G_rows_drawn (hr.mono (by decide)) (by rfl) T.rows_drawn_g T.rows_drawn_F.kp T.rows_drawn_b .nil pass0 (pa_cons (pv 1) pa_nil)) pa_nil)) (by rfl))
      (pss_cons (ps_set (i := 5) S_law.nd rfl (Or.inl rfl) (pe_call G_rows_drawn (hr.mono (by decide)) (by rfl) T.rows_drawn_g T.rows_drawn_F.kp T.rows_drawn_b .nil pass0 (pa_cons (pv 1) pa_nil)))
      (pss_cons (ps_if (pt_cmpR op_eq (pe_call G_next (hr.mono (by decide)) (by rfl) T.next_g T.next_F.kp T.next_b .nil pass0 (pa_cons (pv 1) (pa_cons pe_int pa_nil))) pe_int (nomark _)) (pss_one (ps_setLc (i := 4) (own := [(("_law_row" : Str), 12)]) (g := gName 12) rfl S_law.nd rfl rfl (sw_true rfl rfl rfl (by decide +kernel)) (pi_list (pv 3)) (blkOk_by (N := N_law) (sc := defScope s_law) (by decide +kernel)) (fun _ _ _ _ _ => pg_name (i := 12) S_law.nd rfl (Or.inl rfl)) (fun _ _ _ _ _ => (pts_one (pt_cmpR op_gt (pe_call G_next (hr.mono (by decide)) (by rfl) T.next_g T.next_F.kp T.next_b .nil pass0 (pa_cons (pv 1) (pa_cons pe_int pa_nil))) pe_int (nomark _)))) (fun _ _ _ _ _ => (pv 12)))) pss_nil)
      (pss_cons (ps_set (i := 6) S_law.nd rfl (Or.inl rfl) (pe_kwG (FnG.of G_differences) hg (hr.mono (by decide)) (by rfl) T.differences_g T.differences_F.kp T.differences_kb (pk_cons (pe_call G_made (hr.mono (by decide)) (by rfl) T.made_g T.made_F.kp T.made_b .nil pass0 (pa_cons (pv 3) pa_nil)) (pk_cons (pe_call G_made (hr.mono (by decide)) (by rfl) T.made_g T.made_F.kp T.made_b .nil pass0 (pa_cons (pv 4) pa_nil)) pk_nil))))
      (pss_cons (ps_if (PW.pt (pw_or (pt_not (pt_val (pe_callB call_isi (by rfl) T.b_isinstance (by decide +kernel) (pa_cons (pv 6) (pa_cons (pe_bltn (v := .ty "tuple") (u := .type "tuple") (by rfl) T.b_tuple (by decide +kernel) rfl) pa_nil))))) (pw_or1 (pt_cmpR (op_neNil hr.units) (pe_lc (own := [(("_law_row" : Str), 12)]) (g := gName 12) rfl S_law.nd (pi_tup (pv 6)) (blkOk_by (N := N_law) (sc := defScope s_law) (by decide +kernel)) (fun _ _ _ _ _ => pg_name (i := 12) S_law.nd rfl (Or.inl rfl)) (fun _ _ _ _ _ => (pts_one (PW.pt (pw_or (pt_not (pt_val (pe_callB (call_isiN (KK := K) rfl) (by rfl) T.b_isinstance (by decide +kernel) (pa_cons (pv 12) (pa_cons (pe_bltn (v := .ty "tuple") (u := .type "tuple") (by rfl) T.b_tuple (by decide +kernel) rfl) pa_nil))))) (pw_or1 (pt_cmpR op_ne (pe_callB (call_len_seqN (KK := K) rfl) (by rfl) T.b_len (by decide +kernel) (pa_cons (pv 12) pa_nil)) pe_int (nomark _))))))) (fun _ _ _ _ _ => pe_int)) (pe_lst pa_nil) (nomark _))))) (pss_one (ps_ret pe_bl)) pss_nil)
      (pss_cons (ps_if (PW.pt (pw_or (pt_cmpR (op_neD hr.units) (pe_call G_plain (hr.mono (by decide)) (by rfl) T.plain_g T.plain_F.kp T.plain_b .nil pass0 (pa_cons (pv 6) pa_nil)) (pe_call G_due (hr.mono (by decide)) (by rfl) T.due_g T.due_F.kp T.due_b .nil pass0 (pa_cons (pv 3) (pa_cons (pv 4) pa_nil))) (nomark _)) (pw_or1 (pt_cmpR (op_neD hr.units) (pe_call G_differences (hr.mono (by decide)) (by rfl) T.differences_g T.differences_F.kp T.differences_b .nil pass0 (pa_cons (pe_call G_made (hr.mono (by decide)) (by rfl) T.made_g T.made_F.kp T.made_b .nil pass0 (pa_cons (pv 3) pa_nil)) (pa_cons (pe_call G_made (hr.mono (by decide)) (by rfl) T.made_g T.made_F.kp T.made_b .nil pass0 (pa_cons (pv 3) pa_nil)) pa_nil))) (pe_tup pa_nil) (nomark _))))) (pss_one (ps_ret pe_bl)) pss_nil)
      (pss_cons (ps_set (i := 7) S_law.nd rfl (Or.inr rfl) (pe_disp (pps_cons pe_str pe_str (pps_cons pe_str pe_str (pps_cons pe_str pe_str pps_nil))) (by rfl) (by rfl) (fun z => by cases z) (by decide)))
      (pss_cons (ps_setLc (i := 8) (own := [(("_law_row" : Str), 12)]) (g := gName 12) (tt := tYes) rfl S_law.nd rfl rfl (sw_true rfl rfl rfl (by decide +kernel)) (pi_list (pe_call G_plain (hr.mono (by decide)) (by rfl) T.plain_g T.plain_F.kp T.plain_b .nil pass0 (pa_cons (pv 6) pa_nil))) (blkOk_by (N := N_law) (sc := defScope s_law) (by decide +kernel)) (fun _ _ _ _ _ => pg_name (i := 12) S_law.nd rfl (Or.inl rfl)) (fun _ _ _ _ _ => pts_nil) (fun _ _ _ _ _ => (pe_tup (pa_cons (pe_dget hu (pv 7) (pe_ix (ix_tupK (KK := K) rfl) (pv 12) pe_int (fun _ _ => rfl)) (fun _ _ => rfl)) (pa_cons (pe_ix (ix_tupK (KK := K) rfl) (pv 12) pe_int (fun _ _ => rfl)) (pa_cons (pe_ix (ix_tupK (KK := K) rfl) (pv 12) pe_int (fun _ _ => rfl)) (pa_cons (pe_ix (ix_tupK (KK := K) rfl) (pv 12) pe_int (fun _ _ => rfl)) pa_nil)))))))
      (pss_cons (ps_if (pt_cmpR (op_neD hr.units) (pe_call G_plain (hr.mono (by decide)) (by rfl) T.plain_g T.plain_F.kp T.plain_b .nil pass0 (pa_cons (pe_call G_differences (hr.mono (by decide)) (by rfl) T.differences_g T.differences_F.kp T.differences_b .nil pass0 (pa_cons (pe_call G_made (hr.mono (by decide)) (by rfl) T.made_g T.made_F.kp T.made_b .nil pass0 (pa_cons (pv 4) pa_nil)) (pa_cons (pe_call G_made (hr.mono (by decide)) (by rfl) T.made_g T.made_F.kp T.made_b .nil pass0 (pa_cons (pv 3) pa_nil)) pa_nil))) pa_nil)) (pv 8) (nomark _)) (pss_one (ps_ret pe_bl)) pss_nil)
      (pss_cons (ps_par (i := 9) (j := 10) (by rfl) S_law.nd rfl rfl (by decide) rfl rfl (pa_cons (pe_call G_differences (hr.mono (by decide)) (by rfl) T.differences_g T.differences_F.kp T.differences_b .nil pass0 (pa_cons (pe_call G_made (hr.mono (by decide)) (by rfl) T.made_g T.made_F.kp T.made_b .nil pass0 (pa_cons (pv 3) pa_nil)) (pa_cons (pe_call G_made (hr.mono (by decide)) (by rfl) T.made_g T.made_F.kp T.made_b .nil pass0 (pa_cons (pv 5) pa_nil)) pa_nil))) (pa_cons (pe_call G_differences (hr.mono (by decide)) (by rfl) T.differences_g T.differences_F.kp T.differences_b .nil pass0 (pa_cons (pe_call G_made (hr.mono (by decide)) (by rfl) T.made_g T.made_F.kp T.made_b .nil pass0 (pa_cons (pv 5) pa_nil)) (pa_cons (pe_call G_made (hr.mono (by decide)) (by rfl) T.made_g T.made_F.kp T.made_b .nil pass0 (pa_cons (pv 4) pa_nil)) pa_nil))) pa_nil)) (by rfl))
      (pss_cons (ps_set (i := 11) S_law.nd rfl (Or.inr rfl) (pe_op op_cat (pe_lc (own := [(("_law_row" : Str), 12)]) (g := gName 12) (tt := tYes) rfl S_law.nd (pi_tup (pv 9)) (blkOk_by (N := N_law) (sc := defScope s_law) (by decide +kernel)) (fun _ _ _ _ _ => pg_name (i := 12) S_law.nd rfl (Or.inl rfl)) (fun _ _ _ _ _ => pts_nil) (fun _ _ _ _ _ => (pe_ix (ix_tupK (KK := K) rfl) (pv 12) pe_int (fun _ _ => rfl)))) (pe_lc (own := [(("_law_row" : Str), 12)]) (g := gName 12) (tt := tYes) rfl S_law.nd (pi_tup (pv 10)) (blkOk_by (N := N_law) (sc := defScope s_law) (by decide +kernel)) (fun _ _ _ _ _ => pg_name (i := 12) S_law.nd rfl (Or.inl rfl)) (fun _ _ _ _ _ => pts_nil) (fun _ _ _ _ _ => (pe_ix (ix_tupK (KK := K) rfl) (pv 12) pe_int (fun _ _ => rfl))))))
      (pss_one (ps_if (pt_cmpR (op_neNil hr.units) (pe_lc (own := [(("_law_row" : Str), 12)]) (g := gName 12) rfl S_law.nd (pi_tup (pv 6)) (blkOk_by (N := N_law) (sc := defScope s_law) (by decide +kernel)) (fun _ _ _ _ _ => pg_name (i := 12) S_law.nd rfl (Or.inl rfl)) (fun _ _ _ _ _ => (pts_one (pt_cmpR (op_notIn_seqN (KK := K) rfl) (pe_ix (ix_tupK (KK := K) rfl) (pv 12) pe_int (fun _ _ => rfl)) (pv 11) rfl))) (fun _ _ _ _ _ => (pv 12))) (pe_lst pa_nil) (nomark _)) (pss_one (ps_ret pe_bl)) pss_nil))))))))))))))
      (pss_one (ps_ret pe_bl)))), ?_⟩
    refine ⟨_, rfl, a, ns, rfl, hb, hl, fun d c H1 hd s1 D1 => ?_⟩
    refine ⟨_, rfl, by decide, by decide, ?_⟩
    refine for_range (lo := 0) (n := 8) (fun i σ H' => ∃ o2 o3 o4 o5 o6 o7 o8 o9 o10 o11 : Option V, σ = [some (.ref a), some (.ref d), o2, o3, o4, o5, o6, o7, o8, o9, o10, o11, none] ∧ Dr H' d c (200 * i)) ⟨_, _, _, _, _, _, _, _, _, _, rfl, D1⟩ ?_ ?_
    · rintro i σ H2 hi ⟨_, _, _, _, _, _, _, _, _, _, rfl, D2⟩
      refine ⟨_, rfl, d, c, _, rfl, D2, by omega, fun l1 r1 H3 w1 _ n1 u1 k1 D3 b3 => ⟨_, rfl, d, c, _, rfl, D3, by omega, fun l2 r2 H4 w2 _ n2 u2 k2 D4 b4 => ⟨_, _, rfl, ?_⟩⟩⟩
      have w14 := w1.dr D3 (w1.ne D3) b4
      refine ⟨_, rfl, d, c, _, rfl, D4, by omega, fun l3 r3 H5 w3 _ n3 u3 k3 D5 b5 => ?_⟩
      have w15 := w14.dr D4 (w14.ne D4) b5
      have w25 := w2.dr D4 (w2.ne D4) b5
      clear w1 w14 w2 b3 b4 b5 D3 D4 D2
      refine asg_step ?_
      refine nx_step ?_
      refine seq_rest (fun σ H6 => ∃ (l2' : Addr) (r2' : List Rw) (o6 o7 o8 o9 o10 o11 : Option V), σ = [some (.ref a), some (.ref d), some (.int (0 + (i : Int))), some (.ref l1), some (.ref l2'), some (.ref l3), o6, o7, o8, o9, o10, o11, none] ∧ Dr H6 d c (200 * i + 100) ∧ LRows H6 l1 r1 ∧ LRows H6 l2' r2' ∧ LRows H6 l3 r3 ∧ r2'.length ≤ 5 ∧ (r2'.map (·.nm)).Nodup ∧ ∀ r ∈ r2', r.nm ∈ nm5) ?_ fun N hN => ?_
      · rintro σ H6 ⟨l2', r2', _, _, _, _, _, _, rfl, D6, w1, w2, w3, n2', n2u, k2'⟩
        refine ⟨_, rfl, l1, r1, rfl, w1, by omega, fun t1 H7 s7 ht1 p1 => ⟨_, rfl, l2', r2', rfl, w2.keep s7, by omega, fun t2 H8 s8 ht2 p2 => ?_⟩⟩
        refine ⟨t1, t2, r1, r2', rfl, p1.keep s8, p2, by omega, by omega, u1, n2u, fun tt ns12 H9 s9 htt hns hnl dr => ?_⟩
        have s69 := (s7.trans s8).trans s9
        have dr0 := dr
        obtain ⟨acc, htT, hds, hrow⟩ := dr
        have hdl : (dif ns12 r1 r2').length ≤ 20 := Nat.le_trans (List.length_filterMap_le _ _) hnl
        have hal : acc.length ≤ 20 := by
          have e := congrArg List.length hds
          rw [List.length_map] at e
          omega
        have hok := dif_ok hns k1 k2'
        -- all are tuples of four
        refine ⟨_, rfl, .ref tt, .ty "tuple", .type "tuple", .type "tuple", true, rfl, .ty _, .base (.tup htT), kit_ty (by decide +kernel), _, rfl, iteF ?_⟩
        refine ⟨_, rfl, tt, rfl, ⟨_, sqT_of htT⟩, fun DD hDD => lc_tpl acc (·.1) (fun _ => false) (fun _ => V.int 1) hDD (szt (by omega)) (sqT_of htT) (fun z hz H10 R S' s10 g1 g2 => ?_) (fun H10 s10 h10 => ?_)⟩
        · obtain ⟨b, x, y, ez, hb0, _⟩ := (hrow z hz).keep s10
          show _ ∧ _
          rw [ez]
          exact ⟨rfl, _, rfl, .ref b, .ty "tuple", .type "tuple", .type "tuple", true, rfl, .ty _, .base (.tup hb0), kit_ty (by decide +kernel), _, rfl, iteF ⟨_, rfl, b, _, rfl, .inr (sqT_of hb0), rfl, _, rfl, iteF (g2 rfl H10 (Same.refl _))⟩⟩
        have e0 : acc.filter (fun _ => false) = [] := List.filter_eq_nil_iff.mpr fun _ _ h => (by cases h)
        rw [e0] at h10
        refine ⟨by show 0 ≤ sizeLine; decide, fun pE hpE => ⟨DD, pE, _, rfl, rfl, SqL.of ((same_new hpE) _ _ h10), SqL.of upd_same, false, rfl, iteF ?_⟩⟩
        have s11 := s10.trans (same_new (o := .lst []) hpE)
        revert s11
        generalize upd H10 pE (.lst []) = H11
        intro s11
        have s611 := s69.trans s11
        -- what is told is what is due
        refine ⟨_, rfl, tt, _, rfl, dr0.keep s11, hdl, fun pl H12 s12 hpl hLT => ⟨_, rfl, _, rfl, l1, l2', r1, r2', rfl, w1.keep (s611.trans s12), w2.keep (s611.trans s12), by omega, by omega, fun du ns2 H13 s13 hdu hns2 hLT2 => ?_⟩⟩
        have e12 := hns2.uniq hns
        subst e12
        refine ⟨_, _, dpLT (hLT.keep s13), dpLT hLT2, dD_shaped hok, dD_shaped hok, false, (by rw [dD_eqv hok] <;> rfl), iteF ?_⟩
        have s613 := (s611.trans s12).trans s13
        -- a lock and itself
        refine ⟨_, rfl, l1, r1, rfl, w1.keep s613, by omega, fun t3 H14 s14 ht3 p3 => ⟨_, rfl, l1, r1, rfl, w1.keep (s613.trans s14), by omega, fun t4 H15 s15 ht4 p4 => ?_⟩⟩
        refine ⟨t3, t4, r1, r1, rfl, p3.keep s15, p4, by omega, by omega, u1, u1, fun t5 ns3 H16 s16 ht5 hns3 _ dr3 => ?_⟩
        rw [dif_same] at dr3
        obtain ⟨ac3, ht5', e3, _⟩ := dr3
        have e4 := List.map_eq_nil_iff.mp e3
        subst e4
        refine ⟨by show 0 ≤ sizeLine; decide, fun pz hpz => ⟨.tuple [], .tuple [], .tup (sqT_of ((same_new hpz) _ _ ht5')) .nil, .tup (sqT_of upd_same) .nil, rfl, rfl, false, rfl, iteF ?_⟩⟩
        have s617 := ((s613.trans s14).trans (s15.trans s16)).trans (same_new (o := .tup []) hpz)
        have s917 := ((((s11.trans s12).trans s13).trans s14).trans (s15.trans s16)).trans (same_new (o := .tup []) hpz)
        revert s617 s917
        generalize upd H16 pz (.tup []) = H17
        intro s617 s917
        -- turned round
        refine fun Ds hDs => ⟨upd_same, swK, rfl, by show 3 ≤ 15; decide, ?_⟩
        rw [sw_merge]
        have s1718 : Same H17 (upd (upd H17 Ds (.dK [])) Ds (.dK swK)) := same_upd (same_new hDs) hDs
        have hS : (upd (upd H17 Ds (.dK [])) Ds (.dK swK)) Ds = some (.dK swK) := upd_same
        revert s1718 hS
        generalize upd (upd H17 Ds (.dK [])) Ds (.dK swK) = H18
        intro s1718 hS
        refine ⟨_, rfl, tt, _, rfl, dr0.keep (s917.trans s1718), hdl, fun pl2 H19 s19 hpl2 hLT3 => ?_⟩
        obtain ⟨ac4, h4, e4, w4⟩ := hLT3
        have hal4 : ac4.length ≤ 20 := by
          have e := congrArg List.length e4
          rw [List.length_map] at e
          omega
        refine ⟨pl2, rfl, ⟨_, SqL.of h4⟩, fun DE hDE => lc_grow walk_list ac4 (·.1) (List.length_map ..) (fun i H x H' ⟨e, hx⟩ => ⟨e, by rw [List.getElem?_map] at hx; obtain ⟨z, hz, e2⟩ := Option.map_eq_some_iff.mp hx; exact ⟨z, hz, e2.symm⟩⟩) (fun z => some (swp z.2)) TRow (fun H H' v b l hl bb hh => hh.butN (NoOb.lst hl).1 bb) hDE (szt (by rw [List.length_map]; omega)) (fun H s => SqL.of (s _ _ h4)) (fun z hz H20 R20 S20 s20 g1 g2 => ?_) (fun H20 ac5 s20 h5a h5p h20 => ?_)⟩
        · obtain ⟨b, ez, hb0⟩ := (w4 z hz).keep s20
          have hzd : z.2 ∈ dif ns2 r1 r2' := by rw [← e4]; exact List.mem_map.mpr ⟨z, hz, rfl⟩
          have hg := DGet.k (k := Sum.inr z.2.wd) (s20 _ _ (s19 _ _ hS))
          rw [sw_get hzd] at hg
          show _ ∧ _
          rw [ez]
          exact ⟨rfl, _, rfl, _, rfl, b, _, _, _, rfl, rfl, sqT_of hb0, rfl, Ds, _, rfl, hg, _, rfl, b, _, _, _, rfl, rfl, sqT_of hb0, rfl, _, rfl, b, _, _, _, rfl, rfl, sqT_of hb0, rfl, _, rfl, b, _, _, _, rfl, rfl, sqT_of hb0, rfl, by show 4 ≤ sizeLine; decide, fun p hp => g1 _ (swp z.2) _ rfl (same_new hp) ⟨p, rfl, upd_same⟩⟩
        have hback : LT H20 DE ((dif ns2 r1 r2').map swp) := by
          refine ⟨ac5, h20, ?_, h5p⟩
          rw [h5a, ← e4, List.map_map]
          exact congrFun (List.filterMap_eq_map (f := fun z : V × Df => swp z.2)) ac4
        have s620 := ((s617.trans s1718).trans s19).trans s20
        have s920 := ((s917.trans s1718).trans s19).trans s20
        refine ⟨_, rfl, l2', r2', rfl, w2.keep s620, by omega, fun t6 H21 s21 ht6 p6 => ⟨_, rfl, l1, r1, rfl, w1.keep (s620.trans s21), by omega, fun t7 H22 s22 ht7 p7 => ?_⟩⟩
        refine ⟨t6, t7, r2', r1, rfl, p6.keep s22, p7, by omega, by omega, n2u, u1, fun t8 ns4 H23 s23 ht8 hns4 hnl4 dr4 => ?_⟩
        have e14 := hns4.uniq hns.swap
        subst e14
        refine ⟨t8, _, rfl, dr4, Nat.le_trans (List.length_filterMap_le _ _) hnl4, fun pl3 H24 s24 hpl3 hLT4 => ?_⟩
        rw [dif_swap] at hLT4
        have hok4 : ∀ d ∈ (dif ns4 r1 r2').map swp, OkD d := by
          rw [← dif_swap]
          exact dif_ok hns4 k2' k1
        have s2024 := ((s21.trans s22).trans s23).trans s24
        refine ⟨_, rfl, _, _, dpLT hLT4, dpLT (hback.keep s2024), dD_shaped hok4, dD_shaped hok4, false, (by rw [dD_eqv hok4] <;> rfl), iteF ?_⟩
        have s624 := s620.trans s2024
        have s924 := s920.trans s2024
        -- by a third lock
        refine ⟨_, rfl, l1, r1, rfl, w1.keep s624, by omega, fun t9 H25 s25 ht9 p9 => ⟨_, rfl, l3, r3, rfl, w3.keep (s624.trans s25), by omega, fun t10 H26 s26 ht10 p10 => ?_⟩⟩
        refine ⟨t9, t10, r1, r3, rfl, p9.keep s26, p10, by omega, by omega, u1, u3, fun tn ns5 H27 s27 htn hns5 hnl5 drn => ?_⟩
        have s627 := ((s624.trans s25).trans s26).trans s27
        have s2427 := (s25.trans s26).trans s27
        refine ⟨_, rfl, l3, r3, rfl, w3.keep s627, by omega, fun t11 H28 s28 ht11 p11 => ⟨_, rfl, l2', r2', rfl, w2.keep (s627.trans s28), by omega, fun t12 H29 s29 ht12 p12 => ?_⟩⟩
        refine ⟨t11, t12, r3, r2', rfl, p11.keep s29, p12, by omega, by omega, u3, n2u, fun tf ns6 H30 s30 htf hns6 hnl6 drf => ?_⟩
        refine ⟨_, _, rfl, ?_⟩
        have s2730 := (s28.trans s29).trans s30
        obtain ⟨an, htn', en, wn⟩ := drn.keep s2730
        obtain ⟨af, htf', ef, wf⟩ := drf
        have ln : an.length ≤ 20 := by
          have e := congrArg List.length en
          have h5 : (dif ns5 r1 r3).length ≤ 20 := Nat.le_trans (List.length_filterMap_le _ _) hnl5
          rw [List.length_map] at e
          omega
        have lf : af.length ≤ 20 := by
          have e := congrArg List.length ef
          have h5 : (dif ns6 r3 r2').length ≤ 20 := Nat.le_trans (List.length_filterMap_le _ _) hnl6
          rw [List.length_map] at e
          omega
        refine ⟨_, rfl, tn, rfl, ⟨_, sqT_of htn'⟩, fun D6' hD6 => lc_tpl an (·.1) (fun _ => true) (fun z => .str z.2.nm) hD6 (szt (by omega)) (sqT_of htn') (fun z hz H31 R31 S31 s31 g1 g2 => ?_) (fun H31 s31 h31 => ?_)⟩
        · obtain ⟨b, x, y, ez, hb0, _⟩ := (wn z hz).keep s31
          show _ ∧ _
          rw [ez]
          exact ⟨rfl, _, rfl, b, _, _, _, rfl, rfl, sqT_of hb0, rfl, g1 rfl H31 (Same.refl _)⟩
        rw [filt1] at h31
        have htf1 := s31 _ _ htf'
        refine ⟨_, rfl, tf, rfl, ⟨_, sqT_of htf1⟩, fun D7' hD7 => lc_tpl af (·.1) (fun _ => true) (fun z => .str z.2.nm) hD7 (szt (by omega)) (sqT_of htf1) (fun z hz H32 R32 S32 s32 g1 g2 => ?_) (fun H32 s32 h32 => ?_)⟩
        · obtain ⟨b, x, y, ez, hb0, _⟩ := (wf z hz).keep (s31.trans s32)
          show _ ∧ _
          rw [ez]
          exact ⟨rfl, _, rfl, b, _, _, _, rfl, rfl, sqT_of hb0, rfl, g1 rfl H32 (Same.refl _)⟩
        rw [filt1] at h32
        refine ⟨D6', D7', _, _, rfl, rfl, s32 _ _ h31, h32, szl (by rw [List.length_map, List.length_map]; omega), fun tq htq => ?_⟩
        have et : (an.map fun z => V.str z.2.nm) ++ (af.map fun z => V.str z.2.nm) = (((dif ns5 r1 r3).map (·.nm)) ++ ((dif ns6 r3 r2').map (·.nm))).map V.str := by
          rw [List.map_append, ← en, ← ef, List.map_map, List.map_map, List.map_map, List.map_map]
          rfl
        have s33 := same_new (o := .lst ((an.map fun z => V.str z.2.nm) ++ (af.map fun z => V.str z.2.nm))) htq
        have hq33 : (upd H32 tq (.lst ((an.map fun z => V.str z.2.nm) ++ (af.map fun z => V.str z.2.nm)))) tq = some (.lst ((((dif ns5 r1 r3).map (·.nm)) ++ ((dif ns6 r3 r2').map (·.nm))).map V.str)) := by rw [upd_same, et]
        revert s33 hq33
        generalize upd H32 tq (.lst ((an.map fun z => V.str z.2.nm) ++ (af.map fun z => V.str z.2.nm))) = H33
        intro s33 hq33
        have s3033 := (s31.trans s32).trans s33
        have s933 := ((s924.trans s2427).trans s2730).trans s3033
        have s633 := (s627.trans s2730).trans s3033
        have htT33 := s933 _ _ htT
        refine ⟨_, rfl, tt, rfl, ⟨_, sqT_of htT33⟩, fun D8' hD8 => lc_tpl acc (·.1) (fun _ => false) (·.1) hD8 (szt (by omega)) (sqT_of htT33) (fun z hz H34 R34 S34 s34 g1 g2 => ?_) (fun H34 s34 h34 => ?_)⟩
        · obtain ⟨b, x, y, ez, hb0, _⟩ := (hrow z hz).keep (s933.trans s34)
          have hmem : z.2.nm ∈ ((dif ns5 r1 r3).map (·.nm)) ++ ((dif ns6 r3 r2').map (·.nm)) := touched hns hns5 hns6 (by rw [← hds]; exact List.mem_map.mpr ⟨z, hz, rfl⟩)
          show _ ∧ _
          rw [ez]
          exact ⟨rfl, _, rfl, b, _, _, _, rfl, rfl, sqT_of hb0, rfl, _, rfl, tq, _, rfl, .inl (SqL.of (s34 _ _ hq33)), rfl, flat_strs _, false, (by show V.bl (!inV _ _) = _; rw [inV_str hmem] <;> rfl), iteF (g2 rfl H34 (Same.refl _))⟩
        rw [e0] at h34
        refine ⟨by show 0 ≤ sizeLine; decide, fun pF hpF => ⟨D8', pF, _, rfl, rfl, SqL.of ((same_new hpF) _ _ h34), SqL.of upd_same, false, rfl, iteF ?_⟩⟩
        have s6end := (s633.trans s34).trans (same_new (o := .lst []) hpF)
        exact ⟨_, _, _, _, _, _, _, _, _, _, rfl, (D6.keep s6end).mono (by omega)⟩
      · refine ⟨_, rfl, d, c, 3, _, rfl, D5, by omega, by decide, by decide, fun v1 H6 v10 v11 D6 b6 => ?_⟩
        have w16 := w15.dr D5 (w15.ne D5) b6
        have w26 := w25.dr D5 (w25.ne D5) b6
        have w36 := w3.dr D5 (w3.ne D5) b6
        by_cases c0 : v1 = 0
        · refine ⟨rfl, true, (by show V.bl (decide _) = _; rw [decide_eq_true (by rw [c0])]), iteT ?_⟩
          obtain ⟨ac1, hl1, e1, w1⟩ := w16
          have hal1 : ac1.length ≤ 5 := by
            rw [← e1, List.length_map] at n1
            exact n1
          have ntd : ∀ {H' : Hp} {k : Nat}, Dr H' d c k → ∀ xs, H' d ≠ some (.tup xs) := fun {H' k} h xs e => by
            obtain ⟨o, q⟩ := h.dict
            rw [q] at e
            cases e
          have nl1 : l1 ≠ d := LRows.ne ⟨ac1, hl1, e1, w1⟩ D6
          refine ⟨_, rfl, l1, rfl, ⟨_, SqL.of hl1⟩, fun DD hDD => lc_it walk_list (fun j H' => ∃ ac : List (V × Rw), Dr H' d c (200 * i + 80 + j) ∧ But d H6 H' ∧ H' DD = some (.lst (ac.map (·.1))) ∧ (∀ z ∈ ac, LRow H' z.1 z.2) ∧ ac.Sublist (ac1.take j)) ⟨[], (D6.new hDD).mono (by omega), But.refl.new hDD, upd_same, (fun z hz => by cases hz), List.Sublist.refl _⟩ (fun j H' _ ⟨_, _, bb, _⟩ => SqL.of (bb _ _ hl1 nl1)) ?_ ?_⟩
          · rintro j x H7 H8 hj ⟨ac, D7, b7, h7, w7, hsub⟩ ⟨rfl, hx⟩
            rw [List.length_map] at hj
            rw [List.getElem?_map] at hx
            obtain ⟨z, hz, rfl⟩ := Option.map_eq_some_iff.mp hx
            have ndD : d ≠ DD := D6.ne_new hDD
            have ncD : c ≠ DD := D6.nc_new hDD
            refine ⟨rfl, _, rfl, d, c, 4, _, rfl, D7, by omega, by decide, by decide, fun v2 H9 v20 v21 D9 b9 => ?_⟩
            have h9 := b9 _ _ h7 ndD.symm
            have w9 : ∀ z ∈ ac, LRow H9 z.1 z.2 := fun z hz => (w7 z hz).butN (ntd D7) b9
            have hacl : ac.length ≤ 5 := by
              have e := hsub.length_le
              rw [List.length_take] at e
              omega
            refine ⟨_, _, rfl, rfl, _, rfl, ?_⟩
            by_cases cv : 0 < v2
            · rw [decide_eq_true cv]
              have hz6 : LRow H9 z.1 z.2 := ((w1 z (List.mem_of_getElem? hz)).butN (ntd D6) b7).butN (ntd D7) b9
              refine iteT ⟨_, rfl, _, h9, szt (by rw [List.length_map]; omega), ac ++ [z], (D9.off ndD ncD).mono (by omega), ?_, ?_, fun y hy => ?_, ?_⟩
              · intro b o e nb
                rw [upd_ne (ne_of_none e hDD)]
                exact b9 _ _ (b7 b o e nb) nb
              · rw [upd_same, List.map_append] <;> rfl
              · have nt9 : ∀ xs, H9 DD ≠ some (.tup xs) := fun xs e => by
                  rw [h9] at e
                  cases e
                rcases List.mem_append.mp hy with h | h
                · exact (w9 y h).butN nt9 But.upd
                · rw [List.mem_singleton.mp h]
                  exact hz6.butN nt9 But.upd
              · rw [one_more hz]
                exact hsub.append (List.Sublist.refl _)
            · rw [decide_eq_false cv]
              exact iteF ⟨ac, D9.mono (by omega), b7.trans b9, h9, w9, hsub.trans (List.take_sublist_take_left (by omega))⟩
          · rintro H7 ⟨ac, D7, b7, h7, w7, hsub⟩
            have hsub2 : ac.Sublist ac1 := hsub.trans (List.take_sublist _ _)
            have hr : (ac.map (·.2)).Sublist r1 := by
              rw [← e1]
              exact hsub2.map _
            refine hN _ _ ⟨DD, ac.map (·.2), _, _, _, _, _, _, rfl, D7.mono (by rw [List.length_map]; omega), LRows.dr ⟨ac1, hl1, e1, w1⟩ D6 nl1 b7, ⟨ac, h7, rfl, w7⟩, w36.dr D6 (w36.ne D6) b7, Nat.le_trans hr.length_le n1, (hr.map _).nodup u1, fun r hr' => k1 r (hr.subset hr')⟩
        · refine ⟨rfl, false, (by show V.bl (decide _) = _; rw [decide_eq_false (fun z => by injection z with z; exact c0 z)]), iteF ?_⟩
          exact hN _ _ ⟨l2, r2, _, _, _, _, _, _, rfl, D6.mono (by omega), w16, w26, w36, n2, u2, k2⟩
    · rintro σ H2 ⟨_, _, _, _, _, _, _, _, _, _, rfl, D2⟩
      exact q H2
end

theorem all_mk {l : PySem.W.OpenLaw} {w : World} {K : PySem.W.Frag} {h : Heap} {mg : Str → Option Value} {fa : Addr} (X : K.In h) (G : h.Ns mainGlobals mg) (hfa : mg "law" = some (.ref fa))
    {f_consists_of : Addr} {od_consists_of an_consists_of : Option Addr} {sl_consists_of : Array (Option Value)} {oc_consists_of kV_consists_of dc_consists_of pm_consists_of cd_consists_of ct_consists_of : Value}
    (n_consists_of : PySem.W.nsIn K mainGlobals "consists_of" = some (some (.ref f_consists_of)))
    (l_consists_of : K.lookup f_consists_of = some ⟨oc_consists_of, od_consists_of, .func (PySem.W.fnOf "consists_of" "consists_of" (defArgs s_consists_of) (defBody s_consists_of) (defScope s_consists_of) .none kV_consists_of dc_consists_of pm_consists_of an_consists_of cd_consists_of ct_consists_of), sl_consists_of⟩)
    (c_consists_of : PySem.W.codeIn K cd_consists_of "consists_of" = true)
    (k_consists_of : PySem.W.keepIn K (.ref f_consists_of) = true)
    {f_is_string_of : Addr} {od_is_string_of an_is_string_of : Option Addr} {sl_is_string_of : Array (Option Value)} {oc_is_string_of kV_is_string_of dc_is_string_of pm_is_string_of cd_is_string_of ct_is_string_of : Value}
    (n_is_string_of : PySem.W.nsIn K mainGlobals "is_string_of" = some (some (.ref f_is_string_of)))
    (l_is_string_of : K.lookup f_is_string_of = some ⟨oc_is_string_of, od_is_string_of, .func (PySem.W.fnOf "is_string_of" "is_string_of" (defArgs s_is_string_of) (defBody s_is_string_of) (defScope s_is_string_of) .none kV_is_string_of dc_is_string_of pm_is_string_of an_is_string_of cd_is_string_of ct_is_string_of), sl_is_string_of⟩)
    (c_is_string_of : PySem.W.codeIn K cd_is_string_of "is_string_of" = true)
    (k_is_string_of : PySem.W.keepIn K (.ref f_is_string_of) = true)
    {f_number_in : Addr} {od_number_in an_number_in : Option Addr} {sl_number_in : Array (Option Value)} {oc_number_in kV_number_in dc_number_in pm_number_in cd_number_in ct_number_in : Value}
    (n_number_in : PySem.W.nsIn K mainGlobals "number_in" = some (some (.ref f_number_in)))
    (l_number_in : K.lookup f_number_in = some ⟨oc_number_in, od_number_in, .func (PySem.W.fnOf "number_in" "number_in" (defArgs s_number_in) (defBody s_number_in) (defScope s_number_in) .none kV_number_in dc_number_in pm_number_in an_number_in cd_number_in ct_number_in), sl_number_in⟩)
    (c_number_in : PySem.W.codeIn K cd_number_in "number_in" = true)
    (k_number_in : PySem.W.keepIn K (.ref f_number_in) = true)
    {f_stage_of_text : Addr} {od_stage_of_text an_stage_of_text : Option Addr} {sl_stage_of_text : Array (Option Value)} {oc_stage_of_text kV_stage_of_text dc_stage_of_text pm_stage_of_text cd_stage_of_text ct_stage_of_text : Value}
    (n_stage_of_text : PySem.W.nsIn K mainGlobals "stage_of_text" = some (some (.ref f_stage_of_text)))
    (l_stage_of_text : K.lookup f_stage_of_text = some ⟨oc_stage_of_text, od_stage_of_text, .func (PySem.W.fnOf "stage_of_text" "stage_of_text" (defArgs s_stage_of_text) (defBody s_stage_of_text) (defScope s_stage_of_text) .none kV_stage_of_text dc_stage_of_text pm_stage_of_text an_stage_of_text cd_stage_of_text ct_stage_of_text), sl_stage_of_text⟩)
    (c_stage_of_text : PySem.W.codeIn K cd_stage_of_text "stage_of_text" = true)
    (k_stage_of_text : PySem.W.keepIn K (.ref f_stage_of_text) = true)
    {f_parts_of_text : Addr} {od_parts_of_text an_parts_of_text : Option Addr} {sl_parts_of_text : Array (Option Value)} {oc_parts_of_text kV_parts_of_text dc_parts_of_text pm_parts_of_text cd_parts_of_text ct_parts_of_text : Value}
    (n_parts_of_text : PySem.W.nsIn K mainGlobals "parts_of_text" = some (some (.ref f_parts_of_text)))
    (l_parts_of_text : K.lookup f_parts_of_text = some ⟨oc_parts_of_text, od_parts_of_text, .func (PySem.W.fnOf "parts_of_text" "parts_of_text" (defArgs s_parts_of_text) (defBody s_parts_of_text) (defScope s_parts_of_text) .none kV_parts_of_text dc_parts_of_text pm_parts_of_text an_parts_of_text cd_parts_of_text ct_parts_of_text), sl_parts_of_text⟩)
    (c_parts_of_text : PySem.W.codeIn K cd_parts_of_text "parts_of_text" = true)
    (k_parts_of_text : PySem.W.keepIn K (.ref f_parts_of_text) = true)
    {f_rank_of : Addr} {od_rank_of an_rank_of : Option Addr} {sl_rank_of : Array (Option Value)} {oc_rank_of kV_rank_of dc_rank_of pm_rank_of cd_rank_of ct_rank_of : Value}
    (n_rank_of : PySem.W.nsIn K mainGlobals "rank_of" = some (some (.ref f_rank_of)))
    (l_rank_of : K.lookup f_rank_of = some ⟨oc_rank_of, od_rank_of, .func (PySem.W.fnOf "rank_of" "rank_of" (defArgs s_rank_of) (defBody s_rank_of) (defScope s_rank_of) .none kV_rank_of dc_rank_of pm_rank_of an_rank_of cd_rank_of ct_rank_of), sl_rank_of⟩)
    (c_rank_of : PySem.W.codeIn K cd_rank_of "rank_of" = true)
    (k_rank_of : PySem.W.keepIn K (.ref f_rank_of) = true)
    {f_numbers_at : Addr} {od_numbers_at an_numbers_at : Option Addr} {sl_numbers_at : Array (Option Value)} {oc_numbers_at kV_numbers_at dc_numbers_at pm_numbers_at cd_numbers_at ct_numbers_at : Value}
    (n_numbers_at : PySem.W.nsIn K mainGlobals "numbers_at" = some (some (.ref f_numbers_at)))
    (l_numbers_at : K.lookup f_numbers_at = some ⟨oc_numbers_at, od_numbers_at, .func (PySem.W.fnOf "numbers_at" "numbers_at" (defArgs s_numbers_at) (defBody s_numbers_at) (defScope s_numbers_at) .none kV_numbers_at dc_numbers_at pm_numbers_at an_numbers_at cd_numbers_at ct_numbers_at), sl_numbers_at⟩)
    (c_numbers_at : PySem.W.codeIn K cd_numbers_at "numbers_at" = true)
    (k_numbers_at : PySem.W.keepIn K (.ref f_numbers_at) = true)
    {f_text_of_numbers : Addr} {od_text_of_numbers an_text_of_numbers : Option Addr} {sl_text_of_numbers : Array (Option Value)} {oc_text_of_numbers kV_text_of_numbers dc_text_of_numbers pm_text_of_numbers cd_text_of_numbers ct_text_of_numbers : Value}
    (n_text_of_numbers : PySem.W.nsIn K mainGlobals "text_of_numbers" = some (some (.ref f_text_of_numbers)))
    (l_text_of_numbers : K.lookup f_text_of_numbers = some ⟨oc_text_of_numbers, od_text_of_numbers, .func (PySem.W.fnOf "text_of_numbers" "text_of_numbers" (defArgs s_text_of_numbers) (defBody s_text_of_numbers) (defScope s_text_of_numbers) .none kV_text_of_numbers dc_text_of_numbers pm_text_of_numbers an_text_of_numbers cd_text_of_numbers ct_text_of_numbers), sl_text_of_numbers⟩)
    (c_text_of_numbers : PySem.W.codeIn K cd_text_of_numbers "text_of_numbers" = true)
    (k_text_of_numbers : PySem.W.keepIn K (.ref f_text_of_numbers) = true)
    {f_text_of_stage : Addr} {od_text_of_stage an_text_of_stage : Option Addr} {sl_text_of_stage : Array (Option Value)} {oc_text_of_stage kV_text_of_stage dc_text_of_stage pm_text_of_stage cd_text_of_stage ct_text_of_stage : Value}
    (n_text_of_stage : PySem.W.nsIn K mainGlobals "text_of_stage" = some (some (.ref f_text_of_stage)))
    (l_text_of_stage : K.lookup f_text_of_stage = some ⟨oc_text_of_stage, od_text_of_stage, .func (PySem.W.fnOf "text_of_stage" "text_of_stage" (defArgs s_text_of_stage) (defBody s_text_of_stage) (defScope s_text_of_stage) .none kV_text_of_stage dc_text_of_stage pm_text_of_stage an_text_of_stage cd_text_of_stage ct_text_of_stage), sl_text_of_stage⟩)
    (c_text_of_stage : PySem.W.codeIn K cd_text_of_stage "text_of_stage" = true)
    (k_text_of_stage : PySem.W.keepIn K (.ref f_text_of_stage) = true)
    {f_text_at : Addr} {od_text_at an_text_at : Option Addr} {sl_text_at : Array (Option Value)} {oc_text_at kV_text_at dc_text_at pm_text_at cd_text_at ct_text_at : Value}
    (n_text_at : PySem.W.nsIn K mainGlobals "text_at" = some (some (.ref f_text_at)))
    (l_text_at : K.lookup f_text_at = some ⟨oc_text_at, od_text_at, .func (PySem.W.fnOf "text_at" "text_at" (defArgs s_text_at) (defBody s_text_at) (defScope s_text_at) .none kV_text_at dc_text_at pm_text_at an_text_at cd_text_at ct_text_at), sl_text_at⟩)
    (c_text_at : PySem.W.codeIn K cd_text_at "text_at" = true)
    (k_text_at : PySem.W.keepIn K (.ref f_text_at) = true)
    {f_Version : Addr}
    {f_Version_init : Addr} {od_Version_init an_Version_init : Option Addr} {sl_Version_init : Array (Option Value)} {oc_Version_init kV_Version_init dc_Version_init pm_Version_init cd_Version_init ct_Version_init : Value}
    (n_Version : PySem.W.nsIn K mainGlobals "Version" = some (some (.ref f_Version)))
    (at_Version_init : PySem.W.findIn K (.ref f_Version) "__init__" = some (some (.ref f_Version_init)))
    (l_Version_init : K.lookup f_Version_init = some ⟨oc_Version_init, od_Version_init, .func (PySem.W.fnOf "__init__" "Version.__init__" (defArgs s_Version_init) (defBody s_Version_init) (defScope s_Version_init) .none kV_Version_init dc_Version_init pm_Version_init an_Version_init cd_Version_init ct_Version_init), sl_Version_init⟩)
    (c_Version_init : PySem.W.codeIn K cd_Version_init "Version.__init__" = true)
    (k_Version_init : PySem.W.keepIn K (.ref f_Version_init) = true)
    {f_Version_eq : Addr} {od_Version_eq an_Version_eq : Option Addr} {sl_Version_eq : Array (Option Value)} {oc_Version_eq kV_Version_eq dc_Version_eq pm_Version_eq cd_Version_eq ct_Version_eq : Value}
    (at_Version_eq : PySem.W.findIn K (.ref f_Version) "__eq__" = some (some (.ref f_Version_eq)))
    (l_Version_eq : K.lookup f_Version_eq = some ⟨oc_Version_eq, od_Version_eq, .func (PySem.W.fnOf "__eq__" "Version.__eq__" (defArgs s_Version_eq) (defBody s_Version_eq) (defScope s_Version_eq) .none kV_Version_eq dc_Version_eq pm_Version_eq an_Version_eq cd_Version_eq ct_Version_eq), sl_Version_eq⟩)
    (c_Version_eq : PySem.W.codeIn K cd_Version_eq "Version.__eq__" = true)
    (k_Version_eq : PySem.W.keepIn K (.ref f_Version_eq) = true)
    {f_Version_str : Addr} {od_Version_str an_Version_str : Option Addr} {sl_Version_str : Array (Option Value)} {oc_Version_str kV_Version_str dc_Version_str pm_Version_str cd_Version_str ct_Version_str : Value}
    (at_Version_str : PySem.W.findIn K (.ref f_Version) "__str__" = some (some (.ref f_Version_str)))
    (l_Version_str : K.lookup f_Version_str = some ⟨oc_Version_str, od_Version_str, .func (PySem.W.fnOf "__str__" "Version.__str__" (defArgs s_Version_str) (defBody s_Version_str) (defScope s_Version_str) .none kV_Version_str dc_Version_str pm_Version_str an_Version_str cd_Version_str ct_Version_str), sl_Version_str⟩)
    (c_Version_str : PySem.W.codeIn K cd_Version_str "Version.__str__" = true)
    (k_Version_str : PySem.W.keepIn K (.ref f_Version_str) = true)
    {f_by_name : Addr} {od_by_name an_by_name : Option Addr} {sl_by_name : Array (Option Value)} {oc_by_name kV_by_name dc_by_name pm_by_name cd_by_name ct_by_name : Value}
    (n_by_name : PySem.W.nsIn K mainGlobals "by_name" = some (some (.ref f_by_name)))
    (l_by_name : K.lookup f_by_name = some ⟨oc_by_name, od_by_name, .func (PySem.W.fnOf "by_name" "by_name" (defArgs s_by_name) (defBody s_by_name) (defScope s_by_name) .none kV_by_name dc_by_name pm_by_name an_by_name cd_by_name ct_by_name), sl_by_name⟩)
    (c_by_name : PySem.W.codeIn K cd_by_name "by_name" = true)
    (k_by_name : PySem.W.keepIn K (.ref f_by_name) = true)
    {f_difference : Addr} {od_difference an_difference : Option Addr} {sl_difference : Array (Option Value)} {oc_difference kV_difference dc_difference pm_difference cd_difference ct_difference : Value}
    (n_difference : PySem.W.nsIn K mainGlobals "difference" = some (some (.ref f_difference)))
    (l_difference : K.lookup f_difference = some ⟨oc_difference, od_difference, .func (PySem.W.fnOf "difference" "difference" (defArgs s_difference) (defBody s_difference) (defScope s_difference) .none kV_difference dc_difference pm_difference an_difference cd_difference ct_difference), sl_difference⟩)
    (c_difference : PySem.W.codeIn K cd_difference "difference" = true)
    (k_difference : PySem.W.keepIn K (.ref f_difference) = true)
    {f_differences : Addr} {od_differences an_differences : Option Addr} {sl_differences : Array (Option Value)} {oc_differences kV_differences dc_differences pm_differences cd_differences ct_differences : Value}
    (n_differences : PySem.W.nsIn K mainGlobals "differences" = some (some (.ref f_differences)))
    (l_differences : K.lookup f_differences = some ⟨oc_differences, od_differences, .func (PySem.W.fnOf "differences" "differences" (defArgs s_differences) (defBody s_differences) (defScope s_differences) .none kV_differences dc_differences pm_differences an_differences cd_differences ct_differences), sl_differences⟩)
    (c_differences : PySem.W.codeIn K cd_differences "differences" = true)
    (k_differences : PySem.W.keepIn K (.ref f_differences) = true)
    {f_begin : Addr} {od_begin an_begin : Option Addr} {sl_begin : Array (Option Value)} {oc_begin kV_begin dc_begin pm_begin cd_begin ct_begin : Value}
    (n_begin : PySem.W.nsIn K mainGlobals "_law_begin" = some (some (.ref f_begin)))
    (l_begin : K.lookup f_begin = some ⟨oc_begin, od_begin, .func (PySem.W.fnOf "_law_begin" "_law_begin" (defArgs s_begin) (defBody s_begin) (defScope s_begin) .none kV_begin dc_begin pm_begin an_begin cd_begin ct_begin), sl_begin⟩)
    (c_begin : PySem.W.codeIn K cd_begin "_law_begin" = true)
    (k_begin : PySem.W.keepIn K (.ref f_begin) = true)
    {f_mixed : Addr} {od_mixed an_mixed : Option Addr} {sl_mixed : Array (Option Value)} {oc_mixed kV_mixed dc_mixed pm_mixed cd_mixed ct_mixed : Value}
    (n_mixed : PySem.W.nsIn K mainGlobals "_law_mixed" = some (some (.ref f_mixed)))
    (l_mixed : K.lookup f_mixed = some ⟨oc_mixed, od_mixed, .func (PySem.W.fnOf "_law_mixed" "_law_mixed" (defArgs s_mixed) (defBody s_mixed) (defScope s_mixed) .none kV_mixed dc_mixed pm_mixed an_mixed cd_mixed ct_mixed), sl_mixed⟩)
    (c_mixed : PySem.W.codeIn K cd_mixed "_law_mixed" = true)
    (k_mixed : PySem.W.keepIn K (.ref f_mixed) = true)
    {f_next : Addr} {od_next an_next : Option Addr} {sl_next : Array (Option Value)} {oc_next kV_next dc_next pm_next cd_next ct_next : Value}
    (n_next : PySem.W.nsIn K mainGlobals "_law_next" = some (some (.ref f_next)))
    (l_next : K.lookup f_next = some ⟨oc_next, od_next, .func (PySem.W.fnOf "_law_next" "_law_next" (defArgs s_next) (defBody s_next) (defScope s_next) .none kV_next dc_next pm_next an_next cd_next ct_next), sl_next⟩)
    (c_next : PySem.W.codeIn K cd_next "_law_next" = true)
    (k_next : PySem.W.keepIn K (.ref f_next) = true)
    {f_rows_drawn : Addr} {od_rows_drawn an_rows_drawn : Option Addr} {sl_rows_drawn : Array (Option Value)} {oc_rows_drawn kV_rows_drawn dc_rows_drawn pm_rows_drawn cd_rows_drawn ct_rows_drawn : Value}
    (n_rows_drawn : PySem.W.nsIn K mainGlobals "_law_rows_drawn" = some (some (.ref f_rows_drawn)))
    (l_rows_drawn : K.lookup f_rows_drawn = some ⟨oc_rows_drawn, od_rows_drawn, .func (PySem.W.fnOf "_law_rows_drawn" "_law_rows_drawn" (defArgs s_rows_drawn) (defBody s_rows_drawn) (defScope s_rows_drawn) .none kV_rows_drawn dc_rows_drawn pm_rows_drawn an_rows_drawn cd_rows_drawn ct_rows_drawn), sl_rows_drawn⟩)
    (c_rows_drawn : PySem.W.codeIn K cd_rows_drawn "_law_rows_drawn" = true)
    (k_rows_drawn : PySem.W.keepIn K (.ref f_rows_drawn) = true)
    {f_made : Addr} {od_made an_made : Option Addr} {sl_made : Array (Option Value)} {oc_made kV_made dc_made pm_made cd_made ct_made : Value}
    (n_made : PySem.W.nsIn K mainGlobals "_law_made" = some (some (.ref f_made)))
    (l_made : K.lookup f_made = some ⟨oc_made, od_made, .func (PySem.W.fnOf "_law_made" "_law_made" (defArgs s_made) (defBody s_made) (defScope s_made) .none kV_made dc_made pm_made an_made cd_made ct_made), sl_made⟩)
    (c_made : PySem.W.codeIn K cd_made "_law_made" = true)
    (k_made : PySem.W.keepIn K (.ref f_made) = true)
    {f_due : Addr} {od_due an_due : Option Addr} {sl_due : Array (Option Value)} {oc_due kV_due dc_due pm_due cd_due ct_due : Value}
    (n_due : PySem.W.nsIn K mainGlobals "_law_due" = some (some (.ref f_due)))
    (l_due : K.lookup f_due = some ⟨oc_due, od_due, .func (PySem.W.fnOf "_law_due" "_law_due" (defArgs s_due) (defBody s_due) (defScope s_due) .none kV_due dc_due pm_due an_due cd_due ct_due), sl_due⟩)
    (c_due : PySem.W.codeIn K cd_due "_law_due" = true)
    (k_due : PySem.W.keepIn K (.ref f_due) = true)
    {f_plain : Addr} {od_plain an_plain : Option Addr} {sl_plain : Array (Option Value)} {oc_plain kV_plain dc_plain pm_plain cd_plain ct_plain : Value}
    (n_plain : PySem.W.nsIn K mainGlobals "_law_plain" = some (some (.ref f_plain)))
    (l_plain : K.lookup f_plain = some ⟨oc_plain, od_plain, .func (PySem.W.fnOf "_law_plain" "_law_plain" (defArgs s_plain) (defBody s_plain) (defScope s_plain) .none kV_plain dc_plain pm_plain an_plain cd_plain ct_plain), sl_plain⟩)
    (c_plain : PySem.W.codeIn K cd_plain "_law_plain" = true)
    (k_plain : PySem.W.keepIn K (.ref f_plain) = true)
    {f_law : Addr} {od_law an_law : Option Addr} {sl_law : Array (Option Value)} {oc_law kV_law dc_law pm_law cd_law ct_law : Value}
    (n_law : PySem.W.nsIn K mainGlobals "law" = some (some (.ref f_law)))
    (l_law : K.lookup f_law = some ⟨oc_law, od_law, .func (PySem.W.fnOf "law" "law" (defArgs s_law) (defBody s_law) (defScope s_law) .none kV_law dc_law pm_law an_law cd_law ct_law), sl_law⟩)
    (c_law : PySem.W.codeIn K cd_law "law" = true)
    (k_law : PySem.W.keepIn K (.ref f_law) = true)
    (pg_Version : PySem.W.plainGet K f_Version Str.empty = true)
    (hd_Version : PySem.W.hasDictIn K f_Version = true)
    (po_Version : PySem.W.plainOver K f_Version = true)
    (sa_Version : PySem.W.findIn K (.ref f_Version) "__setattr__" = some (some (.builtin "object.__setattr__")))
    (mk_Version : PySem.W.makesIn K f_Version = true)
    (kc_Version : PySem.W.keepIn K (.ref f_Version) = true)
    (rd_Version : PySem.W.readsIn K f_Version (.type "type") = true)
    (ga_Version : PySem.W.specialIn K (.ref f_Version) "__getattribute__" = some (some (.builtin "type.__getattribute__")))
    (ca_Version : PySem.W.findIn K (.ref f_Version) "__class__" = some (some (.builtin "object.__class__")))
    (cn_Version : PySem.W.specialIn K (.builtin "object.__class__") "__get__" = some (some (.builtin "getset_descriptor.__get__")))
    (ct_Version : PySem.W.takesIn K (.builtin "object.__class__") = some true)
    (cm_Version : PySem.W.mroIn K f_Version (.type "object") = some true)
    (nf_Version : PySem.W.notFirst K f_Version (.ref f_Version) = true)
    (fn_Version_init : PySem.W.isFn K (.ref f_Version_init) = true)
    (na_Version_rank : PySem.W.findIn K (.ref f_Version) "_rank" = some none)
    (fn_Version_eq : PySem.W.isFn K (.ref f_Version_eq) = true)
    (fn_Version_str : PySem.W.isFn K (.ref f_Version_str) = true)
    {t_Version_LAST : Tok}
    (cv_Version_LAST : PySem.W.findCls K (.ref f_Version) (.type "type") "LAST" = some (.val (.int 3000999999999999 t_Version_LAST)))
    {t_DIGITS : Tok}
    (g_DIGITS : PySem.W.nsIn K mainGlobals "DIGITS" = some (some (.str "0123456789" t_DIGITS)))
    {k_STAGES : Addr} {od_STAGES : Option Addr} {sl_STAGES : Array (Option Value)} {nn_STAGES : Nat} {t_STAGES0 : Tok} {t_STAGES1 : Tok} {t_STAGES2 : Tok}
    (g_STAGES : PySem.W.nsIn K mainGlobals "STAGES" = some (some (.ref k_STAGES)))
    (w_STAGES : K.lookup k_STAGES = some ⟨.type "tuple", od_STAGES, .seq #[.str "a" t_STAGES0, .str "b" t_STAGES1, .str "rc" t_STAGES2] nn_STAGES, sl_STAGES⟩)
    {t_FINAL : Tok}
    (g_FINAL : PySem.W.nsIn K mainGlobals "FINAL" = some (some (.int 3000 t_FINAL)))
    {t_WIDTH : Tok}
    (g_WIDTH : PySem.W.nsIn K mainGlobals "WIDTH" = some (some (.int 3001 t_WIDTH)))
    {t_GREATEST : Tok}
    (g_GREATEST : PySem.W.nsIn K mainGlobals "GREATEST" = some (some (.int 999 t_GREATEST)))
    (z_all : PySem.W.nsIn K mainGlobals "all" = some none)
    (z_enumerate : PySem.W.nsIn K mainGlobals "enumerate" = some none)
    (z_int : PySem.W.nsIn K mainGlobals "int" = some none)
    (z_isinstance : PySem.W.nsIn K mainGlobals "isinstance" = some none)
    (z_len : PySem.W.nsIn K mainGlobals "len" = some none)
    (z_range : PySem.W.nsIn K mainGlobals "range" = some none)
    (z_set : PySem.W.nsIn K mainGlobals "set" = some none)
    (z_sorted : PySem.W.nsIn K mainGlobals "sorted" = some none)
    (z_str : PySem.W.nsIn K mainGlobals "str" = some none)
    (z_tuple : PySem.W.nsIn K mainGlobals "tuple" = some none) :
    ∃ fd : FuncData, (∀ (s : Shared) (v : Value), BindsTo s fd ⟨[v], []⟩ [("_law_script", v)]) ∧ ∀ base : Heap, K.In base → base.Ns mainGlobals mg → FnG l.prog w K mg base 14 fa fd ["_law_script"] (spLaw K) := by
  have e0 := hfa.symm.trans (PySem.W.mg_of X G n_law)
  have e : f_law = fa := by
    cases e0
    rfl
  subst e
  have F_consists_of := fun_mk (st := s_consists_of) l_consists_of c_consists_of k_consists_of
  have B_consists_of := F_consists_of.binds (ps := P_consists_of) fun _ _ _ _ _ _ us hl => match us, hl with | [_, _], _ => rfl
  have F_is_string_of := fun_mk (st := s_is_string_of) l_is_string_of c_is_string_of k_is_string_of
  have B_is_string_of := F_is_string_of.binds (ps := P_is_string_of) fun _ _ _ _ _ _ us hl => match us, hl with | [_, _, _], _ => rfl
  have F_number_in := fun_mk (st := s_number_in) l_number_in c_number_in k_number_in
  have B_number_in := F_number_in.binds (ps := P_number_in) fun _ _ _ _ _ _ us hl => match us, hl with | [_, _], _ => rfl
  have F_stage_of_text := fun_mk (st := s_stage_of_text) l_stage_of_text c_stage_of_text k_stage_of_text
  have B_stage_of_text := F_stage_of_text.binds (ps := P_stage_of_text) fun _ _ _ _ _ _ us hl => match us, hl with | [_], _ => rfl
  have F_parts_of_text := fun_mk (st := s_parts_of_text) l_parts_of_text c_parts_of_text k_parts_of_text
  have B_parts_of_text := F_parts_of_text.binds (ps := P_parts_of_text) fun _ _ _ _ _ _ us hl => match us, hl with | [_], _ => rfl
  have F_rank_of := fun_mk (st := s_rank_of) l_rank_of c_rank_of k_rank_of
  have B_rank_of := F_rank_of.binds (ps := P_rank_of) fun _ _ _ _ _ _ us hl => match us, hl with | [_, _], _ => rfl
  have F_numbers_at := fun_mk (st := s_numbers_at) l_numbers_at c_numbers_at k_numbers_at
  have B_numbers_at := F_numbers_at.binds (ps := P_numbers_at) fun _ _ _ _ _ _ us hl => match us, hl with | [_], _ => rfl
  have F_text_of_numbers := fun_mk (st := s_text_of_numbers) l_text_of_numbers c_text_of_numbers k_text_of_numbers
  have B_text_of_numbers := F_text_of_numbers.binds (ps := P_text_of_numbers) fun _ _ _ _ _ _ us hl => match us, hl with | [_], _ => rfl
  have F_text_of_stage := fun_mk (st := s_text_of_stage) l_text_of_stage c_text_of_stage k_text_of_stage
  have B_text_of_stage := F_text_of_stage.binds (ps := P_text_of_stage) fun _ _ _ _ _ _ us hl => match us, hl with | [_], _ => rfl
  have F_text_at := fun_mk (st := s_text_at) l_text_at c_text_at k_text_at
  have B_text_at := F_text_at.binds (ps := P_text_at) fun _ _ _ _ _ _ us hl => match us, hl with | [_], _ => rfl
  have F_Version_init := fun_mk (st := s_Version_init) l_Version_init c_Version_init k_Version_init
  have B_Version_init := F_Version_init.binds (ps := P_Version_init) fun _ _ _ _ _ _ us hl => match us, hl with | [_, _], _ => rfl
  have F_Version_eq := fun_mk (st := s_Version_eq) l_Version_eq c_Version_eq k_Version_eq
  have B_Version_eq := F_Version_eq.binds (ps := P_Version_eq) fun _ _ _ _ _ _ us hl => match us, hl with | [_, _], _ => rfl
  have F_Version_str := fun_mk (st := s_Version_str) l_Version_str c_Version_str k_Version_str
  have B_Version_str := F_Version_str.binds (ps := P_Version_str) fun _ _ _ _ _ _ us hl => match us, hl with | [_], _ => rfl
  have F_by_name := fun_mk (st := s_by_name) l_by_name c_by_name k_by_name
  have B_by_name := F_by_name.binds (ps := P_by_name) fun _ _ _ _ _ _ us hl => match us, hl with | [_], _ => rfl
  have F_difference := fun_mk (st := s_difference) l_difference c_difference k_difference
  have B_difference := F_difference.binds (ps := P_difference) fun _ _ _ _ _ _ us hl => match us, hl with | [_, _, _], _ => rfl
  have F_differences := fun_mk (st := s_differences) l_differences c_differences k_differences
  have B_differences := F_differences.binds (ps := P_differences) fun _ _ _ _ _ _ us hl => match us, hl with | [_, _], _ => rfl
  have KB_differences : KB K (PySem.W.fnOf "differences" "differences" (defArgs s_differences) (defBody s_differences) (defScope s_differences) .none kV_differences dc_differences pm_differences an_differences cd_differences ct_differences) P_differences ["old", "new"] := ⟨fun _ ws _ hl => match ws, hl with | [_, _], _ => .of_eq rfl⟩
  have F_begin := fun_mk (st := s_begin) l_begin c_begin k_begin
  have B_begin := F_begin.binds (ps := P_begin) fun _ _ _ _ _ _ us hl => match us, hl with | [_], _ => rfl
  have F_mixed := fun_mk (st := s_mixed) l_mixed c_mixed k_mixed
  have B_mixed := F_mixed.binds (ps := P_mixed) fun _ _ _ _ _ _ us hl => match us, hl with | [_, _], _ => rfl
  have F_next := fun_mk (st := s_next) l_next c_next k_next
  have B_next := F_next.binds (ps := P_next) fun _ _ _ _ _ _ us hl => match us, hl with | [_, _], _ => rfl
  have F_rows_drawn := fun_mk (st := s_rows_drawn) l_rows_drawn c_rows_drawn k_rows_drawn
  have B_rows_drawn := F_rows_drawn.binds (ps := P_rows_drawn) fun _ _ _ _ _ _ us hl => match us, hl with | [_], _ => rfl
  have F_made := fun_mk (st := s_made) l_made c_made k_made
  have B_made := F_made.binds (ps := P_made) fun _ _ _ _ _ _ us hl => match us, hl with | [_], _ => rfl
  have F_due := fun_mk (st := s_due) l_due c_due k_due
  have B_due := F_due.binds (ps := P_due) fun _ _ _ _ _ _ us hl => match us, hl with | [_, _], _ => rfl
  have F_plain := fun_mk (st := s_plain) l_plain c_plain k_plain
  have B_plain := F_plain.binds (ps := P_plain) fun _ _ _ _ _ _ us hl => match us, hl with | [_], _ => rfl
  have F_law := fun_mk (st := s_law) l_law c_law k_law
  have B_law := F_law.binds (ps := P_law) fun _ _ _ _ _ _ us hl => match us, hl with | [_], _ => rfl
  have T : Tex K mg { a_consists_of := f_consists_of, d_consists_of := (PySem.W.fnOf "consists_of" "consists_of" (defArgs s_consists_of) (defBody s_consists_of) (defScope s_consists_of) .none kV_consists_of dc_consists_of pm_consists_of an_consists_of cd_consists_of ct_consists_of), a_is_string_of := f_is_string_of, d_is_string_of := (PySem.W.fnOf "is_string_of" "is_string_of" (defArgs s_is_string_of) (defBody s_is_string_of) (defScope s_is_string_of) .none kV_is_string_of dc_is_string_of pm_is_string_of an_is_string_of cd_is_string_of ct_is_string_of), a_number_in := f_number_in, d_number_in := (PySem.W.fnOf "number_in" "number_in" (defArgs s_number_in) (defBody s_number_in) (defScope s_number_in) .none kV_number_in dc_number_in pm_number_in an_number_in cd_number_in ct_number_in), a_stage_of_text := f_stage_of_text, d_stage_of_text := (PySem.W.fnOf "stage_of_text" "stage_of_text" (defArgs s_stage_of_text) (defBody s_stage_of_text) (defScope s_stage_of_text) .none kV_stage_of_text dc_stage_of_text pm_stage_of_text an_stage_of_text cd_stage_of_text ct_stage_of_text), a_parts_of_text := f_parts_of_text, d_parts_of_text := (PySem.W.fnOf "parts_of_text" "parts_of_text" (defArgs s_parts_of_text) (defBody s_parts_of_text) (defScope s_parts_of_text) .none kV_parts_of_text dc_parts_of_text pm_parts_of_text an_parts_of_text cd_parts_of_text ct_parts_of_text), a_rank_of := f_rank_of, d_rank_of := (PySem.W.fnOf "rank_of" "rank_of" (defArgs s_rank_of) (defBody s_rank_of) (defScope s_rank_of) .none kV_rank_of dc_rank_of pm_rank_of an_rank_of cd_rank_of ct_rank_of), a_numbers_at := f_numbers_at, d_numbers_at := (PySem.W.fnOf "numbers_at" "numbers_at" (defArgs s_numbers_at) (defBody s_numbers_at) (defScope s_numbers_at) .none kV_numbers_at dc_numbers_at pm_numbers_at an_numbers_at cd_numbers_at ct_numbers_at), a_text_of_numbers := f_text_of_numbers, d_text_of_numbers := (PySem.W.fnOf "text_of_numbers" "text_of_numbers" (defArgs s_text_of_numbers) (defBody s_text_of_numbers) (defScope s_text_of_numbers) .none kV_text_of_numbers dc_text_of_numbers pm_text_of_numbers an_text_of_numbers cd_text_of_numbers ct_text_of_numbers), a_text_of_stage := f_text_of_stage, d_text_of_stage := (PySem.W.fnOf "text_of_stage" "text_of_stage" (defArgs s_text_of_stage) (defBody s_text_of_stage) (defScope s_text_of_stage) .none kV_text_of_stage dc_text_of_stage pm_text_of_stage an_text_of_stage cd_text_of_stage ct_text_of_stage), a_text_at := f_text_at, d_text_at := (PySem.W.fnOf "text_at" "text_at" (defArgs s_text_at) (defBody s_text_at) (defScope s_text_at) .none kV_text_at dc_text_at pm_text_at an_text_at cd_text_at ct_text_at), a_Version_init := f_Version_init, d_Version_init := (PySem.W.fnOf "__init__" "Version.__init__" (defArgs s_Version_init) (defBody s_Version_init) (defScope s_Version_init) .none kV_Version_init dc_Version_init pm_Version_init an_Version_init cd_Version_init ct_Version_init), a_Version_eq := f_Version_eq, d_Version_eq := (PySem.W.fnOf "__eq__" "Version.__eq__" (defArgs s_Version_eq) (defBody s_Version_eq) (defScope s_Version_eq) .none kV_Version_eq dc_Version_eq pm_Version_eq an_Version_eq cd_Version_eq ct_Version_eq), a_Version_str := f_Version_str, d_Version_str := (PySem.W.fnOf "__str__" "Version.__str__" (defArgs s_Version_str) (defBody s_Version_str) (defScope s_Version_str) .none kV_Version_str dc_Version_str pm_Version_str an_Version_str cd_Version_str ct_Version_str), a_by_name := f_by_name, d_by_name := (PySem.W.fnOf "by_name" "by_name" (defArgs s_by_name) (defBody s_by_name) (defScope s_by_name) .none kV_by_name dc_by_name pm_by_name an_by_name cd_by_name ct_by_name), a_difference := f_difference, d_difference := (PySem.W.fnOf "difference" "difference" (defArgs s_difference) (defBody s_difference) (defScope s_difference) .none kV_difference dc_difference pm_difference an_difference cd_difference ct_difference), a_differences := f_differences, d_differences := (PySem.W.fnOf "differences" "differences" (defArgs s_differences) (defBody s_differences) (defScope s_differences) .none kV_differences dc_differences pm_differences an_differences cd_differences ct_differences), a_begin := f_begin, d_begin := (PySem.W.fnOf "_law_begin" "_law_begin" (defArgs s_begin) (defBody s_begin) (defScope s_begin) .none kV_begin dc_begin pm_begin an_begin cd_begin ct_begin), a_mixed := f_mixed, d_mixed := (PySem.W.fnOf "_law_mixed" "_law_mixed" (defArgs s_mixed) (defBody s_mixed) (defScope s_mixed) .none kV_mixed dc_mixed pm_mixed an_mixed cd_mixed ct_mixed), a_next := f_next, d_next := (PySem.W.fnOf "_law_next" "_law_next" (defArgs s_next) (defBody s_next) (defScope s_next) .none kV_next dc_next pm_next an_next cd_next ct_next), a_rows_drawn := f_rows_drawn, d_rows_drawn := (PySem.W.fnOf "_law_rows_drawn" "_law_rows_drawn" (defArgs s_rows_drawn) (defBody s_rows_drawn) (defScope s_rows_drawn) .none kV_rows_drawn dc_rows_drawn pm_rows_drawn an_rows_drawn cd_rows_drawn ct_rows_drawn), a_made := f_made, d_made := (PySem.W.fnOf "_law_made" "_law_made" (defArgs s_made) (defBody s_made) (defScope s_made) .none kV_made dc_made pm_made an_made cd_made ct_made), a_due := f_due, d_due := (PySem.W.fnOf "_law_due" "_law_due" (defArgs s_due) (defBody s_due) (defScope s_due) .none kV_due dc_due pm_due an_due cd_due ct_due), a_plain := f_plain, d_plain := (PySem.W.fnOf "_law_plain" "_law_plain" (defArgs s_plain) (defBody s_plain) (defScope s_plain) .none kV_plain dc_plain pm_plain an_plain cd_plain ct_plain), a_law := f_law, d_law := (PySem.W.fnOf "law" "law" (defArgs s_law) (defBody s_law) (defScope s_law) .none kV_law dc_law pm_law an_law cd_law ct_law), a_Version := f_Version, t_Version_LAST := t_Version_LAST, t_DIGITS := t_DIGITS, k_STAGES := k_STAGES, t_FINAL := t_FINAL, t_WIDTH := t_WIDTH, t_GREATEST := t_GREATEST } := { consists_of_F := F_consists_of, consists_of_g := PySem.W.mg_of X G n_consists_of, consists_of_b := B_consists_of, is_string_of_F := F_is_string_of, is_string_of_g := PySem.W.mg_of X G n_is_string_of, is_string_of_b := B_is_string_of, number_in_F := F_number_in, number_in_g := PySem.W.mg_of X G n_number_in, number_in_b := B_number_in, stage_of_text_F := F_stage_of_text, stage_of_text_g := PySem.W.mg_of X G n_stage_of_text, stage_of_text_b := B_stage_of_text, parts_of_text_F := F_parts_of_text, parts_of_text_g := PySem.W.mg_of X G n_parts_of_text, parts_of_text_b := B_parts_of_text, rank_of_F := F_rank_of, rank_of_g := PySem.W.mg_of X G n_rank_of, rank_of_b := B_rank_of, numbers_at_F := F_numbers_at, numbers_at_g := PySem.W.mg_of X G n_numbers_at, numbers_at_b := B_numbers_at, text_of_numbers_F := F_text_of_numbers, text_of_numbers_g := PySem.W.mg_of X G n_text_of_numbers, text_of_numbers_b := B_text_of_numbers, text_of_stage_F := F_text_of_stage, text_of_stage_g := PySem.W.mg_of X G n_text_of_stage, text_of_stage_b := B_text_of_stage, text_at_F := F_text_at, text_at_g := PySem.W.mg_of X G n_text_at, text_at_b := B_text_at, Version_init_F := F_Version_init, Version_init_b := B_Version_init, Version_eq_F := F_Version_eq, Version_eq_b := B_Version_eq, Version_str_F := F_Version_str, Version_str_b := B_Version_str, by_name_F := F_by_name, by_name_g := PySem.W.mg_of X G n_by_name, by_name_b := B_by_name, difference_F := F_difference, difference_g := PySem.W.mg_of X G n_difference, difference_b := B_difference, differences_F := F_differences, differences_g := PySem.W.mg_of X G n_differences, differences_b := B_differences, differences_kb := KB_differences, begin_F := F_begin, begin_g := PySem.W.mg_of X G n_begin, begin_b := B_begin, mixed_F := F_mixed, mixed_g := PySem.W.mg_of X G n_mixed, mixed_b := B_mixed, next_F := F_next, next_g := PySem.W.mg_of X G n_next, next_b := B_next, rows_drawn_F := F_rows_drawn, rows_drawn_g := PySem.W.mg_of X G n_rows_drawn, rows_drawn_b := B_rows_drawn, made_F := F_made, made_g := PySem.W.mg_of X G n_made, made_b := B_made, due_F := F_due, due_g := PySem.W.mg_of X G n_due, due_b := B_due, plain_F := F_plain, plain_g := PySem.W.mg_of X G n_plain, plain_b := B_plain, law_F := F_law, law_g := PySem.W.mg_of X G n_law, law_b := B_law, Version_g := PySem.W.mg_of X G n_Version, Version_cl := ⟨pg_Version, hd_Version, po_Version, sa_Version⟩, Version_mk := ⟨mk_Version, at_Version_init, fn_Version_init, kc_Version⟩, Version_rd := ⟨rd_Version, ga_Version⟩, Version_si := ⟨ca_Version, cn_Version, ct_Version, cm_Version⟩, Version_nf := nf_Version, Version_n_rank := na_Version_rank, Version_init_at := at_Version_init, Version_init_fn := fn_Version_init, Version_eq_at := at_Version_eq, Version_eq_fn := fn_Version_eq, Version_str_at := at_Version_str, Version_str_fn := fn_Version_str, Version_LAST := ⟨cv_Version_LAST, _, rfl⟩, c_DIGITS := PySem.W.mg_of X G g_DIGITS, c_STAGES := PySem.W.mg_of X G g_STAGES, v_STAGES := .inr ⟨_, _, _, w_STAGES, rfl, rfl, (by show 3 ≤ sizeLine; decide), .cons ⟨_, rfl⟩ (.cons ⟨_, rfl⟩ (.cons ⟨_, rfl⟩ (.nil)))⟩, c_FINAL := PySem.W.mg_of X G g_FINAL, c_WIDTH := PySem.W.mg_of X G g_WIDTH, c_GREATEST := PySem.W.mg_of X G g_GREATEST, b_all := PySem.W.mg_none_of X G z_all, b_enumerate := PySem.W.mg_none_of X G z_enumerate, b_int := PySem.W.mg_none_of X G z_int, b_isinstance := PySem.W.mg_none_of X G z_isinstance, b_len := PySem.W.mg_none_of X G z_len, b_range := PySem.W.mg_none_of X G z_range, b_set := PySem.W.mg_none_of X G z_set, b_sorted := PySem.W.mg_none_of X G z_sorted, b_str := PySem.W.mg_none_of X G z_str, b_tuple := PySem.W.mg_none_of X G z_tuple }
  exact ⟨_, fun s v => .of_eq rfl, fun base _ _ => ok_law T⟩
end Pk
open PySem PySem.W PyProof.Rows
set_option maxRecDepth 100000 in
set_option maxHeartbeats 0 in
theorem PySem.Challenge.cw_parcelindex_k42_differences_of_rows_holds : PySem.Challenge.rw_parcelindex_k42_differences_of_rows.Holds := by
  w_on; o_law; k_head; (case hw => w_witness2)
  k_fill
  refine Pk.walkG (l := PySem.Challenge.rw_parcelindex_k42_differences_of_rows) (k := 14) (x := "_law_script") (sp := Pk.spLaw) rfl rfl ⟨rfl, by decide, by decide⟩ (fun w h Y => PySem.W.kIn_of Y) ?F (fun K H a ns hl hS => ⟨a, ns, rfl, hS, hl, fun _ => rfl⟩)
  case F =>
    intro w mg fa h KX G hmg
    refine' Pk.all_mk KX G hmg ?n_consists_of ?l_consists_of ?c_consists_of ?k_consists_of ?n_is_string_of ?l_is_string_of ?c_is_string_of ?k_is_string_of ?n_number_in ?l_number_in ?c_number_in ?k_number_in ?n_stage_of_text ?l_stage_of_text ?c_stage_of_text ?k_stage_of_text ?n_parts_of_text ?l_parts_of_text ?c_parts_of_text ?k_parts_of_text ?n_rank_of ?l_rank_of ?c_rank_of ?k_rank_of ?n_numbers_at ?l_numbers_at ?c_numbers_at ?k_numbers_at ?n_text_of_numbers ?l_text_of_numbers ?c_text_of_numbers ?k_text_of_numbers ?n_text_of_stage ?l_text_of_stage ?c_text_of_stage ?k_text_of_stage ?n_text_at ?l_text_at ?c_text_at ?k_text_at ?n_Version ?at_Version_init ?l_Version_init ?c_Version_init ?k_Version_init ?at_Version_eq ?l_Version_eq ?c_Version_eq ?k_Version_eq ?at_Version_str ?l_Version_str ?c_Version_str ?k_Version_str ?n_by_name ?l_by_name ?c_by_name ?k_by_name ?n_difference ?l_difference ?c_difference ?k_difference ?n_differences ?l_differences ?c_differences ?k_differences ?n_begin ?l_begin ?c_begin ?k_begin ?n_mixed ?l_mixed ?c_mixed ?k_mixed ?n_next ?l_next ?c_next ?k_next ?n_rows_drawn ?l_rows_drawn ?c_rows_drawn ?k_rows_drawn ?n_made ?l_made ?c_made ?k_made ?n_due ?l_due ?c_due ?k_due ?n_plain ?l_plain ?c_plain ?k_plain ?n_law ?l_law ?c_law ?k_law ?pg_Version ?hd_Version ?po_Version ?sa_Version ?mk_Version ?kc_Version ?rd_Version ?ga_Version ?ca_Version ?cn_Version ?ct_Version ?cm_Version ?nf_Version ?fn_Version_init ?na_Version_rank ?fn_Version_eq ?fn_Version_str ?cv_Version_LAST ?g_DIGITS ?g_STAGES ?w_STAGES ?g_FINAL ?g_WIDTH ?g_GREATEST ?z_all ?z_enumerate ?z_int ?z_isinstance ?z_len ?z_range ?z_set ?z_sorted ?z_str ?z_tuple
    (case n_consists_of => k_is)
    (case l_consists_of => k_is)
    (case c_consists_of => k_is)
    (case k_consists_of => k_is)
    (case n_is_string_of => k_is)
    (case l_is_string_of => k_is)
    (case c_is_string_of => k_is)
    (case k_is_string_of => k_is)
    (case n_number_in => k_is)
    (case l_number_in => k_is)
    (case c_number_in => k_is)
    (case k_number_in => k_is)
    (case n_stage_of_text => k_is)
    (case l_stage_of_text => k_is)
    (case c_stage_of_text => k_is)
    (case k_stage_of_text => k_is)
    (case n_parts_of_text => k_is)
    (case l_parts_of_text => k_is)
    (case c_parts_of_text => k_is)
    (case k_parts_of_text => k_is)
    (case n_rank_of => k_is)
    (case l_rank_of => k_is)
    (case c_rank_of => k_is)
    (case k_rank_of => k_is)
    (case n_numbers_at => k_is)
    (case l_numbers_at => k_is)
    (case c_numbers_at => k_is)
    (case k_numbers_at => k_is)
    (case n_text_of_numbers => k_is)
    (case l_text_of_numbers => k_is)
    (case c_text_of_numbers => k_is)
    (case k_text_of_numbers => k_is)
    (case n_text_of_stage => k_is)
    (case l_text_of_stage => k_is)
    (case c_text_of_stage => k_is)
    (case k_text_of_stage => k_is)
    (case n_text_at => k_is)
    (case l_text_at => k_is)
    (case c_text_at => k_is)
    (case k_text_at => k_is)
    (case n_Version => k_is)
    (case at_Version_init => k_is)
    (case l_Version_init => k_is)
    (case c_Version_init => k_is)
    (case k_Version_init => k_is)
    (case at_Version_eq => k_is)
    (case l_Version_eq => k_is)
    (case c_Version_eq => k_is)
    (case k_Version_eq => k_is)
    (case at_Version_str => k_is)
    (case l_Version_str => k_is)
    (case c_Version_str => k_is)
    (case k_Version_str => k_is)
    (case n_by_name => k_is)
    (case l_by_name => k_is)
    (case c_by_name => k_is)
    (case k_by_name => k_is)
    (case n_difference => k_is)
    (case l_difference => k_is)
    (case c_difference => k_is)
    (case k_difference => k_is)
    (case n_differences => k_is)
    (case l_differences => k_is)
    (case c_differences => k_is)
    (case k_differences => k_is)
    (case n_begin => k_is)
    (case l_begin => k_is)
    (case c_begin => k_is)
    (case k_begin => k_is)
    (case n_mixed => k_is)
    (case l_mixed => k_is)
    (case c_mixed => k_is)
    (case k_mixed => k_is)
    (case n_next => k_is)
    (case l_next => k_is)
    (case c_next => k_is)
    (case k_next => k_is)
    (case n_rows_drawn => k_is)
    (case l_rows_drawn => k_is)
    (case c_rows_drawn => k_is)
    (case k_rows_drawn => k_is)
    (case n_made => k_is)
    (case l_made => k_is)
    (case c_made => k_is)
    (case k_made => k_is)
    (case n_due => k_is)
    (case l_due => k_is)
    (case c_due => k_is)
    (case k_due => k_is)
    (case n_plain => k_is)
    (case l_plain => k_is)
    (case c_plain => k_is)
    (case k_plain => k_is)
    (case n_law => k_is)
    (case l_law => k_is)
    (case c_law => k_is)
    (case k_law => k_is)
    (case pg_Version => k_is)
    (case hd_Version => k_is)
    (case po_Version => k_is)
    (case sa_Version => k_is)
    (case mk_Version => k_is)
    (case kc_Version => k_is)
    (case rd_Version => k_is)
    (case ga_Version => k_is)
    (case ca_Version => k_is)
    (case cn_Version => k_is)
    (case ct_Version => k_is)
    (case cm_Version => k_is)
    (case nf_Version => k_is)
    (case fn_Version_init => k_is)
    (case na_Version_rank => k_is)
    (case fn_Version_eq => k_is)
    (case fn_Version_str => k_is)
    (case cv_Version_LAST => k_is)
    (case g_DIGITS => k_is)
    (case g_STAGES => k_is)
    (case w_STAGES => k_is)
    (case g_FINAL => k_is)
    (case g_WIDTH => k_is)
    (case g_GREATEST => k_is)
    (case z_all => k_is)
    (case z_enumerate => k_is)
    (case z_int => k_is)
    (case z_isinstance => k_is)
    (case z_len => k_is)
    (case z_range => k_is)
    (case z_set => k_is)
    (case z_sorted => k_is)
    (case z_str => k_is)
    (case z_tuple => k_is)
