import PyProof.Rows.All
import Wide.All
import OpenK.AllK
import Wide.FinOn
import PyProof.ReprRoads
import HandS.ForMost
import HandS.ForExc
import HandS.IsInst
import HandS.Walk
import HandS.Flow
import HandS.RaiseMore

import HandS.ClsMeth
import HandS.Property
import HandS.SlotsOwn
import HandS.FStr
import HandS.TupAny
import HandS.Codes
import KE.KCallOwn
import KE.GoesMore
import KE.GoesEnum
import KE.DatumOrd
import HandS.SortInts
import HandS.Defaults

import HandS.ExcInit
import HandS.ExcValue
import HandS.ExcField
import HandS.ExcIs
import HandS.TryMany

import HandS.Style
import HandS.DeepEq
import HandS.DictComp
import HandS.Star
import HandS.Zip
import HandS.OwnEq
import HandS.WordsDict
import HandS.Deep
import HandS.More
import HandS.ClsMeth
import HandS.Codes
import HandS.MakeKw
import HandS.MakeKwOnly
import PyProof.ReprRoads
import KE.KRevSl
import KE.OsRunLaw
import PySem.Challenge.RW_parcelindex_k34_tastes_in_order
set_option Elab.async false
set_option maxRecDepth 100000
set_option maxHeartbeats 4000000

/-! ## Calls with the stack's repr marks known to be none: a def's promise, its body's rule, calls, the end -/
namespace Pk
open PySem PySem.Spec PyProof.Rows L2

/-- a def keeps its promise wherever no repr runs around it -/
structure FnG (P : Program) (w : World) (K : PySem.W.Frag) (mg : Str → Option Value) (base : Heap) (k : Nat) (f : Addr) (fd : FuncData) (ps : List Str) (sp : Sp) : Prop where
  lenG : ∀ vs H Q E, sp vs H Q E → vs.length = ps.length
  runG : ∀ (A : Around) (outer : List Env) (s : Shared) (H : Hp) (args : Args) (us : List Value) (vs : List V) (Q : VK),
    A.guards = some [] → Room k A → Env0 P w K mg base A outer s H →
    BindsTo s fd args (ps.zip us) → Vals vs us → sp vs H Q E0 →
    codeAny (model P w) A (.call (.ref f) args) (CR CX0 outer P w H s Q E0) s

section
variable {P : Program} {w : World} {K : PySem.W.Frag} {mg : Str → Option Value} {base : Heap}
theorem FnG.of {k : Nat} {f : Addr} {fd : FuncData} {ps : List Str} {sp : Sp} (F : FnOk P w K mg base CX0 k f fd ps sp) : FnG P w K mg base k f fd ps sp :=
  ⟨F.len, fun A outer s H args us vs Q _ h1 h2 h3 h4 h5 => F.run A outer s H args us vs Q E0 h1 h2 h3 h4 h5⟩

/-- the rule for a def's body, with the marks known -/
theorem fnG_of {x qual : Str} {st : Stmt} {f : Addr} {fd : FuncData} {N ps : List Str} {k : Nat} {sp : Sp} (F : Fun K x qual st f fd)
    (S : FnScope N ps (defScope st)) (len : ∀ vs H Q E, sp vs H Q E → vs.length = ps.length)
    (hbody : ∀ (cdv : Value) (A : Around) (outer : List Env) (s : Shared) (H : Hp) (vs : List V) (Q : VK),
      A.guards = some [] → Room k (A.deeper (envOfC qual (defScope st) s.heap.objs.size f cdv)) → sp vs H Q E0 →
      ∃ t, PSs (cxOf CX0 P w K mg base N qual (defScope st) f cdv A outer s H E0).nox (defBody st) t ∧
        t { nx := fun _ H' => Q .non H', rt := Q } (start N vs) H) :
    FnG P w K mg base (k + 1) f fd ps sp := by
  obtain ⟨oc, od, kV, doc, pm, an, cdv, ct, osl, rfl, lk, hcd⟩ := F.ex
  refine ⟨len, ?_⟩
  intro A outer s H args us vs Q hg hr e0 hb r hsp
  have hlen := len _ _ _ _ hsp
  have inK : K.In s.heap := e0.mod.kin.keeps (fun b o e => (e0.bs b o e).1)
  have nolim : s.heap.NoLimit := e0.mod.nolimit.keeps (fun b o e => (e0.bs b o e).1)
  have hk : ∀ y ∈ ps.zip us, (defScope st).names.lookup y.1 = some .local ∨ ((defScope st).names.lookup y.1 = some .cell ∧
      ((cellsFrom (s.heap.objs.size + 1) (defScope st).names []).lookup y.1).isSome = true) := by
    rintro ⟨n, v⟩ hy
    rcases S.par n (List.of_mem_zip hy).1 with q | q
    · exact Or.inl q
    · exact Or.inr ⟨q, PySem.W.cellsFrom_some _ _ _ (Or.inl q)⟩
  refine codeAny_call_function hr.depth (inK _ _ lk) rfl S.co S.gen rfl (PySem.W.codeRec_of inK hcd) (hb _ _ _ _ ?_)
  refine wpAny_newFunctionEnv_cells S.kind hk ?_
  intro env he s1 x
  subst he
  refine ⟨nolim.keeps x.toInCall.keep, codeAny_func ?_⟩
  obtain ⟨t, ht0, hq⟩ := hbody cdv A outer s H vs Q hg (hr.deeper _) hsp
  have ht := ht0.nox
  have J0 : Inv (cxOf CX0 P w K mg base N qual (defScope st) f cdv A outer s H E0) [] (start N vs) H s1 := inv_start S hr.hd e0 hlen r x
  have fin : ∀ {σ' : L2.St} {H' : Hp} {s' : Shared} {v : V} {u : Value},
      Inv (cxOf CX0 P w K mg base N qual (defScope st) f cdv A outer s H E0) [] σ' H' s' → RelV v u → Q v H' → CE outer P w H s Q u s' :=
    fun {σ' H' s' v u} J rv q => ⟨v, H', J.os, J.bare, J.base, J.hok, rv, q⟩
  refine wpAny_mono (ht.run [] s1 (start N vs) H _ J0 hq) ?_ (fun e s' hs => hs)
  rintro (_ | _ | _ | u) s' hs
  · obtain ⟨σ', H', J, q⟩ := hs
    exact fin (v := V.non) (u := Value.none) J rfl q
  · obtain ⟨_, _, _, q⟩ := hs
    exact q.elim
  · obtain ⟨_, _, _, q⟩ := hs
    exact q.elim
  · obtain ⟨v, σ', H', J, rv, q⟩ := hs
    exact fin J rv q
end

section
variable {X : Cx} {k : Nat} {f : Addr} {fd : FuncData} {ps ks : List Str} {sp : Sp} {x : Str} {p pos : Pos} {e : Expr} {es : List Expr} {t tk : TA} {kws : List Keyword}
theorem run_g {pins : List (Addr × Obj)} {σ : L2.St} {H : Hp} {s : Shared} {Q : VK} {args : Args} {us : List Value} {vs : List V}
    (F : FnG X.prog X.w X.K X.mg X.base k f fd ps sp) (hg : X.A.guards = some []) (hr : Room k X.A)
    (hb : BindsTo s fd args (ps.zip us)) (I : Inv X pins σ H s) (r : Vals vs us) (h : sp vs H Q E0) :
    codeAny (model X.prog X.w) X.A (.call (.ref f) args) (fun r s' => match r with | .ok (.ret v) => EP X pins σ Q v s' | .ok _ => False | .error e => X.xe e s') s := by
  refine codeAny_mono (F.runG X.A X.stack s H args us vs Q hg hr I.env0 hb r h) ?_
  rintro (e | fl) s' hq
  · exact (show False from hq).elim
  · cases fl with
    | ret u => exact I.after hq
    | next => exact (show False from hq).elim
    | brk => exact (show False from hq).elim
    | cont => exact (show False from hq).elim
/-- f(..), the parameters all given by position -/
theorem pe_callG (F : FnG X.prog X.w X.K X.mg X.base k f fd ps sp) (hgu : X.A.guards = some []) (hr : Room k X.A) (hg : Gl X x) (hm : X.mg x = some (.ref f))
    (hk : PySem.W.keepIn X.K (.ref f) = true) (hb : Binds X.K fd ps []) (ha : PA X (e :: es) t) (hdb : (x == ("__debug__" : Str)) = false := by decide)
    (he : starEach (e :: es) X.env = (false, eval e X.env) :: starEach es X.env := by rfl)
    (hpl : (backTo pos (starEach es X.env)).any (·.1) = false := by rfl) :
    PE X (.Call (.Name x p) (e :: es) [] pos) (tCall sp [] E0 t) := by
  constructor
  intro pins s σ H Q I h
  refine wpAny_Call_Name_kw (ld_glob I hg hm ?_ hdb)
  refine PySem.W.callWith_K (h₀ := X.base) I.ok.mod.kin hk (thn (ha.run pos pins s σ H _ I h) ?_) he hpl
  intro us s1 ⟨vs, H1, I1, r, q⟩
  have q' : sp vs H1 Q E0 := by
    have q0 : sp (vs ++ []) H1 Q E0 := q
    rw [List.append_nil] at q0
    exact q0
  have hl : (us ++ []).length = ps.length := by rw [List.append_nil, ← r.length]; exact F.lenG _ _ _ _ q'
  refine ⟨I1.kIn, wpAny_call (run_g F hgu hr ?_ I1 r q')⟩
  have hb1 := hb s1 us I1.kIn hl
  rw [List.append_nil] at hb1
  exact hb1
theorem pe_callG0 (F : FnG X.prog X.w X.K X.mg X.base k f fd ps sp) (hgu : X.A.guards = some []) (hr : Room k X.A) (hg : Gl X x) (hm : X.mg x = some (.ref f))
    (hk : PySem.W.keepIn X.K (.ref f) = true) (hb : Binds X.K fd ps []) (hdb : (x == ("__debug__" : Str)) = false := by decide) :
    PE X (.Call (.Name x p) [] [] pos) (tCall sp [] E0 tNil) := by
  constructor
  intro pins s σ H Q I h
  refine wpAny_Call_Name_kw (ld_glob I hg hm ?_ hdb)
  refine PySem.W.callWith_K0 I.kIn hk ?_
  have q' : sp [] H Q E0 := h
  have hl : (([] : List Value) ++ []).length = ps.length := by rw [List.append_nil]; exact F.lenG _ _ _ _ q'
  exact wpAny_call (run_g F hgu hr (hb s [] I.kIn hl) I .nil q')
/-- how keywords alone bind: the values are put in the parameters' order by pm -/
structure KB (K : PySem.W.Frag) (fd : FuncData) (ps ks : List Str) : Prop where
  toK : ∀ (s : Shared) (ws : List Value), K.In s.heap → ws.length = ps.length → BindsTo s fd ⟨[], ks.zip ws⟩ (ps.zip ws)
/-- f(k = v, ..), the keywords in the parameters' order -/
theorem pe_kwG (F : FnG X.prog X.w X.K X.mg X.base k f fd ps sp) (hgu : X.A.guards = some []) (hr : Room k X.A) (hg : Gl X x) (hm : X.mg x = some (.ref f))
    (hk : PySem.W.keepIn X.K (.ref f) = true) (hb : KB X.K fd ps ks) (hkw : PK X kws tk) (hall : (backToKw pos (keywordEach kws X.env)).all (·.1.isSome) = true := by rfl)
    (hks : (backToKw pos (keywordEach kws X.env)).filterMap (·.1) = ks := by rfl) (hdb : (x == ("__debug__" : Str)) = false := by decide)
    (hpl : ((backTo pos (starEach [] X.env)).any (·.1) || (backToKw pos (keywordEach kws X.env)).any (·.1.isNone)) = false := by rfl) :
    PE X (.Call (.Name x p) [] kws pos) (tCall sp [] E0 tk) := by
  constructor
  intro pins s σ H Q I h
  refine wpAny_Call_Name_kw (ld_glob I hg hm ?_ hdb)
  refine PySem.W.callWith_KW0 (h₀ := X.base) I.ok.mod.kin hk hall (thn (hkw.run pos pins s σ H _ I h) ?_) hpl
  intro ws s1 ⟨zs, H1, I1, r, q⟩
  have q' : sp zs H1 Q E0 := by
    have q0 : sp (zs ++ []) H1 Q E0 := q
    rw [List.append_nil] at q0
    exact q0
  rw [hks]
  exact ⟨I1.kIn, wpAny_call (run_g F hgu hr (hb.toK s1 ws I1.kIn (by rw [← r.length]; exact F.lenG _ _ _ _ q')) I1 r q')⟩
end

/-! ### repr of data -/
section
variable {X : Cx}
def rRepr (K : PySem.W.Frag) : List V → Hp → VK → Prop := fun xs H Q => ∃ x d, xs = [x] ∧ Dp K H x d ∧ d.showable = true ∧ d.hasDict = false ∧ d.depth ≤ 60 ∧ d.shown.length ≤ sizeLine ∧ Q (.str d.shown) H
theorem call_repr (hgu : X.A.guards = some []) (hu : X.A.units + 64 < cLine) : CallR X (.builtin "repr") (rRepr X.K) := by
  intro pins s σ H xs us Q I r h
  obtain ⟨x, d, rfl, hd, hs, hnd, hdp, hz, q⟩ := h
  obtain ⟨u, rfl, rx⟩ := vals1 r
  have hsm : ∀ as : List Addr, d.hasDict = true → sysModules ∉ as := fun as e => by
    rw [hnd] at e
    cases e
  obtain ⟨as, rd⟩ := Dp.reads I d x u hd rx
  cases hd with
  | non =>
    obtain rfl : u = Value.none := rx
    exact PySem.P.repr_of_none ⟨.str _, H, I.tok _, ⟨_, rfl⟩, q⟩
  | bl b =>
    obtain rfl : u = Value.bool b := rx
    exact PySem.P.repr_of_bool ⟨.str _, H, I.tok _, ⟨_, rfl⟩, by simpa only [PyData.shown] using q⟩
  | int i =>
    obtain ⟨t, rfl⟩ := rx
    exact PySem.P.repr_of_int (by simpa [PyData.showable] using hs) ⟨.str _, H, I.tok _, ⟨_, rfl⟩, by simpa only [PyData.shown] using q⟩
  | str y =>
    obtain ⟨t, rfl⟩ := rx
    exact PySem.P.repr_of_str ⟨.str _, H, I.tok _, ⟨_, rfl⟩, by simpa only [PyData.shown] using q⟩ (by simpa only [PyData.shown] using hz)
  | lst =>
    rename_i a _ _ _ _
    obtain rfl : u = Value.ref a := rx
    exact repr_of_reads' (h₀ := s.heap) rd hs (hsm as) hgu (by omega) (fun _ _ e => e) (fun h' v tk hk => ⟨.str _, H, I.kept hk, ⟨v, rfl⟩, q⟩) hz
  | tup =>
    rename_i a _ _ _ _
    obtain rfl : u = Value.ref a := rx
    exact repr_of_reads' (h₀ := s.heap) rd hs (hsm as) hgu (by omega) (fun _ _ e => e) (fun h' v tk hk => ⟨.str _, H, I.kept hk, ⟨v, rfl⟩, q⟩) hz
end

/-! ### the script + a list -/
/-- a list that stands with no dict and no slots of its own -/
def Bare (K : PySem.W.Frag) (H : Hp) (a : Addr) (xs : List V) : Prop :=
  (∃ (us : List Value) (n : Nat), H a = some (.frz { cls := .type "list", data := .seq us.toArray n } (.lst xs))) ∨
  (∃ (us : List Value) (n : Nat), K.lookup a = some { cls := .type "list", data := .seq us.toArray n } ∧ Vals xs us)
theorem Bare.seq {K : PySem.W.Frag} {H : Hp} {a : Addr} {xs : List V} (hz : xs.length ≤ sizeLine) (h : Bare K H a xs) : SqL K H a xs := by
  rcases h with ⟨us, n, e⟩ | ⟨us, n, e, r⟩
  · exact .inl (.inr ⟨_, e⟩)
  · refine .inr ⟨_, us.toArray, n, e, rfl, rfl, rfl, ?_, by simpa using r⟩
    rw [List.size_toArray, ← r.length]
    exact hz
theorem Bare.keep {K : PySem.W.Frag} {H H' : Hp} {a : Addr} {xs : List V} (h : Bare K H a xs) (e : Same H H') : Bare K H' a xs := by
  rcases h with ⟨us, n, q⟩ | h
  · exact .inl ⟨us, n, e _ _ q⟩
  · exact .inr h
section
variable {X : Cx}
def rCatS (K : PySem.W.Frag) : R2 := fun x y H Q => ∃ l b xs zs, x = .ref l ∧ y = .ref b ∧ Bare K H l xs ∧ H b = some (.lst zs) ∧ xs.length + zs.length ≤ sizeLine ∧
  ∀ p, H p = none → Q (.ref p) (upd H p (.lst (xs ++ zs)))
theorem op_catS : OpR X (binaryOp .Add) (rCatS X.K) := by
  intro pins s σ H x y v u Q I rx ry h
  obtain ⟨l, b, xs, zs, rfl, rfl, hl, hb, hz, q⟩ := h
  obtain rfl : v = Value.ref l := rx
  obtain rfl : u = Value.ref b := ry
  obtain ⟨z2, its2, n2, r2, hl2, e2⟩ := I.lstM hb
  have hfin : ∀ (its : List Value) (n : Nat), Vals xs its → s.heap.get? l = some { cls := .type "list", data := .seq its.toArray n } →
      wpAny (model X.prog X.w) X.A (binaryOp .Add (.ref l) (.ref b)) (EP X pins σ Q) X.xe s := by
    intro its n r e
    have hln := r.length
    refine PySem.P.add_list e e2 ?_ (by rw [List.size_toArray, List.size_toArray]; omega)
    rw [show its.toArray ++ its2.toArray = (its ++ its2).toArray by simp]
    exact ⟨.ref _, _, I.lnew (t' := s.toks) (r.append r2) (by rw [List.length_append]; exact hz), rfl, q _ I.fresh⟩
  rcases hl with ⟨us, n, e⟩ | ⟨us, n, e, r⟩
  · obtain ⟨e1, _, its, m, r, e3⟩ := I.hok l _ e
    rw [e1] at e3
    cases e3
    exact hfin _ _ r e1
  · exact hfin us n r (I.kIn l _ e)
end

/-! ### the end -/
/-- the law's own head, with the marks known and the script told to be bare -/
theorem enterG {P : Program} {w : World} {K : PySem.W.Frag} {mg mb : Str → Option Value} {k : Nat} {fa a : Addr} {fd : FuncData} {x : Str} {sp : Sp} {s₁ : Shared} {vs : List Value} {ns : List Int}
    (KX : K.In s₁.heap) (hns : s₁.heap.Ns mainGlobals mg) (hb : s₁.heap.Ns builtinsNs mb) (hbb : ∀ x : Str, x ≠ "__name__" → mb x = bootBuiltins x)
    (hlim : s₁.heap.NoLimit) (hg : s₁.gens = #[]) (ha : s₁.heap.get? a = some { cls := .type "list", data := .seq vs.toArray })
    (hi : IntsAre vs ns) (hl : ns.length ≤ sizeLine) (hr : Room k callerA)
    (F : ∀ base : Heap, K.In base → base.Ns mainGlobals mg → FnG P w K mg base k fa fd [x] sp)
    (hbind : ∀ (s : Shared) (u : Value), BindsTo s fd ⟨[u], []⟩ [(x, u)])
    (hsp : ∀ H : Hp, Bare K H a (ns.map V.int) → sp [.ref a] H (fun v _ => v = .bl true) E0) :
    codeAny (model P w) callerA (.call (.ref fa) ⟨[.ref a], []⟩)
      (fun r s' => r = .ok (.ret (.bool true)) ∧ OldK s₁.heap s'.heap ∧ s'.os = s₁.os ∧ AllBare s'.gens) s₁ := by
  have rv := vals_ints hi
  have nV := hi.length
  have core : ∀ H : Hp, Only H → Bare K H a (ns.map V.int) → HOk P w H s₁.heap → (∀ b, H b ≠ none → b = a) → (H a ≠ none → K.lookup a = none) →
      codeAny (model P w) callerA (.call (.ref fa) ⟨[.ref a], []⟩)
        (fun r s' => r = .ok (.ret (.bool true)) ∧ OldK s₁.heap s'.heap ∧ s'.os = s₁.os ∧ AllBare s'.gens) s₁ := by
    intro H hO hS hok hA hK
    have only_a : ∀ {b : Addr} {u : HO}, H b = some u → b = a := fun {b u} q => hA b (by rw [q]; simp)
    have un : ∀ {b : Addr} {o : Obj} {es : Array DictEntry} {ep : Nat}, s₁.heap.get? b = some o → o.data = .dict es ep → H b = none := by
      intro b o es ep e d
      cases q : H b with
      | none => rfl
      | some u =>
        have e' := only_a q
        rw [e', ha] at e
        cases e
        exact nomatch (show Data.seq vs.toArray _ = Data.dict es ep from d)
    have nsB : ∀ {b : Addr} {m : Str → Option Value}, s₁.heap.Ns b m → (hidT s₁.heap H).Ns b m :=
      fun {b m} ⟨o, es, ep, e, d, r⟩ => ⟨o, es, ep, hidT_get e (un e d), d, r⟩
    have inB : K.In (hidT s₁.heap H) := by
      intro b o e
      refine hidT_get (KX b o e) ?_
      cases q : H b with
      | none => rfl
      | some u =>
        have e' := only_a q
        rw [e', hK (by rw [← e', q]; simp)] at e
        cases e
    have md : Mod K mg (hidT s₁.heap H) := ⟨inB, nsB hns, ⟨mb, nsB hb, hbb⟩, let ⟨mc, h1, h2⟩ := hlim; ⟨mc, nsB h1, h2⟩⟩
    have e0 : Env0 P w K mg (hidT s₁.heap H) callerA [] s₁ H :=
      ⟨rfl, md, fun b o e => of_hidT e, Nat.le_of_eq (hidT_size _ _), trivial, fun b z => absurd (show b ∈ ([] : List Addr) from z) (by simp), hok, .of_eq hg⟩
    refine codeAny_mono ((F _ inB (nsB hns)).runG callerA [] s₁ H ⟨[.ref a], []⟩ [.ref a] [.ref a] _ rfl hr e0 (hbind s₁ (.ref a)) (.cons rfl .nil) (hsp H hS)) ?_
    rintro (e | fl) s' h
    · exact (show False from h).elim
    · cases fl with
      | next => exact (show False from h).elim
      | brk => exact (show False from h).elim
      | cont => exact (show False from h).elim
      | ret u =>
        obtain ⟨v, H', os, bare, uu, hok', r', q⟩ := h
        obtain rfl : v = .bl true := q
        obtain rfl : u = Value.bool true := r'
        refine ⟨rfl, OldK.of_keep ?_, os, bare⟩
        intro b o e
        cases q : H b with
        | none => exact uu.keep b o e q (fun z => absurd (show b ∈ ([] : List Addr) from z) (by simp)) (by simp)
        | some u =>
          rcases hO b with z | ⟨ob, xs, z⟩
          · rw [q] at z
            cases z
          · obtain ⟨e1, _⟩ := hok b _ z
            obtain ⟨e2, _⟩ := hok' b _ (uu.frzs b ob _ z)
            rw [e] at e1
            cases e1
            exact e2
  cases hk : K.lookup a with
  | some o =>
    have e := KX a o hk
    rw [ha] at e
    cases e
    exact core (fun _ => none) (fun _ => .inl rfl) (.inr ⟨vs, 0, hk, rv⟩) (fun b u z => nomatch (show (none : Option HO) = some u from z)) (fun b z => absurd rfl z) (fun z => absurd rfl z)
  | none =>
    have hat : ∀ b u, (if b = a then some (HO.frz { cls := .type "list", data := .seq vs.toArray } (.lst (ns.map V.int))) else none) = some u →
        b = a ∧ u = HO.frz { cls := .type "list", data := .seq vs.toArray } (.lst (ns.map V.int)) := by
      intro b u z
      by_cases hb : b = a
      · rw [if_pos hb] at z
        exact ⟨hb, (Option.some.inj z).symm⟩
      · rw [if_neg hb] at z
        cases z
    refine core (fun b => if b = a then some (.frz { cls := .type "list", data := .seq vs.toArray } (.lst (ns.map V.int))) else none) ?_ (.inl ⟨vs, 0, if_pos rfl⟩) ?_ ?_ (fun _ => hk)
    · intro b
      by_cases hb : b = a
      · exact .inr ⟨_, _, if_pos hb⟩
      · exact .inl (if_neg hb)
    · intro b u z
      obtain ⟨rfl, rfl⟩ := hat b u z
      exact ⟨ha, by rw [List.length_map]; exact hl, vs, _, rv, ha⟩
    · intro b z
      cases q : (if b = a then some (HO.frz { cls := .type "list", data := .seq vs.toArray } (.lst (ns.map V.int))) else none) with
      | none => exact absurd q z
      | some u => exact (hat b u q).1

/-- what the last theorem takes -/
theorem walkG {l : PySem.W.OpenLaw} {k : Nat} {q : Program} {loose : List Str} {XP : (Str → Option Value) → Heap → Prop} {YP : World → Heap → Prop} {d : DefRec} {K : Params → PySem.W.Frag} {sp : PySem.W.Frag → Sp} {x : Str}
    (hn : l.most = some 63) (hdf : d.params.defaults = []) (hr : Room k callerA) (hY : ∀ (w : World) (h : Heap), YP w h → (K w.params).In h)
    (F : ∀ (w : World) (mg : Str → Option Value) (fa : Addr) (h : Heap), (K w.params).In h → h.Ns mainGlobals mg → mg d.name = some (.ref fa) →
      ∃ fd : FuncData, (∀ (s : Shared) (u : Value), BindsTo s fd ⟨[u], []⟩ [(x, u)]) ∧
        ∀ base : Heap, (K w.params).In base → base.Ns mainGlobals mg → FnG l.prog w (K w.params) mg base k fa fd [x] (sp (K w.params)))
    (hsp : ∀ (K : PySem.W.Frag) (H : Hp) (a : Addr) (ns : List Int), ns.length ≤ 63 → Bare K H a (ns.map V.int) → sp K [.ref a] H (fun v _ => v = .bl true) E0) :
    PySem.W.WalkO q loose XP YP l.row.toRowW d [] (fun f vs => PySem.call f vs) := by
  refine Att.attach_call hn hdf ?_
  intro w s₀ s₁ mg mb fa o pm cd doc a vs ns G Y ho hd hcd hmg hobj hints hlen hg
  have KX := hY w _ Y
  obtain ⟨fd, hb, hF⟩ := F w mg fa _ KX G.T.g hmg
  exact enterG KX G.T.g G.T.b G.T.builtins G.T.nolimit hg hobj hints (Nat.le_trans hlen (by decide)) hr hF hb (fun H hS => hsp (K w.params) H a ns hlen hS)
end Pk

/-! ## Comprehensions whose element has a value that the heap does not change -/
namespace Pk
open PySem PySem.Spec PyProof.Rows L2
theorem posI {j : Int} (h : decide (0 < j) = true) : 0 < j := of_decide_eq_true h
theorem one_more {α : Type} {xs : List α} {i : Nat} {a : α} (h : xs[i]? = some a) : xs.take (i + 1) = xs.take i ++ [a] := by
  rw [List.take_add_one, h]
  rfl
theorem same_upd {H1 H : Hp} {D : Addr} {o : HO} (s : Same H1 H) (hD : H1 D = none) : Same H1 (upd H D o) := fun b u e => by
  rw [upd_ne (ne_of_none e hD)]
  exact s b u e
theorem same_new {H : Hp} {p : Addr} {o : HO} (h : H p = none) : Same H (upd H p o) := same_upd (Same.refl H) h
theorem lc_map {α : Type} {J : It} {n : Nat} {G : Hp → Prop} {Y : Nat → Hp → V → Hp → Prop} (w : Walk J n G Y) (xs : List α) (emb : α → V) (hn : n = xs.length)
    (hY : ∀ i H x H', Y i H x H' → H' = H ∧ ∃ a, xs[i]? = some a ∧ x = emb a)
    {g : TG} {tt : TT} {te : TE} {vs : List Nat} {σ : L2.St} {H1 : Hp} {D : Addr} {Qd : Hp → Prop} (p : α → Bool) (f : α → V) (hD : H1 D = none) (hz : n < sizeLine) (hG : ∀ H, Same H1 H → G H)
    (hs : ∀ a, a ∈ xs → ∀ (H : Hp) (R : VK) (S : Hp → Prop), Same H1 H → (p a = true → ∀ H', Same H H' → R (f a) H') → (p a = false → ∀ H', Same H H' → S H') →
      g (emb a) (wipe σ vs) H fun σ2 H2 => wipe σ2 vs = wipe σ vs ∧ tt σ2 H2 fun b H3 => if b = true then te σ2 H3 R else S H3)
    (hd : ∀ H, Same H1 H → H D = some (.lst ((xs.filter p).map f)) → Qd H) :
    ∃ W : Nat → Nat → Hp → Prop, (∃ m, W 0 m (upd H1 D (.lst []))) ∧ ∀ i m H, W i m H →
      (J.stop i H ∧ Qd H) ∨ (J.go i H ∧ ∃ Nx : Hp → Prop, (∀ H', Nx H' → ∃ m', m' < m ∧ W (i + 1) m' H') ∧
        ∀ x H', J.yld i H x H' → g x (wipe σ vs) H' fun σ2 H2 => wipe σ2 vs = wipe σ vs ∧ tt σ2 H2 fun b H3 =>
          if b = true then te σ2 H3 fun y H4 => ∃ acc, H4 D = some (.lst acc) ∧ acc.length < sizeLine ∧ Nx (upd H4 D (.lst (acc ++ [y]))) else Nx H3) := by
  refine lc_it w (fun i H => Same H1 H ∧ H D = some (.lst (((xs.take i).filter p).map f))) ⟨same_new hD, by rw [upd_same]; rfl⟩ (fun i H _ h => hG H h.1) ?_ ?_
  · rintro i x H H' hi ⟨s, hl⟩ y
    obtain ⟨rfl, a, ha, rfl⟩ := hY _ _ _ _ y
    have hlen : (((xs.take i).filter p).map f).length < sizeLine := by
      refine Nat.lt_of_le_of_lt ?_ hz
      rw [List.length_map]
      refine Nat.le_trans (List.length_filter_le _ _) ?_
      rw [List.length_take]
      omega
    refine hs a (List.mem_of_getElem? ha) H' _ _ s (fun hp H4 s4 => ?_) (fun hp H4 s4 => ?_)
    · refine ⟨_, s4 _ _ hl, hlen, same_upd (s.trans s4) hD, ?_⟩
      rw [upd_same, one_more ha, List.filter_append, List.map_append]
      simp [hp]
    · refine ⟨s.trans s4, ?_⟩
      rw [s4 _ _ hl, one_more ha, List.filter_append, List.map_append]
      simp [hp]
  · rintro H ⟨s, hl⟩
    refine hd H s ?_
    rw [hl, hn, List.take_length]
/-- over a text -/
theorem lc_txt {z : Str} {g : TG} {tt : TT} {te : TE} {vs : List Nat} {σ : L2.St} {H1 : Hp} {D : Addr} {Qd : Hp → Prop} (p : Nat → Bool) (f : Nat → V) (hD : H1 D = none) (hz : z.length < sizeLine)
    (hs : ∀ c, c ∈ z.cps.toList → ∀ (H : Hp) (R : VK) (S : Hp → Prop), Same H1 H → (p c = true → ∀ H', Same H H' → R (f c) H') → (p c = false → ∀ H', Same H H' → S H') →
      g (.str ⟨#[c]⟩) (wipe σ vs) H fun σ2 H2 => wipe σ2 vs = wipe σ vs ∧ tt σ2 H2 fun b H3 => if b = true then te σ2 H3 R else S H3)
    (hd : ∀ H, Same H1 H → H D = some (.lst ((z.cps.toList.filter p).map f)) → Qd H) :
    ∃ W : Nat → Nat → Hp → Prop, (∃ m, W 0 m (upd H1 D (.lst []))) ∧ ∀ i m H, W i m H →
      ((Its z).stop i H ∧ Qd H) ∨ ((Its z).go i H ∧ ∃ Nx : Hp → Prop, (∀ H', Nx H' → ∃ m', m' < m ∧ W (i + 1) m' H') ∧
        ∀ x H', (Its z).yld i H x H' → g x (wipe σ vs) H' fun σ2 H2 => wipe σ2 vs = wipe σ vs ∧ tt σ2 H2 fun b H3 =>
          if b = true then te σ2 H3 fun y H4 => ∃ acc, H4 D = some (.lst acc) ∧ acc.length < sizeLine ∧ Nx (upd H4 D (.lst (acc ++ [y]))) else Nx H3) :=
  lc_map (walk_str (z := z)) z.cps.toList (fun c => .str ⟨#[c]⟩) (by simp) (fun i H x H' ⟨e, c, h1, h2⟩ => ⟨e, c, by simpa using h1, h2⟩) p f hD hz (fun _ _ => trivial) hs hd
/-- over a list -/
theorem lc_lst {α : Type} {K : PySem.W.Frag} {a : Addr} (xs : List α) (emb : α → V) {g : TG} {tt : TT} {te : TE} {vs : List Nat} {σ : L2.St} {H1 : Hp} {D : Addr} {Qd : Hp → Prop} (p : α → Bool) (f : α → V) (hD : H1 D = none) (hz : xs.length < sizeLine)
    (ha : SqL K H1 a (xs.map emb))
    (hs : ∀ c, c ∈ xs → ∀ (H : Hp) (R : VK) (S : Hp → Prop), Same H1 H → (p c = true → ∀ H', Same H H' → R (f c) H') → (p c = false → ∀ H', Same H H' → S H') →
      g (emb c) (wipe σ vs) H fun σ2 H2 => wipe σ2 vs = wipe σ vs ∧ tt σ2 H2 fun b H3 => if b = true then te σ2 H3 R else S H3)
    (hd : ∀ H, Same H1 H → H D = some (.lst ((xs.filter p).map f)) → Qd H) :
    ∃ W : Nat → Nat → Hp → Prop, (∃ m, W 0 m (upd H1 D (.lst []))) ∧ ∀ i m H, W i m H →
      ((Itl K a).stop i H ∧ Qd H) ∨ ((Itl K a).go i H ∧ ∃ Nx : Hp → Prop, (∀ H', Nx H' → ∃ m', m' < m ∧ W (i + 1) m' H') ∧
        ∀ x H', (Itl K a).yld i H x H' → g x (wipe σ vs) H' fun σ2 H2 => wipe σ2 vs = wipe σ vs ∧ tt σ2 H2 fun b H3 =>
          if b = true then te σ2 H3 fun y H4 => ∃ acc, H4 D = some (.lst acc) ∧ acc.length < sizeLine ∧ Nx (upd H4 D (.lst (acc ++ [y]))) else Nx H3) :=
  lc_map (walk_list (K := K) (a := a) (xs := xs.map emb)) xs emb (by simp)
    (fun i H x H' ⟨e, h⟩ => ⟨e, by
      rw [List.getElem?_map] at h
      cases q : xs[i]? with
      | none =>
        rw [q] at h
        cases h
      | some c =>
        rw [q] at h
        exact ⟨c, rfl, (Option.some.inj h).symm⟩⟩) p f hD (by simpa using hz) (fun H s => s.seq ha) hs hd
end Pk

/-! ## Operators, str and construction of instances with a dict; enumerate over a tuple -/
namespace Pk
open PySem PySem.Spec PyProof.Rows L2
open SlX (cmpback)
section
variable {X : Cx} {k n : Nat} {f C g : Addr} {fd : FuncData} {ps : List Str} {sp : Sp} {E : XK} {CX : CXT}
/-- x op y, both instances of the class at C, whose def for op is at g -/
def rOwnD (C : Addr) (sp : Sp) (E : XK) : R2 := fun x y H Q => ∃ a dx fs b dy gs, x = .ref a ∧ y = .ref b ∧ H a = some (.ins C dx fs) ∧ H b = some (.ins C dy gs) ∧ sp [x, y] H Q E
theorem op_ownD {op : CmpOp} (hop : ∀ a b, compareOp op a b = richCompare op a b) (hs : PySem.W.findIn X.K (.ref C) (cmpInfo op).2.1 = some (some (.ref g)))
    (hf : PySem.W.isFn X.K (.ref g) = true) (hn : PySem.W.notFirst X.K C (.ref C) = true) (F : FnR X.prog X.w X.K X.mg X.base CX n g sp) (hr : Room n X.A) (hx : Passes CX X E) : OpR X (compareOp op) (rOwnD C sp E) := by
  intro pins s σ H x y v u Q I rx ry h
  obtain ⟨a, dx, fs, b, dy, gs, rfl, rfl, ha, hb, q⟩ := h
  obtain rfl : v = Value.ref a := rx
  obtain rfl : u = Value.ref b := ry
  obtain ⟨mA, O, _⟩ := ins_get I.hok ha
  obtain ⟨od, J, _⟩ := O.look
  obtain ⟨mB, O', _⟩ := ins_get I.hok hb
  obtain ⟨od', J', _⟩ := O'.look
  obtain ⟨m, hF⟩ := I.fr
  rw [hop]
  refine PySem.W.cmp_K (op := op) (tb := .ref C) hr.units0 hF I.ok.mod.kin J J'.type hn hs hf (wpAny_mono (wpAny_call (run_fnR (us := [.ref a, .ref b]) (vs := [.ref a, .ref b]) F hr hx I (.cons rfl (.cons rfl .nil)) q)) ?_ (fun _ _ x => x))
  rintro w s' ⟨z', H', I', rz, qz⟩
  exact cmpback rz ⟨z', H', I', rz, qz⟩
/-- str(x) of an instance -/
def rStrD (C : Addr) (sp : Sp) (E : XK) : List V → Hp → VK → Prop := fun xs H Q => ∃ a dx fs, xs = [.ref a] ∧ H a = some (.ins C dx fs) ∧ sp [.ref a] H (fun z H' => ∃ t, z = .str t ∧ Q z H') E
theorem call_strD (hs : PySem.W.findIn X.K (.ref C) "__str__" = some (some (.ref g))) (hf : PySem.W.isFn X.K (.ref g) = true) (F : FnR X.prog X.w X.K X.mg X.base CX n g sp) (hr : Room (n + 2) X.A) (hx : Passes CX X E) :
    CallR X (.type "str") (rStrD C sp E) := by
  intro pins s σ H xs us Q I r h
  obtain ⟨a, dx, fs, rfl, ha, q⟩ := h
  obtain ⟨u, rfl, ru⟩ := vals1 r
  obtain rfl : u = Value.ref a := ru
  obtain ⟨mA, O, _⟩ := ins_get I.hok ha
  obtain ⟨od, J, _⟩ := O.look
  have hr1 : Room (n + 1) X.A.in1 := Room.in1 hr
  have hr2 : Room n X.A.in1.in1 := hr1.in1
  refine PySem.W.kso_call hr2.units0 I.kIn J hs hf (wpAny_mono (wpAny_call (SlX.run_at (us := [.ref a]) (ws := [.ref a]) F hr2 I.env0.in1.in1 hx I (.cons rfl .nil) q)) ?_ (fun _ _ x => x))
  rintro w s' ⟨z', H', I', rz, t, rfl, qz⟩
  obtain ⟨tk, rfl⟩ := (show ∃ t', w = Value.str t t' from rz)
  exact ⟨.str t, H', I', ⟨tk, rfl⟩, qz⟩
/-- c(..), c a local name that holds the class at C -/
theorem pe_makeL {i : Nat} {x : Str} {p pos : Pos} {e : Expr} {es : List Expr} {t : TA} (M : Mk X.K C f) (F : FnOk X.prog X.w X.K X.mg X.base CX k f fd ps sp) (hr : Room (k + 1) X.A) (hN : X.N[i]? = some x) (hv : Vis X.env.scope x)
    (hb : Binds X.K fd ps []) (hx : Passes CX X E) (ha : PA X (e :: es) t) (hd : (x == ("__debug__" : Str)) = false := by decide) (hcd : (x == ("__classdict__" : Str)) = false := by decide)
    (he : starEach (e :: es) X.env = (false, eval e X.env) :: starEach es X.env := by rfl) (hpl : (backTo pos (starEach es X.env)).any (·.1) = false := by rfl) :
    PE X (.Call (.Name x p) (e :: es) [] pos) (fun σ H Q => σ[i]? = some (some (.ref C)) ∧ tMake C sp [] E t σ H Q) := by
  constructor
  intro pins s σ H Q I h
  obtain ⟨h1, h2⟩ := h
  refine wpAny_Call_Name_kw (thn ((pe_var hN hv hd hcd).run pins s σ H (fun v H' => v = .ref C ∧ H' = H) I ⟨.ref C, h1, rfl, rfl⟩) ?_)
  rintro u s1 ⟨v, H1, I1, rv, rfl, rfl⟩
  obtain rfl : u = Value.ref C := rv
  refine PySem.W.callWith_K (h₀ := X.base) I1.ok.mod.kin M.kp (thn (ha.run pos pins s1 σ H1 _ I1 h2) ?_) he hpl
  intro us s2 ⟨vs, H2, I2, r, q⟩
  exact ⟨I2.kIn, run_make M F hr hb .nil hx I2 r q⟩
end

/-! ### enumerate over a tuple -/
/-- the tuple at a, each item in a new pair -/
def ItT (K : PySem.W.Frag) (a : Addr) : It :=
  ⟨fun i H => ∃ (xs : List V) (x : V), SqT K H a xs ∧ xs[i]? = some x,
   fun i H v H' => ∃ T x, v = .ref T ∧ H T = none ∧ H' = upd H T (.tup [.int (i : Nat), x]) ∧ ∀ xs, SqT K H a xs → xs[i]? = some x,
   fun i H => ∃ xs : List V, SqT K H a xs ∧ xs.length = i⟩
theorem turn_enT {P : Program} {w : World} {K : PySem.W.Frag} {elts : List Expr} {kk : Nat} {tpos : Pos} (a e it : Addr) :
    Turn P w K (.Tuple elts kk tpos) (ItT K a) [e, it] e (fun i h => (∃ old, IsEnum h e it ((i : Nat) : Int) old) ∧ h.IsTupleIter it a i ∧ e ≠ it ∧ a ≠ it ∧ e ≠ a) where
  mem := by simp
  obj := by
    rintro i h ⟨⟨old, he⟩, ⟨o, ho, hc, hd⟩, _⟩ b hb
    rcases (show b = e ∨ b = it by simpa using hb) with rfl | rfl
    · exact ⟨_, he, fun v q => nomatch q⟩
    · exact ⟨o, ho, fun v q => by rw [hd] at q; cases q⟩
  keep := by
    rintro i h h' ⟨⟨old, he⟩, hi, hne⟩ k
    exact ⟨⟨old, k e (by simp) _ he⟩, hi.at fun o q => k it (by simp) o q, hne⟩
  item := by
    intro X hP hw hK hc i pins s σ H E I hf st hg
    subst hP hw hK
    obtain ⟨⟨old, he⟩, hit, hne, hai, hea⟩ := st
    obtain ⟨xs, x, hq, hx⟩ := hg
    obtain ⟨its, rv, ht, hz⟩ := I.tuple hq
    obtain ⟨u, hu, ru⟩ := rv.get hx
    have hlt : i < its.toArray.size := by
      have h1 := (List.getElem?_eq_some_iff.mp hu).1
      simpa using h1
    have hel : e < s.heap.objs.size := Heap.lt_size he
    have hil : it < s.heap.objs.size := by
      obtain ⟨_, q, _⟩ := hit
      exact Heap.lt_size q
    have D := Draws.tuple (prog := X.prog) (w := X.w) (A := X.A.in1) (I.ok.hd hc) it a hai its.toArray
    refine wpAny_pyNext_enum_itemD D he ⟨hit, ht⟩ hlt hne (by simp [hne, hea]) ?_
    intro y h' tk hy ho hst hT hsz hk
    obtain rfl : u = y := by
      have h1 : its[i]? = some y := by simpa using hy
      rw [hu] at h1
      exact Option.some.inj h1
    refine ⟨_, rfl, wpAny_letOwnedTupleGo_enum (s := { s with heap := h', toks := tk + 1 }) ho ?_⟩
    intro h'' he' sb
    have hT2 := (sb.2 _ (Nat.ne_of_gt hel)).trans hT
    have new : ObjOk X.prog X.w (upd H s.heap.objs.size (.tup [.int (i : Nat), x])) h'' s.heap.objs.size (.tup [.int (i : Nat), x]) :=
      ⟨by show 2 ≤ sizeLine; decide, [.int i tk, u], .cons ⟨_, rfl⟩ (.cons ru .nil), ⟨_, hT2, rfl, _, rfl⟩⟩
    have hk2 : ∀ b ob, b ∉ [e, it] → s.heap.get? b = some ob → h''.get? b = some ob := by
      intro b ob hb q
      have n1 : b ≠ e := fun z => hb (by simp [z])
      have n2 : b ≠ it := fun z => hb (by simp [z])
      exact (sb.2 b n1).trans (hk b ob n1 n2 q)
    have I1 : Inv X pins σ (upd H s.heap.objs.size (.tup [.int (i : Nat), x])) { s with heap := h'', toks := tk + 1 } :=
      I.turnedNew (ch := [e, it]) hk2 hf (Nat.le_refl _) new
    refine ⟨.ref s.heap.objs.size, _, I1, rfl, ⟨_, x, rfl, I.fresh, rfl, ?_⟩, ⟨⟨u, ?_⟩, hst.1.at (fun o q => (sb.2 it (Ne.symm hne)).trans q), hne, hai, hea⟩, ?_⟩
    · intro ys hys
      rw [I.tuple_inj hys hq]
      exact hx
    · rw [show ((i + 1 : Nat) : Int) = (i : Int) + 1 by omega]
      exact he'
    · intro b hb
      have hb' : b < s.heap.objs.size := by
        rcases (show b = e ∨ b = it by simpa using hb) with rfl | rfl
        · exact hel
        · exact hil
      rw [upd_ne (Nat.ne_of_lt hb')]
      exact (hf b hb).1
  done := by
    intro X hP hw hK hc i pins s σ H E I hf st hg
    subst hP hw hK
    obtain ⟨⟨old, he⟩, hit, hne, hai, hea⟩ := st
    obtain ⟨xs, hq, hx⟩ := hg
    obtain ⟨its, rv, ht, hz⟩ := I.tuple hq
    obtain ⟨f0, f1, f2, f3, f4, f5⟩ := hf it (by simp)
    have hln := rv.length
    have D := Draws.tuple (prog := X.prog) (w := X.w) (A := X.A.in1) (I.ok.hd hc) it a hai its.toArray
    have ei : i = its.toArray.size := by
      rw [List.size_toArray, ← hln]
      exact hx.symm
    rw [ei] at hit
    refine wpAny_pyNext_enum_endD D he ⟨hit, ht⟩ ?_
    intro h' eb
    exact ⟨rfl, I.turned (t' := s.toks) (fun b o hb q => eb b o hb q) f0 f1 f3 f4 f5⟩
  self := by
    rintro A i s Q E ⟨⟨_, he⟩, _⟩ h
    exact wpAny_pyIter_enum he h
/-- the making of enumerate(v), v told by what its iterator is -/
theorem new_enum {v : Value} {o : Obj} {W : Heap → Prop} (B : Begins v o W) :
    Meets (Builtin.«enumerate.__new__» ⟨[.type "enumerate", v], []⟩) (fun _ R s => W s.heap ∧ R (.ok (.ret (.ref (s.heap.push o).objs.size)))
      { s with heap := (s.heap.push o).push { cls := .type "enumerate", data := .fields #[.none, .bool false, .ref s.heap.objs.size, rawInt 0, .none, .none] } }) := by
  refine .of_wp ?_
  rintro prog w A R ⟨hp, g, d, tk, os⟩ ⟨h1, h⟩
  have hsub := sub_enumerate
  have q1 : ∀ {A' : Around} {E : Value → Shared → Prop} {Q : Value → Shared → Prop}, Q (.ref hp.objs.size) ⟨hp.push o, g, d, tk, os⟩ → wpAny (model prog w) A' (pyIter v) Q E ⟨hp, g, d, tk, os⟩ := by
    intro A' E Q q
    exact B.iter prog w _ _ ⟨hp, g, d, tk, os⟩ _ h1 q
  wp_walk using q1
  refine wpAny_stack_any (fun st => wpAny_pure ?_)
  split
  · rename_i c _ _ _ _ _
    cases (c == Value.type "enumerate") <;> (wp_walk using q1; exact ⟨_, rfl, h⟩)
  · wp_walk using q1
    exact ⟨_, rfl, h⟩
theorem call_enum {prog : Program} {w : World} {A : Around} {E : Value → Shared → Prop} {s : Shared} {v : Value} {o : Obj} {W : Heap → Prop} {Q : Value → Shared → Prop} (B : Begins v o W) (h1 : W s.heap)
    (h : ∀ h', IsEnum h' (s.heap.objs.size + 1) s.heap.objs.size 0 .none → h'.get? s.heap.objs.size = some o → (∀ b o, s.heap.get? b = some o → h'.get? b = some o) →
      Q (.ref (s.heap.objs.size + 1)) { s with heap := h' }) : wpAny (model prog w) A (call (.type "enumerate") [v]) Q E s := by
  refine callType_new F.called_enumerate (by decide) (F.typeCall_enumerate_1 _) (F.newCall_enumerate_1 _) (fun obj => F.args_object_init_2 obj _) F.entry_enumerate_new (new_enum B) ⟨h1, ?_⟩
  have hz : (s.heap.push o).objs.size = s.heap.objs.size + 1 := Heap.size_push ..
  show _ ∧ _
  rw [hz]
  have he : IsEnum ((s.heap.push o).push { cls := .type "enumerate", data := .fields #[.none, .bool false, .ref s.heap.objs.size, rawInt 0, .none, .none] }) (s.heap.objs.size + 1) s.heap.objs.size 0 .none := by
    have e1 := Heap.get?_push_size (s.heap.push o) (o := { cls := .type "enumerate", data := .fields #[.none, .bool false, .ref s.heap.objs.size, rawInt 0, .none, .none] }) rfl
    rw [hz] at e1
    exact e1
  exact ⟨⟨_, he, rfl⟩, h _ he (Heap.get?_push_of_some _ (Heap.get?_push_size _ B.free)) (fun b o x => Heap.get?_push_of_some _ (Heap.get?_push_of_some _ x))⟩
def iEnT (K : PySem.W.Frag) (ta : TA) : TI := fun σ H R => ta σ H fun vs H1 => ∃ a xs, vs = [.ref a] ∧ SqT K H1 a xs ∧ R (ItT K a) H1
/-- for i, x in enumerate(a tuple) -/
theorem pi_enT {X : Cx} {e : Expr} {ta : TA} {p pos tpos : Pos} {elts : List Expr} {kk : Nat} (hg : Gl X "enumerate") (hm : X.mg "enumerate" = none) (ha : PA X [e] ta)
    (hs : starEach [e] X.env = [(false, eval e X.env)] := by rfl) : PI X (.Tuple elts kk tpos) (.Call (.Name "enumerate" p) [e] [] pos) (iEnT X.K ta) := by
  constructor
  intro pins s σ H R I h
  refine Call_ (ld_blt I hg hm boot_enumerate (PyProof.Rows.callWith_type1 (thn (ha.run pos pins s σ H _ I h) ?_) hs rfl))
  rintro us s1 ⟨vs, H1, I1, r1, a, xs, rfl, hq, q⟩
  obtain ⟨u, rfl, rx⟩ := vals1 r1
  obtain rfl : u = Value.ref a := rx
  obtain ⟨its, rv, ht, hz⟩ := I1.tuple hq
  refine call_enum (begins_tuple a its.toArray) ht ?_
  intro h' he hit hk
  refine wpAny_pyIter_enum he ?_
  have I2 : Inv X pins σ H1 { s1 with heap := h' } := I1.kept (t' := s1.toks) hk
  have la : a < s1.heap.objs.size := ht.lt
  refine ⟨s1.heap.objs.size + 1, [s1.heap.objs.size + 1, s1.heap.objs.size], _, _, H1, rfl, I2, turn_enT a (s1.heap.objs.size + 1) s1.heap.objs.size,
    ⟨⟨.none, he⟩, ⟨_, hit, rfl, rfl⟩, Nat.succ_ne_self _, Nat.ne_of_lt la, Nat.ne_of_gt (Nat.lt_succ_of_lt la)⟩, ?_, q⟩
  intro b hb
  have hle : s1.heap.objs.size ≤ b := by
    rcases (show b = s1.heap.objs.size + 1 ∨ b = s1.heap.objs.size by simpa using hb) with rfl | rfl
    · exact Nat.le_succ _
    · exact Nat.le_refl _
  exact I1.fpOk hle (I1.hok.fresh hle)
theorem walk_enT {K : PySem.W.Frag} {a : Addr} {xs : List V} : Walk (ItT K a) xs.length (fun H => SqT K H a xs) (YPair (fun i => some (.int (i : Nat))) (fun i => xs[i]?)) := by
  refine ⟨fun i _ hi q => ⟨xs, xs[i], q, by simp [hi]⟩, fun _ q => ⟨xs, q, rfl⟩, ?_⟩
  rintro i H v H' _ q ⟨T, x, h1, h2, h3, h4⟩
  exact ⟨T, .int (i : Nat), x, h1, h2, h3, rfl, h4 xs q⟩
end Pk

/-! ## Versions: the mathematics of their texts -/
namespace Pk
open PySem L2 TL SX
def isDig (c : Nat) : Bool := decide (48 ≤ c ∧ c ≤ 57)
/-- number_of_text -/
def nT (l : List Nat) : Option Nat :=
  if (decide (1 ≤ l.length) && (decide (l.length ≤ 3) && l.all isDig)) = true then (if l.head? = some 48 ∧ l ≠ [48] then none else some (NumText.digitsVal l)) else none
def wd : Nat → List Nat
  | 0 => [97]
  | 1 => [98]
  | _ => [114, 99]
/-- stage_of_text, from the i-th word on -/
def sTn (l : List Nat) : Nat → Nat → List Nat × Option Nat
  | 0, _ => (l, some 3000)
  | k + 1, i => match par (wd i) [] l with
    | some (p, q) => (p, (nT q).map (fun n => i * 1000 + n))
    | none => sTn l k (i + 1)
def sT (l : List Nat) : List Nat × Option Nat := sTn l 3 0
def allSome : List (Option Nat) → Option (List Nat)
  | [] => some []
  | none :: _ => none
  | some n :: r => (allSome r).map (n :: ·)
/-- parts_of_text -/
def pT (l : List Nat) : Option (List Nat × Nat) :=
  match (sT l).2, allSome ((spl [46] 0 [] (sT l).1).map nT) with
  | some st, some ns => if ns.length > 4 then none else some (ns, st)
  | _, _ => none
def rk (ns : List Nat) (st : Nat) : Nat := ((ns ++ [0, 0, 0]).take 4).foldl (fun r n => r * 1000 + n) 0 * 3001 + st
def stg (st : Nat) : List Nat := if st = 3000 then [] else wd (st / 1000) ++ numL (st % 1000)
def wrt (figs : List Nat) (st : Nat) : List Nat := joinL [46] (figs.map numL) ++ stg st
theorem nT_num : ∀ n : Nat, n < 1000 → nT (numL n) = some n := by
  intro n hn
  have hd := numL_digits n
  have h1 : (numL n).length ≤ 3 := numL_len (by decide) hn
  have h2 : 1 ≤ (numL n).length := by
    have := numL_ne n
    cases e : numL n with
    | nil => exact absurd e this
    | cons c r => simp
  have h3 : (numL n).all isDig = true := by
    rw [List.all_eq_true]
    intro c hc
    have := hd c hc
    simp only [isDig, decide_eq_true_eq]
    omega
  have h4 : ¬ ((numL n).head? = some 48 ∧ numL n ≠ [48]) := by
    have key : ∀ n : Nat, n < 1000 → decide ((numL n).head? = some 48 ∧ numL n ≠ [48]) = false := by decide +kernel
    exact of_decide_eq_false (key n hn)
  unfold nT
  rw [decide_eq_true h1, decide_eq_true h2, h3]
  simp only [Bool.and_self, if_true]
  rw [if_neg h4, numL_val]
theorem join_chars : ∀ {figs : List Nat} {c : Nat}, c ∈ joinL [46] (figs.map numL) → c = 46 ∨ (48 ≤ c ∧ c ≤ 57)
  | [], c, h => by cases h
  | [n], c, h => by
    have := numL_digits n c h
    omega
  | n :: m :: r, c, h => by
    have h' : c ∈ numL n ++ ([46] ++ joinL [46] ((m :: r).map numL)) := h
    rcases List.mem_append.mp h' with h | h
    · have := numL_digits n c h
      omega
    · rcases List.mem_append.mp h with h | h
      · exact .inl (by simpa using h)
      · exact join_chars h
theorem allSome_map : ∀ figs : List Nat, allSome (figs.map some) = some figs
  | [] => rfl
  | n :: r => by
    show (allSome (r.map some)).map (n :: ·) = some (n :: r)
    rw [allSome_map r]
    rfl
theorem sT_wrt {figs : List Nat} {st : Nat} (hs : st ≤ 3000) : sT (wrt figs st) = (joinL [46] (figs.map numL), some st) := by
  have noc : ∀ c : Nat, 57 < c → c ∉ joinL [46] (figs.map numL) := fun c hc h => by
    have := join_chars h
    omega
  have nod : ∀ c n : Nat, 57 < c → c ∉ numL n := fun c n hc => numL_free (.inr hc)
  unfold wrt
  generalize joinL [46] (figs.map numL) = A at noc
  by_cases h3 : st = 3000
  · subst h3
    have e1 : par [97] [] A = none := par_none1 (noc 97 (by decide))
    have e2 : par [98] [] A = none := par_none1 (noc 98 (by decide))
    have e3 : par [114, 99] [] A = none := par_none1 (noc 114 (by decide))
    simp only [stg, if_true, List.append_nil, sT, sTn, wd, e1, e2, e3]
  · have hs0 : stg st = wd (st / 1000) ++ numL (st % 1000) := if_neg h3
    have hn : nT (numL (st % 1000)) = some (st % 1000) := nT_num _ (Nat.mod_lt _ (by decide))
    have hlt : st / 1000 < 3 := by omega
    rw [hs0]
    have hc : st / 1000 = 0 ∨ st / 1000 = 1 ∨ st / 1000 = 2 := by omega
    rcases hc with h | h | h
    · rw [h]
      have e1 : par [97] [] (A ++ ([97] ++ numL (st % 1000))) = some (A, numL (st % 1000)) := by
        have := par_part1 (s := 97) (S := []) (p := A) (rest := numL (st % 1000)) (acc := []) (noc 97 (by decide))
        simpa using this
      simp only [sT, sTn, wd, e1, hn, Option.map_some]
      congr 2
      omega
    · rw [h]
      have m1 : 97 ∉ A ++ ([98] ++ numL (st % 1000)) := by
        simp only [List.mem_append, List.mem_singleton]
        rintro (q | q | q)
        · exact noc 97 (by decide) q
        · exact absurd q (by decide)
        · exact nod 97 _ (by decide) q
      have e1 : par [97] [] (A ++ ([98] ++ numL (st % 1000))) = none := par_none1 m1
      have e2 : par [98] [] (A ++ ([98] ++ numL (st % 1000))) = some (A, numL (st % 1000)) := by
        have := par_part1 (s := 98) (S := []) (p := A) (rest := numL (st % 1000)) (acc := []) (noc 98 (by decide))
        simpa using this
      simp only [sT, sTn, wd, e1, e2, hn, Option.map_some]
      congr 2
      omega
    · rw [h]
      have m1 : 97 ∉ A ++ ([114, 99] ++ numL (st % 1000)) := by
        simp only [List.mem_append, List.mem_cons, List.not_mem_nil, or_false]
        rintro (q | (q | q) | q)
        · exact noc 97 (by decide) q
        · exact absurd q (by decide)
        · exact absurd q (by decide)
        · exact nod 97 _ (by decide) q
      have m2 : 98 ∉ A ++ ([114, 99] ++ numL (st % 1000)) := by
        simp only [List.mem_append, List.mem_cons, List.not_mem_nil, or_false]
        rintro (q | (q | q) | q)
        · exact noc 98 (by decide) q
        · exact absurd q (by decide)
        · exact absurd q (by decide)
        · exact nod 98 _ (by decide) q
      have e1 : par [97] [] (A ++ ([114, 99] ++ numL (st % 1000))) = none := par_none1 m1
      have e2 : par [98] [] (A ++ ([114, 99] ++ numL (st % 1000))) = none := par_none1 m2
      have e3 : par [114, 99] [] (A ++ ([114, 99] ++ numL (st % 1000))) = some (A, numL (st % 1000)) := by
        have := par_part1 (s := 114) (S := [99]) (p := A) (rest := numL (st % 1000)) (acc := []) (noc 114 (by decide))
        simpa using this
      simp only [sT, sTn, wd, e1, e2, e3, hn, Option.map_some]
      congr 2
      omega
theorem pT_wrt {figs : List Nat} {st : Nat} (hf : figs ≠ []) (h4 : figs.length ≤ 4) (hb : ∀ n ∈ figs, n < 1000) (hs : st ≤ 3000) : pT (wrt figs st) = some (figs, st) := by
  have e : (spl [46] 0 [] (joinL [46] (figs.map numL))).map nT = figs.map some := by
    rw [TL.spl_join (s := 46) (S := []) (by simpa using hf) (fun p hp => by
      obtain ⟨n, _, rfl⟩ := List.mem_map.mp hp
      exact numL_free (.inl (by decide))), List.map_map]
    exact List.map_congr_left fun n hn => nT_num n (hb n hn)
  unfold pT
  rw [sT_wrt hs, e, allSome_map]
  simp only
  rw [if_neg (by omega)]
/-- how many numbers are written -/
def many (ns : List Nat) : Nat → Nat
  | 0 => 0
  | 1 => 1
  | m + 2 => if ns[m + 1]? = some 0 then many ns (m + 1) else m + 2
theorem many_le (ns : List Nat) : ∀ m, many ns m ≤ m
  | 0 => Nat.le_refl _
  | 1 => Nat.le_refl _
  | m + 2 => by
    unfold many
    split
    · exact Nat.le_succ_of_le (many_le ns (m + 1))
    · exact Nat.le_refl _
theorem many_pos (ns : List Nat) : ∀ m, 0 < m → 0 < many ns m
  | 1, _ => Nat.one_pos
  | m + 2, _ => by
    unfold many
    split
    · exact many_pos ns (m + 1) (by omega)
    · omega
def trim (ns : List Nat) : List Nat := ns.take (many ns ns.length)
/-- text_at -/
def n4 (r : Nat) : List Nat := [r / 3001 / 1000000000, r / 3001 / 1000000 % 1000, r / 3001 / 1000 % 1000, r / 3001 % 1000]
def tA (r : Nat) : List Nat := wrt (trim (n4 r)) (r % 3001)
theorem n4_lt {r : Nat} (h : r ≤ 3000999999999999) : ∀ n ∈ n4 r, n < 1000 := by
  intro n hn
  simp only [n4, List.mem_cons, List.not_mem_nil, or_false] at hn
  rcases hn with rfl | rfl | rfl | rfl <;> omega
theorem trim_len (ns : List Nat) : (trim ns).length = many ns ns.length := by
  unfold trim
  rw [List.length_take]
  have := many_le ns ns.length
  omega
theorem pT_tA {r : Nat} (h : r ≤ 3000999999999999) : pT (tA r) = some (trim (n4 r), r % 3001) := by
  have hl : (n4 r).length = 4 := rfl
  refine pT_wrt ?_ ?_ (fun n hn => n4_lt h n (List.mem_of_mem_take hn)) (by omega)
  · intro e
    have h1 := trim_len (n4 r)
    rw [e, hl] at h1
    have := many_pos (n4 r) 4 (by decide)
    simp at h1
    omega
  · have h1 := trim_len (n4 r)
    have := many_le (n4 r) (n4 r).length
    omega
/-- what is left out is zero -/
theorem many_zero (ns : List Nat) : ∀ m i, many ns m ≤ i → i < m → ns[i]? = some 0 ∨ m = 0
  | 0, _, _, h => absurd h (Nat.not_lt_zero _)
  | 1, i, h1, h2 => by
    have : many ns 1 = 1 := rfl
    omega
  | m + 2, i, h1, h2 => by
    unfold many at h1
    split at h1
    · rename_i h0
      by_cases hi : i = m + 1
      · subst hi
        exact .inl h0
      · exact .inl ((many_zero ns (m + 1) i h1 (by omega)).resolve_right (by omega))
    · omega
theorem rk_n4 {r : Nat} (h : r ≤ 3000999999999999) : rk (n4 r) (r % 3001) = r := by
  simp only [rk, n4, List.cons_append, List.nil_append, List.take_succ_cons, List.take_zero, List.foldl_cons, List.foldl_nil]
  omega
theorem take4 {ns : List Nat} (h : ns.length = 4) : ((trim ns) ++ [0, 0, 0]).take 4 = (ns ++ [0, 0, 0]).take 4 := by
  have hz := many_zero ns 4
  have hp := many_pos ns 4 (by decide)
  have hl := many_le ns 4
  unfold trim
  rw [h]
  generalize many ns 4 = m at hz hp hl
  match ns, h with
  | [a, b, c, d], _ =>
    have hm : m = 1 ∨ m = 2 ∨ m = 3 ∨ m = 4 := by omega
    rcases hm with rfl | rfl | rfl | rfl
    · have h1 := (hz 1 (by decide) (by decide)).resolve_right (by decide)
      have h2 := (hz 2 (by decide) (by decide)).resolve_right (by decide)
      have h3 := (hz 3 (by decide) (by decide)).resolve_right (by decide)
      simp at h1 h2 h3
      subst h1 h2 h3
      rfl
    · have h2 := (hz 2 (by decide) (by decide)).resolve_right (by decide)
      have h3 := (hz 3 (by decide) (by decide)).resolve_right (by decide)
      simp at h2 h3
      subst h2 h3
      rfl
    · have h3 := (hz 3 (by decide) (by decide)).resolve_right (by decide)
      simp at h3
      subst h3
      rfl
    · rfl
theorem rk_trim {r : Nat} (h : r ≤ 3000999999999999) : rk (trim (n4 r)) (r % 3001) = r := by
  have e : rk (trim (n4 r)) (r % 3001) = rk (n4 r) (r % 3001) := by
    unfold rk
    rw [take4 rfl]
  rw [e, rk_n4 h]
end Pk

/-! ## An instance compared with any other object -/
namespace Pk
open PySem PySem.Spec PyProof.Rows L2
open SlX (cmpback)
section
variable {X : Cx} {k n : Nat} {f C g : Addr} {fd : FuncData} {ps : List Str} {sp : Sp} {E : XK} {CX : CXT}
/-- x op y, x an instance of the class at C, whose def for op is at g; y of a type that is not below C -/
def rOwnA (K : PySem.W.Frag) (C : Addr) (sp : Sp) (E : XK) : R2 := fun x y H Q => ∃ a dx fs t, x = .ref a ∧ H a = some (.ins C dx fs) ∧ TyX K H y t ∧ PySem.W.notFirst K C t = true ∧ sp [x, y] H Q E
theorem op_ownA {op : CmpOp} (hop : ∀ a b, compareOp op a b = richCompare op a b) (hs : PySem.W.findIn X.K (.ref C) (cmpInfo op).2.1 = some (some (.ref g)))
    (hf : PySem.W.isFn X.K (.ref g) = true) (F : FnR X.prog X.w X.K X.mg X.base CX n g sp) (hr : Room n X.A) (hx : Passes CX X E) : OpR X (compareOp op) (rOwnA X.K C sp E) := by
  intro pins s σ H x y v u Q I rx ry h
  obtain ⟨a, dx, fs, t, rfl, ha, ty, hn, q⟩ := h
  obtain rfl : v = Value.ref a := rx
  obtain ⟨mA, O, _⟩ := ins_get I.hok ha
  obtain ⟨od, J, _⟩ := O.look
  obtain ⟨m, hF⟩ := I.fr
  obtain ⟨P, Z, p, _⟩ := kit_of I ry ty
  rw [hop]
  refine PySem.W.cmp_K (op := op) (tb := t) hr.units0 hF I.ok.mod.kin J (Z.ty _ _ I.kIn p) hn hs hf (wpAny_mono (wpAny_call (run_fnR (us := [.ref a, u]) (vs := [.ref a, y]) F hr hx I (.cons rfl (.cons ry .nil)) q)) ?_ (fun _ _ x => x))
  rintro w s' ⟨z', H', I', rz, qz⟩
  exact cmpback rz ⟨z', H', I', rz, qz⟩
end
/-- no built-in type is an own class -/
theorem kit_not {K : PySem.W.Frag} {C : Addr} (cl : Cls K C) (rd : ClX.CRead K C (.type "type")) {T : String} (hT : (PySem.fastFind? T).isSome = true := by decide +kernel) :
    PySem.W.kitOne K (.type T) (.ref C) = some false ∧ PySem.W.notFirst K C (.type T) = true := by
  have hs : PySem.W.subIn K (.type T) (.ref C) = some false := by
    obtain ⟨d, hd⟩ := Option.isSome_iff_exists.mp hT
    show ((PySem.fastFind? T).map _).map _ = _
    rw [hd]
    show some (List.contains (d.mro.map Value.type) (.ref C)) = some false
    congr 1
    generalize d.mro = ts
    induction ts with
    | nil => rfl
    | cons t r ih =>
      rw [List.map_cons, List.contains_cons, ih]
      rfl
  have h1 : (PySem.W.clsIn K C).isSome = true := by
    have h := cl.hd
    unfold PySem.W.hasDictIn at h
    cases e : PySem.W.clsIn K C with
    | none =>
      rw [e] at h
      cases h
    | some c => rfl
  have h2 : PySem.W.typeIn K (.ref C) = some (.type "type") := by
    have h := rd.rd
    simp only [PySem.W.readsIn, Bool.and_eq_true, beq_iff_eq] at h
    exact h.1.1.1.2
  constructor
  · unfold PySem.W.kitOne
    rw [if_neg (by intro h; cases h)]
    show (if ((PySem.W.clsIn K C).isSome && PySem.W.typeIn K (.ref C) == some (.type "type")) = true then _ else _) = _
    rw [h1, h2, if_pos (by decide), hs]
  · unfold PySem.W.notFirst
    rw [hs]
    rfl
/-! ## Tuples of whole numbers: order -/
theorem dp_ints {K : PySem.W.Frag} {H : Hp} : ∀ {ns : List Int}, DpAll K H (ns.map V.int) (ns.map .int)
  | [] => .nil
  | n :: r => .cons (.int n) (dp_ints (ns := r))
theorem ints_lay : ∀ ns : List Int, PyData.canLayAll0 (ns.map .int) = true
  | [] => rfl
  | n :: r => by
    show (PyData.canLay0 (.int n) && PyData.canLayAll0 (r.map .int)) = true
    rw [ints_lay r]
    simp [PyData.canLay0]
theorem ints_depth : ∀ ns : List Int, PyData.depthAll (ns.map .int) = 0
  | [] => rfl
  | n :: r => by
    show max (PyData.depth (.int n)) (PyData.depthAll (r.map .int)) = 0
    rw [ints_depth r]
    rfl
theorem ints_shaped (ns : List Int) : SeqAt.shaped (.tuple (ns.map .int)) = true := by
  unfold SeqAt.shaped
  have e : PyData.canLay0 (.tuple (ns.map .int)) = true := by
    simp only [PyData.canLay0]
    exact ints_lay ns
  rw [e]
  simp only [PyData.depth, ints_depth]
  rfl
theorem ints_eqv (ns ms : List Int) : PyData.eqv (.tuple (ns.map .int)) (.tuple (ms.map .int)) = decide (ns = ms) := by
  have h := PySem.W.Datum.eqv (α := PySem.W.Tup Int) ⟨ns⟩ ⟨ms⟩
  refine h.trans (decide_eq_decide.mpr ⟨fun e => congrArg PySem.W.Tup.items e, fun e => by rw [e]⟩)
def rTupI (K : PySem.W.Frag) (f : List Int → List Int → Bool) : R2 := fun x y H Q => ∃ (a b : Addr) (ns ms : List Int), x = .ref a ∧ y = .ref b ∧ SqT K H a (ns.map V.int) ∧ SqT K H b (ms.map V.int) ∧ Q (.bl (f ns ms)) H
section
variable {X : Cx}
theorem holds_ints {pins : List (Addr × Obj)} {σ : L2.St} {H : Hp} {s : Shared} {a : Addr} {ns : List Int} {v : Value} (I : Inv X pins σ H s) (h : SqT X.K H a (ns.map V.int)) (r : RelV (.ref a) v) : PySem.W.Holds s.heap v (⟨ns⟩ : PySem.W.Tup Int) :=
  Dp.reads I _ _ v (.tup h dp_ints) r
theorem op_ltTI (hu : X.A.units + 64 < cLine) : OpR X (compareOp .Lt) (rTupI X.K fun ns ms => PySem.W.listLt ns ms) := by
  intro pins s σ H x y v u Q I rx ry h
  obtain ⟨a, b, ns, ms, rfl, rfl, ha, hb, q⟩ := h
  exact PySem.W.lt_datum (holds_ints I ha rx) (holds_ints I hb ry) (Nat.lt_of_le_of_lt (Nat.add_le_add_left (show (1 : Nat) ≤ 64 by decide) _) hu) ⟨.bl _, H, I, rfl, q⟩
theorem op_gtTI (hu : X.A.units + 64 < cLine) : OpR X (compareOp .Gt) (rTupI X.K fun ns ms => PySem.W.listLt ms ns) := by
  intro pins s σ H x y v u Q I rx ry h
  obtain ⟨a, b, ns, ms, rfl, rfl, ha, hb, q⟩ := h
  exact PySem.W.gt_datum (holds_ints I ha rx) (holds_ints I hb ry) (Nat.lt_of_le_of_lt (Nat.add_le_add_left (show (1 : Nat) ≤ 64 by decide) _) hu) ⟨.bl _, H, I, rfl, q⟩
theorem op_leTI (hu : X.A.units + 64 < cLine) : OpR X (compareOp .LtE) (rTupI X.K fun ns ms => !PySem.W.listLt ms ns) := by
  intro pins s σ H x y v u Q I rx ry h
  obtain ⟨a, b, ns, ms, rfl, rfl, ha, hb, q⟩ := h
  exact PySem.W.le_datum (holds_ints I ha rx) (holds_ints I hb ry) (Nat.lt_of_le_of_lt (Nat.add_le_add_left (show (1 : Nat) ≤ 64 by decide) _) hu) ⟨.bl _, H, I, rfl, q⟩
theorem op_geTI (hu : X.A.units + 64 < cLine) : OpR X (compareOp .GtE) (rTupI X.K fun ns ms => !PySem.W.listLt ns ms) := by
  intro pins s σ H x y v u Q I rx ry h
  obtain ⟨a, b, ns, ms, rfl, rfl, ha, hb, q⟩ := h
  exact PySem.W.ge_datum (holds_ints I ha rx) (holds_ints I hb ry) (Nat.lt_of_le_of_lt (Nat.add_le_add_left (show (1 : Nat) ≤ 64 by decide) _) hu) ⟨.bl _, H, I, rfl, q⟩
end
end Pk

/-! ## Own operators, truth and membership of dict instances -/
namespace Pk
open PySem PySem.Spec PyProof.Rows L2
open SlX (cmpback)
section
variable {X : Cx} {k n : Nat} {f C g : Addr} {fd : FuncData} {ps : List Str} {sp : Sp} {E : XK} {CX : CXT}
/-- x op y, both instances of the class at C, whose def for op is at g -/
theorem op_binD {op : Operator} (hc : PySem.W.selfFirst X.K C = true) (hs : PySem.W.findIn X.K (.ref C) (PySem.dunder op.info.2) = some (some (.ref g)))
    (hf : PySem.W.isFn X.K (.ref g) = true) (F : FnR X.prog X.w X.K X.mg X.base CX n g sp) (hr : Room n X.A) (hx : Passes CX X E) : OpR X (binaryOp op) (rOwnD C sp E) := by
  intro pins s σ H x y v u Q I rx ry h
  obtain ⟨a, dx, fs, b, dy, gs, rfl, rfl, ha, hb, q⟩ := h
  obtain rfl : v = Value.ref a := rx
  obtain rfl : u = Value.ref b := ry
  obtain ⟨mA, O, _⟩ := ins_get I.hok ha
  obtain ⟨od, J, _⟩ := O.look
  obtain ⟨mB, O', _⟩ := ins_get I.hok hb
  obtain ⟨od', J', _⟩ := O'.look
  obtain ⟨m, hF⟩ := I.fr
  refine PySem.W.binop_K (op := op) hF I.ok.mod.kin J J'.type hc hs hf (wpAny_mono (wpAny_call (run_fnR (us := [.ref a, .ref b]) (vs := [.ref a, .ref b]) F hr hx I (.cons rfl (.cons rfl .nil)) q)) ?_ (fun _ _ x => x))
  rintro w s' ⟨z', H', I', rz, qz⟩
  exact cmpback rz ⟨z', H', I', rz, qz⟩
/-- the answer of a def is a truth -/
def spB (sp : Sp) (x : List V) (E : XK) (Q : Bool → Hp → Prop) : Hp → Prop := fun H => sp x H (fun z H' => ∃ c, z = .bl c ∧ Q c H') E
/-- y in x, x an instance of the class at C -/
def rInD (C : Addr) (sp : Sp) (E : XK) : R2 := fun y x H Q => ∃ a dx fs, x = .ref a ∧ H a = some (.ins C dx fs) ∧ sp [x, y] H (fun z H' => ∃ c, z = .bl c ∧ Q (.bl c) H') E
theorem op_inD (hs : PySem.W.findIn X.K (.ref C) "__contains__" = some (some (.ref g))) (hf : PySem.W.isFn X.K (.ref g) = true) (F : FnR X.prog X.w X.K X.mg X.base CX n g sp) (hr : Room n X.A) (hx : Passes CX X E) :
    OpR X (compareOp .In) (rInD C sp E) := by
  intro pins s σ H y x u v Q I ry rx h
  obtain ⟨a, dx, fs, rfl, ha, q⟩ := h
  obtain rfl : v = Value.ref a := rx
  obtain ⟨mA, O, _⟩ := ins_get I.hok ha
  obtain ⟨od, J, _⟩ := O.look
  obtain ⟨m, hF⟩ := I.fr
  refine PySem.W.in_K hF I.ok.mod.kin J hs hf (wpAny_mono (wpAny_call (run_fnR (us := [.ref a, u]) (vs := [.ref a, y]) F hr hx I (.cons rfl (.cons ry .nil)) q)) ?_ (fun _ _ x => x))
  rintro w s' ⟨z', H', I', rz, c, rfl, qz⟩
  obtain rfl : w = Value.bool c := rz
  exact wpAny_truthy_bool ⟨.bl c, H', I', rfl, qz⟩
theorem truthy_D {pins : List (Addr × Obj)} {s : Shared} {σ : L2.St} {H : Hp} {a dx : Addr} {fs : List (Str × V)} {A : Around} {Q : Bool → Shared → Prop} {Q' : Bool → Hp → Prop}
    (hs : PySem.W.findIn X.K (.ref C) "__bool__" = some (some (.ref g))) (hf : PySem.W.isFn X.K (.ref g) = true) (F : FnR X.prog X.w X.K X.mg X.base CX n g sp) (hr : Room n A) (e0 : Env0 X.prog X.w X.K X.mg X.base A X.stack s H) (hx : Passes CX X E)
    (I : Inv X pins σ H s) (ha : H a = some (.ins C dx fs)) (q : spB sp [.ref a] E Q' H) (h : ∀ c s' H', Inv X pins σ H' s' → Q' c H' → Q c s') : wpAny (model X.prog X.w) A (truthy (.ref a)) Q X.xe s := by
  obtain ⟨mA, O, _⟩ := ins_get I.hok ha
  obtain ⟨od, J, _⟩ := O.look
  obtain ⟨m, hF⟩ := I.fr
  refine PySem.W.truthy_K hF I.ok.mod.kin J hs hf (wpAny_mono (wpAny_call (SlX.run_at (us := [.ref a]) (ws := [.ref a]) F hr e0 hx I (.cons rfl .nil) q)) ?_ (fun _ _ x => x))
  rintro w s' ⟨z', H', I', rz, c, rfl, qz⟩
  obtain rfl : w = Value.bool c := rz
  exact h c s' H' I' qz
/-- not e, e an instance with its own truth -/
def tNotD (C : Addr) (sp : Sp) (E : XK) (ta : TE) : TE := fun σ H Q => ta σ H fun x H1 => ∃ a dx fs, x = .ref a ∧ H1 a = some (.ins C dx fs) ∧ spB sp [.ref a] E (fun c H' => Q (.bl (!c)) H') H1
theorem pe_notD {e : Expr} {ta : TE} {pos : Pos} (he : PE X e ta) (hs : PySem.W.findIn X.K (.ref C) "__bool__" = some (some (.ref g))) (hf : PySem.W.isFn X.K (.ref g) = true) (F : FnR X.prog X.w X.K X.mg X.base CX n g sp) (hr : Room n X.A) (hx : Passes CX X E) :
    PE X (.UnaryOp .Not e pos) (tNotD C sp E ta) := by
  refine ⟨fun pins s σ H Q I h => ?_⟩
  refine UnaryOp_ (thn (he.run pins s σ H _ I h) fun v s1 ⟨x, H1, I1, r1, a, dx, fs, ex, ha, q⟩ => ?_)
  subst ex
  obtain rfl : v = Value.ref a := r1
  exact not_of (truthy_D hs hf F hr I1.env0 hx I1 ha q fun c s' H' I' q' => ⟨.bl (!c), H', I', rfl, q'⟩)
/-- bool(e) -/
def rBoolD (C : Addr) (sp : Sp) (E : XK) : List V → Hp → VK → Prop := fun xs H Q => ∃ a dx fs, xs = [.ref a] ∧ H a = some (.ins C dx fs) ∧ spB sp [.ref a] E (fun c H' => Q (.bl c) H') H
theorem call_boolD (hs : PySem.W.findIn X.K (.ref C) "__bool__" = some (some (.ref g))) (hf : PySem.W.isFn X.K (.ref g) = true) (G : FnR X.prog X.w X.K X.mg X.base CX n g sp) (hr : Room (n + 2) X.A) (hx : Passes CX X E) :
    CallR X (.type "bool") (rBoolD C sp E) := by
  intro pins s σ H xs us Q I r h
  obtain ⟨a, dx, fs, rfl, ha, q⟩ := h
  obtain ⟨u, rfl, ru⟩ := vals1 r
  obtain rfl : u = Value.ref a := ru
  have hr1 : Room (n + 1) X.A.in1 := Room.in1 hr
  have hr2 : Room n X.A.in1.in1 := hr1.in1
  refine callType_codes (T := "bool") (Bi := Builtin.«object.__init__») (Q₁ := fun v s₁ => ∃ c, v = .bool c ∧ EP X pins σ Q v s₁) F.called_bool (F.typeCall_bool_1 _) PySem.F.entry_object_init ?_ ?_
  · refine codeAny_of_tree ?_
    show wpAny _ X.A.in1.in1 (do checkBuiltinCall "bool.__new__" ⟨[.type "bool", .ref a], []⟩; again (.builtin "bool.__new__" ⟨[.type "bool", .ref a], []⟩)) _ _ s
    refine wpAny_bind (wpAny_of_eq (F.newCall_bool_1 _) (wpAny_pure ⟨plainId_quiet (by decide +kernel) _, codeAny_builtin F.entry_bool_new ?_⟩))
    rw [Around.under_plainId (by decide +kernel) _]
    obtain ⟨hp, gn, d, tk, os⟩ := s
    have f1 := F.conv_sub_bool
    have key : ∀ {Q₂ : Bool → Shared → Prop}, (∀ c s' , EP X pins σ Q (.bool c) s' → Q₂ c s') → wpAny (model X.prog X.w) X.A.in1.in1 (truthy (.ref a)) Q₂ X.xe ⟨hp, gn, d, tk, os⟩ := fun {Q₂} hQ =>
      truthy_D hs hf G hr2 I.env0.in1.in1 hx I ha q fun c s' H' I' q' => hQ c s' ⟨.bl c, H', I', rfl, q'⟩
    show wpAny _ _ (Builtin.«bool.__new__» ⟨[.type "bool", .ref a], []⟩) _ _ _
    wp_walk using key
    intro c s' hq
    exact wpAny_pure ⟨_, rfl, hq⟩
  · rintro obj s₁ ⟨c, rfl, hq⟩
    exact ⟨PySem.typeIs_bool _ _, F.args_object_init_2 _ _, object_init_meets F.called_bool.init.lookup F.called_bool.made (by decide) X.prog X.w X.A.in1 _ s₁ ⟨PySem.typeIs_bool _ _, rfl, hq⟩⟩
end
/-- what a for walks is told in one of two ways -/
theorem pi_or {X : Cx} {tg e : Expr} {t u : TI} (h : PI X tg e t) (g : PI X tg e u) : PI X tg e (fun σ H R => t σ H R ∨ u σ H R) := by
  constructor
  rintro pins s σ H R I (q | q)
  · exact h.run pins s σ H R I q
  · exact g.run pins s σ H R I q
open AutoSeq1 in
theorem extend_tup (l b : Addr) (xs ys : Array Value) (n m : Nat) (dd : Option Addr) (sl : Array (Option Value))
    (h0 : ¬ (!xs.isEmpty && Builtin.List.listTooLong (xs.size + ys.size)) = true) (h1 : xs.size ≤ sizeLine) (h2 : (xs ++ ys).size ≤ sizeLine + 1) :
    Meets (Builtin.«list.extend» ⟨[.ref l, .ref b], []⟩) (fun _ R s => s.heap.get? l = some ⟨.type "list", none, .seq xs n, #[]⟩ ∧
      s.heap.get? b = some ⟨.type "tuple", dd, .seq ys m, sl⟩ ∧ R (.ok (.ret Value.none)) ⟨s.heap.update l (Obj.mapSeq fun x => x ++ ys), s.gens, s.drawn, s.toks, s.os⟩) := by
  refine .of_wp ?_
  rintro prog w A R ⟨hp, g, d, tk, os⟩ ⟨hl, hb, h⟩
  have f1 := idx_int
  have f2 := PySem.AutoSeq1.sub_tuple_tuple
  have f3 := PySem.AutoSeq1.sub_list_list
  have f4 := PySem.AutoSeq1.sub_tuple_list
  have f5 := PySem.AutoSeq1.sub_list_tuple
  wp_walk using (wpAny_updateSeq hl rfl (hz := h1) (_hz' := h2)), wpAny_loadPart' hl, wpAny_loadPart' hb
  exact ⟨_, rfl, h⟩
/-- l.extend(t), t a tuple -/
def rExtendT (K : PySem.W.Frag) : V → List V → Hp → VK → Prop := fun x vs H Q => ∃ l b xs zs, x = .ref l ∧ vs = [.ref b] ∧ H l = some (.lst xs) ∧ SqT K H b zs ∧ xs.length + zs.length ≤ sizeLine ∧ Q .non (upd H l (.lst (xs ++ zs)))
theorem mt_extendT {X : Cx} : MtM X "list.extend" (rExtendT X.K) := by
  intro pins s σ H x vs v us Q I rx rv h
  obtain ⟨l, b, xs, zs, rfl, rfl, hH, hB, hz, q⟩ := h
  cases rx
  obtain ⟨u, rfl, ru⟩ := rv.one
  cases ru
  obtain ⟨z, its, n, r, hl, e⟩ := I.lstM hH
  obtain ⟨its2, r2, ⟨⟨cls2, dd2, data2, sl2⟩, e2, hc2, n2, hd2⟩, hz2⟩ := I.tuple hB
  simp only at hc2 hd2
  subst hc2 hd2
  have hl2 := r2.length
  have hsz : its.toArray.size + its2.toArray.size ≤ sizeLine := by rw [List.size_toArray, List.size_toArray]; omega
  have hlong : ¬ (!its.toArray.isEmpty && Builtin.List.listTooLong (its.toArray.size + its2.toArray.size)) = true := by
    rw [notLongL hsz, Bool.and_false]
    exact Bool.false_ne_true
  refine call_meets F.slot_list_extend ⟨_, e, rfl⟩ F.entry_list_extend (F.args_list_extend_2 _ _)
    (extend_tup l b its.toArray its2.toArray n n2 dd2 sl2 hlong (by rw [List.size_toArray]; omega) (by rw [Array.size_append]; omega)) ⟨e, e2, ?_⟩
  refine ⟨.non, _, I.lset (its' := its ++ its2) hH e (by simp) (r.append r2) ?_, rfl, q⟩
  rw [List.length_append]
  omega
/-- bool(t), t a tuple -/
theorem call_boolTup {X : Cx} : CallR X (.type "bool") (fun xs H Q => ∃ (a : Addr) (zs : List V), xs = [.ref a] ∧ SqT X.K H a zs ∧ Q (.bl (!zs.isEmpty)) H) := by
  intro pins s σ H xs us Q I r h
  obtain ⟨a, zs, rfl, hq, q⟩ := h
  obtain rfl := Vals.ref1 r
  obtain ⟨its, rv, pl, hz⟩ := I.tuple hq
  have hl := line63
  have hlen := rv.length
  refine callType_codes (T := "bool") (Bi := Builtin.«object.__init__») (Q₁ := fun v s₁ => ∃ c, v = .bool c ∧ EP X pins σ Q v s₁) F.called_bool (F.typeCall_bool_1 _) PySem.F.entry_object_init ?_ ?_
  · refine codeAny_of_tree ?_
    show wpAny _ X.A.in1.in1 (do checkBuiltinCall "bool.__new__" ⟨[.type "bool", .ref a], []⟩; again (.builtin "bool.__new__" ⟨[.type "bool", .ref a], []⟩)) _ _ s
    refine wpAny_bind (wpAny_of_eq (F.newCall_bool_1 _) (wpAny_pure ⟨plainId_quiet (by decide +kernel) _, codeAny_builtin F.entry_bool_new ?_⟩))
    rw [Around.under_plainId (by decide +kernel) _]
    obtain ⟨hp, gn, d, tk, os⟩ := s
    have f1 := F.conv_sub_bool
    have key : ∀ {Q₂ : Bool → Shared → Prop}, (∀ s', EP X pins σ Q (.bool (!zs.isEmpty)) s' → Q₂ (!zs.isEmpty) s') → wpAny (model X.prog X.w) X.A.in1.in1 (truthy (.ref a)) Q₂ X.xe ⟨hp, gn, d, tk, os⟩ := fun {Q₂} hQ =>
      truthy_tuple pl (by simp only [List.size_toArray]; omega) (by rw [isEmpty_of rv]; exact hQ _ ⟨.bl (!zs.isEmpty), H, I.tok _, rfl, q⟩)
    show wpAny _ _ (Builtin.«bool.__new__» ⟨[.type "bool", .ref a], []⟩) _ _ _
    wp_walk using key
    intro s' hq
    exact wpAny_pure ⟨_, rfl, hq⟩
  · rintro obj s₁ ⟨c, rfl, hq⟩
    exact ⟨PySem.typeIs_bool _ _, F.args_object_init_2 _ _, object_init_meets F.called_bool.init.lookup F.called_bool.made (by decide) X.prog X.w X.A.in1 _ s₁ ⟨PySem.typeIs_bool _ _, rfl, hq⟩⟩
end Pk

/-! ## Rules inside comprehensions, the table of classes named -/
namespace Pk
open PySem PySem.Spec PyProof.Rows L2
section
variable {X : Cx} {tg o e l : Expr} {to te tl : TE} {KK : PySem.W.Frag}
theorem pi_listK (hK : X.K = KK) (hl : PE X l tl) : PI X tg l (iList KK tl) := by
  subst hK
  exact pi_list hl
theorem pi_tupK (hK : X.K = KK) (hl : PE X l tl) : PI X tg l (iTup KK tl) := by
  subst hK
  exact pi_tup hl
theorem ix_listK (hK : X.K = KK) : IxR X (rIxL KK) := by
  subst hK
  exact ix_list
theorem ix_tupK (hK : X.K = KK) : IxR X (rIxT KK) := by
  subst hK
  exact ix_tup
theorem pe_joinK {apos pos : Pos} (hK : X.K = KK) (ho : PE X o to) (he : PE X e te) (hs : starEach [e] X.env = [(false, eval e X.env)] := by rfl) (hbase : attributeBase o "join" X.env (eval o X.env) = eval o X.env := by rfl) (hline : (apos.endLine == pos.line) = true := by rfl) :
    PE X (.Call (.Attribute o "join" apos) [e] [] pos) (tM1 (fun x xs H Q => ∃ a p, ∃ ys : List Str, x = .str a ∧ xs = [.ref p] ∧ (SqL KK H p (ys.map V.str) ∨ SqT KK H p (ys.map V.str)) ∧
      (ys.map (·.length)).sum + ys.length * a.length ≤ 16777216 ∧ Q (.str (Txt.join a ys)) H) to te) := by
  subst hK
  exact pe_join ho he hs hbase hline
end
end Pk

/-! ## A list backwards: xs[::-1] -/
namespace Pk
open PySem PySem.Spec PyProof.Rows L2
section
variable {X : Cx} {e st : Expr} {te : TE} {ts : TO} {p2 pos : Pos}
def tRev (K : PySem.W.Frag) (te : TE) (ts : TO) : TE := fun σ H Q => te σ H fun x H1 => ts σ H1 fun u H2 => u = some (-1) ∧ ∃ a xs, x = .ref a ∧ SqL K H2 a xs ∧ ∀ p, H2 p = none → Q (.ref p) (upd H2 p (.lst xs.reverse))
theorem vals_rev : ∀ {xs : List V} {its : List Value}, Vals xs its → Vals xs.reverse its.reverse
  | _, _, .nil => .nil
  | _, _, .cons h hs => by
    rw [List.reverse_cons, List.reverse_cons]
    exact (vals_rev hs).append (.cons h .nil)
theorem pe_rev (he : PE X e te) (hs : PO X (some st) ts) : PE X (.Subscript e (.Slice none none (some st) p2) pos) (tRev X.K te ts) := by
  refine ⟨fun pins s σ H Q I h => ?_⟩
  refine Subscript_ (thn (he.run pins s σ H _ I h) fun v s1 ⟨x, H1, I1, r1, q1⟩ => ?_)
  refine wpAny_Slice ?_
  rw [evalPart_none]
  refine wpAny_pure ?_
  refine wpAny_pure ?_
  refine thn (hs.run pins s1 σ H1 _ I1 q1) fun vs s2 ⟨u, H2, I2, ps, eu, q2⟩ => ?_
  subst eu
  obtain ⟨a, xs, rfl, hx, q⟩ := q2
  have I4 : Inv X pins σ H2 { s2 with heap := s2.heap.push { cls := .type "slice", data := .fields #[.none, .none, vs] } } := I2.kept (t' := s2.toks) fun b ob q => Heap.get?_push_of_some _ q
  cases r1
  obtain ⟨its, r, ht, hz⟩ := I4.list hx
  have hlen := r.length
  refine tail_any (ops := [.ref a, .ref s2.heap.objs.size]) (T := "list") ht.isList.typeIs slot_list_getitem.lookup ?_ (by with_unfolding_all rfl)
  refine wpAny_getItem_list_slice ht.isList (Heap.IsSliceOf.new ..) .none .none ps (by decide) ?_ (by rw [List.size_toArray] <;> omega)
  rw [PySem.W.krv_pick]
  refine ⟨.ref _, _, I4.laid (t' := s2.toks) (o := .lst xs.reverse) (fun b ob q => Heap.get?_push_of_some _ q) (Nat.le_refl _) ?_, rfl, q _ (I4.hok.fresh (Nat.le_refl _))⟩
  exact ⟨by rw [List.length_reverse]; exact hz, _, 0, vals_rev r, Heap.get?_push_size _ rfl⟩
end
end Pk

/-! ## == with any other object inside comprehensions, the table of classes named -/
namespace Pk
open PySem PySem.Spec PyProof.Rows L2
section
variable {X : Cx} {n : Nat} {C g : Addr} {sp : Sp} {E : XK} {CX : CXT} {KK : PySem.W.Frag}
theorem op_ownAK {op : CmpOp} (hK : X.K = KK) (hop : ∀ a b, compareOp op a b = richCompare op a b) (hs : PySem.W.findIn X.K (.ref C) (cmpInfo op).2.1 = some (some (.ref g)))
    (hf : PySem.W.isFn X.K (.ref g) = true) (F : FnR X.prog X.w X.K X.mg X.base CX n g sp) (hr : Room n X.A) (hx : Passes CX X E) : OpR X (compareOp op) (rOwnA KK C sp E) := by
  subst hK
  exact op_ownA hop hs hf F hr hx
end
/-- an instance of one own class is none of another -/
theorem kit_own {K : PySem.W.Frag} {B C : Addr} (cl : Cls K C) (rd : ClX.CRead K C (.type "type")) (hs : PySem.W.subIn K (.ref B) (.ref C) = some false) (hse : PySem.W.subIn K (.ref C) (.ref C) = some true) : PySem.W.kitOne K (.ref B) (.ref C) = some false := by
  have h1 : (PySem.W.clsIn K C).isSome = true := by
    have h := cl.hd
    unfold PySem.W.hasDictIn at h
    cases e : PySem.W.clsIn K C with
    | none =>
      rw [e] at h
      cases h
    | some c => rfl
  have h2 : PySem.W.typeIn K (.ref C) = some (.type "type") := by
    have h := rd.rd
    simp only [PySem.W.readsIn, Bool.and_eq_true, beq_iff_eq] at h
    exact h.1.1.1.2
  have ne : B ≠ C := by
    rintro rfl
    rw [hse] at hs
    cases hs
  unfold PySem.W.kitOne
  rw [if_neg (by simp [ne])]
  show (if ((PySem.W.clsIn K C).isSome && PySem.W.typeIn K (.ref C) == some (.type "type")) = true then PySem.W.subIn K (.ref B) (.ref C) else none) = some false
  rw [if_pos (by rw [h1, h2]; rfl)]
  exact hs
end Pk

/-! ## Exceptions that are kept as values: made, caught under a name, their fields read -/
namespace Pk
open PySem PySem.Spec PyProof.Rows L2
/-- at a: an exception of the class cls that is in nobody's flight, its dict at d -/
def ExK (cls : Value) (d : Option Addr) (a : Addr) : HO := .ext fun h => ∃ (oe : Obj) (vs : Array Value), h.get? a = some oe ∧ Zc cls d oe ∧ oe.data = .fields vs
theorem exK_ok {P : Program} {w : World} {H : Hp} {h : Heap} {a : Addr} {cls : Value} {d : Option Addr} {oe : Obj} {vs : Array Value} (e : h.get? a = some oe) (z : Zc cls d oe) (q : oe.data = .fields vs) : ObjOk P w H h a (ExK cls d a) :=
  ⟨⟨oe, vs, e, z, q⟩, ⟨oe, e⟩, fun _ _ ⟨o1, v1, e1, z1, q1⟩ k => ⟨o1, v1, k _ e1, z1, q1⟩⟩
theorem exK_at {P : Program} {w : World} {H : Hp} {h : Heap} {a : Addr} {cls : Value} {d : Option Addr} (k : HOk P w H h) (e : H a = some (ExK cls d a)) : ∃ (oe : Obj) (vs : Array Value), h.get? a = some oe ∧ Zc cls d oe ∧ oe.data = .fields vs :=
  (show ObjOk P w H h a (.ext fun h => ∃ (oe : Obj) (vs : Array Value), h.get? a = some oe ∧ Zc cls d oe ∧ oe.data = .fields vs) from k a _ e).1
theorem exK_ne {cls : Value} {d : Option Addr} {a : Addr} : (∀ xs, ExK cls d a ≠ .tup xs) ∧ (∀ o u, ExK cls d a ≠ .frz o u) ∧ (∀ ps, ExK cls d a ≠ .tbl ps) ∧ ∀ x, ExK cls d a ≠ .own x := by
  refine ⟨fun _ z => ?_, fun _ _ z => ?_, fun _ z => ?_, fun _ z => ?_⟩ <;> (unfold ExK at z; cases z)
section
variable {X : Cx} {pins : List (Addr × Obj)} {σ : L2.St} {H : Hp} {s : Shared}
/-- a thing of the heap that is younger than the def's call, told from now on -/
theorem track {a : Addr} {o : HO} (I : Inv X pins σ H s) (young : X.s_0.heap.get? a = none) (untold : H a = none) (nl : X.env.locals ≠ a) (nc : ∀ x c, X.env.cells.lookup x = some c → c ≠ a)
    (np : ∀ p ∈ X.pn ++ pins, p.1 ≠ a) (new : ObjOk X.prog X.w (upd H a o) s.heap a o) : Inv X pins σ (upd H a o) s := by
  have off : ∀ {b : Addr} {u : HO}, H b = some u → b ≠ a := fun {b u} e z => by
    rw [z, untold] at e
    cases e
  have old : ∀ {b : Addr} {u : Obj}, X.s_0.heap.get? b = some u → b ≠ a := fun {b u} e z => by
    rw [z, young] at e
    cases e
  have at_ : ∀ {b : Addr} {u : HO}, H b = some u → upd H a o b = some u := fun {b u} e => by
    rw [upd_ne (off e)]
    exact e
  refine { ok := I.ok, os := I.os, bare := I.bare, loc := I.loc, cell := I.cell, len := I.len, base := { keep := I.base.keep, slot := I.base.slot, there := I.base.there, free := ?_, tups := ?_, frzs := ?_, tbls := ?_ }, free := ?_, freeC := ?_, pin := ?_, hok := ?_ }
  · intro b u e n hx
    rw [upd_ne (old e)]
    exact I.base.free b u e n hx
  · exact fun b xs e => at_ (I.base.tups b xs e)
  · exact fun b u v e => at_ (I.base.frzs b u v e)
  · intro b ps e
    obtain ⟨m, q⟩ := I.base.tbls b ps e
    exact ⟨m, at_ q⟩
  · rw [upd_ne nl]
    exact I.free
  · intro x c e
    rw [upd_ne (nc x c e)]
    exact I.freeC x c e
  · intro p hp
    obtain ⟨q1, q2, q3, q4, q5⟩ := I.pin p hp
    exact ⟨q1, by rw [upd_ne (np p hp)]; exact q2, q3, q4, q5⟩
  · intro b u e
    by_cases hb : b = a
    · subst hb
      rw [upd_same] at e
      cases e
      exact new
    · rw [upd_ne hb] at e
      exact (I.hok b u e).stay (fun _ _ _ q => q) (fun _ q => at_ q) (fun _ _ q => at_ q)
theorem moved {s' : Shared} (I : Inv X pins σ H s) (hh : s'.heap = s.heap) (os : s'.os = s.os) (ag : AllBare s'.gens) : Inv X pins σ H s' := by
  obtain ⟨h1, g1, d1, t1, o1⟩ := s
  obtain ⟨h2, g2, d2, t2, o2⟩ := s'
  dsimp only at hh os ag
  subst hh os
  exact { ok := I.ok, os := I.os, bare := ag, base := I.base, loc := I.loc, cell := I.cell, free := I.free, freeC := I.freeC, pin := I.pin, hok := I.hok, len := I.len }
/-- what was not there before the call -/
theorem young_of (I : Inv X pins σ H s) (hex : X.ex = []) {a : Addr} (n : s.heap.get? a = none) : X.s_0.heap.get? a = none := by
  cases e : X.s_0.heap.get? a with
  | none => rfl
  | some o =>
    obtain ⟨o', q⟩ := I.base.there a o e (by rw [hex]; exact fun z => nomatch z)
    rw [n] at q
    cases q
theorem notcell (I : Inv X pins σ H s) {a : Addr} {oe : Obj} {vs : Array Value} (e : s.heap.get? a = some oe) (q : oe.data = .fields vs) : ∀ x c, X.env.cells.lookup x = some c → c ≠ a := fun x c hc z => by
  obtain ⟨v, o, ho, hd⟩ := I.cell x c hc
  rw [z, e] at ho
  cases ho
  rw [q] at hd
  cases hd
theorem notlocals (I : Inv X pins σ H s) {a : Addr} (n : s.heap.get? a = none) : X.env.locals ≠ a := fun z => by
  obtain ⟨m, ⟨o, es, ep, ho, _⟩, _⟩ := I.loc
  rw [z, n] at ho
  cases ho
end
/-! ### C(..) as a value -/
def tMkV (t : L2.St → Hp → XK → Prop) : TE := fun σ H Q => t σ H fun cls d H' => ∀ a, H' a = none → Q (.ref a) (upd H' a (ExK cls d a))
theorem pe_mkV {X : Cx} {e : Expr} {t : L2.St → Hp → XK → Prop} (hex : X.ex = []) (he : PMk X e t) : PE X e (tMkV t) := by
  refine ⟨fun pins s σ H Q I h => wpAny_mono (he pins s σ H _ I h) ?_ fun _ _ x => x⟩
  rintro u s' ⟨a, oe, vs, sI, H', cls, d, rfl, J, k, gone, there, hz, hd, _, na, os, ag, _, q⟩
  have J1 : Inv X pins σ H' s' := moved (s := { sI with heap := s'.heap, toks := sI.toks }) (J.kept k) rfl os ag
  refine ⟨.ref a, _, track J1 (young_of J hex gone) na (notlocals J gone) (notcell J1 there hd) (fun p hp z => ?_) (exK_ok there hz hd), rfl, q a na⟩
  have := (J.pin p hp).1
  rw [z, gone] at this
  cases this
/-! ### e.f -/
def tXfV (K : PySem.W.Frag) (f : Str) (te : TE) : TE := fun σ H Q => te σ H fun x H1 => ∃ (a dd C : Addr) (fs : List (Str × V)) (v : V), x = .ref a ∧ XfC K C ∧ PySem.W.findIn K (.ref C) f = some none ∧
  H1 a = some (ExK (.ref C) (some dd) a) ∧ H1 dd = some (.xd fs) ∧ fs.lookup f = some v ∧ Q v H1
theorem pe_xfV {X : Cx} {e : Expr} {te : TE} {pos : Pos} {n : Str} (he : PE X e te) (hb : attributeBase e n X.env (eval e X.env) = eval e X.env := by rfl) : PE X (.Attribute e n pos) (tXfV X.K n te) := by
  refine ⟨fun pins s σ H Q I h => attr_of hb (thn (he.run pins s σ H _ I h) ?_)⟩
  rintro u s1 ⟨x, H1, I1, rx, a, dd, C, fs, v, rfl, T, no, hx, hd, hl, q⟩
  obtain rfl : u = Value.ref a := rx
  obtain ⟨oe, vs, there, hz, hf⟩ := exK_at I1.hok hx
  obtain ⟨mA, hns, hr⟩ : ObjOk X.prog X.w H1 s1.heap dd (.xd fs) := I1.hok dd _ hd
  obtain ⟨od, ho, hlk⟩ := lookIn_ns hns
  obtain ⟨u, hu, ru⟩ := RelO.some_of (v := v) (o := mA n) (by rw [← hl]; exact hr n)
  have J : PySem.W.InstAt s1.heap a oe C (some od) := ⟨there, hz.1, by unfold PySem.W.notCls; rw [hf] <;> rfl, by rw [hz.2]; exact ho⟩
  exact HandSPX.exc_get I1.kIn J T.ga T.gg T.exC (PySem.W.findObj_own T.hdC no rfl (by rw [hlk, hu])) (handed_of ru) ⟨v, H1, I1.tok _, ru, q⟩
/-! ### try: body / except x as n: suite, the exception kept -/
/-- what follows the suite: the name is gone, the exception is told -/
def behindV (i : Nat) (a : Addr) (cls : Value) (d : Option Addr) (D : Ends) : Ends where
  nx := fun σ H => H a = none → D.nx (σ.set i none) (upd H a (ExK cls d a))
  rt := D.rt
  bk := fun σ H => D.bk (σ.set i none) H
  ct := fun σ H => D.ct (σ.set i none) H
def wAsV (K : PySem.W.Frag) (c : Value) (i : Nat) (ts : Addr → Value → Option Addr → TS) (Wout : WX) (D : Ends) : WX := fun cls d σ H =>
  ∃ b, PySem.W.exmOne K cls c = some b ∧ (b = true → ∀ a, H a = none → ts a cls d (behindV i a cls d D) (σ.set i (some (.ref a))) H) ∧ (b = false → Wout cls d σ H)
section
variable {X : Cx} {x n : Str} {c : Value} {i : Nat} {body suite : List Stmt} {b₀ : Stmt} {np pos pos' : Pos} {tb : WX → TS} {ts : Addr → Value → Option Addr → TS} {Wout : WX}
theorem unsuiteK {a : Addr} {q : Addr × Obj} {pins : List (Addr × Obj)} {σ : L2.St} {H : Hp} {s : Shared} (I : Inv (X.suite a (q :: (X.pn ++ pins))) [] σ H s) (ok : X.Ok) : Inv X (q :: pins) σ H s :=
  { ok := ok, os := I.os, bare := I.bare, base := I.base, loc := I.loc, cell := I.cell, free := I.free, freeC := I.freeC, hok := I.hok, len := I.len
    pin := fun p hp => I.pin p (by
      rcases List.mem_append.mp hp with h | h
      · exact List.mem_append_left _ (List.mem_cons_of_mem _ (List.mem_append_left _ h))
      · rcases List.mem_cons.mp h with h | h
        · rw [h]
          exact List.mem_append_left _ List.mem_cons_self
        · exact List.mem_append_left _ (List.mem_cons_of_mem _ (List.mem_append_right _ h))) }
theorem unpin {q : Addr × Obj} {pins : List (Addr × Obj)} {σ : L2.St} {H : Hp} {s : Shared} (I : Inv X (q :: pins) σ H s) : Inv X pins σ H s :=
  { ok := I.ok, os := I.os, bare := I.bare, base := I.base, loc := I.loc, cell := I.cell, free := I.free, freeC := I.freeC, hok := I.hok, len := I.len
    pin := fun p hp => I.pin p (by
      rcases List.mem_append.mp hp with h | h
      · exact List.mem_append_left _ h
      · exact List.mem_append_right _ (List.mem_cons_of_mem _ h)) }
theorem ps_try_asV (hex : X.ex = []) (hs : X.stack = X.env :: X.outer) (hf : X.env.frame = some X.env.locals) (hN : X.N.Nodup) (hi : X.N[i]? = some n) (hln : X.env.kindOf n = some .local) (hc : Names X x c) (tk : Takes X Wout)
    (hb : ∀ (W : WX) (pn : List (Addr × Obj)) (xe : Value → Shared → Prop), Takes (X.tr pn xe) W → PassesOwn (model X.prog X.w) X.A X.env xe → PSs (X.tr pn xe) body (tb W))
    (hsu : ∀ (a : Addr) (oe : Obj) (cls : Value) (d : Option Addr) (pn : List (Addr × Obj)), Zc cls d oe → (∃ vs, oe.data = .fields vs) → PSs (X.suite a ((a, oe) :: pn)) (b₀ :: suite) (ts a cls d)) :
    PS X (.Try body [.ExceptHandler (some (.Name x np)) (some n) (b₀ :: suite) pos'] [] [] pos) (fun D σ H => tb (wAsV X.K c i ts Wout D) D σ H) := by
  constructor
  intro pins s σ H D I h
  have okX := I.ok
  have frames : X.A.frames = some (X.env :: X.outer) := okX.frames.trans (by rw [hs])
  refine wpAny_Try_except ?_
  let XC : Value → Shared → Prop := fun e s₁ => wpAny (model X.prog X.w) X.A (noteFrame e X.env) (fun _ s₂ => wpAny (model X.prog X.w) X.A (setFlight e none) (fun _ s₃ =>
    wpAny (model X.prog X.w) X.A (handleBy e X.env [.ExceptHandler (some (.Name x np)) (some n) (b₀ :: suite) pos']) (SP X pins D) X.xe s₃) X.xe s₂) X.xe s₁
  have caught : Takes (X.tr (X.pn ++ pins) XC) (wAsV X.K c i ts Wout D) := by
    rintro u s' ⟨a, B, sI, pins', σ', H', cls, d, rfl, J', nb, up, sky, na, os, ag, b, hb1, hyes, hno⟩
    have J : Inv X pins σ' H' sI := J'.ofTry okX
    have sky' : Sky B (X.env :: X.outer) a (Zc cls d) X.env.locals s'.heap := by
      rw [← hs]
      exact sky
    show wpAny (model X.prog X.w) X.A (noteFrame (.ref a) X.env) _ _ _
    refine Sky.land Zc.steady frames hf sky' fun hA flA upA => ?_
    have JA : Inv X pins σ' H' { s' with heap := hA } := J.landed nb flA.1 (up.trans upA) os ag
    obtain ⟨oA, vA, eA, zA, dA⟩ := flA.there
    have nofr : a ∉ frs (X.env :: X.outer) := fun hm => by
      obtain ⟨_, o', e', hnf⟩ := flA.2.2.1.mem hm
      rw [eA] at e'
      cases e'
      exact hnf _ dA
    have goneI : sI.heap.get? a = none := by
      cases e : sI.heap.get? a with
      | none => rfl
      | some o =>
        have := nb a o e (by rw [show (X.tr (X.pn ++ pins) XC).stack = X.env :: X.outer from hs]; exact nofr)
        rw [flA.2.1] at this
        cases this
    have nLoc : a ≠ X.env.locals := fun z => nofr (List.mem_filterMap.mpr ⟨X.env, List.mem_cons_self, by rw [hf, z]⟩)
    have nFs : a ∉ X.fs := fun hm => by
      obtain ⟨e, he, q⟩ := List.mem_filterMap.mp hm
      exact nofr (List.mem_filterMap.mpr ⟨e, List.mem_cons_of_mem _ he, q⟩)
    have SA := JA.suite eA dA na nLoc nFs
    refine wpAny_handleBy_cons (codeAny_handlers_test ?_) (by intro q; cases q)
    have lookT : PySem.W.Looks (model X.prog X.w) hA (typeOf (.ref a)) cls := fun A Q E s k q => wpAny_typeOf_ref (k _ _ eA) (by rw [zA.1]; exact q)
    have lookM := PySem.W.exm_one (M := model X.prog X.w) JA.kIn lookT hb1
    have nameC : ∀ {Q : Value → Shared → Prop} {E : Value → Shared → Prop}, Q c { s' with heap := hA } → wpAny (model X.prog X.w) (X.A.mark (some (.ref a))) (eval (.Name x np) X.env) Q E { s' with heap := hA } := by
      intro Q E q
      obtain ⟨glo, dbg, m1 | ⟨m1, m2, m3⟩⟩ := hc
      · exact ld_glob (X := X.suite a ((a, oA) :: (X.pn ++ pins))) SA glo m1 q dbg
      · exact ld_blt (X := X.suite a ((a, oA) :: (X.pn ++ pins))) SA glo m1 m2 q m3 dbg
    refine nameC (lookM.here ?_)
    cases b with
    | true =>
      refine codeAny_handlers_suite_as (HandSPX.lands_againZ flA fun hB flB upB => ?_)
      have JB : Inv X pins σ' H' { s' with heap := hB } := J.landed nb flB.1 ((up.trans upA).trans upB) os ag
      obtain ⟨oB, vB, eB, zB, dB⟩ := flB.there
      refine store_ok (X := X.suite a ((a, oB) :: (X.pn ++ pins))) (v := .ref a) (JB.suite eB dB na nLoc nFs) hN hi (.inl hln) rfl (fun sS SS => ?_) (.inr hln)
      have inside := (hsu a oB cls d (X.pn ++ pins) zB ⟨_, dB⟩).run [] sS _ H' _ SS (hyes rfl a na)
      refine wpAny_mono inside (fun f sE hsp => ?_) (fun _ _ z => False.elim z)
      have close : ∀ {σE : L2.St} {HE : Hp} {Q : Shared → Prop}, Inv (X.suite a ((a, oB) :: (X.pn ++ pins))) [] σE HE sE → (∀ sZ, Inv X ((a, oB) :: pins) (σE.set i none) HE sZ → Q sZ) →
          wpAny (model X.prog X.w) X.A (do bindName X.env n .none; unbindBehindTheSuite X.env n pos') (fun _ sZ => Q sZ) X.xe sE := fun {σE HE Q} SE hq => gone_ok (unsuiteK SE okX) hN hi hln hq
      cases f with
      | next =>
        obtain ⟨σE, HE, SE, qE⟩ := hsp
        refine close SE fun sZ JZ => ?_
        obtain ⟨g1, g2, g3, _, _⟩ := JZ.pin (a, oB) (List.mem_append_right _ List.mem_cons_self)
        refine ⟨_, _, track (unpin JZ) (young_of J hex goneI) g2 (Ne.symm g3) (notcell (unpin JZ) g1 dB) (fun p hp z => ?_) (exK_ok g1 zB dB), qE g2⟩
        have := (J.pin p hp).1
        rw [z, goneI] at this
        cases this
      | brk =>
        obtain ⟨σE, HE, SE, qE⟩ := hsp
        exact close SE fun sZ JZ => ⟨_, _, unpin JZ, qE⟩
      | cont =>
        obtain ⟨σE, HE, SE, qE⟩ := hsp
        exact close SE fun sZ JZ => ⟨_, _, unpin JZ, qE⟩
      | ret u =>
        obtain ⟨vE, σE, HE, SE, rE, qE⟩ := hsp
        exact close SE fun sZ JZ => ⟨_, _, _, unpin JZ, rE, qE⟩
    | false =>
      show wpAny _ X.A (handleBy (.ref a) X.env []) _ _ _
      refine wpAny_handleBy_nil ?_
      obtain ⟨k1, k2, k3, oe, vs, T, oT, tt, eT, zT, dT, h1, hr⟩ := id flA
      unfold PySem.passOn
      refine wpAny_bind (wpAny_field eT dT h1 ?_)
      rw [if_neg (show ¬ ((Value.ref T == Value.none) = true) from by simp)]
      have away : wpAny (model X.prog X.w) X.A (setFlight (.ref a) X.env.frame) (fun _ s4 => wpAny (model X.prog X.w) X.A (throw (.ref a) : Sem Flow) (SP X pins D) X.xe s4) X.xe { s' with heap := hA } := by
        rw [hf]
        refine HandSPX.setFlight_upZ flA fun hB hhB upB => wpAny_throw (tk _ _ ?_)
        exact ⟨a, B, sI, pins, σ', H', cls, d, rfl, J, nb, (up.trans upA).trans upB, .inr (.inr (by rw [hs]; exact hhB)), na, os, ag, hno rfl⟩
      first
        | exact wpAny_bind (wpAny_pure (wpAny_bind away))
        | exact wpAny_bind away
  have through := (hb (wAsV X.K c i ts Wout D) (X.pn ++ pins) XC caught PassesOwn.looking).run [] s σ H D (I.toTry _) h
  refine wpAny_mono through (fun f s1 hsp => ?_) (fun _ _ he => he)
  cases f with
  | next =>
    obtain ⟨σ', H', JJ, q⟩ := hsp
    exact wpAny_execs_nil ⟨σ', H', JJ.ofTry okX, q⟩
  | brk =>
    obtain ⟨σ', H', JJ, q⟩ := hsp
    exact ⟨σ', H', JJ.ofTry okX, q⟩
  | cont =>
    obtain ⟨σ', H', JJ, q⟩ := hsp
    exact ⟨σ', H', JJ.ofTry okX, q⟩
  | ret u =>
    obtain ⟨v, σ', H', JJ, r, q⟩ := hsp
    exact ⟨v, σ', H', JJ.ofTry okX, r, q⟩
end
end Pk

/-! ## A clause of several classes: except (A, B, C) as e, the exception kept as a value -/
namespace Pk
open PySem PySem.Spec PyProof.Rows L2
/-- the test of a clause answers m for the class of what is caught; it may lay a tuple -/
def HT (X : Cx) (t : Expr) (m : Value → Option Bool) : Prop :=
  ∀ {a : Addr} {oe : Obj} {pn : List (Addr × Obj)} {σ : L2.St} {H : Hp} {s : Shared} {cls : Value} {b : Bool} {Q : Bool → Shared → Prop} {E : Value → Shared → Prop}, Inv (X.suite a ((a, oe) :: pn)) [] σ H s → s.heap.get? a = some oe → oe.cls = cls → m cls = some b →
    (∀ h', (∀ q o, s.heap.get? q = some o → h'.get? q = some o) → Q b { s with heap := h' }) →
    wpAny (model X.prog X.w) (X.A.mark (some (.ref a))) (eval t X.env) (fun c s₁ => wpAny (model X.prog X.w) (X.A.mark (some (.ref a))) (excMatches (.ref a) c) Q E s₁) E s
section
variable {X : Cx}
theorem ht_looks {a : Addr} {oe : Obj} {h : Heap} {cls : Value} (ha : h.get? a = some oe) (hc : oe.cls = cls) : PySem.W.Looks (model X.prog X.w) h (typeOf (.ref a)) cls := fun A Q E s k q => wpAny_typeOf_ref (k _ _ ha) (by rw [hc]; exact q)
theorem ht_name {x : Str} {c : Value} {np : Pos} {a : Addr} {oe : Obj} {pn : List (Addr × Obj)} {σ : L2.St} {H : Hp} {s : Shared} {Q : Value → Shared → Prop} {E : Value → Shared → Prop} (hc : Names X x c) (SA : Inv (X.suite a ((a, oe) :: pn)) [] σ H s) (q : Q c s) :
    wpAny (model X.prog X.w) (X.A.mark (some (.ref a))) (eval (.Name x np) X.env) Q E s := by
  obtain ⟨glo, dbg, m1 | ⟨m1, m2, m3⟩⟩ := hc
  · exact ld_glob (X := X.suite a ((a, oe) :: pn)) SA glo m1 q dbg
  · exact ld_blt (X := X.suite a ((a, oe) :: pn)) SA glo m1 m2 q m3 dbg
theorem ht_one {x : Str} {c : Value} {np : Pos} (hc : Names X x c) : HT X (.Name x np) (fun cls => PySem.W.exmOne X.K cls c) := by
  intro a oe pn σ H s cls b Q E SA ha hcl hb q
  exact ht_name hc SA ((PySem.W.exm_one (M := model X.prog X.w) SA.kIn (ht_looks ha hcl) hb).here (q _ fun _ _ z => z))
theorem ht_tup3 {x1 x2 x3 : Str} {c1 c2 c3 : Value} {p1 p2 p3 tpos : Pos} {kk : Nat} (n1 : Names X x1 c1) (n2 : Names X x2 c2) (n3 : Names X x3 c3) :
    HT X (.Tuple [.Name x1 p1, .Name x2 p2, .Name x3 p3] kk tpos) (fun cls => PySem.W.exmAny X.K cls [c1, c2, c3]) := by
  intro a oe pn σ H s cls b Q E SA ha hcl hb q
  refine wpAny_Tuple ?_
  refine wpAny_items_cons (ht_name n1 SA ?_)
  refine wpAny_items_cons (ht_name n2 SA ?_)
  refine wpAny_items_cons (ht_name n3 SA ?_)
  refine wpAny_items_nil ⟨by show (3 : Nat) ≤ sizeLine; rw [sizeLine_eq]; omega, ?_⟩
  have kp : ∀ q o, s.heap.get? q = some o → (s.heap.push { cls := .type "tuple", data := .seq [c1, c2, c3].toArray }).get? q = some o := fun _ _ z => Heap.get?_push_of_some _ z
  exact (PySem.W.exm_tup3 (SA.kIn.keeps kp) ((ht_looks ha hcl).keeps kp) (Heap.get?_push_size s.heap rfl) hb).here (q _ kp)
end
theorem flyingZ_keeps {B : Heap} {l : List Env} {a : Addr} {Z : Obj → Prop} {h h' : Heap} (f : HandSPX.FlyingZ B l a Z h) (k : ∀ b o, h.get? b = some o → h'.get? b = some o) : HandSPX.FlyingZ B l a Z h' := by
  obtain ⟨f1, f2, f3, oe, vs, T, oT, ts, he, hz, hd, h1, hnT, hTe, hT, hdT, h3⟩ := f
  exact ⟨fun b o q => k b o (f1 b o q), f2, f3.of_keeps fun b o q _ => ⟨o, k b o q, rfl⟩, oe, vs, T, oT, ts, k _ _ he, hz, hd, h1, hnT, hTe, k _ _ hT, hdT, h3⟩
def wAsT (m : Value → Option Bool) (i : Nat) (ts : Addr → Value → Option Addr → TS) (Wout : WX) (D : Ends) : WX := fun cls d σ H =>
  ∃ b, m cls = some b ∧ (b = true → ∀ a, H a = none → ts a cls d (behindV i a cls d D) (σ.set i (some (.ref a))) H) ∧ (b = false → Wout cls d σ H)
section
variable {X : Cx} {t : Expr} {n : Str} {m : Value → Option Bool} {i : Nat} {body suite : List Stmt} {b₀ : Stmt} {pos pos' : Pos} {tb : WX → TS} {ts : Addr → Value → Option Addr → TS} {Wout : WX}
theorem ps_try_asT (hex : X.ex = []) (hs : X.stack = X.env :: X.outer) (hf : X.env.frame = some X.env.locals) (hN : X.N.Nodup) (hi : X.N[i]? = some n) (hln : X.env.kindOf n = some .local) (ht : HT X t m) (tk : Takes X Wout)
    (hb : ∀ (W : WX) (pn : List (Addr × Obj)) (xe : Value → Shared → Prop), Takes (X.tr pn xe) W → PassesOwn (model X.prog X.w) X.A X.env xe → PSs (X.tr pn xe) body (tb W))
    (hsu : ∀ (a : Addr) (oe : Obj) (cls : Value) (d : Option Addr) (pn : List (Addr × Obj)), Zc cls d oe → (∃ vs, oe.data = .fields vs) → PSs (X.suite a ((a, oe) :: pn)) (b₀ :: suite) (ts a cls d)) :
    PS X (.Try body [.ExceptHandler (some t) (some n) (b₀ :: suite) pos'] [] [] pos) (fun D σ H => tb (wAsT m i ts Wout D) D σ H) := by
  constructor
  intro pins s σ H D I h
  have okX := I.ok
  have frames : X.A.frames = some (X.env :: X.outer) := okX.frames.trans (by rw [hs])
  refine wpAny_Try_except ?_
  let XC : Value → Shared → Prop := fun e s₁ => wpAny (model X.prog X.w) X.A (noteFrame e X.env) (fun _ s₂ => wpAny (model X.prog X.w) X.A (setFlight e none) (fun _ s₃ =>
    wpAny (model X.prog X.w) X.A (handleBy e X.env [.ExceptHandler (some t) (some n) (b₀ :: suite) pos']) (SP X pins D) X.xe s₃) X.xe s₂) X.xe s₁
  have caught : Takes (X.tr (X.pn ++ pins) XC) (wAsT m i ts Wout D) := by
    rintro u s' ⟨a, B, sI, pins', σ', H', cls, d, rfl, J', nb, up, sky, na, os, ag, b, hb1, hyes, hno⟩
    have J : Inv X pins σ' H' sI := J'.ofTry okX
    have sky' : Sky B (X.env :: X.outer) a (Zc cls d) X.env.locals s'.heap := by
      rw [← hs]
      exact sky
    show wpAny (model X.prog X.w) X.A (noteFrame (.ref a) X.env) _ _ _
    refine Sky.land Zc.steady frames hf sky' fun hA flA upA => ?_
    have JA : Inv X pins σ' H' { s' with heap := hA } := J.landed nb flA.1 (up.trans upA) os ag
    obtain ⟨oA, vA, eA, zA, dA⟩ := flA.there
    have nofr : a ∉ frs (X.env :: X.outer) := fun hm => by
      obtain ⟨_, o', e', hnf⟩ := flA.2.2.1.mem hm
      rw [eA] at e'
      cases e'
      exact hnf _ dA
    have goneI : sI.heap.get? a = none := by
      cases e : sI.heap.get? a with
      | none => rfl
      | some o =>
        have := nb a o e (by rw [show (X.tr (X.pn ++ pins) XC).stack = X.env :: X.outer from hs]; exact nofr)
        rw [flA.2.1] at this
        cases this
    have nLoc : a ≠ X.env.locals := fun z => nofr (List.mem_filterMap.mpr ⟨X.env, List.mem_cons_self, by rw [hf, z]⟩)
    have nFs : a ∉ X.fs := fun hm => by
      obtain ⟨e, he, q⟩ := List.mem_filterMap.mp hm
      exact nofr (List.mem_filterMap.mpr ⟨e, List.mem_cons_of_mem _ he, q⟩)
    have SA := JA.suite eA dA na nLoc nFs
    refine wpAny_handleBy_cons (codeAny_handlers_test ?_) (by intro q; cases q)
    refine ht (oe := oA) (pn := X.pn ++ pins) SA eA zA.1 hb1 fun hP kP => ?_
    have flP := flyingZ_keeps flA kP
    have upP : s'.heap.UpToSlots hP := upA.trans (Heap.UpToSlots.of_keeps kP)
    cases b with
    | true =>
      refine codeAny_handlers_suite_as (HandSPX.lands_againZ (s := { s' with heap := hP }) flP fun hB flB upB => ?_)
      have JB : Inv X pins σ' H' { s' with heap := hB } := J.landed nb flB.1 ((up.trans upP).trans upB) os ag
      obtain ⟨oB, vB, eB, zB, dB⟩ := flB.there
      refine store_ok (X := X.suite a ((a, oB) :: (X.pn ++ pins))) (v := .ref a) (JB.suite eB dB na nLoc nFs) hN hi (.inl hln) rfl (fun sS SS => ?_) (.inr hln)
      have inside := (hsu a oB cls d (X.pn ++ pins) zB ⟨_, dB⟩).run [] sS _ H' _ SS (hyes rfl a na)
      refine wpAny_mono inside (fun f sE hsp => ?_) (fun _ _ z => False.elim z)
      have close : ∀ {σE : L2.St} {HE : Hp} {Q : Shared → Prop}, Inv (X.suite a ((a, oB) :: (X.pn ++ pins))) [] σE HE sE → (∀ sZ, Inv X ((a, oB) :: pins) (σE.set i none) HE sZ → Q sZ) →
          wpAny (model X.prog X.w) X.A (do bindName X.env n .none; unbindBehindTheSuite X.env n pos') (fun _ sZ => Q sZ) X.xe sE := fun {σE HE Q} SE hq => gone_ok (unsuiteK SE okX) hN hi hln hq
      cases f with
      | next =>
        obtain ⟨σE, HE, SE, qE⟩ := hsp
        refine close SE fun sZ JZ => ?_
        obtain ⟨g1, g2, g3, _, _⟩ := JZ.pin (a, oB) (List.mem_append_right _ List.mem_cons_self)
        refine ⟨_, _, track (unpin JZ) (young_of J hex goneI) g2 (Ne.symm g3) (notcell (unpin JZ) g1 dB) (fun p hp z => ?_) (exK_ok g1 zB dB), qE g2⟩
        have := (J.pin p hp).1
        rw [z, goneI] at this
        cases this
      | brk =>
        obtain ⟨σE, HE, SE, qE⟩ := hsp
        exact close SE fun sZ JZ => ⟨_, _, unpin JZ, qE⟩
      | cont =>
        obtain ⟨σE, HE, SE, qE⟩ := hsp
        exact close SE fun sZ JZ => ⟨_, _, unpin JZ, qE⟩
      | ret u =>
        obtain ⟨vE, σE, HE, SE, rE, qE⟩ := hsp
        exact close SE fun sZ JZ => ⟨_, _, _, unpin JZ, rE, qE⟩
    | false =>
      show wpAny _ X.A (handleBy (.ref a) X.env []) _ _ _
      refine wpAny_handleBy_nil ?_
      obtain ⟨k1, k2, k3, oe, vs, T, oT, tt, eT, zT, dT, h1, hr⟩ := id flP
      unfold PySem.passOn
      refine wpAny_bind (wpAny_field eT dT h1 ?_)
      rw [if_neg (show ¬ ((Value.ref T == Value.none) = true) from by simp)]
      have away : wpAny (model X.prog X.w) X.A (setFlight (.ref a) X.env.frame) (fun _ s4 => wpAny (model X.prog X.w) X.A (throw (.ref a) : Sem Flow) (SP X pins D) X.xe s4) X.xe { s' with heap := hP } := by
        rw [hf]
        refine HandSPX.setFlight_upZ (s := { s' with heap := hP }) flP fun hB hhB upB => wpAny_throw (tk _ _ ?_)
        exact ⟨a, B, sI, pins, σ', H', cls, d, rfl, J, nb, (up.trans upP).trans upB, .inr (.inr (by rw [hs]; exact hhB)), na, os, ag, hno rfl⟩
      first
        | exact wpAny_bind (wpAny_pure (wpAny_bind away))
        | exact wpAny_bind away
  have through := (hb (wAsT m i ts Wout D) (X.pn ++ pins) XC caught PassesOwn.looking).run [] s σ H D (I.toTry _) h
  refine wpAny_mono through (fun f s1 hsp => ?_) (fun _ _ he => he)
  cases f with
  | next =>
    obtain ⟨σ', H', JJ, q⟩ := hsp
    exact wpAny_execs_nil ⟨σ', H', JJ.ofTry okX, q⟩
  | brk =>
    obtain ⟨σ', H', JJ, q⟩ := hsp
    exact ⟨σ', H', JJ.ofTry okX, q⟩
  | cont =>
    obtain ⟨σ', H', JJ, q⟩ := hsp
    exact ⟨σ', H', JJ.ofTry okX, q⟩
  | ret u =>
    obtain ⟨v, σ', H', JJ, r, q⟩ := hsp
    exact ⟨v, σ', H', JJ.ofTry okX, r, q⟩
end
end Pk

/-! ## Calls whose exceptions are told with the slots as they stand: classmethods and classes, by position and by name -/
namespace Pk
open PySem PySem.Spec PyProof.Rows L2
section
variable {X : Cx} {CX : CXT} {k : Nat} {σ : L2.St} {H : Hp} {s : Shared} {pins : List (Addr × Obj)} {E : L2.St → XK} {sp : Sp}
theorem run_fnRS {f : Addr} {Q : VK} {us : List Value} {vs : List V} (F : FnR X.prog X.w X.K X.mg X.base CX k f sp) (hr : Room k X.A) (hx : PassesAt CX X σ (E σ)) (I : Inv X pins σ H s) (r : Vals vs us) (h : sp vs H Q (E σ)) :
    codeAny (model X.prog X.w) X.A (.call (.ref f) ⟨us, []⟩) (fun r s' => match r with | .ok (.ret v) => EP X pins σ Q v s' | .ok _ => False | .error e => X.xe e s') s := by
  refine codeAny_mono (F X.A X.stack s H us vs Q (E σ) hr I.env0 r h) fun r s' hq => ?_
  cases r with
  | error e => exact hx pins H s e s' I hq
  | ok fl =>
    cases fl with
    | ret u => exact I.after hq
    | next => exact False.elim hq
    | brk => exact False.elim hq
    | cont => exact False.elim hq
/-- C.m(..), m a classmethod, by position -/
def tCMethS (C : Addr) (sp : Sp) (E : L2.St → XK) (ta : TE) (t : TA) : TE := fun σ H Q => ta σ H fun x H1 => x = .ref C ∧ t σ H1 fun vs H2 => sp (.ref C :: vs) H2 Q (E σ)
theorem pe_cmethS {C p g : Addr} {mc : Value} {o e : Expr} {es : List Expr} {m : Str} {pos apos : Pos} {ta : TE} {t : TA} {pl : Sem Bool} (he : PE X o ta) (r : ClX.CRead X.K C mc) (c : ClX.CMet X.K C mc m p g) (F : FnR X.prog X.w X.K X.mg X.base CX k g sp) (hr : Room k X.A)
    (hx : ∀ σ, PassesAt CX X σ (E σ)) (ha : PA X (e :: es) t)
    (hst : starEach (e :: es) X.env = (false, eval e X.env) :: starEach es X.env := by rfl) (hpl : (backTo pos (starEach es X.env)).any (·.1) = false := by rfl)
    (ht : eval (.Call (.Attribute o m apos) (e :: es) [] pos) X.env = (do
      let ov ← eval o X.env
      standAt apos.atName
      let (f, first) ← holding [ov] (getMethod ov m pl)
      callWith pos f first (backTo pos (starEach (e :: es) X.env)) (backToKw pos (keywordEach [] X.env))) := by rfl) :
    PE X (.Call (.Attribute o m apos) (e :: es) [] pos) (tCMethS C sp E ta t) := by
  refine ⟨fun pins s σ H Q I h => ?_⟩
  refine PySem.W.methodCall_KW (pl := pl) (thn (he.run pins s σ H _ I h) fun u s1 ⟨x, H1, I1, rx, ex, q⟩ => ?_) ht
  subst ex
  obtain rfl : u = Value.ref C := rx
  refine ClX.getmethcm_ok I1 r c fun s2 I2 => ?_
  refine ClX.callwith_cm I2 (ClX.base_none I1 (Nat.le_refl _)) c.fi (thn (ha.run pos _ s2 σ H1 _ I2 q) fun us s3 ⟨vs, H2, I3, rv, q2⟩ => ⟨⟨ClX.pin_at I3, I3.kIn⟩, ?_⟩) hst hpl
  have z := wpAny_call (PySem.W.method_call (ClX.pin_at I3) (run_fnRS (us := .ref C :: us) (vs := .ref C :: vs) F hr (hx σ) I3 (.cons rfl rv) q2))
  exact thn z fun _ _ y => ClX.unpinE y
/-- how the parameters behind the first one bind, all by name -/
structure KM (K : PySem.W.Frag) (fd : FuncData) (ps ks : List Str) (g : List Value → List Value) (gV : List V → List V) : Prop where
  to : ∀ (s : Shared) (c : Value) (ws : List Value), K.In s.heap → ws.length = ks.length → BindsTo s fd ⟨[c], ks.zip ws⟩ (ps.zip (c :: g ws))
  rel : ∀ {zs : List V} {ws : List Value}, zs.length = ks.length → Vals zs ws → Vals (gV zs) (g ws)
/-- C.m(k = v, ..), m a classmethod -/
def tCMethK (C : Addr) (n : Nat) (sp : Sp) (gV : List V → List V) (E : L2.St → XK) (ta : TE) (tk : TA) : TE := fun σ H Q => ta σ H fun x H1 => x = .ref C ∧ tk σ H1 fun zs H2 => zs.length = n ∧ sp (.ref C :: gV zs) H2 Q (E σ)
theorem pe_cmethK {C p f : Addr} {fd : FuncData} {ps ks : List Str} {g : List Value → List Value} {gV : List V → List V} {mc : Value} {o : Expr} {kws : List Keyword} {m : Str} {pos apos : Pos} {ta : TE} {tk : TA} {pl : Sem Bool}
    (he : PE X o ta) (r : ClX.CRead X.K C mc) (c : ClX.CMet X.K C mc m p f) (F : FnOk X.prog X.w X.K X.mg X.base CX k f fd ps sp) (hb : KM X.K fd ps ks g gV) (hr : Room k X.A)
    (hx : ∀ σ, PassesAt CX X σ (E σ)) (hkw : PK X kws tk)
    (hall : (backToKw pos (keywordEach kws X.env)).all (·.1.isSome) = true := by rfl) (hks : (backToKw pos (keywordEach kws X.env)).filterMap (·.1) = ks := by rfl)
    (hpl : ((backTo pos (starEach [] X.env)).any (·.1) || (backToKw pos (keywordEach kws X.env)).any (·.1.isNone)) = false := by rfl)
    (ht : eval (.Call (.Attribute o m apos) [] kws pos) X.env = (do
      let ov ← eval o X.env
      standAt apos.atName
      let (f, first) ← holding [ov] (getMethod ov m pl)
      callWith pos f first (backTo pos (starEach [] X.env)) (backToKw pos (keywordEach kws X.env))) := by rfl) :
    PE X (.Call (.Attribute o m apos) [] kws pos) (tCMethK C ks.length sp gV E ta tk) := by
  refine ⟨fun pins s σ H Q I h => ?_⟩
  refine PySem.W.methodCall_KW (pl := pl) (thn (he.run pins s σ H _ I h) fun u s1 ⟨x, H1, I1, rx, ex, q⟩ => ?_) ht
  subst ex
  obtain rfl : u = Value.ref C := rx
  refine ClX.getmethcm_ok I1 r c fun s2 I2 => ?_
  refine PySem.W.callWith_of hpl (PySem.W.keeps_M (self := Value.ref C) c.fi) (evalArgs_kw2_nil hall ?_)
  refine thn (hkw.run pos _ s2 σ H1 _ I2 q) fun ws s3 ⟨zs, H2, I3, rz, l2, q2⟩ => ⟨⟨ClX.pin_at I3, I3.kIn⟩, ?_⟩
  rw [hks]
  have r2 : Vals (V.ref C :: gV zs) (Value.ref C :: g ws) := .cons rfl (hb.rel l2 rz)
  have z : wpAny (model X.prog X.w) X.A (call (.ref s1.heap.objs.size) ([] ++ []) (ks.zip ws)) (EP X ((s1.heap.objs.size, PySem.W.methodObj (.ref f) (.ref C)) :: pins) σ Q) X.xe s3 := by
    refine wpAny_call (PySem.W.method_call (ClX.pin_at I3) (codeAny_mono (F.run X.A X.stack s3 H2 ⟨[Value.ref C], ks.zip ws⟩ (Value.ref C :: g ws) (V.ref C :: gV zs) Q (E σ) hr I3.env0 (hb.to s3 _ ws I3.kIn (rz.length.symm.trans l2)) r2 q2) fun r s' hq => ?_))
    cases r with
    | error e => exact hx σ _ H2 s3 e s' I3 hq
    | ok fl =>
      cases fl with
      | ret u => exact I3.after hq
      | next => exact False.elim hq
      | brk => exact False.elim hq
      | cont => exact False.elim hq
  exact thn z fun _ _ y => ClX.unpinE y
/-- C(k = v, ..) -/
def tMakeKS (C : Addr) (n : Nat) (sp : Sp) (gV : List V → List V) (E : L2.St → XK) (tk : TA) : TE := fun σ H Q => tk σ H fun zs H2 => zs.length = n ∧ ∀ x dx, H2 x = none → H2 dx = none → dx ≠ x →
  sp (.ref x :: gV zs) (upd (upd H2 dx (.own x)) x (.ins C dx [])) (fun v H3 => v = .non ∧ Q (.ref x) H3) (E σ)
theorem pe_makeKS {C f : Addr} {fd : FuncData} {ps ks : List Str} {g : List Value → List Value} {gV : List V → List V} {x : Str} {p pos : Pos} {kws : List Keyword} {tk : TA}
    (M : Mk X.K C f) (F : FnOk X.prog X.w X.K X.mg X.base CX k f fd ps sp) (hr : Room (k + 1) X.A) (hg : Gl X x) (hm : X.mg x = some (.ref C)) (hb : KM X.K fd ps ks g gV) (hx : ∀ σ, PassesAt CX X σ (E σ)) (hkw : PK X kws tk)
    (hall : (backToKw pos (keywordEach kws X.env)).all (·.1.isSome) = true := by rfl) (hks : (backToKw pos (keywordEach kws X.env)).filterMap (·.1) = ks := by rfl) (hdb : (x == ("__debug__" : Str)) = false := by decide)
    (hpl : ((backTo pos (starEach [] X.env)).any (·.1) || (backToKw pos (keywordEach kws X.env)).any (·.1.isNone)) = false := by rfl) :
    PE X (.Call (.Name x p) [] kws pos) (tMakeKS C ks.length sp gV E tk) := by
  refine ⟨fun pins s σ H Q I h => ?_⟩
  refine wpAny_Call_Name_kw (ld_glob I hg hm ?_ hdb)
  refine PySem.W.callWith_KW0 (h₀ := X.base) I.ok.mod.kin M.kp hall ?_ hpl
  refine thn (hkw.run pos pins s σ H _ I h) fun ws s2 ⟨zs, H2, I2, rz, l2, q2⟩ => ⟨I2.kIn, ?_⟩
  rw [hks]
  have hq := q2 (s2.heap.objs.size + 1) s2.heap.objs.size (I2.hok.fresh (Nat.le_succ _)) (I2.hok.fresh (Nat.le_refl _)) (Nat.ne_of_lt (Nat.lt_succ_self _))
  have I3 := Inv.made (C := C) I2
  have r2 : Vals (V.ref (s2.heap.objs.size + 1) :: gV zs) (Value.ref (s2.heap.objs.size + 1) :: g ws) := .cons rfl (hb.rel l2 rz)
  refine wpAny_call (make_map (f := f) I2.kIn M.makes M.init (beq_iff_eq.mp M.fn) (codeAny_mono (F.run _ X.stack _ _ ⟨[Value.ref (s2.heap.objs.size + 1)], ks.zip ws⟩ (Value.ref (s2.heap.objs.size + 1) :: g ws) _ _ (E σ) (hr.make C [] (ks.zip ws))
    (I3.env0.make C [] (ks.zip ws)) (hb.to _ _ ws I3.kIn (rz.length.symm.trans l2)) r2 hq) fun r s' hq' => ?_))
  cases r with
  | error e => exact hx σ pins _ _ e s' I3 hq'
  | ok fl =>
    cases fl with
    | ret u =>
      obtain ⟨v, H', I4, rv, ev, q3⟩ := I3.after hq'
      subst ev
      exact ⟨rv, ⟨V.ref (s2.heap.objs.size + 1), H', I4, rfl, q3⟩⟩
    | next => exact False.elim hq'
    | brk => exact False.elim hq'
    | cont => exact False.elim hq'
end
end Pk

/-! ## Own exceptions: their facts in one answer; isinstance of a kept one; lists of the same things -/
namespace PySem.W
open PySem PySem.Spec PySem.Calls PyProof.Rows
section
variable {prog : Program} {w : World} {A : Around} {E : Value → Shared → Prop} {s : Shared} {K : Frag} {x D : Addr} {ox od : Obj}
theorem pk_classE {Q : Option Value → Shared → Prop} (hga : findIn K (.ref D) "__getattribute__" = some (some (.builtin "BaseException.__getattribute__"))) (hgt : findIn K (.ref D) "__getattr__" = some none) (hsub : subIn K (.ref D) (.type "BaseException") = some true)
    (hdct : hasDictIn K D = true) (ha : findIn K (.ref D) "__class__" = some (some (.builtin "object.__class__")))
    (hn : specialIn K (.builtin "object.__class__") "__get__" = some (some (.builtin "getset_descriptor.__get__"))) (htk : takesIn K (.builtin "object.__class__") = some true) (hm : mroIn K D (.type "object") = some true)
    (X : K.In s.heap) (I : InstAt s.heap x ox D (some od)) (h : Q (some (.ref D)) { s with toks := s.toks + 1 }) : wpAny (model prog w) A (getAttr? (.ref x) "__class__") Q E s := by
  have hf : findObj K D (some od) "__class__" = some (.bind (.builtin "getset_descriptor.__get__") (.builtin "object.__class__")) := findObj_data (by obtain ⟨cd, hc, _⟩ := any_some hdct; rw [hc]; rfl) ha hn htk
  obtain ⟨hp, g, d, t, os⟩ := s
  have L0 := I.type (M := model prog w)
  have L1 := looks_findIn (M := model prog w) X hga
  have L2 := looks_findIn (M := model prog w) X hgt
  have L3 := looks_find (M := model prog w) X I hf
  have sub : Looks (model prog w) hp (isInstance (.ref x) (.type "BaseException")) true := L0.andThen (looks_subIn X hsub)
  have hx0 : (false && onTheHeap (Value.builtin "BaseException.__getattribute__")) = false := rfl
  have hx2 : (Value.builtin "BaseException.__getattribute__" == Value.builtin "object.__getattribute__") = false := by decide +kernel
  have hx1 : (onTheHeap (Value.ref D) && Value.builtin "BaseException.__getattribute__" == Value.builtin "object.__getattribute__") = false := by rw [hx2]; rfl
  unfold getAttr? getAttrBy? getAttrBy
  refine wpAny_bind (wpAny_mkText (wpAny_bind (wpAny_attempt (wpAny_holding (wpAny_bind (L0.at (wpAny_bind (L1.at ?_))))))))
  show wpAny _ _ (if (onTheHeap (Value.ref D) && Value.builtin "BaseException.__getattribute__" == Value.builtin "object.__getattribute__") = true then _ else _) _ _ _
  rw [hx1, if_neg Bool.false_ne_true]
  unfold getAttrByItsOwn hookBefore
  refine wpAny_bind ?_
  rw [if_pos (show onTheHeap (Value.ref D) = true from rfl)]
  refine L2.at ?_
  refine wpAny_bind (wpAny_attempt (wpAny_holding ?_))
  unfold callGetattribute
  rw [hx0, if_neg Bool.false_ne_true]
  unfold boundAndCalled
  rw [PySem.F.excAttr_ValueError.ga.bind (.ref x)]
  refine wpAny_bind (wpAny_pure ?_)
  show wpAny _ _ (call (.builtin "BaseException.__getattribute__") [.ref x, .str "__class__" t]) _ _ _
  refine wpAny_call (codeAny_call_builtin PySem.F.excAttr_ValueError.ga.plain PySem.F.entry_bexc_ga ?_)
  refine @check_slot (model prog w) _ _ ⟨hp, g, d, t + 1, os⟩ "BaseException.__getattribute__" "BaseException" "__getattribute__" (.ref x) [.str "__class__" t] [] _ (by decide +kernel) (by decide +kernel) sub (PySem.F.args_bexc_ga (.ref x) (.str "__class__" t)) ?_
  unfold Builtin.«object.__getattribute__»
  refine wpAny_bind (wpAny_of_eq (a := ((Value.ref x : Value), [Value.str "__class__" t])) (by first | rfl | (simp only [slotArgs]; rfl)) ?_)
  refine wpAny_bind (wpAny_pure (wpAny_bind (L0.at (wpAny_bind (L3.at ?_)))))
  show wpAny _ _ (holding [Value.builtin "object.__class__"] (call (.builtin "getset_descriptor.__get__") [.builtin "object.__class__", .ref x, .ref D]) >>= ret) _ _ _
  refine wpAny_bind (wpAny_holding (wpAny_call (class_get (s := ⟨hp, g, d, t + 1, os⟩) (ox := ox) (od := some od) X I hm ?_)))
  refine wpAny_pure ?_
  show wpAny _ _ (handedOut (.ref D)) _ _ _
  rw [handedOut_of (v := .ref D) rfl]
  first
    | exact wpAny_pure (wpAny_pure h)
    | exact wpAny_pure h
    | exact wpAny_pure (wpAny_bind (wpAny_pure (wpAny_pure h)))
theorem pk_kitxE (hga : findIn K (.ref D) "__getattribute__" = some (some (.builtin "BaseException.__getattribute__"))) (hgt : findIn K (.ref D) "__getattr__" = some none) (hsub : subIn K (.ref D) (.type "BaseException") = some true) (hdct : hasDictIn K D = true) (ha : findIn K (.ref D) "__class__" = some (some (.builtin "object.__class__")))
    (hn : specialIn K (.builtin "object.__class__") "__get__" = some (some (.builtin "getset_descriptor.__get__"))) (htk : takesIn K (.builtin "object.__class__") = some true) (hm : mroIn K D (.type "object") = some true) :
    KitX K (.ref x) (.ref D) (fun h => InstAt h x ox D (some od)) where
  ty := fun _ _ _ I => I.type
  it := fun _ _ X _ => by
    obtain ⟨cdD, hcD, _⟩ := any_some hdct
    unfold clsIn at hcD
    split at hcD
    · rename_i c' d' cd' sl' ho
      intro A' Q' E' s' k q
      unfold isType loadHead
      exact wpAny_bind (wpAny_loadPart (k _ _ (X _ _ ho)) (wpAny_pure q))
    · cases hcD
  ne := fun h tp dd its n sl X htp => by
    obtain ⟨cdD, hcD, _⟩ := any_some hdct
    refine Bool.eq_false_iff.mpr fun q => ?_
    have e : D = tp := Value.ref.inj (beq_iff_eq.mp q)
    subst e
    unfold clsIn at hcD
    split at hcD
    · rename_i c' d' cd' sl' ho
      have z := (X _ _ ho).symm.trans htp
      cases z
    · cases hcD
  ca := fun X I k => pk_classE hga hgt hsub hdct ha hn htk hm X I k
end
end PySem.W
namespace Pk
open PySem PySem.Spec PyProof.Rows L2
/-- the class object, as OexC asks it -/
def oexB (K : PySem.W.Frag) (C : Addr) : Bool := match K.lookup C with
  | some ⟨.type "type", _, .cls cd, sl⟩ => (match cd.mro, sl.toList with
    | .ref C' :: bm, [_, _, _, _, some (.builtin n), _] => C' == C && n == "ValueError.__new__" && cd.hasDict && !cd.hasDel && PySem.HandSPX.refsVE bm
    | _, _ => false)
  | _ => false
theorem oexB_ok {K : PySem.W.Frag} {C : Addr} (q : oexB K C = true) :
    ∃ nm qn N bs bm sn sub ab col dd k0 k1 k2 k3 k5, K.lookup C = some (excClassObj nm qn C N bs bm true sn sub ab col dd k0 k1 k2 k3 k5 "ValueError.__new__") ∧ PySem.HandSPX.refsVE bm = true := by
  unfold oexB at q
  split at q
  · rename_i dd cd sl ho
    split at q
    · rename_i C' bm k0 k1 k2 k3 n k5 hm hs
      simp only [Bool.and_eq_true, beq_iff_eq, Bool.not_eq_true'] at q
      obtain ⟨⟨⟨⟨rfl, rfl⟩, hd⟩, hdel⟩, hr⟩ := q
      obtain ⟨nm, bs, mro, ns, qn, hd', sn, sub, ab, col, del⟩ := cd
      dsimp only at hm hdel hd
      subst hm hdel hd
      have hsl : sl = #[k0, k1, k2, k3, some (.builtin "ValueError.__new__"), k5] := by
        obtain ⟨l⟩ := sl
        simp only at hs
        rw [hs]
      subst hsl
      exact ⟨nm, qn, ns, bs, bm, sn, sub, ab, col, dd, k0, k1, k2, k3, k5, ho, hr⟩
    · cases q
  · cases q
/-- a raised own exception class -/
structure ExA (K : PySem.W.Frag) (C : Addr) : Prop where
  o : OexC K C
  x : XfC K C
  e : ExcC K C
def exaB (K : PySem.W.Frag) (C : Addr) : Bool := oexB K C && (decide (PySem.W.findIn K (.ref C) "__setattr__" = some (some (.builtin "object.__setattr__"))) && (decide (PySem.W.typeIn K (.ref C) = some (.type "type")) && (PySem.W.keepIn K (.ref C) && (xfB K C &&
  (decide (PySem.W.findIn K (.ref C) "__class__" = some (some (.builtin "object.__class__"))) && (decide (PySem.W.specialIn K (.builtin "object.__class__") "__get__" = some (some (.builtin "getset_descriptor.__get__"))) &&
  (decide (PySem.W.takesIn K (.builtin "object.__class__") = some true) && decide (PySem.W.mroIn K C (.type "object") = some true))))))))
theorem exaB_ok {K : PySem.W.Frag} {C : Addr} (h : exaB K C = true) : ExA K C := by
  obtain ⟨h1, h⟩ := Bool.and_eq_true_iff.mp h
  obtain ⟨h2, h⟩ := Bool.and_eq_true_iff.mp h
  obtain ⟨h3, h⟩ := Bool.and_eq_true_iff.mp h
  obtain ⟨h4, h⟩ := Bool.and_eq_true_iff.mp h
  obtain ⟨h5, h⟩ := Bool.and_eq_true_iff.mp h
  obtain ⟨h6, h⟩ := Bool.and_eq_true_iff.mp h
  obtain ⟨h7, h⟩ := Bool.and_eq_true_iff.mp h
  obtain ⟨h8, h9⟩ := Bool.and_eq_true_iff.mp h
  have x := xfB_ok h5
  exact ⟨⟨oexB_ok h1, of_decide_eq_true h2, x.exC, of_decide_eq_true h3, h4⟩, x, ⟨x.ga, x.gg, x.exC, x.hdC, of_decide_eq_true h6, of_decide_eq_true h7, of_decide_eq_true h8, of_decide_eq_true h9⟩⟩
/-- a class that a clause or isinstance names -/
structure NmC (K : PySem.W.Frag) (C : Addr) : Prop where
  be : PySem.W.subIn K (.ref C) (.type "BaseException") = some true
  hd : PySem.W.hasDictIn K C = true
  ty : PySem.W.typeIn K (.ref C) = some (.type "type")
  se : PySem.W.subIn K (.ref C) (.ref C) = some true
def nmB (K : PySem.W.Frag) (C : Addr) : Bool := decide (PySem.W.subIn K (.ref C) (.type "BaseException") = some true) && (PySem.W.hasDictIn K C && (decide (PySem.W.typeIn K (.ref C) = some (.type "type")) && decide (PySem.W.subIn K (.ref C) (.ref C) = some true)))
theorem nmB_ok {K : PySem.W.Frag} {C : Addr} (h : nmB K C = true) : NmC K C := by
  obtain ⟨h1, h⟩ := Bool.and_eq_true_iff.mp h
  obtain ⟨h2, h⟩ := Bool.and_eq_true_iff.mp h
  obtain ⟨h3, h4⟩ := Bool.and_eq_true_iff.mp h
  exact ⟨of_decide_eq_true h1, h2, of_decide_eq_true h3, of_decide_eq_true h4⟩
theorem exm_sub {K : PySem.W.Frag} {C : Addr} {t : Value} {b : Bool} (N : NmC K C) (h : PySem.W.subIn K t (.ref C) = some b) : PySem.W.exmOne K t (.ref C) = some b := PySem.W.exm_ref N.be N.hd N.ty h
theorem exm_any3 {K : PySem.W.Frag} {t c1 c2 c3 : Value} {b1 b2 b3 : Bool} (h1 : PySem.W.exmOne K t c1 = some b1) (h2 : PySem.W.exmOne K t c2 = some b2) (h3 : PySem.W.exmOne K t c3 = some b3) : PySem.W.exmAny K t [c1, c2, c3] = some (b1 || (b2 || (b3 || false))) := by
  unfold PySem.W.exmAny PySem.W.exmAny PySem.W.exmAny PySem.W.exmAny
  rw [h1, h2, h3]
theorem kit_sub {K : PySem.W.Frag} {C D : Addr} {b : Bool} (N : NmC K C) (h : PySem.W.subIn K (.ref D) (.ref C) = some b) : PySem.W.kitOne K (.ref D) (.ref C) = some b := by
  unfold PySem.W.kitOne
  by_cases e : D = C
  · subst e
    rw [if_pos (by simp)]
    rw [N.se] at h
    exact h
  · rw [if_neg (by simp [e])]
    obtain ⟨cd, hc, _⟩ := PySem.W.any_some N.hd
    have e2 : ((PySem.W.clsIn K C).isSome && PySem.W.typeIn K (.ref C) == some (.type "type")) = true := by rw [hc, N.ty] <;> rfl
    show (if ((PySem.W.clsIn K C).isSome && PySem.W.typeIn K (.ref C) == some (.type "type")) = true then PySem.W.subIn K (.ref D) (.ref C) else none) = some b
    rw [if_pos e2]
    exact h
/-- isinstance(e, C), e a kept exception -/
def rIsEV (K : PySem.W.Frag) : List V → Hp → VK → Prop := fun xs H Q => ∃ (a D dd : Addr) (fs : List (Str × V)) (c : V) (cv : Value) (b : Bool), xs = [.ref a, c] ∧ ExcC K D ∧ H a = some (ExK (.ref D) (some dd) a) ∧ H dd = some (.xd fs) ∧ (∀ u, RelV c u → u = cv) ∧ PySem.W.kitOne K (.ref D) cv = some b ∧ Q (.bl b) H
theorem call_isEV {X : Cx} : CallR X (.builtin "isinstance") (rIsEV X.K) := by
  intro pins s σ H xs us Q I r h
  obtain ⟨a, D, dd, fs, c, cv, b, rfl, C, hx, hd, hcv, e, q⟩ := h
  obtain ⟨u1, u2, rfl, r1, r2⟩ := vals2 r
  obtain rfl : u1 = Value.ref a := r1
  have ec := hcv _ r2
  subst ec
  obtain ⟨oe, vs, there, hz, hf⟩ := exK_at I.hok hx
  obtain ⟨mA, hns, _⟩ : ObjOk X.prog X.w H s.heap dd (.xd fs) := I.hok dd _ hd
  obtain ⟨od, ho, _⟩ := lookIn_ns hns
  have J : PySem.W.InstAt s.heap a oe D (some od) := ⟨there, hz.1, by unfold PySem.W.notCls; rw [hf] <;> rfl, by rw [hz.2]; exact ho⟩
  exact PySem.W.kia_one (PySem.W.pk_kitxE C.hg C.hk C.hs C.hd C.ha C.hn C.ht C.hm) I.kIn J e (fun z => nomatch z) fun tk => ⟨.bl b, H, I.kept (t' := tk) fun _ _ z => z, rfl, q⟩
/-- lists of the same things: each pair one plain value, or one object -/
def SameV (x y : V) : Prop := x = y ∧ (flatB x = true ∨ ∃ a, x = .ref a)
def rNeSm (K : PySem.W.Frag) : R2 := fun x y H Q => ∃ a b xs, x = .ref a ∧ y = .ref b ∧ SqL K H a xs ∧ SqL K H b xs ∧ (∀ v ∈ xs, flatB v = true ∨ ∃ p, v = .ref p) ∧ Q (.bl false) H
theorem sm_run {A : Around} {s : Shared} : ∀ {xs : List V} {us ws : List Value}, (∀ v ∈ xs, flatB v = true ∨ ∃ p, v = .ref p) → Vals xs us → Vals xs ws → ∀ j (h1 : j < us.length) (h2 : j < ws.length), SeqAt.EqAt A s us[j] ws[j] true
  | [], _, _, _, r1, _, j, h1, _ => by
    cases r1
    exact absurd h1 (Nat.not_lt_zero j)
  | x :: xs, _, _, hx, .cons a1 b1, .cons a2 b2, j, h1, h2 => by
    cases j with
    | zero =>
      rcases hx x List.mem_cons_self with f | ⟨p, rfl⟩
      · exact eqAt_same a1 a2 f
      · cases (show _ = Value.ref p from a1)
        cases (show _ = Value.ref p from a2)
        exact SeqAt.EqAt.same _
    | succ j => exact sm_run (fun v hv => hx v (List.mem_cons_of_mem _ hv)) b1 b2 j (Nat.lt_of_succ_lt_succ h1) (Nat.lt_of_succ_lt_succ h2)
theorem op_neSm {X : Cx} (hu : X.A.units + 64 < cLine) : OpR X (compareOp .NotEq) (rNeSm X.K) := by
  intro pins s σ H x y v u Q I rx ry h
  obtain ⟨a, b, xs, rfl, rfl, ha, hb, hp, q⟩ := h
  cases (show v = Value.ref a from rx)
  cases (show u = Value.ref b from ry)
  obtain ⟨us, r1, p1, _⟩ := I.list ha
  obtain ⟨ws, r2, p2, _⟩ := I.list hb
  have hsz : us.toArray.size = ws.toArray.size := by
    rw [List.size_toArray, List.size_toArray, ← r1.length, ← r2.length]
  refine SeqAt.RcNeAt.lists (e := fun _ => true) p1.isList p2.isList hsz (by omega) (fun j h1 h2 => ?_) X.prog X.w _ _ ?_
  · have k := sm_run (A := X.A.in1) (s := s) hp r1 r2 j (by simpa using h1) (by simpa using h2)
    simpa using k
  · rw [show ((List.range us.toArray.size).all fun _ => true) = true from List.all_eq_true.mpr fun _ _ => rfl]
    exact ⟨.bl false, H, I, rfl, q⟩
end Pk

/-! ## More rules: a classmethod without arguments, texts times numbers, repr of a list with an empty dict, find -/
namespace Pk
open PySem PySem.Spec PyProof.Rows L2 TL SX
section
variable {X : Cx} {CX : CXT} {k : Nat} {E : L2.St → XK} {sp : Sp}
/-- C.m(), m a classmethod -/
theorem pe_cmeth0S {C p g : Addr} {mc : Value} {o : Expr} {m : Str} {pos apos : Pos} {ta : TE} {pl : Sem Bool} (he : PE X o ta) (r : ClX.CRead X.K C mc) (c : ClX.CMet X.K C mc m p g) (F : FnR X.prog X.w X.K X.mg X.base CX k g sp) (hr : Room k X.A)
    (hx : ∀ σ, PassesAt CX X σ (E σ))
    (ht : eval (.Call (.Attribute o m apos) [] [] pos) X.env = (do
      let ov ← eval o X.env
      standAt apos.atName
      let (f, first) ← holding [ov] (getMethod ov m pl)
      callWith pos f first (backTo pos (starEach [] X.env)) (backToKw pos (keywordEach [] X.env))) := by rfl) :
    PE X (.Call (.Attribute o m apos) [] [] pos) (tCMethS C sp E ta tNil) := by
  refine ⟨fun pins s σ H Q I h => ?_⟩
  refine PySem.W.methodCall_KW (pl := pl) (thn (he.run pins s σ H _ I h) fun u s1 ⟨x, H1, I1, rx, ex, q⟩ => ?_) ht
  subst ex
  obtain rfl : u = Value.ref C := rx
  refine ClX.getmethcm_ok I1 r c fun s2 I2 => ?_
  refine PySem.W.callWith_M0 (K := X.K) (self := Value.ref C) (g := g) ⟨ClX.pin_at I2, I2.kIn⟩ c.fi ?_
  have z := wpAny_call (PySem.W.method_call (ClX.pin_at I2) (run_fnRS (us := [Value.ref C]) (vs := [V.ref C]) F hr (hx σ) I2 (.cons rfl .nil) q))
  exact thn z fun _ _ y => ClX.unpinE y
end
/-! ### a text times a number -/
theorem fold_reps (a : Array Nat) : ∀ (n : Nat) (b : Array Nat), ((List.replicate n a).foldl (· ++ ·) b).toList = b.toList ++ (List.replicate n a.toList).flatten
  | 0, b => by simp
  | n + 1, b => by
    rw [List.replicate_succ, List.foldl_cons, fold_reps a n, List.replicate_succ, List.flatten_cons, Array.toList_append, List.append_assoc]
theorem len_reps (l : List Nat) : ∀ n, (List.replicate n l).flatten.length = l.length * n
  | 0 => by simp
  | n + 1 => by
    rw [List.replicate_succ, List.flatten_cons, List.length_append, len_reps l n, Nat.mul_succ]
    omega
def rMulS : R2 := fun x y H Q => ∃ (l : List Nat) (n : Nat), x = .str (S l) ∧ y = .int (n : Int) ∧ l ≠ [] ∧ 2 ≤ n ∧ l.length * n ≤ 100000 ∧ Q (.str (S (List.replicate n l).flatten)) H
theorem op_mulS {X : Cx} : OpR X (binaryOp .Mult) rMulS := by
  intro pins s σ H x y v u Q I rx ry h
  obtain ⟨l, n, rfl, rfl, hne, h2, hz, q⟩ := h
  obtain ⟨t, rfl⟩ := rx
  obtain ⟨t', rfl⟩ := ry
  have hl : (S l).length = l.length := S_len l
  have hn : n ≤ 100000 := Nat.le_trans (Nat.le_mul_of_pos_left n (List.length_pos_iff.mpr hne)) hz
  have h0 : ((n : Int) == 1 || (S l).length == 0) = false := by
    have h1 : l.length ≠ 0 := fun e => hne (List.length_eq_zero_iff.mp e)
    rw [hl]
    rw [Bool.or_eq_false_iff]
    exact ⟨beq_eq_false_iff_ne.mpr (by omega), beq_eq_false_iff_ne.mpr h1⟩
  have et : (⟨(List.replicate ((n : Int)).toNat (S l).cps).foldl (· ++ ·) #[]⟩ : Str) = S (List.replicate n l).flatten := by
    refine ext_tl ?_
    show ((List.replicate ((n : Int)).toNat (S l).cps).foldl (· ++ ·) #[]).toList = (S (List.replicate n l).flatten).cps.toList
    rw [fold_reps, Int.toNat_natCast]
    show [] ++ (List.replicate n (S l).cps.toList).flatten = _
    rw [List.nil_append]
  have hz2 : l.length * n ≤ sizeLine := by
    rw [sizeLine_eq]
    omega
  refine PySem.P.mul_str (x := S l) (n := (n : Int)) ?_ ?_ ?_ ?_
  · rw [Bool.or_eq_false_iff]
    exact ⟨decide_eq_false (by omega), decide_eq_false (by omega)⟩
  · intro _ _
    rw [hl]
    have h1 : l.length ≤ 100000 := Nat.le_trans (Nat.le_mul_of_pos_right _ (by omega)) hz
    have : (2 ^ 63 - 1 : Int) / (n : Int) ≥ 100000 := by
      refine (Int.le_ediv_iff_mul_le (by omega)).mpr ?_
      omega
    omega
  · intro _ _
    rw [hl, Int.toNat_natCast]
    show decide (l.length * n > sizeLine) = false
    exact decide_eq_false (by omega)
  · rw [if_neg (by omega), if_neg (by rw [h0]; exact Bool.false_ne_true), et]
    have hlen : (S (List.replicate n l).flatten).length ≤ sizeLine := by
      rw [S_len, len_reps]
      exact hz2
    exact ⟨hlen, ⟨.str _, H, I.tok _, ⟨_, rfl⟩, q⟩⟩
/-! ### repr of a list of a text and an empty dict -/
def rReprD : List V → Hp → VK → Prop := fun xs H Q => ∃ (a dd : Addr), xs = [.ref a] ∧ a ≠ sysModules ∧ H a = some (.lst [.str "version", .ref dd]) ∧ H dd = some (.dK []) ∧ Q (.str (PyData.shown (.list [.str "version", .dict []]))) H
theorem call_reprD {X : Cx} (hgu : X.A.guards = some []) (hu : X.A.units + 64 < cLine) : CallR X (.builtin "repr") rReprD := by
  intro pins s σ H xs us Q I r h
  obtain ⟨a, dd, rfl, na, ha, hd, q⟩ := h
  obtain ⟨u, rfl, rx⟩ := vals1 r
  obtain rfl : u = Value.ref a := rx
  obtain ⟨us, rv, ⟨o, n, ho, hc, _, hdt⟩, _⟩ := I.list (.inl (.inl ha))
  obtain ⟨hz, hS, vs, r, m⟩ : ([] : List (Key × V)).length ≤ sizeLine ∧ (dd == sysModules) = false ∧ ∃ vs, KV [] vs ∧ s.heap.DictOf (mixKind X.prog X.w) dd vs := I.hok dd _ hd
  cases r
  obtain ⟨o2, es, ep, ho2, hx, hd2, _, hp, _⟩ := m
  have he : es.toList = [] := by
    cases h : es.toList with
    | nil => rfl
    | cons e r =>
      rw [h] at hp
      cases hp
  cases rv with
  | cons r1 rr =>
    cases rr with
    | cons r2 rr =>
      cases rr
      obtain ⟨tk, rfl⟩ := r1
      have r2' : _ = Value.ref dd := r2
      subst r2'
      have rd : Reads s.heap (.ref dd) (.dict []) _ := Reads.dict ho2 hx.1 hd2 (by rw [he]; exact ReadsAll.nil) (by rw [he]; exact ReadsAll.nil)
      have rl := Reads.list ho hc hdt (ReadsAll.cons (Reads.str _ tk) (ReadsAll.cons rd ReadsAll.nil))
      refine repr_of_reads' (h₀ := s.heap) rl (by decide +kernel) (fun _ => ?_) hgu (by show X.A.units + (2 + 1) < cLine; omega) (fun _ _ e => e) (fun h' v tk hk => ⟨.str _, H, I.kept hk, ⟨v, rfl⟩, q⟩) (by decide +kernel)
      have nd : dd ≠ sysModules := by
        rintro rfl
        simp at hS
      simp [Ne.symm na, Ne.symm nd]
/-- either rule -/
theorem callR_or {X : Cx} {f : Value} {r1 r2 : List V → Hp → VK → Prop} (h1 : CallR X f r1) (h2 : CallR X f r2) : CallR X f (fun xs H Q => r1 xs H Q ∨ r2 xs H Q) := by
  intro pins s σ H xs us Q I r h
  rcases h with h | h
  · exact h1 pins s σ H xs us Q I r h
  · exact h2 pins s σ H xs us Q I r h
/-- a list whose place is none of the first ones -/
def tLstN (t : TA) : TE := fun σ H Q => t σ H fun xs H1 => xs.length ≤ sizeLine ∧ ∀ p, H1 p = none → p ≠ sysModules → Q (.ref p) (upd H1 p (.lst xs))
theorem pe_lstN {X : Cx} {es : List Expr} {pos : Pos} {t : TA} (h : PA X es t) : PE X (.List es pos) (tLstN t) := by
  refine ⟨fun pins s σ H Q I hq => ?_⟩
  refine wpAny_List_spliced (thn (h.run pos pins s σ H _ I hq) fun us s1 ⟨xs, H1, I1, r, z, q⟩ => ⟨by rw [← r.length]; exact z, ?_⟩)
  have hf : H1 s1.heap.objs.size = none := I1.hok.fresh (Nat.le_refl _)
  have hb : s1.heap.objs.size ≠ sysModules := by
    have lt : mainGlobals < s1.heap.objs.size := by
      obtain ⟨o, es, ep, e, _⟩ := I1.ok.mod.glob
      exact Heap.lt_size (I1.bk _ _ e)
    intro e
    rw [e] at lt
    exact absurd lt (by decide)
  refine ⟨.ref s1.heap.objs.size, upd H1 s1.heap.objs.size (.lst xs), I1.laid (t' := s1.toks) (fun b u e => Heap.get?_push_of_some _ e) (Nat.le_refl _) ?_, rfl, q _ hf hb⟩
  exact ⟨z, us, 0, r, Heap.get?_push_size _ rfl⟩
/-! ### find -/
theorem find_par (x y : Str) (hy : tl y ≠ []) : (∃ p q, par (tl y) [] (tl x) = some (p, q) ∧ Txt.find x y = (p.length : Int) ∧ tl x = p ++ (tl y ++ q)) ∨ (par (tl y) [] (tl x) = none ∧ Txt.find x y = -1) := by
  have hl := len_tl y
  have hx := len_tl x
  unfold Txt.find
  rcases StrLaws.occ_head x y 1 (Nat.le_refl 1) with ⟨e, hn⟩ | ⟨i, r, e, hi, hn⟩
  · have run := par_run (tl y) (tl x) (tl x).length 0 [] (by omega) (fun k _ _ => no_at hy (hn k))
    rw [List.drop_zero, Nat.zero_add, List.drop_length] at run
    rw [e, run]
    exact .inr ⟨rfl, rfl⟩
  · have hb : i + y.length ≤ x.length := hi.1
    have run := par_run (tl y) (tl x) i 0 [] (by omega) (fun k _ k2 => no_at hy (hn k (by omega)))
    rw [List.drop_zero, Nat.zero_add, List.nil_append, par_at hy ((at_iff hy i).mp hi)] at run
    rw [e, run]
    refine .inl ⟨_, _, rfl, ?_, ?_⟩
    · show (i : Int) = _
      rw [List.length_take]
      omega
    · have hp := (at_iff hy i).mp hi
      have e3 : ((tl x).drop i).take (tl y).length = tl y := by
        unfold pre at hp
        simpa using hp
      conv => lhs; rw [← List.take_append_drop i (tl x), ← List.take_append_drop (tl y).length ((tl x).drop i), e3, List.drop_drop]
/-! ### a list compared with the empty one -/
def rEqNil (K : PySem.W.Frag) : R2 := fun x y H Q => ∃ a b xs, x = .ref a ∧ y = .ref b ∧ SqL K H a xs ∧ SqL K H b [] ∧ Q (.bl xs.isEmpty) H
def rNeNil (K : PySem.W.Frag) : R2 := fun x y H Q => ∃ a b xs, x = .ref a ∧ y = .ref b ∧ SqL K H a xs ∧ SqL K H b [] ∧ Q (.bl (!xs.isEmpty)) H
theorem op_neNil {X : Cx} (hu : X.A.units + 64 < cLine) : OpR X (compareOp .NotEq) (rNeNil X.K) := by
  intro pins s σ H x y v u Q I rx ry h
  obtain ⟨a, b, xs, rfl, rfl, ha, hb, q⟩ := h
  cases (show v = Value.ref a from rx)
  cases (show u = Value.ref b from ry)
  obtain ⟨us, r1, p1, _⟩ := I.list ha
  obtain ⟨ws, r2, p2, _⟩ := I.list hb
  cases r2
  cases xs with
  | nil =>
    cases r1
    refine SeqAt.RcNeAt.lists (e := fun _ => true) p1.isList p2.isList rfl (by omega) (fun j h1 _ => absurd h1 (by simp)) X.prog X.w _ _ ?_
    exact ⟨.bl false, H, I, rfl, q⟩
  | cons x xs =>
    cases r1 with
    | cons ra rb => exact SeqAt.RcNeAt.lists_lengths p1.isList p2.isList (by simp [bne]) (by omega) X.prog X.w _ _ ⟨.bl true, H, I, rfl, q⟩
theorem op_eqNil {X : Cx} (hu : X.A.units + 64 < cLine) : OpR X (compareOp .Eq) (rEqNil X.K) := by
  intro pins s σ H x y v u Q I rx ry h
  obtain ⟨a, b, xs, rfl, rfl, ha, hb, q⟩ := h
  cases (show v = Value.ref a from rx)
  cases (show u = Value.ref b from ry)
  obtain ⟨us, r1, p1, _⟩ := I.list ha
  obtain ⟨ws, r2, p2, _⟩ := I.list hb
  cases r2
  cases xs with
  | nil =>
    cases r1
    refine SeqAt.RcAt.lists (e := fun _ => true) p1.isList p2.isList rfl (by omega) (fun j h1 _ => absurd h1 (by simp)) X.prog X.w _ _ ?_
    exact ⟨.bl true, H, I, rfl, q⟩
  | cons x xs =>
    cases r1 with
    | cons ra rb => exact SeqAt.RcAt.lists_lengths p1.isList p2.isList (by simp [bne]) (by omega) X.prog X.w _ _ ⟨.bl false, H, I, rfl, q⟩
end Pk

/-! ## Rules inside a try, the table of classes named -/
namespace Pk
open PySem PySem.Spec PyProof.Rows L2
section
variable {X : Cx} {KK : PySem.W.Frag}
theorem call_len_seqK (hK : X.K = KK) : CallR X (.builtin "len") (fun xs H Q => ∃ p ys, xs = [.ref p] ∧ (SqL KK H p ys ∨ SqT KK H p ys) ∧ Q (.int ys.length) H) := by
  subst hK
  exact call_len_seq
theorem op_eqNilK (hK : X.K = KK) (hu : X.A.units + 64 < cLine) : OpR X (compareOp .Eq) (rEqNil KK) := by
  subst hK
  exact op_eqNil hu
end
end Pk
namespace Pk
open PySem L2
theorem units65 {k : Nat} {A : Around} (r : Room k A) : A.units + 65 < cLine := by
  have := r.un
  omega
end Pk

/-! ## != of an instance with an own ==, by the default __ne__ -/
namespace Pk
open PySem PySem.Spec PyProof.Rows L2 PySem.SeqAt
section
variable {M : Model} {prog : Program} {w : World} {A : Around} {E : Value → Shared → Prop} {s : Shared} {K : PySem.W.Frag} {x C L g : Addr} {ox : Obj} {od : Option Obj} {b : Value} {h₀ : Heap} {m : Str → Option Value}
theorem ifBound_objNe {args : List Value} {Q : Option Value → Shared → Prop} (X : K.In s.heap) (I : PySem.W.InstAt s.heap x ox C od) (hs : PySem.W.findIn K (.ref C) "__ne__" = some (some (.builtin "object.__ne__")))
    (h : wpAny M A (call (.builtin "object.__ne__") (.ref x :: args)) (fun v => Q (some v)) E s) : wpAny M A (callSpecialIfBound? (.ref x) "__ne__" args) Q E s := by
  simp only [callSpecialIfBound?, bindSpecialIfBound?]
  refine wpAny_holding (wpAny_bind (wpAny_bind (wpAny_bind (I.type.here ((PySem.W.looks_findIn X hs).here ?_)))))
  refine wpAny_bind (wpAny_askSetting (wpAny_ite ?_))
  have fin : wpAny M A (call (.builtin "object.__ne__") ([.ref x] ++ args) >>= fun v => pure (some v)) Q E s := wpAny_bind (wpAny_mono h (fun v s' h' => wpAny_pure h') fun _ _ h' => h')
  split
  · exact wpAny_bind (wpAny_of_eq (F.cmp_object.ne.bind _) (wpAny_pure (by exact fin)))
  · exact wpAny_tryCatch (wpAny_bind (wpAny_of_eq (F.cmp_object.ne.bind _) (wpAny_pure (by exact fin))))
theorem call_objNe {Q : Value → Shared → Prop} (hu : A.in1.units < cLine) (X : K.In s.heap) (I : PySem.W.InstAt s.heap x ox C od) (hm : PySem.W.mroIn K C (.type "object") = some true)
    (hs : PySem.W.findIn K (.ref C) "__eq__" = some (some (.ref g))) (hf : PySem.W.isFn K (.ref g) = true)
    (h : wpAny (model prog w) A.in1 (call (.ref g) [.ref x, b]) (fun v s' => ∃ c, v = .bool c ∧ Q (.bool (!c)) s') E s) :
    wpAny (model prog w) A (call (.builtin "object.__ne__") [.ref x, b]) Q E s := by
  refine wpAny_call (codeAny_call_builtin F.cmp_object.ne.plain F.cmpEntry_ne (PySem.W.check_slot F.cmpKind_ne F.cmpSplit_ne (I.type.andThen (PySem.W.looks_mroIn X hm)) (F.cmpArgs_ne _ _) ?_))
  unfold Builtin.«object.__ne__»
  refine wpAny_bind (wpAny_pure ?_)
  refine wpAny_bind (m := cRoomFor _ _) (wpAny_cRoomFor hu ?_)
  refine wpAny_bind (m := callSpecialIfBound? (.ref x) (Str.ofString "__eq__") _) (PySem.W.ifBound_K X I hs hf (wpAny_mono h (fun r s' hr => ?_) fun _ _ e => e))
  obtain ⟨c, rfl, hq⟩ := hr
  refine wpAny_bind (m := truthy (.bool c)) (wpAny_truthy_bool ?_)
  exact wpAny_pure hq
theorem cmp_ne {Q : Value → Shared → Prop} (hu : A.units < cLine) (hu1 : A.in1.units < cLine) (X : K.In s.heap) (I : PySem.W.InstAt s.heap x ox C od) (hb : PySem.W.Looks (model prog w) s.heap (typeOf b) (.ref C))
    (hn : PySem.W.findIn K (.ref C) "__ne__" = some (some (.builtin "object.__ne__"))) (hm : PySem.W.mroIn K C (.type "object") = some true)
    (hs : PySem.W.findIn K (.ref C) "__eq__" = some (some (.ref g))) (hf : PySem.W.isFn K (.ref g) = true)
    (h : wpAny (model prog w) A.in1 (call (.ref g) [.ref x, b]) (fun v s' => ∃ c, v = .bool c ∧ Q (.bool (!c)) s') E s) : wpAny (model prog w) A (richCompare .NotEq (.ref x) b) Q E s := by
  have one : wpAny (model prog w) A (tryCompare (.ref x) "__ne__" b) (fun r s' => ∃ v, r = some v ∧ Q v s') E s := by
    unfold tryCompare
    refine wpAny_bind (ifBound_objNe X I hn (call_objNe hu1 X I hm hs hf (wpAny_mono h (fun v s' hv => ?_) fun _ _ e => e)))
    obtain ⟨c, rfl, hq⟩ := hv
    exact ⟨c, rfl, wpAny_pure ⟨_, rfl, hq⟩⟩
  unfold richCompare
  simp only [oneThing_ref]
  refine wpAny_holding (wpAny_bind (wpAny_cRoomFor hu ?_))
  rw [cmpInfo_NotEq]
  refine wpAny_bind (I.type.here (wpAny_bind (hb.here ?_)))
  rw [show (Value.ref C != Value.ref C) = false from by simp]
  simp only [Bool.false_eq_true, if_false]
  refine wpAny_bind (wpAny_pure ?_)
  simp only [Bool.false_eq_true, if_false]
  refine wpAny_bind (wpAny_mono one (fun r s' z => ?_) fun _ _ e => e)
  obtain ⟨v, rfl, hq⟩ := z
  exact wpAny_pure hq
end
section
variable {X : Cx} {n : Nat} {C g : Addr} {sp : Sp} {E : XK} {CX : CXT}
/-- x != y, both instances of the class at C, whose == is at g -/
def rNeOwn (C : Addr) (sp : Sp) (E : XK) : R2 := fun x y H Q => ∃ a dx fs b dy gs, x = .ref a ∧ y = .ref b ∧ H a = some (.ins C dx fs) ∧ H b = some (.ins C dy gs) ∧ sp [x, y] H (fun z H' => ∃ c, z = .bl c ∧ Q (.bl (!c)) H') E
theorem op_neOwn (hn : PySem.W.findIn X.K (.ref C) "__ne__" = some (some (.builtin "object.__ne__"))) (hm : PySem.W.mroIn X.K C (.type "object") = some true) (hs : PySem.W.findIn X.K (.ref C) "__eq__" = some (some (.ref g)))
    (hf : PySem.W.isFn X.K (.ref g) = true) (F : FnR X.prog X.w X.K X.mg X.base CX n g sp) (hr : Room (n + 1) X.A) (hx : Passes CX X E) : OpR X (compareOp .NotEq) (rNeOwn C sp E) := by
  intro pins s σ H x y v u Q I rx ry h
  obtain ⟨a, dx, fs, b, dy, gs, rfl, rfl, ha, hb, q⟩ := h
  obtain rfl : v = Value.ref a := rx
  obtain rfl : u = Value.ref b := ry
  obtain ⟨mA, O, _⟩ := ins_get I.hok ha
  obtain ⟨od, J, _⟩ := O.look
  obtain ⟨mB, O', _⟩ := ins_get I.hok hb
  obtain ⟨od', J', _⟩ := O'.look
  have hr1 : Room n X.A.in1 := Room.in1 hr
  refine cmp_ne hr.units0 hr1.units0 I.kIn J J'.type hn hm hs hf (wpAny_mono (wpAny_call (SlX.run_at (us := [.ref a, .ref b]) (ws := [.ref a, .ref b]) F hr1 I.env0.in1 hx I (.cons rfl (.cons rfl .nil)) q)) ?_ (fun _ _ x => x))
  rintro w s' ⟨z', H', I', rz, c, rfl, qz⟩
  obtain rfl : w = Value.bool c := rz
  exact ⟨c, rfl, .bl (!c), H', I', rfl, qz⟩
/-- one rule or another -/
theorem opR_or {f : Value → Value → Sem Value} {r1 r2 : R2} (h1 : OpR X f r1) (h2 : OpR X f r2) : OpR X f (fun x y H Q => r1 x y H Q ∨ r2 x y H Q) := by
  intro pins s σ H x y v u Q I rx ry h
  rcases h with h | h
  · exact h1 pins s σ H x y v u Q I rx ry h
  · exact h2 pins s σ H x y v u Q I rx ry h
end
end Pk

/-! ## More rules inside comprehensions, the table of classes named -/
namespace Pk
open PySem PySem.Spec PyProof.Rows L2
section
variable {X : Cx} {KK : PySem.W.Frag}
theorem call_isiN (hK : X.K = KK) : CallR X (.builtin "isinstance") (rIsi KK) := by
  subst hK
  exact call_isi
theorem op_in_seqN (hK : X.K = KK) : OpR X (compareOp .In) (rIn KK false) := by
  subst hK
  exact op_in_seq
theorem op_notIn_seqN (hK : X.K = KK) : OpR X (compareOp .NotIn) (rIn KK true) := by
  subst hK
  exact op_notIn_seq
theorem call_len_seqN (hK : X.K = KK) : CallR X (.builtin "len") (fun xs H Q => ∃ p ys, xs = [.ref p] ∧ (SqL KK H p ys ∨ SqT KK H p ys) ∧ Q (.int ys.length) H) := by
  subst hK
  exact call_len_seq
end
end Pk

/-! ## Several clauses, each keeps the exception as a value under the same name -/
namespace Pk
open PySem PySem.Spec PyProof.Rows L2
abbrev ClL := List ((Value → Option Bool) × (Addr → Value → Option Addr → TS))
def wAsM (i : Nat) (Wout : WX) (D : Ends) : ClL → WX
  | [] => Wout
  | (m, ts) :: r => fun cls d σ H => ∃ b, m cls = some b ∧ (b = true → ∀ a, H a = none → ts a cls d (behindV i a cls d D) (σ.set i (some (.ref a))) H) ∧ (b = false → wAsM i Wout D r cls d σ H)
inductive HdsA (X : Cx) (n : Str) : List ExceptHandler → ClL → Prop
  | nil : HdsA X n [] []
  | cons {t : Expr} {m : Value → Option Bool} {ts : Addr → Value → Option Addr → TS} {b₀ : Stmt} {suite : List Stmt} {pos' : Pos} {hds : List ExceptHandler} {l : ClL} (ht : HT X t m)
      (hsu : ∀ (a : Addr) (oe : Obj) (cls : Value) (d : Option Addr) (pn : List (Addr × Obj)), Zc cls d oe → (∃ vs, oe.data = .fields vs) → PSs (X.suite a ((a, oe) :: pn)) (b₀ :: suite) (ts a cls d)) (r : HdsA X n hds l) :
      HdsA X n (.ExceptHandler (some t) (some n) (b₀ :: suite) pos' :: hds) ((m, ts) :: l)
section
variable {X : Cx} {n : Str} {i : Nat} {body : List Stmt} {h₀ : ExceptHandler} {hds : List ExceptHandler} {l : ClL} {pos : Pos} {tb : WX → TS} {Wout : WX}
theorem ps_try_asM (hex : X.ex = []) (hs : X.stack = X.env :: X.outer) (hf : X.env.frame = some X.env.locals) (hN : X.N.Nodup) (hi : X.N[i]? = some n) (hln : X.env.kindOf n = some .local) (hh : HdsA X n (h₀ :: hds) l) (tk : Takes X Wout)
    (hb : ∀ (W : WX) (pn : List (Addr × Obj)) (xe : Value → Shared → Prop), Takes (X.tr pn xe) W → PassesOwn (model X.prog X.w) X.A X.env xe → PSs (X.tr pn xe) body (tb W)) :
    PS X (.Try body (h₀ :: hds) [] [] pos) (fun D σ H => tb (wAsM i Wout D l) D σ H) := by
  constructor
  intro pins s σ H D I h
  have okX := I.ok
  have frames : X.A.frames = some (X.env :: X.outer) := okX.frames.trans (by rw [hs])
  refine wpAny_Try_except ?_
  let XC : Value → Shared → Prop := fun e s₁ => wpAny (model X.prog X.w) X.A (noteFrame e X.env) (fun _ s₂ => wpAny (model X.prog X.w) X.A (setFlight e none) (fun _ s₃ =>
    wpAny (model X.prog X.w) X.A (handleBy e X.env (h₀ :: hds)) (SP X pins D) X.xe s₃) X.xe s₂) X.xe s₁
  have caught : Takes (X.tr (X.pn ++ pins) XC) (wAsM i Wout D l) := by
    rintro u s' ⟨a, B, sI, pins', σ', H', cls, d, rfl, J', nb, up, sky, na, os, ag, wish⟩
    have J : Inv X pins σ' H' sI := J'.ofTry okX
    have sky' : Sky B (X.env :: X.outer) a (Zc cls d) X.env.locals s'.heap := by
      rw [← hs]
      exact sky
    show wpAny (model X.prog X.w) X.A (noteFrame (.ref a) X.env) _ _ _
    refine Sky.land Zc.steady frames hf sky' fun hA flA upA => ?_
    obtain ⟨oA, vA, eA, zA, dA⟩ := flA.there
    have nofr : a ∉ frs (X.env :: X.outer) := fun hm => by
      obtain ⟨_, o', e', hnf⟩ := flA.2.2.1.mem hm
      rw [eA] at e'
      cases e'
      exact hnf _ dA
    have goneI : sI.heap.get? a = none := by
      cases e : sI.heap.get? a with
      | none => rfl
      | some o =>
        have := nb a o e (by rw [show (X.tr (X.pn ++ pins) XC).stack = X.env :: X.outer from hs]; exact nofr)
        rw [flA.2.1] at this
        cases this
    have nLoc : a ≠ X.env.locals := fun z => nofr (List.mem_filterMap.mpr ⟨X.env, List.mem_cons_self, by rw [hf, z]⟩)
    have nFs : a ∉ X.fs := fun hm => by
      obtain ⟨e, he, q⟩ := List.mem_filterMap.mp hm
      exact nofr (List.mem_filterMap.mpr ⟨e, List.mem_cons_of_mem _ he, q⟩)
    have each : ∀ {hds' : List ExceptHandler} {l' : ClL}, HdsA X n hds' l' → wAsM i Wout D l' cls d σ' H' → ∀ hZ, HandSPX.FlyingZ B (X.env :: X.outer) a (Zc cls d) hZ → s'.heap.UpToSlots hZ →
        wpAny (model X.prog X.w) X.A (handleBy (.ref a) X.env hds') (SP X pins D) X.xe { s' with heap := hZ } := by
      intro hds' l' hk
      induction hk with
      | nil =>
        intro wend hP flP upP
        refine wpAny_handleBy_nil ?_
        obtain ⟨k1, k2, k3, oe, vs, T, oT, tt, eT, zT, dT, h1, hr⟩ := id flP
        unfold PySem.passOn
        refine wpAny_bind (wpAny_field eT dT h1 ?_)
        rw [if_neg (show ¬ ((Value.ref T == Value.none) = true) from by simp)]
        have away : wpAny (model X.prog X.w) X.A (setFlight (.ref a) X.env.frame) (fun _ s4 => wpAny (model X.prog X.w) X.A (throw (.ref a) : Sem Flow) (SP X pins D) X.xe s4) X.xe { s' with heap := hP } := by
          rw [hf]
          refine HandSPX.setFlight_upZ (s := { s' with heap := hP }) flP fun hB hhB upB => wpAny_throw (tk _ _ ?_)
          exact ⟨a, B, sI, pins, σ', H', cls, d, rfl, J, nb, (up.trans upP).trans upB, .inr (.inr (by rw [hs]; exact hhB)), na, os, ag, wend⟩
        first
          | exact wpAny_bind (wpAny_pure (wpAny_bind away))
          | exact wpAny_bind away
      | @cons t m ts b₀ suite pos' hds2 l2 ht hsu r ih =>
        intro wend hA flA upA
        obtain ⟨b, hb1, hyes, hno⟩ := wend
        have JA : Inv X pins σ' H' { s' with heap := hA } := J.landed nb flA.1 (up.trans upA) os ag
        obtain ⟨oA, vA, eA, zA, dA⟩ := flA.there
        have SA := JA.suite eA dA na nLoc nFs
        refine wpAny_handleBy_cons (codeAny_handlers_test ?_) (by intro q; cases q)
        refine ht (oe := oA) (pn := X.pn ++ pins) SA eA zA.1 hb1 fun hP kP => ?_
        have flP := flyingZ_keeps flA kP
        have upP : s'.heap.UpToSlots hP := upA.trans (Heap.UpToSlots.of_keeps kP)
        cases b with
        | true =>
          refine codeAny_handlers_suite_as (HandSPX.lands_againZ (s := { s' with heap := hP }) flP fun hB flB upB => ?_)
          have JB : Inv X pins σ' H' { s' with heap := hB } := J.landed nb flB.1 ((up.trans upP).trans upB) os ag
          obtain ⟨oB, vB, eB, zB, dB⟩ := flB.there
          refine store_ok (X := X.suite a ((a, oB) :: (X.pn ++ pins))) (v := .ref a) (JB.suite eB dB na nLoc nFs) hN hi (.inl hln) rfl (fun sS SS => ?_) (.inr hln)
          have inside := (hsu a oB cls d (X.pn ++ pins) zB ⟨_, dB⟩).run [] sS _ H' _ SS (hyes rfl a na)
          refine wpAny_mono inside (fun f sE hsp => ?_) (fun _ _ z => False.elim z)
          have close : ∀ {σE : L2.St} {HE : Hp} {Q : Shared → Prop}, Inv (X.suite a ((a, oB) :: (X.pn ++ pins))) [] σE HE sE → (∀ sZ, Inv X ((a, oB) :: pins) (σE.set i none) HE sZ → Q sZ) →
              wpAny (model X.prog X.w) X.A (do bindName X.env n .none; unbindBehindTheSuite X.env n pos') (fun _ sZ => Q sZ) X.xe sE := fun {σE HE Q} SE hq => gone_ok (unsuiteK SE okX) hN hi hln hq
          cases f with
          | next =>
            obtain ⟨σE, HE, SE, qE⟩ := hsp
            refine close SE fun sZ JZ => ?_
            obtain ⟨g1, g2, g3, _, _⟩ := JZ.pin (a, oB) (List.mem_append_right _ List.mem_cons_self)
            refine ⟨_, _, track (unpin JZ) (young_of J hex goneI) g2 (Ne.symm g3) (notcell (unpin JZ) g1 dB) (fun p hp z => ?_) (exK_ok g1 zB dB), qE g2⟩
            have := (J.pin p hp).1
            rw [z, goneI] at this
            cases this
          | brk =>
            obtain ⟨σE, HE, SE, qE⟩ := hsp
            exact close SE fun sZ JZ => ⟨_, _, unpin JZ, qE⟩
          | cont =>
            obtain ⟨σE, HE, SE, qE⟩ := hsp
            exact close SE fun sZ JZ => ⟨_, _, unpin JZ, qE⟩
          | ret u =>
            obtain ⟨vE, σE, HE, SE, rE, qE⟩ := hsp
            exact close SE fun sZ JZ => ⟨_, _, _, unpin JZ, rE, qE⟩
        | false =>
          show wpAny _ X.A (handleBy (.ref a) X.env hds2) _ _ _
          exact ih (hno rfl) hP flP upP
    exact each hh wish hA flA upA
  have through := (hb (wAsM i Wout D l) (X.pn ++ pins) XC caught PassesOwn.looking).run [] s σ H D (I.toTry _) h
  refine wpAny_mono through (fun f s1 hsp => ?_) (fun _ _ he => he)
  cases f with
  | next =>
    obtain ⟨σ', H', JJ, q⟩ := hsp
    exact wpAny_execs_nil ⟨σ', H', JJ.ofTry okX, q⟩
  | brk =>
    obtain ⟨σ', H', JJ, q⟩ := hsp
    exact ⟨σ', H', JJ.ofTry okX, q⟩
  | cont =>
    obtain ⟨σ', H', JJ, q⟩ := hsp
    exact ⟨σ', H', JJ.ofTry okX, q⟩
  | ret u =>
    obtain ⟨v, σ', H', JJ, r, q⟩ := hsp
    exact ⟨v, σ', H', JJ.ofTry okX, r, q⟩
end
end Pk

/-! ## C() of a class without an own __init__ -/
namespace Pk
open PySem PySem.Spec PyProof.Rows L2
section
variable {X : Cx} {C : Addr} {x : Str} {p pos : Pos}
structure Mk0 (K : PySem.W.Frag) (C : Addr) : Prop where
  makes : PySem.W.makesIn K C = true
  kp : PySem.W.keepIn K (.ref C) = true
  init : PySem.W.findIn K (.ref C) "__init__" = some (some (.builtin "object.__init__"))
/-- C(): a new instance without attributes -/
def tMake0 (C : Addr) : TE := fun _ H Q => ∀ x dx, H x = none → H dx = none → dx ≠ x → Q (.ref x) (upd (upd H dx (.own x)) x (.ins C dx []))
theorem run_make0 {pins : List (Addr × Obj)} {σ : L2.St} {H : Hp} {s : Shared} {Q : VK} (M : Mk0 X.K C) (I : Inv X pins σ H s)
    (h : ∀ x dx, H x = none → H dx = none → dx ≠ x → Q (.ref x) (upd (upd H dx (.own x)) x (.ins C dx []))) :
    wpAny (model X.prog X.w) X.A (call (.ref C) []) (EP X pins σ Q) X.xe s := by
  have hq := h (s.heap.objs.size + 1) s.heap.objs.size (I.hok.fresh (Nat.le_succ _)) (I.hok.fresh (Nat.le_refl _)) (Nat.ne_of_lt (Nat.lt_succ_self _))
  have I2 := Inv.made (C := C) I
  have Y := PySem.W.makes_of (M := model X.prog X.w) I.kIn M.makes
  refine wpAny_call (make_map0 I.kIn M.makes M.init (fun self => PySem.W.Looks.of_pure (PySem.W.oi_bind self)) ?_)
  have g0 : ((s.heap.push PySem.W.emptyDict).push (PySem.W.instObj C s.heap.objs.size)).get? (s.heap.objs.size + 1) = some (PySem.W.instObj C s.heap.objs.size) := by
    have e := Heap.get?_push_size (s.heap.push PySem.W.emptyDict) (o := PySem.W.instObj C s.heap.objs.size) rfl
    rw [Heap.size_push] at e
    exact e
  have t1 : PySem.W.Looks (model X.prog X.w) ((s.heap.push PySem.W.emptyDict).push (PySem.W.instObj C s.heap.objs.size)) (typeOf (.ref (s.heap.objs.size + 1))) (.ref C) := (PySem.W.Looks.ld g0).andThen .now
  have t2 : PySem.W.Looks (model X.prog X.w) ((s.heap.push PySem.W.emptyDict).push (PySem.W.instObj C s.heap.objs.size)) (isInstance (.ref (s.heap.objs.size + 1)) (.type "object")) true := t1.andThen (Y.top.keeps fun b o e => Heap.get?_push_of_some _ (Heap.get?_push_of_some _ e))
  refine codeAny_call_builtin PySem.W.oi_plain PySem.W.entry_oi (PySem.W.check_slot PySem.W.oi_kind PySem.W.oi_split t2 (PySem.W.oi_args (.ref (s.heap.objs.size + 1))) ?_)
  rw [PySem.W.oi_run]
  exact wpAny_pure (And.intro rfl ⟨V.ref (s.heap.objs.size + 1), _, I2, rfl, hq⟩)
theorem pe_mk0 (M : Mk0 X.K C) (hg : Gl X x) (hm : X.mg x = some (.ref C)) (hdb : (x == ("__debug__" : Str)) = false := by decide) : PE X (.Call (.Name x p) [] [] pos) (tMake0 C) := by
  refine ⟨fun pins s σ H Q I h => ?_⟩
  refine wpAny_Call_Name_kw (ld_glob I hg hm ?_ hdb)
  exact PySem.W.callWith_K0 I.kIn M.kp (run_make0 M I h)
end
end Pk

/-! ## != of lists whose items have an own ==; != of an instance and anything; C(e, ..) in a try -/
namespace Pk
open PySem PySem.Spec PyProof.Rows L2 PySem.SeqAt
open AutoSeq1 (wpAny_loadPart')
open MeetsSeq MeetsSeq2 MeetsSeq3
section
variable {prog : Program} {w : World} {A : Around} {R : Result → Shared → Prop}
theorem nl_turns (la lb : Addr) (many : Nat) (J : Nat → Shared → Prop) (each : GQ.ListI prog w A (fun e s' => R (.error e) s') la lb many J) (done : ∀ z, J many z → R (.ok (.ret (.bool false))) z) :
    ∀ (left i : Nat), many - i = left → i ≤ many → ∀ z, J i z →
      wpAny (model prog w) A.in1 (Builtin.«list.__eq__.loop» ⟨[.ref la, .ref lb, rawInt i, rawInt 3], []⟩) (GQ.FinOf prog w A R) (fun e s' => R (.error e) s') z
  | 0, i, hk, hi, z, hJ => by
    obtain ⟨xs, ys, c1, c2, ga, gb, n1, n2, _⟩ := each _ _ hJ
    have same : i = many := by omega
    have good : R (.ok (.ret (.bool false))) z := done z (same ▸ hJ)
    obtain ⟨hp, g, d, tk, os⟩ := z
    wp_walk using wpAny_loadPart' ga, wpAny_loadPart' gb
    rw [show xs[((i : Nat) : Int).toNat]? = none from by simp; omega, show ys[((i : Nat) : Int).toNat]? = none from by simp; omega]
    wp_walk using wpAny_loadPart' ga, wpAny_loadPart' gb
    show R (.ok (.ret (.bool (xs.size != ys.size)))) _
    rw [n1, n2]
    simpa using good
  | left + 1, i, hk, hi, z, hJ => by
    obtain ⟨xs, ys, c1, c2, ga, gb, n1, n2, one⟩ := each _ _ hJ
    have k1 : i < xs.size := by omega
    have k2 : i < ys.size := by omega
    have one' := one k1 k2
    obtain ⟨hp, g, d, tk, os⟩ := z
    wp_walk using wpAny_loadPart' ga, wpAny_loadPart' gb
    rw [show xs[((i : Nat) : Int).toNat]? = some xs[i] from by simp [k1], show ys[((i : Nat) : Int).toNat]? = some ys[i] from by simp [k2]]
    refine wpAny_bind (wpAny_mono one' (fun yes z2 q2 => ?_) fun _ _ bad => bad)
    obtain ⟨rfl, q2⟩ := q2
    have more := nl_turns la lb many J each done left (i + 1) (by omega) (by omega) z2 q2
    obtain ⟨hp2, g2, d2, tk2, os2⟩ := z2
    wp_walk
    rw [show ((i : Int) + 1) = ((i + 1 : Nat) : Int) from by omega]
    exact ⟨plainId_quiet plain_eq_loop _, codeAny_builtin entry_eq_loop (by
      rw [Around.under_plainId plain_eq_loop _]
      exact more)⟩
theorem nl_all (la lb : Addr) (many : Nat) (J : Nat → Shared → Prop) (each : GQ.ListI prog w A (fun e s' => R (.error e) s') la lb many J) (done : ∀ z, J many z → R (.ok (.ret (.bool false))) z) {z : Shared} (h0 : J 0 z) :
    wpAny (model prog w) A.in1 (Builtin.«list.__ne__» ⟨[.ref la, .ref lb], []⟩) (GQ.FinOf prog w A R) (fun e s' => R (.error e) s') z := by
  obtain ⟨xs, ys, c1, c2, ga, gb, n1, n2, _⟩ := each _ _ h0
  have from0 := nl_turns (A := A) (R := R) la lb many J each done _ 0 rfl (Nat.zero_le _) z h0
  obtain ⟨hp, g, d, tk, os⟩ := z
  have isl := AutoSeq1.sub_list_list
  have alike : ¬ (xs.size != ys.size) = true := by simp [n1, n2]
  wp_walk using wpAny_loadPart' ga, wpAny_loadPart' gb
  exact ⟨plainId_quiet plain_eq_loop _, codeAny_builtin entry_eq_loop (by
    rw [Around.under_plainId plain_eq_loop _]
    exact from0)⟩
theorem rc_listNe {la lb : Addr} {many : Nat} {Q E : Value → Shared → Prop} {z : Shared} (hu : A.units < cLine) (J : Nat → Shared → Prop) (each : GQ.ListI prog w A E la lb many J) (done : ∀ z, J many z → Q (.bool false) z) (h0 : J 0 z) :
    wpAny (model prog w) A (richCompare .NotEq (.ref la) (.ref lb)) Q E z := by
  obtain ⟨xs, ys, c1, c2, ga, gb, _, _, _⟩ := each _ _ h0
  refine wpAny_richCompare_same_room (op := .NotEq) ⟨_, ga, rfl⟩ ⟨_, gb, rfl⟩ F.slot_list_ne (GQ.call_here F.slot_list_ne ⟨_, ga, rfl⟩ F.entry_list_ne (F.args_list_ne_2 _ _) ?_) hu
  exact nl_all (R := wants (fun v s' => v ≠ .notImplemented ∧ Q v s') E) la lb many J each (fun s' q => ⟨(fun x => nomatch x), done s' q⟩) h0
end
section
variable {X : Cx} {n : Nat} {D : Eqv}
/-- xs != ys, two lists whose items are equal one by one -/
def rNeG (D : Eqv) : R2 := fun x y H Q => DList D x y H ∧ ∀ H', Ext H H' → Q (.bl false) H'
theorem op_neG (hD : Mon D) (h : EqG X n D) (hr : Room (n + 1) X.A) : OpR X (compareOp .NotEq) (rNeG D) := by
  intro pins s σ H x y v u Q I rx ry hq
  obtain ⟨⟨a, b, xs, ys, rfl, rfl, ha, hb, p⟩, q⟩ := hq
  cases rx
  cases ry
  show wpAny (model X.prog X.w) X.A (richCompare .NotEq (.ref a) (.ref b)) (EP X pins σ Q) X.xe s
  refine rc_listNe (many := xs.length) hr.units0 (fun _ s' => LoopI X pins σ H s') (fun i s' L => ?_) (fun s' L => ?_) ⟨H, I, Ext.rfl'⟩
  · obtain ⟨H1, I1, e1⟩ := id L
    obtain ⟨z1, its, k1, r1, g1⟩ := I1.hok a _ (e1 _ _ ha)
    obtain ⟨z2, its2, k2, r2, g2⟩ := I1.hok b _ (e1 _ _ hb)
    exact ⟨its.toArray, its2.toArray, k1, k2, g1, g2, by rw [List.size_toArray, ← r1.length], by rw [List.size_toArray, ← r2.length, ← p.1], fun h1 h2 => turnG hD h ⟨hr, rfl⟩ p r1 r2 i h1 h2 s' L⟩
  · obtain ⟨H1, I1, e1⟩ := L
    exact ⟨.bl false, H1, I1, rfl, q H1 e1⟩
end
section
variable {M : Model} {prog : Program} {w : World} {A : Around} {E : Value → Shared → Prop} {s : Shared} {K : PySem.W.Frag} {x C g : Addr} {ox : Obj} {od : Option Obj} {b tb : Value}
theorem cmp_neA {Q : Value → Shared → Prop} (hu : A.units < cLine) (hu1 : A.in1.units < cLine) (X : K.In s.heap) (I : PySem.W.InstAt s.heap x ox C od) (hb : PySem.W.Looks (model prog w) s.heap (typeOf b) tb) (hnf : PySem.W.notFirst K C tb = true)
    (hn : PySem.W.findIn K (.ref C) "__ne__" = some (some (.builtin "object.__ne__"))) (hm : PySem.W.mroIn K C (.type "object") = some true)
    (hs : PySem.W.findIn K (.ref C) "__eq__" = some (some (.ref g))) (hf : PySem.W.isFn K (.ref g) = true)
    (h : wpAny (model prog w) A.in1 (call (.ref g) [.ref x, b]) (fun v s' => ∃ c, v = .bool c ∧ Q (.bool (!c)) s') E s) : wpAny (model prog w) A (richCompare .NotEq (.ref x) b) Q E s := by
  have mine : wpAny (model prog w) A (tryCompare (.ref x) "__ne__" b) (fun r s' => ∃ v, r = some v ∧ Q v s') E s := by
    unfold tryCompare
    refine wpAny_bind (ifBound_objNe X I hn (call_objNe hu1 X I hm hs hf (wpAny_mono h (fun v s' hv => ?_) fun _ _ e => e)))
    obtain ⟨c, rfl, hq⟩ := hv
    exact ⟨c, rfl, wpAny_pure ⟨_, rfl, hq⟩⟩
  unfold richCompare
  simp only [oneThing_ref]
  refine wpAny_holding (wpAny_bind (wpAny_cRoomFor hu ?_))
  rw [cmpInfo_NotEq]
  refine wpAny_bind (I.type.here (wpAny_bind (hb.here ?_)))
  split
  · rename_i away
    have no : PySem.W.subIn K tb (.ref C) = some false := by
      rcases Bool.or_eq_true_iff.mp hnf with same | no
      · rw [beq_iff_eq.mp same] at away
        simp at away
      · exact beq_iff_eq.mp no
    refine wpAny_bind ((PySem.W.looks_subIn X no).here ?_)
    simp only [Bool.false_eq_true, if_false]
    refine wpAny_bind (wpAny_mono mine (fun r s' got => ?_) fun _ _ e => e)
    obtain ⟨v, rfl, hq⟩ := got
    exact wpAny_pure hq
  · refine wpAny_bind (wpAny_pure ?_)
    simp only [Bool.false_eq_true, if_false]
    refine wpAny_bind (wpAny_mono mine (fun r s' got => ?_) fun _ _ e => e)
    obtain ⟨v, rfl, hq⟩ := got
    exact wpAny_pure hq
end
section
variable {X : Cx} {n : Nat} {C g : Addr} {sp : Sp} {E : XK} {CX : CXT}
/-- x != y, x an instance of the class at C, whose == is at g, y anything that does not come first -/
def rNeOwnA (K : PySem.W.Frag) (C : Addr) (sp : Sp) (E : XK) : R2 := fun x y H Q => ∃ a dx fs t, x = .ref a ∧ H a = some (.ins C dx fs) ∧ TyX K H y t ∧ PySem.W.notFirst K C t = true ∧ sp [x, y] H (fun z H' => ∃ c, z = .bl c ∧ Q (.bl (!c)) H') E
theorem op_neOwnA {KK : PySem.W.Frag} (hK : X.K = KK) (hn : PySem.W.findIn X.K (.ref C) "__ne__" = some (some (.builtin "object.__ne__"))) (hm : PySem.W.mroIn X.K C (.type "object") = some true) (hs : PySem.W.findIn X.K (.ref C) "__eq__" = some (some (.ref g)))
    (hf : PySem.W.isFn X.K (.ref g) = true) (F : FnR X.prog X.w X.K X.mg X.base CX n g sp) (hr : Room (n + 1) X.A) (hx : Passes CX X E) : OpR X (compareOp .NotEq) (rNeOwnA KK C sp E) := by
  subst hK
  intro pins s σ H x y v u Q I rx ry h
  obtain ⟨a, dx, fs, t, rfl, ha, ty, hnf, q⟩ := h
  obtain rfl : v = Value.ref a := rx
  obtain ⟨mA, O, _⟩ := ins_get I.hok ha
  obtain ⟨od, J, _⟩ := O.look
  obtain ⟨P, Z, p, _⟩ := kit_of I ry ty
  have hr1 : Room n X.A.in1 := Room.in1 hr
  refine cmp_neA hr.units0 hr1.units0 I.kIn J (Z.ty _ _ I.kIn p) hnf hn hm hs hf (wpAny_mono (wpAny_call (SlX.run_at (us := [.ref a, u]) (ws := [.ref a, y]) F hr1 I.env0.in1 hx I (.cons rfl (.cons ry .nil)) q)) ?_ (fun _ _ x => x))
  rintro w s' ⟨z', H', I', rz, c, rfl, qz⟩
  obtain rfl : w = Value.bool c := rz
  exact ⟨c, rfl, .bl (!c), H', I', rfl, qz⟩
end
section
variable {X : Cx}
/-- x != y of two lists, or two tuples, of the very same things -/
def rNeSmT (K : PySem.W.Frag) : R2 := fun x y H Q => ∃ a b xs, x = .ref a ∧ y = .ref b ∧ SqT K H a xs ∧ SqT K H b xs ∧ (∀ v ∈ xs, flatB v = true ∨ ∃ p, v = .ref p) ∧ Q (.bl false) H
theorem op_neSmT (hu : X.A.units + 64 < cLine) : OpR X (compareOp .NotEq) (rNeSmT X.K) := by
  intro pins s σ H x y v u Q I rx ry h
  obtain ⟨a, b, xs, rfl, rfl, ha, hb, hp, q⟩ := h
  cases (show v = Value.ref a from rx)
  cases (show u = Value.ref b from ry)
  obtain ⟨us, r1, p1, _⟩ := I.tuple ha
  obtain ⟨ws, r2, p2, _⟩ := I.tuple hb
  have hsz : us.toArray.size = ws.toArray.size := by
    rw [List.size_toArray, List.size_toArray, ← r1.length, ← r2.length]
  refine SeqAt.RcNeAt.tuples (e := fun _ => true) p1 p2 (by omega) (fun j h1 h2 => ?_) X.prog X.w _ _ ?_
  · have k := sm_run (A := X.A.in1) (s := s) hp r1 r2 j (by simpa using h1) (by simpa using h2)
    simpa using k
  · rw [show ((List.range (min us.toArray.size ws.toArray.size)).all fun _ => true) = true from List.all_eq_true.mpr fun _ _ => rfl, hsz]
    simp only [BEq.rfl, Bool.and_self, Bool.not_true]
    exact ⟨.bl false, H, I, rfl, q⟩
end
section
variable {X : Cx} {k : Nat} {CX : CXT} {sp : Sp}
/-- C(e, ..) where an exception may leave to a clause here -/
def tMakeS (C : Addr) (dvs : List V) (sp : Sp) (E : L2.St → XK) (t : TA) : TE := fun σ H Q => t σ H fun vs H2 => ∀ x dx, H2 x = none → H2 dx = none → dx ≠ x →
  sp (.ref x :: (vs ++ dvs)) (upd (upd H2 dx (.own x)) x (.ins C dx [])) (fun v H3 => v = .non ∧ Q (.ref x) H3) (E σ)
theorem pe_makeS {C f : Addr} {fd : FuncData} {ps : List Str} {dvs : List V} {ds : List Value} {E : L2.St → XK} {x : Str} {p pos : Pos} {e : Expr} {es : List Expr} {t : TA}
    (M : Mk X.K C f) (F : FnOk X.prog X.w X.K X.mg X.base CX k f fd ps sp) (hr : Room (k + 1) X.A) (hg : Gl X x) (hm : X.mg x = some (.ref C)) (hb : Binds X.K fd ps ds) (hd : Vals dvs ds) (hx : ∀ σ, PassesAt CX X σ (E σ)) (ha : PA X (e :: es) t)
    (hdb : (x == ("__debug__" : Str)) = false := by decide) (he : starEach (e :: es) X.env = (false, eval e X.env) :: starEach es X.env := by rfl) (hpl : (backTo pos (starEach es X.env)).any (·.1) = false := by rfl) :
    PE X (.Call (.Name x p) (e :: es) [] pos) (tMakeS C dvs sp E t) := by
  refine ⟨fun pins s σ H Q I h => ?_⟩
  refine wpAny_Call_Name_kw (ld_glob I hg hm ?_ hdb)
  refine PySem.W.callWith_K (h₀ := X.base) I.ok.mod.kin M.kp (thn (ha.run pos pins s σ H _ I h) fun us s1 ⟨vs, H1, I1, r, q⟩ => ⟨I1.kIn, ?_⟩) he hpl
  have hq := q (s1.heap.objs.size + 1) s1.heap.objs.size (I1.hok.fresh (Nat.le_succ _)) (I1.hok.fresh (Nat.le_refl _)) (Nat.ne_of_lt (Nat.lt_succ_self _))
  have I3 := Inv.made (C := C) I1
  have r2 : Vals (V.ref (s1.heap.objs.size + 1) :: (vs ++ dvs)) (Value.ref (s1.heap.objs.size + 1) :: (us ++ ds)) := .cons rfl (r.append hd)
  have hl : (Value.ref (s1.heap.objs.size + 1) :: us ++ ds).length = ps.length := by
    have e := r2.length
    rw [F.len _ _ _ _ hq] at e
    exact e.symm
  refine wpAny_call (make_map (f := f) I1.kIn M.makes M.init (beq_iff_eq.mp M.fn) (codeAny_mono (F.run _ X.stack _ _ ⟨Value.ref (s1.heap.objs.size + 1) :: us, []⟩ (Value.ref (s1.heap.objs.size + 1) :: (us ++ ds)) _ _ (E σ) (hr.make C us [])
    (I3.env0.make C us []) (hb _ (Value.ref (s1.heap.objs.size + 1) :: us) I3.kIn hl) r2 hq) fun r s' hq' => ?_))
  cases r with
  | error e => exact hx σ pins _ _ e s' I3 hq'
  | ok fl =>
    cases fl with
    | ret u =>
      obtain ⟨v, H', I4, rv, ev, q3⟩ := I3.after hq'
      subst ev
      exact ⟨rv, ⟨V.ref (s1.heap.objs.size + 1), H', I4, rfl, q3⟩⟩
    | next => exact False.elim hq'
    | brk => exact False.elim hq'
    | cont => exact False.elim hq'
end
end Pk

/-! ## y = {k: v for .. in ..}, y a plain local -/
namespace Pk
open PySem PySem.Spec PyProof.Rows L2
section
variable {X : Cx}
theorem sw_dict {kx vx : Expr} {gs : List Comprehension} {scope : Scope} {pos py : Pos} {y : Str} {l : Nat} {env : Env} (fn : env.scope.kind = .function) (loc : env.scope.names.lookup y = some .local) (row : (py.line == pos.line) = true)
    (own : (scope.names.any fun (n, k) => n == y && (k == .local || k == .cell)) = false) : swapsWith (.DictComp kx vx gs scope pos) (some (.Name y py)) l env = pure true := by
  have kind : env.kindOf y = some .local := loc
  have block : env.blockKind = .function := by
    unfold Env.blockKind
    rw [fn] <;> rfl
  unfold swapsWith
  simp only [block, kind, own, Expr.pos, row] <;> rfl
theorem ps_setDc {i : Nat} {y : Str} {py : Pos} {kx vx tg iter : Expr} {ifs : List Expr} {scope : Scope} {own : List (Str × Nat)} {pos spos : Pos} {wi : TI} {g : TG} {tt : TT} {tk tv : TE} (hc : X.calm = true) (hN : X.N.Nodup) (hy : X.N[i]? = some y) (loc : X.env.scope.names.lookup y = some .local)
    (sw : swapsWith (.DictComp kx vx [⟨tg, iter, ifs, 0⟩] scope pos) (some (.Name y py)) spos.line X.env = pure true) (hi : PI X tg iter wi) (ok : BlkOk X.N X.env.scope scope own)
    (rg : ∀ (s : Shared) (H : Hp) (C : Addr) (cl : List (Str × Addr)) (fp : List Addr), PG (X.blk s H scope (compEnvC scope cl C X.env) fp) tg g) (rt : ∀ (s : Shared) (H : Hp) (C : Addr) (cl : List (Str × Addr)) (fp : List Addr), PTs (X.blk s H scope (compEnvC scope cl C X.env) fp) ifs tt)
    (rk : ∀ (s : Shared) (H : Hp) (C : Addr) (cl : List (Str × Addr)) (fp : List Addr), PE (X.blk s H scope (compEnvC scope cl C X.env) fp) kx tk)
    (rv : ∀ (s : Shared) (H : Hp) (C : Addr) (cl : List (Str × Addr)) (fp : List Addr), PE (X.blk s H scope (compEnvC scope cl C X.env) fp) vx tv) (hs : ∀ x, foldedSetIterable iter X.env x = pure x := by intro _; rfl) :
    PS X (.Assign [.Name y py] (.DictComp kx vx [⟨tg, iter, ifs, 0⟩] scope pos) spos) (tAsg (tDc wi g tt tk tv (own.map (·.2))) (gName i)) := by
  constructor
  intro pins s σ H D I wish
  rw [exec_Assign_Name_used _ _ _ _ sw]
  refine wpAny_bind (wpAny_standAt (wpAny_bind (?_ : wpAny _ X.A (do let _ ← comprehension (.DictComp kx vx [⟨tg, iter, ifs, 0⟩] scope pos) scope X.env (firstIterPos [⟨tg, iter, ifs, 0⟩] pos) newDict false (eval iter X.env) (some (assign (.Name y py) X.env))) _ _ s)))
  have wish' : tDc wi g tt tk tv (own.map (·.2)) σ H (fun x H1 => gName i x σ H1 D.nx) := wish
  refine wpAny_bind (thn (dc_core (Qf := fun _ s' => SP X pins D .next s') hc hN I hi ok rg rt rk rv hs wish' fun M C z m H' J q ns away => ?_) fun _ s' done => wpAny_pure (wpAny_pure done))
  refine (wpAny_assign_Name (store_ok2 (v := V.ref M) J hN hy (.inl loc) rfl (fun z2 J2 ⟨a, but, at'⟩ => ?_) (.inr loc)) : wpAny _ _ (assign (.Name y py) X.env (.ref M)) _ _ _)
  obtain ⟨w0, w1, w2, w3, w4, w5⟩ := away
  have apart : C ≠ a := by
    rcases at' with z | z
    · rw [z]
      exact w1
    · exact fun e => w4 y a z e.symm
  refine ⟨m, ns.sameBut but apart, fun z3 but3 => ⟨_, H', J2.turned (t' := z2.toks) (fun b o nb e => (but3.2 b nb).trans e) w0 w1 w3 w4 w5, q⟩⟩
end
end Pk

namespace Pk
open PySem L2
open ClX (CRead CMet CVal)
def top (i : Nat) : Stmt := PySem.Challenge.pw_parcelindex_k34_tastes_in_order.main.body.getD i (.Pass ⟨0, 0, 0, 0⟩)
abbrev s_consists_of : Stmt := top 7
abbrev N_consists_of : List Str := ["text", "signs", "sign"]
abbrev P_consists_of : List Str := ["text", "signs"]
theorem S_consists_of : FnScope N_consists_of P_consists_of (defScope s_consists_of) := ⟨rfl, rfl, rfl, by decide +kernel, rfl, by decide +kernel, by decide +kernel⟩
abbrev s_is_string_of : Stmt := top 8
abbrev N_is_string_of : List Str := ["thing", "signs", "most"]
abbrev P_is_string_of : List Str := ["thing", "signs", "most"]
theorem S_is_string_of : FnScope N_is_string_of P_is_string_of (defScope s_is_string_of) := ⟨rfl, rfl, rfl, by decide +kernel, rfl, by decide +kernel, by decide +kernel⟩
abbrev s_number_in : Stmt := top 9
abbrev N_number_in : List Str := ["text", "last", "number"]
abbrev P_number_in : List Str := ["text", "last"]
theorem S_number_in : FnScope N_number_in P_number_in (defScope s_number_in) := ⟨rfl, rfl, rfl, by decide +kernel, rfl, by decide +kernel, by decide +kernel⟩
abbrev s_are_pairs : Stmt := top 10
abbrev N_are_pairs : List Str := ["thing", "most", "pair"]
abbrev P_are_pairs : List Str := ["thing", "most"]
theorem S_are_pairs : FnScope N_are_pairs P_are_pairs (defScope s_are_pairs) := ⟨rfl, rfl, rfl, by decide +kernel, rfl, by decide +kernel, by decide +kernel⟩
abbrev s_is_name : Stmt := top 17
abbrev N_is_name : List Str := ["thing"]
abbrev P_is_name : List Str := ["thing"]
theorem S_is_name : FnScope N_is_name P_is_name (defScope s_is_name) := ⟨rfl, rfl, rfl, by decide +kernel, rfl, by decide +kernel, by decide +kernel⟩
abbrev s_stage_of_text : Stmt := top 23
abbrev N_stage_of_text : List Str := ["text", "at", "word", "front", "found", "back", "number"]
abbrev P_stage_of_text : List Str := ["text"]
theorem S_stage_of_text : FnScope N_stage_of_text P_stage_of_text (defScope s_stage_of_text) := ⟨rfl, rfl, rfl, by decide +kernel, rfl, by decide +kernel, by decide +kernel⟩
abbrev s_parts_of_text : Stmt := top 24
abbrev N_parts_of_text : List Str := ["thing", "front", "stage", "numbers", "part"]
abbrev P_parts_of_text : List Str := ["thing"]
theorem S_parts_of_text : FnScope N_parts_of_text P_parts_of_text (defScope s_parts_of_text) := ⟨rfl, rfl, rfl, by decide +kernel, rfl, by decide +kernel, by decide +kernel⟩
abbrev s_rank_of : Stmt := top 25
abbrev N_rank_of : List Str := ["numbers", "stage", "rank", "number"]
abbrev P_rank_of : List Str := ["numbers", "stage"]
theorem S_rank_of : FnScope N_rank_of P_rank_of (defScope s_rank_of) := ⟨rfl, rfl, rfl, by decide +kernel, rfl, by decide +kernel, by decide +kernel⟩
abbrev s_Version_init : Stmt := inClass (top 30) 1
abbrev N_Version_init : List Str := ["self", "text", "parts", "numbers", "stage"]
abbrev P_Version_init : List Str := ["self", "text"]
theorem S_Version_init : FnScope N_Version_init P_Version_init (defScope s_Version_init) := ⟨rfl, rfl, rfl, by decide +kernel, rfl, by decide +kernel, by decide +kernel⟩
abbrev s_Version_rank : Stmt := inClass (top 30) 6
abbrev N_Version_rank : List Str := ["self"]
abbrev P_Version_rank : List Str := ["self"]
theorem S_Version_rank : FnScope N_Version_rank P_Version_rank (defScope s_Version_rank) := ⟨rfl, rfl, rfl, by decide +kernel, rfl, by decide +kernel, by decide +kernel⟩
abbrev s_Version_eq : Stmt := inClass (top 30) 7
abbrev N_Version_eq : List Str := ["self", "other"]
abbrev P_Version_eq : List Str := ["self", "other"]
theorem S_Version_eq : FnScope N_Version_eq P_Version_eq (defScope s_Version_eq) := ⟨rfl, rfl, rfl, by decide +kernel, rfl, by decide +kernel, by decide +kernel⟩
abbrev s_by_rank : Stmt := top 32
abbrev N_by_rank : List Str := ["versions", "newest", "table", "ranks", "version", "rank"]
abbrev P_by_rank : List Str := ["versions", "newest"]
theorem S_by_rank : FnScope N_by_rank P_by_rank (defScope s_by_rank) := ⟨rfl, rfl, rfl, by decide +kernel, rfl, by decide +kernel, by decide +kernel⟩
abbrev s_is_standing : Stmt := top 33
abbrev N_is_standing : List Str := ["thing", "names", "name", "version", "_"]
abbrev P_is_standing : List Str := ["thing"]
theorem S_is_standing : FnScope N_is_standing P_is_standing (defScope s_is_standing) := ⟨rfl, rfl, rfl, by decide +kernel, rfl, by decide +kernel, by decide +kernel⟩
abbrev s_is_fresh : Stmt := top 34
abbrev N_is_fresh : List Str := ["thing", "name"]
abbrev P_is_fresh : List Str := ["thing"]
theorem S_is_fresh : FnScope N_is_fresh P_is_fresh (defScope s_is_fresh) := ⟨rfl, rfl, rfl, by decide +kernel, rfl, by decide +kernel, by decide +kernel⟩
abbrev s_Newest_call : Stmt := inClass (top 35) 0
abbrev N_Newest_call : List Str := ["self", "name", "versions"]
abbrev P_Newest_call : List Str := ["self", "name", "versions"]
theorem S_Newest_call : FnScope N_Newest_call P_Newest_call (defScope s_Newest_call) := ⟨rfl, rfl, rfl, by decide +kernel, rfl, by decide +kernel, by decide +kernel⟩
abbrev s_Newest_standing_of : Stmt := inClass (top 35) 1
abbrev N_Newest_standing_of : List Str := ["self", "name"]
abbrev P_Newest_standing_of : List Str := ["self", "name"]
theorem S_Newest_standing_of : FnScope N_Newest_standing_of P_Newest_standing_of (defScope s_Newest_standing_of) := ⟨rfl, rfl, rfl, by decide +kernel, rfl, by decide +kernel, by decide +kernel⟩
abbrev s_Oldest_call : Stmt := inClass (top 36) 0
abbrev N_Oldest_call : List Str := ["self", "name", "versions"]
abbrev P_Oldest_call : List Str := ["self", "name", "versions"]
theorem S_Oldest_call : FnScope N_Oldest_call P_Oldest_call (defScope s_Oldest_call) := ⟨rfl, rfl, rfl, by decide +kernel, rfl, by decide +kernel, by decide +kernel⟩
abbrev s_Oldest_standing_of : Stmt := inClass (top 36) 1
abbrev N_Oldest_standing_of : List Str := ["self", "name"]
abbrev P_Oldest_standing_of : List Str := ["self", "name"]
theorem S_Oldest_standing_of : FnScope N_Oldest_standing_of P_Oldest_standing_of (defScope s_Oldest_standing_of) := ⟨rfl, rfl, rfl, by decide +kernel, rfl, by decide +kernel, by decide +kernel⟩
abbrev s_Keeping_init : Stmt := inClass (top 37) 0
abbrev N_Keeping_init : List Str := ["self", "standing", "fresh", "name", "version"]
abbrev P_Keeping_init : List Str := ["self", "standing", "fresh"]
theorem S_Keeping_init : FnScope N_Keeping_init P_Keeping_init (defScope s_Keeping_init) := ⟨rfl, rfl, rfl, by decide +kernel, rfl, by decide +kernel, by decide +kernel⟩
abbrev s_Keeping_call : Stmt := inClass (top 37) 1
abbrev N_Keeping_call : List Str := ["self", "name", "versions", "standing", "kept", "version"]
abbrev P_Keeping_call : List Str := ["self", "name", "versions"]
theorem S_Keeping_call : FnScope N_Keeping_call P_Keeping_call (defScope s_Keeping_call) := ⟨rfl, rfl, rfl, by decide +kernel, rfl, by decide +kernel, by decide +kernel⟩
abbrev s_Keeping_standing_of : Stmt := inClass (top 37) 2
abbrev N_Keeping_standing_of : List Str := ["self", "name"]
abbrev P_Keeping_standing_of : List Str := ["self", "name"]
theorem S_Keeping_standing_of : FnScope N_Keeping_standing_of P_Keeping_standing_of (defScope s_Keeping_standing_of) := ⟨rfl, rfl, rfl, by decide +kernel, rfl, by decide +kernel, by decide +kernel⟩
abbrev s_begin : Stmt := top 39
abbrev N_begin : List Str := ["_law_script"]
abbrev P_begin : List Str := ["_law_script"]
theorem S_begin : FnScope N_begin P_begin (defScope s_begin) := ⟨rfl, rfl, rfl, by decide +kernel, rfl, by decide +kernel, by decide +kernel⟩
abbrev s_mixed : Stmt := top 40
abbrev N_mixed : List Str := ["_law_cell", "_law_k", "_law_mixed_here"]
abbrev P_mixed : List Str := ["_law_cell", "_law_k"]
theorem S_mixed : FnScope N_mixed P_mixed (defScope s_mixed) := ⟨rfl, rfl, rfl, by decide +kernel, rfl, by decide +kernel, by decide +kernel⟩
abbrev s_next : Stmt := top 41
abbrev N_next : List Str := ["_law_draw", "_law_bound", "_law_found", "_law_every", "_law_cell"]
abbrev P_next : List Str := ["_law_draw", "_law_bound"]
theorem S_next : FnScope N_next P_next (defScope s_next) := ⟨rfl, rfl, rfl, by decide +kernel, rfl, by decide +kernel, by decide +kernel⟩
abbrev s_versions : Stmt := top 42
abbrev N_versions : List Str := ["_law_draw", "_law_found", "_law_k", "_law_key"]
abbrev P_versions : List Str := ["_law_draw"]
theorem S_versions : FnScope N_versions P_versions (defScope s_versions) := ⟨rfl, rfl, rfl, by decide +kernel, rfl, by decide +kernel, by decide +kernel⟩
abbrev s_made : Stmt := top 43
abbrev N_made : List Str := ["_law_key"]
abbrev P_made : List Str := ["_law_key"]
theorem S_made : FnScope N_made P_made (defScope s_made) := ⟨rfl, rfl, rfl, by decide +kernel, rfl, by decide +kernel, by decide +kernel⟩
abbrev s_ranked : Stmt := top 44
abbrev N_ranked : List Str := ["_law_keys", "_law_way", "_law_first", "_law_rising", "_law_best", "_law_k", "_law_key"]
abbrev P_ranked : List Str := ["_law_keys", "_law_way", "_law_first"]
theorem S_ranked : FnScope N_ranked P_ranked (defScope s_ranked) := ⟨rfl, rfl, rfl, by decide +kernel, rfl, by decide +kernel, by decide +kernel⟩
abbrev s_order_right : Stmt := top 45
abbrev N_order_right : List Str := ["_law_draw", "_law_keys", "_law_some", "_law_kept", "_law_pairs", "_law_names", "_law_keeping", "_law_plain", "_law_is_kept", "_law_due", "_law_newest", "_law_oldest", "_law_told", "_law_one", "_law_keys_due", "_law_thing", "_law_key"]
abbrev P_order_right : List Str := ["_law_draw", "_law_keys"]
theorem S_order_right : FnScope N_order_right P_order_right (defScope s_order_right) := ⟨rfl, rfl, rfl, by decide +kernel, rfl, by decide +kernel, by decide +kernel⟩
abbrev s_refused : Stmt := top 46
abbrev N_refused : List Str := ["_law_pairs", "_law_names", "_law_found", "error"]
abbrev P_refused : List Str := ["_law_pairs", "_law_names"]
theorem S_refused : FnScope N_refused P_refused (defScope s_refused) := ⟨rfl, rfl, rfl, by decide +kernel, rfl, by decide +kernel, by decide +kernel⟩
abbrev s_law : Stmt := top 47
abbrev N_law : List Str := ["_law_script", "_law_draw", "_law_one", "_law_turn", "_law_wrong", "_law_odd", "_law_told"]
abbrev P_law : List Str := ["_law_script"]
theorem S_law : FnScope N_law P_law (defScope s_law) := ⟨rfl, rfl, rfl, by decide +kernel, rfl, by decide +kernel, by decide +kernel⟩
abbrev s_BadVersion_init : Stmt := inClass (top 13) 0
abbrev N_BadVersion_init : List Str := ["self", "given"]
abbrev P_BadVersion_init : List Str := ["self", "given"]
theorem S_BadVersion_init : FnScope N_BadVersion_init P_BadVersion_init (defScope s_BadVersion_init) := ⟨rfl, rfl, rfl, by decide +kernel, rfl, by decide +kernel, by decide +kernel⟩
abbrev s_BadName_init : Stmt := inClass (top 14) 0
abbrev N_BadName_init : List Str := ["self", "given"]
abbrev P_BadName_init : List Str := ["self", "given"]
theorem S_BadName_init : FnScope N_BadName_init P_BadName_init (defScope s_BadName_init) := ⟨rfl, rfl, rfl, by decide +kernel, rfl, by decide +kernel, by decide +kernel⟩
structure Ad where
  a_consists_of : Addr
  d_consists_of : FuncData
  a_is_string_of : Addr
  d_is_string_of : FuncData
  a_number_in : Addr
  d_number_in : FuncData
  a_are_pairs : Addr
  d_are_pairs : FuncData
  a_is_name : Addr
  d_is_name : FuncData
  a_stage_of_text : Addr
  d_stage_of_text : FuncData
  a_parts_of_text : Addr
  d_parts_of_text : FuncData
  a_rank_of : Addr
  d_rank_of : FuncData
  a_Version_init : Addr
  d_Version_init : FuncData
  a_Version_rank : Addr
  d_Version_rank : FuncData
  a_Version_eq : Addr
  d_Version_eq : FuncData
  a_by_rank : Addr
  d_by_rank : FuncData
  a_is_standing : Addr
  d_is_standing : FuncData
  a_is_fresh : Addr
  d_is_fresh : FuncData
  a_Newest_call : Addr
  d_Newest_call : FuncData
  a_Newest_standing_of : Addr
  d_Newest_standing_of : FuncData
  a_Oldest_call : Addr
  d_Oldest_call : FuncData
  a_Oldest_standing_of : Addr
  d_Oldest_standing_of : FuncData
  a_Keeping_init : Addr
  d_Keeping_init : FuncData
  e_Keeping_init : Addr
  a_Keeping_call : Addr
  d_Keeping_call : FuncData
  a_Keeping_standing_of : Addr
  d_Keeping_standing_of : FuncData
  a_begin : Addr
  d_begin : FuncData
  a_mixed : Addr
  d_mixed : FuncData
  a_next : Addr
  d_next : FuncData
  a_versions : Addr
  d_versions : FuncData
  a_made : Addr
  d_made : FuncData
  a_ranked : Addr
  d_ranked : FuncData
  a_order_right : Addr
  d_order_right : FuncData
  a_refused : Addr
  d_refused : FuncData
  a_law : Addr
  d_law : FuncData
  a_BadVersion_init : Addr
  d_BadVersion_init : FuncData
  a_BadName_init : Addr
  d_BadName_init : FuncData
  a_Version : Addr
  p_Version_rank : Addr
  t_Version_LAST : Tok
  a_Newest : Addr
  a_Oldest : Addr
  a_Keeping : Addr
  a_BadVersion : Addr
  a_BadName : Addr
  k_STAGES : Addr
  t_LETTERS : Tok
  t_DIGITS : Tok
  t_FINAL : Tok
  t_WIDTH : Tok
  t_GREATEST : Tok
structure Tex (K : PySem.W.Frag) (mg : Str → Option Value) (D : Ad) : Prop where
  consists_of_F : Fun K "consists_of" "consists_of" s_consists_of D.a_consists_of D.d_consists_of
  consists_of_g : mg "consists_of" = some (.ref D.a_consists_of)
  consists_of_b : Binds K D.d_consists_of P_consists_of []
  is_string_of_F : Fun K "is_string_of" "is_string_of" s_is_string_of D.a_is_string_of D.d_is_string_of
  is_string_of_g : mg "is_string_of" = some (.ref D.a_is_string_of)
  is_string_of_b : Binds K D.d_is_string_of P_is_string_of []
  number_in_F : Fun K "number_in" "number_in" s_number_in D.a_number_in D.d_number_in
  number_in_g : mg "number_in" = some (.ref D.a_number_in)
  number_in_b : Binds K D.d_number_in P_number_in []
  are_pairs_F : Fun K "are_pairs" "are_pairs" s_are_pairs D.a_are_pairs D.d_are_pairs
  are_pairs_g : mg "are_pairs" = some (.ref D.a_are_pairs)
  are_pairs_b : Binds K D.d_are_pairs P_are_pairs []
  is_name_F : Fun K "is_name" "is_name" s_is_name D.a_is_name D.d_is_name
  is_name_g : mg "is_name" = some (.ref D.a_is_name)
  is_name_b : Binds K D.d_is_name P_is_name []
  stage_of_text_F : Fun K "stage_of_text" "stage_of_text" s_stage_of_text D.a_stage_of_text D.d_stage_of_text
  stage_of_text_g : mg "stage_of_text" = some (.ref D.a_stage_of_text)
  stage_of_text_b : Binds K D.d_stage_of_text P_stage_of_text []
  parts_of_text_F : Fun K "parts_of_text" "parts_of_text" s_parts_of_text D.a_parts_of_text D.d_parts_of_text
  parts_of_text_g : mg "parts_of_text" = some (.ref D.a_parts_of_text)
  parts_of_text_b : Binds K D.d_parts_of_text P_parts_of_text []
  rank_of_F : Fun K "rank_of" "rank_of" s_rank_of D.a_rank_of D.d_rank_of
  rank_of_g : mg "rank_of" = some (.ref D.a_rank_of)
  rank_of_b : Binds K D.d_rank_of P_rank_of []
  Version_init_F : Fun K "__init__" "Version.__init__" s_Version_init D.a_Version_init D.d_Version_init
  Version_init_b : Binds K D.d_Version_init P_Version_init []
  Version_rank_F : Fun K "rank" "Version.rank" s_Version_rank D.a_Version_rank D.d_Version_rank
  Version_rank_b : Binds K D.d_Version_rank P_Version_rank []
  Version_eq_F : Fun K "__eq__" "Version.__eq__" s_Version_eq D.a_Version_eq D.d_Version_eq
  Version_eq_b : Binds K D.d_Version_eq P_Version_eq []
  by_rank_F : Fun K "by_rank" "by_rank" s_by_rank D.a_by_rank D.d_by_rank
  by_rank_g : mg "by_rank" = some (.ref D.a_by_rank)
  by_rank_b : Binds K D.d_by_rank P_by_rank []
  is_standing_F : Fun K "is_standing" "is_standing" s_is_standing D.a_is_standing D.d_is_standing
  is_standing_g : mg "is_standing" = some (.ref D.a_is_standing)
  is_standing_b : Binds K D.d_is_standing P_is_standing []
  is_fresh_F : Fun K "is_fresh" "is_fresh" s_is_fresh D.a_is_fresh D.d_is_fresh
  is_fresh_g : mg "is_fresh" = some (.ref D.a_is_fresh)
  is_fresh_b : Binds K D.d_is_fresh P_is_fresh []
  Newest_call_F : Fun K "__call__" "Newest.__call__" s_Newest_call D.a_Newest_call D.d_Newest_call
  Newest_call_b : Binds K D.d_Newest_call P_Newest_call []
  Newest_standing_of_F : Fun K "standing_of" "Newest.standing_of" s_Newest_standing_of D.a_Newest_standing_of D.d_Newest_standing_of
  Newest_standing_of_b : Binds K D.d_Newest_standing_of P_Newest_standing_of []
  Oldest_call_F : Fun K "__call__" "Oldest.__call__" s_Oldest_call D.a_Oldest_call D.d_Oldest_call
  Oldest_call_b : Binds K D.d_Oldest_call P_Oldest_call []
  Oldest_standing_of_F : Fun K "standing_of" "Oldest.standing_of" s_Oldest_standing_of D.a_Oldest_standing_of D.d_Oldest_standing_of
  Oldest_standing_of_b : Binds K D.d_Oldest_standing_of P_Oldest_standing_of []
  Keeping_init_e : SqT K (fun _ => none) D.e_Keeping_init []
  Keeping_init_F : FunD K "__init__" "Keeping.__init__" (defArgs s_Keeping_init) (defBody s_Keeping_init) (defScope s_Keeping_init) [.ref D.e_Keeping_init] [] D.a_Keeping_init D.d_Keeping_init
  Keeping_init_b : Binds K D.d_Keeping_init P_Keeping_init []
  Keeping_init_b0 : ∃ ds : List Value, Vals [.ref D.e_Keeping_init] ds ∧ Binds K D.d_Keeping_init P_Keeping_init ds
  Keeping_call_F : Fun K "__call__" "Keeping.__call__" s_Keeping_call D.a_Keeping_call D.d_Keeping_call
  Keeping_call_b : Binds K D.d_Keeping_call P_Keeping_call []
  Keeping_standing_of_F : Fun K "standing_of" "Keeping.standing_of" s_Keeping_standing_of D.a_Keeping_standing_of D.d_Keeping_standing_of
  Keeping_standing_of_b : Binds K D.d_Keeping_standing_of P_Keeping_standing_of []
  begin_F : Fun K "_law_begin" "_law_begin" s_begin D.a_begin D.d_begin
  begin_g : mg "_law_begin" = some (.ref D.a_begin)
  begin_b : Binds K D.d_begin P_begin []
  mixed_F : Fun K "_law_mixed" "_law_mixed" s_mixed D.a_mixed D.d_mixed
  mixed_g : mg "_law_mixed" = some (.ref D.a_mixed)
  mixed_b : Binds K D.d_mixed P_mixed []
  next_F : Fun K "_law_next" "_law_next" s_next D.a_next D.d_next
  next_g : mg "_law_next" = some (.ref D.a_next)
  next_b : Binds K D.d_next P_next []
  versions_F : Fun K "_law_versions" "_law_versions" s_versions D.a_versions D.d_versions
  versions_g : mg "_law_versions" = some (.ref D.a_versions)
  versions_b : Binds K D.d_versions P_versions []
  made_F : Fun K "_law_made" "_law_made" s_made D.a_made D.d_made
  made_g : mg "_law_made" = some (.ref D.a_made)
  made_b : Binds K D.d_made P_made []
  ranked_F : Fun K "_law_ranked" "_law_ranked" s_ranked D.a_ranked D.d_ranked
  ranked_g : mg "_law_ranked" = some (.ref D.a_ranked)
  ranked_b : Binds K D.d_ranked P_ranked []
  order_right_F : Fun K "_law_order_right" "_law_order_right" s_order_right D.a_order_right D.d_order_right
  order_right_g : mg "_law_order_right" = some (.ref D.a_order_right)
  order_right_b : Binds K D.d_order_right P_order_right []
  refused_F : Fun K "_law_refused" "_law_refused" s_refused D.a_refused D.d_refused
  refused_g : mg "_law_refused" = some (.ref D.a_refused)
  refused_b : Binds K D.d_refused P_refused []
  law_F : Fun K "law" "law" s_law D.a_law D.d_law
  law_g : mg "law" = some (.ref D.a_law)
  law_b : Binds K D.d_law P_law []
  BadVersion_init_F : Fun K "__init__" "BadVersion.__init__" s_BadVersion_init D.a_BadVersion_init D.d_BadVersion_init
  BadVersion_init_b : Binds K D.d_BadVersion_init P_BadVersion_init []
  BadName_init_F : Fun K "__init__" "BadName.__init__" s_BadName_init D.a_BadName_init D.d_BadName_init
  BadName_init_b : Binds K D.d_BadName_init P_BadName_init []
  Version_g : mg "Version" = some (.ref D.a_Version)
  Version_cl : Cls K D.a_Version
  Version_mk : Mk K D.a_Version D.a_Version_init
  Version_rd : CRead K D.a_Version (.type "type")
  Version_si : SlX.SIsi K D.a_Version
  Version_nf : PySem.W.notFirst K D.a_Version (.ref D.a_Version) = true
  Version_n_rank : NoAttr K D.a_Version "_rank"
  Version_init_at : PySem.W.findIn K (.ref D.a_Version) "__init__" = some (some (.ref D.a_Version_init))
  Version_init_fn : PySem.W.isFn K (.ref D.a_Version_init) = true
  Version_rank_p : PropOf K D.a_Version "rank" D.p_Version_rank D.a_Version_rank
  Version_eq_at : PySem.W.findIn K (.ref D.a_Version) "__eq__" = some (some (.ref D.a_Version_eq))
  Version_eq_fn : PySem.W.isFn K (.ref D.a_Version_eq) = true
  Version_LAST : CVal K D.a_Version (.type "type") "LAST" (.int 3000999999999999) (.int 3000999999999999 D.t_Version_LAST)
  Newest_g : mg "Newest" = some (.ref D.a_Newest)
  Newest_cl : Cls K D.a_Newest
  Newest_m0 : Mk0 K D.a_Newest
  Newest_rd : CRead K D.a_Newest (.type "type")
  Newest_si : SlX.SIsi K D.a_Newest
  Newest_nf : PySem.W.notFirst K D.a_Newest (.ref D.a_Newest) = true
  Newest_call_at : PySem.W.findIn K (.ref D.a_Newest) "__call__" = some (some (.ref D.a_Newest_call))
  Newest_call_fn : PySem.W.isFn K (.ref D.a_Newest_call) = true
  Newest_call_c : StX.CallO K D.a_Newest D.a_Newest_call
  Newest_standing_of_at : PySem.W.findIn K (.ref D.a_Newest) "standing_of" = some (some (.ref D.a_Newest_standing_of))
  Newest_standing_of_fn : PySem.W.isFn K (.ref D.a_Newest_standing_of) = true
  Oldest_g : mg "Oldest" = some (.ref D.a_Oldest)
  Oldest_cl : Cls K D.a_Oldest
  Oldest_m0 : Mk0 K D.a_Oldest
  Oldest_rd : CRead K D.a_Oldest (.type "type")
  Oldest_si : SlX.SIsi K D.a_Oldest
  Oldest_nf : PySem.W.notFirst K D.a_Oldest (.ref D.a_Oldest) = true
  Oldest_call_at : PySem.W.findIn K (.ref D.a_Oldest) "__call__" = some (some (.ref D.a_Oldest_call))
  Oldest_call_fn : PySem.W.isFn K (.ref D.a_Oldest_call) = true
  Oldest_call_c : StX.CallO K D.a_Oldest D.a_Oldest_call
  Oldest_standing_of_at : PySem.W.findIn K (.ref D.a_Oldest) "standing_of" = some (some (.ref D.a_Oldest_standing_of))
  Oldest_standing_of_fn : PySem.W.isFn K (.ref D.a_Oldest_standing_of) = true
  Keeping_g : mg "Keeping" = some (.ref D.a_Keeping)
  Keeping_cl : Cls K D.a_Keeping
  Keeping_mk : Mk K D.a_Keeping D.a_Keeping_init
  Keeping_rd : CRead K D.a_Keeping (.type "type")
  Keeping_si : SlX.SIsi K D.a_Keeping
  Keeping_nf : PySem.W.notFirst K D.a_Keeping (.ref D.a_Keeping) = true
  Keeping_n_standing : NoAttr K D.a_Keeping "_standing"
  Keeping_init_at : PySem.W.findIn K (.ref D.a_Keeping) "__init__" = some (some (.ref D.a_Keeping_init))
  Keeping_init_fn : PySem.W.isFn K (.ref D.a_Keeping_init) = true
  Keeping_call_at : PySem.W.findIn K (.ref D.a_Keeping) "__call__" = some (some (.ref D.a_Keeping_call))
  Keeping_call_fn : PySem.W.isFn K (.ref D.a_Keeping_call) = true
  Keeping_call_c : StX.CallO K D.a_Keeping D.a_Keeping_call
  Keeping_standing_of_at : PySem.W.findIn K (.ref D.a_Keeping) "standing_of" = some (some (.ref D.a_Keeping_standing_of))
  Keeping_standing_of_fn : PySem.W.isFn K (.ref D.a_Keeping_standing_of) = true
  BadVersion_g : mg "BadVersion" = some (.ref D.a_BadVersion)
  BadVersion_xa : ExA K D.a_BadVersion
  BadVersion_xi : PySem.W.findIn K (.ref D.a_BadVersion) "__init__" = some (some (.ref D.a_BadVersion_init))
  BadVersion_xt : PySem.W.typeIn K (.ref D.a_BadVersion_init) = some (.type "function")
  BadVersion_xf : PySem.W.findIn K (.ref D.a_BadVersion) "given" = some none
  BadVersion_nm : NmC K D.a_BadVersion
  BadName_g : mg "BadName" = some (.ref D.a_BadName)
  BadName_xa : ExA K D.a_BadName
  BadName_xi : PySem.W.findIn K (.ref D.a_BadName) "__init__" = some (some (.ref D.a_BadName_init))
  BadName_xt : PySem.W.typeIn K (.ref D.a_BadName_init) = some (.type "function")
  BadName_xf : PySem.W.findIn K (.ref D.a_BadName) "given" = some none
  BadName_nm : NmC K D.a_BadName
  BadVersion_BadVersion_s : PySem.W.subIn K (.ref D.a_BadVersion) (.ref D.a_BadVersion) = some true
  BadName_BadVersion_s : PySem.W.subIn K (.ref D.a_BadName) (.ref D.a_BadVersion) = some false
  BadName_BadName_s : PySem.W.subIn K (.ref D.a_BadName) (.ref D.a_BadName) = some true
  Version_tup_s : PySem.W.subIn K (.ref D.a_Version) (.type "tuple") = some false
  Version_ne_b : PySem.W.findIn K (.ref D.a_Version) "__ne__" = some (some (.builtin "object.__ne__"))
  Keeping_init_km : KM K D.d_Keeping_init P_Keeping_init ["standing", "fresh"] (fun us => match us with | [x0, x1] => [x0, x1] | _ => []) (fun us => match us with | [x0, x1] => [x0, x1] | _ => [])
  c_STAGES : mg "STAGES" = some (.ref D.k_STAGES)
  v_STAGES : SqT K (fun _ => none) D.k_STAGES [.str "a", .str "b", .str "rc"]
  c_LETTERS : mg "LETTERS" = some (.str "abcdefghijklmnopqrstuvwxyz" D.t_LETTERS)
  c_DIGITS : mg "DIGITS" = some (.str "0123456789" D.t_DIGITS)
  c_FINAL : mg "FINAL" = some (.int 3000 D.t_FINAL)
  c_WIDTH : mg "WIDTH" = some (.int 3001 D.t_WIDTH)
  c_GREATEST : mg "GREATEST" = some (.int 999 D.t_GREATEST)
  b_all : mg "all" = none
  b_enumerate : mg "enumerate" = none
  b_int : mg "int" = none
  b_isinstance : mg "isinstance" = none
  b_len : mg "len" = none
  b_list : mg "list" = none
  b_range : mg "range" = none
  b_sorted : mg "sorted" = none
  b_str : mg "str" = none
  b_tuple : mg "tuple" = none
  b_zip : mg "zip" = none
/-! ## The draws -/
section
variable {P : Program} {w : World} {K : PySem.W.Frag} {mg : Str → Option Value} {base : Heap} {D : Ad}
def drK (c : Addr) (a l u : Int) : List (Key × V) := [(.inr "cells", .ref c), (.inr "at", .int a), (.inr "left", .int l), (.inr "used", .int u)]
theorem ne_ca : ¬ (("cells" : Str) = "at") := by decide +kernel
theorem ne_cl : ¬ (("cells" : Str) = "left") := by decide +kernel
theorem ne_cu : ¬ (("cells" : Str) = "used") := by decide +kernel
theorem ne_al : ¬ (("at" : Str) = "left") := by decide +kernel
theorem ne_au : ¬ (("at" : Str) = "used") := by decide +kernel
theorem ne_lu : ¬ (("left" : Str) = "used") := by decide +kernel
theorem ne_la : ¬ (("left" : Str) = "at") := by decide +kernel
theorem ne_ua : ¬ (("used" : Str) = "at") := by decide +kernel
theorem ne_ul : ¬ (("used" : Str) = "left") := by decide +kernel
theorem dr_cells (c : Addr) (a l u : Int) : valV (drK c a l u) (.inr "cells" : Key) = some (.ref c) := by simp [valV, drK]
theorem dr_at (c : Addr) (a l u : Int) : valV (drK c a l u) (.inr "at" : Key) = some (.int a) := by simp [valV, drK, ne_ca]
theorem dr_left (c : Addr) (a l u : Int) : valV (drK c a l u) (.inr "left" : Key) = some (.int l) := by simp [valV, drK, ne_cl, ne_al]
theorem dr_used (c : Addr) (a l u : Int) : valV (drK c a l u) (.inr "used" : Key) = some (.int u) := by simp [valV, drK, ne_cu, ne_au, ne_lu]
theorem dr_pat (c : Addr) (a l u x : Int) : putK (drK c a l u) (.inr "at" : Key) (.int x) = drK c x l u := by simp [putK, drK, ne_ca, ne_la, ne_ua]
theorem dr_pleft (c : Addr) (a l u x : Int) : putK (drK c a l u) (.inr "left" : Key) (.int x) = drK c a x u := by simp [putK, drK, ne_cl, ne_al, ne_ul]
theorem dr_pused (c : Addr) (a l u x : Int) : putK (drK c a l u) (.inr "used" : Key) (.int x) = drK c a l x := by simp [putK, drK, ne_cu, ne_au, ne_lu]

/-- a draw stands at d, its cells at c, at most n steps were made -/
def Dr (H : Hp) (d c : Addr) (n : Nat) : Prop := ∃ (cs : List Int) (a l u : Int), H d = some (.dK (drK c a l u)) ∧ H c = some (.lst (cs.map V.int)) ∧
  cs ≠ [] ∧ cs.length ≤ 64 ∧ 0 ≤ a ∧ a ≤ n ∧ 0 ≤ l ∧ 0 ≤ u ∧ u ≤ n
/-- all stands but what is at d -/
def But (d : Addr) (H H' : Hp) : Prop := ∀ b o, H b = some o → b ≠ d → H' b = some o
theorem But.refl {d : Addr} {H : Hp} : But d H H := fun _ _ e _ => e
theorem But.trans {d : Addr} {H H1 H2 : Hp} (x : But d H H1) (y : But d H1 H2) : But d H H2 := fun b o e n => y b o (x b o e n) n
theorem But.upd {d : Addr} {H : Hp} {o : HO} : But d H (upd H d o) := fun b u e n => by rw [upd_ne n]; exact e
theorem But.new {d p : Addr} {H H1 : Hp} {o : HO} (x : But d H H1) (h : H1 p = none) : But d H (L2.upd H1 p o) := fun b u e n => by
  have e1 := x b u e n
  rw [upd_ne (ne_of_none e1 h)]
  exact e1
theorem But.free {d p : Addr} {H H' : Hp} (x : But d H H') (hd : d ≠ p) (h : H' p = none) : H p = none := by
  cases q : H p with
  | none => rfl
  | some o =>
    rw [x p o q (Ne.symm hd)] at h
    cases h
theorem But.of_same {d : Addr} {H H' : Hp} (x : Same H H') : But d H H' := fun b o e _ => x b o e
theorem Dr.dict {H : Hp} {d c : Addr} {n : Nat} (h : Dr H d c n) : ∃ o, H d = some (.dK o) := let ⟨_, _, _, _, e, _⟩ := h; ⟨_, e⟩
theorem Dr.cells {H : Hp} {d c : Addr} {n : Nat} (h : Dr H d c n) : ∃ xs, H c = some (.lst xs) := let ⟨_, _, _, _, _, e, _⟩ := h; ⟨_, e⟩
theorem Dr.mono {H : Hp} {d c : Addr} {n m : Nat} (h : Dr H d c n) (q : n ≤ m) : Dr H d c m := by
  obtain ⟨cs, a, l, u, h1, h2, h3, h4, h5, h6, h7, h8, h9⟩ := h
  exact ⟨cs, a, l, u, h1, h2, h3, h4, h5, by omega, h7, h8, by omega⟩
theorem Dr.keep {H H' : Hp} {d c : Addr} {n : Nat} (h : Dr H d c n) (e : Same H H') : Dr H' d c n := by
  obtain ⟨cs, a, l, u, h1, h2, r⟩ := h
  exact ⟨cs, a, l, u, e _ _ h1, e _ _ h2, r⟩
theorem Dr.new {H : Hp} {d c p : Addr} {n : Nat} {o : HO} (h : Dr H d c n) (q : H p = none) : Dr (upd H p o) d c n :=
  h.keep fun b u e => by rw [upd_ne (ne_of_none e q)]; exact e
/-- what is at p changes -/
theorem Dr.off {H : Hp} {d c p : Addr} {n : Nat} {o : HO} (h : Dr H d c n) (hd : d ≠ p) (hc : c ≠ p) : Dr (upd H p o) d c n := by
  obtain ⟨cs, a, l, u, h1, h2, r⟩ := h
  exact ⟨cs, a, l, u, by rw [upd_ne hd]; exact h1, by rw [upd_ne hc]; exact h2, r⟩
theorem Dr.ne_new {H : Hp} {d c p : Addr} {n : Nat} (h : Dr H d c n) (q : H p = none) : d ≠ p := let ⟨_, e⟩ := h.dict; ne_of_none e q
theorem Dr.nc_new {H : Hp} {d c p : Addr} {n : Nat} (h : Dr H d c n) (q : H p = none) : c ≠ p := let ⟨_, e⟩ := h.cells; ne_of_none e q

def spMixed : Sp := fun vs H Q _ => ∃ c k : Int, vs = [.int c, .int k] ∧ 0 ≤ k ∧ k < 2 ^ 60 ∧ ∀ v, Q (.int v) H
theorem ok_mixed (T : Tex K mg D) : FnOk P w K mg base CX0 1 D.a_mixed D.d_mixed P_mixed spMixed := by
  refine T.mixed_F.ok S_mixed (fun vs H Q E h => ?_) (fun cdv A outer s H vs Q E hr h => ?_)
  · obtain ⟨c, k, rfl, _⟩ := h
    rfl
  · obtain ⟨c, k, rfl, h0, h1, q⟩ := h
    refine ⟨_, (pss_cons (ps_set (i := 2) S_mixed.nd rfl (Or.inl rfl) (pe_op op_mod (pe_op op_add (pe_op op_add (pe_op op_add (pe_op op_mod (pv 0) pe_int) (pe_op op_mul (pe_op op_mul pe_int (pv 1)) (pv 1))) (pe_op op_mul pe_int (pv 1))) pe_int) pe_int))
      (pss_cons (ps_set (i := 2) S_mixed.nd rfl (Or.inl rfl) (pe_op op_mod (pe_op op_mul (pe_op op_mod (pe_op op_mul (pv 2) (pv 2)) pe_int) (pv 2)) pe_int))
      (pss_one (ps_ret (pe_op op_fdiv (pe_op op_mod (pe_op op_mul (pv 2) (pe_op op_add pe_int (pe_op op_mul pe_int (pe_op op_mod (pv 1) pe_int)))) pe_int) pe_int))))), ?_⟩
    refine ⟨_, rfl, _, _, rfl, rfl, (posI rfl), ?_⟩
    refine ⟨_, rfl, _, _, rfl, rfl, .inl ⟨by decide, by decide⟩, ?_⟩
    refine ⟨_, rfl, _, _, rfl, rfl, .inr ⟨by omega, by omega⟩, _, _, rfl, rfl, ?_⟩
    refine ⟨_, rfl, _, _, rfl, rfl, .inl ⟨by decide, by decide⟩, _, _, rfl, rfl, _, _, rfl, rfl, _, _, rfl, rfl, (posI rfl), ?_⟩
    generalize hm : (c % 1000000007 + 7919 * k * k + 31 * k + 7) % 2147483647 = m
    have m0 : 0 ≤ m := by rw [← hm]; exact Int.emod_nonneg _ (by decide)
    have m1 : m < 2147483647 := by rw [← hm]; exact Int.emod_lt_of_pos _ (by decide)
    refine ⟨_, rfl, _, rfl, _, _, rfl, rfl, .inl ⟨by omega, by omega⟩, _, _, rfl, rfl, (posI rfl), ?_⟩
    refine ⟨_, rfl, _, _, rfl, rfl, .inr ⟨by omega, by omega⟩, _, _, rfl, rfl, (posI rfl), ?_⟩
    generalize hn : m * m % 2147483647 * m % 2147483629 = n
    have n0 : 0 ≤ n := by rw [← hn]; exact Int.emod_nonneg _ (by decide)
    have n1 : n < 2147483629 := by rw [← hn]; exact Int.emod_lt_of_pos _ (by decide)
    refine ⟨_, rfl, _, rfl, _, _, rfl, rfl, (posI rfl), _, _, rfl, rfl, .inl ⟨by decide, by decide⟩, _, _, rfl, rfl, _, _, rfl, rfl, .inl ⟨by omega, by omega⟩, ?_⟩
    refine ⟨_, _, rfl, rfl, (posI rfl), _, _, rfl, rfl, ⟨by decide, by decide⟩, ?_⟩
    exact q _

def spNext : Sp := fun vs H Q _ => ∃ (d c : Addr) (b : Int) (n : Nat), vs = [.ref d, .int b] ∧ Dr H d c n ∧ n ≤ 10 ^ 12 ∧ 0 < b ∧ b < 2 ^ 30 ∧
  ∀ (v : Int) (H' : Hp), 0 ≤ v → v < b → Dr H' d c (n + 1) → But d H H' → Q (.int v) H'
theorem ok_next (T : Tex K mg D) : FnOk P w K mg base CX0 2 D.a_next D.d_next P_next spNext := by
  have G_mixed : FnOk P w K mg base CX0 1 D.a_mixed D.d_mixed P_mixed spMixed := ok_mixed T
  refine T.next_F.ok S_next (fun vs H Q E h => ?_) (fun cdv A outer s H vs Q E hr h => ?_)
  · obtain ⟨d, c, b, n, rfl, _⟩ := h
    rfl
  · obtain ⟨d, c, b, n, rfl, ⟨cs, a, l, u, hd, hc, c0, c64, a0, an, l0, u0, un⟩, hn, b0, b1, q⟩ := h
    have hu := hu_of hr
    have ndc : d ≠ c := ne_of hd hc (by intro z; cases z)
    have sz : ∀ c' a' l' u', (drK c' a' l' u').length < sizeLine := fun _ _ _ _ => by show 4 < sizeLine; decide
    have cs0 : 0 < cs.length := List.length_pos_iff.mpr c0
    refine ⟨_, (pss_cons (ps_if (pt_cmpR op_gt (pe_dget hu (pv 0) pe_str (fun _ _ => rfl)) pe_int (nomark _)) (pss_cons (ps_set (i := 2) S_next.nd rfl (Or.inl rfl) (pe_op op_mod (pe_dget hu (pv 0) pe_str (fun _ _ => rfl)) (pv 1)))
      (pss_cons (ps_dput hu (pv 0) pe_str (pe_op op_fdiv (pe_dget hu (pv 0) pe_str (fun _ _ => rfl)) (pv 1)) rfl)
      (pss_one (ps_ret (pv 2))))) pss_nil)
      (pss_cons (ps_set (i := 3) S_next.nd rfl (Or.inl rfl) (pe_dget hu (pv 0) pe_str (fun _ _ => rfl)))
      (pss_cons (ps_set (i := 4) S_next.nd rfl (Or.inl rfl) (pe_ix ix_list (pv 3) (pe_op op_mod (pe_dget hu (pv 0) pe_str (fun _ _ => rfl)) (pe_callB call_len_seq (by rfl) T.b_len (by decide +kernel) (pa_cons (pv 3) pa_nil))) (fun _ _ => rfl)))
      (pss_cons (ps_dput hu (pv 0) pe_str (pe_op op_add (pe_dget hu (pv 0) pe_str (fun _ _ => rfl)) pe_int) rfl)
      (pss_cons (ps_if (PW.pt (pw_and (pt_cmpR op_ge (pv 4) (pe_op op_pow pe_int pe_int) (nomark _)) (pw_and1 (pt_cmpR op_le (pe_dget hu (pv 0) pe_str (fun _ _ => rfl)) (pe_callB call_len_seq (by rfl) T.b_len (by decide +kernel) (pa_cons (pv 3) pa_nil)) (nomark _))))) (pss_cons (ps_dput hu (pv 0) pe_str (pe_op op_fdiv (pv 4) (pv 1)) rfl)
      (pss_one (ps_ret (pe_op op_mod (pv 4) (pv 1))))) pss_nil)
      (pss_cons (ps_dput hu (pv 0) pe_str (pe_op op_add (pe_dget hu (pv 0) pe_str (fun _ _ => rfl)) pe_int) rfl)
      (pss_one (ps_ret (pe_op op_mod (pe_call G_mixed (hr.mono (by decide)) (by rfl) T.mixed_g T.mixed_F.kp T.mixed_b .nil pass0 (pa_cons (pe_call G_mixed (hr.mono (by decide)) (by rfl) T.mixed_g T.mixed_F.kp T.mixed_b .nil pass0 (pa_cons (pv 4) (pa_cons (pe_dget hu (pv 0) pe_str (fun _ _ => rfl)) pa_nil))) (pa_cons (pe_dget hu (pv 0) pe_str (fun _ _ => rfl)) pa_nil))) (pv 1)))))))))), ?_⟩
    refine ⟨_, rfl, d, _, rfl, (by have g := DGet.k (k := .inr "left") hd; rw [dr_left] at g; exact g), _, _, rfl, rfl, _, rfl, ?_⟩
    refine ite2 (fun hl => ?_) (fun hl => ?_)
    · refine ⟨_, rfl, d, _, rfl, (by have g := DGet.k (k := .inr "left") hd; rw [dr_left] at g; exact g), _, rfl, _, _, rfl, rfl, b0, ?_⟩
      refine ⟨_, rfl, d, _, rfl, (by have g := DGet.k (k := .inr "left") hd; rw [dr_left] at g; exact g), _, rfl, _, _, rfl, rfl, ⟨b0, b1⟩, _, rfl, d, _, rfl, DPut.k (k := .inr "left") hd (sz _ _ _ _), ?_⟩
      refine ⟨_, rfl, ?_⟩
      refine q _ _ (Int.emod_nonneg _ (by omega)) (Int.emod_lt_of_pos _ b0) ⟨cs, a, l / b, u, ?_, ?_, c0, c64, a0, by omega, Int.ediv_nonneg l0 (by omega), u0, by omega⟩ But.upd
      · rw [upd_same, dr_pleft]
      · rw [upd_ne ndc.symm]; exact hc
    · refine ⟨_, rfl, d, _, rfl, (by have g := DGet.k (k := .inr "cells") hd; rw [dr_cells] at g; exact g), ?_⟩
      refine ⟨_, rfl, _, rfl, d, _, rfl, (by have g := DGet.k (k := .inr "at") hd; rw [dr_at] at g; exact g), _, rfl, c, _, rfl, .inl (SqL.of hc), _, _, rfl, rfl, (by rw [List.length_map]; show (0 : Int) < (cs.length : Int); omega), ?_⟩
      have hix : 0 ≤ a % ((cs.map V.int).length : Int) ∧ a % ((cs.map V.int).length : Int) < ((cs.map V.int).length : Int) := by
        have e : ((cs.map V.int).length : Int) = (cs.length : Int) := by rw [List.length_map]
        rw [e]
        exact ⟨Int.emod_nonneg _ (by omega), Int.emod_lt_of_pos _ (by omega)⟩
      obtain ⟨x, hx⟩ : ∃ x, (cs.map V.int)[(a % ((cs.map V.int).length : Int)).toNat]? = some (V.int x) := by
        have hlt : (a % ((cs.map V.int).length : Int)).toNat < cs.length := by
          have e : ((cs.map V.int).length : Int) = (cs.length : Int) := by rw [List.length_map]
          omega
        exact ⟨cs[(a % ((cs.map V.int).length : Int)).toNat], by rw [List.getElem?_map, List.getElem?_eq_getElem hlt]; rfl⟩
      refine ⟨c, _, _, _, rfl, rfl, SqL.of hc, (by
        have e : a % ((cs.map V.int).length : Int) = ((a % ((cs.map V.int).length : Int)).toNat : Int) := (Int.toNat_of_nonneg hix.1).symm
        rw [e]
        exact atI_nat hx), ?_⟩
      -- at += 1
      refine ⟨_, rfl, d, _, rfl, (by have g := DGet.k (k := .inr "at") hd; rw [dr_at] at g; exact g), _, _, rfl, rfl, _, rfl, d, _, rfl, DPut.k (k := .inr "at") hd (sz _ _ _ _), ?_⟩
      rw [dr_pat]
      have hd1 : (upd H d (.dK (drK c (a + 1) l u))) d = some (.dK (drK c (a + 1) l u)) := upd_same
      have hc1 : (upd H d (.dK (drK c (a + 1) l u))) c = some (.lst (cs.map V.int)) := by rw [upd_ne ndc.symm]; exact hc
      have bu1 : But d H (upd H d (.dK (drK c (a + 1) l u))) := But.upd
      revert hd1 hc1 bu1
      generalize upd H d (.dK (drK c (a + 1) l u)) = H1
      intro hd1 hc1 bu1
      refine ⟨_, rfl, _, _, rfl, rfl, ⟨by decide, by decide, by decide⟩, _, _, rfl, rfl, _, rfl, ?_⟩
      refine ite2 (fun h18 => ?_) (fun h18 => ?_)
      · refine ⟨_, rfl, d, _, rfl, (by have g := DGet.k (k := .inr "at") hd1; rw [dr_at] at g; exact g), _, rfl, c, _, rfl, .inl (SqL.of hc1), _, _, rfl, rfl, _, rfl, ?_⟩
        refine ite2 (fun hat => ?_) (fun hat => ?_)
        · have x0 : 0 ≤ x := by
            have h2 := of_decide_eq_true h18
            have h3 : (0 : Int) ≤ 10 ^ (18 : Int).toNat := by decide
            omega
          refine ⟨_, rfl, _, rfl, _, _, rfl, rfl, ⟨b0, b1⟩, _, rfl, d, _, rfl, DPut.k (k := .inr "left") hd1 (sz _ _ _ _), ?_⟩
          refine ⟨_, rfl, _, rfl, _, _, rfl, rfl, b0, ?_⟩
          refine q _ _ (Int.emod_nonneg _ (by omega)) (Int.emod_lt_of_pos _ b0) ⟨cs, a + 1, x / b, u, ?_, ?_, c0, c64, by omega, by omega, Int.ediv_nonneg x0 (by omega), u0, by omega⟩ (bu1.trans But.upd)
          · rw [upd_same, dr_pleft]
          · rw [upd_ne ndc.symm]; exact hc1
        ·
          refine ⟨_, rfl, d, _, rfl, (by have g := DGet.k (k := .inr "used") hd1; rw [dr_used] at g; exact g), _, _, rfl, rfl, _, rfl, d, _, rfl, DPut.k (k := .inr "used") hd1 (sz _ _ _ _), ?_⟩
          rw [dr_pused]
          have hd2 : (upd H1 d (.dK (drK c (a + 1) l (u + 1)))) d = some (.dK (drK c (a + 1) l (u + 1))) := upd_same
          have hc2 : (upd H1 d (.dK (drK c (a + 1) l (u + 1)))) c = some (.lst (cs.map V.int)) := by rw [upd_ne ndc.symm]; exact hc1
          refine ⟨_, rfl, _, rfl, d, _, rfl, (by have g := DGet.k (k := .inr "at") hd2; rw [dr_at] at g; exact g), x, a + 1, rfl, by omega, by omega, fun v1 => ?_⟩
          refine ⟨_, rfl, d, _, rfl, (by have g := DGet.k (k := .inr "used") hd2; rw [dr_used] at g; exact g), v1, u + 1, rfl, by omega, by omega, fun v2 => ?_⟩
          refine ⟨_, rfl, _, _, rfl, rfl, b0, ?_⟩
          exact q _ _ (Int.emod_nonneg _ (by omega)) (Int.emod_lt_of_pos _ b0) ⟨cs, a + 1, l, u + 1, hd2, hc2, c0, c64, by omega, by omega, l0, by omega, by omega⟩ (bu1.trans But.upd)
      ·
        refine ⟨_, rfl, d, _, rfl, (by have g := DGet.k (k := .inr "used") hd1; rw [dr_used] at g; exact g), _, _, rfl, rfl, _, rfl, d, _, rfl, DPut.k (k := .inr "used") hd1 (sz _ _ _ _), ?_⟩
        rw [dr_pused]
        have hd2 : (upd H1 d (.dK (drK c (a + 1) l (u + 1)))) d = some (.dK (drK c (a + 1) l (u + 1))) := upd_same
        have hc2 : (upd H1 d (.dK (drK c (a + 1) l (u + 1)))) c = some (.lst (cs.map V.int)) := by rw [upd_ne ndc.symm]; exact hc1
        refine ⟨_, rfl, _, rfl, d, _, rfl, (by have g := DGet.k (k := .inr "at") hd2; rw [dr_at] at g; exact g), x, a + 1, rfl, by omega, by omega, fun v1 => ?_⟩
        refine ⟨_, rfl, d, _, rfl, (by have g := DGet.k (k := .inr "used") hd2; rw [dr_used] at g; exact g), v1, u + 1, rfl, by omega, by omega, fun v2 => ?_⟩
        refine ⟨_, rfl, _, _, rfl, rfl, b0, ?_⟩
        exact q _ _ (Int.emod_nonneg _ (by omega)) (Int.emod_lt_of_pos _ b0) ⟨cs, a + 1, l, u + 1, hd2, hc2, c0, c64, by omega, by omega, l0, by omega, by omega⟩ (bu1.trans But.upd)
end

/-! ## The draws begin -/
section
variable {P : Program} {w : World} {K : PySem.W.Frag} {mg : Str → Option Value} {base : Heap} {D : Ad}
theorem len_app (a b : Str) : (a ++ b).length = a.length + b.length := PySem.strLen_append a b

theorem at_in {α : Type} {xs : List α} {v : Int} (h0 : 0 ≤ v) (h1 : v < (xs.length : Int)) : ∃ x, atI xs v = some x ∧ x ∈ xs := by
  obtain ⟨j, rfl⟩ := Int.eq_ofNat_of_zero_le h0
  have hj : j < xs.length := by omega
  exact ⟨xs[j], atI_nat (List.getElem?_eq_getElem hj), List.getElem_mem hj⟩

/-! ### begin -/
theorem merge_dr (c : Addr) (a l u : Int) : mergeK [] (drK c a l u) = drK c a l u := by simp [mergeK, putK, drK, ne_ca, ne_cl, ne_cu, ne_al, ne_au, ne_lu]
def spBegin (K : PySem.W.Frag) : Sp := fun vs H Q _ => ∃ (a : Addr) (ns : List Int), vs = [.ref a] ∧ Bare K H a (ns.map V.int) ∧ ns.length ≤ 63 ∧ ∀ d c H', H d = none → Same H H' → Dr H' d c 0 → Q (.ref d) H'
theorem ok_begin (T : Tex K mg D) : FnOk P w K mg base CX0 1 D.a_begin D.d_begin P_begin (spBegin K) := by
  refine T.begin_F.ok S_begin (fun vs H Q E h => ?_) (fun cdv A outer s H vs Q E hr h => ?_)
  · obtain ⟨a, ns, rfl, _⟩ := h
    rfl
  · obtain ⟨a, ns, rfl, hb, hl, q⟩ := h
    refine ⟨_, (pss_one (ps_ret (pe_disp (pps_cons pe_str (pe_op op_catS (pv 0) (pe_lst (pa_cons pe_int pa_nil))) (pps_cons pe_str pe_int (pps_cons pe_str pe_int (pps_cons pe_str pe_int pps_nil)))) (by rfl) (by rfl) (fun z => by cases z) (by decide)))), ?_⟩
    intro p hp
    have s1 : Same H (upd H p (.dK [])) := same_new hp
    refine ⟨_, rfl, (by show 1 ≤ sizeLine; decide), fun l hl1 => ⟨a, l, _, _, rfl, rfl, (hb.keep s1).keep (same_new hl1), upd_same, Nat.le_trans (show _ ≤ 1000 by simp; omega) (by decide), fun c hc => ?_⟩⟩
    have s2 := s1.trans (same_new (o := .lst [.int 0]) hl1)
    have s3 := s2.trans (same_new (o := .lst (ns.map V.int ++ [.int 0])) hc)
    have npl : p ≠ l := ne_of_none upd_same hl1
    have npc : p ≠ c := by
      have e : (upd (upd H p (.dK [])) l (.lst [.int 0])) p = some (.dK []) := by rw [upd_ne npl, upd_same]
      exact ne_of_none e hc
    refine ⟨by rw [upd_ne npc, upd_ne npl, upd_same], drK c 0 0 0, rfl, (by show 4 ≤ 15; decide), ?_⟩
    rw [merge_dr]
    refine q p c _ hp (same_upd s3 hp) ⟨ns ++ [0], 0, 0, 0, upd_same, ?_, by simp, by simp; omega, by decide, by decide, by decide, by decide, by decide⟩
    rw [upd_ne npc.symm, upd_same]
    simp

end

/-! ## Versions: the program's defs -/
section
variable {P : Program} {w : World} {K : PySem.W.Frag} {mg : Str → Option Value} {base : Heap} {D : Ad}
open TL SX
theorem szl {n : Nat} (h : n ≤ 1000) : n ≤ sizeLine := Nat.le_trans h (by decide)
theorem szt {n : Nat} (h : n ≤ 1000) : n < sizeLine := Nat.lt_of_le_of_lt h (by decide)
theorem szL {n : Nat} (h : n ≤ 100000) : n ≤ sizeLine := Nat.le_trans h (by decide)
theorem szT {n : Nat} (h : n ≤ 100000) : n < sizeLine := Nat.lt_of_le_of_lt h (by decide)
theorem kit_self {C : Addr} : PySem.W.kitOne K (.ref C) (.ref C) = some true := by
  unfold PySem.W.kitOne
  simp
def inS (sg : Str) (c : Nat) : Bool := decide (c ∈ sg.cps.toList)
theorem filt1 {α : Type} {xs : List α} : xs.filter (fun _ => true) = xs := List.filter_eq_self.mpr (by simp)
def spConsistsOf : Sp := fun vs H Q _ => ∃ t sg : Str, vs = [.str t, .str sg] ∧ t.length ≤ 200 ∧ ∀ H', Same H H' → Q (.bl (t.cps.toList.all (inS sg))) H'
theorem ok_consists_of (T : Tex K mg D) : FnOk P w K mg base CX0 1 D.a_consists_of D.d_consists_of P_consists_of spConsistsOf := by
  refine T.consists_of_F.ok S_consists_of (fun vs H Q E h => ?_) (fun cdv A outer s H vs Q E hr h => ?_)
  · obtain ⟨t, sg, rfl, _⟩ := h
    rfl
  · obtain ⟨t, sg, rfl, hl, q⟩ := h
    refine ⟨_, (pss_one (ps_ret (pe_callB (cr_all rfl) (by rfl) T.b_all (by decide +kernel) (pa_cons (pe_lc (own := [(("sign" : Str), 2)]) (g := gName 2) (tt := tYes) rfl S_consists_of.nd (pi_str (pv 0)) (blkOk_by (N := N_consists_of) (sc := defScope s_consists_of) (by decide +kernel)) (fun _ _ _ _ _ => pg_name (i := 2) S_consists_of.nd rfl (Or.inl rfl)) (fun _ _ _ _ _ => pts_nil) (fun _ _ _ _ _ => (pe_cmpR op_in_sign (pv 2) (pv 1) rfl))) pa_nil)))), ?_⟩
    refine ⟨_, rfl, t, rfl, fun D hD => lc_txt (fun _ => true) (fun c => .bl (inS sg c)) hD (szt (by omega)) (fun c hc H2 R S s2 h1 h2 => ?_) (fun H2 s2 h2 => ?_)⟩
    · exact ⟨rfl, ⟨_, rfl, _, rfl, c, sg, rfl, rfl, h1 rfl _ (Same.refl _)⟩⟩
    · refine ⟨D, t.cps.toList.map (inS sg), rfl, SqL.of (by rw [h2, filt1, List.map_map]; rfl), ?_⟩
      rw [List.all_map]
      exact q _ s2
def goodT (t sg : Str) (m : Int) : Bool := decide (1 ≤ (t.length : Int)) && (decide ((t.length : Int) ≤ m) && t.cps.toList.all (inS sg))
def spStrT : Sp := fun vs H Q _ => ∃ (t sg : Str) (m : Int), vs = [.str t, .str sg, .int m] ∧ t.length ≤ 100000 ∧ m ≤ 100 ∧ ∀ H', Same H H' → Q (.bl (goodT t sg m)) H'
theorem ok_is_string_of (T : Tex K mg D) : FnOk P w K mg base CX0 2 D.a_is_string_of D.d_is_string_of P_is_string_of spStrT := by
  have G_consists_of : FnOk P w K mg base CX0 1 D.a_consists_of D.d_consists_of P_consists_of spConsistsOf := ok_consists_of T
  refine T.is_string_of_F.ok S_is_string_of (fun vs H Q E h => ?_) (fun cdv A outer s H vs Q E hr h => ?_)
  · obtain ⟨x, sg, m, rfl, _⟩ := h
    rfl
  · obtain ⟨t, sg, m, rfl, hl, hm, q⟩ := h
    refine ⟨_, (pss_one (ps_ret (pe_and (pe_callB call_isi (by rfl) T.b_isinstance (by decide +kernel) (pa_cons (pv 0) (pa_cons (pe_bltn (v := .ty "str") (u := .type "str") (by rfl) T.b_str (by decide +kernel) rfl) pa_nil))) (pe_and (pe_chain op_le op_le pe_int (pe_callB call_len_str (by rfl) T.b_len (by decide +kernel) (pa_cons (pv 0) pa_nil)) (pv 2)) (pe_one (pe_call G_consists_of (hr.mono (by decide)) (by rfl) T.consists_of_g T.consists_of_F.kp T.consists_of_b .nil pass0 (pa_cons (pv 0) (pa_cons (pv 1) pa_nil)))))))), ?_⟩
    refine ⟨_, rfl, .str t, .ty "str", .type "str", .type "str", true, rfl, .ty _, .base (.str t), kit_ty (by decide +kernel), true, rfl, iteT ?_⟩
    refine ⟨_, rfl, t, rfl, szL (by omega), _, _, rfl, rfl, _, rfl, ?_⟩
    unfold goodT at q
    refine ite2 (fun h1 => ?_) (fun h1 => ?_)
    · refine ⟨_, rfl, _, _, rfl, rfl, _, rfl, ite2 (fun h2 => ?_) (fun h2 => ?_)⟩
      · have h2' := of_decide_eq_true h2
        refine ⟨_, rfl, _, rfl, t, sg, rfl, by omega, fun H' s' => ?_⟩
        have q2 := q H' s'
        rw [h1, h2] at q2
        exact q2
      · have q2 := q H (Same.refl H)
        rw [h1, Bool.eq_false_iff.mpr h2] at q2
        exact q2
    · refine ⟨_, rfl, iteF ?_⟩
      have q2 := q H (Same.refl H)
      rw [Bool.eq_false_iff.mpr h1] at q2
      exact q2
def oV : Option Nat → V
  | none => .non
  | some n => .int (n : Int)
theorem inS_dig (c : Nat) : inS (("0123456789" : String) : Str) c = isDig c := by
  unfold inS isDig
  have e : ((("0123456789" : String) : Str)).cps.toList = [48, 49, 50, 51, 52, 53, 54, 55, 56, 57] := by decide +kernel
  rw [e, Bool.eq_iff_iff, decide_eq_true_eq, decide_eq_true_eq]
  simp only [List.mem_cons, List.not_mem_nil, or_false]
  omega
theorem good_nT (l : List Nat) (k : Nat) : goodT (S l) (("0123456789" : String) : Str) (k : Int) = (decide (1 ≤ l.length) && (decide (l.length ≤ k) && l.all isDig)) := by
  unfold goodT
  have e1 : decide (1 ≤ ((S l).length : Int)) = decide (1 ≤ l.length) := by rw [S_len]; exact decide_eq_decide.mpr (by omega)
  have e2 : decide (((S l).length : Int) ≤ (k : Int)) = decide (l.length ≤ k) := by rw [S_len]; exact decide_eq_decide.mpr (by omega)
  have e3 : (S l).cps.toList.all (inS (("0123456789" : String) : Str)) = l.all isDig := by
    show l.all _ = _
    congr 1
    funext c
    exact inS_dig c
  rw [e1, e2, e3]
theorem str_num (n : Nat) : Str.ofString (toString ((n : Nat) : Int)) = S (numL n) := ext_tl (tl_num n)
theorem log_num {n : Nat} (h : n < 100000) : ((n : Nat) : Int).natAbs.log2 < 1920 := by
  rw [Int.natAbs_natCast]
  by_cases h0 : n = 0
  · rw [h0]
    decide
  · exact Nat.lt_trans ((Nat.log2_lt h0).mpr (Nat.lt_of_lt_of_le h (by decide : 100000 ≤ 2 ^ 17))) (by decide)
theorem dv_lt : ∀ (l : List Nat), NumText.AllDigits l → NumText.digitsVal l < 10 ^ l.length := by
  intro l
  induction h : l.length generalizing l with
  | zero =>
    intro _
    have : l = [] := List.length_eq_zero_iff.mp h
    subst this
    decide
  | succ n ih =>
    intro hd
    obtain ⟨r, c, rfl⟩ : ∃ r c, l = r ++ [c] := ⟨l.dropLast, l.getLast (by intro e; rw [e] at h; cases h), (List.dropLast_concat_getLast _).symm⟩
    have hr : r.length = n := by simpa using h
    have h1 := ih r hr (fun x hx => hd x (List.mem_append_left _ hx))
    have h2 := hd c (by simp)
    rw [NumText.digitsVal_snoc, Nat.pow_succ]
    omega
/-- number_in, with the last number -/
def nTL (L : Nat) (l : List Nat) : Option Nat :=
  if (decide (1 ≤ l.length) && (decide (l.length ≤ (numL L).length) && l.all isDig)) = true then (if l.head? = some 48 ∧ l ≠ [48] then none else if NumText.digitsVal l ≤ L then some (NumText.digitsVal l) else none) else none
theorem allD {l : List Nat} (h : l.all isDig = true) : NumText.AllDigits l := by
  intro c hc
  have := List.all_eq_true.mp h c hc
  simp only [isDig, decide_eq_true_eq] at this
  omega
theorem nTL_999 (l : List Nat) : nTL 999 l = nT l := by
  unfold nTL nT
  have e : (numL 999).length = 3 := by decide +kernel
  rw [e]
  by_cases h : (decide (1 ≤ l.length) && (decide (l.length ≤ 3) && l.all isDig)) = true
  · rw [if_pos h, if_pos h]
    simp only [Bool.and_eq_true, decide_eq_true_eq] at h
    have hv := dv_lt l (allD h.2.2)
    have : NumText.digitsVal l ≤ 999 := by
      have h3 : (10 : Nat) ^ l.length ≤ 10 ^ 3 := Nat.pow_le_pow_right (by decide) h.2.1
      have : (10 : Nat) ^ 3 = 1000 := rfl
      omega
    rw [if_pos this]
  · rw [if_neg h, if_neg h]
def spNumL : Sp := fun vs H Q _ => ∃ (l : List Nat) (L : Nat), vs = [.str (S l), .int (L : Int)] ∧ l.length ≤ 100000 ∧ L < 100000 ∧ ∀ H', Same H H' → Q (oV (nTL L l)) H'
theorem zero_txt : (("0" : String) : Str) = S [48] := by decide +kernel
theorem ok_number_in (T : Tex K mg D) : FnOk P w K mg base CX0 3 D.a_number_in D.d_number_in P_number_in spNumL := by
  have G_is_string_of : FnOk P w K mg base CX0 2 D.a_is_string_of D.d_is_string_of P_is_string_of spStrT := ok_is_string_of T
  refine T.number_in_F.ok S_number_in (fun vs H Q E h => ?_) (fun cdv A outer s H vs Q E hr h => ?_)
  · obtain ⟨l, L, rfl, _⟩ := h
    rfl
  · obtain ⟨l, L, rfl, hl, hL, q⟩ := h
    have hLl : (numL L).length ≤ 5 := numL_len (by decide) hL
    refine ⟨_, (pss_cons (ps_if (pt_not (pt_val (pe_call G_is_string_of (hr.mono (by decide)) (by rfl) T.is_string_of_g T.is_string_of_F.kp T.is_string_of_b .nil pass0 (pa_cons (pv 0) (pa_cons (pe_glob (v := .str "0123456789") rfl T.c_DIGITS ⟨_, rfl⟩) (pa_cons (pe_callB call_len_str (by rfl) T.b_len (by decide +kernel) (pa_cons (pe_callTy call_str_int (by rfl) T.b_str (by decide +kernel) (pa_cons (pv 1) pa_nil)) pa_nil)) pa_nil)))))) (pss_one (ps_ret pe_non)) pss_nil)
      (pss_cons (ps_if (PW.pt (pw_and (pt_cmpR op_eq (pe_ix ix_str (pv 0) pe_int (fun _ _ => rfl)) pe_str (nomark _)) (pw_and1 (pt_cmpR op_ne (pv 0) pe_str (nomark _))))) (pss_one (ps_ret pe_non)) pss_nil)
      (pss_cons (ps_set (i := 2) S_number_in.nd rfl (Or.inl rfl) (pe_callTy call_int_str (by rfl) T.b_int (by decide +kernel) (pa_cons (pv 0) pa_nil)))
      (pss_one (ps_ret (pe_ifExp (pt_cmpR op_le (pv 2) (pv 1) (nomark _)) (pv 2) pe_non)))))), ?_⟩
    refine ⟨_, rfl, _, rfl, _, rfl, log_num hL, ?_⟩
    rw [str_num]
    refine ⟨_, rfl, by rw [S_len]; exact szl (by omega), S l, (("0123456789" : String) : Str), ((numL L).length : Int), by rw [S_len]; rfl, by rw [S_len]; exact hl, by omega, fun H1 s1 => ⟨_, rfl, ?_⟩⟩
    rw [good_nT]
    unfold nTL at q
    cases hg : (decide (1 ≤ l.length) && (decide (l.length ≤ (numL L).length) && l.all isDig)) with
    | false =>
      rw [hg] at q
      exact iteT (q H1 s1)
    | true =>
      rw [hg, if_pos rfl] at q
      refine iteF ?_
      simp only [Bool.and_eq_true, decide_eq_true_eq] at hg
      obtain ⟨hg1, hg3, hgd⟩ := hg
      have hdig : NumText.AllDigits l := allD hgd
      have hne : l ≠ [] := fun e => by
        rw [e] at hg1
        simp at hg1
      have hin : PySem.intText? (S l) = some ((NumText.digitsVal l : Nat) : Int) := intText_digits (x := S l) hdig hne (by rw [S_len]; omega)
      obtain ⟨c, r, rfl⟩ : ∃ c r, l = c :: r := by
        cases l with
        | nil => exact absurd rfl hne
        | cons c r => exact ⟨c, r, rfl⟩
      have h64 : (S (c :: r)).length ≤ 640 := by rw [S_len]; omega
      refine ⟨_, rfl, S (c :: r), 0, c, rfl, rfl, by rw [S_len]; exact szL (by omega), atI_nat (j := 0) rfl, rfl, _, rfl, ?_⟩
      rw [zero_txt]
      by_cases h0 : c = 48
      · subst h0
        rw [decide_eq_true rfl]
        refine iteT ⟨_, rfl, rfl, _, rfl, ?_⟩
        by_cases h1 : r = []
        · subst h1
          rw [decide_eq_true rfl]
          rw [if_neg (by simp)] at q
          refine iteF ⟨_, rfl, S [48], _, rfl, hin, h64, _, rfl, _, rfl, _, _, rfl, rfl, ?_⟩
          refine ⟨_, rfl, ite2 (fun h2 => ?_) (fun h2 => ?_)⟩
          · have h2' := of_decide_eq_true h2
            rw [if_pos (by omega)] at q
            exact ⟨_, rfl, q H1 s1⟩
          · have h2' := of_decide_eq_false (Bool.eq_false_iff.mpr h2)
            rw [if_neg (by omega)] at q
            exact q H1 s1
        · have hd : decide (V.str (S (48 :: r)) = V.str (S [48])) = false := decide_eq_false (by
            intro e
            injection e with e
            have e2 := S_inj e
            injection e2 with _ e3
            exact h1 e3)
          rw [hd]
          rw [if_pos (by simp [h1])] at q
          exact iteT (q H1 s1)
      · have hd : decide (V.str (S [c]) = V.str (S [48])) = false := decide_eq_false (by
          intro e
          injection e with e
          have e2 := S_inj e
          injection e2 with e3
          exact h0 e3)
        rw [hd]
        rw [if_neg (by simp [h0])] at q
        refine iteF (iteF ⟨_, rfl, S (c :: r), _, rfl, hin, h64, _, rfl, _, rfl, _, _, rfl, rfl, ?_⟩)
        refine ⟨_, rfl, ite2 (fun h2 => ?_) (fun h2 => ?_)⟩
        · have h2' := of_decide_eq_true h2
          rw [if_pos (by omega)] at q
          exact ⟨_, rfl, q H1 s1⟩
        · have h2' := of_decide_eq_false (Bool.eq_false_iff.mpr h2)
          rw [if_neg (by omega)] at q
          exact q H1 s1

/-! ### stage_of_text -/
def stN : List V := [.str "a", .str "b", .str "rc"]
theorem wd_txt : (("a" : String) : Str) = S (wd 0) ∧ (("b" : String) : Str) = S (wd 1) ∧ (("rc" : String) : Str) = S (wd 2) := by decide +kernel
theorem stN_at {i : Nat} {x : V} (h : stN[i]? = some x) : i < 3 ∧ x = .str (S (wd i)) := by
  match i, h with
  | 0, h => exact ⟨by decide, by rw [← wd_txt.1]; exact (Option.some.inj h).symm⟩
  | 1, h => exact ⟨by decide, by rw [← wd_txt.2.1]; exact (Option.some.inj h).symm⟩
  | 2, h => exact ⟨by decide, by rw [← wd_txt.2.2]; exact (Option.some.inj h).symm⟩
  | n + 3, h => simp [stN] at h
theorem wd_ne (i : Nat) : wd i ≠ [] := by
  match i with
  | 0 => simp [wd]
  | 1 => simp [wd]
  | n + 2 => simp [wd]
theorem par_len {b : List Nat} : ∀ {a acc p q : List Nat}, par b acc a = some (p, q) → q.length ≤ a.length ∧ p.length ≤ acc.length + a.length
  | [], acc, p, q, h => by simp [par] at h
  | c :: r, acc, p, q, h => by
    unfold par at h
    split at h
    · injection h with h
      injection h with h1 h2
      rw [← h2, ← h1, List.length_drop]
      omega
    · have := par_len h
      rw [List.length_append] at this
      simp only [List.length_cons, List.length_nil] at this ⊢
      omega
theorem sTn_step {l : List Nat} {k i : Nat} (h : par (wd i) [] l = none) : sTn l (k + 1) i = sTn l k (i + 1) := by
  show (match par (wd i) [] l with
    | some (p, q) => (p, (nT q).map (fun n => i * 1000 + n))
    | none => sTn l k (i + 1)) = _
  rw [h]
theorem sTn_hit {l p q : List Nat} {k i : Nat} (h : par (wd i) [] l = some (p, q)) : sTn l (k + 1) i = (p, (nT q).map (fun n => i * 1000 + n)) := by
  show (match par (wd i) [] l with
    | some (p, q) => (p, (nT q).map (fun n => i * 1000 + n))
    | none => sTn l k (i + 1)) = _
  rw [h]
def spStage : Sp := fun vs H Q _ => ∃ l : List Nat, vs = [.str (S l)] ∧ l.length ≤ 90000 ∧ ∀ p H', Same H H' → H p = none → H' p = some (.tup [.str (S (sT l).1), oV (sT l).2]) → (sT l).1.length ≤ l.length → Q (.ref p) H'
theorem ok_stage_of_text (T : Tex K mg D) : FnOk P w K mg base CX0 4 D.a_stage_of_text D.d_stage_of_text P_stage_of_text spStage := by
  have G_number_in : FnOk P w K mg base CX0 3 D.a_number_in D.d_number_in P_number_in spNumL := ok_number_in T
  refine T.stage_of_text_F.ok S_stage_of_text (fun vs H Q E h => ?_) (fun cdv A outer s H vs Q E hr h => ?_)
  · obtain ⟨l, rfl, _⟩ := h
    rfl
  · obtain ⟨l, rfl, hl, q⟩ := h
    have stK : ∀ H, SqT K H D.k_STAGES stN := fun H => T.v_STAGES.elim (fun h => by
      rcases h with h | ⟨o, h⟩
      · exact nomatch (show (none : Option HO) = some _ from h)
      · exact nomatch (show (none : Option HO) = some _ from h)) .inr
    refine ⟨_, (pss_cons (ps_for PassesOwn.never rfl (pi_enT (by rfl) T.b_enumerate (pa_cons (pe_glob (v := .ref D.k_STAGES) rfl T.c_STAGES rfl) pa_nil)) (pg_tup (by rfl) (pgs_cons (pg_name (i := 1) S_stage_of_text.nd rfl (Or.inl rfl)) (pgs_cons (pg_name (i := 2) S_stage_of_text.nd rfl (Or.inl rfl)) pgs_nil))) (pss_cons (ps_asg (pe_partition (pv 0) (pv 2)) (pg_tup (by rfl) (pgs_cons (pg_name (i := 3) S_stage_of_text.nd rfl (Or.inl rfl)) (pgs_cons (pg_name (i := 4) S_stage_of_text.nd rfl (Or.inl rfl)) (pgs_cons (pg_name (i := 5) S_stage_of_text.nd rfl (Or.inl rfl)) pgs_nil)))))
      (pss_one (ps_if (pt_truth (pv 4) (by intro _; rfl)) (pss_cons (ps_set (i := 6) S_stage_of_text.nd rfl (Or.inl rfl) (pe_call G_number_in (hr.mono (by decide)) (by rfl) T.number_in_g T.number_in_F.kp T.number_in_b .nil pass0 (pa_cons (pv 5) (pa_cons (pe_glob (v := .int 999) rfl T.c_GREATEST ⟨_, rfl⟩) pa_nil))))
      (pss_cons (ps_if (pt_cmpR op_isN (pv 6) pe_non (nomark _)) (pss_one (ps_ret (pe_tup (pa_cons (pv 3) (pa_cons pe_non pa_nil))))) pss_nil)
      (pss_one (ps_ret (pe_tup (pa_cons (pv 3) (pa_cons (pe_op op_add (pe_op op_mul (pv 1) pe_int) (pv 6)) pa_nil))))))) pss_nil))))
      (pss_one (ps_ret (pe_tup (pa_cons (pv 0) (pa_cons (pe_glob (v := .int 3000) rfl T.c_FINAL ⟨_, rfl⟩) pa_nil)))))), ?_⟩
    refine ⟨D.k_STAGES, stN, rfl, stK _, ?_⟩
    refine for_it (walk_enT (xs := stN)) (fun i σ H' => (∃ a b c d e f, σ = [some (.str (S l)), a, b, c, d, e, f]) ∧ Same H H' ∧ sT l = sTn l (3 - i) i) ⟨⟨_, _, _, _, _, _, rfl⟩, Same.refl _, rfl⟩ (fun i σ H' _ _ => stK _) ?_ ?_
    · rintro i x σ H1 H2 hi ⟨⟨o1, o2, o3, o4, o5, o6, rfl⟩, s1, est⟩ ⟨t1, x1, y1, rfl, ht1, rfl, ex, ey⟩
      obtain ⟨hi3, rfl⟩ := stN_at ey
      obtain rfl : V.int (i : Nat) = x1 := Option.some.inj ex
      have s2 := s1.trans (same_new (o := .tup [.int (i : Nat), .str (S (wd i))]) ht1)
      refine ⟨t1, _, rfl, .inl (.inl upd_same), rfl, _, _, rfl, _, _, rfl, rfl, ?_⟩
      have wl : ((S (wd i)).length == 0) = false := by
        rw [S_len]
        cases e : wd i with
        | nil => exact absurd e (wd_ne i)
        | cons c r => rfl
      have wl2 : (((S (wd i)).length : Int) != 0) = true := by
        rw [S_len]
        cases e : wd i with
        | nil => exact absurd e (wd_ne i)
        | cons c r =>
          rw [List.length_cons, bne_iff_ne]
          omega
      have wl3 : (S (wd i)).length ≤ sizeLine := by
        rw [S_len]
        exact szl (by
          match i with
          | 0 => decide
          | 1 => decide
          | n + 2 => simp [wd])
      cases hp : par (wd i) [] l with
      | none =>
        have ep : Txt.partition (S l) (S (wd i)) = (S l, S [], S []) := SX.partition_none (wd_ne i) hp
        refine ⟨_, rfl, ⟨_, rfl⟩, _, rfl, S l, S (wd i), rfl, rfl, wl, by rw [S_len]; exact szL (by omega), fun t2 ht2 => ?_⟩
        rw [ep]
        refine ⟨t2, _, rfl, .inl (.inl upd_same), rfl, _, _, rfl, _, _, rfl, _, _, rfl, rfl, ?_⟩
        refine ⟨_, rfl, false, ⟨Nat.zero_le _, rfl⟩, iteF ?_⟩
        refine ⟨⟨_, _, _, _, _, _, rfl⟩, s2.trans (same_new ht2), ?_⟩
        rw [est, show 3 - i = (3 - (i + 1)) + 1 by omega]
        exact sTn_step hp
      | some pq =>
        obtain ⟨p, q'⟩ := pq
        have ep : Txt.partition (S l) (S (wd i)) = (S p, S (wd i), S q') := SX.partition_some (wd_ne i) hp
        have hpl := par_len hp
        have eS : sT l = (p, (nT q').map (fun n => i * 1000 + n)) := by
          rw [est, show 3 - i = (3 - (i + 1)) + 1 by omega]
          exact sTn_hit hp
        rw [eS] at q
        refine ⟨_, rfl, ⟨_, rfl⟩, _, rfl, S l, S (wd i), rfl, rfl, wl, by rw [S_len]; exact szL (by omega), fun t2 ht2 => ?_⟩
        rw [ep]
        refine ⟨t2, _, rfl, .inl (.inl upd_same), rfl, _, _, rfl, _, _, rfl, _, _, rfl, rfl, ?_⟩
        refine ⟨_, rfl, true, ⟨wl3, wl2.symm⟩, iteT ?_⟩
        have s3 := s2.trans (same_new (o := .tup [.str (S p), .str (S (wd i)), .str (S q')]) ht2)
        refine ⟨_, rfl, q', 999, rfl, by omega, by decide, fun H4 s4 => ⟨_, rfl, rfl, _, rfl, ?_⟩⟩
        rw [nTL_999]
        cases hn : nT q' with
        | none =>
          rw [hn] at q
          refine iteT ⟨_, rfl, by show 2 ≤ sizeLine; decide, fun r hr => ?_⟩
          exact q r _ ((s3.trans s4).trans (same_new hr)) ((s3.trans s4).free hr) upd_same (by simpa using hpl.2)
        | some n =>
          rw [hn] at q
          refine iteF ⟨_, rfl, _, rfl, _, _, rfl, rfl, .inr ⟨by decide, by decide⟩, _, rfl, _, _, rfl, rfl, by show 2 ≤ sizeLine; decide, fun r hr => ?_⟩
          have e1 : oV ((some n).map (fun n => i * 1000 + n)) = V.int ((i : Int) * 1000 + (n : Int)) := by
            show V.int ((i * 1000 + n : Nat) : Int) = _
            congr 1
          rw [e1] at q
          exact q r _ ((s3.trans s4).trans (same_new hr)) ((s3.trans s4).free hr) upd_same (by simpa using hpl.2)
    · rintro σ H1 ⟨⟨o1, o2, o3, o4, o5, o6, rfl⟩, s1, est⟩
      have e0 : sT l = (l, some 3000) := est
      rw [e0] at q
      refine ⟨_, rfl, by show 2 ≤ sizeLine; decide, fun p hp => ?_⟩
      exact q p _ (s1.trans (same_new hp)) (s1.free hp) upd_same (Nat.le_refl _)

/-! ### parts_of_text -/
theorem dot_txt : (("." : String) : Str) = S [46] := by decide +kernel
theorem spl_len {b : List Nat} : ∀ {k : Nat} {acc l : List Nat}, (spl b k acc l).length ≤ l.length + 1 ∧ ∀ x ∈ spl b k acc l, x.length ≤ acc.length + l.length
  | k, acc, [] => by
    rw [spl_nil]
    simp
  | 0, acc, c :: r => by
    by_cases h : pre b (c :: r) = true
    · rw [spl_hit h]
      have ih := spl_len (b := b) (k := b.length - 1) (acc := []) (l := r)
      refine ⟨by simp only [List.length_cons]; omega, ?_⟩
      intro x hx
      rcases List.mem_cons.mp hx with rfl | hx
      · simp
      · have := ih.2 x hx
        simp only [List.length_nil, List.length_cons] at this ⊢
        omega
    · rw [spl_miss (Bool.eq_false_iff.mpr h)]
      have ih := spl_len (b := b) (k := 0) (acc := acc ++ [c]) (l := r)
      refine ⟨by simp only [List.length_cons]; omega, ?_⟩
      intro x hx
      have := ih.2 x hx
      simp only [List.length_append, List.length_cons, List.length_nil] at this ⊢
      omega
  | k + 1, acc, c :: r => by
    have ih := spl_len (b := b) (k := k) (acc := acc) (l := r)
    refine ⟨by show (spl b k acc r).length ≤ _; simp only [List.length_cons]; omega, ?_⟩
    intro x hx
    have := ih.2 x hx
    simp only [List.length_cons]
    omega
def vN (ns : List Nat) : List V := ns.map fun (n : Nat) => V.int (n : Int)
theorem allSome_some : ∀ {os : List (Option Nat)} {ns : List Nat}, allSome os = some ns → os = ns.map some
  | [], ns, h => by
    have : ns = [] := (Option.some.inj h).symm
    subst this
    rfl
  | none :: r, ns, h => by cases h
  | some n :: r, ns, h => by
    have h' : (allSome r).map (n :: ·) = some ns := h
    cases e : allSome r with
    | none =>
      rw [e] at h'
      cases h'
    | some m =>
      rw [e] at h'
      have h2 := Option.some.inj h'
      subst h2
      rw [allSome_some e]
      rfl
theorem allSome_none : ∀ {os : List (Option Nat)}, allSome os = none ↔ none ∈ os
  | [] => by simp [allSome]
  | none :: r => by simp [allSome]
  | some n :: r => by
    have ih := allSome_none (os := r)
    show (allSome r).map (n :: ·) = none ↔ _
    rw [Option.map_eq_none_iff, ih]
    simp
theorem inV_non (os : List (Option Nat)) : inV .non (os.map oV) = (allSome os).isNone := by
  rw [Bool.eq_iff_iff, Option.isNone_iff_eq_none, allSome_none]
  unfold inV
  rw [List.any_map, List.any_eq_true]
  constructor
  · rintro ⟨o, ho, he⟩
    cases o with
    | none => exact ho
    | some n => exact absurd he (by simp [oV, eqV])
  · intro h
    exact ⟨none, h, rfl⟩
theorem flat_oV (os : List (Option Nat)) : (os.map oV).all flatV = true := by
  rw [List.all_map, List.all_eq_true]
  intro o _
  cases o <;> rfl
/-- a version's parts as a value: None, or a new pair of a tuple of numbers and the stage -/
def spParts : Sp := fun vs H Q _ => ∃ l : List Nat, vs = [.str (S l)] ∧ l.length ≤ 80000 ∧
  (pT l = none → ∀ H', Same H H' → Q .non H') ∧
  (∀ ns st, pT l = some (ns, st) → ∀ p q H', Same H H' → H p = none → H' p = some (.tup [.ref q, .int (st : Int)]) → H' q = some (.tup (vN ns)) → Q (.ref p) H')
theorem ok_parts_of_text (T : Tex K mg D) : FnOk P w K mg base CX0 5 D.a_parts_of_text D.d_parts_of_text P_parts_of_text spParts := by
  have G_number_in : FnOk P w K mg base CX0 3 D.a_number_in D.d_number_in P_number_in spNumL := ok_number_in T
  have G_stage_of_text : FnOk P w K mg base CX0 4 D.a_stage_of_text D.d_stage_of_text P_stage_of_text spStage := ok_stage_of_text T
  refine T.parts_of_text_F.ok S_parts_of_text (fun vs H Q E h => ?_) (fun cdv A outer s H vs Q E hr h => ?_)
  · obtain ⟨l, rfl, _⟩ := h
    rfl
  · obtain ⟨l, rfl, hl, q0, q1⟩ := h
    refine ⟨_, (pss_cons (ps_if (pt_not (pt_val (pe_callB call_isi (by rfl) T.b_isinstance (by decide +kernel) (pa_cons (pv 0) (pa_cons (pe_bltn (v := .ty "str") (u := .type "str") (by rfl) T.b_str (by decide +kernel) rfl) pa_nil))))) (pss_one (ps_ret pe_non)) pss_nil)
      (pss_cons (ps_asg (pe_call G_stage_of_text (hr.mono (by decide)) (by rfl) T.stage_of_text_g T.stage_of_text_F.kp T.stage_of_text_b .nil pass0 (pa_cons (pv 0) pa_nil)) (pg_tup (by rfl) (pgs_cons (pg_name (i := 1) S_parts_of_text.nd rfl (Or.inl rfl)) (pgs_cons (pg_name (i := 2) S_parts_of_text.nd rfl (Or.inl rfl)) pgs_nil))))
      (pss_cons (ps_setLc (i := 3) (own := [(("part" : Str), 4)]) (g := gName 4) (tt := tYes) rfl S_parts_of_text.nd rfl rfl (sw_true rfl rfl rfl (by decide +kernel)) (pi_list (pe_split (pv 1) pe_str)) (blkOk_by (N := N_parts_of_text) (sc := defScope s_parts_of_text) (by decide +kernel)) (fun _ _ _ _ _ => pg_name (i := 4) S_parts_of_text.nd rfl (Or.inl rfl)) (fun _ _ _ _ _ => pts_nil) (fun _ _ _ _ _ => (pe_call G_number_in (hr.mono (by decide)) (by rfl) T.number_in_g T.number_in_F.kp T.number_in_b .nil pass0 (pa_cons (pv 4) (pa_cons (pe_glob (v := .int 999) rfl T.c_GREATEST ⟨_, rfl⟩) pa_nil)))))
      (pss_cons (ps_if (PW.pt (pw_or (pt_cmpR op_isN (pv 2) pe_non (nomark _)) (pw_or (pt_cmpR op_in_seq pe_non (pv 3) rfl) (pw_or1 (pt_cmpR op_gt (pe_callB call_len_seq (by rfl) T.b_len (by decide +kernel) (pa_cons (pv 3) pa_nil)) pe_int (nomark _)))))) (pss_one (ps_ret pe_non)) pss_nil)
      (pss_one (ps_ret (pe_tup (pa_cons (pe_callTy call_tuple_of (by rfl) T.b_tuple (by decide +kernel) (pa_cons (pv 3) pa_nil)) (pa_cons (pv 2) pa_nil))))))))), ?_⟩
    refine ⟨_, rfl, .str (S l), .ty "str", .type "str", .type "str", true, rfl, .ty _, .base (.str _), kit_ty (by decide +kernel), _, rfl, iteF ?_⟩
    refine ⟨_, rfl, l, rfl, by omega, fun t1 H1 s1 ht1 ht1' hfl => ?_⟩
    refine ⟨t1, _, rfl, .inl (.inl ht1'), rfl, _, _, rfl, _, _, rfl, rfl, ?_⟩
    generalize hfr : (sT l).1 = fr at hfl
    have esp : Txt.split (S fr) (S [46]) = (spl [46] 0 [] fr).map S := split_S (by simp) (by decide)
    have hsl := spl_len (b := [46]) (k := 0) (acc := []) (l := fr)
    refine ⟨_, rfl, ⟨_, rfl⟩, _, _, rfl, rfl, by rw [dot_txt]; rfl, by rw [S_len]; exact szL (by omega), fun t2 ht2 => ?_⟩
    rw [dot_txt, esp]
    have s2 := s1.trans (same_new (o := .lst (((spl [46] 0 [] fr).map S).map V.str)) ht2)
    have e2 : (upd H1 t2 (.lst (((spl [46] 0 [] fr).map S).map V.str))) t2 = some (.lst ((spl [46] 0 [] fr).map fun x => V.str (S x))) := by
      rw [upd_same, List.map_map]
      rfl
    revert s2 e2
    generalize upd H1 t2 (.lst (((spl [46] 0 [] fr).map S).map V.str)) = H2
    intro s2 e2
    refine ⟨t2, rfl, ⟨_, SqL.of e2⟩, fun D' hD' => lc_lst (spl [46] 0 [] fr) (fun x => V.str (S x)) (fun _ => true) (fun x => oV (nT x)) hD' (szT (by omega)) (SqL.of e2) (fun x hx H3 R S3 s3 h1 h2 => ?_) (fun H3 s3 h3 => ?_)⟩
    · have hxl := hsl.2 x hx
      exact ⟨rfl, ⟨_, rfl, x, 999, rfl, by simp at hxl; omega, by decide, fun H' s' => by rw [nTL_999]; exact h1 rfl H' s'⟩⟩
    · rw [filt1] at h3
      have h3' : H3 D' = some (.lst (((spl [46] 0 [] fr).map nT).map oV)) := by
        rw [h3, List.map_map]
        rfl
      have s4 := s2.trans s3
      have hlen : (((spl [46] 0 [] fr).map nT).map oV).length ≤ 90000 := by
        rw [List.length_map, List.length_map]
        omega
      have ep : pT l = (match (sT l).2, allSome ((spl [46] 0 [] fr).map nT) with
          | some st, some ns => if ns.length > 4 then none else some (ns, st)
          | _, _ => none) := by
        rw [← hfr]
        rfl
      rw [ep] at q0 q1
      generalize (spl [46] 0 [] fr).map nT = os at h3' hlen q0 q1
      generalize (sT l).2 = so at q0 q1
      refine ⟨_, rfl, rfl, _, rfl, ?_⟩
      cases so with
      | none => exact iteT (q0 rfl H3 s4)
      | some st =>
        refine iteF ⟨_, rfl, D', _, rfl, .inl (SqL.of h3'), rfl, flat_oV os, _, rfl, ?_⟩
        show if (inV .non (os.map oV)) = true then _ else _
        rw [inV_non]
        cases ea : allSome os with
        | none =>
          rw [ea] at q0
          exact iteT (q0 rfl H3 s4)
        | some ns =>
          rw [ea] at q0 q1
          have eo := allSome_some ea
          have eo2 : os.map oV = vN ns := by
            rw [eo, List.map_map]
            rfl
          rw [eo2] at h3' hlen
          refine iteF ⟨_, rfl, D', _, rfl, .inl (SqL.of h3'), _, _, rfl, rfl, _, rfl, ?_⟩
          have hln : (vN ns).length = ns.length := List.length_map _
          by_cases h4 : ns.length > 4
          · rw [decide_eq_true (by rw [hln]; omega)]
            refine iteT (q0 ?_ H3 s4)
            simp only [if_pos h4]
          · rw [decide_eq_false (by rw [hln]; omega)]
            refine iteF ⟨_, rfl, D', _, rfl, .inl ⟨SqL.of h3', fun q hq => ⟨_, rfl, by show 2 ≤ sizeLine; decide, fun p hp => ?_⟩⟩⟩
            have s5 := s4.trans (same_new (o := .tup (vN ns)) hq)
            refine q1 ns st (by simp only [if_neg h4]) p q _ (s5.trans (same_new hp)) (s5.free hp) upd_same ?_
            rw [upd_ne (ne_of_none upd_same hp), upd_same]

/-! ### ranks -/
def spRank (K : PySem.W.Frag) : Sp := fun vs H Q _ => ∃ (a : Addr) (ns : List Nat) (st : Nat), vs = [.ref a, .int (st : Int)] ∧ SqT K H a (vN ns) ∧ ns ≠ [] ∧ ns.length ≤ 10 ∧ ∀ H', Same H H' → Q (.int (rk ns st : Nat)) H'
theorem ok_rank_of (T : Tex K mg D) : FnOk P w K mg base CX0 1 D.a_rank_of D.d_rank_of P_rank_of (spRank K) := by
  refine T.rank_of_F.ok S_rank_of (fun vs H Q E h => ?_) (fun cdv A outer s H vs Q E hr h => ?_)
  · obtain ⟨a, ns, st, rfl, _⟩ := h
    rfl
  · obtain ⟨a, ns, st, rfl, ha, hne, h4, q⟩ := h
    refine ⟨_, (pss_cons (ps_set (i := 2) S_rank_of.nd rfl (Or.inl rfl) pe_int)
      (pss_cons (ps_for PassesOwn.never rfl (pi_tup (pe_slice sl_tupA (pe_op op_catA (pe_callTy call_tupleT (by rfl) T.b_tuple (by decide +kernel) (pa_cons (pv 0) pa_nil)) (pe_tup (pa_cons pe_int (pa_cons pe_int (pa_cons pe_int pa_nil))))) po_none (po_some pe_int))) (pg_name (i := 3) S_rank_of.nd rfl (Or.inl rfl)) (pss_one (ps_set (i := 2) S_rank_of.nd rfl (Or.inl rfl) (pe_op op_add (pe_op op_mul (pv 2) pe_int) (pv 3)))))
      (pss_one (ps_ret (pe_op op_add (pe_op op_mul (pv 2) (pe_glob (v := .int 3001) rfl T.c_WIDTH ⟨_, rfl⟩)) (pv 1)))))), ?_⟩
    have hln : (vN ns).length = ns.length := List.length_map _
    have hi0 : vN ns ≠ [] := by
      intro e
      exact hne (List.map_eq_nil_iff.mp e)
    refine ⟨_, rfl, a, _, rfl, ha, by show 3 ≤ sizeLine; decide, fun z hz => ?_⟩
    have hz0 : (vN [0, 0, 0]) = [V.int 0, .int 0, .int 0] := rfl
    have s1 : Same H (upd H z (.tup [.int 0, .int 0, .int 0])) := same_new hz
    have keepT : ∀ {H1 H2 : Hp} {b : Addr} {xs : List V}, Same H1 H2 → SqT K H1 b xs → SqT K H2 b xs := by
      intro H1 H2 b xs e h
      rcases h with (h | ⟨o, h⟩) | h
      · exact .inl (.inl (e _ _ h))
      · exact .inl (.inr ⟨o, e _ _ h⟩)
      · exact .inr h
    refine ⟨a, z, _, _, rfl, rfl, keepT s1 ha, .inl (.inl upd_same), by rw [hln]; exact szl (by simp; omega), fun e => absurd e hi0, fun _ e => (nomatch e), fun _ _ p hp => ?_⟩
    have s2 := s1.trans (same_new (o := .tup (vN ns ++ [.int 0, .int 0, .int 0])) hp)
    have ecut : cutV (vN ns ++ [.int 0, .int 0, .int 0]) none (some 4) = vN ((ns ++ [0, 0, 0]).take 4) := by
      unfold cutV
      have e1 : HT.sIx (vN ns ++ [V.int 0, .int 0, .int 0]).length 0 none = 0 := rfl
      have e2 : HT.sIx (vN ns ++ [V.int 0, .int 0, .int 0]).length (vN ns ++ [V.int 0, .int 0, .int 0]).length (some 4) = 4 := by
        have := HT.sIx_nat (vN ns ++ [V.int 0, .int 0, .int 0]).length (vN ns ++ [V.int 0, .int 0, .int 0]).length 4
        rw [List.length_append, hln] at this ⊢
        have hp : 1 ≤ ns.length := List.length_pos_iff.mpr hne
        have h3 : ([V.int 0, .int 0, .int 0] : List V).length = 3 := rfl
        rw [h3] at this ⊢
        rw [show ((4 : Nat) : Int) = 4 from rfl] at this
        rw [this]
        omega
      rw [e1, e2, List.drop_zero]
      show (vN ns ++ vN [0, 0, 0]).take 4 = _
      unfold vN
      rw [← List.map_append, List.map_take]
    refine ⟨_, rfl, p, _, rfl, .inl (.inl upd_same), fun hw => ?_, fun hw p2 hp2 => ?_⟩
    · have hb : SqT K (upd (upd H z (.tup [.int 0, .int 0, .int 0])) p (.tup (vN ns ++ [.int 0, .int 0, .int 0]))) p (vN ((ns ++ [0, 0, 0]).take 4)) := by
        have e : vN ((ns ++ [0, 0, 0]).take 4) = vN ns ++ [.int 0, .int 0, .int 0] := by
          rw [← ecut]
          unfold cutV
          rw [hw.1, hw.2, List.drop_zero, Nat.sub_zero, List.take_length]
        rw [e]
        exact .inl (.inl upd_same)
      revert hb s2
      generalize upd (upd H z (.tup [.int 0, .int 0, .int 0])) p (.tup (vN ns ++ [.int 0, .int 0, .int 0])) = H3
      intro s2 hb
      refine ⟨_, rfl, ⟨_, hb⟩, for_tup (K := K) (xs := vN ((ns ++ [0, 0, 0]).take 4)) (fun i σ H' => Same H3 H' ∧ ∃ x, σ = [some (.ref a), some (.int (st : Int)), some (.int (((((ns ++ [0, 0, 0]).take 4).take i).foldl (fun r n => r * 1000 + n) 0 : Nat) : Int)), x]) ⟨Same.refl _, _, rfl⟩ (fun i σ H' _ h => keepT h.1 hb) ?_ ?_⟩
      · rintro i y σ H4 hi ⟨s4, x, rfl⟩
        have hi' : ∃ n, ((ns ++ [0, 0, 0]).take 4)[i]? = some n ∧ y = V.int ((n : Nat) : Int) := by
          unfold vN at hi
          rw [List.getElem?_map] at hi
          cases e : ((ns ++ [0, 0, 0]).take 4)[i]? with
          | none =>
            rw [e] at hi
            cases hi
          | some n =>
            rw [e] at hi
            exact ⟨n, rfl, (Option.some.inj hi).symm⟩
        obtain ⟨n, hn, rfl⟩ := hi'
        refine ⟨_, rfl, _, _, rfl, rfl, .inr ⟨by decide, by decide⟩, _, rfl, _, _, rfl, rfl, s4, some (.int ((n : Nat) : Int)), ?_⟩
        rw [one_more hn, List.foldl_append]
        rfl
      · rintro σ H4 ⟨s4, x, rfl⟩
        refine ⟨_, rfl, _, _, rfl, rfl, .inr ⟨by decide, by decide⟩, _, rfl, _, _, rfl, rfl, ?_⟩
        have hl4 : (vN ((ns ++ [0, 0, 0]).take 4)).length = ((ns ++ [0, 0, 0]).take 4).length := List.length_map _
        rw [hl4, List.take_length]
        exact q _ (s2.trans s4)
    · have hb : SqT K (upd (upd (upd H z (.tup [.int 0, .int 0, .int 0])) p (.tup (vN ns ++ [.int 0, .int 0, .int 0]))) p2 (.tup (cutV (vN ns ++ [.int 0, .int 0, .int 0]) none (some 4)))) p2 (vN ((ns ++ [0, 0, 0]).take 4)) := by
        rw [← ecut]
        exact .inl (.inl upd_same)
      have s3 := s2.trans (same_new (o := .tup (cutV (vN ns ++ [.int 0, .int 0, .int 0]) none (some 4))) hp2)
      clear s2
      revert hb s3
      generalize upd (upd (upd H z (.tup [.int 0, .int 0, .int 0])) p (.tup (vN ns ++ [.int 0, .int 0, .int 0]))) p2 (.tup (cutV (vN ns ++ [.int 0, .int 0, .int 0]) none (some 4))) = H3
      intro hb s2
      refine ⟨_, rfl, ⟨_, hb⟩, for_tup (K := K) (xs := vN ((ns ++ [0, 0, 0]).take 4)) (fun i σ H' => Same H3 H' ∧ ∃ x, σ = [some (.ref a), some (.int (st : Int)), some (.int (((((ns ++ [0, 0, 0]).take 4).take i).foldl (fun r n => r * 1000 + n) 0 : Nat) : Int)), x]) ⟨Same.refl _, _, rfl⟩ (fun i σ H' _ h => keepT h.1 hb) ?_ ?_⟩
      · rintro i y σ H4 hi ⟨s4, x, rfl⟩
        have hi' : ∃ n, ((ns ++ [0, 0, 0]).take 4)[i]? = some n ∧ y = V.int ((n : Nat) : Int) := by
          unfold vN at hi
          rw [List.getElem?_map] at hi
          cases e : ((ns ++ [0, 0, 0]).take 4)[i]? with
          | none =>
            rw [e] at hi
            cases hi
          | some n =>
            rw [e] at hi
            exact ⟨n, rfl, (Option.some.inj hi).symm⟩
        obtain ⟨n, hn, rfl⟩ := hi'
        refine ⟨_, rfl, _, _, rfl, rfl, .inr ⟨by decide, by decide⟩, _, rfl, _, _, rfl, rfl, s4, some (.int ((n : Nat) : Int)), ?_⟩
        rw [one_more hn, List.foldl_append]
        rfl
      · rintro σ H4 ⟨s4, x, rfl⟩
        refine ⟨_, rfl, _, _, rfl, rfl, .inr ⟨by decide, by decide⟩, _, rfl, _, _, rfl, rfl, ?_⟩
        have hl4 : (vN ((ns ++ [0, 0, 0]).take 4)).length = ((ns ++ [0, 0, 0]).take 4).length := List.length_map _
        rw [hl4, List.take_length]
        exact q _ (s2.trans s4)
end

/-! ## Versions: written, made, compared -/
section
variable {P : Program} {w : World} {K : PySem.W.Frag} {mg : Str → Option Value} {base : Heap} {D : Ad}
open TL SX
def LAST : Nat := 3000999999999999
theorem sqT_keep {H1 H2 : Hp} {b : Addr} {xs : List V} (e : Same H1 H2) (h : SqT K H1 b xs) : SqT K H2 b xs := by
  rcases h with (h | ⟨o, h⟩) | h
  · exact .inl (.inl (e _ _ h))
  · exact .inl (.inr ⟨o, e _ _ h⟩)
  · exact .inr h
theorem sqT_of {H : Hp} {b : Addr} {xs : List V} (h : H b = some (.tup xs)) : SqT K H b xs := .inl (.inl h)
theorem stK (T : Tex K mg D) (H : Hp) : SqT K H D.k_STAGES stN := T.v_STAGES.elim (fun h => by
  rcases h with h | ⟨o, h⟩
  · exact nomatch (show (none : Option HO) = some _ from h)
  · exact nomatch (show (none : Option HO) = some _ from h)) .inr
/-- a comprehension over a tuple -/
theorem lc_tpl {α : Type} {K : PySem.W.Frag} {a : Addr} (xs : List α) (emb : α → V) {g : TG} {tt : TT} {te : TE} {vs : List Nat} {σ : L2.St} {H1 : Hp} {D : Addr} {Qd : Hp → Prop} (p : α → Bool) (f : α → V) (hD : H1 D = none) (hz : xs.length < sizeLine)
    (ha : SqT K H1 a (xs.map emb))
    (hs : ∀ c, c ∈ xs → ∀ (H : Hp) (R : VK) (S : Hp → Prop), Same H1 H → (p c = true → ∀ H', Same H H' → R (f c) H') → (p c = false → ∀ H', Same H H' → S H') →
      g (emb c) (wipe σ vs) H fun σ2 H2 => wipe σ2 vs = wipe σ vs ∧ tt σ2 H2 fun b H3 => if b = true then te σ2 H3 R else S H3)
    (hd : ∀ H, Same H1 H → H D = some (.lst ((xs.filter p).map f)) → Qd H) :
    ∃ W : Nat → Nat → Hp → Prop, (∃ m, W 0 m (upd H1 D (.lst []))) ∧ ∀ i m H, W i m H →
      ((Itt K a).stop i H ∧ Qd H) ∨ ((Itt K a).go i H ∧ ∃ Nx : Hp → Prop, (∀ H', Nx H' → ∃ m', m' < m ∧ W (i + 1) m' H') ∧
        ∀ x H', (Itt K a).yld i H x H' → g x (wipe σ vs) H' fun σ2 H2 => wipe σ2 vs = wipe σ vs ∧ tt σ2 H2 fun b H3 =>
          if b = true then te σ2 H3 fun y H4 => ∃ acc, H4 D = some (.lst acc) ∧ acc.length < sizeLine ∧ Nx (upd H4 D (.lst (acc ++ [y]))) else Nx H3) :=
  lc_map (walk_tup (K := K) (a := a) (xs := xs.map emb)) xs emb (by simp)
    (fun i H x H' ⟨e, h⟩ => ⟨e, by
      rw [List.getElem?_map] at h
      cases q : xs[i]? with
      | none =>
        rw [q] at h
        cases h
      | some c =>
        rw [q] at h
        exact ⟨c, rfl, (Option.some.inj h).symm⟩⟩) p f hD (by simpa using hz) (fun H s => sqT_keep s ha) hs hd
theorem numL_len3 {n : Nat} (h : n < 1000) : (numL n).length ≤ 3 := numL_len (by decide) h
theorem sum_le : ∀ (xs : List Nat), (∀ n ∈ xs, n < 1000) → ((xs.map fun n => S (numL n)).map (·.length)).sum ≤ 3 * xs.length
  | [], _ => by simp
  | n :: r, h => by
    have ih := sum_le r fun m hm => h m (List.mem_cons_of_mem _ hm)
    have h1 := numL_len3 (h n (by simp))
    simp only [List.map_cons, List.sum_cons, List.length_cons, S_len]
    omega
end

/-! ## Versions: the class -/
section
variable {P : Program} {w : World} {K : PySem.W.Frag} {mg : Str → Option Value} {base : Heap} {D : Ad}
open TL SX
theorem wd_len (i : Nat) : (wd i).length ≤ 2 := by
  match i with
  | 0 => simp [wd]
  | 1 => simp [wd]
  | n + 2 => simp [wd]
theorem stN_wd {i : Nat} (h : i < 3) : stN[i]? = some (.str (S (wd i))) := by
  match i, h with
  | 0, _ => rw [← wd_txt.1]; rfl
  | 1, _ => rw [← wd_txt.2.1]; rfl
  | 2, _ => rw [← wd_txt.2.2]; rfl
theorem n4_trim_len (r : Nat) : (trim (n4 r)).length ≤ 4 := by
  rw [trim_len]
  exact many_le (n4 r) 4
theorem join_len : ∀ {figs : List Nat}, (∀ n ∈ figs, n < 1000) → (joinL [46] (figs.map numL)).length ≤ 4 * figs.length
  | [], _ => by simp [joinL]
  | [n], h => by
    have := numL_len3 (h n (by simp))
    show (numL n).length ≤ _
    simp only [List.length_cons, List.length_nil]
    omega
  | n :: m :: r, h => by
    have h1 := numL_len3 (h n (by simp))
    have ih := join_len (figs := m :: r) fun x hx => h x (List.mem_cons_of_mem _ hx)
    show (numL n ++ ([46] ++ joinL [46] ((m :: r).map numL))).length ≤ _
    rw [List.length_append, List.length_append]
    simp only [List.length_cons, List.length_nil] at ih ⊢
    omega
theorem stg_len (st : Nat) : (stg st).length ≤ 5 := by
  unfold stg
  split
  · simp
  · rw [List.length_append]
    have h1 := wd_len (st / 1000)
    have h2 := numL_len3 (show st % 1000 < 1000 by omega)
    omega
theorem wrt_len {figs : List Nat} {st : Nat} (hb : ∀ n ∈ figs, n < 1000) : (wrt figs st).length ≤ 4 * figs.length + 5 := by
  unfold wrt
  rw [List.length_append]
  have h1 := join_len hb
  have h2 := stg_len st
  omega
theorem tA_len {r : Nat} (h : r ≤ 3000999999999999) : (tA r).length ≤ 100 := by
  have h1 := wrt_len (figs := trim (n4 r)) (st := r % 3001) (fun n hn => n4_lt h n (List.mem_of_mem_take hn))
  have h2 := n4_trim_len r
  unfold tA
  omega
/-! ### the object -/
def Ver (C : Addr) (H : Hp) (a : Addr) (r : Nat) : Prop := ∃ dx, H a = some (.ins C dx [("_rank", .int (r : Int))])
theorem Ver.keep {C a : Addr} {H H' : Hp} {r : Nat} (h : Ver C H a r) (e : Same H H') : Ver C H' a r := let ⟨dx, h⟩ := h; ⟨dx, e _ _ h⟩
theorem lk_rank (v : V) : List.lookup ("_rank" : Str) [(("_rank" : Str), v)] = some v := by simp [List.lookup]
def spInit (C : Addr) : Sp := fun vs H Q _ => ∃ (x dx : Addr) (l ns : List Nat) (st : Nat), vs = [.ref x, .str (S l)] ∧ H x = some (.ins C dx []) ∧ l.length ≤ 80000 ∧ pT l = some (ns, st) ∧ ns ≠ [] ∧ ns.length ≤ 4 ∧
  ∀ H1, Same H H1 → Q .non (upd H1 x (.ins C dx [("_rank", .int (rk ns st : Nat))]))
theorem ok_Version_init (T : Tex K mg D) : FnOk P w K mg base CX0 6 D.a_Version_init D.d_Version_init P_Version_init (spInit D.a_Version) := by
  have G_parts_of_text : FnOk P w K mg base CX0 5 D.a_parts_of_text D.d_parts_of_text P_parts_of_text spParts := ok_parts_of_text T
  have G_rank_of : FnOk P w K mg base CX0 1 D.a_rank_of D.d_rank_of P_rank_of (spRank K) := ok_rank_of T
  refine T.Version_init_F.ok S_Version_init (fun vs H Q E h => ?_) (fun cdv A outer s H vs Q E hr h => ?_)
  · obtain ⟨x, dx, l, ns, st, rfl, _⟩ := h
    rfl
  · obtain ⟨x, dx, l, ns, st, rfl, hx, hl, hp, hne, h4, q⟩ := h
    refine ⟨_, (pss_cons (ps_set (i := 2) S_Version_init.nd rfl (Or.inl rfl) (pe_call G_parts_of_text (hr.mono (by decide)) (by rfl) T.parts_of_text_g T.parts_of_text_F.kp T.parts_of_text_b .nil pass0 (pa_cons (pv 1) pa_nil)))
      (pss_cons (ps_if (pt_cmpR op_isN (pv 2) pe_non (nomark _)) (pss_one ps_never) pss_nil)
      (pss_cons (ps_asg (pv 2) (pg_tup (by rfl) (pgs_cons (pg_name (i := 3) S_Version_init.nd rfl (Or.inl rfl)) (pgs_cons (pg_name (i := 4) S_Version_init.nd rfl (Or.inl rfl)) pgs_nil))))
      (pss_one (ps_fld (pv 0) (pe_call G_rank_of (hr.mono (by decide)) (by rfl) T.rank_of_g T.rank_of_F.kp T.rank_of_b .nil pass0 (pa_cons (pv 3) (pa_cons (pv 4) pa_nil))) rfl))))), ?_⟩
    refine ⟨_, rfl, l, rfl, hl, fun e => (by rw [hp] at e; cases e), fun ns' st' e p t H1 s1 hpf hp' ht' => ?_⟩
    rw [hp] at e
    cases e
    refine ⟨_, rfl, rfl, _, rfl, iteF ?_⟩
    refine ⟨_, rfl, p, _, rfl, .inl (.inl hp'), rfl, _, _, rfl, _, _, rfl, rfl, ?_⟩
    refine ⟨_, rfl, _, rfl, t, ns, st, rfl, sqT_of ht', hne, Nat.le_trans h4 (by decide), fun H2 s2 => ?_⟩
    exact ⟨_, rfl, x, _, dx, [], rfl, s2 _ _ (s1 _ _ hx), T.Version_cl, T.Version_n_rank, by decide, q H2 (s1.trans s2)⟩
/-- what the making of a version leaves -/
theorem make_same {H H1 : Hp} {C x dx : Addr} {fs : List (Str × V)} (hx : H x = none) (hd : H dx = none) (s : Same (upd (upd H dx (.own x)) x (.ins C dx [])) H1) : Same H (upd H1 x (.ins C dx fs)) := by
  intro b o e
  have n1 : b ≠ x := ne_of_none e hx
  have n2 : b ≠ dx := ne_of_none e hd
  rw [upd_ne n1]
  refine s b o ?_
  rw [upd_ne n1, upd_ne n2]
  exact e
def spRk (C : Addr) : Sp := fun vs H Q _ => ∃ (a : Addr) (r : Nat), vs = [.ref a] ∧ Ver C H a r ∧ Q (.int (r : Int)) H
theorem ok_Version_rank (T : Tex K mg D) : FnOk P w K mg base CX0 1 D.a_Version_rank D.d_Version_rank P_Version_rank (spRk D.a_Version) := by
  refine T.Version_rank_F.ok S_Version_rank (fun vs H Q E h => ?_) (fun cdv A outer s H vs Q E hr h => ?_)
  · obtain ⟨a, r, rfl, _⟩ := h
    rfl
  · obtain ⟨a, r, rfl, ⟨dx, ha⟩, q⟩ := h
    exact ⟨_, (pss_one (ps_ret (pe_fld (pv 0) rfl))), _, rfl, a, _, dx, _, _, rfl, ha, T.Version_cl, T.Version_n_rank, lk_rank _, q⟩
end

/-! ## Versions compared and written -/
section
variable {P : Program} {w : World} {K : PySem.W.Frag} {mg : Str → Option Value} {base : Heap} {D : Ad}
open TL SX
def spEq (K : PySem.W.Frag) (C : Addr) : Sp := fun vs H Q _ => ∃ (a : Addr) (r : Nat) (y : V), vs = [.ref a, y] ∧ Ver C H a r ∧
  ((∃ b s, y = .ref b ∧ Ver C H b s ∧ Q (.bl (decide (r = s))) H) ∨ ∃ t, TyX K H y t ∧ PySem.W.kitOne K t (.ref C) = some false ∧ Q (.bl false) H)
theorem ok_Version_eq (T : Tex K mg D) : FnOk P w K mg base CX0 1 D.a_Version_eq D.d_Version_eq P_Version_eq (spEq K D.a_Version) := by
  refine T.Version_eq_F.ok S_Version_eq (fun vs H Q E h => ?_) (fun cdv A outer s H vs Q E hr h => ?_)
  · obtain ⟨a, r, y, rfl, _⟩ := h
    rfl
  · obtain ⟨a, r, y, rfl, ⟨dx, ha⟩, q⟩ := h
    refine ⟨_, (pss_one (ps_ret (pe_and (pe_callB call_isi (by rfl) T.b_isinstance (by decide +kernel) (pa_cons (pv 1) (pa_cons (pe_glob (v := .ref D.a_Version) rfl T.Version_g rfl) pa_nil))) (pe_one (pe_cmpR op_eq (pe_fld (pv 0) rfl) (pe_fld (pv 1) rfl) (nomark _)))))), ?_⟩
    rcases q with ⟨b, s', rfl, ⟨dy, hb⟩, q⟩ | ⟨t, ty, hk, q⟩
    · refine ⟨_, rfl, _, _, _, _, true, rfl, .own _, .base (.ins hb T.Version_cl T.Version_si.ca T.Version_si.cn T.Version_si.ct T.Version_si.cm), kit_self, true, rfl, iteT ?_⟩
      refine ⟨_, rfl, a, _, dx, _, _, rfl, ha, T.Version_cl, T.Version_n_rank, lk_rank _, _, rfl, b, _, dy, _, _, rfl, hb, T.Version_cl, T.Version_n_rank, lk_rank _, rfl, ?_⟩
      have e : decide (V.int ((r : Nat) : Int) = V.int ((s' : Nat) : Int)) = decide (r = s') := decide_eq_decide.mpr (by
        constructor
        · intro e
          injection e with e
          omega
        · rintro rfl
          rfl)
      rw [e]
      exact q
    · exact ⟨_, rfl, _, _, _, _, false, rfl, .own _, ty, hk, false, rfl, iteF q⟩
end

/-! ## Tastes: mathematics -/
section
open TL SX
/-- the rank of the law's version with this key -/
def stK4 (b : Nat) : Nat := if b = 0 then 1 else if b = 1 then 1001 else if b = 2 then 2001 else 3000
def kR (k : Nat × Nat) : Nat := rk [k.1] (stK4 k.2)
def endL (b : Nat) : List Nat := if b = 0 then [97, 49] else if b = 1 then [98, 49] else if b = 2 then [114, 99, 49] else []
abbrev Sm4 (k : Nat × Nat) : Prop := k.1 < 4 ∧ k.2 < 4
theorem key_text : ∀ a < 4, ∀ b < 4, pT (numL a ++ endL b) = some ([a], stK4 b) := by decide +kernel
theorem kR_val (k : Nat × Nat) : kR k = k.1 * 3001000000000 + stK4 k.2 := by
  unfold kR rk
  simp
  omega
theorem st4_mono : ∀ a < 4, ∀ b < 4, a < b → stK4 a < stK4 b := by decide
theorem st4_le : ∀ a < 4, stK4 a ≤ 3000 := by decide
theorem kR_lt {x y : Nat × Nat} (hx : Sm4 x) (hy : Sm4 y) (h : 4 * x.1 + x.2 < 4 * y.1 + y.2) : kR x < kR y := by
  rw [kR_val, kR_val]
  obtain ⟨x1, x2⟩ := hx
  obtain ⟨y1, y2⟩ := hy
  have s1 := st4_le _ x2
  by_cases e : x.1 = y.1
  · have := st4_mono _ x2 _ y2 (by omega)
    omega
  · have : x.1 < y.1 := by omega
    omega
theorem kR_inj {x y : Nat × Nat} (hx : Sm4 x) (hy : Sm4 y) (h : kR x = kR y) : x = y := by
  rcases Nat.lt_trichotomy (4 * x.1 + x.2) (4 * y.1 + y.2) with l | e | g
  · have := kR_lt hx hy l
    omega
  · obtain ⟨a, b⟩ := x
    obtain ⟨c, d⟩ := y
    obtain ⟨x1, x2⟩ := hx
    obtain ⟨y1, y2⟩ := hy
    dsimp only at *
    rw [show a = c by omega, show b = d by omega]
  · have := kR_lt hy hx g
    omega
theorem kR_le {k : Nat × Nat} (h : Sm4 k) : kR k ≤ 3000999999999999 := by
  rw [kR_val]
  have := st4_le _ h.2
  have := h.1
  omega
/-- the keys in their order -/
def all16 : List (Nat × Nat) := (List.range 16).map fun k => (k / 4, k % 4)
def ris (ks : List (Nat × Nat)) : List (Nat × Nat) := all16.filter (· ∈ ks)
theorem all16_mem {k : Nat × Nat} (h : Sm4 k) : k ∈ all16 := by
  refine List.mem_map.mpr ⟨4 * k.1 + k.2, List.mem_range.mpr (by have := h.1; have := h.2; omega), ?_⟩
  obtain ⟨a, b⟩ := k
  have := h.2
  dsimp only at *
  rw [show (4 * a + b) / 4 = a by omega, show (4 * a + b) % 4 = b by omega]
theorem all16_sm : ∀ k ∈ all16, Sm4 k := by decide
theorem all16_up : all16.Pairwise fun x y => 4 * x.1 + x.2 < 4 * y.1 + y.2 := by decide
theorem ris_sm {ks : List (Nat × Nat)} : ∀ k ∈ ris ks, Sm4 k := fun k h => all16_sm k (List.mem_filter.mp h).1
theorem ris_up (ks : List (Nat × Nat)) : (ris ks).Pairwise fun x y => 4 * x.1 + x.2 < 4 * y.1 + y.2 := all16_up.sublist List.filter_sublist
theorem ris_mem {ks : List (Nat × Nat)} (hs : ∀ k ∈ ks, Sm4 k) {k : Nat × Nat} : k ∈ ris ks ↔ k ∈ ks := by
  unfold ris
  rw [List.mem_filter]
  exact ⟨fun h => of_decide_eq_true h.2, fun h => ⟨all16_mem (hs k h), decide_eq_true h⟩⟩
theorem up_ranks {l : List (Nat × Nat)} (hs : ∀ k ∈ l, Sm4 k) (h : l.Pairwise fun x y => 4 * x.1 + x.2 < 4 * y.1 + y.2) : (l.map kR).Pairwise (· < ·) :=
  List.pairwise_map.mpr (h.imp_of_mem fun {x y} hx hy q => kR_lt (hs x hx) (hs y hy) q)
theorem nodup_of_up {l : List (Nat × Nat)} (h : l.Pairwise fun x y => 4 * x.1 + x.2 < 4 * y.1 + y.2) : l.Nodup := h.imp fun {x y} q e => by
  subst e
  omega
theorem ris_perm {ks : List (Nat × Nat)} (hs : ∀ k ∈ ks, Sm4 k) (nd : ks.Nodup) : (ris ks).Perm ks :=
  (List.perm_ext_iff_of_nodup (nodup_of_up (ris_up ks)) nd).mpr fun _ => ris_mem hs
/-- two sorted lists with the same things are one -/
theorem sorted_one {l m : List Nat} (p : l.Perm m) (hl : l.Pairwise (· ≤ ·)) (hm : m.Pairwise (· < ·)) : l = m :=
  p.eq_of_pairwise (fun a b _ _ h1 h2 => Nat.le_antisymm h1 h2) hl (hm.imp fun h => Nat.le_of_lt h)
/-- the ranks of keys, sorted -/
theorem sort_keys {ks : List (Nat × Nat)} {rs : List Nat} (hs : ∀ k ∈ ks, Sm4 k) (nd : ks.Nodup) (p : rs.Perm (ks.map kR)) (up : rs.Pairwise (· ≤ ·)) : rs = (ris ks).map kR :=
  sorted_one (p.trans ((ris_perm hs nd).map kR).symm) up (up_ranks ris_sm (ris_up ks))
theorem nodup_ranks {ks : List (Nat × Nat)} (hs : ∀ k ∈ ks, Sm4 k) (nd : ks.Nodup) : (ks.map kR).Nodup := by
  refine List.pairwise_map.mpr (List.Pairwise.imp_of_mem (fun {x y} hx hy q e => q (kR_inj (hs x hx) (hs y hy) e)) nd)
/-- what the law's third way gives -/
def bst (ks first : List (Nat × Nat)) : List (Nat × Nat) := (ris ks).filter (· ∈ first)
def thr (ks first : List (Nat × Nat)) : List (Nat × Nat) := bst ks first ++ (ris ks).reverse.filter (· ∉ bst ks first)
theorem filt_nil (ks : List (Nat × Nat)) : thr ks [] = (ris ks).reverse := by
  have e : bst ks [] = [] := by simp [bst]
  unfold thr
  rw [e]
  simp
theorem filter_ranks {ks : List (Nat × Nat)} (p : Nat → Bool) : (ks.map kR).filter p = (ks.filter fun k => p (kR k)).map kR := by
  rw [List.filter_map]
  rfl
theorem bst_one {ks : List (Nat × Nat)} {k : Nat × Nat} (hs : ∀ x ∈ ks, Sm4 x) (nd : ks.Nodup) (hk : Sm4 k) : (ks.map kR).filter (fun r => decide (r = kR k)) = (bst ks [k]).map kR := by
  rw [filter_ranks]
  congr 1
  have e1 : (ks.filter fun x => decide (kR x = kR k)) = ks.filter (fun x => x == k) := List.filter_congr fun x hx => by
    rw [Bool.eq_iff_iff, decide_eq_true_eq, beq_iff_eq]
    exact ⟨fun e => kR_inj (hs x hx) hk e, fun e => by rw [e]⟩
  have e2 : bst ks [k] = (ris ks).filter (fun x => x == k) := List.filter_congr fun x _ => by
    rw [Bool.eq_iff_iff, decide_eq_true_eq, beq_iff_eq]
    simp
  rw [e1, e2, List.filter_beq, List.filter_beq, ((ris_perm hs nd).count_eq k)]
theorem rest_one {ks : List (Nat × Nat)} {k : Nat × Nat} {rs : List Nat} (hs : ∀ x ∈ ks, Sm4 x) (nd : ks.Nodup) (hk : Sm4 k) (p : rs.Perm ((ks.map kR).filter fun r => !decide (r = kR k))) (up : rs.Pairwise (· ≤ ·)) :
    rs.reverse = ((ris ks).reverse.filter (· ∉ bst ks [k])).map kR := by
  have e0 : ((ris ks).reverse.filter (· ∉ bst ks [k])) = ((ris ks).filter (fun x => !(x == k))).reverse := by
    rw [← List.filter_reverse]
    refine List.filter_congr fun x hx => ?_
    have hx' : x ∈ ris ks := List.mem_reverse.mp hx
    rw [Bool.eq_iff_iff]
    simp [bst, hx']
  rw [e0, List.map_reverse]
  congr 1
  rw [filter_ranks] at p
  have e1 : (ks.filter fun x => !decide (kR x = kR k)) = ks.filter (fun x => !(x == k)) := List.filter_congr fun x hx => by
    congr 1
    rw [Bool.eq_iff_iff, decide_eq_true_eq, beq_iff_eq]
    exact ⟨fun e => kR_inj (hs x hx) hk e, fun e => by rw [e]⟩
  rw [e1] at p
  refine sorted_one (p.trans (((ris_perm hs nd).filter _).map kR).symm) up (up_ranks (fun x hx => ris_sm x (List.mem_filter.mp hx).1) ((ris_up ks).sublist List.filter_sublist))
theorem all_filt {ks : List (Nat × Nat)} (h : ∀ x ∈ ks, True) : ks.filter (fun _ => true) = ks := List.filter_eq_self.mpr (by simp)
end

/-! ## Tastes: names, pairs, what stands -/
section
variable {P : Program} {w : World} {K : PySem.W.Frag} {mg : Str → Option Value} {base : Heap} {D : Ad}
open TL SX
theorem tyx_keep {H H' : Hp} {x : V} {t : Value} (h : TyX K H x t) (s : Same H H') : TyX K H' x t := by
  cases h with
  | base b =>
    cases b with
    | non => exact .base .non
    | bl y => exact .base (.bl y)
    | int i => exact .base (.int i)
    | str y => exact .base (.str y)
    | flt y => exact .base (.flt y)
    | lst e => exact .base (.lst (s _ _ e))
    | frz e => exact .base (.frz (s _ _ e))
    | tup e => exact .base (.tup (s _ _ e))
    | dK e => exact .base (.dK (s _ _ e))
    | dT e => exact .base (.dT (s _ _ e))
    | ins e a b c d f => exact .base (.ins (s _ _ e) a b c d f)
  | byt b => exact .byt b
  | set e => exact .set (s _ _ e)
  | kList e c => exact .kList e c
  | kTuple e c => exact .kTuple e c
  | kDict e c => exact .kDict e c
  | fTuple e => exact .fTuple (s _ _ e)
  | fDict e => exact .fDict (s _ _ e)
theorem ty_tup {H : Hp} {p : Addr} {xs : List V} (h : SqT K H p xs) : TyX K H (.ref p) (.type "tuple") := by
  rcases h with (h | ⟨o, h⟩) | ⟨o, k, n, h1, h2, h3, _⟩
  · exact .base (.tup h)
  · exact .fTuple h
  · exact .kTuple h1 h2
/-- a text, or something that is none -/
def Th (K : PySem.W.Frag) (H : Hp) (x : V) : Prop := (∃ t : Str, x = .str t ∧ t.length ≤ 200) ∨ ((∀ t : Str, x ≠ .str t) ∧ ∃ ty, TyX K H x (.type ty) ∧ kitB ty "str" = some false)
theorem Th.keep {H H' : Hp} {x : V} (h : Th K H x) (e : Same H H') : Th K H' x := h.imp id fun ⟨h, ty, t, k⟩ => ⟨h, ty, tyx_keep t e, k⟩
def good (x : V) (sg : Str) (m : Int) : Bool := match x with
  | .str t => goodT t sg m
  | _ => false
theorem good_no {x : V} (sg : Str) (m : Int) (h : ∀ t : Str, x ≠ .str t) : good x sg m = false := by
  cases x with
  | str t => exact absurd rfl (h t)
  | _ => rfl
theorem orOk {k : Nat} {f : Addr} {fd : FuncData} {ps : List Str} {sp sp' : Sp} (F : FnOk P w K mg base CX0 k f fd ps sp) (G : FnOk P w K mg base CX0 k f fd ps sp') : FnOk P w K mg base CX0 k f fd ps (fun vs H Q E => sp vs H Q E ∨ sp' vs H Q E) :=
  ⟨fun vs H Q E h => h.elim (F.len vs H Q E) (G.len vs H Q E), fun A outer s H args us vs Q E hr he hb hv hs => hs.elim (F.run A outer s H args us vs Q E hr he hb hv) (G.run A outer s H args us vs Q E hr he hb hv)⟩
def spStrN (K : PySem.W.Frag) : Sp := fun vs H Q _ => ∃ (x : V) (sg : Str) (m : Int) (ty : String), vs = [x, .str sg, .int m] ∧ TyX K H x (.type ty) ∧ kitB ty "str" = some false ∧ Q (.bl false) H
theorem ok_is_string_ofN (T : Tex K mg D) : FnOk P w K mg base CX0 2 D.a_is_string_of D.d_is_string_of P_is_string_of (spStrN K) := by
  have G_consists_of : FnOk P w K mg base CX0 1 D.a_consists_of D.d_consists_of P_consists_of spConsistsOf := ok_consists_of T
  refine T.is_string_of_F.ok S_is_string_of (fun vs H Q E h => ?_) (fun cdv A outer s H vs Q E hr h => ?_)
  · obtain ⟨x, sg, m, ty, rfl, _⟩ := h
    rfl
  · obtain ⟨x, sg, m, ty, rfl, hty, hk, q⟩ := h
    refine ⟨_, (pss_one (ps_ret (pe_and (pe_callB call_isi (by rfl) T.b_isinstance (by decide +kernel) (pa_cons (pv 0) (pa_cons (pe_bltn (v := .ty "str") (u := .type "str") (by rfl) T.b_str (by decide +kernel) rfl) pa_nil))) (pe_and (pe_chain op_le op_le pe_int (pe_callB call_len_str (by rfl) T.b_len (by decide +kernel) (pa_cons (pv 0) pa_nil)) (pv 2)) (pe_one (pe_call G_consists_of (hr.mono (by decide)) (by rfl) T.consists_of_g T.consists_of_F.kp T.consists_of_b .nil pass0 (pa_cons (pv 0) (pa_cons (pv 1) pa_nil)))))))), ?_⟩
    exact ⟨_, rfl, x, .ty "str", .type ty, .type "str", false, rfl, .ty _, hty, kit_ty hk, false, rfl, iteF q⟩
def spStrB (K : PySem.W.Frag) : Sp := fun vs H Q _ => ∃ (x : V) (sg : Str) (m : Int), vs = [x, .str sg, .int m] ∧ Th K H x ∧ m ≤ 100 ∧ ∀ H', Same H H' → Q (.bl (good x sg m)) H'
theorem ok_is_string_ofB (T : Tex K mg D) : FnOk P w K mg base CX0 2 D.a_is_string_of D.d_is_string_of P_is_string_of (spStrB K) :=
  (orOk (ok_is_string_of T) (ok_is_string_ofN T)).imp fun vs H Q E h => by
    obtain ⟨x, sg, m, rfl, ⟨t, rfl, hl⟩ | ⟨hn, ty, h1, h2⟩, hm, q⟩ := h
    · exact .inl ⟨t, sg, m, rfl, by omega, hm, q⟩
    · exact .inr ⟨x, sg, m, ty, rfl, h1, h2, by have := q H (Same.refl H); rwa [good_no sg m hn] at this⟩
def letters : Str := "abcdefghijklmnopqrstuvwxyz"
def digits : Str := "0123456789"
def first (x : V) : Bool := match x with
  | .str t => match t.cps.toList with
    | c :: _ => inS letters c
    | [] => false
  | _ => false
def goodName (x : V) : Bool := good x (letters ++ digits ++ "-") 20 && first x
theorem good_text {x : V} {sg : Str} {m : Int} (h : good x sg m = true) : ∃ (t : Str) (c : Nat) (r : List Nat), x = .str t ∧ t.cps.toList = c :: r ∧ t.length = r.length + 1 := by
  cases x with
  | str t =>
    simp only [good, goodT, Bool.and_eq_true, decide_eq_true_eq] at h
    have hl : t.length = t.cps.toList.length := by simp [Str.length]
    cases e : t.cps.toList with
    | nil =>
      rw [e] at hl
      simp at hl
      omega
    | cons c r =>
      rw [e] at hl
      exact ⟨t, c, r, rfl, e, by simpa using hl⟩
  | _ => exact absurd h (by simp [good])
theorem name_text {x : V} (h : goodName x = true) : ∃ t : Str, x = .str t := by
  simp only [goodName, Bool.and_eq_true] at h
  obtain ⟨t, _, _, e, _⟩ := good_text h.1
  exact ⟨t, e⟩
def spName (K : PySem.W.Frag) : Sp := fun vs H Q _ => ∃ x : V, vs = [x] ∧ Th K H x ∧ ∀ H', Same H H' → Q (.bl (goodName x)) H'
theorem ok_is_name (T : Tex K mg D) : FnOk P w K mg base CX0 3 D.a_is_name D.d_is_name P_is_name (spName K) := by
  have G_is_string_of : FnOk P w K mg base CX0 2 D.a_is_string_of D.d_is_string_of P_is_string_of (spStrB K) := ok_is_string_ofB T
  refine T.is_name_F.ok S_is_name (fun vs H Q E h => ?_) (fun cdv A outer s H vs Q E hr h => ?_)
  · obtain ⟨x, rfl, _⟩ := h
    rfl
  · obtain ⟨x, rfl, hx, q⟩ := h
    refine ⟨_, (pss_one (ps_ret (pe_and (pe_call G_is_string_of (hr.mono (by decide)) (by rfl) T.is_string_of_g T.is_string_of_F.kp T.is_string_of_b .nil pass0 (pa_cons (pv 0) (pa_cons (pe_op op_add_str (pe_op op_add_str (pe_glob (v := .str "abcdefghijklmnopqrstuvwxyz") rfl T.c_LETTERS ⟨_, rfl⟩) (pe_glob (v := .str "0123456789") rfl T.c_DIGITS ⟨_, rfl⟩)) pe_str) (pa_cons pe_int pa_nil)))) (pe_one (pe_cmpR op_in_sign (pe_ix ix_str (pv 0) pe_int (fun _ _ => rfl)) (pe_glob (v := .str "abcdefghijklmnopqrstuvwxyz") rfl T.c_LETTERS ⟨_, rfl⟩) rfl))))), ?_⟩
    refine ⟨_, rfl, letters, digits, rfl, rfl, szl (by decide), _, _, rfl, rfl, szl (by decide), x, _, 20, rfl, hx, by decide, fun H' s' => ⟨_, rfl, ite2 (fun h1 => ?_) (fun h1 => ?_)⟩⟩
    · obtain ⟨t, c, r, rfl, ec, el⟩ := good_text h1
      have h100 : t.length ≤ 200 := by
        rcases hx with ⟨t', e, hl⟩ | ⟨hn, _⟩
        · cases e
          exact hl
        · exact absurd rfl (hn t)
      refine ⟨_, rfl, t, 0, c, rfl, rfl, szl (by omega), ?_, c, letters, rfl, rfl, ?_⟩
      · rw [ec]
        exact atI_nat (j := 0) rfl
      · have q2 := q H' s'
        unfold goodName at q2
        rw [h1] at q2
        simp only [first, ec, Bool.true_and] at q2
        exact q2
    · have q2 := q H' s'
      unfold goodName at q2
      rw [Bool.eq_false_iff.mpr h1] at q2
      exact q2

/-! ### pairs -/
inductive Wt where
  | pair (p : Addr) (n : V) (v : Addr) (r : Nat)
  | odd (p : Addr) (n v : V)
  | none (v : V)
def Wt.v : Wt → V
  | .pair p _ _ _ => .ref p
  | .odd p _ _ => .ref p
  | .none v => v
def Wt.is2 : Wt → Bool
  | .none _ => false
  | _ => true
def Wt.nm : Wt → V
  | .pair _ n _ _ => n
  | .odd _ n _ => n
  | .none v => v
def Wt.gd : Wt → Bool
  | .pair _ n _ _ => goodName n
  | _ => false
def Wt.ok (K : PySem.W.Frag) (C : Addr) (H : Hp) : Wt → Prop
  | .pair p n v r => SqT K H p [n, .ref v] ∧ Th K H n ∧ Ver C H v r
  | .odd p n v => SqT K H p [n, v] ∧ Th K H n ∧ ∃ ty, TyX K H v (.type ty) ∧ (PySem.fastFind? ty).isSome = true
  | .none v => (∃ t, TyX K H v t ∧ PySem.W.kitOne K t (.type "tuple") = some false) ∨ ∃ p zs, v = .ref p ∧ SqT K H p zs ∧ zs.length ≠ 2
theorem Wt.ok_keep {C : Addr} {H H' : Hp} {x : Wt} (h : x.ok K C H) (s : Same H H') : x.ok K C H' := by
  cases x with
  | pair p n v r => exact ⟨sqT_keep s h.1, h.2.1.keep s, h.2.2.keep s⟩
  | odd p n v =>
    obtain ⟨h1, h2, ty, h3, h4⟩ := h
    exact ⟨sqT_keep s h1, h2.keep s, ty, tyx_keep h3 s, h4⟩
  | none v =>
    rcases h with ⟨ty, h1, h2⟩ | ⟨p, zs, h1, h2, h3⟩
    · exact .inl ⟨ty, tyx_keep h1 s, h2⟩
    · exact .inr ⟨p, zs, h1, sqT_keep s h2, h3⟩
def spPairs (K : PySem.W.Frag) (C : Addr) : Sp := fun vs H Q _ => ∃ (a : Addr) (xs : List Wt), vs = [.ref a, .int (xs.length : Int)] ∧ SqT K H a (xs.map Wt.v) ∧ xs.length ≤ 50 ∧ (∀ x ∈ xs, x.ok K C H) ∧ ∀ H', Same H H' → Q (.bl (xs.all Wt.is2)) H'
theorem ok_are_pairs (T : Tex K mg D) : FnOk P w K mg base CX0 1 D.a_are_pairs D.d_are_pairs P_are_pairs (spPairs K D.a_Version) := by
  refine T.are_pairs_F.ok S_are_pairs (fun vs H Q E h => ?_) (fun cdv A outer s H vs Q E hr h => ?_)
  · obtain ⟨a, xs, rfl, _⟩ := h
    rfl
  · obtain ⟨a, xs, rfl, ha, hl, hw, q⟩ := h
    refine ⟨_, (pss_cons (ps_if (PW.pt (pw_or (pt_not (pt_val (pe_callB call_isi (by rfl) T.b_isinstance (by decide +kernel) (pa_cons (pv 0) (pa_cons (pe_bltn (v := .ty "tuple") (u := .type "tuple") (by rfl) T.b_tuple (by decide +kernel) rfl) pa_nil))))) (pw_or1 (pt_cmpR op_gt (pe_callB call_len_seq (by rfl) T.b_len (by decide +kernel) (pa_cons (pv 0) pa_nil)) (pv 1) (nomark _))))) (pss_one (ps_ret pe_bl)) pss_nil)
      (pss_one (ps_ret (pe_callB (cr_all rfl) (by rfl) T.b_all (by decide +kernel) (pa_cons (pe_lc (own := [(("pair" : Str), 2)]) (g := gName 2) (tt := tYes) rfl S_are_pairs.nd (pi_tup (pv 0)) (blkOk_by (N := N_are_pairs) (sc := defScope s_are_pairs) (by decide +kernel)) (fun _ _ _ _ _ => pg_name (i := 2) S_are_pairs.nd rfl (Or.inl rfl)) (fun _ _ _ _ _ => pts_nil) (fun _ _ _ _ _ => (pe_and (pe_callB (call_isiN (KK := K) rfl) (by rfl) T.b_isinstance (by decide +kernel) (pa_cons (pv 2) (pa_cons (pe_bltn (v := .ty "tuple") (u := .type "tuple") (by rfl) T.b_tuple (by decide +kernel) rfl) pa_nil))) (pe_one (pe_cmpR op_eq (pe_callB (call_len_seqN (KK := K) rfl) (by rfl) T.b_len (by decide +kernel) (pa_cons (pv 2) pa_nil)) pe_int (nomark _)))))) pa_nil))))), ?_⟩
    refine ⟨_, rfl, .ref a, .ty "tuple", .type "tuple", .type "tuple", true, rfl, .ty _, ty_tup ha, kit_ty (by decide +kernel), true, rfl, ?_⟩
    refine iteF ⟨_, rfl, a, _, rfl, .inr ha, _, rfl, _, _, rfl, rfl, _, rfl, ?_⟩
    have hlen : (xs.map Wt.v).length = xs.length := List.length_map _
    rw [decide_eq_false (by rw [hlen]; omega)]
    refine iteF ⟨_, rfl, a, rfl, ⟨_, ha⟩, fun DD hDD => lc_tpl xs Wt.v (fun _ => true) (fun x => .bl x.is2) hDD (szt (by omega)) ha (fun x hx H2 R S s2 h1 h2 => ?_) (fun H2 s2 h2 => ?_)⟩
    · refine ⟨rfl, ?_⟩
      have hx2 := Wt.ok_keep (hw x hx) s2
      cases x with
      | pair p n v r =>
        refine ⟨_, rfl, .ref p, .ty "tuple", .type "tuple", .type "tuple", true, rfl, .ty _, ty_tup hx2.1, kit_ty (by decide +kernel), true, rfl, iteT ?_⟩
        exact ⟨_, rfl, p, _, rfl, .inr hx2.1, rfl, h1 rfl H2 (Same.refl _)⟩
      | odd p n v =>
        refine ⟨_, rfl, .ref p, .ty "tuple", .type "tuple", .type "tuple", true, rfl, .ty _, ty_tup hx2.1, kit_ty (by decide +kernel), true, rfl, iteT ?_⟩
        exact ⟨_, rfl, p, _, rfl, .inr hx2.1, rfl, h1 rfl H2 (Same.refl _)⟩
      | none v =>
        rcases hx2 with ⟨ty, t1, t2⟩ | ⟨p, zs, rfl, t1, t2⟩
        · exact ⟨_, rfl, v, .ty "tuple", ty, .type "tuple", false, rfl, .ty _, t1, t2, false, rfl, iteF (h1 rfl H2 (Same.refl _))⟩
        · refine ⟨_, rfl, .ref p, .ty "tuple", .type "tuple", .type "tuple", true, rfl, .ty _, ty_tup t1, kit_ty (by decide +kernel), true, rfl, iteT ?_⟩
          refine ⟨_, rfl, p, _, rfl, .inr t1, rfl, ?_⟩
          have e : decide (V.int ((zs.length : Nat) : Int) = V.int 2) = false := decide_eq_false fun e => by
            injection e with e
            omega
          have k := h1 rfl H2 (Same.refl _)
          rw [show (Wt.none (.ref p)).is2 = false from rfl, ← e] at k
          exact k
    · refine ⟨DD, xs.map Wt.is2, rfl, SqL.of (by rw [h2, filt1, List.map_map]; rfl), ?_⟩
      rw [List.all_map]
      exact q _ s2
/-! ### what may stand -/
/-- the names as keys -/
def Wt.key (x : Wt) : Key := .inr (match x.nm with
  | .str t => t
  | _ => Str.empty)
def keysOf (xs : List Wt) : List (Key × V) := xs.foldl (fun ks x => putK ks x.key (.bl true)) []
theorem putK_len (k : Key) (v : V) (ks : List (Key × V)) : (putK ks k v).length ≤ ks.length + 1 := by
  unfold putK
  split <;> simp
theorem keysOf_len (xs : List Wt) : (keysOf xs).length ≤ xs.length := by
  have : ∀ (xs : List Wt) (ks : List (Key × V)), (xs.foldl (fun ks x => putK ks x.key (.bl true)) ks).length ≤ ks.length + xs.length := by
    intro xs
    induction xs with
    | nil => intro ks; simp
    | cons x r ih =>
      intro ks
      have h1 := ih (putK ks x.key (.bl true))
      have h2 := putK_len x.key (.bl true) ks
      simp only [List.foldl_cons, List.length_cons]
      omega
  have h := this xs []
  simpa [keysOf] using h
def stand (xs : List Wt) : Bool := xs.all Wt.is2 && (xs.all Wt.gd && decide (((keysOf xs).length : Int) = (xs.length : Int)))
def spStand (K : PySem.W.Frag) (C : Addr) : Sp := fun vs H Q _ => ∃ (x : V) (b : Bool), vs = [x] ∧
  ((b = false ∧ ∃ ty, TyX K H x (.type ty) ∧ kitB ty "tuple" = some false) ∨ ∃ (a : Addr) (xs : List Wt), x = .ref a ∧ SqT K H a (xs.map Wt.v) ∧ xs.length ≤ 50 ∧ (∀ y ∈ xs, y.ok K C H) ∧ b = stand xs) ∧ ∀ H', Same H H' → Q (.bl b) H'
theorem ok_is_standing (T : Tex K mg D) : FnOk P w K mg base CX0 4 D.a_is_standing D.d_is_standing P_is_standing (spStand K D.a_Version) := by
  have G_are_pairs : FnOk P w K mg base CX0 1 D.a_are_pairs D.d_are_pairs P_are_pairs (spPairs K D.a_Version) := ok_are_pairs T
  have G_is_name : FnOk P w K mg base CX0 3 D.a_is_name D.d_is_name P_is_name (spName K) := ok_is_name T
  refine T.is_standing_F.ok S_is_standing (fun vs H Q E h => ?_) (fun cdv A outer s H vs Q E hr h => ?_)
  · obtain ⟨x, b, rfl, _⟩ := h
    rfl
  · obtain ⟨x, b, rfl, h, q⟩ := h
    refine ⟨_, (pss_cons (ps_if (PW.pt (pw_or (pt_not (pt_val (pe_callB call_isi (by rfl) T.b_isinstance (by decide +kernel) (pa_cons (pv 0) (pa_cons (pe_bltn (v := .ty "tuple") (u := .type "tuple") (by rfl) T.b_tuple (by decide +kernel) rfl) pa_nil))))) (pw_or1 (pt_not (pt_val (pe_call G_are_pairs (hr.mono (by decide)) (by rfl) T.are_pairs_g T.are_pairs_F.kp T.are_pairs_b .nil pass0 (pa_cons (pv 0) (pa_cons (pe_callB call_len_seq (by rfl) T.b_len (by decide +kernel) (pa_cons (pv 0) pa_nil)) pa_nil)))))))) (pss_one (ps_ret pe_bl)) pss_nil)
      (pss_cons (ps_if (pt_not (pt_val (pe_callB (cr_all rfl) (by rfl) T.b_all (by decide +kernel) (pa_cons (pe_lc (own := [(("name" : Str), 2), (("version" : Str), 3)]) (g := (gTup K 2 (gCons (gName 2) (gCons (gName 3) gNil)))) (tt := tYes) rfl S_is_standing.nd (pi_tup (pv 0)) (blkOk_by (N := N_is_standing) (sc := defScope s_is_standing) (by decide +kernel)) (fun _ _ _ _ _ => pg_tup (by rfl) (pgs_cons (pg_name (i := 2) S_is_standing.nd rfl (Or.inl rfl)) (pgs_cons (pg_name (i := 3) S_is_standing.nd rfl (Or.inl rfl)) pgs_nil))) (fun _ _ _ _ _ => pts_nil) (fun _ _ _ _ _ => (pe_and (pe_call G_is_name (hr.mono (by decide)) (by rfl) T.is_name_g T.is_name_F.kp T.is_name_b .nil pass0 (pa_cons (pv 2) pa_nil)) (pe_one (pe_callB (call_isiN (KK := K) rfl) (by rfl) T.b_isinstance (by decide +kernel) (pa_cons (pv 3) (pa_cons (pe_glob (v := .ref D.a_Version) rfl T.Version_g rfl) pa_nil))))))) pa_nil)))) (pss_one (ps_ret pe_bl)) pss_nil)
      (pss_cons (ps_setDc (i := 1) (own := [(("name" : Str), 2), (("_" : Str), 4)]) (g := (gTup K 2 (gCons (gName 2) (gCons (gName 4) gNil)))) (tt := tYes) rfl S_is_standing.nd rfl rfl (sw_dict rfl rfl rfl (by decide +kernel)) (pi_tup (pv 0)) (blkOk_by (N := N_is_standing) (sc := defScope s_is_standing) (by decide +kernel)) (fun _ _ _ _ _ => pg_tup (by rfl) (pgs_cons (pg_name (i := 2) S_is_standing.nd rfl (Or.inl rfl)) (pgs_cons (pg_name (i := 4) S_is_standing.nd rfl (Or.inl rfl)) pgs_nil))) (fun _ _ _ _ _ => pts_nil) (fun _ _ _ _ _ => (pv 2)) (fun _ _ _ _ _ => pe_bl))
      (pss_one (ps_ret (pe_cmpR op_eq (pe_callB call_lenD (by rfl) T.b_len (by decide +kernel) (pa_cons (pv 1) pa_nil)) (pe_callB call_len_seq (by rfl) T.b_len (by decide +kernel) (pa_cons (pv 0) pa_nil)) (nomark _))))))), ?_⟩
    rcases h with ⟨rfl, ty, t1, t2⟩ | ⟨a, xs, rfl, ha, hl, hw, rfl⟩
    · exact ⟨_, rfl, x, .ty "tuple", .type ty, .type "tuple", false, rfl, .ty _, t1, kit_ty t2, false, rfl, iteT (q H (Same.refl H))⟩
    · refine ⟨_, rfl, .ref a, .ty "tuple", .type "tuple", .type "tuple", true, rfl, .ty _, ty_tup ha, kit_ty (by decide +kernel), true, rfl, ?_⟩
      have hlen : (xs.map Wt.v).length = xs.length := List.length_map _
      refine iteF ⟨_, rfl, _, rfl, a, _, rfl, .inr ha, a, xs, by rw [hlen]; rfl, ha, hl, hw, fun H1 s1 => ?_⟩
      by_cases h2 : xs.all Wt.is2 = true
      · have q' : ∀ H', Same H H' → Q (.bl (xs.all Wt.gd && decide (((keysOf xs).length : Int) = (xs.length : Int)))) H' := fun H' s' => by
          have := q H' s'
          unfold stand at this
          rw [h2] at this
          simpa using this
        have hw1 : ∀ y ∈ xs, y.ok K D.a_Version H1 := fun y hy => Wt.ok_keep (hw y hy) s1
        have ha1 := sqT_keep s1 ha
        rw [h2]
        refine ⟨true, rfl, iteF ?_⟩
        refine ⟨_, rfl, a, rfl, ⟨_, ha1⟩, fun DD hDD => lc_tpl xs Wt.v (fun _ => true) (fun x => .bl x.gd) hDD (szt (by omega)) ha1 (fun x hx H2 R S s2 k1 k2 => ?_) (fun H2 s2 hd2 => ?_)⟩
        · have hx1 := Wt.ok_keep (hw1 x hx) s2
          have hx2 := List.all_eq_true.mp h2 x hx
          cases x with
          | none v => exact absurd hx2 (by simp [Wt.is2])
          | pair p n v r =>
            obtain ⟨t1, t2, dv, t3⟩ := hx1
            refine ⟨p, _, rfl, t1, rfl, _, _, rfl, _, _, rfl, rfl, rfl, ?_⟩
            refine ⟨_, rfl, n, rfl, t2, fun H3 s3 => ⟨_, rfl, ite2 (fun h4 => ?_) (fun h4 => ?_)⟩⟩
            · refine ⟨_, rfl, .ref v, _, _, _, true, rfl, .own _, .base (.ins (s3 _ _ t3) T.Version_cl T.Version_si.ca T.Version_si.cn T.Version_si.ct T.Version_si.cm), kit_self, ?_⟩
              have := k1 rfl H3 s3
              rw [show (Wt.pair p n v r).gd = goodName n from rfl, h4] at this
              exact this
            · have := k1 rfl H3 s3
              rw [show (Wt.pair p n v r).gd = goodName n from rfl, Bool.eq_false_iff.mpr h4] at this
              exact this
          | odd p n v =>
            obtain ⟨t1, t2, ty, t3, t4⟩ := hx1
            refine ⟨p, _, rfl, t1, rfl, _, _, rfl, _, _, rfl, rfl, rfl, ?_⟩
            refine ⟨_, rfl, n, rfl, t2, fun H3 s3 => ⟨_, rfl, ite2 (fun h4 => ?_) (fun h4 => ?_)⟩⟩
            · exact ⟨_, rfl, v, _, _, _, false, rfl, .own _, tyx_keep t3 s3, (kit_not T.Version_cl T.Version_rd t4).1, k1 rfl H3 s3⟩
            · exact k1 rfl H3 s3
        · refine ⟨DD, xs.map Wt.gd, rfl, SqL.of (by rw [hd2, filt1, List.map_map]; rfl), ?_⟩
          rw [List.all_map, show xs.all (id ∘ Wt.gd) = xs.all Wt.gd from rfl]
          by_cases h5 : xs.all Wt.gd = true
          · rw [h5]
            have hw2 : ∀ y ∈ xs, y.ok K D.a_Version H2 := fun y hy => Wt.ok_keep (hw1 y hy) s2
            have ha2 := sqT_keep s2 ha1
            refine ⟨true, rfl, iteF ?_⟩
            refine ⟨_, rfl, a, rfl, ⟨_, ha2⟩, fun NN hNN => dc_tup (xs := xs.map Wt.v) (fun i H' => Same H2 H' ∧ H' NN = some (.dK (keysOf (xs.take i)))) ⟨same_new hNN, upd_same⟩ (fun i H' _ h => sqT_keep h.1 ha2) (fun i y H' hi h => ?_) (fun H' h => ?_)⟩
            · rw [List.getElem?_map] at hi
              obtain ⟨x, hx, rfl⟩ := Option.map_eq_some_iff.mp hi
              have hx1 := Wt.ok_keep (hw2 x (List.mem_of_getElem? hx)) h.1
              have hx2 := List.all_eq_true.mp h5 x (List.mem_of_getElem? hx)
              cases x with
              | none v => exact absurd hx2 (by simp [Wt.gd])
              | odd p n v => exact absurd hx2 (by simp [Wt.gd])
              | pair p n v r =>
                obtain ⟨t, rfl⟩ := name_text (show goodName n = true from hx2)
                refine ⟨p, _, rfl, hx1.1, rfl, _, _, rfl, _, _, rfl, rfl, rfl, ?_⟩
                refine ⟨_, rfl, _, .inr t, rfl, h.2, ?_, same_upd h.1 hNN, ?_⟩
                · refine szt (Nat.le_trans (keysOf_len _) ?_)
                  rw [List.length_take]
                  omega
                · rw [upd_same, one_more hx]
                  unfold keysOf
                  rw [List.foldl_append]
                  rfl
            · have h3 := h.2
              rw [hlen, List.take_length] at h3
              refine ⟨_, rfl, NN, _, rfl, h3, _, rfl, a, _, rfl, .inr (sqT_keep h.1 ha2), rfl, ?_⟩
              have k := q' H' ((s1.trans s2).trans h.1)
              rw [h5, Bool.true_and] at k
              have e : decide (V.int ((keysOf xs).length : Int) = V.int ((xs.map Wt.v).length : Int)) = decide (((keysOf xs).length : Int) = (xs.length : Int)) := decide_eq_decide.mpr (by
                rw [hlen]
                exact ⟨fun e => by injection e, fun e => by rw [e]⟩)
              rw [e]
              exact k
          · rw [Bool.eq_false_iff.mpr h5]
            refine ⟨false, rfl, iteT ?_⟩
            have := q' H2 (s1.trans s2)
            rw [Bool.eq_false_iff.mpr h5] at this
            exact this
      · rw [Bool.eq_false_iff.mpr h2]
        refine ⟨false, rfl, iteT ?_⟩
        have := q H1 s1
        unfold stand at this
        rw [Bool.eq_false_iff.mpr h2] at this
        exact this
/-! ### what is fresh -/
def spFresh (K : PySem.W.Frag) : Sp := fun vs H Q _ => ∃ (x : V) (b : Bool), vs = [x] ∧
  ((x = .non ∧ b = true) ∨ (b = false ∧ x ≠ .non ∧ ∃ ty, TyX K H x (.type ty) ∧ kitB ty "tuple" = some false) ∨ ∃ (a : Addr) (xs : List V), x = .ref a ∧ SqT K H a xs ∧ xs.length ≤ 50 ∧ (∀ y ∈ xs, Th K H y) ∧ b = xs.all goodName) ∧ ∀ H', Same H H' → Q (.bl b) H'
theorem ok_is_fresh (T : Tex K mg D) : FnOk P w K mg base CX0 4 D.a_is_fresh D.d_is_fresh P_is_fresh (spFresh K) := by
  have G_is_name : FnOk P w K mg base CX0 3 D.a_is_name D.d_is_name P_is_name (spName K) := ok_is_name T
  refine T.is_fresh_F.ok S_is_fresh (fun vs H Q E h => ?_) (fun cdv A outer s H vs Q E hr h => ?_)
  · obtain ⟨x, b, rfl, _⟩ := h
    rfl
  · obtain ⟨x, b, rfl, h, q⟩ := h
    refine ⟨_, (pss_cons (ps_if (pt_cmpR op_isN (pv 0) pe_non (nomark _)) (pss_one (ps_ret pe_bl)) pss_nil)
      (pss_one (ps_ret (pe_and (pe_callB call_isi (by rfl) T.b_isinstance (by decide +kernel) (pa_cons (pv 0) (pa_cons (pe_bltn (v := .ty "tuple") (u := .type "tuple") (by rfl) T.b_tuple (by decide +kernel) rfl) pa_nil))) (pe_one (pe_callB (cr_all rfl) (by rfl) T.b_all (by decide +kernel) (pa_cons (pe_lc (own := [(("name" : Str), 1)]) (g := gName 1) (tt := tYes) rfl S_is_fresh.nd (pi_tup (pv 0)) (blkOk_by (N := N_is_fresh) (sc := defScope s_is_fresh) (by decide +kernel)) (fun _ _ _ _ _ => pg_name (i := 1) S_is_fresh.nd rfl (Or.inl rfl)) (fun _ _ _ _ _ => pts_nil) (fun _ _ _ _ _ => (pe_call G_is_name (hr.mono (by decide)) (by rfl) T.is_name_g T.is_name_F.kp T.is_name_b .nil pass0 (pa_cons (pv 1) pa_nil)))) pa_nil))))))), ?_⟩
    rcases h with ⟨rfl, rfl⟩ | ⟨rfl, hx, ty, t1, t2⟩ | ⟨a, xs, rfl, ha, hl, hw, rfl⟩
    · exact ⟨_, rfl, rfl, _, rfl, iteT (q H (Same.refl H))⟩
    · refine ⟨_, rfl, rfl, _, rfl, ?_⟩
      rw [decide_eq_false hx]
      exact iteF ⟨_, rfl, x, .ty "tuple", .type ty, .type "tuple", false, rfl, .ty _, t1, kit_ty t2, false, rfl, iteF (q H (Same.refl H))⟩
    · refine ⟨_, rfl, rfl, _, rfl, ?_⟩
      rw [decide_eq_false (show V.ref a ≠ V.non from fun e => nomatch e)]
      refine iteF ⟨_, rfl, .ref a, .ty "tuple", .type "tuple", .type "tuple", true, rfl, .ty _, ty_tup ha, kit_ty (by decide +kernel), true, rfl, iteT ?_⟩
      have ha' : SqT K H a (xs.map id) := by rw [List.map_id]; exact ha
      refine ⟨_, rfl, a, rfl, ⟨_, ha⟩, fun DD hDD => lc_tpl xs id (fun _ => true) (fun x => .bl (goodName x)) hDD (szt (by omega)) ha' (fun x hx H2 R S s2 k1 k2 => ?_) (fun H2 s2 hd2 => ?_)⟩
      · exact ⟨rfl, _, rfl, x, rfl, (hw x hx).keep s2, fun H3 s3 => k1 rfl H3 s3⟩
      · refine ⟨DD, xs.map goodName, rfl, SqL.of (by rw [hd2, filt1, List.map_map]; rfl), ?_⟩
        rw [List.all_map, show xs.all (id ∘ goodName) = xs.all goodName from rfl]
        exact q H2 s2
end

/-! ## Tastes: by rank -/
section
variable {P : Program} {w : World} {K : PySem.W.Frag} {mg : Str → Option Value} {base : Heap} {D : Ad}
open TL SX
/-- versions, each with its rank -/
abbrev Vs := List (Addr × Nat)
def VL (C : Addr) (H : Hp) (ps : Vs) : Prop := ∀ p ∈ ps, Ver C H p.1 p.2
theorem VL.keep {C : Addr} {H H' : Hp} {ps : Vs} (h : VL C H ps) (s : Same H H') : VL C H' ps := fun p hp => (h p hp).keep s
def vR (p : Addr × Nat) : V := .ref p.1
def SqE (K : PySem.W.Frag) (H : Hp) (a : Addr) (xs : List V) : Prop := SqT K H a xs ∨ SqL K H a xs
theorem SqE.keep {H H' : Hp} {a : Addr} {xs : List V} (h : SqE K H a xs) (s : Same H H') : SqE K H' a xs := h.imp (sqT_keep s) (fun h => s.seq h)
/-- a dict comprehension whose keys and values the heap does not change -/
theorem dc_map {α : Type} {J : It} {n : Nat} {G : Hp → Prop} {Y : Nat → Hp → V → Hp → Prop} (wk : Walk J n G Y) (xs : List α) (emb : α → V) (hn : n = xs.length)
    (hY : ∀ i H x H', Y i H x H' → H' = H ∧ ∃ a, xs[i]? = some a ∧ x = emb a)
    {g : TG} {tt : TT} {tk tv : TE} {vs : List Nat} {σ : L2.St} {H1 : Hp} {DD : Addr} {Qd : Hp → Prop} (kf : α → Key) (vf : α → V) (hD : H1 DD = none) (hz : n ≤ 1000) (hG : ∀ H, Same H1 H → G H)
    (hs : ∀ a, a ∈ xs → ∀ (H : Hp) (R : V → V → Hp → Prop) (S : Hp → Prop), Same H1 H → (∀ H', Same H H' → R (kV (kf a)) (vf a) H') →
      g (emb a) (wipe σ vs) H fun σ2 H2 => wipe σ2 vs = wipe σ vs ∧ tt σ2 H2 fun b H3 => if b = true then tk σ2 H3 fun y H4 => tv σ2 H4 fun z H5 => R y z H5 else S H3)
    (hd : ∀ H, Same H1 H → H DD = some (.dK (xs.foldl (fun ks a => putK ks (kf a) (vf a)) [])) → Qd H) :
    ∃ W : Nat → Nat → Hp → Prop, (∃ m, W 0 m (upd H1 DD (.dK []))) ∧ ∀ i m H, W i m H →
      (J.stop i H ∧ Qd H) ∨ (J.go i H ∧ ∃ Nx : Hp → Prop, (∀ H', Nx H' → ∃ m', m' < m ∧ W (i + 1) m' H') ∧ ∀ x H', J.yld i H x H' → g x (wipe σ vs) H' fun σ2 H2 => wipe σ2 vs = wipe σ vs ∧ tt σ2 H2 fun b H3 =>
        if b = true then tk σ2 H3 fun y H4 => tv σ2 H4 fun z H5 => ∃ kvs k, y = kV k ∧ H5 DD = some (.dK kvs) ∧ kvs.length < sizeLine ∧ Nx (upd H5 DD (.dK (putK kvs k z))) else Nx H3) := by
  let fold : Nat → List (Key × V) := fun i => (xs.take i).foldl (fun ks a => putK ks (kf a) (vf a)) []
  have flen : ∀ i, (fold i).length ≤ i := by
    have all : ∀ (ys : List α) (ks : List (Key × V)), (ys.foldl (fun ks a => putK ks (kf a) (vf a)) ks).length ≤ ks.length + ys.length := by
      intro ys
      induction ys with
      | nil => intro ks; simp
      | cons y r ih =>
        intro ks
        have h1 := ih (putK ks (kf y) (vf y))
        have h2 := putK_len (kf y) (vf y) ks
        simp only [List.foldl_cons, List.length_cons]
        omega
    intro i
    have h1 := all (xs.take i) []
    simp only [List.length_nil, List.length_take] at h1
    show ((xs.take i).foldl _ []).length ≤ i
    omega
  let Pv : Nat → Hp → Prop := fun i H => Same H1 H ∧ H DD = some (.dK (fold i))
  refine ⟨fun i m H => m = n - i ∧ i ≤ n ∧ Pv i H, ⟨n, by simp, Nat.zero_le _, same_new hD, by rw [upd_same]; rfl⟩, ?_⟩
  rintro i m H ⟨rfl, hi, s1, hf⟩
  by_cases hlt : i < n
  · refine .inr ⟨wk.goes i H hlt (hG H s1), Pv (i + 1), fun H' p' => ⟨n - (i + 1), by omega, rfl, hlt, p'⟩, fun x H' y => ?_⟩
    obtain ⟨rfl, a, ha, rfl⟩ := hY _ _ _ _ (wk.yields i H x H' hlt (hG H s1) y)
    refine hs a (List.mem_of_getElem? ha) H' (fun y z H5 => ∃ kvs k, y = kV k ∧ H5 DD = some (.dK kvs) ∧ kvs.length < sizeLine ∧ Pv (i + 1) (upd H5 DD (.dK (putK kvs k z)))) (Pv (i + 1)) s1 fun H5 s5 => ?_
    have := flen i
    refine ⟨fold i, kf a, rfl, s5 _ _ hf, szt (by omega), same_upd (s1.trans s5) hD, ?_⟩
    rw [upd_same]
    show some (HO.dK (putK (fold i) (kf a) (vf a))) = some (.dK (fold (i + 1)))
    congr 2
    show _ = (xs.take (i + 1)).foldl _ []
    rw [one_more ha, List.foldl_append]
    rfl
  · have e : i = n := by omega
    subst e
    refine .inl ⟨wk.stops H (hG H s1), hd H s1 ?_⟩
    rw [hf, show fold i = xs.foldl (fun ks a => putK ks (kf a) (vf a)) [] from by show (xs.take i).foldl _ [] = _; rw [hn, List.take_length]]
theorem yAt_map {α : Type} {xs : List α} {emb : α → V} (i : Nat) (H : Hp) (x : V) (H' : Hp) (y : YAt (xs.map emb) i H x H') : H' = H ∧ ∃ a, xs[i]? = some a ∧ x = emb a := by
  obtain ⟨e, h⟩ := y
  rw [List.getElem?_map] at h
  obtain ⟨a, h1, h2⟩ := Option.map_eq_some_iff.mp h
  exact ⟨e, a, h1, h2.symm⟩
abbrev iEi (K : PySem.W.Frag) (tl : TE) : TI := fun σ H R => iTup K tl σ H R ∨ iList K tl σ H R
/-- over a tuple here, over a list there -/
theorem dc_e {α : Type} {a : Addr} (xs : List α) (emb : α → V) {slot : Nat} {g : TG} {tt : TT} {tk tv : TE} {vs : List Nat} {σ : L2.St} {H1 : Hp} {Q : VK} (kf : α → Key) (vf : α → V) (hi : σ[slot]? = some (some (.ref a))) (ha : SqE K H1 a (xs.map emb)) (hz : xs.length ≤ 1000)
    (hs : ∀ a, a ∈ xs → ∀ (H : Hp) (R : V → V → Hp → Prop) (S : Hp → Prop), Same H1 H → (∀ H', Same H H' → R (kV (kf a)) (vf a) H') →
      g (emb a) (wipe σ vs) H fun σ2 H2 => wipe σ2 vs = wipe σ vs ∧ tt σ2 H2 fun b H3 => if b = true then tk σ2 H3 fun y H4 => tv σ2 H4 fun z H5 => R y z H5 else S H3)
    (hd : ∀ DD H, H1 DD = none → Same H1 H → H DD = some (.dK (xs.foldl (fun ks a => putK ks (kf a) (vf a)) [])) → Q (.ref DD) H) : tDc (iEi K (tVar slot)) g tt tk tv vs σ H1 Q := by
  rcases ha with ha | ha
  · exact .inl ⟨_, hi, a, rfl, ⟨_, ha⟩, fun DD hDD => dc_map (walk_tup (xs := xs.map emb)) xs emb (List.length_map _) yAt_map kf vf hDD (by rw [List.length_map]; exact hz) (fun H s => sqT_keep s ha) hs (hd DD · hDD)⟩
  · exact .inr ⟨_, hi, a, rfl, ⟨_, ha⟩, fun DD hDD => dc_map (walk_list (xs := xs.map emb)) xs emb (List.length_map _) yAt_map kf vf hDD (by rw [List.length_map]; exact hz) (fun H s => s.seq ha) hs (hd DD · hDD)⟩
theorem lc_e {α : Type} {a : Addr} (xs : List α) (emb : α → V) {slot : Nat} {g : TG} {tt : TT} {te : TE} {vs : List Nat} {σ : L2.St} {H1 : Hp} {Q : VK} (p : α → Bool) (f : α → V) (hi : σ[slot]? = some (some (.ref a))) (ha : SqE K H1 a (xs.map emb)) (hz : xs.length ≤ 1000)
    (hs : ∀ c, c ∈ xs → ∀ (H : Hp) (R : VK) (S : Hp → Prop), Same H1 H → (p c = true → ∀ H', Same H H' → R (f c) H') → (p c = false → ∀ H', Same H H' → S H') →
      g (emb c) (wipe σ vs) H fun σ2 H2 => wipe σ2 vs = wipe σ vs ∧ tt σ2 H2 fun b H3 => if b = true then te σ2 H3 R else S H3)
    (hd : ∀ DD H, H1 DD = none → Same H1 H → H DD = some (.lst ((xs.filter p).map f)) → Q (.ref DD) H) : tLc (iEi K (tVar slot)) g tt te vs σ H1 Q := by
  rcases ha with ha | ha
  · exact .inl ⟨_, hi, a, rfl, ⟨_, ha⟩, fun DD hDD => lc_tpl xs emb p f hDD (szt hz) ha hs (hd DD · hDD)⟩
  · exact .inr ⟨_, hi, a, rfl, ⟨_, ha⟩, fun DD hDD => lc_lst xs emb p f hDD (szt hz) ha hs (hd DD · hDD)⟩
theorem asg_in {te : TE} {i : Nat} {rest : TS} {E : Ends} {σ : L2.St} {H : Hp} (h : te σ H fun x H1 => rest E (σ.set i (some x)) H1) : tSeq (tAsg te (gName i)) rest E σ H := h
theorem asg_go {i : Nat} {x : V} {σ : L2.St} {H : Hp} {N : L2.St → Hp → Prop} (h : N (σ.set i (some x)) H) : gName i x σ H N := h
theorem ret_in {te : TE} {E : Ends} {σ : L2.St} {H : Hp} (h : te σ H fun x H1 => E.rt x H1) : tRet te E σ H := h
theorem cb_in {r : List V → Hp → VK → Prop} {ta : TE} {σ : L2.St} {H : Hp} {Q : VK} (h : ta σ H fun x H1 => r [x] H1 Q) : tCB r (tCons ta tNil) σ H Q := h
/-- the versions by their ranks -/
def tabV (ps : Vs) : List (Key × V) := ps.foldl (fun ks p => putK ks (.inl (p.2 : Int)) (vR p)) []
theorem tabV_has (ps : Vs) (r : Nat) (h : r ∈ ps.map (·.2)) : ∃ v, (v, r) ∈ ps ∧ valV (tabV ps) (.inl (r : Int)) = some (.ref v) := by
  have all : ∀ (qs : Vs) (ks : List (Key × V)), (∃ v, (v, r) ∈ qs ∧ valV (qs.foldl (fun ks p => putK ks (.inl (p.2 : Int)) (vR p)) ks) (.inl (r : Int)) = some (.ref v)) ∨
      (r ∉ qs.map (·.2) ∧ valV (qs.foldl (fun ks p => putK ks (.inl (p.2 : Int)) (vR p)) ks) (.inl (r : Int)) = valV ks (.inl (r : Int))) := by
    intro qs
    induction qs with
    | nil => exact fun ks => .inr ⟨by simp, rfl⟩
    | cons q t ih =>
      intro ks
      rcases ih (putK ks (.inl (q.2 : Int)) (vR q)) with ⟨v, h1, h2⟩ | ⟨h1, h2⟩
      · exact .inl ⟨v, List.mem_cons_of_mem _ h1, h2⟩
      · rw [List.foldl_cons, h2, valV_put]
        by_cases e : r = q.2
        · subst e
          exact .inl ⟨q.1, List.mem_cons_self, by simp [vR]⟩
        · refine .inr ⟨by simp [e]; simpa using h1, ?_⟩
          rw [if_neg (fun z => e (by injection z with z; omega))]
  rcases all ps [] with h1 | ⟨h1, _⟩
  · exact h1
  · exact absurd h h1
def pickV (ps : Vs) (r : Nat) : Addr := match valV (tabV ps) (.inl (r : Int)) with
  | some (.ref v) => v
  | _ => 0
theorem pickV_ok {ps : Vs} {r : Nat} (h : r ∈ ps.map (·.2)) : (pickV ps r, r) ∈ ps ∧ valV (tabV ps) (.inl (r : Int)) = some (.ref (pickV ps r)) := by
  obtain ⟨v, h1, h2⟩ := tabV_has ps r h
  have e : pickV ps r = v := by
    unfold pickV
    rw [h2]
  rw [e]
  exact ⟨h1, h2⟩
/-- the ranks in the wanted order -/
def Ordered (nw : Bool) (rs qs : List Nat) : Prop := ∃ up : List Nat, up.Perm qs ∧ up.Pairwise (· ≤ ·) ∧ rs = if nw = true then up.reverse else up
def spByRank (K : PySem.W.Frag) (C : Addr) : Sp := fun vs H Q _ => ∃ (a : Addr) (ps : Vs) (nw : Bool), vs = [.ref a, .bl nw] ∧ SqE K H a (ps.map vR) ∧ ps.length ≤ 40 ∧ VL C H ps ∧
  ∀ (p : Addr) (qs : Vs) (H' : Hp), Same H H' → H p = none → H' p = some (.tup (qs.map vR)) → VL C H' qs → Ordered nw (qs.map (·.2)) (ps.map (·.2)) → Q (.ref p) H'
theorem ok_by_rank (T : Tex K mg D) : FnOk P w K mg base CX0 3 D.a_by_rank D.d_by_rank P_by_rank (spByRank K D.a_Version) := by
  have G_Version_rank : FnOk P w K mg base CX0 1 D.a_Version_rank D.d_Version_rank P_Version_rank (spRk D.a_Version) := ok_Version_rank T
  refine T.by_rank_F.ok S_by_rank (fun vs H Q E h => ?_) (fun cdv A outer s H vs Q E hr h => ?_)
  · obtain ⟨a, ps, nw, rfl, _⟩ := h
    rfl
  · obtain ⟨a, ps, nw, rfl, ha, hl, hv, q⟩ := h
    have hu := hu_of hr
    refine ⟨_, (pss_cons (ps_set (i := 2) S_by_rank.nd rfl (Or.inr rfl) (pe_dc (own := [(("version" : Str), 4)]) (g := gName 4) (tt := tYes) rfl S_by_rank.nd (pi_or (pi_tup (pv 0)) (pi_list (pv 0))) (blkOk_by (N := N_by_rank) (sc := defScope s_by_rank) (by decide +kernel)) (fun _ _ _ _ _ => pg_name (i := 4) S_by_rank.nd rfl (Or.inl rfl)) (fun _ _ _ _ _ => pts_nil) (fun _ _ _ _ _ => (pe_prop (pv 4) T.Version_cl T.Version_rank_p G_Version_rank (hr.mono (by decide)) T.Version_rank_b .nil pass0 rfl)) (fun _ _ _ _ _ => (pv 4))))
      (pss_cons (ps_set (i := 3) S_by_rank.nd rfl (Or.inl rfl) (pe_callB cr_sortedI (by rfl) T.b_sorted (by decide +kernel) (pa_cons (pe_lc (own := [(("version" : Str), 4)]) (g := gName 4) (tt := tYes) rfl S_by_rank.nd (pi_or (pi_tup (pv 0)) (pi_list (pv 0))) (blkOk_by (N := N_by_rank) (sc := defScope s_by_rank) (by decide +kernel)) (fun _ _ _ _ _ => pg_name (i := 4) S_by_rank.nd rfl (Or.inl rfl)) (fun _ _ _ _ _ => pts_nil) (fun _ _ _ _ _ => (pe_callTy call_int1 (by rfl) T.b_int (by decide +kernel) (pa_cons (pe_prop (pv 4) T.Version_cl T.Version_rank_p G_Version_rank (hr.mono (by decide)) T.Version_rank_b .nil pass0 rfl) pa_nil)))) pa_nil)))
      (pss_cons (ps_if (pt_val (pv 1)) (pss_one (ps_expr (pe_bm0 PySem.F.plainAttrs_list PySem.F.slot_list_reverse PySem.F.type_list_reverse mt_reverse (pv 3)))) pss_nil)
      (pss_one (ps_ret (pe_callTy call_tuple_of (by rfl) T.b_tuple (by decide +kernel) (pa_cons (pe_lc (own := [(("rank" : Str), 5)]) (g := gName 5) (tt := tYes) rfl S_by_rank.nd (pi_list (pv 3)) (blkOk_by (N := N_by_rank) (sc := defScope s_by_rank) (by decide +kernel)) (fun _ _ _ _ _ => pg_name (i := 5) S_by_rank.nd rfl (Or.inl rfl)) (fun _ _ _ _ _ => pts_nil) (fun _ _ _ _ _ => (pe_dget hu (pv 2) (pv 5) (fun _ _ => rfl)))) pa_nil))))))), ?_⟩
    -- the table
    have one : ∀ {H2 : Hp} {p : Addr × Nat}, p ∈ ps → Same H H2 → Ver D.a_Version H2 p.1 p.2 := fun hp s => (hv _ hp).keep s
    refine asg_in (dc_e (slot := 0) ps vR (fun p => .inl (p.2 : Int)) vR ?_ ha (by omega) (fun x hx H2 R S s2 k1 => ?_) (fun TT H1 hTT s1 hT => ?_))
    · rfl
    · obtain ⟨dx, h1⟩ := one hx s2
      refine ⟨rfl, ?_⟩
      refine ⟨_, rfl, x.1, dx, _, rfl, h1, x.1, x.2, rfl, ⟨dx, h1⟩, ?_⟩
      exact ⟨_, rfl, k1 H2 (Same.refl _)⟩
    -- the ranks
    refine asg_in (cb_in (lc_e (slot := 0) ps vR (fun _ => true) (fun p => .int (p.2 : Int)) ?_ (ha.keep s1) (by omega) (fun x hx H2 R S s2 k1 k2 => ?_) (fun LL H2 hLL s2 hL => ?_)))
    · rfl
    · obtain ⟨dx, h1⟩ := one hx (s1.trans s2)
      refine ⟨rfl, ?_⟩
      refine ⟨_, rfl, x.1, dx, _, rfl, h1, x.1, x.2, rfl, ⟨dx, h1⟩, ?_⟩
      exact .inl ⟨_, rfl, k1 rfl H2 (Same.refl _)⟩
    rw [filt1] at hL
    refine ⟨LL, ps.map (fun p => (p.2 : Int)), rfl, SqL.of (by rw [hL, List.map_map]; rfl), fun ns RR hperm hup hRR => ?_⟩
    have hnn : ∀ n ∈ ns, ∃ m : Nat, n = (m : Int) := fun n hn => by
      obtain ⟨p, _, e⟩ := List.mem_map.mp (hperm.mem_iff.mp hn)
      exact ⟨p.2, e.symm⟩
    obtain ⟨up, rfl⟩ : ∃ up : List Nat, ns = up.map fun (m : Nat) => (m : Int) := ⟨ns.map Int.toNat, by
      rw [List.map_map]
      refine (List.map_congr_left fun n hn => ?_).symm.trans (List.map_id _) |>.symm
      obtain ⟨m, rfl⟩ := hnn n hn
      rfl⟩
    have up1 : up.Perm (ps.map (·.2)) := by
      have h := hperm.map Int.toNat
      rw [List.map_map, List.map_map] at h
      rw [show (Int.toNat ∘ fun m : Nat => (m : Int)) = id from by funext m; rfl, List.map_id] at h
      exact h
    have up2 : up.Pairwise (· ≤ ·) := (List.pairwise_map.mp hup).imp fun h => by omega
    have s3 : Same H (upd H2 RR (.lst ((up.map fun (m : Nat) => (m : Int)).map V.int))) := (s1.trans s2).trans (same_new hRR)
    have t3 : (upd H2 RR (.lst ((up.map fun (m : Nat) => (m : Int)).map V.int))) TT = some (.dK (tabV ps)) := (s2.trans (same_new hRR)) _ _ hT
    have nTR : TT ≠ RR := ne_of_none (s2 _ _ hT) hRR
    have r3 : (upd H2 RR (.lst ((up.map fun (m : Nat) => (m : Int)).map V.int))) RR = some (.lst (up.map fun (m : Nat) => V.int (m : Int))) := by rw [upd_same, List.map_map]; rfl
    have hRH : H RR = none := (s1.trans s2).free hRR
    revert s3 t3 r3
    generalize upd H2 RR (.lst ((up.map fun (m : Nat) => (m : Int)).map V.int)) = H3
    intro s3 t3 r3
    have last : ∀ (ord : List Nat) (H4 : Hp), Same H H4 → H4 TT = some (.dK (tabV ps)) → H4 RR = some (.lst (ord.map fun (m : Nat) => V.int (m : Int))) → ord = (if nw = true then up.reverse else up) →
        tRet (tCB (fun xs H Q => ∃ p ys, xs = [V.ref p] ∧ ((SqL K H p ys ∧ ∀ l, H l = none → Q (.ref l) (upd H l (.tup ys))) ∨ (SqT K H p ys ∧ Q (.ref p) H))) (tCons (tLc (iList K (tVar 3)) (gName 5) tYes (tDGet (tVar 2) (tVar 5)) [5]) tNil))
          { nx := fun _ H' => Q .non H', rt := Q } [some (.ref a), some (.bl nw), some (.ref TT), some (.ref RR), none, none] H4 := by
      intro ord H4 s4 t4 r4 hord
      have hm : ∀ r ∈ ord, r ∈ ps.map (·.2) := fun r hr => by
        rw [hord] at hr
        refine up1.mem_iff.mp ?_
        split at hr
        · exact List.mem_reverse.mp hr
        · exact hr
      have hlo : ord.length ≤ 40 := by
        have h1 : ord.length = up.length := by
          rw [hord]
          split <;> simp
        have h2 := up1.length_eq
        rw [List.length_map] at h2
        omega
      refine ⟨_, rfl, RR, rfl, ⟨_, SqL.of r4⟩, fun DD hDD => lc_lst ord (fun (m : Nat) => V.int (m : Int)) (fun _ => true) (fun r => .ref (pickV ps r)) hDD (szt (by omega)) (SqL.of r4) (fun r hr H5 R S s5 k1 k2 => ?_) (fun H5 s5 h5 => ?_)⟩
      · refine ⟨rfl, ?_⟩
        have g := DGet.k (k := .inl (r : Int)) (s5 _ _ t4)
        rw [(pickV_ok (hm r hr)).2] at g
        exact ⟨_, rfl, _, rfl, TT, _, rfl, g, k1 rfl H5 (Same.refl _)⟩
      · rw [filt1] at h5
        refine ⟨DD, _, rfl, .inl ⟨SqL.of h5, fun l hl => ?_⟩⟩
        have e : (ord.map fun r => V.ref (pickV ps r)) = ((ord.map fun r => (pickV ps r, r)).map vR) := by rw [List.map_map]; rfl
        have s6 : Same H (upd H5 l (.tup (ord.map fun r => V.ref (pickV ps r)))) := (s4.trans s5).trans (same_new hl)
        refine q l (ord.map fun r => (pickV ps r, r)) _ s6 ((s4.trans s5).free hl) (by rw [upd_same, e]) (fun x hx => ?_) ⟨up, up1, up2, by rw [List.map_map, ← hord]; exact List.map_id _⟩
        obtain ⟨r, hr, rfl⟩ := List.mem_map.mp hx
        exact (hv _ (pickV_ok (hm r hr)).1).keep s6
    cases nw with
    | false => exact ⟨_, rfl, false, rfl, iteF (last up H3 s3 t3 r3 rfl)⟩
    | true =>
      refine ⟨_, rfl, true, rfl, iteT ⟨_, rfl, .inl ⟨rfl, _, .inl (.inl r3)⟩, RR, _, rfl, rfl, r3, ?_⟩⟩
      refine last up.reverse _ (fun b o e => ?_) (by rw [upd_ne nTR]; exact t3) (by rw [upd_same, List.map_reverse]) rfl
      rw [upd_ne (ne_of_none e hRH)]
      exact s3 b o e
end

/-! ## Tastes: the three classes -/
section
variable {P : Program} {w : World} {K : PySem.W.Frag} {mg : Str → Option Value} {base : Heap} {D : Ad}
open TL SX
def spXI (C : Addr) (f : Str) : Sp := fun vs H Q _ => ∃ (a : Addr) (y : V), vs = [.ref a, y] ∧ H a = some (exo a C none) ∧ ∀ dx, H dx = none → dx ≠ a → Q .non (upd (upd H dx (exd dx [(f, y)])) a (exo a C (some dx)))
theorem ok_BadVersion_init (T : Tex K mg D) : FnOk P w K mg base CX0 1 D.a_BadVersion_init D.d_BadVersion_init P_BadVersion_init (spXI D.a_BadVersion "given") := by
  refine T.BadVersion_init_F.ok S_BadVersion_init (fun vs H Q E h => ?_) (fun cdv A outer s H vs Q E hr h => ?_)
  · obtain ⟨a, y, rfl, _⟩ := h
    rfl
  · obtain ⟨a, y, rfl, ha, q⟩ := h
    exact ⟨_, (pss_one (ps_ost (pv 0) (pv 1))), _, rfl, _, rfl, a, _, rfl, T.BadVersion_xa.o, T.BadVersion_xf, .inl ⟨ha, fun dx h1 h2 => q dx h1 h2⟩⟩
theorem ok_BadName_init (T : Tex K mg D) : FnOk P w K mg base CX0 1 D.a_BadName_init D.d_BadName_init P_BadName_init (spXI D.a_BadName "given") := by
  refine T.BadName_init_F.ok S_BadName_init (fun vs H Q E h => ?_) (fun cdv A outer s H vs Q E hr h => ?_)
  · obtain ⟨a, y, rfl, _⟩ := h
    rfl
  · obtain ⟨a, y, rfl, ha, q⟩ := h
    exact ⟨_, (pss_one (ps_ost (pv 0) (pv 1))), _, rfl, _, rfl, a, _, rfl, T.BadName_xa.o, T.BadName_xf, .inl ⟨ha, fun dx h1 h2 => q dx h1 h2⟩⟩
theorem raise_same {H : Hp} {a dx C : Addr} {fs : List (Str × V)} (ha : H a = none) (hd : (upd H a (exo a C none)) dx = none) :
    Same H (upd (del (upd (upd (upd H a (exo a C none)) dx (exd dx fs)) a (exo a C (some dx))) a) dx (.xd fs)) := by
  intro b o e
  have n1 : b ≠ a := ne_of_none e ha
  have n2 : b ≠ dx := by
    rintro rfl
    rw [upd_ne n1, e] at hd
    cases hd
  rw [upd_ne n2]
  unfold del
  rw [if_neg n1, upd_ne n1, upd_ne n2, upd_ne n1]
  exact e
/-! ### newest, oldest -/
def spTaste (K : PySem.W.Frag) (C : Addr) (nw : Bool) : Sp := fun vs H Q _ => ∃ (g : Addr) (n : V) (a : Addr) (ps : Vs), vs = [.ref g, n, .ref a] ∧ SqT K H a (ps.map vR) ∧ ps.length ≤ 40 ∧ VL C H ps ∧
  ∀ (p : Addr) (qs : Vs) (H' : Hp), Same H H' → H p = none → H' p = some (.tup (qs.map vR)) → VL C H' qs → Ordered nw (qs.map (·.2)) (ps.map (·.2)) → Q (.ref p) H'
theorem ok_Newest_call (T : Tex K mg D) : FnOk P w K mg base CX0 4 D.a_Newest_call D.d_Newest_call P_Newest_call (spTaste K D.a_Version true) := by
  have G_by_rank : FnOk P w K mg base CX0 3 D.a_by_rank D.d_by_rank P_by_rank (spByRank K D.a_Version) := ok_by_rank T
  refine T.Newest_call_F.ok S_Newest_call (fun vs H Q E h => ?_) (fun cdv A outer s H vs Q E hr h => ?_)
  · obtain ⟨g, n, a, ps, rfl, _⟩ := h
    rfl
  · obtain ⟨g, n, a, ps, rfl, ha, hl, hv, q⟩ := h
    exact ⟨_, (pss_one (ps_ret (pe_call G_by_rank (hr.mono (by decide)) (by rfl) T.by_rank_g T.by_rank_F.kp T.by_rank_b .nil pass0 (pa_cons (pv 2) (pa_cons pe_bl pa_nil))))), _, rfl, a, ps, true, rfl, .inl ha, hl, hv, q⟩
theorem ok_Oldest_call (T : Tex K mg D) : FnOk P w K mg base CX0 4 D.a_Oldest_call D.d_Oldest_call P_Oldest_call (spTaste K D.a_Version false) := by
  have G_by_rank : FnOk P w K mg base CX0 3 D.a_by_rank D.d_by_rank P_by_rank (spByRank K D.a_Version) := ok_by_rank T
  refine T.Oldest_call_F.ok S_Oldest_call (fun vs H Q E h => ?_) (fun cdv A outer s H vs Q E hr h => ?_)
  · obtain ⟨g, n, a, ps, rfl, _⟩ := h
    rfl
  · obtain ⟨g, n, a, ps, rfl, ha, hl, hv, q⟩ := h
    exact ⟨_, (pss_one (ps_ret (pe_call G_by_rank (hr.mono (by decide)) (by rfl) T.by_rank_g T.by_rank_F.kp T.by_rank_b .nil pass0 (pa_cons (pv 2) (pa_cons pe_bl pa_nil))))), _, rfl, a, ps, false, rfl, .inl ha, hl, hv, q⟩
def spNon : Sp := fun vs H Q _ => ∃ g n : V, vs = [g, n] ∧ Q .non H
theorem ok_Newest_of (T : Tex K mg D) : FnOk P w K mg base CX0 1 D.a_Newest_standing_of D.d_Newest_standing_of P_Newest_standing_of spNon := by
  refine T.Newest_standing_of_F.ok S_Newest_standing_of (fun vs H Q E h => ?_) (fun cdv A outer s H vs Q E hr h => ?_)
  · obtain ⟨g, n, rfl, _⟩ := h
    rfl
  · obtain ⟨g, n, rfl, q⟩ := h
    exact ⟨_, (pss_one (ps_ret pe_non)), q⟩
theorem ok_Oldest_of (T : Tex K mg D) : FnOk P w K mg base CX0 1 D.a_Oldest_standing_of D.d_Oldest_standing_of P_Oldest_standing_of spNon := by
  refine T.Oldest_standing_of_F.ok S_Oldest_standing_of (fun vs H Q E h => ?_) (fun cdv A outer s H vs Q E hr h => ?_)
  · obtain ⟨g, n, rfl, _⟩ := h
    rfl
  · obtain ⟨g, n, rfl, q⟩ := h
    exact ⟨_, (pss_one (ps_ret pe_non)), q⟩
/-! ### keeping -/
/-- a Keeping at g with the dict kv -/
def Kp (C : Addr) (H : Hp) (g : Addr) (kv : List (Key × V)) : Prop := ∃ dx sd, H g = some (.ins C dx [("_standing", .ref sd)]) ∧ H sd = some (.dK kv)
theorem Kp.keep {C g : Addr} {H H' : Hp} {kv : List (Key × V)} (h : Kp C H g kv) (s : Same H H') : Kp C H' g kv := let ⟨dx, sd, a, b⟩ := h; ⟨dx, sd, s _ _ a, s _ _ b⟩
theorem lk_st (v : V) : List.lookup ("_standing" : Str) [(("_standing" : Str), v)] = some v := by simp [List.lookup]
def gotV (kv : List (Key × V)) (t : Str) : V := (valV kv (.inr t)).getD .non
def spOf (K : PySem.W.Frag) (C : Addr) : Sp := fun vs H Q _ => ∃ (g : Addr) (x : V) (kv : List (Key × V)), vs = [.ref g, x] ∧ Kp C H g kv ∧
  ((∃ t, x = .str t ∧ Q (gotV kv t) H) ∨ ∃ ty, TyX K H x (.type ty) ∧ kitB ty "str" = some false ∧ Q .non H)
theorem ok_Keeping_of (T : Tex K mg D) : FnOk P w K mg base CX0 1 D.a_Keeping_standing_of D.d_Keeping_standing_of P_Keeping_standing_of (spOf K D.a_Keeping) := by
  refine T.Keeping_standing_of_F.ok S_Keeping_standing_of (fun vs H Q E h => ?_) (fun cdv A outer s H vs Q E hr h => ?_)
  · obtain ⟨g, x, kv, rfl, _⟩ := h
    rfl
  · obtain ⟨g, x, kv, rfl, ⟨dx, sd, hg, hs⟩, h⟩ := h
    have hu := hu_of hr
    refine ⟨_, (pss_cons (ps_if (pt_not (pt_val (pe_callB call_isi (by rfl) T.b_isinstance (by decide +kernel) (pa_cons (pv 1) (pa_cons (pe_bltn (v := .ty "str") (u := .type "str") (by rfl) T.b_str (by decide +kernel) rfl) pa_nil))))) (pss_one (ps_ret pe_non)) pss_nil)
      (pss_one (ps_ret (pe_dget1 hu (pe_fld (pv 0) rfl) (pv 1) ⟨by rfl, by rfl, by rfl, by rfl⟩)))), ?_⟩
    rcases h with ⟨t, rfl, q⟩ | ⟨ty, t1, t2, q⟩
    · refine ⟨_, rfl, .str t, .ty "str", .type "str", .type "str", true, rfl, .ty _, .base (.str t), kit_ty (by decide +kernel), true, rfl, iteF ?_⟩
      refine ⟨_, rfl, g, _, dx, _, _, rfl, hg, T.Keeping_cl, T.Keeping_n_standing, lk_st _, ?_⟩
      exact ⟨sd, rfl, .inl ⟨_, .inl hs⟩, _, rfl, _, DGet.k (k := .inr t) hs, q⟩
    · exact ⟨_, rfl, x, .ty "str", .type ty, .type "str", false, rfl, .ty _, t1, kit_ty t2, false, rfl, iteT q⟩
/-! ### Keeping made -/
def Wt.at_ : Wt → V
  | .pair _ _ v _ => .ref v
  | _ => .non
/-- is this name kept -/
def kept (fr : Option (List V)) (n : V) : Bool := match fr with
  | none => false
  | some fs => !inV n fs
def keepK (fr : Option (List V)) (xs : List Wt) : List (Key × V) := xs.foldl (fun ks x => if kept fr x.nm = true then putK ks x.key x.at_ else ks) []
theorem keepK_len (fr : Option (List V)) (xs : List Wt) : (keepK fr xs).length ≤ xs.length := by
  have : ∀ (xs : List Wt) (ks : List (Key × V)), (xs.foldl (fun ks x => if kept fr x.nm = true then putK ks x.key x.at_ else ks) ks).length ≤ ks.length + xs.length := by
    intro xs
    induction xs with
    | nil => intro ks; simp
    | cons x r ih =>
      intro ks
      rw [List.foldl_cons, List.length_cons]
      split
      · have h1 := ih (putK ks x.key x.at_)
        have h2 := putK_len x.key x.at_ ks
        omega
      · have h1 := ih ks
        omega
  have h := this xs []
  simpa [keepK] using h
theorem sqT_but {x a C dx : Addr} {fs : List (Str × V)} {xs : List V} {H H' : Hp} (b : But x H H') (hx : H x = some (.ins C dx fs)) (h : SqT K H a xs) : SqT K H' a xs := by
  rcases h with (h | ⟨o, h⟩) | h
  · exact .inl (.inl (b _ _ h (fun e => by subst e; rw [hx] at h; cases h)))
  · exact .inl (.inr ⟨o, b _ _ h (fun e => by subst e; rw [hx] at h; cases h)⟩)
  · exact .inr h
/-- what fresh is, if it is good -/
def FrOk (K : PySem.W.Frag) (H : Hp) (x : V) (fr : Option (List V)) : Prop := (x = .non ∧ fr = none) ∨ ∃ (a : Addr) (fs : List V), x = .ref a ∧ SqT K H a fs ∧ fs.length ≤ 50 ∧ (∀ y ∈ fs, Th K H y) ∧ fs.all goodName = true ∧ fr = some fs
def StBad (K : PySem.W.Frag) (C : Addr) (H : Hp) (x : V) : Prop := (∃ ty, TyX K H x (.type ty) ∧ kitB ty "tuple" = some false) ∨ ∃ (a : Addr) (xs : List Wt), x = .ref a ∧ SqT K H a (xs.map Wt.v) ∧ xs.length ≤ 50 ∧ (∀ y ∈ xs, y.ok K C H) ∧ stand xs = false
def FrBad (K : PySem.W.Frag) (H : Hp) (x : V) : Prop := (x ≠ .non ∧ ∃ ty, TyX K H x (.type ty) ∧ kitB ty "tuple" = some false) ∨ ∃ (a : Addr) (fs : List V), x = .ref a ∧ SqT K H a fs ∧ fs.length ≤ 50 ∧ (∀ y ∈ fs, Th K H y) ∧ fs.all goodName = false
def StOk (K : PySem.W.Frag) (C : Addr) (H : Hp) (x : V) (xs : List Wt) : Prop := ∃ a : Addr, x = .ref a ∧ SqT K H a (xs.map Wt.v) ∧ xs.length ≤ 50 ∧ (∀ y ∈ xs, y.ok K C H) ∧ stand xs = true
def spKInit (K : PySem.W.Frag) (G C B N : Addr) : Sp := fun vs H Q E => ∃ (x dx : Addr) (st fr : V), vs = [.ref x, st, fr] ∧ H x = some (.ins G dx []) ∧
  ((StBad K C H st ∧ ∀ d H1, Same H H1 → H1 d = some (.xd [("given", st)]) → E (.ref B) (some d) H1) ∨
   ((∃ xs, StOk K C H st xs) ∧ FrBad K H fr ∧ ∀ d H1, Same H H1 → H1 d = some (.xd [("given", fr)]) → E (.ref N) (some d) H1) ∨
   ∃ xs o, StOk K C H st xs ∧ FrOk K H fr o ∧ ∀ sd H1, But x H H1 → H sd = none → H1 x = some (.ins G dx [("_standing", .ref sd)]) → H1 sd = some (.dK (keepK o xs)) → Q .non H1)
theorem ok_Keeping_init (T : Tex K mg D) : FnOk P w K mg base (L2.CX P w) 6 D.a_Keeping_init D.d_Keeping_init P_Keeping_init (spKInit K D.a_Keeping D.a_Version D.a_BadVersion D.a_BadName) := by
  have G_BadVersion_init : FnOk P w K mg base CX0 1 D.a_BadVersion_init D.d_BadVersion_init P_BadVersion_init (spXI D.a_BadVersion "given") := ok_BadVersion_init T
  have G_BadName_init : FnOk P w K mg base CX0 1 D.a_BadName_init D.d_BadName_init P_BadName_init (spXI D.a_BadName "given") := ok_BadName_init T
  have G_is_standing : FnOk P w K mg base CX0 4 D.a_is_standing D.d_is_standing P_is_standing (spStand K D.a_Version) := ok_is_standing T
  have G_is_fresh : FnOk P w K mg base CX0 4 D.a_is_fresh D.d_is_fresh P_is_fresh (spFresh K) := ok_is_fresh T
  refine T.Keeping_init_F.ok S_Keeping_init (fun vs H Q E h => ?_) (fun cdv A outer s H vs Q E hr h => ?_)
  · obtain ⟨x, dx, st, fr, rfl, _⟩ := h
    rfl
  · obtain ⟨x, dx, st, fr, rfl, hx, h⟩ := h
    have hu := hu_of hr
    refine ⟨_, (pss_cons (ps_if (pt_not (pt_val (pe_call G_is_standing (hr.mono (by decide)) (by rfl) T.is_standing_g T.is_standing_F.kp T.is_standing_b .nil pass0 (pa_cons (pv 1) pa_nil)))) (pss_one (ps_raise rfl (takes_of rfl rfl rfl rfl) (pmk_oex T.BadVersion_xa.o T.BadVersion_xi T.BadVersion_xt G_BadVersion_init (hr.mono (by decide)) T.BadVersion_init_b .nil pass0 rfl T.BadVersion_g (pa_cons (pv 1) pa_nil)))) pss_nil)
      (pss_cons (ps_if (pt_not (pt_val (pe_call G_is_fresh (hr.mono (by decide)) (by rfl) T.is_fresh_g T.is_fresh_F.kp T.is_fresh_b .nil pass0 (pa_cons (pv 2) pa_nil)))) (pss_one (ps_raise rfl (takes_of rfl rfl rfl rfl) (pmk_oex T.BadName_xa.o T.BadName_xi T.BadName_xt G_BadName_init (hr.mono (by decide)) T.BadName_init_b .nil pass0 rfl T.BadName_g (pa_cons (pv 2) pa_nil)))) pss_nil)
      (pss_cons (ps_fld (pv 0) pe_dnewK rfl)
      (pss_one (ps_for (passes_of rfl) rfl (pi_tup (pv 1)) (pg_tup (by rfl) (pgs_cons (pg_name (i := 3) S_Keeping_init.nd rfl (Or.inl rfl)) (pgs_cons (pg_name (i := 4) S_Keeping_init.nd rfl (Or.inl rfl)) pgs_nil))) (pss_one (ps_if (PW.pt (pw_and (pt_cmpR op_notN (pv 2) pe_non (nomark _)) (pw_and1 (pt_cmpR op_notIn_seq (pv 3) (pv 2) rfl)))) (pss_one (ps_dput hu (pe_fld (pv 0) rfl) (pv 3) (pv 4) rfl)) pss_nil))))))), ?_⟩
    rcases h with ⟨hb, q⟩ | ⟨⟨xs, ho⟩, hb, q⟩ | ⟨xs, o, hst, hfr, q⟩
    · refine ⟨_, rfl, st, false, rfl, hb.elim (fun z => .inl ⟨rfl, z⟩) (fun ⟨a, xs, h1, h2, h3, h4, h5⟩ => .inr ⟨a, xs, h1, h2, h3, h4, h5.symm⟩), fun H1 s1 => ⟨_, rfl, iteT ?_⟩⟩
      refine ⟨_, rfl, by show (1 : Nat) ≤ 1000; decide, fun e he => ⟨e, _, rfl, upd_same, fun dx hd hne => ⟨rfl, dx, _, upd_same, by rw [upd_ne hne, upd_same], ?_, ?_⟩⟩⟩
      · rw [upd_ne hne] at hd
        exact hd
      · exact q dx _ (s1.trans (raise_same he hd)) upd_same
    · obtain ⟨a, h1, h2, h3, h4, h5⟩ := ho
      refine ⟨_, rfl, st, true, rfl, .inr ⟨a, xs, h1, h2, h3, h4, h5.symm⟩, fun H1 s1 => ⟨_, rfl, iteF ?_⟩⟩
      refine ⟨_, rfl, fr, false, rfl, hb.elim (fun z => .inr (.inl ⟨rfl, z.1, z.2.imp fun ty h => ⟨tyx_keep h.1 s1, h.2⟩⟩)) (fun ⟨b, fs, k1, k2, k3, k4, k5⟩ => .inr (.inr ⟨b, fs, k1, sqT_keep s1 k2, k3, fun y hy => (k4 y hy).keep s1, k5.symm⟩)), fun H2 s2 => ⟨_, rfl, iteT ?_⟩⟩
      refine ⟨_, rfl, by show (1 : Nat) ≤ 1000; decide, fun e he => ⟨e, _, rfl, upd_same, fun dx hd hne => ⟨rfl, dx, _, upd_same, by rw [upd_ne hne, upd_same], ?_, ?_⟩⟩⟩
      · rw [upd_ne hne] at hd
        exact hd
      · exact q dx _ ((s1.trans s2).trans (raise_same he hd)) upd_same
    · obtain ⟨a, rfl, h2, h3, h4, h5⟩ := hst
      have hfr' : ∀ H', Same H H' → FrOk K H' fr o := fun H' s => hfr.imp id fun ⟨b, fs, k1, k2, k3, k4, k5, k6⟩ => ⟨b, fs, k1, sqT_keep s k2, k3, fun y hy => (k4 y hy).keep s, k5, k6⟩
      refine ⟨_, rfl, .ref a, true, rfl, .inr ⟨a, xs, rfl, h2, h3, h4, h5.symm⟩, fun H1 s1 => ⟨_, rfl, iteF ?_⟩⟩
      refine ⟨_, rfl, fr, true, rfl, (hfr' H1 s1).elim (fun z => .inl ⟨z.1, rfl⟩) (fun ⟨b, fs, k1, k2, k3, k4, k5, _⟩ => .inr (.inr ⟨b, fs, k1, k2, k3, k4, k5.symm⟩)), fun H2 s2 => ⟨_, rfl, iteF ?_⟩⟩
      have hst2 : xs.all Wt.is2 = true ∧ xs.all Wt.gd = true := by
        simp only [stand, Bool.and_eq_true] at h5
        exact ⟨h5.1, h5.2.1⟩
      refine fun sd hsd => ⟨_, rfl, x, _, dx, [], rfl, (same_new hsd) _ _ (s2 _ _ (s1 _ _ hx)), T.Keeping_cl, T.Keeping_n_standing, by decide, ?_⟩
      have hsdH : H sd = none := (s1.trans s2).free hsd
      have nxs : x ≠ sd := ne_of_none hx hsdH
      have b0 : But x H (upd (upd H2 sd (.dK [])) x (.ins D.a_Keeping dx (putF "_standing" (.ref sd) []))) := fun b o e n => by
        rw [upd_ne n]
        exact ((s1.trans s2).trans (same_new hsd)) _ _ e
      have x0 : (upd (upd H2 sd (.dK [])) x (.ins D.a_Keeping dx (putF "_standing" (.ref sd) []))) x = some (.ins D.a_Keeping dx [("_standing", .ref sd)]) := upd_same
      have d0 : (upd (upd H2 sd (.dK [])) x (.ins D.a_Keeping dx (putF "_standing" (.ref sd) []))) sd = some (.dK (keepK o (xs.take 0))) := by
        rw [upd_ne nxs.symm, upd_same]
        rfl
      revert b0 x0 d0
      generalize upd (upd H2 sd (.dK [])) x (.ins D.a_Keeping dx (putF "_standing" (.ref sd) [])) = H3
      intro b0 x0 d0
      refine ⟨_, rfl, a, rfl, ⟨_, sqT_but b0 hx h2⟩, for_tup (K := K) (xs := xs.map Wt.v) (fun i σ H' => But x H H' ∧ H' x = some (.ins D.a_Keeping dx [("_standing", .ref sd)]) ∧ H' sd = some (.dK (keepK o (xs.take i))) ∧ ∃ u v, σ = [some (.ref x), some (.ref a), some fr, u, v]) ⟨b0, x0, d0, _, _, rfl⟩ (fun i σ H' _ h => sqT_but h.1 hx h2) ?_ ?_⟩
      · rintro i y σ H' hi ⟨b1, x1, d1, u, v, rfl⟩
        rw [List.getElem?_map] at hi
        obtain ⟨z, hz, rfl⟩ := Option.map_eq_some_iff.mp hi
        have hzm := List.mem_of_getElem? hz
        have hz1 := h4 z hzm
        have hz2 := List.all_eq_true.mp hst2.2 z hzm
        cases z with
        | none v => exact absurd hz2 (by simp [Wt.gd])
        | odd p n v => exact absurd hz2 (by simp [Wt.gd])
        | pair p n w r =>
          obtain ⟨t, rfl⟩ := name_text (show goodName n = true from hz2)
          refine ⟨p, _, rfl, sqT_but b1 hx hz1.1, rfl, _, _, rfl, _, _, rfl, rfl, ?_⟩
          have stay : kept o (.str t) = false → keepK o (xs.take (i + 1)) = keepK o (xs.take i) := fun hk => by
            rw [one_more hz]
            unfold keepK
            rw [List.foldl_append]
            show (if kept o (.str t) = true then _ else _) = _
            rw [hk]
            rfl
          have grow : kept o (.str t) = true → keepK o (xs.take (i + 1)) = putK (keepK o (xs.take i)) (.inr t) (.ref w) := fun hk => by
            rw [one_more hz]
            unfold keepK
            rw [List.foldl_append]
            show (if kept o (.str t) = true then _ else _) = _
            rw [hk]
            rfl
          have klen : (keepK o (xs.take i)).length < sizeLine := szt (Nat.le_trans (keepK_len o _) (by rw [List.length_take]; omega))
          rcases hfr with ⟨rfl, rfl⟩ | ⟨b, fs, rfl, k1, k2, k3, k4, rfl⟩
          · refine ⟨_, rfl, rfl, _, rfl, iteF (iteF ⟨b1, x1, ?_, _, _, rfl⟩)⟩
            rw [stay rfl]
            exact d1
          · have hfl : fs.all flatV = true := List.all_eq_true.mpr fun y hy => by
              obtain ⟨t', rfl⟩ := name_text (List.all_eq_true.mp k4 y hy)
              rfl
            refine ⟨_, rfl, rfl, _, rfl, ?_⟩
            rw [decide_eq_false (show V.ref b ≠ V.non from fun e => nomatch e)]
            refine iteT ⟨_, rfl, _, rfl, b, fs, rfl, .inr (sqT_but b1 hx k1), rfl, hfl, _, rfl, ?_⟩
            refine ite2 (fun hk => ?_) (fun hk => ?_)
            · refine ⟨_, rfl, _, rfl, x, _, dx, _, _, rfl, x1, T.Keeping_cl, T.Keeping_n_standing, lk_st _, _, rfl, sd, _, rfl, DPut.k (k := .inr t) d1 klen, ?_⟩
              refine ⟨fun c e hc n => ?_, by rw [upd_ne nxs]; exact x1, by rw [upd_same, grow hk], _, _, rfl⟩
              rw [upd_ne (ne_of_none hc hsdH)]
              exact b1 c e hc n
            · refine ⟨b1, x1, ?_, _, _, rfl⟩
              rw [stay (Bool.eq_false_iff.mpr hk)]
              exact d1
      · rintro σ H' ⟨b1, x1, d1, u, v, rfl⟩
        rw [List.length_map, List.take_length] at d1
        exact q sd H' b1 hsdH x1 d1
/-! ### Keeping called -/
/-- what stands under a name: nothing, or a version -/
def StV (C : Addr) (H : Hp) (x : V) (o : Option Nat) : Prop := (x = .non ∧ o = none) ∨ ∃ v r, x = .ref v ∧ Ver C H v r ∧ o = some r
def isO (o : Option Nat) (r : Nat) : Bool := o == some r
theorem ver_tyx (T : Tex K mg D) {H : Hp} {v : Addr} {r : Nat} (h : Ver D.a_Version H v r) : TyX K H (.ref v) (.ref D.a_Version) := let ⟨_, h⟩ := h; .base (.ins h T.Version_cl T.Version_si.ca T.Version_si.cn T.Version_si.ct T.Version_si.cm)
/-- a version asked against what stands -/
theorem ask_st (T : Tex K mg D) {H : Hp} {x : V} {o : Option Nat} {w : Addr} {r : Nat} {Q : VK} {E : XK} (hs : StV D.a_Version H x o) (hw : Ver D.a_Version H w r) (q : Q (.bl (isO o r)) H) :
    ∃ t, TyX K H x t ∧ PySem.W.notFirst K D.a_Version t = true ∧ spEq K D.a_Version [.ref w, x] H Q E := by
  rcases hs with ⟨rfl, rfl⟩ | ⟨v, r', rfl, hv, rfl⟩
  · have hk := kit_not T.Version_cl T.Version_rd (T := "NoneType")
    exact ⟨_, .base .non, hk.2, w, r, .non, rfl, hw, .inr ⟨_, .base .non, hk.1, q⟩⟩
  · refine ⟨_, ver_tyx T hv, T.Version_nf, w, r, _, rfl, hw, .inl ⟨v, r', rfl, hv, ?_⟩⟩
    have e : decide (r = r') = isO (some r') r := by
      unfold isO
      rw [Bool.eq_iff_iff, decide_eq_true_eq, beq_iff_eq]
      exact ⟨fun e => by rw [e], fun e => (Option.some.inj e).symm⟩
    rw [e]
    exact q
def spKeeps (K : PySem.W.Frag) (G C : Addr) : Sp := fun vs H Q _ => ∃ (g : Addr) (t : Str) (a : Addr) (ps : Vs) (kv : List (Key × V)) (o : Option Nat), vs = [.ref g, .str t, .ref a] ∧ Kp G H g kv ∧ StV C H (gotV kv t) o ∧ SqT K H a (ps.map vR) ∧ ps.length ≤ 40 ∧ VL C H ps ∧
  ∀ (p : Addr) (qs : Vs) (rest : List Nat) (H' : Hp), Same H H' → SqT K H' p (qs.map vR) → VL C H' qs → Ordered true rest ((ps.map (·.2)).filter fun r => !isO o r) → qs.map (·.2) = (ps.map (·.2)).filter (isO o) ++ rest → Q (.ref p) H'
theorem ok_Keeping_call (T : Tex K mg D) : FnOk P w K mg base CX0 4 D.a_Keeping_call D.d_Keeping_call P_Keeping_call (spKeeps K D.a_Keeping D.a_Version) := by
  have G_by_rank : FnOk P w K mg base CX0 3 D.a_by_rank D.d_by_rank P_by_rank (spByRank K D.a_Version) := ok_by_rank T
  have G_Version_eq : FnOk P w K mg base CX0 1 D.a_Version_eq D.d_Version_eq P_Version_eq (spEq K D.a_Version) := ok_Version_eq T
  have G_Keeping_standing_of : FnOk P w K mg base CX0 1 D.a_Keeping_standing_of D.d_Keeping_standing_of P_Keeping_standing_of (spOf K D.a_Keeping) := ok_Keeping_of T
  refine T.Keeping_call_F.ok S_Keeping_call (fun vs H Q E h => ?_) (fun cdv A outer s H vs Q E hr h => ?_)
  · obtain ⟨g, t, a, ps, kv, o, rfl, _⟩ := h
    rfl
  · obtain ⟨g, t, a, ps, kv, o, rfl, hg, hst, ha, hl, hv, q⟩ := h
    obtain ⟨dg, sd, hg1, hg2⟩ := id hg
    refine ⟨_, (pss_cons (ps_set (i := 3) S_Keeping_call.nd rfl (Or.inr rfl) (pe_meth (pv 0) T.Keeping_cl ⟨T.Keeping_standing_of_at, T.Keeping_standing_of_fn, T.Keeping_standing_of_F.kp⟩ G_Keeping_standing_of (hr.mono (by decide)) T.Keeping_standing_of_b .nil pass0 (pa_cons (pv 1) pa_nil)))
      (pss_cons (ps_set (i := 4) S_Keeping_call.nd rfl (Or.inl rfl) (pe_callTy call_tuple_of (by rfl) T.b_tuple (by decide +kernel) (pa_cons (pe_lc (own := [(("version" : Str), 5)]) (g := gName 5) rfl S_Keeping_call.nd (pi_tup (pv 2)) (blkOk_by (N := N_Keeping_call) (sc := defScope s_Keeping_call) (by decide +kernel)) (fun _ _ _ _ _ => pg_name (i := 5) S_Keeping_call.nd rfl (Or.inl rfl)) (fun _ _ _ _ _ => (pts_one (pt_cmpR (op_ownAK (KK := K) rfl (fun _ _ => rfl) T.Version_eq_at T.Version_eq_fn (G_Version_eq.raw T.Version_eq_b .nil) (hr.mono (by decide)) pass0) (pv 5) (pv 3) (nomark _)))) (fun _ _ _ _ _ => (pv 5))) pa_nil)))
      (pss_one (ps_ret (pe_op op_catA (pv 4) (pe_call G_by_rank (hr.mono (by decide)) (by rfl) T.by_rank_g T.by_rank_F.kp T.by_rank_b .nil pass0 (pa_cons (pe_lc (own := [(("version" : Str), 5)]) (g := gName 5) rfl S_Keeping_call.nd (pi_tup (pv 2)) (blkOk_by (N := N_Keeping_call) (sc := defScope s_Keeping_call) (by decide +kernel)) (fun _ _ _ _ _ => pg_name (i := 5) S_Keeping_call.nd rfl (Or.inl rfl)) (fun _ _ _ _ _ => (pts_one (pt_cmpR (op_neOwnA (KK := K) rfl T.Version_ne_b T.Version_si.cm T.Version_eq_at T.Version_eq_fn (G_Version_eq.raw T.Version_eq_b .nil) (hr.mono (by decide)) pass0) (pv 5) (pv 3) (nomark _)))) (fun _ _ _ _ _ => (pv 5))) (pa_cons pe_bl pa_nil)))))))), ?_⟩
    refine ⟨_, rfl, g, dg, _, rfl, hg1, rfl, _, rfl, g, .str t, kv, rfl, hg, .inl ⟨t, rfl, ?_⟩⟩
    have hst' : ∀ H', Same H H' → StV D.a_Version H' (gotV kv t) o := fun H' s => hst.imp id fun ⟨v, r, e, h, e2⟩ => ⟨v, r, e, h.keep s, e2⟩
    refine ⟨_, rfl, a, rfl, ⟨_, ha⟩, fun LL hLL => lc_tpl ps vR (fun p => isO o p.2) vR hLL (szt (by omega)) ha (fun x hx H2 R S s2 k1 k2 => ?_) (fun H2 s2 hL => ?_)⟩
    · obtain ⟨dx, hw⟩ := (hv x hx).keep s2
      refine ⟨rfl, (ask_st T (hst' H2 s2) ⟨dx, hw⟩ ?_).elim fun ty h => ⟨_, rfl, _, rfl, x.1, dx, _, ty, rfl, hw, h⟩⟩
      by_cases e : isO o x.2 = true
      · rw [e]
        exact ⟨true, rfl, iteT ⟨_, rfl, k1 e H2 (Same.refl _)⟩⟩
      · rw [Bool.eq_false_iff.mpr e]
        exact ⟨false, rfl, iteF (k2 (Bool.eq_false_iff.mpr e) H2 (Same.refl _))⟩
    · have hk : H2 LL = some (.lst ((ps.filter fun p => isO o p.2).map vR)) := hL
      have tail : ∀ (c : Addr) (H3 : Hp), Same H H3 → SqT K H3 c ((ps.filter fun p => isO o p.2).map vR) →
          tRet (tOp (rCatA K) (tVar 4) (tCall (spByRank K D.a_Version) [] E0 (tCons (tLc (iTup K (tVar 2)) (gName 5) (tTest (tOp (rNeOwnA K D.a_Version (fun vs H Q E => spEq K D.a_Version (vs ++ []) H Q E) E0) (tVar 5) (tVar 3))) (tVar 5) [5]) (tCons (tC (.bl true)) tNil))))
            { nx := fun _ H' => Q .non H', rt := Q } [some (.ref g), some (.str t), some (.ref a), some (gotV kv t), some (.ref c), none] H3 := by
        intro c H3 s3 hc
        refine ⟨_, rfl, _, rfl, a, rfl, ⟨_, sqT_keep s3 ha⟩, fun MM hMM => lc_tpl ps vR (fun p => !isO o p.2) vR hMM (szt (by omega)) (sqT_keep s3 ha) (fun x hx H4 R S s4 k1 k2 => ?_) (fun H4 s4 hM => ?_)⟩
        · obtain ⟨dx, hw⟩ := (hv x hx).keep (s3.trans s4)
          refine ⟨rfl, (ask_st T (hst' H4 (s3.trans s4)) ⟨dx, hw⟩ ?_).elim fun ty h => ⟨_, rfl, _, rfl, x.1, dx, _, ty, rfl, hw, h⟩⟩
          refine ⟨_, rfl, ?_⟩
          by_cases e : isO o x.2 = true
          · rw [e] at k2 ⊢
            exact ⟨false, rfl, iteF (k2 rfl H4 (Same.refl _))⟩
          · rw [Bool.eq_false_iff.mpr e] at k1 ⊢
            exact ⟨true, rfl, iteT ⟨_, rfl, k1 rfl H4 (Same.refl _)⟩⟩
        · have hlen : (ps.filter fun p => !isO o p.2).length ≤ 40 := Nat.le_trans (List.length_filter_le _ _) hl
          refine ⟨MM, ps.filter fun p => !isO o p.2, true, rfl, .inr (SqL.of hM), hlen, fun x hx => (hv x (List.mem_filter.mp hx).1).keep (s3.trans s4), fun p qs H5 s5 hp hp5 hv5 hord => ?_⟩
          have er : ((ps.filter fun p => !isO o p.2).map (·.2)) = (ps.map (·.2)).filter fun r => !isO o r := by
            rw [List.filter_map]
            rfl
          have ek : ((ps.filter fun p => isO o p.2).map (·.2)) = (ps.map (·.2)).filter (isO o) := by
            rw [List.filter_map]
            rfl
          rw [er] at hord
          have hc5 := sqT_keep (s4.trans s5) hc
          have hq5 : SqT K H5 p (qs.map vR) := sqT_of hp5
          have vl : ∀ H', Same H5 H' → VL D.a_Version H' ((ps.filter fun p => isO o p.2) ++ qs) := fun H' s' x hx => by
            rcases List.mem_append.mp hx with h | h
            · exact (hv x (List.mem_filter.mp h).1).keep (((s3.trans s4).trans s5).trans s')
            · exact (hv5 x h).keep s'
          have all : ((ps.filter fun p => isO o p.2) ++ qs).map (·.2) = (ps.map (·.2)).filter (isO o) ++ qs.map (·.2) := by rw [List.map_append, ek]
          have hlq : qs.length ≤ 40 := by
            obtain ⟨up, u1, _, u3⟩ := hord
            have h1 := congrArg List.length u3
            have h2 := u1.length_eq
            have h3 := List.length_filter_le (fun r => !isO o r) (ps.map (·.2))
            simp only [if_true, List.length_map, List.length_reverse] at h1 h2 h3
            omega
          have hlk : (ps.filter fun p => isO o p.2).length ≤ 40 := Nat.le_trans (List.length_filter_le _ _) hl
          refine ⟨c, p, _, _, rfl, rfl, hc5, hq5, szl (by rw [List.length_map, List.length_map]; omega), fun e => ?_, fun e1 e2 => ?_, fun e1 e2 z hz => ?_⟩
          · have e' : (ps.filter fun p => isO o p.2) = [] := List.map_eq_nil_iff.mp e
            have a1 := all
            have v1 := vl H5 (Same.refl _)
            rw [e', List.nil_append] at a1 v1
            exact q p qs _ H5 ((s3.trans s4).trans s5) hq5 v1 hord a1
          · have e' : qs = [] := List.map_eq_nil_iff.mp e2
            subst e'
            exact q c _ [] H5 ((s3.trans s4).trans s5) hc5 (fun x hx => vl H5 (Same.refl _) x (List.mem_append_left _ hx)) hord (by rw [ek, List.append_nil])
          · exact q z _ (qs.map (·.2)) _ (((s3.trans s4).trans s5).trans (same_new hz)) (sqT_of (by rw [upd_same, ← List.map_append])) (vl _ (same_new hz)) hord all
      exact ⟨LL, _, rfl, .inl ⟨SqL.of hk, fun c hc => tail c _ (s2.trans (same_new hc)) (sqT_of upd_same)⟩⟩
end

/-! ## Comprehensions whose elements are new objects -/
section
theorem lc_grow {α β : Type} {J : It} {n : Nat} {G : Hp → Prop} {Y : Nat → Hp → V → Hp → Prop} (w : Walk J n G Y) (xs : List α) (emb : α → V) (hn : n = xs.length)
    (hY : ∀ i H x H', Y i H x H' → H' = H ∧ ∃ a, xs[i]? = some a ∧ x = emb a)
    {g : TG} {tt : TT} {te : TE} {vs : List Nat} {σ : L2.St} {H1 : Hp} {D : Addr} {Qd : Hp → Prop} (f : α → Option β) (Pr : Hp → V → β → Prop) (hPr : ∀ H H' v b l, H D = some (.lst l) → But D H H' → Pr H v b → Pr H' v b) (hD : H1 D = none) (hz : n < sizeLine) (hG : ∀ H, Same H1 H → G H)
    (hs : ∀ a, a ∈ xs → ∀ (H : Hp) (R : VK) (S : Hp → Prop), Same H1 H → (∀ v b H', f a = some b → Same H H' → Pr H' v b → R v H') → (f a = none → ∀ H', Same H H' → S H') →
      g (emb a) (wipe σ vs) H fun σ2 H2 => wipe σ2 vs = wipe σ vs ∧ tt σ2 H2 fun b H3 => if b = true then te σ2 H3 R else S H3)
    (hd : ∀ H (acc : List (V × β)), Same H1 H → acc.map (·.2) = xs.filterMap f → (∀ q ∈ acc, Pr H q.1 q.2) → H D = some (.lst (acc.map (·.1))) → Qd H) :
    ∃ W : Nat → Nat → Hp → Prop, (∃ m, W 0 m (upd H1 D (.lst []))) ∧ ∀ i m H, W i m H →
      (J.stop i H ∧ Qd H) ∨ (J.go i H ∧ ∃ Nx : Hp → Prop, (∀ H', Nx H' → ∃ m', m' < m ∧ W (i + 1) m' H') ∧
        ∀ x H', J.yld i H x H' → g x (wipe σ vs) H' fun σ2 H2 => wipe σ2 vs = wipe σ vs ∧ tt σ2 H2 fun b H3 =>
          if b = true then te σ2 H3 fun y H4 => ∃ acc, H4 D = some (.lst acc) ∧ acc.length < sizeLine ∧ Nx (upd H4 D (.lst (acc ++ [y]))) else Nx H3) := by
  refine lc_it w (fun i H => Same H1 H ∧ ∃ acc : List (V × β), acc.map (·.2) = (xs.take i).filterMap f ∧ (∀ q ∈ acc, Pr H q.1 q.2) ∧ H D = some (.lst (acc.map (·.1)))) ⟨same_new hD, [], rfl, (fun q hq => by cases hq), by rw [upd_same]; rfl⟩ (fun i H _ h => hG H h.1) ?_ ?_
  · rintro i x H H' hi ⟨s, acc, ha, hp, hl⟩ y
    obtain ⟨rfl, a, hx, rfl⟩ := hY _ _ _ _ y
    have hlen : (acc.map (·.1)).length < sizeLine := by
      have e := congrArg List.length ha
      rw [List.length_map] at e
      rw [List.length_map, e]
      refine Nat.lt_of_le_of_lt ?_ hz
      refine Nat.le_trans (List.length_filterMap_le _ _) ?_
      rw [List.length_take]
      omega
    refine hs a (List.mem_of_getElem? hx) H' _ _ s (fun v b H4 hf s4 hv => ?_) (fun hf H4 s4 => ?_)
    · have hl4 := s4 _ _ hl
      have bt : But D H4 (upd H4 D (.lst (acc.map (·.1) ++ [v]))) := But.upd
      refine ⟨_, hl4, hlen, same_upd (s.trans s4) hD, acc ++ [(v, b)], ?_, fun q hq => ?_, ?_⟩
      · rw [one_more hx, List.filterMap_append, List.map_append, ha]
        simp [hf]
      · rcases List.mem_append.mp hq with h | h
        · exact hPr _ _ _ _ _ hl4 bt (hPr _ _ _ _ _ hl (But.of_same s4) (hp q h))
        · rw [List.mem_singleton.mp h]
          exact hPr _ _ _ _ _ hl4 bt hv
      · rw [upd_same, List.map_append] <;> rfl
    · refine ⟨s.trans s4, acc, ?_, fun q hq => hPr _ _ _ _ _ hl (But.of_same s4) (hp q hq), s4 _ _ hl⟩
      rw [one_more hx, List.filterMap_append, ha]
      simp [hf]
  · rintro H ⟨s, acc, ha, hp, hl⟩
    refine hd H acc s ?_ hp hl
    rw [ha, hn, List.take_length]
end

/-! ## Tastes: the law's keys -/
namespace KX
open PySem PySem.Spec PyProof.Rows L2
theorem op_inDK {X : Cx} {KK : PySem.W.Frag} (hK : X.K = KK) (hu : X.A.units + 65 < cLine) : OpR X (compareOp .In) (L2.rInD KK) := by
  subst hK
  exact L2.op_inD hu
theorem op_notInDK {X : Cx} {KK : PySem.W.Frag} (hK : X.K = KK) (hu : X.A.units + 65 < cLine) : OpR X (compareOp .NotIn) (L2.rNotInD KK) := by
  subst hK
  exact L2.op_notInD hu
end KX
section
variable {P : Program} {w : World} {K : PySem.W.Frag} {mg : Str → Option Value} {base : Heap} {D : Ad}
open TL SX KX
abbrev Kk := Nat × Nat
/-- keys, each with its tuple -/
abbrev Ks := List (Addr × Kk)
def kA (z : Addr × Kk) : V := .ref z.1
def kV2 (k : Kk) : List V := [.int (k.1 : Int), .int (k.2 : Int)]
def KsOk (K : PySem.W.Frag) (H : Hp) (zs : Ks) : Prop := ∀ z ∈ zs, SqT K H z.1 (kV2 z.2)
theorem KsOk.keep {H H' : Hp} {zs : Ks} (h : KsOk K H zs) (s : Same H H') : KsOk K H' zs := fun z hz => sqT_keep s (h z hz)
theorem sqT_bd {d p : Addr} {H H' : Hp} {xs : List V} (b : But d H H') (hd : ∃ o, H d = some (.dK o)) (h : SqT K H p xs) : SqT K H' p xs := by
  obtain ⟨o', hd⟩ := hd
  rcases h with (h | ⟨o, h⟩) | h
  · exact .inl (.inl (b _ _ h (fun e => by subst e; rw [hd] at h; cases h)))
  · exact .inl (.inr ⟨o, b _ _ h (fun e => by subst e; rw [hd] at h; cases h)⟩)
  · exact .inr h
theorem sqT_bl {l p : Addr} {H H' : Hp} {xs ys : List V} (b : But l H H') (hl : H l = some (.lst ys)) (h : SqT K H p xs) : SqT K H' p xs := by
  rcases h with (h | ⟨o, h⟩) | h
  · exact .inl (.inl (b _ _ h (fun e => by subst e; rw [hl] at h; cases h)))
  · exact .inl (.inr ⟨o, b _ _ h (fun e => by subst e; rw [hl] at h; cases h)⟩)
  · exact .inr h
theorem KsOk.bd {d : Addr} {H H' : Hp} {zs : Ks} (h : KsOk K H zs) (b : But d H H') (hd : ∃ o, H d = some (.dK o)) : KsOk K H' zs := fun z hz => sqT_bd b hd (h z hz)
/-- as data -/
def kD (k : Kk) : PyData := .tuple [.int (k.1 : Int), .int (k.2 : Int)]
theorem kD_dp {H : Hp} {p : Addr} {k : Kk} (h : SqT K H p (kV2 k)) : Dp K H (.ref p) (kD k) := .tup h (.cons (.int _) (.cons (.int _) .nil))
theorem ks_dp {H : Hp} : ∀ {zs : Ks}, KsOk K H zs → DpAll K H (zs.map kA) (zs.map fun z => kD z.2)
  | [], _ => .nil
  | z :: r, h => .cons (kD_dp (h z List.mem_cons_self)) (ks_dp fun y hy => h y (List.mem_cons_of_mem _ hy))
theorem kD_eqv (a b : Kk) : PyData.eqv (kD a) (kD b) = decide (a = b) := by
  obtain ⟨a1, a2⟩ := a
  obtain ⟨b1, b2⟩ := b
  rw [Bool.eq_iff_iff, decide_eq_true_eq]
  simp [kD, PyData.eqv, PyData.eqvAll, Prod.ext_iff]
  omega
theorem kD_shaped (k : Kk) : SeqAt.shaped (kD k) = true := by
  simp [kD, SeqAt.shaped, PyData.canLay0, PyData.canLayAll0, PyData.depth, PyData.depthAll]
theorem ks_shaped (ks : List Kk) : SeqAt.shaped (.list (ks.map kD)) = true := by
  have l : ∀ ks : List Kk, PyData.canLayAll0 (ks.map kD) = true := by
    intro ks
    induction ks with
    | nil => rfl
    | cons k r ih => simp [PyData.canLayAll0, ih, show PyData.canLay0 (kD k) = true from by simp [kD, PyData.canLay0, PyData.canLayAll0]]
  have d : ∀ ks : List Kk, PyData.depthAll (ks.map kD) ≤ 1 := by
    intro ks
    induction ks with
    | nil => exact Nat.zero_le _
    | cons k r ih =>
      have e : PyData.depth (kD k) ≤ 1 := by simp [kD, PyData.depth, PyData.depthAll]
      simp only [List.map_cons, PyData.depthAll]
      omega
  have h1 := d ks
  unfold SeqAt.shaped
  have e : PyData.canLay0 (.list (ks.map kD)) = true := by
    simp only [PyData.canLay0]
    exact l ks
  have h2 : PyData.depth (.list (ks.map kD)) ≤ 64 := by
    simp only [PyData.depth]
    omega
  rw [e, decide_eq_true h2]
  rfl
theorem ks_any (zs : Ks) (k : Kk) : ((zs.map fun z => kD z.2).any fun z => PyData.eqv z (kD k)) = decide (k ∈ zs.map (·.2)) := by
  rw [Bool.eq_iff_iff, decide_eq_true_eq, List.any_map, List.any_eq_true, List.mem_map]
  constructor
  · rintro ⟨z, hz, e⟩
    exact ⟨z, hz, of_decide_eq_true ((kD_eqv _ _).symm.trans e)⟩
  · rintro ⟨z, hz, e⟩
    exact ⟨z, hz, (kD_eqv _ _).trans (decide_eq_true e)⟩
end

/-! ## Tastes: keys drawn, versions made, keys ranked -/
section
variable {P : Program} {w : World} {K : PySem.W.Frag} {mg : Str → Option Value} {base : Heap} {D : Ad}
open TL SX KX
def spVers (K : PySem.W.Frag) : Sp := fun vs H Q _ => ∃ (d c : Addr) (n : Nat), vs = [.ref d] ∧ Dr H d c n ∧ n ≤ 10 ^ 10 ∧ ∀ (l : Addr) (zs : Ks) (H' : Hp), But d H H' → Dr H' d c (n + 20) → H l = none → H' l = some (.lst (zs.map kA)) → KsOk K H' zs →
  (∀ z ∈ zs, Sm4 z.2) → (zs.map (·.2)).Nodup → zs.length ≤ 6 → Q (.ref l) H'
theorem ok_versions (T : Tex K mg D) : FnOk P w K mg base CX0 3 D.a_versions D.d_versions P_versions (spVers K) := by
  have G_next : FnOk P w K mg base CX0 2 D.a_next D.d_next P_next spNext := ok_next T
  refine T.versions_F.ok S_versions (fun vs H Q E h => ?_) (fun cdv A outer s H vs Q E hr h => ?_)
  · obtain ⟨d, c, n, rfl, _⟩ := h
    rfl
  · obtain ⟨d, c, n, rfl, hd, hn, q⟩ := h
    refine ⟨_, (pss_cons (ps_set (i := 1) S_versions.nd rfl (Or.inl rfl) (pe_lst pa_nil))
      (pss_cons (ps_for PassesOwn.never rfl (pi_range1 rfl T.b_range (pa_cons (pe_call G_next (hr.mono (by decide)) (by rfl) T.next_g T.next_F.kp T.next_b .nil pass0 (pa_cons (pv 0) (pa_cons pe_int pa_nil))) pa_nil)) (pg_name (i := 2) S_versions.nd rfl (Or.inl rfl)) (pss_cons (ps_set (i := 3) S_versions.nd rfl (Or.inl rfl) (pe_tup (pa_cons (pe_call G_next (hr.mono (by decide)) (by rfl) T.next_g T.next_F.kp T.next_b .nil pass0 (pa_cons (pv 0) (pa_cons pe_int pa_nil))) (pa_cons (pe_call G_next (hr.mono (by decide)) (by rfl) T.next_g T.next_F.kp T.next_b .nil pass0 (pa_cons (pv 0) (pa_cons pe_int pa_nil))) pa_nil))))
      (pss_one (ps_if (pt_cmpR (L2.op_notInD (units65 hr)) (pv 3) (pv 1) rfl) (pss_one (ps_expr (pe_bm PySem.F.plainAttrs_list PySem.F.slot_list_append PySem.F.type_list_append mt_append (pv 1) (pa_cons (pv 3) pa_nil)))) pss_nil))))
      (pss_one (ps_ret (pv 1))))), ?_⟩
    refine ⟨by show 0 ≤ sizeLine; decide, fun L hL => ?_⟩
    have ndL := hd.ne_new hL
    have ncL := hd.nc_new hL
    have l0 : (upd H L (.lst [])) L = some (.lst []) := upd_same
    have b0 : But d H (upd H L (.lst [])) := But.refl.new hL
    have d0 := hd.new (o := .lst []) hL
    revert l0 b0 d0
    generalize upd H L (.lst []) = H0
    intro l0 b0 d0
    refine ⟨_, rfl, d, c, 7, n, rfl, d0, by omega, by decide, by decide, fun v1 H1 v10 v11 d1 b1 => ?_⟩
    refine ⟨_, rfl, by omega, by omega, ?_⟩
    have nLd : L ≠ d := ndL.symm
    have l1 := b1 _ _ l0 nLd
    refine for_range (lo := 0) (n := v1.toNat) (fun i σ H' => ∃ (x y : Option V) (zs : Ks), σ = [some (.ref d), some (.ref L), x, y] ∧ But d H H' ∧ Dr H' d c (n + 1 + 2 * i) ∧ H' L = some (.lst (zs.map kA)) ∧ KsOk K H' zs ∧ (∀ z ∈ zs, Sm4 z.2) ∧ (zs.map (·.2)).Nodup ∧ zs.length ≤ i)
      ⟨none, none, [], rfl, b0.trans b1, d1, l1, (fun z hz => nomatch hz), (fun z hz => nomatch hz), List.nodup_nil, Nat.le_refl _⟩ ?_ ?_
    · rintro i σ H2 hi ⟨x, y, zs, rfl, b2, d2, l2, k2, m2, nd2, len2⟩
      refine ⟨_, rfl, d, c, 4, _, rfl, d2, by omega, by decide, by decide, fun va H3 va0 va1 d3 b3 => ?_⟩
      refine ⟨_, rfl, d, c, 4, _, rfl, d3, by omega, by decide, by decide, fun vb H4 vb0 vb1 d4 b4 => ⟨by show 2 ≤ sizeLine; decide, fun p hp => ?_⟩⟩
      obtain ⟨ka, rfl⟩ := Int.eq_ofNat_of_zero_le va0
      obtain ⟨kb, rfl⟩ := Int.eq_ofNat_of_zero_le vb0
      have hsm : Sm4 (ka, kb) := ⟨by show ka < 4; omega, by show kb < 4; omega⟩
      have l4 := b4 _ _ (b3 _ _ l2 nLd) nLd
      have k4 := (k2.bd b3 d2.dict).bd b4 d3.dict
      have nLp : L ≠ p := ne_of_none l4 hp
      have s5 := same_new (o := .tup [V.int (ka : Int), .int (kb : Int)]) hp
      have l5 := s5 _ _ l4
      have k5 := k4.keep s5
      have d5 := d4.new (o := .tup [V.int (ka : Int), .int (kb : Int)]) hp
      have b5 : But d H (upd H4 p (.tup [V.int (ka : Int), .int (kb : Int)])) := ((b2.trans b3).trans b4).new hp
      have p5 : (upd H4 p (.tup [V.int (ka : Int), .int (kb : Int)])) p = some (.tup [V.int (ka : Int), .int (kb : Int)]) := upd_same
      have ndp := d4.ne_new hp
      have ncp := d4.nc_new hp
      revert l5 k5 d5 b5 p5
      generalize upd H4 p (.tup [V.int (ka : Int), .int (kb : Int)]) = H5
      intro l5 k5 d5 b5 p5
      have hpk : SqT K H5 p (kV2 (ka, kb)) := sqT_of p5
      have dpz : Dp K H5 (.ref L) (.list (zs.map fun z => kD z.2)) := .lst (SqL.of l5) (ks_dp k5)
      refine ⟨_, rfl, _, rfl, kD (ka, kb), _, kD_dp hpk, dpz, kD_shaped _, by have := ks_shaped (zs.map (·.2)); rwa [List.map_map] at this, ?_⟩
      rw [ks_any]
      refine ⟨_, rfl, ?_⟩
      by_cases hin : (ka, kb) ∈ zs.map (·.2)
      · rw [decide_eq_true hin]
        exact iteF ⟨_, _, zs, rfl, b5, d5.mono (by omega), l5, k5, m2, nd2, by omega⟩
      · rw [decide_eq_false hin]
        refine iteT ⟨_, rfl, .inl ⟨rfl, _, SqL.of l5⟩, _, rfl, L, _, _, rfl, rfl, l5, szt (by rw [List.length_map]; omega), ?_⟩
        have bl : But L H5 (upd H5 L (.lst (zs.map kA ++ [V.ref p]))) := But.upd
        have ncL5 : c ≠ L := by
          obtain ⟨xs, q⟩ := d4.cells
          exact ncL
        refine ⟨_, _, zs ++ [(p, (ka, kb))], rfl, fun b o e n => ?_, (d5.off ndL ncL5).mono (by omega), by rw [upd_same, List.map_append]; rfl, fun z hz => ?_, fun z hz => ?_, ?_, by rw [List.length_append]; simp; omega⟩
        · rw [upd_ne (ne_of_none e hL)]
          exact b5 b o e n
        · rcases List.mem_append.mp hz with h | h
          · exact sqT_bl bl l5 (k5 z h)
          · rw [List.mem_singleton.mp h]
            exact sqT_bl bl l5 hpk
        · rcases List.mem_append.mp hz with h | h
          · exact m2 z h
          · rw [List.mem_singleton.mp h]
            exact hsm
        · rw [List.map_append]
          exact List.nodup_append.mpr ⟨nd2, by simp, fun a ha b hb => by
            rw [List.mem_singleton.mp hb]
            exact fun (e : a = (ka, kb)) => hin (e ▸ ha)⟩
    · rintro σ H2 ⟨x, y, zs, rfl, b2, d2, l2, k2, m2, nd2, len2⟩
      exact ⟨_, rfl, q L zs H2 b2 (d2.mono (by omega)) hL l2 k2 m2 nd2 (by omega)⟩
/-- the law's version of a key -/
def spMade (K : PySem.W.Frag) (C : Addr) : Sp := fun vs H Q _ => ∃ (p : Addr) (k : Kk), vs = [.ref p] ∧ SqT K H p (kV2 k) ∧ Sm4 k ∧ ∀ v H', Same H H' → H v = none → Ver C H' v (kR k) → Q (.ref v) H'
theorem end_txt : ∀ b < 4, ([V.str "a1", .str "b1", .str "rc1", .str ""] : List V)[b]? = some (.str (S (endL b))) := by decide +kernel
theorem key_len : ∀ a < 4, ∀ b < 4, (numL a ++ endL b).length ≤ 4 := by decide +kernel
theorem ok_made (T : Tex K mg D) : FnOk P w K mg base CX0 8 D.a_made D.d_made P_made (spMade K D.a_Version) := by
  have G_Version_init : FnOk P w K mg base CX0 6 D.a_Version_init D.d_Version_init P_Version_init (spInit D.a_Version) := ok_Version_init T
  refine T.made_F.ok S_made (fun vs H Q E h => ?_) (fun cdv A outer s H vs Q E hr h => ?_)
  · obtain ⟨p, k, rfl, _⟩ := h
    rfl
  · obtain ⟨p, ⟨a, b⟩, rfl, hp, ⟨ha, hb⟩, q⟩ := h
    refine ⟨_, (pss_one (ps_ret (pe_make T.Version_mk G_Version_init (hr.mono (by decide)) rfl T.Version_g T.Version_init_b .nil pass0 (pa_cons (pe_op op_add_str (pe_callTy call_str_int (by rfl) T.b_str (by decide +kernel) (pa_cons (pe_ix ix_tup (pv 0) pe_int (fun _ _ => rfl)) pa_nil)) (pe_ix ix_list (pe_lst (pa_cons pe_str (pa_cons pe_str (pa_cons pe_str (pa_cons pe_str pa_nil))))) (pe_ix ix_tup (pv 0) pe_int (fun _ _ => rfl)) (fun _ _ => rfl))) pa_nil)))), ?_⟩
    refine ⟨_, rfl, p, _, (0 : Int), _, rfl, rfl, hp, rfl, _, rfl, log_num (by show a < 100000; omega), ?_⟩
    rw [show ((a, b) : Kk).fst = a from rfl, str_num]
    have hat : atI ([V.str "a1", .str "b1", .str "rc1", .str ""] : List V) ((b : Nat) : Int) = some (.str (S (endL b))) := atI_nat (end_txt b hb)
    have hlen := key_len a ha b hb
    refine ⟨by show 4 ≤ sizeLine; decide, fun lp hlp => ⟨_, rfl, p, _, (1 : Int), _, rfl, rfl, sqT_keep (same_new hlp) hp, rfl, lp, _, _, _, rfl, rfl, SqL.of upd_same, hat, _, _, rfl, rfl, ?_, ?_⟩⟩
    · rw [List.length_append] at hlen
      rw [S_len, S_len]
      exact szl (by omega)
    · rw [S_cat]
      intro x dx hx hd _
      have s1 : Same H (upd H lp (.lst [V.str "a1", .str "b1", .str "rc1", .str ""])) := same_new hlp
      refine ⟨x, dx, numL a ++ endL b, [a], stK4 b, rfl, upd_same, by omega, key_text a ha b hb, by simp, by simp, fun H1 s2 => ⟨rfl, ?_⟩⟩
      exact q x _ (s1.trans (make_same hx hd s2)) (s1.free hx) ⟨dx, upd_same⟩
theorem acc_ks {H : Hp} : ∀ acc : List (V × Kk), (∀ q ∈ acc, ∃ p, q.1 = .ref p ∧ SqT K H p (kV2 q.2)) → ∃ rs : Ks, acc.map (·.1) = rs.map kA ∧ KsOk K H rs ∧ rs.map (·.2) = acc.map (·.2)
  | [], _ => ⟨[], rfl, (fun z hz => nomatch hz), rfl⟩
  | q :: r, h => by
    obtain ⟨p, e, hp⟩ := h q List.mem_cons_self
    obtain ⟨rs, h1, h2, h3⟩ := acc_ks r fun y hy => h y (List.mem_cons_of_mem _ hy)
    refine ⟨(p, q.2) :: rs, by rw [List.map_cons, List.map_cons, h1, e]; rfl, fun z hz => ?_, by rw [List.map_cons, List.map_cons, h3]⟩
    rcases List.mem_cons.mp hz with e | hz
    · rw [e]
      exact hp
    · exact h2 z hz
theorem filt_map {α : Type} (g : α → Kk) (ks : List Kk) : ∀ l : List α, (l.filterMap fun m => if g m ∈ ks then some (g m) else none) = (l.map g).filter (· ∈ ks)
  | [] => rfl
  | m :: r => by
    rw [List.filterMap_cons, List.map_cons, List.filter_cons, filt_map g ks r]
    by_cases h : g m ∈ ks
    · simp [h]
    · simp [h]
/-- a list of keys -/
def KLs (K : PySem.W.Frag) (H : Hp) (l : Addr) (zs : Ks) : Prop := H l = some (.lst (zs.map kA)) ∧ KsOk K H zs
theorem KLs.keep {H H' : Hp} {l : Addr} {zs : Ks} (h : KLs K H l zs) (s : Same H H') : KLs K H' l zs := ⟨s _ _ h.1, h.2.keep s⟩
/-- what the law ranks: its three ways -/
def way (ks : List Kk) (i : Nat) (first : List Kk) : List Kk := if i = 1 then ris ks else if i = 2 then thr ks first else (ris ks).reverse
def spRanked (K : PySem.W.Frag) : Sp := fun vs H Q _ => ∃ (l f : Addr) (zs fs : Ks) (i : Nat), vs = [.ref l, .int (i : Int), .ref f] ∧ KLs K H l zs ∧ KLs K H f fs ∧ i < 3 ∧
  ∀ (r : Addr) (rs : Ks) (H' : Hp), Same H H' → H r = none → KLs K H' r rs → rs.map (·.2) = way (zs.map (·.2)) i (fs.map (·.2)) → Q (.ref r) H'
theorem ok_ranked (T : Tex K mg D) : FnOk P w K mg base CX0 1 D.a_ranked D.d_ranked P_ranked (spRanked K) := by
  refine T.ranked_F.ok S_ranked (fun vs H Q E h => ?_) (fun cdv A outer s H vs Q E hr h => ?_)
  · obtain ⟨l, f, zs, fs, i, rfl, _⟩ := h
    rfl
  · obtain ⟨l, f, zs, fs, i, rfl, hl, hf, hi, q⟩ := h
    refine ⟨_, (pss_cons (ps_setLc (i := 3) (own := [(("_law_k" : Str), 5)]) (g := gName 5) rfl S_ranked.nd rfl rfl (sw_true rfl rfl rfl (by decide +kernel)) (pi_range1 rfl T.b_range (pa_cons pe_int pa_nil)) (blkOk_by (N := N_ranked) (sc := defScope s_ranked) (by decide +kernel)) (fun _ _ _ _ _ => pg_name (i := 5) S_ranked.nd rfl (Or.inl rfl)) (fun _ _ _ _ _ => (pts_one (pt_cmpR (op_inDK (KK := K) rfl (units65 hr)) (pe_tup (pa_cons (pe_op op_fdiv (pv 5) pe_int) (pa_cons (pe_op op_mod (pv 5) pe_int) pa_nil))) (pv 0) rfl))) (fun _ _ _ _ _ => (pe_tup (pa_cons (pe_op op_fdiv (pv 5) pe_int) (pa_cons (pe_op op_mod (pv 5) pe_int) pa_nil)))))
      (pss_cons (ps_if (pt_cmpR op_eq (pv 1) pe_int (nomark _)) (pss_one (ps_ret (pv 3))) pss_nil)
      (pss_cons (ps_set (i := 4) S_ranked.nd rfl (Or.inr rfl) (pe_ifExp (pt_cmpR op_eq (pv 1) pe_int (nomark _)) (pe_lc (own := [(("_law_key" : Str), 6)]) (g := gName 6) rfl S_ranked.nd (pi_list (pv 3)) (blkOk_by (N := N_ranked) (sc := defScope s_ranked) (by decide +kernel)) (fun _ _ _ _ _ => pg_name (i := 6) S_ranked.nd rfl (Or.inl rfl)) (fun _ _ _ _ _ => (pts_one (pt_cmpR (op_inDK (KK := K) rfl (units65 hr)) (pv 6) (pv 2) rfl))) (fun _ _ _ _ _ => (pv 6))) (pe_lst pa_nil)))
      (pss_one (ps_ret (pe_op op_cat (pv 4) (pe_lc (own := [(("_law_key" : Str), 6)]) (g := gName 6) rfl S_ranked.nd (pi_list (pe_rev (pv 3) (po_some (pe_un un_neg pe_int)))) (blkOk_by (N := N_ranked) (sc := defScope s_ranked) (by decide +kernel)) (fun _ _ _ _ _ => pg_name (i := 6) S_ranked.nd rfl (Or.inl rfl)) (fun _ _ _ _ _ => (pts_one (pt_cmpR (op_notInDK (KK := K) rfl (units65 hr)) (pv 6) (pv 4) rfl))) (fun _ _ _ _ _ => (pv 6))))))))), ?_⟩
    have mem : ∀ {H' : Hp} {g : Addr} {ys : Ks} {p : Addr} {k : Kk} {Q' : VK}, KLs K H' g ys → SqT K H' p (kV2 k) → Q' (.bl (decide (k ∈ ys.map (·.2)))) H' → L2.rInD K (.ref p) (.ref g) H' Q' := fun {H' g ys p k Q'} h1 h2 q' => by
      have dpz : Dp K H' (.ref g) (.list (ys.map fun z => kD z.2)) := .lst (SqL.of h1.1) (ks_dp h1.2)
      refine ⟨kD k, _, kD_dp h2, dpz, kD_shaped _, by have := ks_shaped (ys.map (·.2)); rwa [List.map_map] at this, ?_⟩
      rw [ks_any]
      exact q'
    have nmem : ∀ {H' : Hp} {g : Addr} {ys : Ks} {p : Addr} {k : Kk} {Q' : VK}, KLs K H' g ys → SqT K H' p (kV2 k) → Q' (.bl (!decide (k ∈ ys.map (·.2)))) H' → L2.rNotInD K (.ref p) (.ref g) H' Q' := fun {H' g ys p k Q'} h1 h2 q' => by
      have dpz : Dp K H' (.ref g) (.list (ys.map fun z => kD z.2)) := .lst (SqL.of h1.1) (ks_dp h1.2)
      refine ⟨kD k, _, kD_dp h2, dpz, kD_shaped _, by have := ks_shaped (ys.map (·.2)); rwa [List.map_map] at this, ?_⟩
      rw [ks_any]
      exact q'
    -- the keys in their order
    refine ⟨16, rfl, by decide, by decide, fun RR hRR => ?_⟩
    refine lc_grow ((walk_range (lo := 0) (n := 16)).mono (G' := fun _ => True) (Y' := YAt ((List.range 16).map fun (m : Nat) => V.int (m : Int))) (fun _ h => h) (fun i H x H' hi _ y => ⟨y.1, by rw [y.2]; simp [hi]⟩)) (List.range 16) (fun (m : Nat) => V.int (m : Int)) (by simp) yAt_map (fun m => if (m / 4, m % 4) ∈ zs.map (·.2) then some ((m / 4, m % 4) : Kk) else none) (fun H' v k => ∃ p, v = .ref p ∧ SqT K H' p (kV2 k)) (fun H1 H2 v k l' hl' b h => ?_) hRR (by decide) (fun _ _ => trivial) (fun m hm H1 R S s1 k1 k2 => ?_) (fun H1 acc s1 a1 a2 a3 => ?_)
    · obtain ⟨p, rfl, hp⟩ := h
      exact ⟨p, rfl, sqT_bl b hl' hp⟩
    · refine ⟨rfl, ?_⟩
      have e1 : (m : Int) / 4 = ((m / 4 : Nat) : Int) := by omega
      have e2 : (m : Int) % 4 = ((m % 4 : Nat) : Int) := by omega
      refine ⟨_, rfl, _, _, rfl, rfl, ⟨by decide, by decide⟩, _, rfl, _, _, rfl, rfl, (posI rfl), by show 2 ≤ sizeLine; decide, fun p hp => ?_⟩
      have et : ([V.int ((m : Int) / 4), .int ((m : Int) % 4)] : List V) = kV2 (m / 4, m % 4) := by
        rw [e1, e2]
        rfl
      have s2 := same_new (o := .tup [V.int ((m : Int) / 4), .int ((m : Int) % 4)]) hp
      have hpk : SqT K (upd H1 p (.tup [V.int ((m : Int) / 4), .int ((m : Int) % 4)])) p (kV2 (m / 4, m % 4)) := sqT_of (by rw [upd_same, et])
      refine ⟨_, rfl, mem ((hl.keep s1).keep s2) hpk ⟨_, rfl, ?_⟩⟩
      by_cases hin : (m / 4, m % 4) ∈ zs.map (·.2)
      · rw [decide_eq_true hin]
        refine iteT ⟨_, rfl, _, _, rfl, rfl, ⟨by decide, by decide⟩, _, rfl, _, _, rfl, rfl, (posI rfl), by show 2 ≤ sizeLine; decide, fun p2 hp2 => ?_⟩
        exact k1 _ (m / 4, m % 4) _ (if_pos hin) (s2.trans (same_new hp2)) ⟨p2, rfl, sqT_of (by rw [upd_same, ← et])⟩
      · rw [decide_eq_false hin]
        exact iteF (k2 (if_neg hin) _ s2)
    · -- the rising keys
      obtain ⟨rs, hrs, hrk⟩ := acc_ks (K := K) acc a2
      have er : rs.map (·.2) = ris (zs.map (·.2)) := by
        rw [hrk.2, a1, filt_map (fun m => (m / 4, m % 4))]
        rfl
      have hR : KLs K H1 RR rs := ⟨by rw [a3, hrs], hrk.1⟩
      have rlen : rs.length ≤ 16 := by
        have h1 : (rs.map (·.2)).length ≤ 16 := by
          rw [er]
          exact Nat.le_trans (List.length_filter_le _ _) (by decide)
        rwa [List.length_map] at h1
      have fin : ∀ (B : Addr) (bs : Ks) (H2 : Hp), Same H1 H2 → KLs K H2 B bs → bs.length ≤ 16 → bs.map (·.2) ++ (rs.map (·.2)).reverse.filter (· ∉ bs.map (·.2)) = way (zs.map (·.2)) i (fs.map (·.2)) →
          tRet (tOp rCat (tVar 4) (tLc (iList K (tRev K (tVar 3) (tPart (tUn (rU fun i => V.int (-i)) (tC (V.int 1)))))) (gName 6) (tTest (tOp (L2.rNotInD K) (tVar 6) (tVar 4))) (tVar 6) [6]))
            { nx := fun _ H' => Q .non H', rt := Q } [some (.ref l), some (.int (i : Int)), some (.ref f), some (.ref RR), some (.ref B), none, none] H2 := by
        intro B bs H2 s2 hB blen hw
        refine ⟨_, rfl, _, rfl, _, rfl, _, rfl, rfl, RR, _, rfl, SqL.of (s2 _ _ hR.1), fun p hp => ⟨p, rfl, ⟨_, SqL.of upd_same⟩, fun CC hCC => ?_⟩⟩
        have s3 := same_new (o := .lst (rs.map kA).reverse) hp
        have hrev : SqL K (upd H2 p (.lst (rs.map kA).reverse)) p (rs.reverse.map kA) := SqL.of (by rw [upd_same, List.map_reverse])
        refine lc_lst rs.reverse kA (fun z => !decide (z.2 ∈ bs.map (·.2))) kA hCC (szt (by rw [List.length_reverse]; omega)) hrev (fun z hz H3 R S s4 k1 k2 => ?_) (fun H3 s4 h3 => ?_)
        · have hz' := ((hrk.1.keep s2).keep s3).keep s4 z (List.mem_reverse.mp hz)
          refine ⟨rfl, _, rfl, _, rfl, nmem ((hB.keep s3).keep s4) hz' ⟨_, rfl, ?_⟩⟩
          by_cases hin : z.2 ∈ bs.map (·.2)
          · rw [decide_eq_true hin] at k2 ⊢
            exact iteF (k2 rfl H3 (Same.refl _))
          · rw [decide_eq_false hin] at k1 ⊢
            exact iteT ⟨_, rfl, k1 rfl H3 (Same.refl _)⟩
        · have hB3 := (hB.keep s3).keep s4
          have hlf : (rs.reverse.filter fun z => !decide (z.2 ∈ bs.map (·.2))).length ≤ 16 := Nat.le_trans (List.length_filter_le _ _) (by rw [List.length_reverse]; exact rlen)
          refine ⟨B, CC, _, _, rfl, rfl, hB3.1, h3, szl (by rw [List.length_map, List.length_map]; omega), fun z hz => ?_⟩
          have s5 := same_new (o := .lst (bs.map kA ++ (rs.reverse.filter fun z => !decide (z.2 ∈ bs.map (·.2))).map kA)) hz
          refine q z (bs ++ rs.reverse.filter fun z => !decide (z.2 ∈ bs.map (·.2))) _ ((((s1.trans s2).trans s3).trans s4).trans s5) ((((s1.trans s2).trans s3).trans s4).free hz) ⟨by rw [upd_same, List.map_append], fun y hy => ?_⟩ ?_
          · rcases List.mem_append.mp hy with h | h
            · exact sqT_keep s5 (hB3.2 y h)
            · exact sqT_keep (((s2.trans s3).trans s4).trans s5) (hrk.1 y (List.mem_reverse.mp (List.mem_filter.mp h).1))
          · rw [List.map_append, ← hw]
            congr 1
            rw [← List.map_reverse, List.filter_map]
            congr 1
            exact List.filter_congr fun y _ => by simp
      refine asg_go ?_
      obtain rfl | rfl | rfl : i = 0 ∨ i = 1 ∨ i = 2 := by omega
      · refine ⟨_, rfl, rfl, _, rfl, ?_⟩
        rw [decide_eq_false (show V.int ((0 : Nat) : Int) ≠ V.int 1 from fun e => by injection e with e; omega)]
        refine iteF ⟨_, rfl, rfl, _, rfl, ?_⟩
        rw [decide_eq_false (show V.int ((0 : Nat) : Int) ≠ V.int 2 from fun e => by injection e with e; omega)]
        refine iteF ⟨by show 0 ≤ sizeLine; decide, fun B hB => ?_⟩
        refine fin B [] _ (same_new hB) ⟨upd_same, fun z hz => nomatch hz⟩ (by simp) ?_
        rw [er]
        simp [way]
      · refine ⟨_, rfl, rfl, _, rfl, ?_⟩
        rw [decide_eq_true (show V.int ((1 : Nat) : Int) = V.int 1 from rfl)]
        refine iteT ⟨_, rfl, q RR rs H1 s1 ?_ hR (by rw [er]; rfl)⟩
        exact hRR
      · refine ⟨_, rfl, rfl, _, rfl, ?_⟩
        rw [decide_eq_false (show V.int ((2 : Nat) : Int) ≠ V.int 1 from fun e => by injection e with e; omega)]
        refine iteF ⟨_, rfl, rfl, _, rfl, ?_⟩
        rw [decide_eq_true (show V.int ((2 : Nat) : Int) = V.int 2 from rfl)]
        refine iteT ⟨_, rfl, RR, rfl, ⟨_, SqL.of hR.1⟩, fun B hB => ?_⟩
        refine lc_lst rs kA (fun z => decide (z.2 ∈ fs.map (·.2))) kA hB (szt (by omega)) (SqL.of hR.1) (fun z hz H2 R S s2 k1 k2 => ?_) (fun H2 s2 h2 => ?_)
        · refine ⟨rfl, _, rfl, _, rfl, mem ((hf.keep s1).keep s2) (hrk.1.keep s2 z hz) ⟨_, rfl, ?_⟩⟩
          by_cases hin : z.2 ∈ fs.map (·.2)
          · rw [decide_eq_true hin] at k1 ⊢
            exact iteT ⟨_, rfl, k1 rfl H2 (Same.refl _)⟩
          · rw [decide_eq_false hin] at k2 ⊢
            exact iteF (k2 rfl H2 (Same.refl _))
        · have eb : (rs.filter fun z => decide (z.2 ∈ fs.map (·.2))).map (·.2) = bst (zs.map (·.2)) (fs.map (·.2)) := by
            unfold bst
            rw [← er, List.filter_map]
            rfl
          refine fin B (rs.filter fun z => decide (z.2 ∈ fs.map (·.2))) H2 s2 ⟨h2, fun z hz => hrk.1.keep s2 z (List.mem_filter.mp hz).1⟩ (Nat.le_trans (List.length_filter_le _ _) rlen) ?_
          rw [eb, er]
          simp [way, thr]
end

/-! ## Tastes: what is refused -/
section
variable {P : Program} {w : World} {K : PySem.W.Frag} {mg : Str → Option Value} {base : Heap} {D : Ad}
open TL SX KX
theorem Wt.oks {C : Addr} {H H' : Hp} {xs : List Wt} (h : ∀ y ∈ xs, y.ok K C H) (s : Same H H') : ∀ y ∈ xs, y.ok K C H' := fun y hy => Wt.ok_keep (h y hy) s
theorem StBad.keep {C : Addr} {H H' : Hp} {x : V} (h : StBad K C H x) (s : Same H H') : StBad K C H' x := h.imp (fun ⟨ty, a, b⟩ => ⟨ty, tyx_keep a s, b⟩) (fun ⟨a, xs, h1, h2, h3, h4, h5⟩ => ⟨a, xs, h1, sqT_keep s h2, h3, Wt.oks h4 s, h5⟩)
theorem StOk.keep {C : Addr} {H H' : Hp} {x : V} {xs : List Wt} (h : StOk K C H x xs) (s : Same H H') : StOk K C H' x xs := let ⟨a, h1, h2, h3, h4, h5⟩ := h; ⟨a, h1, sqT_keep s h2, h3, Wt.oks h4 s, h5⟩
theorem FrBad.keep {H H' : Hp} {x : V} (h : FrBad K H x) (s : Same H H') : FrBad K H' x := h.imp (fun ⟨n, ty, a, b⟩ => ⟨n, ty, tyx_keep a s, b⟩) (fun ⟨a, xs, h1, h2, h3, h4, h5⟩ => ⟨a, xs, h1, sqT_keep s h2, h3, fun y hy => (h4 y hy).keep s, h5⟩)
theorem FrOk.keep {H H' : Hp} {x : V} {o : Option (List V)} (h : FrOk K H x o) (s : Same H H') : FrOk K H' x o := h.imp id (fun ⟨a, xs, h1, h2, h3, h4, h5⟩ => ⟨a, xs, h1, sqT_keep s h2, h3, fun y hy => (h4 y hy).keep s, h5⟩)
def spRefused (K : PySem.W.Frag) (C : Addr) : Sp := fun vs H Q _ => ∃ st fr : V, vs = [st, fr] ∧
  ((StBad K C H st ∧ ∀ p H', Same H H' → H p = none → H' p = some (.tup [.str "version", st]) → Q (.ref p) H') ∨
   ((∃ xs, StOk K C H st xs) ∧ FrBad K H fr ∧ ∀ p H', Same H H' → H p = none → H' p = some (.tup [.str "name", fr]) → Q (.ref p) H') ∨
   ((∃ xs o, StOk K C H st xs ∧ FrOk K H fr o) ∧ ∀ p H', Same H H' → H p = none → H' p = some (.tup [.str "none", .non]) → Q (.ref p) H'))
theorem ok_refused (T : Tex K mg D) : FnOk P w K mg base CX0 9 D.a_refused D.d_refused P_refused (spRefused K D.a_Version) := by
  have G_Keeping_init : FnOk P w K mg base (L2.CX P w) 6 D.a_Keeping_init D.d_Keeping_init P_Keeping_init (spKInit K D.a_Keeping D.a_Version D.a_BadVersion D.a_BadName) := ok_Keeping_init T
  refine T.refused_F.ok S_refused (fun vs H Q E h => ?_) (fun cdv A outer s H vs Q E hr h => ?_)
  · obtain ⟨st, fr, rfl, _⟩ := h
    rfl
  · obtain ⟨st, fr, rfl, h⟩ := h
    refine ⟨_, (pss_cons (ps_set (i := 2) S_refused.nd rfl (Or.inl rfl) (pe_tup (pa_cons pe_str (pa_cons pe_non pa_nil))))
      (pss_cons (ps_try_asM (i := 3) rfl rfl rfl S_refused.nd rfl rfl (.cons (ht_one ⟨by rfl, by decide, .inl T.BadVersion_g⟩) (fun a oe cls d pn hz hf => (pss_one (ps_set (i := 2) S_refused.nd rfl (Or.inl rfl) (pe_tup (pa_cons pe_str (pa_cons (pe_xf T.BadVersion_xa.x T.BadVersion_xf hz hf (pv 3)) pa_nil)))))) (.cons (ht_one ⟨by rfl, by decide, .inl T.BadName_g⟩) (fun a oe cls d pn hz hf => (pss_one (ps_set (i := 2) S_refused.nd rfl (Or.inl rfl) (pe_tup (pa_cons pe_str (pa_cons (pe_xf T.BadName_xa.x T.BadName_xf hz hf (pv 3)) pa_nil)))))) .nil)) takes0 (fun W pn xe tkB poB => (pss_one (ps_expr (pe_makeS T.Keeping_mk G_Keeping_init (hr.mono (by decide)) rfl T.Keeping_g T.Keeping_init_b .nil (fun σ => passAt tkB σ) (pa_cons (pv 0) (pa_cons (pv 1) pa_nil)))))))
      (pss_one (ps_ret (pv 2))))), ?_⟩
    refine ⟨by show 2 ≤ sizeLine; decide, fun p0 hp0 => ?_⟩
    have s0 : Same H (upd H p0 (.tup [.str "none", .non])) := same_new hp0
    have n0 : (upd H p0 (.tup [.str "none", .non])) p0 = some (.tup [.str "none", .non]) := upd_same
    revert s0 n0
    generalize upd H p0 (.tup [.str "none", .non]) = H0
    intro s0 n0
    refine ⟨_, rfl, _, rfl, fun x dx hx hdx hne => ⟨x, dx, st, fr, rfl, upd_same, ?_⟩⟩
    have sX : Same H0 (upd (upd H0 dx (.own x)) x (.ins D.a_Keeping dx [])) := (same_new hdx).trans (same_new (by rw [upd_ne hne.symm]; exact hx))
    have end_ : ∀ (wd : Str) (y : V) (C e p dd : Addr) (H1 : Hp), Same H H1 → H1 p = none → (upd H1 p (.tup [.str wd, y])) e = none → (∀ p H', Same H H' → H p = none → H' p = some (.tup [.str wd, y]) → Q (.ref p) H') →
        Q (.ref p) (upd (upd H1 p (.tup [.str wd, y])) e (ExK (.ref C) (some dd) e)) := by
      intro wd y C e p dd H1 s1 hp he q
      have npe : p ≠ e := fun z => by
        subst z
        rw [upd_same] at he
        cases he
      exact q p _ ((s1.trans (same_new hp)).trans (same_new he)) (s1.free hp) (by rw [upd_ne npe, upd_same])
    rcases h with ⟨hb, q⟩ | ⟨⟨xs, ho⟩, hb, q⟩ | ⟨⟨xs, o, ho, hf⟩, q⟩
    · refine .inl ⟨(hb.keep s0).keep sX, fun dd H1 s1 hd => ?_⟩
      refine ⟨true, exm_sub T.BadVersion_nm T.BadVersion_BadVersion_s, fun _ e he => ?_, fun g => nomatch g⟩
      exact ⟨_, rfl, rfl, rfl, dd, _, st, rfl, hd, rfl, by show 2 ≤ sizeLine; decide, fun p hp he2 => ⟨_, rfl, end_ _ _ _ _ _ _ _ ((s0.trans sX).trans s1) hp he2 q⟩⟩
    · refine .inr (.inl ⟨⟨xs, (ho.keep s0).keep sX⟩, (hb.keep s0).keep sX, fun dd H1 s1 hd => ?_⟩)
      refine ⟨false, exm_sub T.BadVersion_nm T.BadName_BadVersion_s, (fun g => nomatch g), fun _ => ⟨true, exm_sub T.BadName_nm T.BadName_BadName_s, fun _ e he => ?_, fun g => nomatch g⟩⟩
      exact ⟨_, rfl, rfl, rfl, dd, _, fr, rfl, hd, rfl, by show 2 ≤ sizeLine; decide, fun p hp he2 => ⟨_, rfl, end_ _ _ _ _ _ _ _ ((s0.trans sX).trans s1) hp he2 q⟩⟩
    · refine .inr (.inr ⟨xs, o, (ho.keep s0).keep sX, (hf.keep s0).keep sX, fun sd H1 b1 _ _ _ => ⟨rfl, _, rfl, ?_⟩⟩)
      have s1 : Same H0 H1 := fun b u e => b1 b u (sX b u e) (ne_of_none e hx)
      exact q p0 H1 (s0.trans s1) hp0 (s1 _ _ n0)
end

/-! ## Tastes: what the law knows -/
section
variable {P : Program} {w : World} {K : PySem.W.Frag} {mg : Str → Option Value} {base : Heap} {D : Ad}
open TL SX KX
/-- two versions of one rank -/
def verR (C : Addr) (a b : Addr) (H : Hp) : Prop := ∃ r, Ver C H a r ∧ Ver C H b r
theorem verR_mon {C : Addr} : ∀ a b H H', Ext H H' → verR C a b H → verR C a b H' := fun _ _ _ _ e ⟨r, h1, h2⟩ => ⟨r, h1.keep e, h2.keep e⟩
theorem ok_eqV (T : Tex K mg D) : FnOk P w K mg base CX0 1 D.a_Version_eq D.d_Version_eq P_Version_eq (L2.spEq (verR D.a_Version)) :=
  (ok_Version_eq T).imp fun vs H Q E h => by
    obtain ⟨a, b, rfl, ⟨r, h1, h2⟩, q⟩ := h
    exact ⟨a, r, _, rfl, h1, .inl ⟨b, r, rfl, h2, by rw [decide_eq_true rfl]; exact q H Ext.rfl'⟩⟩
theorem acc_vs {C : Addr} {H : Hp} : ∀ acc : List (V × Nat), (∀ q ∈ acc, ∃ v, q.1 = .ref v ∧ Ver C H v q.2) → ∃ ps : Vs, acc.map (·.1) = ps.map vR ∧ VL C H ps ∧ ps.map (·.2) = acc.map (·.2)
  | [], _ => ⟨[], rfl, (fun z hz => nomatch hz), rfl⟩
  | q :: r, h => by
    obtain ⟨p, e, hp⟩ := h q List.mem_cons_self
    obtain ⟨rs, h1, h2, h3⟩ := acc_vs r fun y hy => h y (List.mem_cons_of_mem _ hy)
    refine ⟨(p, q.2) :: rs, by rw [List.map_cons, List.map_cons, h1, e]; rfl, fun z hz => ?_, by rw [List.map_cons, List.map_cons, h3]⟩
    rcases List.mem_cons.mp hz with e | hz
    · rw [e]
      exact hp
    · exact h2 z hz
/-- [made(key) for key in keys] -/
theorem made_comp {C l : Addr} {zs : Ks} {i j : Nat} {σ : L2.St} {H : Hp} {Q : VK} (hi : σ[i]? = some (some (.ref l))) (hj : j < σ.length) (hl : KLs K H l zs) (hs : ∀ z ∈ zs, Sm4 z.2) (hz : zs.length ≤ 32)
    (q : ∀ (DD : Addr) (ps : Vs) (H' : Hp), H DD = none → Same H H' → H' DD = some (.lst (ps.map vR)) → VL C H' ps → ps.map (·.2) = zs.map (fun z => kR z.2) → Q (.ref DD) H') :
    tLc (iList K (tVar i)) (gName j) tYes (tCall (spMade K C) [] E0 (tCons (tVar j) tNil)) [j] σ H Q := by
  refine ⟨_, hi, l, rfl, ⟨_, SqL.of hl.1⟩, fun DD hDD => ?_⟩
  refine lc_grow (walk_list (xs := zs.map kA)) zs kA (List.length_map _) yAt_map (fun z => some (kR z.2)) (fun H' v r => ∃ a, v = .ref a ∧ Ver C H' a r) (fun H1 H2 v r l' hl' b h => ?_) hDD (by rw [List.length_map]; exact szt (by omega)) (fun H1 s => s.seq (SqL.of hl.1)) (fun z hz H1 R S s1 k1 k2 => ?_) (fun H1 acc s1 a1 a2 a3 => ?_)
  · obtain ⟨a, rfl, dx, ha⟩ := h
    exact ⟨a, rfl, dx, b _ _ ha (fun e => by subst e; rw [hl'] at ha; cases ha)⟩
  · have hw : (wipe σ [j]).length = σ.length := by simp [wipe]
    have hv : ((wipe σ [j]).set j (some (kA z)))[j]? = some (some (kA z)) := by
      rw [List.getElem?_set]
      simp [hw, hj]
    refine ⟨?_, _, hv, z.1, z.2, rfl, (hl.2 z hz).imp (fun h => ?_) id, hs z hz, fun v H2 s2 _ hv => k1 (.ref v) _ H2 rfl s2 ⟨v, rfl, hv⟩⟩
    · simp [wipe]
    · exact h.imp (fun h => s1 _ _ h) fun ⟨o, h⟩ => ⟨o, s1 _ _ h⟩
  · obtain ⟨ps, h1, h2, h3⟩ := acc_vs acc a2
    refine q DD ps H1 hDD s1 (by rw [a3, h1]) h2 ?_
    rw [h3, a1]
    simp
/-- what stands under the law's names -/
def nmL : Nat → List V
  | 0 => []
  | 1 => [.str "tea"]
  | _ => [.str "cup", .str "no"]
def nmO (j : Nat) : Option (List V) := if j = 3 then none else some (nmL j)
def FrJ (K : PySem.W.Frag) (H : Hp) (x : V) (j : Nat) : Prop := (j = 3 ∧ x = .non) ∨ (j < 3 ∧ ∃ a, x = .ref a ∧ SqT K H a (nmL j))
theorem FrJ.keep {H H' : Hp} {x : V} {j : Nat} (h : FrJ K H x j) (s : Same H H') : FrJ K H' x j := h.imp id fun ⟨a, b, c, d⟩ => ⟨a, b, c, sqT_keep s d⟩
theorem nm_good : ∀ j < 3, (nmL j).all goodName = true := by decide +kernel
theorem FrJ.ok {H : Hp} {x : V} {j : Nat} (h : FrJ K H x j) : FrOk K H x (nmO j) := by
  rcases h with ⟨rfl, rfl⟩ | ⟨h3, a, rfl, ha⟩
  · exact .inl ⟨rfl, rfl⟩
  · have hj : j = 0 ∨ j = 1 ∨ j = 2 := by omega
    refine .inr ⟨a, nmL j, rfl, ha, ?_, fun y hy => ?_, nm_good j h3, if_neg (by omega)⟩
    · rcases hj with rfl | rfl | rfl <;> simp [nmL]
    · obtain ⟨t, rfl⟩ := name_text (List.all_eq_true.mp (nm_good j h3) y hy)
      refine .inl ⟨t, rfl, ?_⟩
      have all : ∀ j < 3, ∀ y ∈ nmL j, ∀ t, y = .str t → t.length ≤ 200 := by
        intro j hj y hy t e
        subst e
        have hj : j = 0 ∨ j = 1 ∨ j = 2 := by omega
        rcases hj with rfl | rfl | rfl
        · simp [nmL] at hy
        · simp [nmL] at hy
          rw [hy]
          decide +kernel
        · simp [nmL] at hy
          rcases hy with e | e <;> rw [e] <;> decide +kernel
      exact all j h3 _ hy t rfl
def kb (j : Nat) : Bool := decide (j = 0 ∨ j = 2)
/-- the law's three pairs -/
abbrev prs (p1 p2 p3 v1 v2 v3 : Addr) (r1 r2 r3 : Nat) : List Wt := [.pair p1 (.str "tea") v1 r1, .pair p2 (.str "cup") v2 r2, .pair p3 (.str "pot") v3 r3]
section
variable (p1 p2 p3 v1 v2 v3 : Addr) (r1 r2 r3 : Nat)
theorem prs_stand : stand (prs p1 p2 p3 v1 v2 v3 r1 r2 r3) = true := by
  kernel_rfl
theorem prs_tea0 : gotV (keepK (some []) (prs p1 p2 p3 v1 v2 v3 r1 r2 r3)) "tea" = .ref v1 := by
  kernel_rfl
theorem prs_no0 : gotV (keepK (some []) (prs p1 p2 p3 v1 v2 v3 r1 r2 r3)) "no" = .non := by
  kernel_rfl
theorem prs_tea : ∀ j < 4, gotV (keepK (nmO j) (prs p1 p2 p3 v1 v2 v3 r1 r2 r3)) "tea" = if kb j = true then .ref v1 else .non := by
  intro j hj
  have hj : j = 0 ∨ j = 1 ∨ j = 2 ∨ j = 3 := by omega
  rcases hj with rfl | rfl | rfl | rfl <;> kernel_rfl
theorem prs_pot : ∀ j < 4, gotV (keepK (nmO j) (prs p1 p2 p3 v1 v2 v3 r1 r2 r3)) "pot" = if j = 3 then .non else .ref v3 := by
  intro j hj
  have hj : j = 0 ∨ j = 1 ∨ j = 2 ∨ j = 3 := by omega
  rcases hj with rfl | rfl | rfl | rfl <;> kernel_rfl
end
theorem skip_c {c : V} {tr : TA} {σ : L2.St} {H : Hp} {Q : List V → Hp → Prop} (h : tr σ H fun xs H1 => Q (c :: xs) H1) : tCons (tC c) tr σ H Q := h
theorem one_in {ta : TE} {σ : L2.St} {H : Hp} {Q : List V → Hp → Prop} (h : ta σ H fun x H1 => Q [x] H1) : tCons ta tNil σ H Q := h
theorem dflt_sq (T : Tex K mg D) (H : Hp) : SqT K H D.e_Keeping_init [] := T.Keeping_init_e.elim (fun h => by
  rcases h with h | ⟨o, h⟩
  · exact nomatch (show (none : Option HO) = some _ from h)
  · exact nomatch (show (none : Option HO) = some _ from h)) .inr
def nmD (j : Nat) : PyData := if j = 3 then .none else .tuple (if j = 0 then [] else if j = 1 then [.str "tea"] else [.str "cup", .str "no"])
theorem FrJ.dp {H : Hp} {x : V} {j : Nat} (h : FrJ K H x j) : Dp K H x (nmD j) := by
  rcases h with ⟨rfl, rfl⟩ | ⟨h3, a, rfl, ha⟩
  · exact .non
  · have hj : j = 0 ∨ j = 1 ∨ j = 2 := by omega
    rcases hj with rfl | rfl | rfl
    · exact .tup ha .nil
    · exact .tup ha (.cons (.str _) .nil)
    · exact .tup ha (.cons (.str _) (.cons (.str _) .nil))
theorem nm_sh : ∀ j < 4, SeqAt.shaped (nmD j) = true := by decide +kernel
theorem nm_eq0 : ∀ j < 4, PyData.eqv (nmD j) (.tuple []) = decide (j = 0) := by decide +kernel
theorem nm_eq2 : ∀ j < 4, PyData.eqv (nmD j) (.tuple [.str "cup", .str "no"]) = decide (j = 2) := by decide +kernel
theorem kept_or {fr : V} {j : Nat} {σ : L2.St} {H : Hp} {Q : VK} (h5 : σ[5]? = some (some fr)) (hj : j < 4) (hF : FrJ K H fr j) (q : ∀ H', Same H H' → Q (.bl (kb j)) H') :
    tOrV (tOp (rEqD K) (tVar 5) (tTup tNil)) (tOp (rEqD K) (tVar 5) (tTup (tCons (tC (.str "cup")) (tCons (tC (.str "no")) tNil)))) σ H Q := by
  refine ⟨_, h5, by show 0 ≤ sizeLine; decide, fun z0 hz0 => ⟨nmD j, .tuple [], (hF.keep (same_new hz0)).dp, .tup (sqT_of upd_same) .nil, nm_sh j hj, by decide +kernel, _, rfl, ?_⟩⟩
  rw [nm_eq0 j hj]
  by_cases e0 : j = 0
  · rw [decide_eq_true e0]
    have := q _ (same_new (o := .tup []) hz0)
    rw [show kb j = true from decide_eq_true (.inl e0)] at this
    exact iteT this
  · rw [decide_eq_false e0]
    have s0 := same_new (o := .tup []) hz0
    refine iteF ⟨_, h5, by show 2 ≤ sizeLine; decide, fun z1 hz1 => ⟨nmD j, .tuple [.str "cup", .str "no"], ((hF.keep s0).keep (same_new hz1)).dp, .tup (sqT_of upd_same) (.cons (.str _) (.cons (.str _) .nil)), nm_sh j hj, by decide +kernel, ?_⟩⟩
    rw [nm_eq2 j hj]
    have := q _ (s0.trans (same_new (o := .tup [V.str "cup", .str "no"]) hz1))
    rw [show kb j = decide (j = 2) from decide_eq_decide.mpr ⟨fun h => h.elim (fun e => absurd e e0) id, .inr⟩] at this
    exact this
theorem first_list {b : Bool} {kp : Addr} {k : Kk} {σ : L2.St} {H : Hp} {Q : VK} (h8 : σ[8]? = some (some (.bl b))) (h3 : σ[3]? = some (some (.ref kp))) (hk : SqT K H kp (kV2 k))
    (q : ∀ (f : Addr) (fs : Ks) (H' : Hp), Same H H' → KLs K H' f fs → fs.map (·.2) = (if b = true then [k] else []) → Q (.ref f) H') :
    tIf (tB (tVar 8)) (tLst (tCons (tVar 3) tNil)) (tLst tNil) σ H Q := by
  cases b with
  | true =>
    refine ⟨_, h8, _, rfl, iteT ⟨_, h3, by show 1 ≤ sizeLine; decide, fun f hf => ?_⟩⟩
    refine q f [(kp, k)] _ (same_new hf) ⟨upd_same, fun z hz => ?_⟩ rfl
    rw [List.mem_singleton.mp hz]
    exact sqT_keep (same_new hf) hk
  | false => exact ⟨_, h8, _, rfl, iteF ⟨by show 0 ≤ sizeLine; decide, fun f hf => q f [] _ (same_new hf) ⟨upd_same, fun z hz => nomatch hz⟩ rfl⟩⟩
/-! ### the ranks that are told and due -/
theorem rank_new {ks : List Kk} {nw : Bool} {rs : List Nat} (hs : ∀ k ∈ ks, Sm4 k) (nd : ks.Nodup) (h : Ordered nw rs (ks.map kR)) : rs = (if nw = true then (ris ks).reverse else ris ks).map kR := by
  obtain ⟨up, u1, u2, rfl⟩ := h
  have e := sort_keys hs nd u1 u2
  subst e
  split
  · rw [List.map_reverse]
  · rfl
theorem rank_keep {ks : List Kk} {k : Kk} {b : Bool} {o : Option Nat} {rest : List Nat} (hs : ∀ k ∈ ks, Sm4 k) (nd : ks.Nodup) (hk : Sm4 k) (ho : o = if b = true then some (kR k) else none)
    (h : Ordered true rest ((ks.map kR).filter fun r => !isO o r)) : (ks.map kR).filter (isO o) ++ rest = (way ks 2 (if b = true then [k] else [])).map kR := by
  cases b with
  | true =>
    simp only [if_true] at ho
    subst ho
    have e1 : (isO (some (kR k))) = fun r => decide (r = kR k) := by
      funext r
      rw [Bool.eq_iff_iff, decide_eq_true_eq]
      simp only [isO, beq_iff_eq]
      exact ⟨fun e => (Option.some.inj e).symm, fun e => by rw [e]⟩
    rw [e1] at h ⊢
    obtain ⟨up, u1, u2, u3⟩ := h
    simp only [if_true] at u3
    have e2 := rest_one hs nd hk u1 u2
    rw [bst_one hs nd hk, u3, e2, ← List.map_append]
    rfl
  | false =>
    simp only [Bool.false_eq_true, if_false] at ho
    subst ho
    have e1 : (isO none) = fun _ => false := by
      funext r
      simp [isO]
    rw [e1] at h ⊢
    have e3 : ((ks.map kR).filter fun _ => !false) = ks.map kR := List.filter_eq_self.mpr (by simp)
    rw [e3] at h
    have e4 := rank_new hs nd h
    have e5 : (ks.map kR).filter (fun _ => false) = [] := List.filter_eq_nil_iff.mpr (by simp)
    rw [e5, List.nil_append, e4]
    show _ = (thr ks []).map kR
    rw [filt_nil]
    rfl
theorem way_sm {ks first : List Kk} {i : Nat} : ∀ k ∈ way ks i first, Sm4 k := by
  intro k hk
  unfold way at hk
  split at hk
  · exact ris_sm k hk
  · split at hk
    · unfold thr bst at hk
      rcases List.mem_append.mp hk with h | h
      · exact ris_sm k (List.mem_filter.mp h).1
      · exact ris_sm k (List.mem_reverse.mp (List.mem_filter.mp h).1)
    · exact ris_sm k (List.mem_reverse.mp hk)
theorem ris_len (ks : List Kk) : (ris ks).length ≤ 16 := Nat.le_trans (List.length_filter_le _ _) (by decide)
theorem way_len {ks first : List Kk} {i : Nat} : (way ks i first).length ≤ 32 := by
  unfold way
  have h := ris_len ks
  split
  · omega
  · split
    · show (bst ks first ++ (ris ks).reverse.filter (· ∉ bst ks first)).length ≤ 32
      rw [List.length_append]
      refine Nat.le_trans (Nat.add_le_add (List.length_filter_le _ _) (List.length_filter_le _ _)) ?_
      rw [List.length_reverse]
      omega
    · rw [List.length_reverse]
      omega
/-- a row that is told and the keys that are due -/
def RelT (K : PySem.W.Frag) (C : Addr) (H : Hp) (x y : V) : Prop := ∃ (t : Addr) (qs : Vs) (r : Addr) (rs : Ks), x = .ref t ∧ y = .ref r ∧ SqT K H t (qs.map vR) ∧ VL C H qs ∧ KLs K H r rs ∧ (∀ z ∈ rs, Sm4 z.2) ∧ rs.length ≤ 32 ∧ qs.map (·.2) = rs.map (fun z => kR z.2)
theorem RelT.keep {C : Addr} {H H' : Hp} {x y : V} (h : RelT K C H x y) (s : Same H H') : RelT K C H' x y := let ⟨t, qs, r, rs, h1, h2, h3, h4, h5, h6⟩ := h; ⟨t, qs, r, rs, h1, h2, sqT_keep s h3, h4.keep s, h5.keep s, h6⟩
theorem mkRel {C t r : Addr} {H : Hp} {qs : Vs} {rs : Ks} {ks first : List Kk} {i : Nat} (ht : SqT K H t (qs.map vR)) (hv : VL C H qs) (hr : KLs K H r rs) (er : rs.map (·.2) = way ks i first) (eq : qs.map (·.2) = (way ks i first).map kR) : RelT K C H (.ref t) (.ref r) := by
  refine ⟨t, qs, r, rs, rfl, rfl, ht, hv, hr, fun z hz => ?_, ?_, ?_⟩
  · refine way_sm (ks := ks) (i := i) (first := first) z.2 ?_
    rw [← er]
    exact List.mem_map.mpr ⟨z, hz, rfl⟩
  · have h := congrArg List.length er
    rw [List.length_map] at h
    rw [h]
    exact way_len
  · rw [eq, ← er, List.map_map]
    rfl
theorem prs_of {C : Addr} {H : Hp} {qs ps : Vs} (hq : VL C H qs) (hp : VL C H ps) (e : qs.map (·.2) = ps.map (·.2)) : L2.Prs (DIns C (verR C)) (qs.map vR) (ps.map vR) H := by
  have el := congrArg List.length e
  rw [List.length_map, List.length_map] at el
  refine ⟨by rw [List.length_map, List.length_map, el], fun i x y hx hy => ?_⟩
  rw [List.getElem?_map] at hx hy
  obtain ⟨a, ha, rfl⟩ := Option.map_eq_some_iff.mp hx
  obtain ⟨b, hb, rfl⟩ := Option.map_eq_some_iff.mp hy
  have er : a.2 = b.2 := by
    have h := congrArg (fun l => l[i]?) e
    simp only [List.getElem?_map, ha, hb, Option.map_some] at h
    exact Option.some.inj h
  obtain ⟨dx, h1⟩ := hq a (List.mem_of_getElem? ha)
  obtain ⟨dy, h2⟩ := hp b (List.mem_of_getElem? hb)
  exact ⟨a.1, b.1, dx, dy, _, _, rfl, rfl, h1, h2, a.2, ⟨dx, h1⟩, ⟨dy, by rw [er]; exact h2⟩⟩
end

/-! ## Tastes: order_right -/
section
variable {P : Program} {w : World} {K : PySem.W.Frag} {mg : Str → Option Value} {base : Heap} {D : Ad}
open TL SX KX
theorem par_in {r : List V → Hp → VK → Prop} {t t2 : TE} {i j : Nat} {rest : TS} {E : Ends} {σ : L2.St} {H : Hp} (h : t σ H fun x H1 => r [x] H1 fun v H2 => t2 σ H2 fun u H3 => ∃ v' u', [v, u] = [v', u'] ∧ rest E ((σ.set i (some v')).set j (some u')) H3) :
    tSeq (tPar i j (tCons (tCB r (tCons t tNil)) (tCons t2 tNil))) rest E σ H := h
def spOrder (K : PySem.W.Frag) : Sp := fun vs H Q _ => ∃ (d c l : Addr) (n : Nat) (zs : Ks), vs = [.ref d, .ref l] ∧ Dr H d c n ∧ n ≤ 10 ^ 10 ∧ KLs K H l zs ∧ l ≠ d ∧ (∀ z ∈ zs, Sm4 z.2) ∧ (zs.map (·.2)).Nodup ∧ zs.length ≤ 6 ∧
  ∀ H', But d H H' → Dr H' d c (n + 3) → Q (.bl true) H'
theorem ok_order_right (T : Tex K mg D) : FnOk P w K mg base CX0 11 D.a_order_right D.d_order_right P_order_right (spOrder K) := by
  have G_next : FnOk P w K mg base CX0 2 D.a_next D.d_next P_next spNext := ok_next T
  have G_made : FnOk P w K mg base CX0 8 D.a_made D.d_made P_made (spMade K D.a_Version) := ok_made T
  have G_ranked : FnOk P w K mg base CX0 1 D.a_ranked D.d_ranked P_ranked (spRanked K) := ok_ranked T
  have G_Keeping_init : FnOk P w K mg base (L2.CX P w) 6 D.a_Keeping_init D.d_Keeping_init P_Keeping_init (spKInit K D.a_Keeping D.a_Version D.a_BadVersion D.a_BadName) := ok_Keeping_init T
  have G_Keeping_initX := G_Keeping_init
  have G_Keeping_call : FnOk P w K mg base CX0 4 D.a_Keeping_call D.d_Keeping_call P_Keeping_call (spKeeps K D.a_Keeping D.a_Version) := ok_Keeping_call T
  have G_Newest_call : FnOk P w K mg base CX0 4 D.a_Newest_call D.d_Newest_call P_Newest_call (spTaste K D.a_Version true) := ok_Newest_call T
  have G_Oldest_call : FnOk P w K mg base CX0 4 D.a_Oldest_call D.d_Oldest_call P_Oldest_call (spTaste K D.a_Version false) := ok_Oldest_call T
  have G_Newest_standing_of : FnOk P w K mg base CX0 1 D.a_Newest_standing_of D.d_Newest_standing_of P_Newest_standing_of spNon := ok_Newest_of T
  have G_Oldest_standing_of : FnOk P w K mg base CX0 1 D.a_Oldest_standing_of D.d_Oldest_standing_of P_Oldest_standing_of spNon := ok_Oldest_of T
  have G_Keeping_standing_of : FnOk P w K mg base CX0 1 D.a_Keeping_standing_of D.d_Keeping_standing_of P_Keeping_standing_of (spOf K D.a_Keeping) := ok_Keeping_of T
  have G_Version_eq : FnOk P w K mg base CX0 1 D.a_Version_eq D.d_Version_eq P_Version_eq (spEq K D.a_Version) := ok_Version_eq T
  have G_eqV : FnOk P w K mg base CX0 1 D.a_Version_eq D.d_Version_eq P_Version_eq (L2.spEq (verR D.a_Version)) := ok_eqV T
  refine T.order_right_F.ok S_order_right (fun vs H Q E h => ?_) (fun cdv A outer s H vs Q E hr h => ?_)
  · obtain ⟨d, c, l, n, zs, rfl, _⟩ := h
    rfl
  · obtain ⟨d, c, l, n, zs, rfl, hd, hn, hl, nld, hsm, hnd, hlen, q⟩ := h
    refine ⟨_, (pss_cons (ps_par (i := 2) (j := 3) (by rfl) S_order_right.nd rfl rfl (by decide) rfl rfl (pa_cons (pe_callTy call_tuple_of (by rfl) T.b_tuple (by decide +kernel) (pa_cons (pe_lc (own := [(("_law_key" : Str), 16)]) (g := gName 16) (tt := tYes) rfl S_order_right.nd (pi_list (pv 1)) (blkOk_by (N := N_order_right) (sc := defScope s_order_right) (by decide +kernel)) (fun _ _ _ _ _ => pg_name (i := 16) S_order_right.nd rfl (Or.inl rfl)) (fun _ _ _ _ _ => pts_nil) (fun _ _ _ _ _ => (pe_call G_made (hr.mono (by decide)) (by rfl) T.made_g T.made_F.kp T.made_b .nil pass0 (pa_cons (pv 16) pa_nil)))) pa_nil)) (pa_cons (pe_tup (pa_cons (pe_call G_next (hr.mono (by decide)) (by rfl) T.next_g T.next_F.kp T.next_b .nil pass0 (pa_cons (pv 0) (pa_cons pe_int pa_nil))) (pa_cons (pe_call G_next (hr.mono (by decide)) (by rfl) T.next_g T.next_F.kp T.next_b .nil pass0 (pa_cons (pv 0) (pa_cons pe_int pa_nil))) pa_nil))) pa_nil)) (by rfl))
      (pss_cons (ps_set (i := 4) S_order_right.nd rfl (Or.inl rfl) (pe_tup (pa_cons (pe_tup (pa_cons pe_str (pa_cons (pe_call G_made (hr.mono (by decide)) (by rfl) T.made_g T.made_F.kp T.made_b .nil pass0 (pa_cons (pv 3) pa_nil)) pa_nil))) (pa_cons (pe_tup (pa_cons pe_str (pa_cons (pe_call G_made (hr.mono (by decide)) (by rfl) T.made_g T.made_F.kp T.made_b .nil pass0 (pa_cons (pe_tup (pa_cons pe_int (pa_cons pe_int pa_nil))) pa_nil)) pa_nil))) (pa_cons (pe_tup (pa_cons pe_str (pa_cons (pe_call G_made (hr.mono (by decide)) (by rfl) T.made_g T.made_F.kp T.made_b .nil pass0 (pa_cons (pe_tup (pa_cons pe_int (pa_cons pe_int pa_nil))) pa_nil)) pa_nil))) pa_nil)))))
      (pss_cons (ps_set (i := 5) S_order_right.nd rfl (Or.inl rfl) (pe_ix ix_list (pe_lst (pa_cons (pe_tup pa_nil) (pa_cons (pe_tup (pa_cons pe_str pa_nil)) (pa_cons (pe_tup (pa_cons pe_str (pa_cons pe_str pa_nil))) (pa_cons pe_non pa_nil))))) (pe_call G_next (hr.mono (by decide)) (by rfl) T.next_g T.next_F.kp T.next_b .nil pass0 (pa_cons (pv 0) (pa_cons pe_int pa_nil))) (fun _ _ => rfl)))
      (pss_cons (ps_par (i := 6) (j := 7) (by rfl) S_order_right.nd rfl rfl (by decide) rfl rfl (pa_cons (pe_makeKS T.Keeping_mk G_Keeping_initX (hr.mono (by decide)) rfl T.Keeping_g T.Keeping_init_km (fun σ pins H s e s' => passL pins σ H s e s') (pk_cons (pv 4) (pk_cons (pv 5) pk_nil))) (pa_cons (pe_makeS T.Keeping_mk G_Keeping_init (hr.mono (by decide)) rfl T.Keeping_g T.Keeping_init_b0.choose_spec.2 T.Keeping_init_b0.choose_spec.1 (fun σ pins H s e s' => passL pins σ H s e s') (pa_cons (pv 4) pa_nil)) pa_nil)) (by rfl))
      (pss_cons (ps_set (i := 8) S_order_right.nd rfl (Or.inl rfl) (pe_or (pe_cmpR (op_eqD hr.units) (pv 5) (pe_tup pa_nil) (nomark _)) (pe_one (pe_cmpR (op_eqD hr.units) (pv 5) (pe_tup (pa_cons pe_str (pa_cons pe_str pa_nil))) (nomark _)))))
      (pss_cons (ps_set (i := 9) S_order_right.nd rfl (Or.inl rfl) (pe_lst (pa_cons (pe_call G_ranked (hr.mono (by decide)) (by rfl) T.ranked_g T.ranked_F.kp T.ranked_b .nil pass0 (pa_cons (pv 1) (pa_cons pe_int (pa_cons (pe_lst pa_nil) pa_nil)))) (pa_cons (pe_call G_ranked (hr.mono (by decide)) (by rfl) T.ranked_g T.ranked_F.kp T.ranked_b .nil pass0 (pa_cons (pv 1) (pa_cons pe_int (pa_cons (pe_lst pa_nil) pa_nil)))) (pa_cons (pe_call G_ranked (hr.mono (by decide)) (by rfl) T.ranked_g T.ranked_F.kp T.ranked_b .nil pass0 (pa_cons (pv 1) (pa_cons pe_int (pa_cons (pe_ifExp (pt_val (pv 8)) (pe_lst (pa_cons (pv 3) pa_nil)) (pe_lst pa_nil)) pa_nil)))) pa_nil)))))
      (pss_cons (ps_set (i := 9) S_order_right.nd rfl (Or.inl rfl) (pe_op op_cat (pv 9) (pe_lst (pa_cons (pe_call G_ranked (hr.mono (by decide)) (by rfl) T.ranked_g T.ranked_F.kp T.ranked_b .nil pass0 (pa_cons (pv 1) (pa_cons pe_int (pa_cons (pe_lst (pa_cons (pv 3) pa_nil)) pa_nil)))) (pa_cons (pe_call G_ranked (hr.mono (by decide)) (by rfl) T.ranked_g T.ranked_F.kp T.ranked_b .nil pass0 (pa_cons (pv 1) (pa_cons pe_int (pa_cons (pe_lst pa_nil) pa_nil)))) pa_nil)))))
      (pss_cons (ps_par (i := 10) (j := 11) (by rfl) S_order_right.nd rfl rfl (by decide) rfl rfl (pa_cons (pe_mk0 T.Newest_m0 rfl T.Newest_g) (pa_cons (pe_mk0 T.Oldest_m0 rfl T.Oldest_g) pa_nil)) (by rfl))
      (pss_cons (ps_set (i := 12) S_order_right.nd rfl (Or.inl rfl) (pe_lst (pa_cons (StX.pe_callO (pv 10) T.Newest_call_c (G_Newest_call.raw T.Newest_call_b .nil) (hr.mono (by decide)) pass0 (pa_cons pe_str (pa_cons (pv 2) pa_nil))) (pa_cons (StX.pe_callO (pv 11) T.Oldest_call_c (G_Oldest_call.raw T.Oldest_call_b .nil) (hr.mono (by decide)) pass0 (pa_cons pe_str (pa_cons (pv 2) pa_nil))) (pa_cons (StX.pe_callO (pv 6) T.Keeping_call_c (G_Keeping_call.raw T.Keeping_call_b .nil) (hr.mono (by decide)) pass0 (pa_cons pe_str (pa_cons (pv 2) pa_nil))) (pa_cons (StX.pe_callO (pv 7) T.Keeping_call_c (G_Keeping_call.raw T.Keeping_call_b .nil) (hr.mono (by decide)) pass0 (pa_cons pe_str (pa_cons (pv 2) pa_nil))) (pa_cons (StX.pe_callO (pv 7) T.Keeping_call_c (G_Keeping_call.raw T.Keeping_call_b .nil) (hr.mono (by decide)) pass0 (pa_cons pe_str (pa_cons (pv 2) pa_nil))) pa_nil)))))))
      (pss_cons (ps_for PassesOwn.never rfl (RZ.pi_zipA (by rfl) T.b_zip (pa_cons (pv 12) (pa_cons (pv 9) pa_nil))) (pg_tup (by rfl) (pgs_cons (pg_name (i := 13) S_order_right.nd rfl (Or.inl rfl)) (pgs_cons (pg_name (i := 14) S_order_right.nd rfl (Or.inl rfl)) pgs_nil))) (pss_one (ps_if (PW.pt (pw_or (pt_not (pt_val (pe_callB call_isi (by rfl) T.b_isinstance (by decide +kernel) (pa_cons (pv 13) (pa_cons (pe_bltn (v := .ty "tuple") (u := .type "tuple") (by rfl) T.b_tuple (by decide +kernel) rfl) pa_nil))))) (pw_or1 (pt_cmpR (op_neG (mon_ins verR_mon) (eqG_ins (n := 1) G_eqV T.Version_eq_at T.Version_eq_fn T.Version_eq_b pass0) (hr.mono (by decide))) (pe_callTy call_list_of (by rfl) T.b_list (by decide +kernel) (pa_cons (pv 13) pa_nil)) (pe_lc (own := [(("_law_key" : Str), 16)]) (g := gName 16) (tt := tYes) rfl S_order_right.nd (pi_list (pv 14)) (blkOk_by (N := N_order_right) (sc := defScope s_order_right) (by decide +kernel)) (fun _ _ _ _ _ => pg_name (i := 16) S_order_right.nd rfl (Or.inl rfl)) (fun _ _ _ _ _ => pts_nil) (fun _ _ _ _ _ => (pe_call G_made (hr.mono (by decide)) (by rfl) T.made_g T.made_F.kp T.made_b .nil pass0 (pa_cons (pv 16) pa_nil)))) (nomark _))))) (pss_one (ps_ret pe_bl)) pss_nil)))
      (pss_cons (ps_for PassesOwn.never rfl (pi_tup (pe_tup (pa_cons pe_str (pa_cons pe_str (pa_cons pe_int (pa_cons pe_non pa_nil)))))) (pg_name (i := 15) S_order_right.nd rfl (Or.inl rfl)) (pss_one (ps_if (PW.pt (pw_or (pt_cmpR op_notN (pe_meth (pv 10) T.Newest_cl ⟨T.Newest_standing_of_at, T.Newest_standing_of_fn, T.Newest_standing_of_F.kp⟩ G_Newest_standing_of (hr.mono (by decide)) T.Newest_standing_of_b .nil pass0 (pa_cons (pv 15) pa_nil)) pe_non (nomark _)) (pw_or1 (pt_cmpR op_notN (pe_meth (pv 11) T.Oldest_cl ⟨T.Oldest_standing_of_at, T.Oldest_standing_of_fn, T.Oldest_standing_of_F.kp⟩ G_Oldest_standing_of (hr.mono (by decide)) T.Oldest_standing_of_b .nil pass0 (pa_cons (pv 15) pa_nil)) pe_non (nomark _))))) (pss_one (ps_ret pe_bl)) pss_nil)))
      (pss_cons (ps_if (PW.pt (pw_or (pt_cmpR (op_neOwn T.Version_ne_b T.Version_si.cm T.Version_eq_at T.Version_eq_fn (G_Version_eq.raw T.Version_eq_b .nil) (hr.mono (by decide)) pass0) (pe_meth (pv 7) T.Keeping_cl ⟨T.Keeping_standing_of_at, T.Keeping_standing_of_fn, T.Keeping_standing_of_F.kp⟩ G_Keeping_standing_of (hr.mono (by decide)) T.Keeping_standing_of_b .nil pass0 (pa_cons pe_str pa_nil)) (pe_call G_made (hr.mono (by decide)) (by rfl) T.made_g T.made_F.kp T.made_b .nil pass0 (pa_cons (pv 3) pa_nil)) (nomark _)) (pw_or1 (pt_cmpR op_notN (pe_meth (pv 7) T.Keeping_cl ⟨T.Keeping_standing_of_at, T.Keeping_standing_of_fn, T.Keeping_standing_of_F.kp⟩ G_Keeping_standing_of (hr.mono (by decide)) T.Keeping_standing_of_b .nil pass0 (pa_cons pe_str pa_nil)) pe_non (nomark _))))) (pss_one (ps_ret pe_bl)) pss_nil)
      (pss_cons (ps_if (PW.pt (pw_or (pt_cmpR op_notN (pe_meth (pv 7) T.Keeping_cl ⟨T.Keeping_standing_of_at, T.Keeping_standing_of_fn, T.Keeping_standing_of_F.kp⟩ G_Keeping_standing_of (hr.mono (by decide)) T.Keeping_standing_of_b .nil pass0 (pa_cons (pe_lst (pa_cons pe_str pa_nil)) pa_nil)) pe_non (nomark _)) (pw_or1 (pt_cmpR op_ne (pe_cmpR op_notN (pe_meth (pv 6) T.Keeping_cl ⟨T.Keeping_standing_of_at, T.Keeping_standing_of_fn, T.Keeping_standing_of_F.kp⟩ G_Keeping_standing_of (hr.mono (by decide)) T.Keeping_standing_of_b .nil pass0 (pa_cons pe_str pa_nil)) pe_non (nomark _)) (pv 8) (nomark _))))) (pss_one (ps_ret pe_bl)) pss_nil)
      (pss_one (ps_ret (pe_cmpR op_eq (pe_cmpR op_isN (pe_meth (pv 6) T.Keeping_cl ⟨T.Keeping_standing_of_at, T.Keeping_standing_of_fn, T.Keeping_standing_of_F.kp⟩ G_Keeping_standing_of (hr.mono (by decide)) T.Keeping_standing_of_b .nil pass0 (pa_cons pe_str pa_nil)) pe_non (nomark _)) (pe_cmpR op_isN (pv 5) pe_non (nomark _)) (nomark _))))))))))))))))), ?_⟩
    -- the versions
    refine par_in (made_comp (i := 1) (j := 16) ?_ ?_ hl hsm (by omega) fun L0 ps H1 _ s1 l1 v1 e1 => ?_)
    · rfl
    · show 16 < 17
      decide
    refine ⟨L0, _, rfl, .inl ⟨SqL.of l1, fun sm hsm1 => ?_⟩⟩
    have s2 := s1.trans (same_new (o := .tup (ps.map vR)) hsm1)
    have d2 := hd.keep s2
    have t2 : SqT K (upd H1 sm (.tup (ps.map vR))) sm (ps.map vR) := sqT_of upd_same
    have v2 := v1.keep (same_new (o := .tup (ps.map vR)) hsm1)
    have l2 := hl.keep s2
    revert s2 d2 t2 v2 l2
    generalize upd H1 sm (.tup (ps.map vR)) = H2
    intro s2 d2 t2 v2 l2
    -- the key that is kept
    refine ⟨_, rfl, d, c, 4, n, rfl, d2, by omega, by decide, by decide, fun va H3 va0 va1 d3 b3 => ?_⟩
    refine ⟨_, rfl, d, c, 4, _, rfl, d3, by omega, by decide, by decide, fun vb H4 vb0 vb1 d4 b4 => ⟨by show 2 ≤ sizeLine; decide, fun kp hkp => ?_⟩⟩
    obtain ⟨ka, rfl⟩ := Int.eq_ofNat_of_zero_le va0
    obtain ⟨kc, rfl⟩ := Int.eq_ofNat_of_zero_le vb0
    have hk4 : Sm4 (ka, kc) := ⟨by show ka < 4; omega, by show kc < 4; omega⟩
    have b24 := b3.trans b4
    have s5 := same_new (o := .tup [V.int (ka : Int), .int (kc : Int)]) hkp
    have b25 : But d H2 (upd H4 kp (.tup [V.int (ka : Int), .int (kc : Int)])) := b24.new hkp
    have t5 := sqT_keep s5 (sqT_bd b24 d2.dict t2)
    have v5 : VL D.a_Version (upd H4 kp (.tup [V.int (ka : Int), .int (kc : Int)])) ps := fun p hp => by
      obtain ⟨dx, h⟩ := v2 p hp
      obtain ⟨o, ho⟩ := d2.dict
      exact ⟨dx, b25 _ _ h (fun e => by rw [e, ho] at h; cases h)⟩
    have l5 : KLs K (upd H4 kp (.tup [V.int (ka : Int), .int (kc : Int)])) l zs := ⟨b25 _ _ l2.1 nld, l2.2.bd b25 d2.dict⟩
    have d5 := d4.new (o := .tup [V.int (ka : Int), .int (kc : Int)]) hkp
    have k5 : SqT K (upd H4 kp (.tup [V.int (ka : Int), .int (kc : Int)])) kp (kV2 (ka, kc)) := sqT_of upd_same
    have bH5 : But d H (upd H4 kp (.tup [V.int (ka : Int), .int (kc : Int)])) := (But.of_same s2).trans b25
    revert t5 v5 l5 d5 k5 bH5
    clear s5 b25 b24
    generalize upd H4 kp (.tup [V.int (ka : Int), .int (kc : Int)]) = H5
    intro t5 v5 l5 d5 k5 bH5
    refine ⟨_, _, rfl, ?_⟩
    -- the pairs
    refine ⟨_, rfl, kp, (ka, kc), rfl, k5, hk4, fun w1 H6 s6 _ hw1 => ⟨by show 2 ≤ sizeLine; decide, fun q1 hq1 => ?_⟩⟩
    have s7 := s6.trans (same_new (o := .tup [V.str "tea", .ref w1]) hq1)
    have hw1' := hw1.keep (same_new (o := .tup [V.str "tea", .ref w1]) hq1)
    have hq1' : (upd H6 q1 (.tup [V.str "tea", .ref w1])) q1 = some (.tup [V.str "tea", .ref w1]) := upd_same
    clear hw1
    revert s7 hw1' hq1'
    generalize upd H6 q1 (.tup [V.str "tea", .ref w1]) = H7
    intro s7 hw1' hq1'
    refine ⟨by show 2 ≤ sizeLine; decide, fun t1 ht1 => ⟨t1, (1, 3), rfl, sqT_of upd_same, ⟨by decide, by decide⟩, fun w2 H8 s8 _ hw2 => ⟨by show 2 ≤ sizeLine; decide, fun q2 hq2 => ?_⟩⟩⟩
    have s9 := ((same_new ht1).trans s8).trans (same_new (o := .tup [V.str "cup", .ref w2]) hq2)
    have hw2' := hw2.keep (same_new (o := .tup [V.str "cup", .ref w2]) hq2)
    have hq2' : (upd H8 q2 (.tup [V.str "cup", .ref w2])) q2 = some (.tup [V.str "cup", .ref w2]) := upd_same
    clear hw2
    revert s9 hw2' hq2'
    generalize upd H8 q2 (.tup [V.str "cup", .ref w2]) = H9
    intro s9 hw2' hq2'
    refine ⟨by show 2 ≤ sizeLine; decide, fun t2' ht2 => ⟨t2', (0, 0), rfl, sqT_of upd_same, ⟨by decide, by decide⟩, fun w3 H10 s10 _ hw3 => ⟨by show 2 ≤ sizeLine; decide, fun q3 hq3 => ?_⟩⟩⟩
    have s11 := ((same_new ht2).trans s10).trans (same_new (o := .tup [V.str "pot", .ref w3]) hq3)
    have hw3' := hw3.keep (same_new (o := .tup [V.str "pot", .ref w3]) hq3)
    have hq3' : (upd H10 q3 (.tup [V.str "pot", .ref w3])) q3 = some (.tup [V.str "pot", .ref w3]) := upd_same
    clear hw3
    revert s11 hw3' hq3'
    generalize upd H10 q3 (.tup [V.str "pot", .ref w3]) = H11
    intro s11 hw3' hq3'
    refine ⟨by show 3 ≤ sizeLine; decide, fun pp hpp => ?_⟩
    have s12 := same_new (o := .tup [V.ref q1, .ref q2, .ref q3]) hpp
    have s912 := s11.trans s12
    have s512 := (s7.trans s9).trans s912
    have xsok : ∀ y ∈ prs q1 q2 q3 w1 w2 w3 (kR (ka, kc)) (kR (1, 3)) (kR (0, 0)), y.ok K D.a_Version (upd H11 pp (.tup [V.ref q1, .ref q2, .ref q3])) := by
      intro y hy
      rcases List.mem_cons.mp hy with rfl | hy
      · exact ⟨sqT_of ((s9.trans s912) _ _ hq1'), .inl ⟨_, rfl, by decide +kernel⟩, hw1'.keep (s9.trans s912)⟩
      rcases List.mem_cons.mp hy with rfl | hy
      · exact ⟨sqT_of (s912 _ _ hq2'), .inl ⟨_, rfl, by decide +kernel⟩, hw2'.keep s912⟩
      · rw [List.mem_singleton.mp hy]
        exact ⟨sqT_of (s12 _ _ hq3'), .inl ⟨_, rfl, by decide +kernel⟩, hw3'.keep s12⟩
    have hst : StOk K D.a_Version (upd H11 pp (.tup [V.ref q1, .ref q2, .ref q3])) (.ref pp) (prs q1 q2 q3 w1 w2 w3 (kR (ka, kc)) (kR (1, 3)) (kR (0, 0))) := ⟨pp, rfl, sqT_of upd_same, by simp, xsok, prs_stand _ _ _ _ _ _ _ _ _⟩
    clear xsok s12 s912
    revert s512 hst
    generalize upd H11 pp (.tup [V.ref q1, .ref q2, .ref q3]) = H12
    intro s512 hst
    clear hw1' hq1' hw2' hq2' hw3' hq3' s11 s10 s9 s8 s7 s6
    -- the names
    change tSeq _ _ _ [some (V.ref d), some (V.ref l), some (V.ref sm), some (V.ref kp), some (V.ref pp), none, none, none, none, none, none, none, none, none, none, none, none] _
    have t12 := sqT_keep s512 t5
    have v12 := v5.keep s512
    have l12 := l5.keep s512
    have d12 := d5.keep s512
    have k12 := sqT_keep s512 k5
    have b12 := bH5.trans (But.of_same s512)
    clear t5 v5 l5 d5 k5 bH5
    refine ⟨by show 0 ≤ sizeLine; decide, fun a0 h0 => ⟨by show 1 ≤ sizeLine; decide, fun a1 h1 => ⟨by show 2 ≤ sizeLine; decide, fun a2 h2 => ⟨by show 4 ≤ sizeLine; decide, fun ln hln => ?_⟩⟩⟩⟩
    have s13 := (((same_new (o := .tup []) h0).trans (same_new (o := .tup [V.str "tea"]) h1)).trans (same_new (o := .tup [V.str "cup", .str "no"]) h2)).trans (same_new (o := .lst [V.ref a0, .ref a1, .ref a2, .non]) hln)
    have g0 : (upd (upd (upd (upd H12 a0 (.tup [])) a1 (.tup [V.str "tea"])) a2 (.tup [V.str "cup", .str "no"])) ln (.lst [V.ref a0, .ref a1, .ref a2, .non])) a0 = some (.tup (nmL 0)) := ((same_new h1).trans ((same_new h2).trans (same_new hln))) _ _ upd_same
    have g1 : (upd (upd (upd (upd H12 a0 (.tup [])) a1 (.tup [V.str "tea"])) a2 (.tup [V.str "cup", .str "no"])) ln (.lst [V.ref a0, .ref a1, .ref a2, .non])) a1 = some (.tup (nmL 1)) := ((same_new h2).trans (same_new hln)) _ _ upd_same
    have g2 : (upd (upd (upd (upd H12 a0 (.tup [])) a1 (.tup [V.str "tea"])) a2 (.tup [V.str "cup", .str "no"])) ln (.lst [V.ref a0, .ref a1, .ref a2, .non])) a2 = some (.tup (nmL 2)) := (same_new hln) _ _ upd_same
    have g3 : (upd (upd (upd (upd H12 a0 (.tup [])) a1 (.tup [V.str "tea"])) a2 (.tup [V.str "cup", .str "no"])) ln (.lst [V.ref a0, .ref a1, .ref a2, .non])) ln = some (.lst [V.ref a0, .ref a1, .ref a2, .non]) := upd_same
    revert s13 g0 g1 g2 g3
    generalize upd (upd (upd (upd H12 a0 (.tup [])) a1 (.tup [V.str "tea"])) a2 (.tup [V.str "cup", .str "no"])) ln (.lst [V.ref a0, .ref a1, .ref a2, .non]) = H13
    intro s13 g0 g1 g2 g3
    have d13 := d12.keep s13
    have nd : ∀ {p : Addr} {xs : List V}, H13 p = some (.tup xs) → p ≠ d := fun {p xs} h e => by
      obtain ⟨o, ho⟩ := d13.dict
      rw [e, ho] at h
      cases h
    have ndl : ln ≠ d := fun e => by
      obtain ⟨o, ho⟩ := d13.dict
      rw [e, ho] at g3
      cases g3
    refine ⟨_, rfl, d, c, 4, _, rfl, d13, by omega, by decide, by decide, fun vj H14 vj0 vj1 d14 b14 => ?_⟩
    obtain ⟨j, rfl⟩ := Int.eq_ofNat_of_zero_le vj0
    have hj4 : j < 4 := by omega
    have gl := b14 _ _ g3 ndl
    obtain ⟨fr, hfr, hF⟩ : ∃ fr, atI [V.ref a0, .ref a1, .ref a2, .non] (j : Int) = some fr ∧ FrJ K H14 fr j := by
      have hj : j = 0 ∨ j = 1 ∨ j = 2 ∨ j = 3 := by omega
      rcases hj with rfl | rfl | rfl | rfl
      · exact ⟨_, atI_nat (j := 0) rfl, .inr ⟨by decide, a0, rfl, sqT_of (b14 _ _ g0 (nd g0))⟩⟩
      · exact ⟨_, atI_nat (j := 1) rfl, .inr ⟨by decide, a1, rfl, sqT_of (b14 _ _ g1 (nd g1))⟩⟩
      · exact ⟨_, atI_nat (j := 2) rfl, .inr ⟨by decide, a2, rfl, sqT_of (b14 _ _ g2 (nd g2))⟩⟩
      · exact ⟨_, atI_nat (j := 3) rfl, .inl ⟨rfl, rfl⟩⟩
    refine ⟨ln, _, _, _, rfl, rfl, SqL.of gl, hfr, ?_⟩
    have b1214 : But d H12 H14 := (But.of_same s13).trans b14
    have nev : ∀ {a : Addr} {r : Nat}, Ver D.a_Version H12 a r → Ver D.a_Version H14 a r := fun {a r} ⟨dx, h⟩ => ⟨dx, b1214 _ _ h (fun e => by
      obtain ⟨o, ho⟩ := d12.dict
      rw [e, ho] at h
      cases h)⟩
    have t14 := sqT_bd b1214 d12.dict t12
    have v14 : VL D.a_Version H14 ps := fun p hp => nev (v12 p hp)
    have l14 : KLs K H14 l zs := ⟨b1214 _ _ l12.1 nld, l12.2.bd b1214 d12.dict⟩
    have k14 := sqT_bd b1214 d12.dict k12
    have bH14 := b12.trans b1214
    have st14 : StOk K D.a_Version H14 (.ref pp) (prs q1 q2 q3 w1 w2 w3 (kR (ka, kc)) (kR (1, 3)) (kR (0, 0))) := by
      obtain ⟨a, e, h2, h3, h4, h5⟩ := hst
      refine ⟨a, e, sqT_bd b1214 d12.dict h2, h3, fun y hy => ?_, h5⟩
      have hy4 := h4 y hy
      rcases List.mem_cons.mp hy with rfl | hy
      · exact ⟨sqT_bd b1214 d12.dict hy4.1, .inl ⟨_, rfl, by decide +kernel⟩, nev hy4.2.2⟩
      rcases List.mem_cons.mp hy with rfl | hy
      · exact ⟨sqT_bd b1214 d12.dict hy4.1, .inl ⟨_, rfl, by decide +kernel⟩, nev hy4.2.2⟩
      · rw [List.mem_singleton.mp hy] at hy4 ⊢
        exact ⟨sqT_bd b1214 d12.dict hy4.1, .inl ⟨_, rfl, by decide +kernel⟩, nev hy4.2.2⟩
    clear t12 v12 l12 k12 b12 hst s13 g0 g1 g2 g3 gl nd ndl nev b1214 b14 d13 d12 hfr
    -- two of them
    change tSeq _ _ _ [some (V.ref d), some (V.ref l), some (V.ref sm), some (V.ref kp), some (V.ref pp), some fr, none, none, none, none, none, none, none, none, none, none, none] _
    refine ⟨_, rfl, _, rfl, rfl, fun x1 dx1 hx1 hdx1 hne1 => ?_⟩
    have sX1 : Same H14 (upd (upd H14 dx1 (.own x1)) x1 (.ins D.a_Keeping dx1 [])) := (same_new hdx1).trans (same_new (by rw [upd_ne hne1.symm]; exact hx1))
    refine ⟨x1, dx1, _, _, rfl, upd_same, .inr (.inr ⟨_, nmO j, st14.keep sX1, (hF.keep sX1).ok, fun sd1 H15 b15 _ hx15 hd15 => ⟨rfl, ?_⟩⟩)⟩
    have s15 : Same H14 H15 := fun b u e => b15 b u (sX1 b u e) (ne_of_none e hx1)
    have kp1 : Kp D.a_Keeping H15 x1 (keepK (nmO j) (prs q1 q2 q3 w1 w2 w3 (kR (ka, kc)) (kR (1, 3)) (kR (0, 0)))) := ⟨dx1, sd1, hx15, hd15⟩
    clear sX1 b15 hx15 hd15
    refine ⟨_, rfl, fun x2 dx2 hx2 hdx2 hne2 => ?_⟩
    have sX2 : Same H15 (upd (upd H15 dx2 (.own x2)) x2 (.ins D.a_Keeping dx2 [])) := (same_new hdx2).trans (same_new (by rw [upd_ne hne2.symm]; exact hx2))
    refine ⟨x2, dx2, _, _, rfl, upd_same, .inr (.inr ⟨_, some [], (st14.keep s15).keep sX2, .inr ⟨D.e_Keeping_init, [], rfl, dflt_sq T _, by decide, (fun y hy => nomatch hy), rfl, rfl⟩, fun sd2 H16 b16 _ hx16 hd16 => ⟨rfl, ?_⟩⟩)⟩
    have s16 : Same H15 H16 := fun b u e => b16 b u (sX2 b u e) (ne_of_none e hx2)
    have kp2 : Kp D.a_Keeping H16 x2 (keepK (some []) (prs q1 q2 q3 w1 w2 w3 (kR (ka, kc)) (kR (1, 3)) (kR (0, 0)))) := ⟨dx2, sd2, hx16, hd16⟩
    clear sX2 b16 hx16 hd16
    refine ⟨_, _, rfl, ?_⟩
    -- is it kept
    change tSeq _ _ _ [some (V.ref d), some (V.ref l), some (V.ref sm), some (V.ref kp), some (V.ref pp), some fr, some (V.ref x1), some (V.ref x2), none, none, none, none, none, none, none, none, none] _
    refine asg_in (kept_or (fr := fr) ?_ hj4 ((hF.keep s15).keep s16) fun H17 s17 => ?_)
    · rfl
    have s1417 := (s15.trans s16).trans s17
    have ka17 := kp1.keep (s16.trans s17)
    have kb17 := kp2.keep s17
    clear kp1 kp2
    -- what is due
    change tSeq _ _ _ [some (V.ref d), some (V.ref l), some (V.ref sm), some (V.ref kp), some (V.ref pp), some fr, some (V.ref x1), some (V.ref x2), some (V.bl (kb j)), none, none, none, none, none, none, none, none] _
    refine ⟨_, rfl, by show 0 ≤ sizeLine; decide, fun e1' he1 => ⟨l, e1', zs, [], 0, rfl, (l14.keep s1417).keep (same_new he1), ⟨upd_same, fun z hz => nomatch hz⟩, by decide, fun r1 rs1 H18 s18 _ hr1 er1 => ?_⟩⟩
    have s1418 := s1417.trans ((same_new he1).trans s18)
    refine ⟨_, rfl, by show 0 ≤ sizeLine; decide, fun e2' he2 => ⟨l, e2', zs, [], 1, rfl, (l14.keep s1418).keep (same_new he2), ⟨upd_same, fun z hz => nomatch hz⟩, by decide, fun r2 rs2 H19 s19 _ hr2 er2 => ?_⟩⟩
    have s1819 := (same_new he2).trans s19
    have s1419 := s1418.trans s1819
    refine ⟨_, rfl, skip_c (one_in (first_list (b := kb j) (kp := kp) (k := (ka, kc)) ?_ ?_ (sqT_keep s1419 k14) fun f3 fs3 H20 s20 hf3 ef3 => ⟨l, f3, zs, fs3, 2, rfl, (l14.keep s1419).keep s20, hf3, by decide, fun r3 rs3 H21 s21 _ hr3 er3 => ?_⟩))⟩
    · rfl
    · rfl
    have s1921 := s20.trans s21
    have s1421 := s1419.trans s1921
    rw [ef3] at er3
    refine ⟨by show 3 ≤ sizeLine; decide, fun L3 hL3 => ?_⟩
    have g3 : (upd H21 L3 (.lst [V.ref r1, .ref r2, .ref r3])) L3 = some (.lst [V.ref r1, .ref r2, .ref r3]) := upd_same
    have s1422 := s1421.trans (same_new (o := .lst [V.ref r1, .ref r2, .ref r3]) hL3)
    have hr1' := hr1.keep ((s1819.trans s1921).trans (same_new (o := .lst [V.ref r1, .ref r2, .ref r3]) hL3))
    have hr2' := hr2.keep (s1921.trans (same_new (o := .lst [V.ref r1, .ref r2, .ref r3]) hL3))
    have hr3' := hr3.keep (same_new (o := .lst [V.ref r1, .ref r2, .ref r3]) hL3)
    have ka22 := ka17.keep (((same_new he1).trans s18).trans ((s1819.trans s1921).trans (same_new (o := .lst [V.ref r1, .ref r2, .ref r3]) hL3)))
    have kb22 := kb17.keep (((same_new he1).trans s18).trans ((s1819.trans s1921).trans (same_new (o := .lst [V.ref r1, .ref r2, .ref r3]) hL3)))
    clear ka17 kb17 hr1 hr2 hr3 s1417 s1418 s1819 s1419 s1921 s1421 s18 s19 s20 s21 hf3
    revert g3 s1422 hr1' hr2' hr3' ka22 kb22
    generalize upd H21 L3 (.lst [V.ref r1, .ref r2, .ref r3]) = H22
    intro g3 s1422 hr1' hr2' hr3' ka22 kb22
    change tSeq _ _ _ [some (V.ref d), some (V.ref l), some (V.ref sm), some (V.ref kp), some (V.ref pp), some fr, some (V.ref x1), some (V.ref x2), some (V.bl (kb j)), some (V.ref L3), none, none, none, none, none, none, none] _
    refine ⟨_, rfl, _, rfl, _, rfl, by show 1 ≤ sizeLine; decide, fun e4' he4 => ⟨l, e4', zs, [(kp, (ka, kc))], 2, rfl, (l14.keep s1422).keep (same_new he4), ⟨upd_same, fun z hz => ?_⟩, by decide, fun r4 rs4 H23 s23 _ hr4 er4 => ?_⟩⟩
    · rw [List.mem_singleton.mp hz]
      exact sqT_keep (s1422.trans (same_new he4)) k14
    have s2223 := (same_new he4).trans s23
    refine ⟨_, rfl, by show 0 ≤ sizeLine; decide, fun e5' he5 => ⟨l, e5', zs, [], 0, rfl, (l14.keep (s1422.trans s2223)).keep (same_new he5), ⟨upd_same, fun z hz => nomatch hz⟩, by decide, fun r5 rs5 H24 s24 _ hr5 er5 => ?_⟩⟩
    have s2324 := (same_new he5).trans s24
    have s2224 := s2223.trans s2324
    refine ⟨by show 2 ≤ sizeLine; decide, fun L2' hL2' => ⟨L3, L2', _, _, rfl, rfl, (s2224.trans (same_new hL2')) _ _ g3, upd_same, by show 5 ≤ sizeLine; decide, fun Ld hLd => ?_⟩⟩
    have sE := (same_new (o := .lst [V.ref r4, .ref r5]) hL2').trans (same_new (o := .lst ([V.ref r1, .ref r2, .ref r3] ++ [V.ref r4, .ref r5])) hLd)
    have gd : (upd (upd H24 L2' (.lst [V.ref r4, .ref r5])) Ld (.lst ([V.ref r1, .ref r2, .ref r3] ++ [V.ref r4, .ref r5]))) Ld = some (.lst [V.ref r1, .ref r2, .ref r3, .ref r4, .ref r5]) := upd_same
    have s25 := s1422.trans (s2224.trans sE)
    have ka25 := ka22.keep (s2224.trans sE)
    have kb25 := kb22.keep (s2224.trans sE)
    clear ka22 kb22
    have c1 := hr1'.keep (s2224.trans sE)
    have c2 := hr2'.keep (s2224.trans sE)
    have c3 := hr3'.keep (s2224.trans sE)
    have c4 := hr4.keep (s2324.trans sE)
    have c5 := hr5.keep sE
    clear hr1' hr2' hr3' hr4 hr5 g3 s2223 s2324 s2224 s23 s24 s1422
    revert sE gd s25 c1 c2 c3 c4 c5 ka25 kb25
    generalize upd (upd H24 L2' (.lst [V.ref r4, .ref r5])) Ld (.lst ([V.ref r1, .ref r2, .ref r3] ++ [V.ref r4, .ref r5])) = H25
    intro sE gd s25 ka25 kb25 c1 c2 c3 c4 c5
    clear sE
    -- the tastes
    change tSeq _ _ _ [some (V.ref d), some (V.ref l), some (V.ref sm), some (V.ref kp), some (V.ref pp), some fr, some (V.ref x1), some (V.ref x2), some (V.bl (kb j)), some (V.ref Ld), none, none, none, none, none, none, none] _
    intro n1 dn1 hn1 hdn1 hne1'
    have u1 : Same H25 (upd (upd H25 dn1 (.own n1)) n1 (.ins D.a_Newest dn1 [])) := (same_new hdn1).trans (same_new (by rw [upd_ne hne1'.symm]; exact hn1))
    have i1 : (upd (upd H25 dn1 (.own n1)) n1 (.ins D.a_Newest dn1 [])) n1 = some (.ins D.a_Newest dn1 []) := upd_same
    revert u1 i1
    generalize upd (upd H25 dn1 (.own n1)) n1 (.ins D.a_Newest dn1 []) = H26
    intro u1 i1
    intro n2 dn2 hn2 hdn2 hne2'
    have u2 : Same H26 (upd (upd H26 dn2 (.own n2)) n2 (.ins D.a_Oldest dn2 [])) := (same_new hdn2).trans (same_new (by rw [upd_ne hne2'.symm]; exact hn2))
    have i2 : (upd (upd H26 dn2 (.own n2)) n2 (.ins D.a_Oldest dn2 [])) n2 = some (.ins D.a_Oldest dn2 []) := upd_same
    revert u2 i2
    generalize upd (upd H26 dn2 (.own n2)) n2 (.ins D.a_Oldest dn2 []) = H27
    intro u2 i2
    refine ⟨_, _, rfl, ?_⟩
    have i1' := u2 _ _ i1
    have s27 := s25.trans (u1.trans u2)
    have ka27 := ka25.keep (u1.trans u2)
    have kb27 := kb25.keep (u1.trans u2)
    clear ka25 kb25
    -- what they tell
    change tSeq _ _ _ [some (V.ref d), some (V.ref l), some (V.ref sm), some (V.ref kp), some (V.ref pp), some fr, some (V.ref x1), some (V.ref x2), some (V.bl (kb j)), some (V.ref Ld), some (V.ref n1), some (V.ref n2), none, none, none, none, none] _
    have plen : ps.length ≤ 40 := by
      have h := congrArg List.length e1
      rw [List.length_map, List.length_map] at h
      omega
    have pk : ps.map (·.2) = (zs.map (·.2)).map kR := by rw [e1, List.map_map]; rfl
    have hsk : ∀ k ∈ zs.map (·.2), Sm4 k := fun k hk => by
      obtain ⟨z, hz, rfl⟩ := List.mem_map.mp hk
      exact hsm z hz
    have w14 : ∀ {H' : Hp}, Same H14 H' → Ver D.a_Version H' w1 (kR (ka, kc)) := fun {H'} s => by
      obtain ⟨a, _, _, _, h4, _⟩ := st14
      exact (h4 _ List.mem_cons_self).2.2.keep s
    refine ⟨_, rfl, n1, rfl, _, rfl, .inr ⟨dn1, [], i1'⟩, n1, _, sm, ps, rfl, sqT_keep s27 t14, plen, v14.keep s27, fun t1' qs1 H28 s28 _ ht1 hv1 ho1 => ?_⟩
    refine ⟨_, rfl, n2, rfl, _, rfl, .inr ⟨dn2, [], s28 _ _ i2⟩, n2, _, sm, ps, rfl, sqT_keep (s27.trans s28) t14, plen, v14.keep (s27.trans s28), fun t2' qs2 H29 s29 _ ht2 hv2 ho2 => ?_⟩
    have s1429 := (s27.trans s28).trans s29
    have s2729 := s28.trans s29
    have stA : ∀ {H' : Hp}, Same H14 H' → StV D.a_Version H' (gotV (keepK (nmO j) (prs q1 q2 q3 w1 w2 w3 (kR (ka, kc)) (kR (1, 3)) (kR (0, 0)))) "tea") (if kb j = true then some (kR (ka, kc)) else none) := fun {H'} s => by
      rw [prs_tea _ _ _ _ _ _ _ _ _ j hj4]
      cases kb j with
      | true => exact .inr ⟨w1, _, rfl, w14 s, rfl⟩
      | false => exact .inl ⟨rfl, rfl⟩
    have stB : ∀ {H' : Hp}, Same H14 H' → StV D.a_Version H' (gotV (keepK (some []) (prs q1 q2 q3 w1 w2 w3 (kR (ka, kc)) (kR (1, 3)) (kR (0, 0)))) "tea") (if true = true then some (kR (ka, kc)) else none) := fun {H'} s => by
      rw [prs_tea0]
      exact .inr ⟨w1, _, rfl, w14 s, rfl⟩
    have stC : ∀ {H' : Hp}, Same H14 H' → StV D.a_Version H' (gotV (keepK (some []) (prs q1 q2 q3 w1 w2 w3 (kR (ka, kc)) (kR (1, 3)) (kR (0, 0)))) "no") (if false = true then some (kR (ka, kc)) else none) := fun {H'} s => by
      rw [prs_no0]
      exact .inl ⟨rfl, rfl⟩
    obtain ⟨dk1, sk1, ik1, _⟩ := id ka27
    obtain ⟨dk2, sk2, ik2, _⟩ := id kb27
    refine ⟨_, rfl, x1, rfl, _, rfl, .inr ⟨dk1, _, s2729 _ _ ik1⟩, x1, _, sm, ps, _, _, rfl, ka27.keep s2729, stA s1429, sqT_keep s1429 t14, plen, v14.keep s1429, fun t3' qs3 rest3 H30 s30 ht3 hv3 ho3 eq3 => ?_⟩
    have s2730 := s2729.trans s30
    have s1430 := s1429.trans s30
    refine ⟨_, rfl, x2, rfl, _, rfl, .inr ⟨dk2, _, s2730 _ _ ik2⟩, x2, _, sm, ps, _, _, rfl, kb27.keep s2730, stB s1430, sqT_keep s1430 t14, plen, v14.keep s1430, fun t4' qs4 rest4 H31 s31 ht4 hv4 ho4 eq4 => ?_⟩
    have s2731 := s2730.trans s31
    have s1431 := s1430.trans s31
    refine ⟨_, rfl, x2, rfl, _, rfl, .inr ⟨dk2, _, s2731 _ _ ik2⟩, x2, _, sm, ps, _, _, rfl, kb27.keep s2731, stC s1431, sqT_keep s1431 t14, plen, v14.keep s1431, fun t5' qs5 rest5 H32 s32 ht5 hv5 ho5 eq5 => ?_⟩
    have s1432 := s1431.trans s32
    refine ⟨by show 5 ≤ sizeLine; decide, fun Lt hLt => ?_⟩
    change tSeq _ _ _ [some (V.ref d), some (V.ref l), some (V.ref sm), some (V.ref kp), some (V.ref pp), some fr, some (V.ref x1), some (V.ref x2), some (V.bl (kb j)), some (V.ref Ld), some (V.ref n1), some (V.ref n2), some (V.ref Lt), none, none, none, none] _
    have gt : (upd H32 Lt (.lst [V.ref t1', .ref t2', .ref t3', .ref t4', .ref t5'])) Lt = some (.lst [V.ref t1', .ref t2', .ref t3', .ref t4', .ref t5']) := upd_same
    have sL := same_new (o := .lst [V.ref t1', .ref t2', .ref t3', .ref t4', .ref t5']) hLt
    have s2732 := s2731.trans s32
    have hrel : ∀ (i : Nat) (x y : V), [V.ref t1', .ref t2', .ref t3', .ref t4', .ref t5'][i]? = some x → [V.ref r1, .ref r2, .ref r3, .ref r4, .ref r5][i]? = some y → RelT K D.a_Version (upd H32 Lt (.lst [V.ref t1', .ref t2', .ref t3', .ref t4', .ref t5'])) x y := by
      rw [pk] at ho1 ho2 ho3 ho4 ho5 eq3 eq4 eq5
      have sK := (u1.trans u2).trans (s2732.trans sL)
      intro i x y hx hy
      match i, hx, hy with
      | 0, hx, hy =>
        obtain rfl := Option.some.inj hx
        obtain rfl := Option.some.inj hy
        exact mkRel (sqT_of (((s29.trans s30).trans ((s31.trans s32).trans sL)) _ _ ht1)) (hv1.keep ((s29.trans s30).trans ((s31.trans s32).trans sL))) (c1.keep sK) er1 (rank_new hsk hnd ho1)
      | 1, hx, hy =>
        obtain rfl := Option.some.inj hx
        obtain rfl := Option.some.inj hy
        exact mkRel (sqT_of ((s30.trans ((s31.trans s32).trans sL)) _ _ ht2)) (hv2.keep (s30.trans ((s31.trans s32).trans sL))) (c2.keep sK) er2 (rank_new hsk hnd ho2)
      | 2, hx, hy =>
        obtain rfl := Option.some.inj hx
        obtain rfl := Option.some.inj hy
        exact mkRel (sqT_keep ((s31.trans s32).trans sL) ht3) (hv3.keep ((s31.trans s32).trans sL)) (c3.keep sK) er3 (eq3.trans (rank_keep hsk hnd hk4 rfl ho3))
      | 3, hx, hy =>
        obtain rfl := Option.some.inj hx
        obtain rfl := Option.some.inj hy
        exact mkRel (sqT_keep (s32.trans sL) ht4) (hv4.keep (s32.trans sL)) (c4.keep sK) er4 (eq4.trans (rank_keep (b := true) hsk hnd hk4 rfl ho4))
      | 4, hx, hy =>
        obtain rfl := Option.some.inj hx
        obtain rfl := Option.some.inj hy
        refine mkRel (sqT_keep sL ht5) (hv5.keep sL) (c5.keep sK) er5 (eq5.trans ((rank_keep (b := false) hsk hnd hk4 rfl ho5).trans ?_))
        show ((thr (zs.map (·.2)) []).map kR) = ((ris (zs.map (·.2))).reverse).map kR
        rw [filt_nil]
      | n + 5, hx, hy => exact absurd hx (by simp)
    have s14 : Same H14 (upd H32 Lt (.lst [V.ref t1', .ref t2', .ref t3', .ref t4', .ref t5'])) := s1432.trans sL
    have gd' := (((u1.trans u2).trans (s2732.trans sL))) _ _ gd
    have i1L := (s2732.trans sL) _ _ i1'
    have i2L := (s2732.trans sL) _ _ i2
    have kaL := ka27.keep (s2732.trans sL)
    have kbL := kb27.keep (s2732.trans sL)
    clear stA stB stC c1 c2 c3 c4 c5 er1 er2 er3 er4 er5 ho1 ho2 ho3 ho4 ho5 eq3 eq4 eq5 ht1 ht2 ht3 ht4 ht5 hv1 hv2 hv3 hv4 hv5 s28 s29 s30 s31 s32 s2729 s2730 s2731 s2732 s1429 s1430 s1431 s1432 s27 ka27 kb27 ik1 ik2 i1' i2 i1 u1 u2 gd s25 sL
    revert gt hrel s14 gd' i1L i2L kaL kbL
    generalize upd H32 Lt (.lst [V.ref t1', .ref t2', .ref t3', .ref t4', .ref t5']) = H33
    intro gt hrel s14 gd' i1L i2L kaL kbL
    -- told and due, one by one
    refine ⟨_, rfl, _, rfl, Lt, Ld, _, _, rfl, .inl ⟨SqL.of gt, SqL.of gd', RZ.for_zipL (K := K) (xs := [V.ref t1', .ref t2', .ref t3', .ref t4', .ref t5']) (ys := [V.ref r1, .ref r2, .ref r3, .ref r4, .ref r5]) rfl (fun i σ H' => Same H33 H' ∧ ∃ u v x : Option V, σ = [some (.ref d), some (.ref l), some (.ref sm), some (.ref kp), some (.ref pp), some fr, some (.ref x1), some (.ref x2), some (.bl (kb j)), some (.ref Ld), some (.ref n1), some (.ref n2), some (.ref Lt), u, v, none, x]) ⟨Same.refl _, _, _, _, rfl⟩ (fun i σ H' h => ⟨SqL.of (h.1 _ _ gt), SqL.of (h.1 _ _ gd')⟩) ?_ ?_⟩⟩
    · rintro i x y T' σ H' hx hy ⟨s', u, v, z, rfl⟩ hT'
      have sT := s'.trans (same_new (o := .tup [x, y]) hT')
      obtain ⟨t, qs, r, rs, rfl, rfl, a1, a2, a3, a4, a5, a6⟩ := (hrel i x y hx hy).keep sT
      refine ⟨T', _, rfl, sqT_of upd_same, rfl, _, _, rfl, _, _, rfl, rfl, ?_⟩
      refine ⟨_, rfl, .ref t, .ty "tuple", .type "tuple", .type "tuple", true, rfl, .ty _, ty_tup a1, kit_ty (by decide +kernel), true, rfl, iteF ?_⟩
      refine ⟨_, rfl, t, _, rfl, .inr a1, fun lc hlc => ?_⟩
      have sC := same_new (o := .lst (qs.map vR)) hlc
      refine made_comp (i := 14) (j := 16) ?_ ?_ (a3.keep sC) a4 a5 fun DD pn H3 _ s3 h3 v3 e3 => ?_
      · rfl
      · show 16 < 17
        decide
      refine ⟨⟨lc, DD, _, _, rfl, rfl, s3 _ _ upd_same, h3, prs_of ((a2.keep sC).keep s3) v3 (a6.trans e3.symm)⟩, fun H4 e4 => ⟨_, rfl, iteF ⟨(sT.trans sC).trans (s3.trans e4), _, _, _, rfl⟩⟩⟩
    · rintro σ H34 ⟨s34, u, v, z, rfl⟩
      -- what stands by the simple tastes
      change tSeq _ _ _ [some (V.ref d), some (.ref l), some (.ref sm), some (.ref kp), some (.ref pp), some fr, some (.ref x1), some (.ref x2), some (.bl (kb j)), some (.ref Ld), some (.ref n1), some (.ref n2), some (.ref Lt), u, v, none, z] _
      have i1M := s34 _ _ i1L
      have i2M := s34 _ _ i2L
      have kaM := kaL.keep s34
      have kbM := kbL.keep s34
      have s1434 := s14.trans s34
      clear hrel gt gd' s14 s34 i1L i2L kaL kbL
      refine ⟨by show 4 ≤ sizeLine; decide, fun tp htp => ⟨tp, rfl, ⟨_, sqT_of upd_same⟩, for_tup (K := K) (xs := [V.str "tea", .str "no", .int 5, .non]) (fun i σ H' => Same (upd H34 tp (.tup [V.str "tea", .str "no", .int 5, .non])) H' ∧ ∃ x : Option V, σ = [some (.ref d), some (.ref l), some (.ref sm), some (.ref kp), some (.ref pp), some fr, some (.ref x1), some (.ref x2), some (.bl (kb j)), some (.ref Ld), some (.ref n1), some (.ref n2), some (.ref Lt), u, v, x, z]) ⟨Same.refl _, _, rfl⟩ (fun i σ H' _ h => sqT_keep h.1 (sqT_of upd_same)) ?_ ?_⟩⟩
      · rintro i y σ H' hi ⟨s', x, rfl⟩
        have sN := (same_new (o := .tup [V.str "tea", .str "no", .int 5, .non]) htp).trans s'
        refine ⟨_, rfl, n1, dn1, [], rfl, sN _ _ i1M, rfl, _, rfl, _, _, rfl, rfl, _, rfl, iteF ?_⟩
        exact ⟨_, rfl, n2, dn2, [], rfl, sN _ _ i2M, rfl, _, rfl, _, _, rfl, rfl, _, rfl, iteF ⟨s', _, rfl⟩⟩
      · rintro σ H35 ⟨s35', x, rfl⟩
        have s35 := (same_new (o := .tup [V.str "tea", .str "no", .int 5, .non]) htp).trans s35'
        have kaN := kaM.keep s35
        have kbN := kbM.keep s35
        have s1435 := s1434.trans s35
        clear s35 s35' kaM kbM s1434 i1M i2M
        change tSeq _ _ _ [some (V.ref d), some (.ref l), some (.ref sm), some (.ref kp), some (.ref pp), some fr, some (.ref x1), some (.ref x2), some (.bl (kb j)), some (.ref Ld), some (.ref n1), some (.ref n2), some (.ref Lt), u, v, x, z] _
        obtain ⟨dk1, sk1, ik1, ik1'⟩ := id kaN
        obtain ⟨dk2, sk2, ik2, ik2'⟩ := id kbN
        -- the kept version
        refine ⟨_, rfl, x2, dk2, _, rfl, ik2, rfl, x2, _, _, rfl, kbN, .inl ⟨_, rfl, ?_⟩⟩
        rw [prs_tea0]
        refine ⟨_, rfl, kp, (ka, kc), rfl, sqT_keep s1435 k14, hk4, fun w4 H36 s36 _ hw4 => ?_⟩
        obtain ⟨da, ha⟩ := (w14 s1435).keep s36
        obtain ⟨db, hb⟩ := hw4
        refine ⟨w1, da, _, w4, db, _, rfl, rfl, ha, hb, w1, _, _, rfl, ⟨da, ha⟩, .inl ⟨w4, _, rfl, ⟨db, hb⟩, ?_⟩⟩
        rw [decide_eq_true rfl]
        refine ⟨_, rfl, _, rfl, iteF ?_⟩
        refine ⟨_, rfl, x2, dk2, _, rfl, s36 _ _ ik2, rfl, x2, _, _, rfl, kbN.keep s36, .inl ⟨_, rfl, ?_⟩⟩
        rw [prs_no0]
        refine ⟨rfl, _, rfl, iteF ?_⟩
        -- a list is no name
        refine ⟨_, rfl, x2, dk2, _, rfl, s36 _ _ ik2, rfl, by show 1 ≤ sizeLine; decide, fun lq hlq => ?_⟩
        have s37 := s36.trans (same_new (o := .lst [V.str "tea"]) hlq)
        refine ⟨x2, _, _, rfl, kbN.keep s37, .inr ⟨"list", .base (.lst upd_same), by decide +kernel, rfl, _, rfl, iteF ?_⟩⟩
        have bF : But d H (upd H36 lq (.lst [V.str "tea"])) := bH14.trans (But.of_same (s1435.trans s37))
        have dF := d14.keep (s1435.trans s37)
        refine ⟨_, rfl, x1, dk1, _, rfl, s37 _ _ ik1, rfl, x1, _, _, rfl, kaN.keep s37, .inl ⟨_, rfl, ?_⟩⟩
        rw [prs_tea _ _ _ _ _ _ _ _ _ j hj4]
        have fin : ∀ (x' : V), x' = (if kb j = true then V.ref w1 else .non) → (!decide (x' = V.non)) = kb j := by
          rintro x' rfl
          cases kb j <;> rfl
        refine ⟨rfl, _, rfl, rfl, _, rfl, ?_⟩
        rw [fin _ rfl]
        rw [decide_eq_true rfl]
        refine iteF ⟨_, rfl, x1, dk1, _, rfl, s37 _ _ ik1, rfl, x1, _, _, rfl, kaN.keep s37, .inl ⟨_, rfl, ?_⟩⟩
        rw [prs_pot _ _ _ _ _ _ _ _ _ j hj4]
        have both : decide ((if j = 3 then V.non else V.ref w3) = V.non) = decide (fr = V.non) := by
          rcases hF with ⟨e, rfl⟩ | ⟨h3, a, rfl, _⟩
          · rw [if_pos e]
          · rw [if_neg (by omega)]
            exact decide_eq_decide.mpr ⟨(fun e => nomatch e), (fun e => nomatch e)⟩
        refine ⟨rfl, _, rfl, rfl, rfl, ?_⟩
        rw [both, decide_eq_true rfl]
        exact q _ bF dF
end

/-! ## Tastes: wrong things, odd things -/
section
variable {P : Program} {w : World} {K : PySem.W.Frag} {mg : Str → Option Value} {base : Heap} {D : Ad}
open TL SX KX
theorem kit_tup {C : Addr} (h : PySem.W.subIn K (.ref C) (.type "tuple") = some false) : PySem.W.kitOne K (.ref C) (.type "tuple") = some false := by
  unfold PySem.W.kitOne
  rw [if_neg (by simp)]
  show (if PySem.W.kitMeta "tuple" = true then PySem.W.subIn K (.ref C) (.type "tuple") else none) = _
  rw [if_pos (by decide +kernel), h]
/-- what was made stands, and the draws -/
def Wd (d c n : Nat) (H : Hp) (L : List (Addr × HO)) : Prop := Dr H d c n ∧ ∀ p ∈ L, H p.1 = some p.2 ∧ ∀ kv, p.2 ≠ .dK kv
theorem Wd.new {d c n : Nat} {H : Hp} {L : List (Addr × HO)} {a : Addr} {o : HO} (h : Wd d c n H L) (ha : H a = none) (no : ∀ kv, o ≠ .dK kv) : Wd d c n (upd H a o) ((a, o) :: L) := by
  refine ⟨h.1.new ha, fun p hp => ?_⟩
  rcases List.mem_cons.mp hp with rfl | hp
  · exact ⟨upd_same, no⟩
  · exact ⟨(same_new ha) _ _ (h.2 p hp).1, (h.2 p hp).2⟩
theorem Wd.same {d c n : Nat} {H H' : Hp} {L : List (Addr × HO)} (h : Wd d c n H L) (s : Same H H') : Wd d c n H' L := ⟨h.1.keep s, fun p hp => ⟨s _ _ (h.2 p hp).1, (h.2 p hp).2⟩⟩
theorem Wd.but {d c n m : Nat} {H H' : Hp} {L : List (Addr × HO)} (h : Wd d c n H L) (b : But d H H') (dr : Dr H' d c m) : Wd d c m H' L := by
  obtain ⟨o, ho⟩ := h.1.dict
  refine ⟨dr, fun p hp => ⟨b _ _ (h.2 p hp).1 (fun e => ?_), (h.2 p hp).2⟩⟩
  have h1 := h.2 p hp
  rw [e, ho] at h1
  exact h1.2 _ (Option.some.inj h1.1).symm
/-- a thing that is itself -/
def Self (K : PySem.W.Frag) (H : Hp) (x : V) : Prop := x = .non ∨ (∃ i, x = .int i) ∨ ∃ a xs, x = .ref a ∧ (SqL K H a xs ∨ SqT K H a xs) ∧ ∀ v ∈ xs, flatB v = true ∨ ∃ p, v = .ref p
theorem tea_th {H : Hp} {t : Str} (h : t.length ≤ 200) : Th K H (.str t) := .inl ⟨t, rfl, h⟩
theorem wrong_ok (T : Tex K mg D) {H : Hp} {a1 b1 a2 b2 a3 a4 b3 a5 b5 a6 b6 a7 b7 a8 b8 b9 vo : Addr} {ro : Nat} (hv : Ver D.a_Version H vo ro)
    (A1 : H a1 = some (.tup [.str "tea", .ref vo])) (B1 : H b1 = some (.lst [.ref a1])) (A2 : H a2 = some (.tup [.str "tea", .str "1"])) (B2 : H b2 = some (.tup [.ref a2])) (A3 : H a3 = some (.tup [.str "tea", .ref vo])) (A4 : H a4 = some (.tup [.str "tea", .ref vo])) (B3 : H b3 = some (.tup [.ref a3, .ref a4]))
    (A5 : H a5 = some (.tup [.str "Tea", .ref vo])) (B5 : H b5 = some (.tup [.ref a5])) (A6 : H a6 = some (.tup [.str "tea"])) (B6 : H b6 = some (.tup [.ref a6])) (A7 : H a7 = some (.tup [.int 5, .ref vo])) (B7 : H b7 = some (.tup [.ref a7])) (A8 : H a8 = some (.lst [.str "tea", .ref vo])) (B8 : H b8 = some (.tup [.ref a8])) (B9 : H b9 = some (.tup [.str "tea", .ref vo])) :
    ∀ (j : Nat) (x : V), [V.non, .ref b1, .ref b2, .ref b3, .ref b5, .ref b6, .ref b7, .int 5, .ref b8, .ref b9][j]? = some x → StBad K D.a_Version H x ∧ Self K H x := by
  intro j x hx
  have t3 : (("tea" : String) : Str).length ≤ 200 := by decide +kernel
  match j, hx with
  | 0, hx =>
    obtain rfl := Option.some.inj hx
    exact ⟨.inl ⟨_, .base .non, by decide +kernel⟩, .inl rfl⟩
  | 1, hx =>
    obtain rfl := Option.some.inj hx
    exact ⟨.inl ⟨_, .base (.lst B1), by decide +kernel⟩, .inr (.inr ⟨b1, _, rfl, .inl (SqL.of B1), fun v hv => .inr ⟨a1, List.mem_singleton.mp hv⟩⟩)⟩
  | 2, hx =>
    obtain rfl := Option.some.inj hx
    refine ⟨.inr ⟨b2, [.odd a2 (.str "tea") (.str "1")], rfl, sqT_of B2, by simp, fun y hy => ?_, by kernel_rfl⟩, .inr (.inr ⟨b2, _, rfl, .inr (sqT_of B2), fun v hv => .inr ⟨a2, List.mem_singleton.mp hv⟩⟩)⟩
    rw [List.mem_singleton.mp hy]
    exact ⟨sqT_of A2, tea_th t3, "str", .base (.str _), by decide +kernel⟩
  | 3, hx =>
    obtain rfl := Option.some.inj hx
    refine ⟨.inr ⟨b3, [.pair a3 (.str "tea") vo ro, .pair a4 (.str "tea") vo ro], rfl, sqT_of B3, by simp, fun y hy => ?_, by kernel_rfl⟩, .inr (.inr ⟨b3, _, rfl, .inr (sqT_of B3), fun v hv => ?_⟩)⟩
    · rcases List.mem_cons.mp hy with rfl | hy
      · exact ⟨sqT_of A3, tea_th t3, hv⟩
      · rw [List.mem_singleton.mp hy]
        exact ⟨sqT_of A4, tea_th t3, hv⟩
    · rcases List.mem_cons.mp hv with rfl | hv
      · exact .inr ⟨_, rfl⟩
      · exact .inr ⟨_, List.mem_singleton.mp hv⟩
  | 4, hx =>
    obtain rfl := Option.some.inj hx
    refine ⟨.inr ⟨b5, [.pair a5 (.str "Tea") vo ro], rfl, sqT_of B5, by simp, fun y hy => ?_, by kernel_rfl⟩, .inr (.inr ⟨b5, _, rfl, .inr (sqT_of B5), fun v hv => .inr ⟨a5, List.mem_singleton.mp hv⟩⟩)⟩
    rw [List.mem_singleton.mp hy]
    exact ⟨sqT_of A5, tea_th (by decide +kernel), hv⟩
  | 5, hx =>
    obtain rfl := Option.some.inj hx
    refine ⟨.inr ⟨b6, [.none (.ref a6)], rfl, sqT_of B6, by simp, fun y hy => ?_, by kernel_rfl⟩, .inr (.inr ⟨b6, _, rfl, .inr (sqT_of B6), fun v hv => .inr ⟨a6, List.mem_singleton.mp hv⟩⟩)⟩
    rw [List.mem_singleton.mp hy]
    exact .inr ⟨a6, _, rfl, sqT_of A6, by decide⟩
  | 6, hx =>
    obtain rfl := Option.some.inj hx
    refine ⟨.inr ⟨b7, [.pair a7 (.int 5) vo ro], rfl, sqT_of B7, by simp, fun y hy => ?_, by kernel_rfl⟩, .inr (.inr ⟨b7, _, rfl, .inr (sqT_of B7), fun v hv => .inr ⟨a7, List.mem_singleton.mp hv⟩⟩)⟩
    rw [List.mem_singleton.mp hy]
    exact ⟨sqT_of A7, .inr ⟨(fun t e => nomatch e), "int", .base (.int 5), by decide +kernel⟩, hv⟩
  | 7, hx =>
    obtain rfl := Option.some.inj hx
    exact ⟨.inl ⟨_, .base (.int 5), by decide +kernel⟩, .inr (.inl ⟨5, rfl⟩)⟩
  | 8, hx =>
    obtain rfl := Option.some.inj hx
    refine ⟨.inr ⟨b8, [.none (.ref a8)], rfl, sqT_of B8, by simp, fun y hy => ?_, by kernel_rfl⟩, .inr (.inr ⟨b8, _, rfl, .inr (sqT_of B8), fun v hv => .inr ⟨a8, List.mem_singleton.mp hv⟩⟩)⟩
    rw [List.mem_singleton.mp hy]
    exact .inl ⟨_, .base (.lst A8), kit_ty (by decide +kernel)⟩
  | 9, hx =>
    obtain rfl := Option.some.inj hx
    refine ⟨.inr ⟨b9, [.none (.str "tea"), .none (.ref vo)], rfl, sqT_of B9, by simp, fun y hy => ?_, by kernel_rfl⟩, .inr (.inr ⟨b9, _, rfl, .inr (sqT_of B9), fun v hv => ?_⟩)⟩
    · rcases List.mem_cons.mp hy with rfl | hy
      · exact .inl ⟨_, .base (.str _), kit_ty (by decide +kernel)⟩
      · rw [List.mem_singleton.mp hy]
        exact .inl ⟨_, ver_tyx T hv, kit_tup T.Version_tup_s⟩
    · rcases List.mem_cons.mp hv with rfl | hv
      · exact .inl rfl
      · exact .inr ⟨_, List.mem_singleton.mp hv⟩
  | k + 10, hx => exact absurd hx (by simp)
theorem odd_ok {H : Hp} {c1 c2 c3 c5 c7 c8 : Addr} (C1 : H c1 = some (.lst [.str "tea"])) (C2 : H c2 = some (.tup [.str "Tea"])) (C3 : H c3 = some (.tup [.int 5])) (C5 : H c5 = some (.tup [.str "tea", .non])) (C7 : H c7 = some (.tup [.str "tea"])) (C8 : H c8 = some (.tup [.ref c7])) :
    ∀ (j : Nat) (x : V), [V.str "tea", .ref c1, .ref c2, .ref c3, .int 5, .ref c5, .bl true, .ref c8][j]? = some x → FrBad K H x ∧ (flatB x = true ∨ ∃ p, x = .ref p) := by
  intro j x hx
  have noT : ∀ {y : V} {ty : String}, TyX K H y (.type ty) → kitB ty "str" = some false → (∀ t, y ≠ .str t) → Th K H y := fun h1 h2 h3 => .inr ⟨h3, _, h1, h2⟩
  match j, hx with
  | 0, hx =>
    obtain rfl := Option.some.inj hx
    exact ⟨.inl ⟨(fun e => nomatch e), _, .base (.str _), by decide +kernel⟩, .inl rfl⟩
  | 1, hx =>
    obtain rfl := Option.some.inj hx
    exact ⟨.inl ⟨(fun e => nomatch e), _, .base (.lst C1), by decide +kernel⟩, .inr ⟨_, rfl⟩⟩
  | 2, hx =>
    obtain rfl := Option.some.inj hx
    refine ⟨.inr ⟨c2, _, rfl, sqT_of C2, by simp, fun y hy => ?_, by kernel_rfl⟩, .inr ⟨_, rfl⟩⟩
    rw [List.mem_singleton.mp hy]
    exact tea_th (by decide +kernel)
  | 3, hx =>
    obtain rfl := Option.some.inj hx
    refine ⟨.inr ⟨c3, _, rfl, sqT_of C3, by simp, fun y hy => ?_, by kernel_rfl⟩, .inr ⟨_, rfl⟩⟩
    rw [List.mem_singleton.mp hy]
    exact noT (.base (.int 5)) (by decide +kernel) (fun t e => nomatch e)
  | 4, hx =>
    obtain rfl := Option.some.inj hx
    exact ⟨.inl ⟨(fun e => nomatch e), _, .base (.int 5), by decide +kernel⟩, .inl rfl⟩
  | 5, hx =>
    obtain rfl := Option.some.inj hx
    refine ⟨.inr ⟨c5, _, rfl, sqT_of C5, by simp, fun y hy => ?_, by kernel_rfl⟩, .inr ⟨_, rfl⟩⟩
    rcases List.mem_cons.mp hy with rfl | hy
    · exact tea_th (by decide +kernel)
    · rw [List.mem_singleton.mp hy]
      exact noT (.base .non) (by decide +kernel) (fun t e => nomatch e)
  | 6, hx =>
    obtain rfl := Option.some.inj hx
    exact ⟨.inl ⟨(fun e => nomatch e), _, .base (.bl true), by decide +kernel⟩, .inl rfl⟩
  | 7, hx =>
    obtain rfl := Option.some.inj hx
    refine ⟨.inr ⟨c8, _, rfl, sqT_of C8, by simp, fun y hy => ?_, by kernel_rfl⟩, .inr ⟨_, rfl⟩⟩
    rw [List.mem_singleton.mp hy]
    exact noT (.base (.tup C7)) (by decide +kernel) (fun t e => nomatch e)
  | k + 8, hx => exact absurd hx (by simp)
theorem Self.keep {H H' : Hp} {x : V} (h : Self K H x) (s : Same H H') : Self K H' x := h.imp id (.imp id fun ⟨a, xs, e, h, q⟩ => ⟨a, xs, e, h.imp (fun h => s.seq h) (sqT_keep s), q⟩)
theorem ne_self {H : Hp} {x : V} {Q : VK} (h : Self K H x) (q : Q (.bl false) H) : rNeD K x x H Q ∨ rNeSm K x x H Q ∨ rNeSmT K x x H Q := by
  rcases h with rfl | ⟨i, rfl⟩ | ⟨a, xs, rfl, h | h, hx⟩
  · exact .inl ⟨_, _, .non, .non, by decide +kernel, by decide +kernel, q⟩
  · refine .inl ⟨_, _, .int i, .int i, by simp [SeqAt.shaped, PyData.canLay0, PyData.depth], by simp [SeqAt.shaped, PyData.canLay0, PyData.depth], ?_⟩
    rw [show PyData.eqv (.int i) (.int i) = true from by simp [PyData.eqv]]
    exact q
  · exact .inr (.inl ⟨a, a, xs, rfl, rfl, h, h, hx, q⟩)
  · exact .inr (.inr ⟨a, a, xs, rfl, rfl, h, h, hx, q⟩)
end

/-! ## Tastes: the law -/
section
variable {P : Program} {w : World} {K : PySem.W.Frag} {mg : Str → Option Value} {base : Heap} {D : Ad}
open TL SX KX
def spLaw (K : PySem.W.Frag) : Sp := fun vs H Q _ => ∃ (a : Addr) (ns : List Int), vs = [.ref a] ∧ Bare K H a (ns.map V.int) ∧ ns.length ≤ 63 ∧ ∀ H', Q (.bl true) H'
theorem one_txt : (("1" : String) : Str) = S [49] := by decide +kernel
theorem one_p : pT [49] = some ([1], 3000) := by decide +kernel
theorem ok_law (T : Tex K mg D) : FnG P w K mg base 13 D.a_law D.d_law P_law (spLaw K) := by
  have G_begin : FnOk P w K mg base CX0 1 D.a_begin D.d_begin P_begin (spBegin K) := ok_begin T
  have G_next : FnOk P w K mg base CX0 2 D.a_next D.d_next P_next spNext := ok_next T
  have G_versions : FnOk P w K mg base CX0 3 D.a_versions D.d_versions P_versions (spVers K) := ok_versions T
  have G_order_right : FnOk P w K mg base CX0 11 D.a_order_right D.d_order_right P_order_right (spOrder K) := ok_order_right T
  have G_refused : FnOk P w K mg base CX0 9 D.a_refused D.d_refused P_refused (spRefused K D.a_Version) := ok_refused T
  have G_Version_init : FnOk P w K mg base CX0 6 D.a_Version_init D.d_Version_init P_Version_init (spInit D.a_Version) := ok_Version_init T
  refine fnG_of T.law_F S_law (fun vs H Q E h => ?_) (fun cdv A outer s H vs Q hg hr h => ?_)
  · obtain ⟨a, ns, rfl, _⟩ := h
    rfl
  · obtain ⟨a, ns, rfl, hb, hl, q⟩ := h
    have hu := hu_of hr
    refine ⟨_, (pss_cons (ps_set (i := 1) S_law.nd rfl (Or.inl rfl) (pe_call G_begin (hr.mono (by decide)) (by rfl) T.begin_g T.begin_F.kp T.begin_b .nil pass0 (pa_cons (pv 0) pa_nil)))
      (pss_cons (ps_set (i := 2) S_law.nd rfl (Or.inl rfl) (pe_make T.Version_mk G_Version_init (hr.mono (by decide)) rfl T.Version_g T.Version_init_b .nil pass0 (pa_cons pe_str pa_nil)))
      (pss_cons (ps_for PassesOwn.never rfl (pi_range1 rfl T.b_range (pa_cons pe_int pa_nil)) (pg_name (i := 3) S_law.nd rfl (Or.inl rfl)) (pss_cons (ps_if (pt_not (pt_val (pe_call G_order_right (hr.mono (by decide)) (by rfl) T.order_right_g T.order_right_F.kp T.order_right_b .nil pass0 (pa_cons (pv 1) (pa_cons (pe_call G_versions (hr.mono (by decide)) (by rfl) T.versions_g T.versions_F.kp T.versions_b .nil pass0 (pa_cons (pv 1) pa_nil)) pa_nil))))) (pss_one (ps_ret pe_bl)) pss_nil)
      (pss_cons (ps_set (i := 4) S_law.nd rfl (Or.inl rfl) (pe_lst (pa_cons pe_non (pa_cons (pe_lst (pa_cons (pe_tup (pa_cons pe_str (pa_cons (pv 2) pa_nil))) pa_nil)) (pa_cons (pe_tup (pa_cons (pe_tup (pa_cons pe_str (pa_cons pe_str pa_nil))) pa_nil)) (pa_cons (pe_tup (pa_cons (pe_tup (pa_cons pe_str (pa_cons (pv 2) pa_nil))) (pa_cons (pe_tup (pa_cons pe_str (pa_cons (pv 2) pa_nil))) pa_nil))) (pa_cons (pe_tup (pa_cons (pe_tup (pa_cons pe_str (pa_cons (pv 2) pa_nil))) pa_nil)) pa_nil)))))))
      (pss_cons (ps_set (i := 4) S_law.nd rfl (Or.inl rfl) (pe_op op_cat (pv 4) (pe_lst (pa_cons (pe_tup (pa_cons (pe_tup (pa_cons pe_str pa_nil)) pa_nil)) (pa_cons (pe_tup (pa_cons (pe_tup (pa_cons pe_int (pa_cons (pv 2) pa_nil))) pa_nil)) (pa_cons pe_int (pa_cons (pe_tup (pa_cons (pe_lst (pa_cons pe_str (pa_cons (pv 2) pa_nil))) pa_nil)) (pa_cons (pe_tup (pa_cons pe_str (pa_cons (pv 2) pa_nil))) pa_nil))))))))
      (pss_cons (ps_set (i := 4) S_law.nd rfl (Or.inl rfl) (pe_ix ix_list (pv 4) (pe_call G_next (hr.mono (by decide)) (by rfl) T.next_g T.next_F.kp T.next_b .nil pass0 (pa_cons (pv 1) (pa_cons pe_int pa_nil))) (fun _ _ => rfl)))
      (pss_cons (ps_set (i := 5) S_law.nd rfl (Or.inl rfl) (pe_ix ix_list (pe_lst (pa_cons pe_str (pa_cons (pe_lst (pa_cons pe_str pa_nil)) (pa_cons (pe_tup (pa_cons pe_str pa_nil)) (pa_cons (pe_tup (pa_cons pe_int pa_nil)) (pa_cons pe_int (pa_cons (pe_tup (pa_cons pe_str (pa_cons pe_non pa_nil))) (pa_cons pe_bl (pa_cons (pe_tup (pa_cons (pe_tup (pa_cons pe_str pa_nil)) pa_nil)) pa_nil))))))))) (pe_call G_next (hr.mono (by decide)) (by rfl) T.next_g T.next_F.kp T.next_b .nil pass0 (pa_cons (pv 1) (pa_cons pe_int pa_nil))) (fun _ _ => rfl)))
      (pss_cons (ps_set (i := 6) S_law.nd rfl (Or.inl rfl) (pe_lst (pa_cons (pe_call G_refused (hr.mono (by decide)) (by rfl) T.refused_g T.refused_F.kp T.refused_b .nil pass0 (pa_cons (pv 4) (pa_cons (pv 5) pa_nil))) (pa_cons (pe_call G_refused (hr.mono (by decide)) (by rfl) T.refused_g T.refused_F.kp T.refused_b .nil pass0 (pa_cons (pe_tup (pa_cons (pe_tup (pa_cons pe_str (pa_cons (pv 2) pa_nil))) pa_nil)) (pa_cons (pv 5) pa_nil))) (pa_cons (pe_call G_refused (hr.mono (by decide)) (by rfl) T.refused_g T.refused_F.kp T.refused_b .nil pass0 (pa_cons (pe_tup pa_nil) (pa_cons (pe_tup pa_nil) pa_nil))) pa_nil)))))
      (pss_one (ps_if (PW.pt (pw_or (pt_cmpR op_ne (pe_ix ix_tup (pe_ix ix_list (pv 6) pe_int (fun _ _ => rfl)) pe_int (fun _ _ => rfl)) pe_str (nomark _)) (pw_or (pt_cmpR (opR_or (op_neD hr.units) (opR_or (op_neSm hr.units) (op_neSmT hr.units))) (pe_ix ix_tup (pe_ix ix_list (pv 6) pe_int (fun _ _ => rfl)) pe_int (fun _ _ => rfl)) (pv 4) (nomark _)) (pw_or (pt_cmpR (op_neSmT hr.units) (pe_ix ix_list (pv 6) pe_int (fun _ _ => rfl)) (pe_tup (pa_cons pe_str (pa_cons (pv 5) pa_nil))) (nomark _)) (pw_or1 (pt_cmpR (op_neD hr.units) (pe_ix ix_list (pv 6) pe_int (fun _ _ => rfl)) (pe_tup (pa_cons pe_str (pa_cons pe_non pa_nil))) (nomark _))))))) (pss_one (ps_ret pe_bl)) pss_nil)))))))))
      (pss_one (ps_ret pe_bl))))), ?_⟩
    refine ⟨_, rfl, a, ns, rfl, hb, hl, fun d c H1 hd s1 D1 => ?_⟩
    refine fun vo dx hx hdx hne => ⟨vo, dx, [49], [1], 3000, congrArg (fun t => [V.ref vo, V.str t]) one_txt, upd_same, by decide, one_p, by decide, by decide, fun H2 s2 => ⟨rfl, ?_⟩⟩
    have sV : Same H1 (upd H2 vo (.ins D.a_Version dx [("_rank", .int (rk [1] 3000 : Nat))])) := make_same hx hdx s2
    have hv0 : (upd H2 vo (.ins D.a_Version dx [("_rank", .int (rk [1] 3000 : Nat))])) vo = some (.ins D.a_Version dx [("_rank", .int (rk [1] 3000 : Nat))]) := upd_same
    have D2 := D1.keep sV
    revert hv0 D2
    generalize upd H2 vo (.ins D.a_Version dx [("_rank", .int (rk [1] 3000 : Nat))]) = H3
    intro hv0 D2
    refine ⟨6, rfl, by decide, by decide, ?_⟩
    refine for_range (lo := 0) (n := 6) (fun i σ H' => ∃ o3 o4 o5 o6 : Option V, σ = [some (.ref a), some (.ref d), some (.ref vo), o3, o4, o5, o6] ∧ Wd d c (30 * i) H' [(vo, .ins D.a_Version dx [("_rank", .int (rk [1] 3000 : Nat))])]) ⟨_, _, _, _, rfl, D2, fun p hp => ?_⟩ ?_ ?_
    · rw [List.mem_singleton.mp hp]
      exact ⟨hv0, fun kv e => nomatch e⟩
    · rintro i σ H4 hi ⟨o3, o4, o5, o6, rfl, W4⟩
      refine ⟨_, rfl, _, rfl, d, c, _, rfl, W4.1, by omega, fun lz zs H5 b5 d5 hlz glz hks hsm hnd hlen => ?_⟩
      have W5 := W4.but b5 d5
      have nlz : lz ≠ d := fun e => by
        obtain ⟨o, ho⟩ := d5.dict
        rw [e, ho] at glz
        cases glz
      refine ⟨d, c, lz, _, zs, rfl, d5, by omega, ⟨glz, hks⟩, nlz, hsm, hnd, hlen, fun H6 b6 d6 => ⟨_, rfl, iteF ?_⟩⟩
      have W6 := W5.but b6 d6
      change tSeq _ _ _ [some (V.ref a), some (.ref d), some (.ref vo), _, _, _, _] _
      clear W4 W5 b5 b6 d5 d6 hlz glz hks hsm hnd hlen nlz
      -- wrong things
      refine ⟨_, rfl, by show 2 ≤ sizeLine; decide, fun a1 ha1 => ⟨by show 1 ≤ sizeLine; decide, fun b1 hb1 => ⟨by show 2 ≤ sizeLine; decide, fun a2 ha2 => ⟨by show 1 ≤ sizeLine; decide, fun b2 hb2 => ⟨_, rfl, by show 2 ≤ sizeLine; decide, fun a3 ha3 => ⟨_, rfl, by show 2 ≤ sizeLine; decide, fun a4 ha4 => ⟨by show 2 ≤ sizeLine; decide, fun b3 hb3 => ⟨_, rfl, by show 2 ≤ sizeLine; decide, fun a5 ha5 => ⟨by show 1 ≤ sizeLine; decide, fun b5 hb5 => ⟨by show 5 ≤ sizeLine; decide, fun L1 hL1 => ?_⟩⟩⟩⟩⟩⟩⟩⟩⟩⟩
      have W7 := ((((((((((W6.new (o := .tup [V.str "tea", .ref vo]) ha1 (fun _ e => nomatch e)).new (o := .lst [V.ref a1]) hb1 (fun _ e => nomatch e)).new (o := .tup [V.str "tea", .str "1"]) ha2 (fun _ e => nomatch e)).new (o := .tup [V.ref a2]) hb2 (fun _ e => nomatch e)).new (o := .tup [V.str "tea", .ref vo]) ha3 (fun _ e => nomatch e)).new (o := .tup [V.str "tea", .ref vo]) ha4 (fun _ e => nomatch e)).new (o := .tup [V.ref a3, .ref a4]) hb3 (fun _ e => nomatch e)).new (o := .tup [V.str "Tea", .ref vo]) ha5 (fun _ e => nomatch e)).new (o := .tup [V.ref a5]) hb5 (fun _ e => nomatch e)).new (o := .lst [V.non, .ref b1, .ref b2, .ref b3, .ref b5]) hL1 (fun _ e => nomatch e))
      revert W7
      generalize upd (upd (upd (upd (upd (upd (upd (upd (upd (upd H6 a1 (.tup [V.str "tea", .ref vo])) b1 (.lst [V.ref a1])) a2 (.tup [V.str "tea", .str "1"])) b2 (.tup [V.ref a2])) a3 (.tup [V.str "tea", .ref vo])) a4 (.tup [V.str "tea", .ref vo])) b3 (.tup [V.ref a3, .ref a4])) a5 (.tup [V.str "Tea", .ref vo])) b5 (.tup [V.ref a5])) L1 (.lst [V.non, .ref b1, .ref b2, .ref b3, .ref b5]) = H7
      intro W7
      change tSeq _ _ _ [some (V.ref a), some (.ref d), some (.ref vo), some (.int (0 + (i : Int))), some (V.ref L1), o5, o6] _
      refine ⟨_, rfl, by show 1 ≤ sizeLine; decide, fun a6 ha6 => ⟨by show 1 ≤ sizeLine; decide, fun b6 hb6 => ⟨_, rfl, by show 2 ≤ sizeLine; decide, fun a7 ha7 => ⟨by show 1 ≤ sizeLine; decide, fun b7 hb7 => ⟨_, rfl, by show 2 ≤ sizeLine; decide, fun a8 ha8 => ⟨by show 1 ≤ sizeLine; decide, fun b8 hb8 => ⟨_, rfl, by show 2 ≤ sizeLine; decide, fun b9 hb9 => ⟨by show 5 ≤ sizeLine; decide, fun L2 hL2 => ?_⟩⟩⟩⟩⟩⟩⟩⟩
      have W8 := ((((((((W7.new (o := .tup [V.str "tea"]) ha6 (fun _ e => nomatch e)).new (o := .tup [V.ref a6]) hb6 (fun _ e => nomatch e)).new (o := .tup [V.int 5, .ref vo]) ha7 (fun _ e => nomatch e)).new (o := .tup [V.ref a7]) hb7 (fun _ e => nomatch e)).new (o := .lst [V.str "tea", .ref vo]) ha8 (fun _ e => nomatch e)).new (o := .tup [V.ref a8]) hb8 (fun _ e => nomatch e)).new (o := .tup [V.str "tea", .ref vo]) hb9 (fun _ e => nomatch e)).new (o := .lst [V.ref b6, .ref b7, .int 5, .ref b8, .ref b9]) hL2 (fun _ e => nomatch e))
      revert W8
      generalize upd (upd (upd (upd (upd (upd (upd (upd H7 a6 (.tup [V.str "tea"])) b6 (.tup [V.ref a6])) a7 (.tup [V.int 5, .ref vo])) b7 (.tup [V.ref a7])) a8 (.lst [V.str "tea", .ref vo])) b8 (.tup [V.ref a8])) b9 (.tup [V.str "tea", .ref vo])) L2 (.lst [V.ref b6, .ref b7, .int 5, .ref b8, .ref b9]) = H8
      intro W8
      refine ⟨L1, L2, _, _, rfl, rfl, (W8.2 (L1, HO.lst [V.non, .ref b1, .ref b2, .ref b3, .ref b5]) (by simp)).1, (W8.2 (L2, HO.lst [V.ref b6, .ref b7, .int 5, .ref b8, .ref b9]) (by simp)).1, by show 10 ≤ sizeLine; decide, fun L3 hL3 => ?_⟩
      have W9 := (W8.new (o := .lst ([V.non, .ref b1, .ref b2, .ref b3, .ref b5] ++ [V.ref b6, .ref b7, .int 5, .ref b8, .ref b9])) hL3 (fun _ e => nomatch e))
      revert W9
      generalize upd H8 L3 (.lst ([V.non, .ref b1, .ref b2, .ref b3, .ref b5] ++ [V.ref b6, .ref b7, .int 5, .ref b8, .ref b9])) = H9
      intro W9
      change tSeq _ _ _ [some (V.ref a), some (.ref d), some (.ref vo), some (.int (0 + (i : Int))), some (V.ref L3), o5, o6] _
      refine ⟨_, rfl, _, rfl, d, c, 10, _, rfl, W9.1, by omega, by decide, by decide, fun z1 H10 z10 z11 d10 b10 => ?_⟩
      have W10 := W9.but b10 d10
      clear W6 W7 W8 W9 b10 d10
      obtain ⟨j1, rfl⟩ := Int.eq_ofNat_of_zero_le z10
      obtain ⟨wx, hwx⟩ : ∃ x, [V.non, .ref b1, .ref b2, .ref b3, .ref b5, .ref b6, .ref b7, .int 5, .ref b8, .ref b9][j1]? = some x := ⟨_, List.getElem?_eq_getElem (by show j1 < 10; omega)⟩
      refine ⟨L3, _, _, _, rfl, rfl, SqL.of ((W10.2 (L3, HO.lst ([V.non, .ref b1, .ref b2, .ref b3, .ref b5] ++ [V.ref b6, .ref b7, .int 5, .ref b8, .ref b9])) (by simp)).1), atI_nat hwx, ?_⟩
      change tSeq _ _ _ [some (V.ref a), some (.ref d), some (.ref vo), some (.int (0 + (i : Int))), some wx, o5, o6] _
      refine ⟨by show 1 ≤ sizeLine; decide, fun c1 hc1 => ⟨by show 1 ≤ sizeLine; decide, fun c2 hc2 => ⟨by show 1 ≤ sizeLine; decide, fun c3 hc3 => ⟨by show 2 ≤ sizeLine; decide, fun c5 hc5 => ⟨by show 1 ≤ sizeLine; decide, fun c7 hc7 => ⟨by show 1 ≤ sizeLine; decide, fun c8 hc8 => ⟨by show 8 ≤ sizeLine; decide, fun L4 hL4 => ?_⟩⟩⟩⟩⟩⟩⟩
      have W11 := (((((((W10.new (o := .lst [V.str "tea"]) hc1 (fun _ e => nomatch e)).new (o := .tup [V.str "Tea"]) hc2 (fun _ e => nomatch e)).new (o := .tup [V.int 5]) hc3 (fun _ e => nomatch e)).new (o := .tup [V.str "tea", .non]) hc5 (fun _ e => nomatch e)).new (o := .tup [V.str "tea"]) hc7 (fun _ e => nomatch e)).new (o := .tup [V.ref c7]) hc8 (fun _ e => nomatch e)).new (o := .lst [V.str "tea", .ref c1, .ref c2, .ref c3, .int 5, .ref c5, .bl true, .ref c8]) hL4 (fun _ e => nomatch e))
      revert W11
      generalize upd (upd (upd (upd (upd (upd (upd H10 c1 (.lst [V.str "tea"])) c2 (.tup [V.str "Tea"])) c3 (.tup [V.int 5])) c5 (.tup [V.str "tea", .non])) c7 (.tup [V.str "tea"])) c8 (.tup [V.ref c7])) L4 (.lst [V.str "tea", .ref c1, .ref c2, .ref c3, .int 5, .ref c5, .bl true, .ref c8]) = H11
      intro W11
      refine ⟨_, rfl, d, c, 8, _, rfl, W11.1, by omega, by decide, by decide, fun z2 H12 z20 z21 d12 b12 => ?_⟩
      have W12 := W11.but b12 d12
      clear W10 W11 b12 d12
      obtain ⟨j2, rfl⟩ := Int.eq_ofNat_of_zero_le z20
      obtain ⟨ox, hox⟩ : ∃ x, [V.str "tea", .ref c1, .ref c2, .ref c3, .int 5, .ref c5, .bl true, .ref c8][j2]? = some x := ⟨_, List.getElem?_eq_getElem (by show j2 < 8; omega)⟩
      refine ⟨L4, _, _, _, rfl, rfl, SqL.of ((W12.2 (L4, HO.lst [V.str "tea", .ref c1, .ref c2, .ref c3, .int 5, .ref c5, .bl true, .ref c8]) (by simp)).1), atI_nat hox, ?_⟩
      change tSeq _ _ _ [some (V.ref a), some (.ref d), some (.ref vo), some (.int (0 + (i : Int))), some wx, some ox, o6] _
      have hv : Ver D.a_Version H12 vo (rk [1] 3000) := ⟨dx, (W12.2 (vo, HO.ins D.a_Version dx [("_rank", .int (rk [1] 3000 : Nat))]) (by simp)).1⟩
      have hw := wrong_ok T hv ((W12.2 (a1, HO.tup [V.str "tea", .ref vo]) (by simp)).1) ((W12.2 (b1, HO.lst [V.ref a1]) (by simp)).1) ((W12.2 (a2, HO.tup [V.str "tea", .str "1"]) (by simp)).1) ((W12.2 (b2, HO.tup [V.ref a2]) (by simp)).1) ((W12.2 (a3, HO.tup [V.str "tea", .ref vo]) (by simp)).1) ((W12.2 (a4, HO.tup [V.str "tea", .ref vo]) (by simp)).1) ((W12.2 (b3, HO.tup [V.ref a3, .ref a4]) (by simp)).1) ((W12.2 (a5, HO.tup [V.str "Tea", .ref vo]) (by simp)).1) ((W12.2 (b5, HO.tup [V.ref a5]) (by simp)).1) ((W12.2 (a6, HO.tup [V.str "tea"]) (by simp)).1) ((W12.2 (b6, HO.tup [V.ref a6]) (by simp)).1) ((W12.2 (a7, HO.tup [V.int 5, .ref vo]) (by simp)).1) ((W12.2 (b7, HO.tup [V.ref a7]) (by simp)).1) ((W12.2 (a8, HO.lst [V.str "tea", .ref vo]) (by simp)).1) ((W12.2 (b8, HO.tup [V.ref a8]) (by simp)).1) ((W12.2 (b9, HO.tup [V.str "tea", .ref vo]) (by simp)).1) j1 wx hwx
      have ho := odd_ok (K := K) ((W12.2 (c1, HO.lst [V.str "tea"]) (by simp)).1) ((W12.2 (c2, HO.tup [V.str "Tea"]) (by simp)).1) ((W12.2 (c3, HO.tup [V.int 5]) (by simp)).1) ((W12.2 (c5, HO.tup [V.str "tea", .non]) (by simp)).1) ((W12.2 (c7, HO.tup [V.str "tea"]) (by simp)).1) ((W12.2 (c8, HO.tup [V.ref c7]) (by simp)).1) j2 ox hox
      have hvo : H12 vo = some (.ins D.a_Version dx [("_rank", .int (rk [1] 3000 : Nat))]) := (W12.2 (vo, .ins D.a_Version dx [("_rank", .int (rk [1] 3000 : Nat))]) (by simp)).1
      have D12 := W12.1
      clear W12 hox hwx
      refine ⟨_, rfl, _, rfl, wx, ox, rfl, .inl ⟨hw.1, fun p1 H13 s13 _ g1 => ?_⟩⟩
      refine ⟨_, rfl, by show 2 ≤ sizeLine; decide, fun x1 hx1 => ⟨by show 1 ≤ sizeLine; decide, fun y1 hy1 => ⟨_, rfl, ?_⟩⟩⟩
      have sP := (same_new (o := .tup [V.str "tea", .ref vo]) hx1).trans (same_new (o := .tup [V.ref x1]) hy1)
      have gx : (upd (upd H13 x1 (.tup [V.str "tea", .ref vo])) y1 (.tup [V.ref x1])) x1 = some (.tup [V.str "tea", .ref vo]) := (same_new hy1) _ _ upd_same
      have gy : (upd (upd H13 x1 (.tup [V.str "tea", .ref vo])) y1 (.tup [V.ref x1])) y1 = some (.tup [V.ref x1]) := upd_same
      revert sP gx gy
      generalize upd (upd H13 x1 (.tup [V.str "tea", .ref vo])) y1 (.tup [V.ref x1]) = H14
      intro sP gx gy
      have s1214 := s13.trans sP
      have st1 : StOk K D.a_Version H14 (.ref y1) [.pair x1 (.str "tea") vo (rk [1] 3000)] := by
        refine ⟨y1, rfl, sqT_of gy, by simp, fun y hy => ?_, by kernel_rfl⟩
        rw [List.mem_singleton.mp hy]
        exact ⟨sqT_of gx, tea_th (by decide +kernel), hv.keep s1214⟩
      refine ⟨.ref y1, ox, rfl, .inr (.inl ⟨⟨_, st1⟩, ho.1.keep s1214, fun p2 H15 s15 _ g2 => ?_⟩)⟩
      refine ⟨by show 0 ≤ sizeLine; decide, fun e1 he1 => ⟨by show 0 ≤ sizeLine; decide, fun e2 he2 => ?_⟩⟩
      have sQ := (same_new (o := .tup []) he1).trans (same_new (o := .tup []) he2)
      have ge1 : (upd (upd H15 e1 (.tup [])) e2 (.tup [])) e1 = some (.tup []) := (same_new he2) _ _ upd_same
      have ge2 : (upd (upd H15 e1 (.tup [])) e2 (.tup [])) e2 = some (.tup []) := upd_same
      revert sQ ge1 ge2
      generalize upd (upd H15 e1 (.tup [])) e2 (.tup []) = H16
      intro sQ ge1 ge2
      refine ⟨.ref e1, .ref e2, rfl, .inr (.inr ⟨⟨[], some [], ⟨e1, rfl, sqT_of ge1, by simp, (fun y hy => nomatch hy), rfl⟩, .inr ⟨e2, [], rfl, sqT_of ge2, by simp, (fun y hy => nomatch hy), rfl, rfl⟩⟩, fun p3 H17 s17 _ g3 => ?_⟩)⟩
      refine ⟨by show 3 ≤ sizeLine; decide, fun Lt hLt => ?_⟩
      have sT := same_new (o := .lst [V.ref p1, .ref p2, .ref p3]) hLt
      have gt : (upd H17 Lt (.lst [V.ref p1, .ref p2, .ref p3])) Lt = some (.lst [V.ref p1, .ref p2, .ref p3]) := upd_same
      have s18 := ((s1214.trans s15).trans (sQ.trans s17)).trans sT
      have g1' := ((sP.trans s15).trans ((sQ.trans s17).trans sT)) _ _ g1
      have g2' := ((sQ.trans s17).trans sT) _ _ g2
      have g3' := sT _ _ g3
      clear g1 g2 g3 sT gx gy ge1 ge2 sP sQ s13 s15 s17 s1214 st1
      revert gt s18 g1' g2' g3'
      generalize upd H17 Lt (.lst [V.ref p1, .ref p2, .ref p3]) = H18
      intro gt s18 g1' g2' g3'
      change tSeq _ _ _ [some (V.ref a), some (.ref d), some (.ref vo), some (.int (0 + (i : Int))), some wx, some ox, some (V.ref Lt)] _
      refine ⟨_, rfl, Lt, _, (0 : Int), _, rfl, rfl, SqL.of gt, rfl, p1, _, (0 : Int), _, rfl, rfl, sqT_of g1', rfl, rfl, _, rfl, ?_⟩
      rw [decide_eq_true rfl]
      refine iteF ⟨_, rfl, Lt, _, (0 : Int), _, rfl, rfl, SqL.of gt, rfl, p1, _, (1 : Int), _, rfl, rfl, sqT_of g1', rfl, _, rfl, ne_self (hw.2.keep s18) ⟨_, rfl, iteF ?_⟩⟩
      refine ⟨_, rfl, Lt, _, (1 : Int), _, rfl, rfl, SqL.of gt, rfl, _, rfl, by show 2 ≤ sizeLine; decide, fun z hz => ⟨p2, z, [.str "name", ox], rfl, rfl, sqT_keep (same_new hz) (sqT_of g2'), sqT_of upd_same, ?_, _, rfl, iteF ?_⟩⟩
      · intro v hv
        cases hv with
        | head => exact .inl rfl
        | tail _ h => rw [List.mem_singleton.mp h]; exact ho.2
      have gtz := (same_new (o := .tup [.str "name", ox]) hz) _ _ gt
      have g3z := (same_new (o := .tup [.str "name", ox]) hz) _ _ g3'
      have s19 := s18.trans (same_new (o := .tup [.str "name", ox]) hz)
      clear gt g1' g2' g3' s18
      revert gtz g3z s19
      generalize upd H18 z (.tup [.str "name", ox]) = H19
      intro gtz g3z s19
      refine ⟨_, rfl, Lt, _, (2 : Int), _, rfl, rfl, SqL.of gtz, rfl, by show 2 ≤ sizeLine; decide, fun z2 hz2 => ⟨.tuple [.str "none", .none], .tuple [.str "none", .none], .tup (sqT_of ((same_new hz2) _ _ g3z)) (.cons (.str _) (.cons .non .nil)), .tup (sqT_of upd_same) (.cons (.str _) (.cons .non .nil)), by decide +kernel, by decide +kernel, _, rfl, iteF ?_⟩⟩
      refine ⟨_, _, _, _, rfl, (D12.keep (s19.trans (same_new hz2))).mono (by omega), fun p hp => ?_⟩
      rw [List.mem_singleton.mp hp]
      exact ⟨((s19.trans (same_new hz2)) _ _ hvo), fun kv e => nomatch e⟩
    · rintro σ H' ⟨o3, o4, o5, o6, rfl, _⟩
      exact q H'
end

theorem all_mk {l : PySem.W.OpenLaw} {w : World} {K : PySem.W.Frag} {h : Heap} {mg : Str → Option Value} {fa : Addr} (X : K.In h) (G : h.Ns mainGlobals mg) (hfa : mg "law" = some (.ref fa))
    {f_consists_of : Addr} {od_consists_of an_consists_of : Option Addr} {sl_consists_of : Array (Option Value)} {oc_consists_of kV_consists_of dc_consists_of pm_consists_of cd_consists_of ct_consists_of : Value}
    (n_consists_of : PySem.W.nsIn K mainGlobals "consists_of" = some (some (.ref f_consists_of)))
    (l_consists_of : K.lookup f_consists_of = some ⟨oc_consists_of, od_consists_of, .func (PySem.W.fnOf "consists_of" "consists_of" (defArgs s_consists_of) (defBody s_consists_of) (defScope s_consists_of) .none kV_consists_of dc_consists_of pm_consists_of an_consists_of cd_consists_of ct_consists_of), sl_consists_of⟩)
    (c_consists_of : PySem.W.codeIn K cd_consists_of "consists_of" = true)
    (k_consists_of : PySem.W.keepIn K (.ref f_consists_of) = true)
    {f_is_string_of : Addr} {od_is_string_of an_is_string_of : Option Addr} {sl_is_string_of : Array (Option Value)} {oc_is_string_of kV_is_string_of dc_is_string_of pm_is_string_of cd_is_string_of ct_is_string_of : Value}
    (n_is_string_of : PySem.W.nsIn K mainGlobals "is_string_of" = some (some (.ref f_is_string_of)))
    (l_is_string_of : K.lookup f_is_string_of = some ⟨oc_is_string_of, od_is_string_of, .func (PySem.W.fnOf "is_string_of" "is_string_of" (defArgs s_is_string_of) (defBody s_is_string_of) (defScope s_is_string_of) .none kV_is_string_of dc_is_string_of pm_is_string_of an_is_string_of cd_is_string_of ct_is_string_of), sl_is_string_of⟩)
    (c_is_string_of : PySem.W.codeIn K cd_is_string_of "is_string_of" = true)
    (k_is_string_of : PySem.W.keepIn K (.ref f_is_string_of) = true)
    {f_number_in : Addr} {od_number_in an_number_in : Option Addr} {sl_number_in : Array (Option Value)} {oc_number_in kV_number_in dc_number_in pm_number_in cd_number_in ct_number_in : Value}
    (n_number_in : PySem.W.nsIn K mainGlobals "number_in" = some (some (.ref f_number_in)))
    (l_number_in : K.lookup f_number_in = some ⟨oc_number_in, od_number_in, .func (PySem.W.fnOf "number_in" "number_in" (defArgs s_number_in) (defBody s_number_in) (defScope s_number_in) .none kV_number_in dc_number_in pm_number_in an_number_in cd_number_in ct_number_in), sl_number_in⟩)
    (c_number_in : PySem.W.codeIn K cd_number_in "number_in" = true)
    (k_number_in : PySem.W.keepIn K (.ref f_number_in) = true)
    {f_are_pairs : Addr} {od_are_pairs an_are_pairs : Option Addr} {sl_are_pairs : Array (Option Value)} {oc_are_pairs kV_are_pairs dc_are_pairs pm_are_pairs cd_are_pairs ct_are_pairs : Value}
    (n_are_pairs : PySem.W.nsIn K mainGlobals "are_pairs" = some (some (.ref f_are_pairs)))
    (l_are_pairs : K.lookup f_are_pairs = some ⟨oc_are_pairs, od_are_pairs, .func (PySem.W.fnOf "are_pairs" "are_pairs" (defArgs s_are_pairs) (defBody s_are_pairs) (defScope s_are_pairs) .none kV_are_pairs dc_are_pairs pm_are_pairs an_are_pairs cd_are_pairs ct_are_pairs), sl_are_pairs⟩)
    (c_are_pairs : PySem.W.codeIn K cd_are_pairs "are_pairs" = true)
    (k_are_pairs : PySem.W.keepIn K (.ref f_are_pairs) = true)
    {f_is_name : Addr} {od_is_name an_is_name : Option Addr} {sl_is_name : Array (Option Value)} {oc_is_name kV_is_name dc_is_name pm_is_name cd_is_name ct_is_name : Value}
    (n_is_name : PySem.W.nsIn K mainGlobals "is_name" = some (some (.ref f_is_name)))
    (l_is_name : K.lookup f_is_name = some ⟨oc_is_name, od_is_name, .func (PySem.W.fnOf "is_name" "is_name" (defArgs s_is_name) (defBody s_is_name) (defScope s_is_name) .none kV_is_name dc_is_name pm_is_name an_is_name cd_is_name ct_is_name), sl_is_name⟩)
    (c_is_name : PySem.W.codeIn K cd_is_name "is_name" = true)
    (k_is_name : PySem.W.keepIn K (.ref f_is_name) = true)
    {f_stage_of_text : Addr} {od_stage_of_text an_stage_of_text : Option Addr} {sl_stage_of_text : Array (Option Value)} {oc_stage_of_text kV_stage_of_text dc_stage_of_text pm_stage_of_text cd_stage_of_text ct_stage_of_text : Value}
    (n_stage_of_text : PySem.W.nsIn K mainGlobals "stage_of_text" = some (some (.ref f_stage_of_text)))
    (l_stage_of_text : K.lookup f_stage_of_text = some ⟨oc_stage_of_text, od_stage_of_text, .func (PySem.W.fnOf "stage_of_text" "stage_of_text" (defArgs s_stage_of_text) (defBody s_stage_of_text) (defScope s_stage_of_text) .none kV_stage_of_text dc_stage_of_text pm_stage_of_text an_stage_of_text cd_stage_of_text ct_stage_of_text), sl_stage_of_text⟩)
    (c_stage_of_text : PySem.W.codeIn K cd_stage_of_text "stage_of_text" = true)
    (k_stage_of_text : PySem.W.keepIn K (.ref f_stage_of_text) = true)
    {f_parts_of_text : Addr} {od_parts_of_text an_parts_of_text : Option Addr} {sl_parts_of_text : Array (Option Value)} {oc_parts_of_text kV_parts_of_text dc_parts_of_text pm_parts_of_text cd_parts_of_text ct_parts_of_text : Value}
    (n_parts_of_text : PySem.W.nsIn K mainGlobals "parts_of_text" = some (some (.ref f_parts_of_text)))
    (l_parts_of_text : K.lookup f_parts_of_text = some ⟨oc_parts_of_text, od_parts_of_text, .func (PySem.W.fnOf "parts_of_text" "parts_of_text" (defArgs s_parts_of_text) (defBody s_parts_of_text) (defScope s_parts_of_text) .none kV_parts_of_text dc_parts_of_text pm_parts_of_text an_parts_of_text cd_parts_of_text ct_parts_of_text), sl_parts_of_text⟩)
    (c_parts_of_text : PySem.W.codeIn K cd_parts_of_text "parts_of_text" = true)
    (k_parts_of_text : PySem.W.keepIn K (.ref f_parts_of_text) = true)
    {f_rank_of : Addr} {od_rank_of an_rank_of : Option Addr} {sl_rank_of : Array (Option Value)} {oc_rank_of kV_rank_of dc_rank_of pm_rank_of cd_rank_of ct_rank_of : Value}
    (n_rank_of : PySem.W.nsIn K mainGlobals "rank_of" = some (some (.ref f_rank_of)))
    (l_rank_of : K.lookup f_rank_of = some ⟨oc_rank_of, od_rank_of, .func (PySem.W.fnOf "rank_of" "rank_of" (defArgs s_rank_of) (defBody s_rank_of) (defScope s_rank_of) .none kV_rank_of dc_rank_of pm_rank_of an_rank_of cd_rank_of ct_rank_of), sl_rank_of⟩)
    (c_rank_of : PySem.W.codeIn K cd_rank_of "rank_of" = true)
    (k_rank_of : PySem.W.keepIn K (.ref f_rank_of) = true)
    {f_Version : Addr}
    {f_Version_init : Addr} {od_Version_init an_Version_init : Option Addr} {sl_Version_init : Array (Option Value)} {oc_Version_init kV_Version_init dc_Version_init pm_Version_init cd_Version_init ct_Version_init : Value}
    (n_Version : PySem.W.nsIn K mainGlobals "Version" = some (some (.ref f_Version)))
    (at_Version_init : PySem.W.findIn K (.ref f_Version) "__init__" = some (some (.ref f_Version_init)))
    (l_Version_init : K.lookup f_Version_init = some ⟨oc_Version_init, od_Version_init, .func (PySem.W.fnOf "__init__" "Version.__init__" (defArgs s_Version_init) (defBody s_Version_init) (defScope s_Version_init) .none kV_Version_init dc_Version_init pm_Version_init an_Version_init cd_Version_init ct_Version_init), sl_Version_init⟩)
    (c_Version_init : PySem.W.codeIn K cd_Version_init "Version.__init__" = true)
    (k_Version_init : PySem.W.keepIn K (.ref f_Version_init) = true)
    {f_Version_rank : Addr} {od_Version_rank an_Version_rank : Option Addr} {sl_Version_rank : Array (Option Value)} {oc_Version_rank kV_Version_rank dc_Version_rank pm_Version_rank cd_Version_rank ct_Version_rank : Value}
    {p_Version_rank : Addr} {r_Version_rank : List Value}
    (at_Version_rank : PySem.W.findIn K (.ref f_Version) "rank" = some (some (.ref p_Version_rank)))
    (rc_Version_rank : PySem.W.recIn K p_Version_rank "property" = some (.ref f_Version_rank :: r_Version_rank))
    (l_Version_rank : K.lookup f_Version_rank = some ⟨oc_Version_rank, od_Version_rank, .func (PySem.W.fnOf "rank" "Version.rank" (defArgs s_Version_rank) (defBody s_Version_rank) (defScope s_Version_rank) .none kV_Version_rank dc_Version_rank pm_Version_rank an_Version_rank cd_Version_rank ct_Version_rank), sl_Version_rank⟩)
    (c_Version_rank : PySem.W.codeIn K cd_Version_rank "Version.rank" = true)
    (k_Version_rank : PySem.W.keepIn K (.ref f_Version_rank) = true)
    {f_Version_eq : Addr} {od_Version_eq an_Version_eq : Option Addr} {sl_Version_eq : Array (Option Value)} {oc_Version_eq kV_Version_eq dc_Version_eq pm_Version_eq cd_Version_eq ct_Version_eq : Value}
    (at_Version_eq : PySem.W.findIn K (.ref f_Version) "__eq__" = some (some (.ref f_Version_eq)))
    (l_Version_eq : K.lookup f_Version_eq = some ⟨oc_Version_eq, od_Version_eq, .func (PySem.W.fnOf "__eq__" "Version.__eq__" (defArgs s_Version_eq) (defBody s_Version_eq) (defScope s_Version_eq) .none kV_Version_eq dc_Version_eq pm_Version_eq an_Version_eq cd_Version_eq ct_Version_eq), sl_Version_eq⟩)
    (c_Version_eq : PySem.W.codeIn K cd_Version_eq "Version.__eq__" = true)
    (k_Version_eq : PySem.W.keepIn K (.ref f_Version_eq) = true)
    {f_by_rank : Addr} {od_by_rank an_by_rank : Option Addr} {sl_by_rank : Array (Option Value)} {oc_by_rank kV_by_rank dc_by_rank pm_by_rank cd_by_rank ct_by_rank : Value}
    (n_by_rank : PySem.W.nsIn K mainGlobals "by_rank" = some (some (.ref f_by_rank)))
    (l_by_rank : K.lookup f_by_rank = some ⟨oc_by_rank, od_by_rank, .func (PySem.W.fnOf "by_rank" "by_rank" (defArgs s_by_rank) (defBody s_by_rank) (defScope s_by_rank) .none kV_by_rank dc_by_rank pm_by_rank an_by_rank cd_by_rank ct_by_rank), sl_by_rank⟩)
    (c_by_rank : PySem.W.codeIn K cd_by_rank "by_rank" = true)
    (k_by_rank : PySem.W.keepIn K (.ref f_by_rank) = true)
    {f_is_standing : Addr} {od_is_standing an_is_standing : Option Addr} {sl_is_standing : Array (Option Value)} {oc_is_standing kV_is_standing dc_is_standing pm_is_standing cd_is_standing ct_is_standing : Value}
    (n_is_standing : PySem.W.nsIn K mainGlobals "is_standing" = some (some (.ref f_is_standing)))
    (l_is_standing : K.lookup f_is_standing = some ⟨oc_is_standing, od_is_standing, .func (PySem.W.fnOf "is_standing" "is_standing" (defArgs s_is_standing) (defBody s_is_standing) (defScope s_is_standing) .none kV_is_standing dc_is_standing pm_is_standing an_is_standing cd_is_standing ct_is_standing), sl_is_standing⟩)
    (c_is_standing : PySem.W.codeIn K cd_is_standing "is_standing" = true)
    (k_is_standing : PySem.W.keepIn K (.ref f_is_standing) = true)
    {f_is_fresh : Addr} {od_is_fresh an_is_fresh : Option Addr} {sl_is_fresh : Array (Option Value)} {oc_is_fresh kV_is_fresh dc_is_fresh pm_is_fresh cd_is_fresh ct_is_fresh : Value}
    (n_is_fresh : PySem.W.nsIn K mainGlobals "is_fresh" = some (some (.ref f_is_fresh)))
    (l_is_fresh : K.lookup f_is_fresh = some ⟨oc_is_fresh, od_is_fresh, .func (PySem.W.fnOf "is_fresh" "is_fresh" (defArgs s_is_fresh) (defBody s_is_fresh) (defScope s_is_fresh) .none kV_is_fresh dc_is_fresh pm_is_fresh an_is_fresh cd_is_fresh ct_is_fresh), sl_is_fresh⟩)
    (c_is_fresh : PySem.W.codeIn K cd_is_fresh "is_fresh" = true)
    (k_is_fresh : PySem.W.keepIn K (.ref f_is_fresh) = true)
    {f_Newest : Addr}
    {f_Newest_call : Addr} {od_Newest_call an_Newest_call : Option Addr} {sl_Newest_call : Array (Option Value)} {oc_Newest_call kV_Newest_call dc_Newest_call pm_Newest_call cd_Newest_call ct_Newest_call : Value}
    (n_Newest : PySem.W.nsIn K mainGlobals "Newest" = some (some (.ref f_Newest)))
    (at_Newest_call : PySem.W.findIn K (.ref f_Newest) "__call__" = some (some (.ref f_Newest_call)))
    (l_Newest_call : K.lookup f_Newest_call = some ⟨oc_Newest_call, od_Newest_call, .func (PySem.W.fnOf "__call__" "Newest.__call__" (defArgs s_Newest_call) (defBody s_Newest_call) (defScope s_Newest_call) .none kV_Newest_call dc_Newest_call pm_Newest_call an_Newest_call cd_Newest_call ct_Newest_call), sl_Newest_call⟩)
    (c_Newest_call : PySem.W.codeIn K cd_Newest_call "Newest.__call__" = true)
    (k_Newest_call : PySem.W.keepIn K (.ref f_Newest_call) = true)
    {f_Newest_standing_of : Addr} {od_Newest_standing_of an_Newest_standing_of : Option Addr} {sl_Newest_standing_of : Array (Option Value)} {oc_Newest_standing_of kV_Newest_standing_of dc_Newest_standing_of pm_Newest_standing_of cd_Newest_standing_of ct_Newest_standing_of : Value}
    (at_Newest_standing_of : PySem.W.findIn K (.ref f_Newest) "standing_of" = some (some (.ref f_Newest_standing_of)))
    (l_Newest_standing_of : K.lookup f_Newest_standing_of = some ⟨oc_Newest_standing_of, od_Newest_standing_of, .func (PySem.W.fnOf "standing_of" "Newest.standing_of" (defArgs s_Newest_standing_of) (defBody s_Newest_standing_of) (defScope s_Newest_standing_of) .none kV_Newest_standing_of dc_Newest_standing_of pm_Newest_standing_of an_Newest_standing_of cd_Newest_standing_of ct_Newest_standing_of), sl_Newest_standing_of⟩)
    (c_Newest_standing_of : PySem.W.codeIn K cd_Newest_standing_of "Newest.standing_of" = true)
    (k_Newest_standing_of : PySem.W.keepIn K (.ref f_Newest_standing_of) = true)
    {f_Oldest : Addr}
    {f_Oldest_call : Addr} {od_Oldest_call an_Oldest_call : Option Addr} {sl_Oldest_call : Array (Option Value)} {oc_Oldest_call kV_Oldest_call dc_Oldest_call pm_Oldest_call cd_Oldest_call ct_Oldest_call : Value}
    (n_Oldest : PySem.W.nsIn K mainGlobals "Oldest" = some (some (.ref f_Oldest)))
    (at_Oldest_call : PySem.W.findIn K (.ref f_Oldest) "__call__" = some (some (.ref f_Oldest_call)))
    (l_Oldest_call : K.lookup f_Oldest_call = some ⟨oc_Oldest_call, od_Oldest_call, .func (PySem.W.fnOf "__call__" "Oldest.__call__" (defArgs s_Oldest_call) (defBody s_Oldest_call) (defScope s_Oldest_call) .none kV_Oldest_call dc_Oldest_call pm_Oldest_call an_Oldest_call cd_Oldest_call ct_Oldest_call), sl_Oldest_call⟩)
    (c_Oldest_call : PySem.W.codeIn K cd_Oldest_call "Oldest.__call__" = true)
    (k_Oldest_call : PySem.W.keepIn K (.ref f_Oldest_call) = true)
    {f_Oldest_standing_of : Addr} {od_Oldest_standing_of an_Oldest_standing_of : Option Addr} {sl_Oldest_standing_of : Array (Option Value)} {oc_Oldest_standing_of kV_Oldest_standing_of dc_Oldest_standing_of pm_Oldest_standing_of cd_Oldest_standing_of ct_Oldest_standing_of : Value}
    (at_Oldest_standing_of : PySem.W.findIn K (.ref f_Oldest) "standing_of" = some (some (.ref f_Oldest_standing_of)))
    (l_Oldest_standing_of : K.lookup f_Oldest_standing_of = some ⟨oc_Oldest_standing_of, od_Oldest_standing_of, .func (PySem.W.fnOf "standing_of" "Oldest.standing_of" (defArgs s_Oldest_standing_of) (defBody s_Oldest_standing_of) (defScope s_Oldest_standing_of) .none kV_Oldest_standing_of dc_Oldest_standing_of pm_Oldest_standing_of an_Oldest_standing_of cd_Oldest_standing_of ct_Oldest_standing_of), sl_Oldest_standing_of⟩)
    (c_Oldest_standing_of : PySem.W.codeIn K cd_Oldest_standing_of "Oldest.standing_of" = true)
    (k_Oldest_standing_of : PySem.W.keepIn K (.ref f_Oldest_standing_of) = true)
    {f_Keeping : Addr}
    {f_Keeping_init : Addr} {od_Keeping_init an_Keeping_init : Option Addr} {sl_Keeping_init : Array (Option Value)} {oc_Keeping_init kV_Keeping_init dc_Keeping_init pm_Keeping_init cd_Keeping_init ct_Keeping_init : Value}
    (n_Keeping : PySem.W.nsIn K mainGlobals "Keeping" = some (some (.ref f_Keeping)))
    (at_Keeping_init : PySem.W.findIn K (.ref f_Keeping) "__init__" = some (some (.ref f_Keeping_init)))
    {e_Keeping_init : Addr} {eod_Keeping_init : Option Addr} {esl_Keeping_init : Array (Option Value)} {enn_Keeping_init : Nat}
    {dt_Keeping_init : Addr} {dod_Keeping_init : Option Addr} {dsl_Keeping_init : Array (Option Value)} {dnn_Keeping_init : Nat} 
    (l_Keeping_init : K.lookup f_Keeping_init = some ⟨oc_Keeping_init, od_Keeping_init, .func (PySem.W.fnOf "__init__" "Keeping.__init__" (defArgs s_Keeping_init) (defBody s_Keeping_init) (defScope s_Keeping_init) (.ref dt_Keeping_init) kV_Keeping_init dc_Keeping_init pm_Keeping_init an_Keeping_init cd_Keeping_init ct_Keeping_init), sl_Keeping_init⟩)
    (w_Keeping_init : K.lookup dt_Keeping_init = some ⟨.type "tuple", dod_Keeping_init, .seq #[.ref e_Keeping_init] dnn_Keeping_init, dsl_Keeping_init⟩)
    (we_Keeping_init : K.lookup e_Keeping_init = some ⟨.type "tuple", eod_Keeping_init, .seq #[] enn_Keeping_init, esl_Keeping_init⟩)
    (c_Keeping_init : PySem.W.codeIn K cd_Keeping_init "Keeping.__init__" = true)
    (k_Keeping_init : PySem.W.keepIn K (.ref f_Keeping_init) = true)
    {f_Keeping_call : Addr} {od_Keeping_call an_Keeping_call : Option Addr} {sl_Keeping_call : Array (Option Value)} {oc_Keeping_call kV_Keeping_call dc_Keeping_call pm_Keeping_call cd_Keeping_call ct_Keeping_call : Value}
    (at_Keeping_call : PySem.W.findIn K (.ref f_Keeping) "__call__" = some (some (.ref f_Keeping_call)))
    (l_Keeping_call : K.lookup f_Keeping_call = some ⟨oc_Keeping_call, od_Keeping_call, .func (PySem.W.fnOf "__call__" "Keeping.__call__" (defArgs s_Keeping_call) (defBody s_Keeping_call) (defScope s_Keeping_call) .none kV_Keeping_call dc_Keeping_call pm_Keeping_call an_Keeping_call cd_Keeping_call ct_Keeping_call), sl_Keeping_call⟩)
    (c_Keeping_call : PySem.W.codeIn K cd_Keeping_call "Keeping.__call__" = true)
    (k_Keeping_call : PySem.W.keepIn K (.ref f_Keeping_call) = true)
    {f_Keeping_standing_of : Addr} {od_Keeping_standing_of an_Keeping_standing_of : Option Addr} {sl_Keeping_standing_of : Array (Option Value)} {oc_Keeping_standing_of kV_Keeping_standing_of dc_Keeping_standing_of pm_Keeping_standing_of cd_Keeping_standing_of ct_Keeping_standing_of : Value}
    (at_Keeping_standing_of : PySem.W.findIn K (.ref f_Keeping) "standing_of" = some (some (.ref f_Keeping_standing_of)))
    (l_Keeping_standing_of : K.lookup f_Keeping_standing_of = some ⟨oc_Keeping_standing_of, od_Keeping_standing_of, .func (PySem.W.fnOf "standing_of" "Keeping.standing_of" (defArgs s_Keeping_standing_of) (defBody s_Keeping_standing_of) (defScope s_Keeping_standing_of) .none kV_Keeping_standing_of dc_Keeping_standing_of pm_Keeping_standing_of an_Keeping_standing_of cd_Keeping_standing_of ct_Keeping_standing_of), sl_Keeping_standing_of⟩)
    (c_Keeping_standing_of : PySem.W.codeIn K cd_Keeping_standing_of "Keeping.standing_of" = true)
    (k_Keeping_standing_of : PySem.W.keepIn K (.ref f_Keeping_standing_of) = true)
    {f_begin : Addr} {od_begin an_begin : Option Addr} {sl_begin : Array (Option Value)} {oc_begin kV_begin dc_begin pm_begin cd_begin ct_begin : Value}
    (n_begin : PySem.W.nsIn K mainGlobals "_law_begin" = some (some (.ref f_begin)))
    (l_begin : K.lookup f_begin = some ⟨oc_begin, od_begin, .func (PySem.W.fnOf "_law_begin" "_law_begin" (defArgs s_begin) (defBody s_begin) (defScope s_begin) .none kV_begin dc_begin pm_begin an_begin cd_begin ct_begin), sl_begin⟩)
    (c_begin : PySem.W.codeIn K cd_begin "_law_begin" = true)
    (k_begin : PySem.W.keepIn K (.ref f_begin) = true)
    {f_mixed : Addr} {od_mixed an_mixed : Option Addr} {sl_mixed : Array (Option Value)} {oc_mixed kV_mixed dc_mixed pm_mixed cd_mixed ct_mixed : Value}
    (n_mixed : PySem.W.nsIn K mainGlobals "_law_mixed" = some (some (.ref f_mixed)))
    (l_mixed : K.lookup f_mixed = some ⟨oc_mixed, od_mixed, .func (PySem.W.fnOf "_law_mixed" "_law_mixed" (defArgs s_mixed) (defBody s_mixed) (defScope s_mixed) .none kV_mixed dc_mixed pm_mixed an_mixed cd_mixed ct_mixed), sl_mixed⟩)
    (c_mixed : PySem.W.codeIn K cd_mixed "_law_mixed" = true)
    (k_mixed : PySem.W.keepIn K (.ref f_mixed) = true)
    {f_next : Addr} {od_next an_next : Option Addr} {sl_next : Array (Option Value)} {oc_next kV_next dc_next pm_next cd_next ct_next : Value}
    (n_next : PySem.W.nsIn K mainGlobals "_law_next" = some (some (.ref f_next)))
    (l_next : K.lookup f_next = some ⟨oc_next, od_next, .func (PySem.W.fnOf "_law_next" "_law_next" (defArgs s_next) (defBody s_next) (defScope s_next) .none kV_next dc_next pm_next an_next cd_next ct_next), sl_next⟩)
    (c_next : PySem.W.codeIn K cd_next "_law_next" = true)
    (k_next : PySem.W.keepIn K (.ref f_next) = true)
    {f_versions : Addr} {od_versions an_versions : Option Addr} {sl_versions : Array (Option Value)} {oc_versions kV_versions dc_versions pm_versions cd_versions ct_versions : Value}
    (n_versions : PySem.W.nsIn K mainGlobals "_law_versions" = some (some (.ref f_versions)))
    (l_versions : K.lookup f_versions = some ⟨oc_versions, od_versions, .func (PySem.W.fnOf "_law_versions" "_law_versions" (defArgs s_versions) (defBody s_versions) (defScope s_versions) .none kV_versions dc_versions pm_versions an_versions cd_versions ct_versions), sl_versions⟩)
    (c_versions : PySem.W.codeIn K cd_versions "_law_versions" = true)
    (k_versions : PySem.W.keepIn K (.ref f_versions) = true)
    {f_made : Addr} {od_made an_made : Option Addr} {sl_made : Array (Option Value)} {oc_made kV_made dc_made pm_made cd_made ct_made : Value}
    (n_made : PySem.W.nsIn K mainGlobals "_law_made" = some (some (.ref f_made)))
    (l_made : K.lookup f_made = some ⟨oc_made, od_made, .func (PySem.W.fnOf "_law_made" "_law_made" (defArgs s_made) (defBody s_made) (defScope s_made) .none kV_made dc_made pm_made an_made cd_made ct_made), sl_made⟩)
    (c_made : PySem.W.codeIn K cd_made "_law_made" = true)
    (k_made : PySem.W.keepIn K (.ref f_made) = true)
    {f_ranked : Addr} {od_ranked an_ranked : Option Addr} {sl_ranked : Array (Option Value)} {oc_ranked kV_ranked dc_ranked pm_ranked cd_ranked ct_ranked : Value}
    (n_ranked : PySem.W.nsIn K mainGlobals "_law_ranked" = some (some (.ref f_ranked)))
    (l_ranked : K.lookup f_ranked = some ⟨oc_ranked, od_ranked, .func (PySem.W.fnOf "_law_ranked" "_law_ranked" (defArgs s_ranked) (defBody s_ranked) (defScope s_ranked) .none kV_ranked dc_ranked pm_ranked an_ranked cd_ranked ct_ranked), sl_ranked⟩)
    (c_ranked : PySem.W.codeIn K cd_ranked "_law_ranked" = true)
    (k_ranked : PySem.W.keepIn K (.ref f_ranked) = true)
    {f_order_right : Addr} {od_order_right an_order_right : Option Addr} {sl_order_right : Array (Option Value)} {oc_order_right kV_order_right dc_order_right pm_order_right cd_order_right ct_order_right : Value}
    (n_order_right : PySem.W.nsIn K mainGlobals "_law_order_right" = some (some (.ref f_order_right)))
    (l_order_right : K.lookup f_order_right = some ⟨oc_order_right, od_order_right, .func (PySem.W.fnOf "_law_order_right" "_law_order_right" (defArgs s_order_right) (defBody s_order_right) (defScope s_order_right) .none kV_order_right dc_order_right pm_order_right an_order_right cd_order_right ct_order_right), sl_order_right⟩)
    (c_order_right : PySem.W.codeIn K cd_order_right "_law_order_right" = true)
    (k_order_right : PySem.W.keepIn K (.ref f_order_right) = true)
    {f_refused : Addr} {od_refused an_refused : Option Addr} {sl_refused : Array (Option Value)} {oc_refused kV_refused dc_refused pm_refused cd_refused ct_refused : Value}
    (n_refused : PySem.W.nsIn K mainGlobals "_law_refused" = some (some (.ref f_refused)))
    (l_refused : K.lookup f_refused = some ⟨oc_refused, od_refused, .func (PySem.W.fnOf "_law_refused" "_law_refused" (defArgs s_refused) (defBody s_refused) (defScope s_refused) .none kV_refused dc_refused pm_refused an_refused cd_refused ct_refused), sl_refused⟩)
    (c_refused : PySem.W.codeIn K cd_refused "_law_refused" = true)
    (k_refused : PySem.W.keepIn K (.ref f_refused) = true)
    {f_law : Addr} {od_law an_law : Option Addr} {sl_law : Array (Option Value)} {oc_law kV_law dc_law pm_law cd_law ct_law : Value}
    (n_law : PySem.W.nsIn K mainGlobals "law" = some (some (.ref f_law)))
    (l_law : K.lookup f_law = some ⟨oc_law, od_law, .func (PySem.W.fnOf "law" "law" (defArgs s_law) (defBody s_law) (defScope s_law) .none kV_law dc_law pm_law an_law cd_law ct_law), sl_law⟩)
    (c_law : PySem.W.codeIn K cd_law "law" = true)
    (k_law : PySem.W.keepIn K (.ref f_law) = true)
    {f_BadVersion : Addr}
    {f_BadVersion_init : Addr} {od_BadVersion_init an_BadVersion_init : Option Addr} {sl_BadVersion_init : Array (Option Value)} {oc_BadVersion_init kV_BadVersion_init dc_BadVersion_init pm_BadVersion_init cd_BadVersion_init ct_BadVersion_init : Value}
    (n_BadVersion : PySem.W.nsIn K mainGlobals "BadVersion" = some (some (.ref f_BadVersion)))
    (at_BadVersion_init : PySem.W.findIn K (.ref f_BadVersion) "__init__" = some (some (.ref f_BadVersion_init)))
    (l_BadVersion_init : K.lookup f_BadVersion_init = some ⟨oc_BadVersion_init, od_BadVersion_init, .func (PySem.W.fnOf "__init__" "BadVersion.__init__" (defArgs s_BadVersion_init) (defBody s_BadVersion_init) (defScope s_BadVersion_init) .none kV_BadVersion_init dc_BadVersion_init pm_BadVersion_init an_BadVersion_init cd_BadVersion_init ct_BadVersion_init), sl_BadVersion_init⟩)
    (c_BadVersion_init : PySem.W.codeIn K cd_BadVersion_init "BadVersion.__init__" = true)
    (k_BadVersion_init : PySem.W.keepIn K (.ref f_BadVersion_init) = true)
    {f_BadName : Addr}
    {f_BadName_init : Addr} {od_BadName_init an_BadName_init : Option Addr} {sl_BadName_init : Array (Option Value)} {oc_BadName_init kV_BadName_init dc_BadName_init pm_BadName_init cd_BadName_init ct_BadName_init : Value}
    (n_BadName : PySem.W.nsIn K mainGlobals "BadName" = some (some (.ref f_BadName)))
    (at_BadName_init : PySem.W.findIn K (.ref f_BadName) "__init__" = some (some (.ref f_BadName_init)))
    (l_BadName_init : K.lookup f_BadName_init = some ⟨oc_BadName_init, od_BadName_init, .func (PySem.W.fnOf "__init__" "BadName.__init__" (defArgs s_BadName_init) (defBody s_BadName_init) (defScope s_BadName_init) .none kV_BadName_init dc_BadName_init pm_BadName_init an_BadName_init cd_BadName_init ct_BadName_init), sl_BadName_init⟩)
    (c_BadName_init : PySem.W.codeIn K cd_BadName_init "BadName.__init__" = true)
    (k_BadName_init : PySem.W.keepIn K (.ref f_BadName_init) = true)
    {nm_BadVersion qn_BadVersion : Str} {N_BadVersion : Addr} {bs_BadVersion bm_BadVersion : List Value} {sn_BadVersion : List Str} {sub_BadVersion : List Value} {ab_BadVersion : Bool} {col_BadVersion : Option Bool} {dd_BadVersion : Option Addr} {k0_BadVersion k1_BadVersion k2_BadVersion k3_BadVersion k5_BadVersion : Option Value}
    (xl_BadVersion : K.lookup f_BadVersion = some (excClassObj nm_BadVersion qn_BadVersion f_BadVersion N_BadVersion bs_BadVersion bm_BadVersion true sn_BadVersion sub_BadVersion ab_BadVersion col_BadVersion dd_BadVersion k0_BadVersion k1_BadVersion k2_BadVersion k3_BadVersion k5_BadVersion "ValueError.__new__"))
    (xr_BadVersion : PySem.HandSPX.refsVE bm_BadVersion = true)
    (xsa_BadVersion : PySem.W.findIn K (.ref f_BadVersion) "__setattr__" = some (some (.builtin "object.__setattr__")))
    (xb_BadVersion : PySem.W.subIn K (.ref f_BadVersion) (.type "BaseException") = some true)
    (xd_BadVersion : PySem.W.hasDictIn K f_BadVersion = true)
    (xy_BadVersion : PySem.W.typeIn K (.ref f_BadVersion) = some (.type "type"))
    (xk_BadVersion : PySem.W.keepIn K (.ref f_BadVersion) = true)
    (xg_BadVersion : PySem.W.findIn K (.ref f_BadVersion) "__getattribute__" = some (some (.builtin "BaseException.__getattribute__")))
    (xh_BadVersion : PySem.W.findIn K (.ref f_BadVersion) "__getattr__" = some none)
    (xc_BadVersion : PySem.W.findIn K (.ref f_BadVersion) "__class__" = some (some (.builtin "object.__class__")))
    (xn_BadVersion : PySem.W.specialIn K (.builtin "object.__class__") "__get__" = some (some (.builtin "getset_descriptor.__get__")))
    (xq_BadVersion : PySem.W.takesIn K (.builtin "object.__class__") = some true)
    (xm_BadVersion : PySem.W.mroIn K f_BadVersion (.type "object") = some true)
    (xt_BadVersion : PySem.W.typeIn K (.ref f_BadVersion_init) = some (.type "function"))
    (xf_BadVersion : PySem.W.findIn K (.ref f_BadVersion) "given" = some none)
    (xz_BadVersion : PySem.W.subIn K (.ref f_BadVersion) (.ref f_BadVersion) = some true)
    {nm_BadName qn_BadName : Str} {N_BadName : Addr} {bs_BadName bm_BadName : List Value} {sn_BadName : List Str} {sub_BadName : List Value} {ab_BadName : Bool} {col_BadName : Option Bool} {dd_BadName : Option Addr} {k0_BadName k1_BadName k2_BadName k3_BadName k5_BadName : Option Value}
    (xl_BadName : K.lookup f_BadName = some (excClassObj nm_BadName qn_BadName f_BadName N_BadName bs_BadName bm_BadName true sn_BadName sub_BadName ab_BadName col_BadName dd_BadName k0_BadName k1_BadName k2_BadName k3_BadName k5_BadName "ValueError.__new__"))
    (xr_BadName : PySem.HandSPX.refsVE bm_BadName = true)
    (xsa_BadName : PySem.W.findIn K (.ref f_BadName) "__setattr__" = some (some (.builtin "object.__setattr__")))
    (xb_BadName : PySem.W.subIn K (.ref f_BadName) (.type "BaseException") = some true)
    (xd_BadName : PySem.W.hasDictIn K f_BadName = true)
    (xy_BadName : PySem.W.typeIn K (.ref f_BadName) = some (.type "type"))
    (xk_BadName : PySem.W.keepIn K (.ref f_BadName) = true)
    (xg_BadName : PySem.W.findIn K (.ref f_BadName) "__getattribute__" = some (some (.builtin "BaseException.__getattribute__")))
    (xh_BadName : PySem.W.findIn K (.ref f_BadName) "__getattr__" = some none)
    (xc_BadName : PySem.W.findIn K (.ref f_BadName) "__class__" = some (some (.builtin "object.__class__")))
    (xn_BadName : PySem.W.specialIn K (.builtin "object.__class__") "__get__" = some (some (.builtin "getset_descriptor.__get__")))
    (xq_BadName : PySem.W.takesIn K (.builtin "object.__class__") = some true)
    (xm_BadName : PySem.W.mroIn K f_BadName (.type "object") = some true)
    (xt_BadName : PySem.W.typeIn K (.ref f_BadName_init) = some (.type "function"))
    (xf_BadName : PySem.W.findIn K (.ref f_BadName) "given" = some none)
    (xz_BadName : PySem.W.subIn K (.ref f_BadName) (.ref f_BadName) = some true)
    (xs_BadVersion_BadVersion : PySem.W.subIn K (.ref f_BadVersion) (.ref f_BadVersion) = some true)
    (xs_BadName_BadVersion : PySem.W.subIn K (.ref f_BadName) (.ref f_BadVersion) = some false)
    (xs_BadName_BadName : PySem.W.subIn K (.ref f_BadName) (.ref f_BadName) = some true)
    (ou_Version : PySem.W.subIn K (.ref f_Version) (.type "tuple") = some false)
    (on_Version : PySem.W.findIn K (.ref f_Version) "__ne__" = some (some (.builtin "object.__ne__")))
    (pg_Version : PySem.W.plainGet K f_Version Str.empty = true)
    (hd_Version : PySem.W.hasDictIn K f_Version = true)
    (po_Version : PySem.W.plainOver K f_Version = true)
    (sa_Version : PySem.W.findIn K (.ref f_Version) "__setattr__" = some (some (.builtin "object.__setattr__")))
    (mk_Version : PySem.W.makesIn K f_Version = true)
    (kc_Version : PySem.W.keepIn K (.ref f_Version) = true)
    (rd_Version : PySem.W.readsIn K f_Version (.type "type") = true)
    (ga_Version : PySem.W.specialIn K (.ref f_Version) "__getattribute__" = some (some (.builtin "type.__getattribute__")))
    (ca_Version : PySem.W.findIn K (.ref f_Version) "__class__" = some (some (.builtin "object.__class__")))
    (cn_Version : PySem.W.specialIn K (.builtin "object.__class__") "__get__" = some (some (.builtin "getset_descriptor.__get__")))
    (ct_Version : PySem.W.takesIn K (.builtin "object.__class__") = some true)
    (cm_Version : PySem.W.mroIn K f_Version (.type "object") = some true)
    (nf_Version : PySem.W.notFirst K f_Version (.ref f_Version) = true)
    (fn_Version_init : PySem.W.isFn K (.ref f_Version_init) = true)
    (na_Version_rank : PySem.W.findIn K (.ref f_Version) "_rank" = some none)
    (ge_Version_rank : PySem.W.specialIn K (.ref p_Version_rank) "__get__" = some (some (.builtin "property.__get__")))
    (tk_Version_rank : PySem.W.takesIn K (.ref p_Version_rank) = some true)
    (fn_Version_eq : PySem.W.isFn K (.ref f_Version_eq) = true)
    {t_Version_LAST : Tok}
    (cv_Version_LAST : PySem.W.findCls K (.ref f_Version) (.type "type") "LAST" = some (.val (.int 3000999999999999 t_Version_LAST)))
    (pg_Newest : PySem.W.plainGet K f_Newest Str.empty = true)
    (hd_Newest : PySem.W.hasDictIn K f_Newest = true)
    (po_Newest : PySem.W.plainOver K f_Newest = true)
    (sa_Newest : PySem.W.findIn K (.ref f_Newest) "__setattr__" = some (some (.builtin "object.__setattr__")))
    (mk_Newest : PySem.W.makesIn K f_Newest = true)
    (kc_Newest : PySem.W.keepIn K (.ref f_Newest) = true)
    (rd_Newest : PySem.W.readsIn K f_Newest (.type "type") = true)
    (ga_Newest : PySem.W.specialIn K (.ref f_Newest) "__getattribute__" = some (some (.builtin "type.__getattribute__")))
    (ca_Newest : PySem.W.findIn K (.ref f_Newest) "__class__" = some (some (.builtin "object.__class__")))
    (cn_Newest : PySem.W.specialIn K (.builtin "object.__class__") "__get__" = some (some (.builtin "getset_descriptor.__get__")))
    (ct_Newest : PySem.W.takesIn K (.builtin "object.__class__") = some true)
    (cm_Newest : PySem.W.mroIn K f_Newest (.type "object") = some true)
    (nf_Newest : PySem.W.notFirst K f_Newest (.ref f_Newest) = true)
    (ni_Newest : PySem.W.findIn K (.ref f_Newest) "__init__" = some (some (.builtin "object.__init__")))
    (fn_Newest_call : PySem.W.isFn K (.ref f_Newest_call) = true)
    (fi_Newest_call : PySem.W.fnIn K f_Newest_call = true)
    (fn_Newest_standing_of : PySem.W.isFn K (.ref f_Newest_standing_of) = true)
    (pg_Oldest : PySem.W.plainGet K f_Oldest Str.empty = true)
    (hd_Oldest : PySem.W.hasDictIn K f_Oldest = true)
    (po_Oldest : PySem.W.plainOver K f_Oldest = true)
    (sa_Oldest : PySem.W.findIn K (.ref f_Oldest) "__setattr__" = some (some (.builtin "object.__setattr__")))
    (mk_Oldest : PySem.W.makesIn K f_Oldest = true)
    (kc_Oldest : PySem.W.keepIn K (.ref f_Oldest) = true)
    (rd_Oldest : PySem.W.readsIn K f_Oldest (.type "type") = true)
    (ga_Oldest : PySem.W.specialIn K (.ref f_Oldest) "__getattribute__" = some (some (.builtin "type.__getattribute__")))
    (ca_Oldest : PySem.W.findIn K (.ref f_Oldest) "__class__" = some (some (.builtin "object.__class__")))
    (cn_Oldest : PySem.W.specialIn K (.builtin "object.__class__") "__get__" = some (some (.builtin "getset_descriptor.__get__")))
    (ct_Oldest : PySem.W.takesIn K (.builtin "object.__class__") = some true)
    (cm_Oldest : PySem.W.mroIn K f_Oldest (.type "object") = some true)
    (nf_Oldest : PySem.W.notFirst K f_Oldest (.ref f_Oldest) = true)
    (ni_Oldest : PySem.W.findIn K (.ref f_Oldest) "__init__" = some (some (.builtin "object.__init__")))
    (fn_Oldest_call : PySem.W.isFn K (.ref f_Oldest_call) = true)
    (fi_Oldest_call : PySem.W.fnIn K f_Oldest_call = true)
    (fn_Oldest_standing_of : PySem.W.isFn K (.ref f_Oldest_standing_of) = true)
    (pg_Keeping : PySem.W.plainGet K f_Keeping Str.empty = true)
    (hd_Keeping : PySem.W.hasDictIn K f_Keeping = true)
    (po_Keeping : PySem.W.plainOver K f_Keeping = true)
    (sa_Keeping : PySem.W.findIn K (.ref f_Keeping) "__setattr__" = some (some (.builtin "object.__setattr__")))
    (mk_Keeping : PySem.W.makesIn K f_Keeping = true)
    (kc_Keeping : PySem.W.keepIn K (.ref f_Keeping) = true)
    (rd_Keeping : PySem.W.readsIn K f_Keeping (.type "type") = true)
    (ga_Keeping : PySem.W.specialIn K (.ref f_Keeping) "__getattribute__" = some (some (.builtin "type.__getattribute__")))
    (ca_Keeping : PySem.W.findIn K (.ref f_Keeping) "__class__" = some (some (.builtin "object.__class__")))
    (cn_Keeping : PySem.W.specialIn K (.builtin "object.__class__") "__get__" = some (some (.builtin "getset_descriptor.__get__")))
    (ct_Keeping : PySem.W.takesIn K (.builtin "object.__class__") = some true)
    (cm_Keeping : PySem.W.mroIn K f_Keeping (.type "object") = some true)
    (nf_Keeping : PySem.W.notFirst K f_Keeping (.ref f_Keeping) = true)
    (fn_Keeping_init : PySem.W.isFn K (.ref f_Keeping_init) = true)
    (na_Keeping_standing : PySem.W.findIn K (.ref f_Keeping) "_standing" = some none)
    (fn_Keeping_call : PySem.W.isFn K (.ref f_Keeping_call) = true)
    (fi_Keeping_call : PySem.W.fnIn K f_Keeping_call = true)
    (fn_Keeping_standing_of : PySem.W.isFn K (.ref f_Keeping_standing_of) = true)
    {t_LETTERS : Tok}
    (g_LETTERS : PySem.W.nsIn K mainGlobals "LETTERS" = some (some (.str "abcdefghijklmnopqrstuvwxyz" t_LETTERS)))
    {t_DIGITS : Tok}
    (g_DIGITS : PySem.W.nsIn K mainGlobals "DIGITS" = some (some (.str "0123456789" t_DIGITS)))
    {k_STAGES : Addr} {od_STAGES : Option Addr} {sl_STAGES : Array (Option Value)} {nn_STAGES : Nat} {t_STAGES0 : Tok} {t_STAGES1 : Tok} {t_STAGES2 : Tok}
    (g_STAGES : PySem.W.nsIn K mainGlobals "STAGES" = some (some (.ref k_STAGES)))
    (w_STAGES : K.lookup k_STAGES = some ⟨.type "tuple", od_STAGES, .seq #[.str "a" t_STAGES0, .str "b" t_STAGES1, .str "rc" t_STAGES2] nn_STAGES, sl_STAGES⟩)
    {t_FINAL : Tok}
    (g_FINAL : PySem.W.nsIn K mainGlobals "FINAL" = some (some (.int 3000 t_FINAL)))
    {t_WIDTH : Tok}
    (g_WIDTH : PySem.W.nsIn K mainGlobals "WIDTH" = some (some (.int 3001 t_WIDTH)))
    {t_GREATEST : Tok}
    (g_GREATEST : PySem.W.nsIn K mainGlobals "GREATEST" = some (some (.int 999 t_GREATEST)))
    (z_all : PySem.W.nsIn K mainGlobals "all" = some none)
    (z_enumerate : PySem.W.nsIn K mainGlobals "enumerate" = some none)
    (z_int : PySem.W.nsIn K mainGlobals "int" = some none)
    (z_isinstance : PySem.W.nsIn K mainGlobals "isinstance" = some none)
    (z_len : PySem.W.nsIn K mainGlobals "len" = some none)
    (z_list : PySem.W.nsIn K mainGlobals "list" = some none)
    (z_range : PySem.W.nsIn K mainGlobals "range" = some none)
    (z_sorted : PySem.W.nsIn K mainGlobals "sorted" = some none)
    (z_str : PySem.W.nsIn K mainGlobals "str" = some none)
    (z_tuple : PySem.W.nsIn K mainGlobals "tuple" = some none)
    (z_zip : PySem.W.nsIn K mainGlobals "zip" = some none) :
    ∃ fd : FuncData, (∀ (s : Shared) (v : Value), BindsTo s fd ⟨[v], []⟩ [("_law_script", v)]) ∧ ∀ base : Heap, K.In base → base.Ns mainGlobals mg → FnG l.prog w K mg base 13 fa fd ["_law_script"] (spLaw K) := by
  have e0 := hfa.symm.trans (PySem.W.mg_of X G n_law)
  have e : f_law = fa := by
    cases e0
    rfl
  subst e
  have F_consists_of := fun_mk (st := s_consists_of) l_consists_of c_consists_of k_consists_of
  have B_consists_of := F_consists_of.binds (ps := P_consists_of) fun _ _ _ _ _ _ us hl => match us, hl with | [_, _], _ => rfl
  have F_is_string_of := fun_mk (st := s_is_string_of) l_is_string_of c_is_string_of k_is_string_of
  have B_is_string_of := F_is_string_of.binds (ps := P_is_string_of) fun _ _ _ _ _ _ us hl => match us, hl with | [_, _, _], _ => rfl
  have F_number_in := fun_mk (st := s_number_in) l_number_in c_number_in k_number_in
  have B_number_in := F_number_in.binds (ps := P_number_in) fun _ _ _ _ _ _ us hl => match us, hl with | [_, _], _ => rfl
  have F_are_pairs := fun_mk (st := s_are_pairs) l_are_pairs c_are_pairs k_are_pairs
  have B_are_pairs := F_are_pairs.binds (ps := P_are_pairs) fun _ _ _ _ _ _ us hl => match us, hl with | [_, _], _ => rfl
  have F_is_name := fun_mk (st := s_is_name) l_is_name c_is_name k_is_name
  have B_is_name := F_is_name.binds (ps := P_is_name) fun _ _ _ _ _ _ us hl => match us, hl with | [_], _ => rfl
  have F_stage_of_text := fun_mk (st := s_stage_of_text) l_stage_of_text c_stage_of_text k_stage_of_text
  have B_stage_of_text := F_stage_of_text.binds (ps := P_stage_of_text) fun _ _ _ _ _ _ us hl => match us, hl with | [_], _ => rfl
  have F_parts_of_text := fun_mk (st := s_parts_of_text) l_parts_of_text c_parts_of_text k_parts_of_text
  have B_parts_of_text := F_parts_of_text.binds (ps := P_parts_of_text) fun _ _ _ _ _ _ us hl => match us, hl with | [_], _ => rfl
  have F_rank_of := fun_mk (st := s_rank_of) l_rank_of c_rank_of k_rank_of
  have B_rank_of := F_rank_of.binds (ps := P_rank_of) fun _ _ _ _ _ _ us hl => match us, hl with | [_, _], _ => rfl
  have F_Version_init := fun_mk (st := s_Version_init) l_Version_init c_Version_init k_Version_init
  have B_Version_init := F_Version_init.binds (ps := P_Version_init) fun _ _ _ _ _ _ us hl => match us, hl with | [_, _], _ => rfl
  have F_Version_rank := fun_mk (st := s_Version_rank) l_Version_rank c_Version_rank k_Version_rank
  have B_Version_rank := F_Version_rank.binds (ps := P_Version_rank) fun _ _ _ _ _ _ us hl => match us, hl with | [_], _ => rfl
  have F_Version_eq := fun_mk (st := s_Version_eq) l_Version_eq c_Version_eq k_Version_eq
  have B_Version_eq := F_Version_eq.binds (ps := P_Version_eq) fun _ _ _ _ _ _ us hl => match us, hl with | [_, _], _ => rfl
  have F_by_rank := fun_mk (st := s_by_rank) l_by_rank c_by_rank k_by_rank
  have B_by_rank := F_by_rank.binds (ps := P_by_rank) fun _ _ _ _ _ _ us hl => match us, hl with | [_, _], _ => rfl
  have F_is_standing := fun_mk (st := s_is_standing) l_is_standing c_is_standing k_is_standing
  have B_is_standing := F_is_standing.binds (ps := P_is_standing) fun _ _ _ _ _ _ us hl => match us, hl with | [_], _ => rfl
  have F_is_fresh := fun_mk (st := s_is_fresh) l_is_fresh c_is_fresh k_is_fresh
  have B_is_fresh := F_is_fresh.binds (ps := P_is_fresh) fun _ _ _ _ _ _ us hl => match us, hl with | [_], _ => rfl
  have F_Newest_call := fun_mk (st := s_Newest_call) l_Newest_call c_Newest_call k_Newest_call
  have B_Newest_call := F_Newest_call.binds (ps := P_Newest_call) fun _ _ _ _ _ _ us hl => match us, hl with | [_, _, _], _ => rfl
  have F_Newest_standing_of := fun_mk (st := s_Newest_standing_of) l_Newest_standing_of c_Newest_standing_of k_Newest_standing_of
  have B_Newest_standing_of := F_Newest_standing_of.binds (ps := P_Newest_standing_of) fun _ _ _ _ _ _ us hl => match us, hl with | [_, _], _ => rfl
  have F_Oldest_call := fun_mk (st := s_Oldest_call) l_Oldest_call c_Oldest_call k_Oldest_call
  have B_Oldest_call := F_Oldest_call.binds (ps := P_Oldest_call) fun _ _ _ _ _ _ us hl => match us, hl with | [_, _, _], _ => rfl
  have F_Oldest_standing_of := fun_mk (st := s_Oldest_standing_of) l_Oldest_standing_of c_Oldest_standing_of k_Oldest_standing_of
  have B_Oldest_standing_of := F_Oldest_standing_of.binds (ps := P_Oldest_standing_of) fun _ _ _ _ _ _ us hl => match us, hl with | [_, _], _ => rfl
  have F_Keeping_init : FunD K "__init__" "Keeping.__init__" (defArgs s_Keeping_init) (defBody s_Keeping_init) (defScope s_Keeping_init) [.ref e_Keeping_init] [] f_Keeping_init (PySem.W.fnOf "__init__" "Keeping.__init__" (defArgs s_Keeping_init) (defBody s_Keeping_init) (defScope s_Keeping_init) (.ref dt_Keeping_init) kV_Keeping_init dc_Keeping_init pm_Keeping_init an_Keeping_init cd_Keeping_init ct_Keeping_init) := ⟨⟨_, _, _, _, _, _, _, _, _, _, rfl, l_Keeping_init, c_Keeping_init, .inr ⟨by simp, dt_Keeping_init, _, _, _, rfl, w_Keeping_init, rfl, .cons rfl (.nil)⟩, .inl rfl⟩, k_Keeping_init⟩
  have B0_Keeping_init : ∃ ds : List Value, Vals [.ref e_Keeping_init] ds ∧ Binds K (PySem.W.fnOf "__init__" "Keeping.__init__" (defArgs s_Keeping_init) (defBody s_Keeping_init) (defScope s_Keeping_init) (.ref dt_Keeping_init) kV_Keeping_init dc_Keeping_init pm_Keeping_init an_Keeping_init cd_Keeping_init ct_Keeping_init) P_Keeping_init ds := F_Keeping_init.binds1 (ps := P_Keeping_init) 2 0 (by simp) rfl fun _ _ _ _ _ _ _ us its h1 h2 => match us, its, h1, h2 with | [_, _], [_], _, _ => ⟨_, rfl, rfl⟩
  have B_Keeping_init : Binds K (PySem.W.fnOf "__init__" "Keeping.__init__" (defArgs s_Keeping_init) (defBody s_Keeping_init) (defScope s_Keeping_init) (.ref dt_Keeping_init) kV_Keeping_init dc_Keeping_init pm_Keeping_init an_Keeping_init cd_Keeping_init ct_Keeping_init) P_Keeping_init [] := by
    obtain ⟨ds, hv, hb⟩ := F_Keeping_init.binds1 (ps := P_Keeping_init) 3 1 (by simp) rfl fun _ _ _ _ _ _ _ us its h1 h2 => match us, its, h1, h2 with | [_, _, _], [_], _, _ => ⟨_, rfl, rfl⟩
    cases hv
    exact hb
  have F_Keeping_call := fun_mk (st := s_Keeping_call) l_Keeping_call c_Keeping_call k_Keeping_call
  have B_Keeping_call := F_Keeping_call.binds (ps := P_Keeping_call) fun _ _ _ _ _ _ us hl => match us, hl with | [_, _, _], _ => rfl
  have F_Keeping_standing_of := fun_mk (st := s_Keeping_standing_of) l_Keeping_standing_of c_Keeping_standing_of k_Keeping_standing_of
  have B_Keeping_standing_of := F_Keeping_standing_of.binds (ps := P_Keeping_standing_of) fun _ _ _ _ _ _ us hl => match us, hl with | [_, _], _ => rfl
  have F_begin := fun_mk (st := s_begin) l_begin c_begin k_begin
  have B_begin := F_begin.binds (ps := P_begin) fun _ _ _ _ _ _ us hl => match us, hl with | [_], _ => rfl
  have F_mixed := fun_mk (st := s_mixed) l_mixed c_mixed k_mixed
  have B_mixed := F_mixed.binds (ps := P_mixed) fun _ _ _ _ _ _ us hl => match us, hl with | [_, _], _ => rfl
  have F_next := fun_mk (st := s_next) l_next c_next k_next
  have B_next := F_next.binds (ps := P_next) fun _ _ _ _ _ _ us hl => match us, hl with | [_, _], _ => rfl
  have F_versions := fun_mk (st := s_versions) l_versions c_versions k_versions
  have B_versions := F_versions.binds (ps := P_versions) fun _ _ _ _ _ _ us hl => match us, hl with | [_], _ => rfl
  have F_made := fun_mk (st := s_made) l_made c_made k_made
  have B_made := F_made.binds (ps := P_made) fun _ _ _ _ _ _ us hl => match us, hl with | [_], _ => rfl
  have F_ranked := fun_mk (st := s_ranked) l_ranked c_ranked k_ranked
  have B_ranked := F_ranked.binds (ps := P_ranked) fun _ _ _ _ _ _ us hl => match us, hl with | [_, _, _], _ => rfl
  have F_order_right := fun_mk (st := s_order_right) l_order_right c_order_right k_order_right
  have B_order_right := F_order_right.binds (ps := P_order_right) fun _ _ _ _ _ _ us hl => match us, hl with | [_, _], _ => rfl
  have F_refused := fun_mk (st := s_refused) l_refused c_refused k_refused
  have B_refused := F_refused.binds (ps := P_refused) fun _ _ _ _ _ _ us hl => match us, hl with | [_, _], _ => rfl
  have F_law := fun_mk (st := s_law) l_law c_law k_law
  have B_law := F_law.binds (ps := P_law) fun _ _ _ _ _ _ us hl => match us, hl with | [_], _ => rfl
  have F_BadVersion_init := fun_mk (st := s_BadVersion_init) l_BadVersion_init c_BadVersion_init k_BadVersion_init
  have B_BadVersion_init := F_BadVersion_init.binds (ps := P_BadVersion_init) fun _ _ _ _ _ _ us hl => match us, hl with | [_, _], _ => rfl
  have F_BadName_init := fun_mk (st := s_BadName_init) l_BadName_init c_BadName_init k_BadName_init
  have B_BadName_init := F_BadName_init.binds (ps := P_BadName_init) fun _ _ _ _ _ _ us hl => match us, hl with | [_, _], _ => rfl
  have KM_Keeping_init_km : KM K (PySem.W.fnOf "__init__" "Keeping.__init__" (defArgs s_Keeping_init) (defBody s_Keeping_init) (defScope s_Keeping_init) (.ref dt_Keeping_init) kV_Keeping_init dc_Keeping_init pm_Keeping_init an_Keeping_init cd_Keeping_init ct_Keeping_init) P_Keeping_init ["standing", "fresh"] (fun us => match us with | [x0, x1] => [x0, x1] | _ => []) (fun us => match us with | [x0, x1] => [x0, x1] | _ => []) := ⟨fun _ _ ws X hl => match ws, hl with | [_, _], _ => .of_defaults rfl (X _ _ w_Keeping_init) rfl rfl rfl, fun {zs ws} hl r => match zs, ws, hl, r with | [_, _], _, _, .cons r0 (.cons r1 (.nil)) => .cons r0 (.cons r1 (.nil))⟩
  have T : Tex K mg { a_consists_of := f_consists_of, d_consists_of := (PySem.W.fnOf "consists_of" "consists_of" (defArgs s_consists_of) (defBody s_consists_of) (defScope s_consists_of) .none kV_consists_of dc_consists_of pm_consists_of an_consists_of cd_consists_of ct_consists_of), a_is_string_of := f_is_string_of, d_is_string_of := (PySem.W.fnOf "is_string_of" "is_string_of" (defArgs s_is_string_of) (defBody s_is_string_of) (defScope s_is_string_of) .none kV_is_string_of dc_is_string_of pm_is_string_of an_is_string_of cd_is_string_of ct_is_string_of), a_number_in := f_number_in, d_number_in := (PySem.W.fnOf "number_in" "number_in" (defArgs s_number_in) (defBody s_number_in) (defScope s_number_in) .none kV_number_in dc_number_in pm_number_in an_number_in cd_number_in ct_number_in), a_are_pairs := f_are_pairs, d_are_pairs := (PySem.W.fnOf "are_pairs" "are_pairs" (defArgs s_are_pairs) (defBody s_are_pairs) (defScope s_are_pairs) .none kV_are_pairs dc_are_pairs pm_are_pairs an_are_pairs cd_are_pairs ct_are_pairs), a_is_name := f_is_name, d_is_name := (PySem.W.fnOf "is_name" "is_name" (defArgs s_is_name) (defBody s_is_name) (defScope s_is_name) .none kV_is_name dc_is_name pm_is_name an_is_name cd_is_name ct_is_name), a_stage_of_text := f_stage_of_text, d_stage_of_text := (PySem.W.fnOf "stage_of_text" "stage_of_text" (defArgs s_stage_of_text) (defBody s_stage_of_text) (defScope s_stage_of_text) .none kV_stage_of_text dc_stage_of_text pm_stage_of_text an_stage_of_text cd_stage_of_text ct_stage_of_text), a_parts_of_text := f_parts_of_text, d_parts_of_text := (PySem.W.fnOf "parts_of_text" "parts_of_text" (defArgs s_parts_of_text) (defBody s_parts_of_text) (defScope s_parts_of_text) .none kV_parts_of_text dc_parts_of_text pm_parts_of_text an_parts_of_text cd_parts_of_text ct_parts_of_text), a_rank_of := f_rank_of, d_rank_of := (PySem.W.fnOf "rank_of" "rank_of" (defArgs s_rank_of) (defBody s_rank_of) (defScope s_rank_of) .none kV_rank_of dc_rank_of pm_rank_of an_rank_of cd_rank_of ct_rank_of), a_Version_init := f_Version_init, d_Version_init := (PySem.W.fnOf "__init__" "Version.__init__" (defArgs s_Version_init) (defBody s_Version_init) (defScope s_Version_init) .none kV_Version_init dc_Version_init pm_Version_init an_Version_init cd_Version_init ct_Version_init), a_Version_rank := f_Version_rank, d_Version_rank := (PySem.W.fnOf "rank" "Version.rank" (defArgs s_Version_rank) (defBody s_Version_rank) (defScope s_Version_rank) .none kV_Version_rank dc_Version_rank pm_Version_rank an_Version_rank cd_Version_rank ct_Version_rank), a_Version_eq := f_Version_eq, d_Version_eq := (PySem.W.fnOf "__eq__" "Version.__eq__" (defArgs s_Version_eq) (defBody s_Version_eq) (defScope s_Version_eq) .none kV_Version_eq dc_Version_eq pm_Version_eq an_Version_eq cd_Version_eq ct_Version_eq), a_by_rank := f_by_rank, d_by_rank := (PySem.W.fnOf "by_rank" "by_rank" (defArgs s_by_rank) (defBody s_by_rank) (defScope s_by_rank) .none kV_by_rank dc_by_rank pm_by_rank an_by_rank cd_by_rank ct_by_rank), a_is_standing := f_is_standing, d_is_standing := (PySem.W.fnOf "is_standing" "is_standing" (defArgs s_is_standing) (defBody s_is_standing) (defScope s_is_standing) .none kV_is_standing dc_is_standing pm_is_standing an_is_standing cd_is_standing ct_is_standing), a_is_fresh := f_is_fresh, d_is_fresh := (PySem.W.fnOf "is_fresh" "is_fresh" (defArgs s_is_fresh) (defBody s_is_fresh) (defScope s_is_fresh) .none kV_is_fresh dc_is_fresh pm_is_fresh an_is_fresh cd_is_fresh ct_is_fresh), a_Newest_call := f_Newest_call, d_Newest_call := (PySem.W.fnOf "__call__" "Newest.__call__" (defArgs s_Newest_call) (defBody s_Newest_call) (defScope s_Newest_call) .none kV_Newest_call dc_Newest_call pm_Newest_call an_Newest_call cd_Newest_call ct_Newest_call), a_Newest_standing_of := f_Newest_standing_of, d_Newest_standing_of := (PySem.W.fnOf "standing_of" "Newest.standing_of" (defArgs s_Newest_standing_of) (defBody s_Newest_standing_of) (defScope s_Newest_standing_of) .none kV_Newest_standing_of dc_Newest_standing_of pm_Newest_standing_of an_Newest_standing_of cd_Newest_standing_of ct_Newest_standing_of), a_Oldest_call := f_Oldest_call, d_Oldest_call := (PySem.W.fnOf "__call__" "Oldest.__call__" (defArgs s_Oldest_call) (defBody s_Oldest_call) (defScope s_Oldest_call) .none kV_Oldest_call dc_Oldest_call pm_Oldest_call an_Oldest_call cd_Oldest_call ct_Oldest_call), a_Oldest_standing_of := f_Oldest_standing_of, d_Oldest_standing_of := (PySem.W.fnOf "standing_of" "Oldest.standing_of" (defArgs s_Oldest_standing_of) (defBody s_Oldest_standing_of) (defScope s_Oldest_standing_of) .none kV_Oldest_standing_of dc_Oldest_standing_of pm_Oldest_standing_of an_Oldest_standing_of cd_Oldest_standing_of ct_Oldest_standing_of), e_Keeping_init := e_Keeping_init, a_Keeping_init := f_Keeping_init, d_Keeping_init := (PySem.W.fnOf "__init__" "Keeping.__init__" (defArgs s_Keeping_init) (defBody s_Keeping_init) (defScope s_Keeping_init) (.ref dt_Keeping_init) kV_Keeping_init dc_Keeping_init pm_Keeping_init an_Keeping_init cd_Keeping_init ct_Keeping_init), a_Keeping_call := f_Keeping_call, d_Keeping_call := (PySem.W.fnOf "__call__" "Keeping.__call__" (defArgs s_Keeping_call) (defBody s_Keeping_call) (defScope s_Keeping_call) .none kV_Keeping_call dc_Keeping_call pm_Keeping_call an_Keeping_call cd_Keeping_call ct_Keeping_call), a_Keeping_standing_of := f_Keeping_standing_of, d_Keeping_standing_of := (PySem.W.fnOf "standing_of" "Keeping.standing_of" (defArgs s_Keeping_standing_of) (defBody s_Keeping_standing_of) (defScope s_Keeping_standing_of) .none kV_Keeping_standing_of dc_Keeping_standing_of pm_Keeping_standing_of an_Keeping_standing_of cd_Keeping_standing_of ct_Keeping_standing_of), a_begin := f_begin, d_begin := (PySem.W.fnOf "_law_begin" "_law_begin" (defArgs s_begin) (defBody s_begin) (defScope s_begin) .none kV_begin dc_begin pm_begin an_begin cd_begin ct_begin), a_mixed := f_mixed, d_mixed := (PySem.W.fnOf "_law_mixed" "_law_mixed" (defArgs s_mixed) (defBody s_mixed) (defScope s_mixed) .none kV_mixed dc_mixed pm_mixed an_mixed cd_mixed ct_mixed), a_next := f_next, d_next := (PySem.W.fnOf "_law_next" "_law_next" (defArgs s_next) (defBody s_next) (defScope s_next) .none kV_next dc_next pm_next an_next cd_next ct_next), a_versions := f_versions, d_versions := (PySem.W.fnOf "_law_versions" "_law_versions" (defArgs s_versions) (defBody s_versions) (defScope s_versions) .none kV_versions dc_versions pm_versions an_versions cd_versions ct_versions), a_made := f_made, d_made := (PySem.W.fnOf "_law_made" "_law_made" (defArgs s_made) (defBody s_made) (defScope s_made) .none kV_made dc_made pm_made an_made cd_made ct_made), a_ranked := f_ranked, d_ranked := (PySem.W.fnOf "_law_ranked" "_law_ranked" (defArgs s_ranked) (defBody s_ranked) (defScope s_ranked) .none kV_ranked dc_ranked pm_ranked an_ranked cd_ranked ct_ranked), a_order_right := f_order_right, d_order_right := (PySem.W.fnOf "_law_order_right" "_law_order_right" (defArgs s_order_right) (defBody s_order_right) (defScope s_order_right) .none kV_order_right dc_order_right pm_order_right an_order_right cd_order_right ct_order_right), a_refused := f_refused, d_refused := (PySem.W.fnOf "_law_refused" "_law_refused" (defArgs s_refused) (defBody s_refused) (defScope s_refused) .none kV_refused dc_refused pm_refused an_refused cd_refused ct_refused), a_law := f_law, d_law := (PySem.W.fnOf "law" "law" (defArgs s_law) (defBody s_law) (defScope s_law) .none kV_law dc_law pm_law an_law cd_law ct_law), a_BadVersion_init := f_BadVersion_init, d_BadVersion_init := (PySem.W.fnOf "__init__" "BadVersion.__init__" (defArgs s_BadVersion_init) (defBody s_BadVersion_init) (defScope s_BadVersion_init) .none kV_BadVersion_init dc_BadVersion_init pm_BadVersion_init an_BadVersion_init cd_BadVersion_init ct_BadVersion_init), a_BadName_init := f_BadName_init, d_BadName_init := (PySem.W.fnOf "__init__" "BadName.__init__" (defArgs s_BadName_init) (defBody s_BadName_init) (defScope s_BadName_init) .none kV_BadName_init dc_BadName_init pm_BadName_init an_BadName_init cd_BadName_init ct_BadName_init), a_BadVersion := f_BadVersion, a_BadName := f_BadName, a_Version := f_Version, p_Version_rank := p_Version_rank, t_Version_LAST := t_Version_LAST, a_Newest := f_Newest, a_Oldest := f_Oldest, a_Keeping := f_Keeping, t_LETTERS := t_LETTERS, t_DIGITS := t_DIGITS, k_STAGES := k_STAGES, t_FINAL := t_FINAL, t_WIDTH := t_WIDTH, t_GREATEST := t_GREATEST } := { consists_of_F := F_consists_of, consists_of_g := PySem.W.mg_of X G n_consists_of, consists_of_b := B_consists_of, is_string_of_F := F_is_string_of, is_string_of_g := PySem.W.mg_of X G n_is_string_of, is_string_of_b := B_is_string_of, number_in_F := F_number_in, number_in_g := PySem.W.mg_of X G n_number_in, number_in_b := B_number_in, are_pairs_F := F_are_pairs, are_pairs_g := PySem.W.mg_of X G n_are_pairs, are_pairs_b := B_are_pairs, is_name_F := F_is_name, is_name_g := PySem.W.mg_of X G n_is_name, is_name_b := B_is_name, stage_of_text_F := F_stage_of_text, stage_of_text_g := PySem.W.mg_of X G n_stage_of_text, stage_of_text_b := B_stage_of_text, parts_of_text_F := F_parts_of_text, parts_of_text_g := PySem.W.mg_of X G n_parts_of_text, parts_of_text_b := B_parts_of_text, rank_of_F := F_rank_of, rank_of_g := PySem.W.mg_of X G n_rank_of, rank_of_b := B_rank_of, Version_init_F := F_Version_init, Version_init_b := B_Version_init, Version_rank_F := F_Version_rank, Version_rank_b := B_Version_rank, Version_eq_F := F_Version_eq, Version_eq_b := B_Version_eq, by_rank_F := F_by_rank, by_rank_g := PySem.W.mg_of X G n_by_rank, by_rank_b := B_by_rank, is_standing_F := F_is_standing, is_standing_g := PySem.W.mg_of X G n_is_standing, is_standing_b := B_is_standing, is_fresh_F := F_is_fresh, is_fresh_g := PySem.W.mg_of X G n_is_fresh, is_fresh_b := B_is_fresh, Newest_call_F := F_Newest_call, Newest_call_b := B_Newest_call, Newest_standing_of_F := F_Newest_standing_of, Newest_standing_of_b := B_Newest_standing_of, Oldest_call_F := F_Oldest_call, Oldest_call_b := B_Oldest_call, Oldest_standing_of_F := F_Oldest_standing_of, Oldest_standing_of_b := B_Oldest_standing_of, Keeping_init_e := .inr ⟨_, _, _, we_Keeping_init, rfl, rfl, (by show 0 ≤ sizeLine; decide), .nil⟩, Keeping_init_b0 := B0_Keeping_init, Keeping_init_F := F_Keeping_init, Keeping_init_b := B_Keeping_init, Keeping_call_F := F_Keeping_call, Keeping_call_b := B_Keeping_call, Keeping_standing_of_F := F_Keeping_standing_of, Keeping_standing_of_b := B_Keeping_standing_of, begin_F := F_begin, begin_g := PySem.W.mg_of X G n_begin, begin_b := B_begin, mixed_F := F_mixed, mixed_g := PySem.W.mg_of X G n_mixed, mixed_b := B_mixed, next_F := F_next, next_g := PySem.W.mg_of X G n_next, next_b := B_next, versions_F := F_versions, versions_g := PySem.W.mg_of X G n_versions, versions_b := B_versions, made_F := F_made, made_g := PySem.W.mg_of X G n_made, made_b := B_made, ranked_F := F_ranked, ranked_g := PySem.W.mg_of X G n_ranked, ranked_b := B_ranked, order_right_F := F_order_right, order_right_g := PySem.W.mg_of X G n_order_right, order_right_b := B_order_right, refused_F := F_refused, refused_g := PySem.W.mg_of X G n_refused, refused_b := B_refused, law_F := F_law, law_g := PySem.W.mg_of X G n_law, law_b := B_law, BadVersion_init_F := F_BadVersion_init, BadVersion_init_b := B_BadVersion_init, BadName_init_F := F_BadName_init, BadName_init_b := B_BadName_init, BadVersion_g := PySem.W.mg_of X G n_BadVersion, BadVersion_xa := ⟨⟨⟨_, _, _, _, _, _, _, _, _, _, _, _, _, _, _, xl_BadVersion, xr_BadVersion⟩, xsa_BadVersion, xb_BadVersion, xy_BadVersion, xk_BadVersion⟩, ⟨xg_BadVersion, xh_BadVersion, xb_BadVersion, xd_BadVersion⟩, ⟨xg_BadVersion, xh_BadVersion, xb_BadVersion, xd_BadVersion, xc_BadVersion, xn_BadVersion, xq_BadVersion, xm_BadVersion⟩⟩, BadVersion_xt := xt_BadVersion, BadVersion_xf := xf_BadVersion, BadVersion_xi := at_BadVersion_init, BadVersion_nm := ⟨xb_BadVersion, xd_BadVersion, xy_BadVersion, xz_BadVersion⟩, BadName_g := PySem.W.mg_of X G n_BadName, BadName_xa := ⟨⟨⟨_, _, _, _, _, _, _, _, _, _, _, _, _, _, _, xl_BadName, xr_BadName⟩, xsa_BadName, xb_BadName, xy_BadName, xk_BadName⟩, ⟨xg_BadName, xh_BadName, xb_BadName, xd_BadName⟩, ⟨xg_BadName, xh_BadName, xb_BadName, xd_BadName, xc_BadName, xn_BadName, xq_BadName, xm_BadName⟩⟩, BadName_xt := xt_BadName, BadName_xf := xf_BadName, BadName_xi := at_BadName_init, BadName_nm := ⟨xb_BadName, xd_BadName, xy_BadName, xz_BadName⟩, BadVersion_BadVersion_s := xs_BadVersion_BadVersion, BadName_BadVersion_s := xs_BadName_BadVersion, BadName_BadName_s := xs_BadName_BadName, Version_tup_s := ou_Version, Version_ne_b := on_Version, Keeping_init_km := KM_Keeping_init_km, Version_g := PySem.W.mg_of X G n_Version, Version_cl := ⟨pg_Version, hd_Version, po_Version, sa_Version⟩, Version_mk := ⟨mk_Version, at_Version_init, fn_Version_init, kc_Version⟩, Version_rd := ⟨rd_Version, ga_Version⟩, Version_si := ⟨ca_Version, cn_Version, ct_Version, cm_Version⟩, Version_nf := nf_Version, Version_n_rank := na_Version_rank, Version_init_at := at_Version_init, Version_init_fn := fn_Version_init, Version_rank_p := ⟨at_Version_rank, ge_Version_rank, tk_Version_rank, _, rc_Version_rank⟩, Version_eq_at := at_Version_eq, Version_eq_fn := fn_Version_eq, Version_LAST := ⟨cv_Version_LAST, _, rfl⟩, Newest_g := PySem.W.mg_of X G n_Newest, Newest_cl := ⟨pg_Newest, hd_Newest, po_Newest, sa_Newest⟩, Newest_m0 := ⟨mk_Newest, kc_Newest, ni_Newest⟩, Newest_rd := ⟨rd_Newest, ga_Newest⟩, Newest_si := ⟨ca_Newest, cn_Newest, ct_Newest, cm_Newest⟩, Newest_nf := nf_Newest, Newest_call_at := at_Newest_call, Newest_call_fn := fn_Newest_call, Newest_call_c := ⟨at_Newest_call, fn_Newest_call, fi_Newest_call⟩, Newest_standing_of_at := at_Newest_standing_of, Newest_standing_of_fn := fn_Newest_standing_of, Oldest_g := PySem.W.mg_of X G n_Oldest, Oldest_cl := ⟨pg_Oldest, hd_Oldest, po_Oldest, sa_Oldest⟩, Oldest_m0 := ⟨mk_Oldest, kc_Oldest, ni_Oldest⟩, Oldest_rd := ⟨rd_Oldest, ga_Oldest⟩, Oldest_si := ⟨ca_Oldest, cn_Oldest, ct_Oldest, cm_Oldest⟩, Oldest_nf := nf_Oldest, Oldest_call_at := at_Oldest_call, Oldest_call_fn := fn_Oldest_call, Oldest_call_c := ⟨at_Oldest_call, fn_Oldest_call, fi_Oldest_call⟩, Oldest_standing_of_at := at_Oldest_standing_of, Oldest_standing_of_fn := fn_Oldest_standing_of, Keeping_g := PySem.W.mg_of X G n_Keeping, Keeping_cl := ⟨pg_Keeping, hd_Keeping, po_Keeping, sa_Keeping⟩, Keeping_mk := ⟨mk_Keeping, at_Keeping_init, fn_Keeping_init, kc_Keeping⟩, Keeping_rd := ⟨rd_Keeping, ga_Keeping⟩, Keeping_si := ⟨ca_Keeping, cn_Keeping, ct_Keeping, cm_Keeping⟩, Keeping_nf := nf_Keeping, Keeping_n_standing := na_Keeping_standing, Keeping_init_at := at_Keeping_init, Keeping_init_fn := fn_Keeping_init, Keeping_call_at := at_Keeping_call, Keeping_call_fn := fn_Keeping_call, Keeping_call_c := ⟨at_Keeping_call, fn_Keeping_call, fi_Keeping_call⟩, Keeping_standing_of_at := at_Keeping_standing_of, Keeping_standing_of_fn := fn_Keeping_standing_of, c_LETTERS := PySem.W.mg_of X G g_LETTERS, c_DIGITS := PySem.W.mg_of X G g_DIGITS, c_STAGES := PySem.W.mg_of X G g_STAGES, v_STAGES := .inr ⟨_, _, _, w_STAGES, rfl, rfl, (by show 3 ≤ sizeLine; decide), .cons ⟨_, rfl⟩ (.cons ⟨_, rfl⟩ (.cons ⟨_, rfl⟩ (.nil)))⟩, c_FINAL := PySem.W.mg_of X G g_FINAL, c_WIDTH := PySem.W.mg_of X G g_WIDTH, c_GREATEST := PySem.W.mg_of X G g_GREATEST, b_all := PySem.W.mg_none_of X G z_all, b_enumerate := PySem.W.mg_none_of X G z_enumerate, b_int := PySem.W.mg_none_of X G z_int, b_isinstance := PySem.W.mg_none_of X G z_isinstance, b_len := PySem.W.mg_none_of X G z_len, b_list := PySem.W.mg_none_of X G z_list, b_range := PySem.W.mg_none_of X G z_range, b_sorted := PySem.W.mg_none_of X G z_sorted, b_str := PySem.W.mg_none_of X G z_str, b_tuple := PySem.W.mg_none_of X G z_tuple, b_zip := PySem.W.mg_none_of X G z_zip }
  exact ⟨_, fun s v => .of_eq rfl, fun base _ _ => ok_law T⟩
end Pk
open PySem PySem.W PyProof.Rows
set_option maxRecDepth 100000 in
set_option maxHeartbeats 0 in
theorem PySem.Challenge.cw_parcelindex_k34_tastes_in_order_holds : PySem.Challenge.rw_parcelindex_k34_tastes_in_order.Holds := by
  w_on; o_law; k_headL; (case hw => w_witness2)
  k_fill
  refine Pk.walkG (l := PySem.Challenge.rw_parcelindex_k34_tastes_in_order) (k := 13) (x := "_law_script") (sp := Pk.spLaw) rfl rfl ⟨rfl, by decide, by decide⟩ (fun w h Y => PySem.W.kIn_of Y) ?F (fun K H a ns hl hS => ⟨a, ns, rfl, hS, hl, fun _ => rfl⟩)
  case F =>
    intro w mg fa h KX G hmg
    refine' Pk.all_mk KX G hmg ?n_consists_of ?l_consists_of ?c_consists_of ?k_consists_of ?n_is_string_of ?l_is_string_of ?c_is_string_of ?k_is_string_of ?n_number_in ?l_number_in ?c_number_in ?k_number_in ?n_are_pairs ?l_are_pairs ?c_are_pairs ?k_are_pairs ?n_is_name ?l_is_name ?c_is_name ?k_is_name ?n_stage_of_text ?l_stage_of_text ?c_stage_of_text ?k_stage_of_text ?n_parts_of_text ?l_parts_of_text ?c_parts_of_text ?k_parts_of_text ?n_rank_of ?l_rank_of ?c_rank_of ?k_rank_of ?n_Version ?at_Version_init ?l_Version_init ?c_Version_init ?k_Version_init ?at_Version_rank ?rc_Version_rank ?l_Version_rank ?c_Version_rank ?k_Version_rank ?at_Version_eq ?l_Version_eq ?c_Version_eq ?k_Version_eq ?n_by_rank ?l_by_rank ?c_by_rank ?k_by_rank ?n_is_standing ?l_is_standing ?c_is_standing ?k_is_standing ?n_is_fresh ?l_is_fresh ?c_is_fresh ?k_is_fresh ?n_Newest ?at_Newest_call ?l_Newest_call ?c_Newest_call ?k_Newest_call ?at_Newest_standing_of ?l_Newest_standing_of ?c_Newest_standing_of ?k_Newest_standing_of ?n_Oldest ?at_Oldest_call ?l_Oldest_call ?c_Oldest_call ?k_Oldest_call ?at_Oldest_standing_of ?l_Oldest_standing_of ?c_Oldest_standing_of ?k_Oldest_standing_of ?n_Keeping ?at_Keeping_init ?l_Keeping_init ?w_Keeping_init ?we_Keeping_init ?c_Keeping_init ?k_Keeping_init ?at_Keeping_call ?l_Keeping_call ?c_Keeping_call ?k_Keeping_call ?at_Keeping_standing_of ?l_Keeping_standing_of ?c_Keeping_standing_of ?k_Keeping_standing_of ?n_begin ?l_begin ?c_begin ?k_begin ?n_mixed ?l_mixed ?c_mixed ?k_mixed ?n_next ?l_next ?c_next ?k_next ?n_versions ?l_versions ?c_versions ?k_versions ?n_made ?l_made ?c_made ?k_made ?n_ranked ?l_ranked ?c_ranked ?k_ranked ?n_order_right ?l_order_right ?c_order_right ?k_order_right ?n_refused ?l_refused ?c_refused ?k_refused ?n_law ?l_law ?c_law ?k_law ?n_BadVersion ?at_BadVersion_init ?l_BadVersion_init ?c_BadVersion_init ?k_BadVersion_init ?n_BadName ?at_BadName_init ?l_BadName_init ?c_BadName_init ?k_BadName_init ?xl_BadVersion ?xr_BadVersion ?xsa_BadVersion ?xb_BadVersion ?xd_BadVersion ?xy_BadVersion ?xk_BadVersion ?xg_BadVersion ?xh_BadVersion ?xc_BadVersion ?xn_BadVersion ?xq_BadVersion ?xm_BadVersion ?xt_BadVersion ?xf_BadVersion ?xz_BadVersion ?xl_BadName ?xr_BadName ?xsa_BadName ?xb_BadName ?xd_BadName ?xy_BadName ?xk_BadName ?xg_BadName ?xh_BadName ?xc_BadName ?xn_BadName ?xq_BadName ?xm_BadName ?xt_BadName ?xf_BadName ?xz_BadName ?xs_BadVersion_BadVersion ?xs_BadName_BadVersion ?xs_BadName_BadName ?ou_Version ?on_Version ?pg_Version ?hd_Version ?po_Version ?sa_Version ?mk_Version ?kc_Version ?rd_Version ?ga_Version ?ca_Version ?cn_Version ?ct_Version ?cm_Version ?nf_Version ?fn_Version_init ?na_Version_rank ?ge_Version_rank ?tk_Version_rank ?fn_Version_eq ?cv_Version_LAST ?pg_Newest ?hd_Newest ?po_Newest ?sa_Newest ?mk_Newest ?kc_Newest ?rd_Newest ?ga_Newest ?ca_Newest ?cn_Newest ?ct_Newest ?cm_Newest ?nf_Newest ?ni_Newest ?fn_Newest_call ?fi_Newest_call ?fn_Newest_standing_of ?pg_Oldest ?hd_Oldest ?po_Oldest ?sa_Oldest ?mk_Oldest ?kc_Oldest ?rd_Oldest ?ga_Oldest ?ca_Oldest ?cn_Oldest ?ct_Oldest ?cm_Oldest ?nf_Oldest ?ni_Oldest ?fn_Oldest_call ?fi_Oldest_call ?fn_Oldest_standing_of ?pg_Keeping ?hd_Keeping ?po_Keeping ?sa_Keeping ?mk_Keeping ?kc_Keeping ?rd_Keeping ?ga_Keeping ?ca_Keeping ?cn_Keeping ?ct_Keeping ?cm_Keeping ?nf_Keeping ?fn_Keeping_init ?na_Keeping_standing ?fn_Keeping_call ?fi_Keeping_call ?fn_Keeping_standing_of ?g_LETTERS ?g_DIGITS ?g_STAGES ?w_STAGES ?g_FINAL ?g_WIDTH ?g_GREATEST ?z_all ?z_enumerate ?z_int ?z_isinstance ?z_len ?z_list ?z_range ?z_sorted ?z_str ?z_tuple ?z_zip
    (case n_consists_of => k_is)
    (case l_consists_of => k_is)
    (case c_consists_of => k_is)
    (case k_consists_of => k_is)
    (case n_is_string_of => k_is)
    (case l_is_string_of => k_is)
    (case c_is_string_of => k_is)
    (case k_is_string_of => k_is)
    (case n_number_in => k_is)
    (case l_number_in => k_is)
    (case c_number_in => k_is)
    (case k_number_in => k_is)
    (case n_are_pairs => k_is)
    (case l_are_pairs => k_is)
    (case c_are_pairs => k_is)
    (case k_are_pairs => k_is)
    (case n_is_name => k_is)
    (case l_is_name => k_is)
    (case c_is_name => k_is)
    (case k_is_name => k_is)
    (case n_stage_of_text => k_is)
    (case l_stage_of_text => k_is)
    (case c_stage_of_text => k_is)
    (case k_stage_of_text => k_is)
    (case n_parts_of_text => k_is)
    (case l_parts_of_text => k_is)
    (case c_parts_of_text => k_is)
    (case k_parts_of_text => k_is)
    (case n_rank_of => k_is)
    (case l_rank_of => k_is)
    (case c_rank_of => k_is)
    (case k_rank_of => k_is)
    (case n_Version => k_is)
    (case at_Version_init => k_is)
    (case l_Version_init => k_is)
    (case c_Version_init => k_is)
    (case k_Version_init => k_is)
    (case at_Version_rank => k_is)
    (case rc_Version_rank => k_is)
    (case l_Version_rank => k_is)
    (case c_Version_rank => k_is)
    (case k_Version_rank => k_is)
    (case at_Version_eq => k_is)
    (case l_Version_eq => k_is)
    (case c_Version_eq => k_is)
    (case k_Version_eq => k_is)
    (case n_by_rank => k_is)
    (case l_by_rank => k_is)
    (case c_by_rank => k_is)
    (case k_by_rank => k_is)
    (case n_is_standing => k_is)
    (case l_is_standing => k_is)
    (case c_is_standing => k_is)
    (case k_is_standing => k_is)
    (case n_is_fresh => k_is)
    (case l_is_fresh => k_is)
    (case c_is_fresh => k_is)
    (case k_is_fresh => k_is)
    (case n_Newest => k_is)
    (case at_Newest_call => k_is)
    (case l_Newest_call => k_is)
    (case c_Newest_call => k_is)
    (case k_Newest_call => k_is)
    (case at_Newest_standing_of => k_is)
    (case l_Newest_standing_of => k_is)
    (case c_Newest_standing_of => k_is)
    (case k_Newest_standing_of => k_is)
    (case n_Oldest => k_is)
    (case at_Oldest_call => k_is)
    (case l_Oldest_call => k_is)
    (case c_Oldest_call => k_is)
    (case k_Oldest_call => k_is)
    (case at_Oldest_standing_of => k_is)
    (case l_Oldest_standing_of => k_is)
    (case c_Oldest_standing_of => k_is)
    (case k_Oldest_standing_of => k_is)
    (case n_Keeping => k_is)
    (case at_Keeping_init => k_is)
    (case l_Keeping_init => k_is)
    (case w_Keeping_init => k_is)
    (case we_Keeping_init => k_is)
    (case c_Keeping_init => k_is)
    (case k_Keeping_init => k_is)
    (case at_Keeping_call => k_is)
    (case l_Keeping_call => k_is)
    (case c_Keeping_call => k_is)
    (case k_Keeping_call => k_is)
    (case at_Keeping_standing_of => k_is)
    (case l_Keeping_standing_of => k_is)
    (case c_Keeping_standing_of => k_is)
    (case k_Keeping_standing_of => k_is)
    (case n_begin => k_is)
    (case l_begin => k_is)
    (case c_begin => k_is)
    (case k_begin => k_is)
    (case n_mixed => k_is)
    (case l_mixed => k_is)
    (case c_mixed => k_is)
    (case k_mixed => k_is)
    (case n_next => k_is)
    (case l_next => k_is)
    (case c_next => k_is)
    (case k_next => k_is)
    (case n_versions => k_is)
    (case l_versions => k_is)
    (case c_versions => k_is)
    (case k_versions => k_is)
    (case n_made => k_is)
    (case l_made => k_is)
    (case c_made => k_is)
    (case k_made => k_is)
    (case n_ranked => k_is)
    (case l_ranked => k_is)
    (case c_ranked => k_is)
    (case k_ranked => k_is)
    (case n_order_right => k_is)
    (case l_order_right => k_is)
    (case c_order_right => k_is)
    (case k_order_right => k_is)
    (case n_refused => k_is)
    (case l_refused => k_is)
    (case c_refused => k_is)
    (case k_refused => k_is)
    (case n_law => k_is)
    (case l_law => k_is)
    (case c_law => k_is)
    (case k_law => k_is)
    (case n_BadVersion => k_is)
    (case at_BadVersion_init => k_is)
    (case l_BadVersion_init => k_is)
    (case c_BadVersion_init => k_is)
    (case k_BadVersion_init => k_is)
    (case n_BadName => k_is)
    (case at_BadName_init => k_is)
    (case l_BadName_init => k_is)
    (case c_BadName_init => k_is)
    (case k_BadName_init => k_is)
    (case xl_BadVersion => k_is)
    (case xr_BadVersion => first | rfl | decide +kernel | k_is)
    (case xsa_BadVersion => k_is)
    (case xb_BadVersion => k_is)
    (case xd_BadVersion => k_is)
    (case xy_BadVersion => k_is)
    (case xk_BadVersion => k_is)
    (case xg_BadVersion => k_is)
    (case xh_BadVersion => k_is)
    (case xc_BadVersion => k_is)
    (case xn_BadVersion => k_is)
    (case xq_BadVersion => k_is)
    (case xm_BadVersion => k_is)
    (case xt_BadVersion => k_is)
    (case xf_BadVersion => k_is)
    (case xz_BadVersion => k_is)
    (case xl_BadName => k_is)
    (case xr_BadName => first | rfl | decide +kernel | k_is)
    (case xsa_BadName => k_is)
    (case xb_BadName => k_is)
    (case xd_BadName => k_is)
    (case xy_BadName => k_is)
    (case xk_BadName => k_is)
    (case xg_BadName => k_is)
    (case xh_BadName => k_is)
    (case xc_BadName => k_is)
    (case xn_BadName => k_is)
    (case xq_BadName => k_is)
    (case xm_BadName => k_is)
    (case xt_BadName => k_is)
    (case xf_BadName => k_is)
    (case xz_BadName => k_is)
    (case xs_BadVersion_BadVersion => k_is)
    (case xs_BadName_BadVersion => k_is)
    (case xs_BadName_BadName => k_is)
    (case ou_Version => k_is)
    (case on_Version => k_is)
    (case pg_Version => k_is)
    (case hd_Version => k_is)
    (case po_Version => k_is)
    (case sa_Version => k_is)
    (case mk_Version => k_is)
    (case kc_Version => k_is)
    (case rd_Version => k_is)
    (case ga_Version => k_is)
    (case ca_Version => k_is)
    (case cn_Version => k_is)
    (case ct_Version => k_is)
    (case cm_Version => k_is)
    (case nf_Version => k_is)
    (case fn_Version_init => k_is)
    (case na_Version_rank => k_is)
    (case ge_Version_rank => k_is)
    (case tk_Version_rank => k_is)
    (case fn_Version_eq => k_is)
    (case cv_Version_LAST => k_is)
    (case pg_Newest => k_is)
    (case hd_Newest => k_is)
    (case po_Newest => k_is)
    (case sa_Newest => k_is)
    (case mk_Newest => k_is)
    (case kc_Newest => k_is)
    (case rd_Newest => k_is)
    (case ga_Newest => k_is)
    (case ca_Newest => k_is)
    (case cn_Newest => k_is)
    (case ct_Newest => k_is)
    (case cm_Newest => k_is)
    (case nf_Newest => k_is)
    (case ni_Newest => k_is)
    (case fn_Newest_call => k_is)
    (case fi_Newest_call => k_is)
    (case fn_Newest_standing_of => k_is)
    (case pg_Oldest => k_is)
    (case hd_Oldest => k_is)
    (case po_Oldest => k_is)
    (case sa_Oldest => k_is)
    (case mk_Oldest => k_is)
    (case kc_Oldest => k_is)
    (case rd_Oldest => k_is)
    (case ga_Oldest => k_is)
    (case ca_Oldest => k_is)
    (case cn_Oldest => k_is)
    (case ct_Oldest => k_is)
    (case cm_Oldest => k_is)
    (case nf_Oldest => k_is)
    (case ni_Oldest => k_is)
    (case fn_Oldest_call => k_is)
    (case fi_Oldest_call => k_is)
    (case fn_Oldest_standing_of => k_is)
    (case pg_Keeping => k_is)
    (case hd_Keeping => k_is)
    (case po_Keeping => k_is)
    (case sa_Keeping => k_is)
    (case mk_Keeping => k_is)
    (case kc_Keeping => k_is)
    (case rd_Keeping => k_is)
    (case ga_Keeping => k_is)
    (case ca_Keeping => k_is)
    (case cn_Keeping => k_is)
    (case ct_Keeping => k_is)
    (case cm_Keeping => k_is)
    (case nf_Keeping => k_is)
    (case fn_Keeping_init => k_is)
    (case na_Keeping_standing => k_is)
    (case fn_Keeping_call => k_is)
    (case fi_Keeping_call => k_is)
    (case fn_Keeping_standing_of => k_is)
    (case g_LETTERS => k_is)
    (case g_DIGITS => k_is)
    (case g_STAGES => k_is)
    (case w_STAGES => k_is)
    (case g_FINAL => k_is)
    (case g_WIDTH => k_is)
    (case g_GREATEST => k_is)
    (case z_all => k_is)
    (case z_enumerate => k_is)
    (case z_int => k_is)
    (case z_isinstance => k_is)
    (case z_len => k_is)
    (case z_list => k_is)
    (case z_range => k_is)
    (case z_sorted => k_is)
    (case z_str => k_is)
    (case z_tuple => k_is)
    (case z_zip => k_is)
