import PyProof.Rows.All
import Wide.All
import OpenK.AllK
import Wide.FinOn
import HandS.ForMost
import HandS.IsInst
import HandS.Sort
import HandS.More
import HandS.TupAny
import HandS.TupMul
import HandS.Walk
import HandS.Evl
import HandS.Wide
import PyProof.ListMulRoad
import PyProof.FactsAll.tuple_2
import HandS.Style
import HandS.SetKeys
import HandS.Conv
import HandS.Rev
import HandS.Iter
import HandS.DictTup
import PyProof.DictMoreH
import HandS.TupLen
import HandS.WordsDict
import HandS.SetBool
import HandS.Strs
import PyProof.ReprLen
import HandS.SetFor
import PyProof.ReprReads
import HandS.Zip
import HandS.SortInts
import PySem.Challenge.RW_framemoves_k13_whole_terms_built
set_option Elab.async false
set_option linter.all false
set_option maxRecDepth 100000
set_option maxHeartbeats 2000000
/-! Fm: defs that are run where nothing is being shown (no guard on the stack), so that repr tells the whole text. -/
namespace Fm
open PySem PySem.Spec PyProof.Rows L2

/-- a def's promise, kept where no guard stands; no exception leaves it -/
structure FnG (P : Program) (w : World) (K : PySem.W.Frag) (mg : Str → Option Value) (bs : Heap) (k : Nat) (f : Addr) (fd : FuncData) (ps : List Str) (sp : Sp) : Prop where
  many : ∀ vs H Q E, sp vs H Q E → vs.length = ps.length
  runs : ∀ (A : Around) (fr : List Env) (s : Shared) (H : Hp) (ar : Args) (us : List Value) (vs : List V) (Q : VK),
    Room k A → A.guards = some [] → Env0 P w K mg bs A fr s H → BindsTo s fd ar (ps.zip us) → Vals vs us → sp vs H Q E0 → codeAny (model P w) A (.call (.ref f) ar) (CR CX0 fr P w H s Q E0) s
section
variable {P : Program} {w : World} {K : PySem.W.Frag} {mg : Str → Option Value} {bs : Heap} {k : Nat}
theorem FnG.of {f : Addr} {fd : FuncData} {ps : List Str} {sp : Sp} (F : FnOk P w K mg bs CX0 k f fd ps sp) : FnG P w K mg bs k f fd ps sp :=
  ⟨F.len, fun A fr s H ar us vs Q r _ e b v h => F.run A fr s H ar us vs Q E0 r e b v h⟩
/-- the rule for such a def -/
theorem fnG {x qual : Str} {st : Stmt} {f : Addr} {fd : FuncData} {N ps : List Str} {sp : Sp} (F : Fun K x qual st f fd) (S : FnScope N ps (defScope st)) (len : ∀ vs H Q E, sp vs H Q E → vs.length = ps.length)
    (body : ∀ (cdv : Value) (A : Around) (fr : List Env) (s : Shared) (H : Hp) (vs : List V) (Q : VK), A.guards = some [] → Room k (A.deeper (envOfC qual (defScope st) s.heap.objs.size f cdv)) → sp vs H Q E0 →
      ∃ t, PSs (cxOf CX0 P w K mg bs N qual (defScope st) f cdv A fr s H E0).nox (defBody st) t ∧ t { nx := fun _ H' => Q .non H', rt := Q } (start N vs) H) : FnG P w K mg bs (k + 1) f fd ps sp := by
  obtain ⟨oc, od, kV, doc, pm, an, cdv, ct, osl, rfl, lk, hcd⟩ := F.ex
  refine ⟨len, ?_⟩
  intro A fr s H ar us vs Q room gd env bound rel hyp
  have nvs := len _ _ _ _ hyp
  have kin : K.In s.heap := env.mod.kin.keeps (fun b o q => (env.bs b o q).1)
  have nl : s.heap.NoLimit := env.mod.nolimit.keeps (fun b o q => (env.bs b o q).1)
  have kinds : ∀ y ∈ ps.zip us, (defScope st).names.lookup y.1 = some .local ∨ ((defScope st).names.lookup y.1 = some .cell ∧
      ((cellsFrom (s.heap.objs.size + 1) (defScope st).names []).lookup y.1).isSome = true) := by
    rintro ⟨n, v⟩ hy
    have hp := S.par n (List.of_mem_zip hy).1
    cases hp with
    | inl q => exact Or.inl q
    | inr q => exact Or.inr ⟨q, PySem.W.cellsFrom_some _ _ _ (Or.inl q)⟩
  refine codeAny_call_function room.depth (kin _ _ lk) rfl S.co S.gen rfl (PySem.W.codeRec_of kin hcd) (bound _ _ _ _ ?_)
  refine wpAny_newFunctionEnv_cells S.kind kinds fun env1 he s1 x1 => ?_
  subst he
  refine ⟨nl.keeps x1.toInCall.keep, codeAny_func ?_⟩
  obtain ⟨t, ht, hq⟩ := body cdv A fr s H vs Q gd (room.deeper _) hyp
  have J := inv_start (CX := CX0) (E := E0) S room.hd env nvs rel x1
  refine wpAny_mono (ht.nox.run [] s1 (start N vs) H _ J hq) (fun fl s' hs => ?_) (fun _ _ z => z)
  cases fl with
  | ret u =>
    obtain ⟨v, σ', H', J2, rv, q⟩ := hs
    exact ⟨v, H', J2.os, J2.bare, J2.base, J2.hok, rv, q⟩
  | next =>
    obtain ⟨σ', H', J2, q⟩ := hs
    exact ⟨V.non, H', J2.os, J2.bare, J2.base, J2.hok, rfl, q⟩
  | brk =>
    obtain ⟨_, _, _, q⟩ := hs
    exact q.elim
  | cont =>
    obtain ⟨_, _, _, q⟩ := hs
    exact q.elim
end
section
variable {X : Cx} {k : Nat} {f : Addr} {fd : FuncData} {ps : List Str} {sp : Sp} {x : Str} {p pos : Pos} {e : Expr} {es : List Expr} {t : TA}
theorem goG {pins : List (Addr × Obj)} {σ : L2.St} {H : Hp} {s : Shared} {Q : VK} {us : List Value} {vs : List V} (F : FnG X.prog X.w X.K X.mg X.base k f fd ps sp) (hr : Room k X.A) (gd : X.A.guards = some []) (hb : Binds X.K fd ps [])
    (I : Inv X pins σ H s) (r : Vals vs us) (h : sp vs H Q E0) : wpAny (model X.prog X.w) X.A (call (.ref f) us) (EP X pins σ Q) X.xe s := by
  have n1 := F.many _ _ _ _ h
  have n2 : (us ++ []).length = ps.length := by rw [List.append_nil, ← r.length, n1]
  have b1 := hb s us I.kIn n2
  rw [List.append_nil] at b1
  refine wpAny_call (codeAny_mono (F.runs X.A X.stack s H ⟨us, []⟩ us vs Q hr gd I.env0 b1 r h) fun res s' hq => ?_)
  cases res with
  | error e => exact False.elim hq
  | ok fl =>
    cases fl with
    | ret u => exact I.after hq
    | next => exact False.elim hq
    | brk => exact False.elim hq
    | cont => exact False.elim hq
/-- f(e, ..) -/
theorem pe_callG (F : FnG X.prog X.w X.K X.mg X.base k f fd ps sp) (hr : Room k X.A) (gd : X.A.guards = some []) (hg : Gl X x) (hm : X.mg x = some (.ref f)) (kp : PySem.W.keepIn X.K (.ref f) = true) (hb : Binds X.K fd ps [])
    (ha : PA X (e :: es) t) (n0 : (x == ("__debug__" : Str)) = false := by decide) (n1 : starEach (e :: es) X.env = (false, eval e X.env) :: starEach es X.env := by rfl) (n2 : (backTo pos (starEach es X.env)).any (·.1) = false := by rfl) :
    PE X (.Call (.Name x p) (e :: es) [] pos) (fun σ H Q => t σ H fun vs H1 => sp vs H1 Q E0) := by
  constructor
  intro pins s σ H Q I h
  refine wpAny_Call_Name_kw (ld_glob I hg hm ?_ n0)
  refine PySem.W.callWith_K (h₀ := X.base) I.ok.mod.kin kp (thn (ha.run pos pins s σ H _ I h) ?_) n1 n2
  rintro us s1 ⟨vs, H1, I1, r, q⟩
  exact ⟨I1.kIn, goG F hr gd hb I1 r q⟩
end

/-! ### the end of a law's row, for a def that is run where no guard stands -/
section
variable {P : Program} {w : World} {K : PySem.W.Frag} {mg mb : Str → Option Value} {k : Nat}
theorem lawG {fa a : Addr} {fd : FuncData} {x : Str} {sp : Sp} {s1 : Shared} {vs : List Value} {ns : List Int}
    (kin : K.In s1.heap) (g0 : s1.heap.Ns mainGlobals mg) (g1 : s1.heap.Ns builtinsNs mb) (g2 : ∀ y : Str, y ≠ "__name__" → mb y = bootBuiltins y) (nl : s1.heap.NoLimit) (gens : s1.gens = #[])
    (obj : s1.heap.get? a = some { cls := .type "list", data := .seq vs.toArray }) (hin : IntsAre vs ns) (len : ns.length ≤ sizeLine) (room : Room k callerA)
    (F : ∀ bs : Heap, K.In bs → bs.Ns mainGlobals mg → FnG P w K mg bs k fa fd [x] sp) (bound : ∀ (s : Shared) (u : Value), BindsTo s fd ⟨[u], []⟩ [(x, u)])
    (hsp : ∀ H : Hp, SqL K H a (ns.map V.int) → sp [.ref a] H (fun v _ => v = .bl true) E0) :
    codeAny (model P w) callerA (.call (.ref fa) ⟨[.ref a], []⟩) (fun r s' => r = .ok (.ret (.bool true)) ∧ OldK s1.heap s'.heap ∧ s'.os = s1.os ∧ AllBare s'.gens) s1 := by
  have rv := vals_ints hin
  have nvs := hin.length
  -- over any abstract heap that tracks at most the script, frozen
  have main : ∀ H : Hp, (∀ b, H b = none ∨ ∃ o xs, H b = some (.frz o (.lst xs))) → SqL K H a (ns.map V.int) → HOk P w H s1.heap → (∀ b, H b ≠ none → b = a) → (H a ≠ none → K.lookup a = none) →
      codeAny (model P w) callerA (.call (.ref fa) ⟨[.ref a], []⟩) (fun r s' => r = .ok (.ret (.bool true)) ∧ OldK s1.heap s'.heap ∧ s'.os = s1.os ∧ AllBare s'.gens) s1 := by
    intro H only hS hok hA hK
    have hid : ∀ {b : Addr} {o : Obj}, s1.heap.get? b = some o → H b = none → (hidT s1.heap H).get? b = some o := fun q n => hidT_get q n
    have dicts : ∀ {b : Addr} {o : Obj} {es : Array DictEntry} {ep : Nat}, s1.heap.get? b = some o → o.data = .dict es ep → H b = none := by
      intro b o es ep q d
      cases z : H b with
      | none => rfl
      | some u =>
        have eb : b = a := hA b (by rw [z]; exact fun y => nomatch y)
        rw [eb, obj] at q
        cases q
        exact nomatch (show Data.seq vs.toArray _ = Data.dict es ep from d)
    have nss : ∀ {b : Addr} {m : Str → Option Value}, s1.heap.Ns b m → (hidT s1.heap H).Ns b m := by
      rintro b m ⟨o, es, ep, q, d, r⟩
      exact ⟨o, es, ep, hid q (dicts q d), d, r⟩
    have kinH : K.In (hidT s1.heap H) := by
      intro b o q
      refine hid (kin b o q) ?_
      cases z : H b with
      | none => rfl
      | some u =>
        have eb : b = a := hA b (by rw [z]; exact fun y => nomatch y)
        subst eb
        rw [hK (by rw [z]; exact fun y => nomatch y)] at q
        cases q
    have hM : Mod K mg (hidT s1.heap H) := by
      obtain ⟨mc, h1, h2⟩ := nl
      exact ⟨kinH, nss g0, ⟨mb, nss g1, g2⟩, ⟨mc, nss h1, h2⟩⟩
    have env : Env0 P w K mg (hidT s1.heap H) callerA [] s1 H :=
      ⟨rfl, hM, fun b o q => of_hidT q, Nat.le_of_eq (hidT_size _ _), trivial, fun b hb => (by simp [frs] at hb), hok, .of_eq gens⟩
    have fin := (F _ kinH (nss g0)).runs callerA [] s1 H ⟨[.ref a], []⟩ [.ref a] [.ref a] _ room rfl env (bound s1 (.ref a)) (.cons rfl .nil) (hsp H hS)
    refine codeAny_mono fin fun r s' h => ?_
    match r, h with
    | .ok (.ret u), h =>
      obtain ⟨v, H', os, bare, un, hok', r', q⟩ := h
      have q' : v = .bl true := q
      subst q'
      obtain rfl : u = Value.bool true := r'
      refine ⟨rfl, OldK.of_keep (fun b o e => ?_), os, bare⟩
      cases z : H b with
      | none => exact un.keep b o e z (by simp [frs]) (by simp)
      | some y =>
        rcases only b with z1 | ⟨ob, xs, z1⟩
        · rw [z] at z1
          cases z1
        · have e1 := (hok b _ z1).1
          have e2 := (hok' b _ (un.frzs b ob _ z1)).1
          rw [e] at e1
          cases e1
          exact e2
  cases hk : K.lookup a with
  | some o =>
    have e := kin a o hk
    rw [obj] at e
    cases e
    refine main (fun _ => none) (fun _ => Or.inl rfl) (Or.inr ⟨_, vs.toArray, _, hk, rfl, rfl, rfl, ?_, ?_⟩) (fun b u z => nomatch z) (fun b z => absurd rfl z) (fun z => absurd rfl z)
    · rw [List.size_toArray, nvs]
      exact len
    · simpa using rv
  | none =>
    refine main (fun b => if b = a then some (.frz { cls := .type "list", data := .seq vs.toArray } (.lst (ns.map V.int))) else none) ?_ ?_ ?_ ?_ (fun _ => hk)
    · intro b
      by_cases hb : b = a
      · exact Or.inr ⟨_, _, if_pos hb⟩
      · exact Or.inl (if_neg hb)
    · exact Or.inl (Or.inr ⟨{ cls := .type "list", data := .seq vs.toArray }, if_pos rfl⟩)
    · intro b u z
      by_cases hb : b = a
      · have z1 := (if_pos hb).symm.trans z
        cases z1
        rw [hb]
        exact ⟨obj, by rw [List.length_map]; exact len, vs, _, rv, obj⟩
      · have z1 := (if_neg hb).symm.trans z
        cases z1
    · intro b z
      by_cases hb : b = a
      · exact hb
      · exact absurd (if_neg hb) z
end
theorem walkG {l : PySem.W.OpenLaw} {n k : Nat} {q : Program} {loose : List Str} {XP : (Str → Option Value) → Heap → Prop} {YP : World → Heap → Prop} {d : DefRec} {K : Params → PySem.W.Frag} {sp : World → Sp} {x : Str}
    (hn : l.most = some n) (n2 : n ≤ sizeLine) (hdf : d.params.defaults = []) (room : Room k callerA) (hY : ∀ (w : World) (h : Heap), YP w h → (K w.params).In h)
    (F : ∀ (w : World) (mg : Str → Option Value) (fa : Addr) (h : Heap), (K w.params).In h → h.Ns mainGlobals mg → mg d.name = some (.ref fa) →
      ∃ fd : FuncData, (∀ (s : Shared) (u : Value), BindsTo s fd ⟨[u], []⟩ [(x, u)]) ∧ ∀ bs : Heap, (K w.params).In bs → bs.Ns mainGlobals mg → FnG l.prog w (K w.params) mg bs k fa fd [x] (sp w))
    (hsp : ∀ (w : World) (H : Hp) (a : Addr) (ns : List Int), ns.length ≤ n → SqL (K w.params) H a (ns.map V.int) → sp w [.ref a] H (fun v _ => v = .bl true) E0) :
    PySem.W.WalkO q loose XP YP l.row.toRowW d [] (fun f vs => PySem.call f vs) := by
  refine Att.attach_call hn hdf ?_
  intro w s0 s1 mg mb fa o pm cd doc a vs ns G Y ho hd hcd hmg hobj hints hlen hg
  obtain ⟨fd, hb, hF⟩ := F w mg fa _ (hY w _ Y) G.T.g hmg
  exact lawG (hY w _ Y) G.T.g G.T.b G.T.builtins G.T.nolimit hg hobj hints (Nat.le_trans hlen n2) room hF hb (fun H hS => hsp w H a ns hlen hS)

/-! ### repr of data -/
section
variable {X : Cx}
def rRepr (K : PySem.W.Frag) : List V → Hp → VK → Prop := fun vs H Q => ∃ v d, vs = [v] ∧ Dp K H v d ∧ d.showable = true ∧ d.hasDict = false ∧ d.depth ≤ 60 ∧ d.shown.length ≤ sizeLine ∧ Q (.str d.shown) H
theorem call_repr {k : Nat} (hr : Room k X.A) (gd : X.A.guards = some []) : CallR X (.builtin "repr") (rRepr X.K) := by
  intro pins s σ H xs us Q I r h
  obtain ⟨v, d, rfl, hd, hs, hn, hz, hl, q⟩ := h
  obtain ⟨u, rfl, ru⟩ := r.one
  obtain ⟨as, rd⟩ := Dp.reads I d v u hd ru
  have hu := hr.units
  have done : ∀ (tk : Tok) (t : Nat), EP X pins σ Q (.str d.shown tk) { s with toks := t } := fun tk t => ⟨.str d.shown, H, I.tok _, ⟨_, rfl⟩, q⟩
  cases hd with
  | non =>
    cases ru
    exact PySem.P.repr_of_none (done _ _)
  | bl b => cases b <;> (cases ru; exact PySem.P.repr_of_bool (done _ _))
  | int i =>
    obtain ⟨t, rfl⟩ := ru
    exact PySem.P.repr_of_int (by simpa [PyData.showable] using hs) (done _ _)
  | str z =>
    obtain ⟨t, rfl⟩ := ru
    exact PySem.P.repr_of_str (done _ _) hl
  | lst a b =>
    cases ru
    refine repr_of_reads' rd hs (PyData.noDict_hsm hn) gd (by omega) (fun _ _ e => e) (fun h' u tk hk => ?_) hl
    exact ⟨.str _, H, I.un (t' := tk) (Un.kept hk) (I.hok.kept hk), ⟨u, rfl⟩, q⟩
  | tup a b =>
    cases ru
    refine repr_of_reads' rd hs (PyData.noDict_hsm hn) gd (by omega) (fun _ _ e => e) (fun h' u tk hk => ?_) hl
    exact ⟨.str _, H, I.un (t' := tk) (Un.kept hk) (I.hok.kept hk), ⟨u, rfl⟩, q⟩
end

/-! ### further rules -/

theorem ext_tup (l : Addr) (xs : Array Value) (n : Nat) (b : Addr) (ys : Array Value) (m : Nat) (dd : Option Addr) (sl : Array (Option Value)) (c0 : ¬ (!xs.isEmpty && Builtin.List.listTooLong (xs.size + ys.size)) = true) (c1 : xs.size ≤ sizeLine)
    (c2 : xs.size + ys.size ≤ sizeLine + 1) :
    Meets (Builtin.«list.extend» ⟨[.ref l, .ref b], []⟩) (fun _ R s => s.heap.get? l = some { cls := .type "list", data := .seq xs n } ∧ s.heap.get? b = some { cls := .type "tuple", dict := dd, data := .seq ys m, slots := sl } ∧
      R (.ok (.ret Value.none)) { s with heap := s.heap.update l (Obj.mapSeq fun z => z ++ ys), toks := s.toks }) :=
  .of_wp fun prog w A R s h => by
    obtain ⟨hp, g, d, tk, os⟩ := s
    obtain ⟨hl, hb, h⟩ := h
    have i1 := AutoSeq1.idx_int
    have i2 := AutoSeq1.sub_tuple_tuple
    have i3 := AutoSeq1.sub_list_list
    have i4 := AutoSeq1.sub_tuple_list
    have i5 := AutoSeq1.sub_list_tuple
    have zz : (xs ++ ys).size ≤ sizeLine + 1 := by
      rw [Array.size_append]
      exact c2
    wp_walk using (wpAny_updateSeq hl rfl (hz := c1) (_hz' := zz)), wpAny_loadPart' hl, wpAny_loadPart' hb
    exact ⟨_, rfl, h⟩
section
variable {X : Cx}
/-- xs.extend(t), t a tuple -/
def rExtT (K : PySem.W.Frag) : V → List V → Hp → VK → Prop := fun x vs H Q => ∃ l b xs zs, x = .ref l ∧ vs = [.ref b] ∧ H l = some (.lst xs) ∧ SqT K H b zs ∧ xs.length + zs.length ≤ sizeLine ∧ Q .non (upd H l (.lst (xs ++ zs)))
theorem mt_extT : MtM X "list.extend" (rExtT X.K) := by
  intro pins s σ H x vs v us Q I rx rv h
  obtain ⟨l, b, xs, zs, rfl, rfl, hH, hB, hz, q⟩ := h
  cases rx
  obtain ⟨u, rfl, ru⟩ := rv.one
  cases ru
  obtain ⟨z, i1, n, r1, l1, e1⟩ := I.lstM hH
  obtain ⟨i2, r2, ⟨⟨cls, dd, data, sl⟩, e2, c2, n2, d2⟩, _⟩ := I.tuple hB
  simp only at c2 d2
  subst c2 d2
  have l2 := r2.length
  have sz : i1.toArray.size + i2.toArray.size ≤ sizeLine := by
    rw [List.size_toArray, List.size_toArray]
    omega
  have long : ¬ (!i1.toArray.isEmpty && Builtin.List.listTooLong (i1.toArray.size + i2.toArray.size)) = true := by
    rw [notLongL sz, Bool.and_false]
    exact Bool.false_ne_true
  refine call_meets F.slot_list_extend ⟨_, e1, rfl⟩ F.entry_list_extend (F.args_list_extend_2 _ _) (ext_tup l i1.toArray n b i2.toArray n2 dd sl long (by rw [List.size_toArray]; omega) (by omega)) ⟨e1, e2, ?_⟩
  refine ⟨.non, _, I.lset (its' := i1 ++ i2) hH e1 (by simp) (r1.append r2) ?_, rfl, q⟩
  rw [List.length_append]
  omega

/-- xs[i] as it is read by xs[i] op= e -/
def gL (K : PySem.W.Frag) : V → V → Hp → VK → Prop := fun x y H Q => ∃ l xs i v, x = .ref l ∧ y = .int i ∧ H l = some (.lst xs) ∧ 0 ≤ i ∧ xs[i.toNat]? = some v ∧ Q v H
theorem pg_list : PGet X (gL X.K) := by
  intro pins s σ H o i ov iv Q I ro ri h
  obtain ⟨l, xs, j, v, rfl, rfl, hH, h0, hv, q⟩ := h
  cases ro
  obtain ⟨t, rfl⟩ := ri
  obtain ⟨z, i1, n, r1, l1, e1⟩ := I.lstM hH
  obtain ⟨u, hu, ru⟩ := r1.get hv
  have lt := (List.getElem?_eq_some_iff.mp hv).1
  have b1 : (2 : Int) ^ 63 = 9223372036854775808 := by decide
  have b2 := sizeLine_eq
  exact wpAny_getItem_list ⟨_, e1, rfl, _, rfl⟩ h0 (by omega) (by simpa using hu) ⟨v, H, I, ru, q⟩

/-- i not in range(a, b) -/
theorem op_ni_rng : OpR X (compareOp .NotIn) (fun x y H Q => ∃ i a lo hi, x = V.int i ∧ y = V.ref a ∧ H a = some (.rng lo hi) ∧ Q (.bl (!decide (lo ≤ i ∧ i < hi))) H) := by
  intro pins s σ H x y v u Q I rx ry h
  obtain ⟨i, a, lo, hi, rfl, rfl, ha, q⟩ := h
  obtain ⟨k, rfl⟩ := rx
  cases (show u = Value.ref a from ry)
  obtain ⟨t1, t2, t3, ho⟩ := I.hok a _ ha
  have e1 : s.TypeIs (.ref a) "range" := ⟨_, ho, rfl⟩
  show wpAny _ _ (do return Value.bool (!(← contains (Value.ref a) (Value.int i k)))) _ _ s
  refine wpAny_bind (wpAny_contains_slot e1 F.slot_range_contains (call_meets F.slot_range_contains e1 F.entry_range_contains (F.args_range_contains_2 _ _) (q_contains a lo hi i t1 t2 t3 k) ⟨ho, wpAny_truthy_bool (wpAny_pure ?_)⟩))
  refine ⟨.bl _, H, I, rfl, ?_⟩
  rw [place1]
  exact q
/-- is not True, is not False, of an int or a bool -/
def rNotB2 : R2 := fun x y H Q => ∃ b : Bool, y = .bl b ∧ ((∃ i, x = .int i) ∨ ∃ a, x = .bl a) ∧ Q (.bl (!decide (x = y))) H
theorem op_notB2 : OpR X (compareOp .IsNot) rNotB2 := by
  intro pins s σ H x y v u Q I rx ry h
  obtain ⟨b, rfl, hx, q⟩ := h
  cases (show u = Value.bool b from ry)
  rcases hx with ⟨i, rfl⟩ | ⟨a, rfl⟩
  · obtain ⟨t, rfl⟩ := rx
    refine wpAny_isNot_other rfl (fun z => nomatch z) ⟨.bl true, H, I, rfl, ?_⟩
    simpa using q
  · cases (show v = Value.bool a from rx)
    by_cases e : a = b
    · subst e
      exact wpAny_isNot_self rfl ⟨.bl false, H, I, rfl, by simpa using q⟩
    · exact wpAny_isNot_other rfl (fun z => e (Value.bool.inj z)) ⟨.bl true, H, I, rfl, by simpa [e] using q⟩
end
end Fm
namespace Fm
open PySem PySem.Spec PyProof.Rows L2
theorem tupN_fill : fillsNumberSlot (.type "tuple") "mul" = pure false :=
  PySem.fillsNumberSlot_seq (id := "tuple.__mul__") (r := some (.builtin "tuple.__rmul__")) PySem.F.slot_tuple_mul.lookup (by decide +kernel)
    PySem.F.slot_tuple_rmul.lookup (by decide +kernel)
theorem tupN_rep : seqRepeat? (.type "tuple") = pure (some (.builtin "tuple.__mul__")) := by
  unfold seqRepeat?
  rw [PySem.seqSlot_of (T := "tuple") (name := "__mul__") (id := "tuple.__mul__") PySem.F.slot_tuple_mul.lookup (by decide +kernel)]
  rw [PySem.seqSlot_of (T := "tuple") (name := "__rmul__") (id := "tuple.__rmul__") PySem.F.slot_tuple_rmul.lookup (by decide +kernel)]
  rfl
theorem tupN_int (i : Int) (u : Tok) (b : Addr) (xs : Array Value) (n : Nat) (dd : Option Addr) (sl : Array (Option Value)) :
    Meets (Builtin.«int.__rmul__» ⟨[.int i u, .ref b], []⟩) (fun _ R s => s.heap.get? b = some { cls := .type "tuple", dict := dd, data := .seq xs n, slots := sl } ∧ R (.ok (.ret Value.notImplemented)) s) :=
  .of_wp fun prog w A R s h => by
    obtain ⟨hp, g, d, tk, os⟩ := s
    obtain ⟨hl, h⟩ := h
    wp_walk using wpAny_loadPart' hl
    exact ⟨_, rfl, h⟩
/-- t * 1 is t -/
theorem tupN_one (b : Addr) (xs : Array Value) (n : Nat) (dd : Option Addr) (sl : Array (Option Value)) (u : Tok) :
    Meets (Builtin.«tuple.__mul__» ⟨[.ref b, .int 1 u], []⟩) (fun _ R s => s.heap.get? b = some { cls := .type "tuple", dict := dd, data := .seq xs n, slots := sl } ∧ R (.ok (.ret (.ref b))) s) :=
  .of_wp fun prog w A R s h => by
    obtain ⟨hp, g, d, tk, os⟩ := s
    obtain ⟨hl, h⟩ := h
    have f1 := AutoSeq1.idx_int
    wp_walk using wpAny_loadPart' hl
    exact ⟨_, rfl, h⟩
/-- t * 0 is a new empty tuple -/
theorem tupN_zero (b : Addr) (xs : Array Value) (n : Nat) (dd : Option Addr) (sl : Array (Option Value)) (u : Tok) (hx : xs.isEmpty = false) :
    Meets (Builtin.«tuple.__mul__» ⟨[.ref b, .int 0 u], []⟩) (fun _ R s => s.heap.get? b = some { cls := .type "tuple", dict := dd, data := .seq xs n, slots := sl } ∧
      R (.ok (.ret (Value.ref s.heap.objs.size))) { s with heap := s.heap.push { cls := Value.type "tuple", data := Data.seq #[] }, toks := s.toks }) :=
  .of_wp fun prog w A R s h => by
    obtain ⟨hp, g, d, tk, os⟩ := s
    obtain ⟨hl, h⟩ := h
    have f1 := AutoSeq1.idx_int
    wp_walk using wpAny_loadPart' hl
    exact ⟨_, rfl, h⟩
section
variable {X : Cx}
/-- t * k, t one item, k 0 or 1 -/
def rRep1 (K : PySem.W.Frag) : R2 := fun x y H Q => ∃ l k v, x = .ref l ∧ y = .int k ∧ SqT K H l [v] ∧ (k = 0 ∨ k = 1) ∧ (k = 0 → ∀ p, H p = none → Q (.ref p) (upd H p (.tup []))) ∧ (k = 1 → Q (.ref l) H)
theorem op_rep1 : OpR X (binaryOp .Mult) (rRep1 X.K) := by
  intro pins s σ H x y v u Q I rx ry h
  obtain ⟨l, k, w1, rfl, rfl, hT, hk, q0, q1⟩ := h
  cases rx
  obtain ⟨t, rfl⟩ := ry
  obtain ⟨its, r, ⟨⟨cls, dd, data, sl⟩, ho, hc, n, hd⟩, hs⟩ := I.tuple hT
  simp only at hc hd
  subst hc hd
  have ne : its.toArray.isEmpty = false := by
    cases r with
    | cons r1 r2 => rfl
  have ty : s.TypeIs (.ref l) "tuple" := ⟨_, ho, rfl⟩
  rcases hk with rfl | rfl
  · refine wpAny_binaryOp_repeat_ref (T := "tuple") (U := "int") (by decide) ty (fun s' => typeIs_int s' 0 t) tupN_fill F.fills_int_mul F.slot_int_rmul tupN_rep F.slot_int_index.lookup
      (call_meets F.slot_int_rmul (typeIs_int s 0 t) F.entry_int_rmul (F.args_int_rmul_2 _ _) (tupN_int 0 t l its.toArray n dd sl) ⟨ho, rfl, ty, ?_⟩)
    refine call_meets F.slot_tuple_mul ty F.entry_tuple_mul (F.args_tuple_mul_2 _ _) (tupN_zero l its.toArray n dd sl t ne) ⟨ho, ?_⟩
    refine ⟨.ref s.heap.objs.size, _, I.laid (t' := s.toks) (o := .tup []) (fun b ob q => Heap.get?_push_of_some _ q) (Nat.le_refl _) ?_, rfl, q0 rfl _ (I.hok.fresh (Nat.le_refl _))⟩
    exact ⟨Nat.zero_le _, [], .nil, IsTup.new _ _⟩
  · refine wpAny_binaryOp_repeat_ref (T := "tuple") (U := "int") (by decide) ty (fun s' => typeIs_int s' 1 t) tupN_fill F.fills_int_mul F.slot_int_rmul tupN_rep F.slot_int_index.lookup
      (call_meets F.slot_int_rmul (typeIs_int s 1 t) F.entry_int_rmul (F.args_int_rmul_2 _ _) (tupN_int 1 t l its.toArray n dd sl) ⟨ho, rfl, ty, ?_⟩)
    exact call_meets F.slot_tuple_mul ty F.entry_tuple_mul (F.args_tuple_mul_2 _ _) (tupN_one l its.toArray n dd sl t) ⟨ho, ⟨.ref l, H, I, rfl, q1 rfl⟩⟩
end
end Fm
set_option maxRecDepth 100000
set_option maxHeartbeats 2000000
/-! Fm: values that a law makes, as trees over the abstract heap. -/
namespace Fm
open PySem PySem.Spec PyProof.Rows L2

inductive D where
  | non | bl (b : Bool) | int (i : Int) | str (x : Str) | tup (xs : List D) | lst (xs : List D) | dic
mutual
inductive Dv (H : Hp) : V → D → Prop
  | non : Dv H .non .non
  | bl (b : Bool) : Dv H (.bl b) (.bl b)
  | int (i : Int) : Dv H (.int i) (.int i)
  | str (x : Str) : PyData.strOk x = true → Dv H (.str x) (.str x)
  | tup {a : Addr} {xs : List V} {ds : List D} : H a = some (.tup xs) → DvL H xs ds → Dv H (.ref a) (.tup ds)
  | lst {a : Addr} {xs : List V} {ds : List D} : H a = some (.lst xs) → DvL H xs ds → Dv H (.ref a) (.lst ds)
  | dic {a : Addr} : H a = some (.dK []) → Dv H (.ref a) .dic
inductive DvL (H : Hp) : List V → List D → Prop
  | nil : DvL H [] []
  | cons {v : V} {vs : List V} {d : D} {ds : List D} : Dv H v d → DvL H vs ds → DvL H (v :: vs) (d :: ds)
end
mutual
theorem Dv.same {H H' : Hp} (k : Same H H') : ∀ (d : D) (v : V), Dv H v d → Dv H' v d
  | .non, _, h => by cases h; exact .non
  | .bl _, _, h => by cases h; exact .bl _
  | .int _, _, h => by cases h; exact .int _
  | .str _, _, h => by
    cases h with
    | str _ o => exact .str _ o
  | .tup ds, _, h => by
    cases h with
    | tup a b => exact .tup (k _ _ a) (DvL.same k ds _ b)
  | .lst ds, _, h => by
    cases h with
    | lst a b => exact .lst (k _ _ a) (DvL.same k ds _ b)
  | .dic, _, h => by
    cases h with
    | dic a => exact .dic (k _ _ a)
theorem DvL.same {H H' : Hp} (k : Same H H') : ∀ (ds : List D) (vs : List V), DvL H vs ds → DvL H' vs ds
  | [], _, h => by cases h; exact .nil
  | d :: ds, _, h => by
    cases h with
    | cons a b => exact .cons (Dv.same k d _ a) (DvL.same k ds _ b)
end
theorem DvL.len {H : Hp} : ∀ {vs : List V} {ds : List D}, DvL H vs ds → vs.length = ds.length
  | _, _, .nil => rfl
  | _, _, .cons _ h => congrArg (· + 1) (DvL.len h)
theorem DvL.app {H : Hp} : ∀ {vs : List V} {ds : List D} {us : List V} {es : List D}, DvL H vs ds → DvL H us es → DvL H (vs ++ us) (ds ++ es)
  | _, _, _, _, .nil, h => h
  | _, _, _, _, .cons a b, h => .cons a (DvL.app b h)
theorem DvL.get {H : Hp} : ∀ {vs : List V} {ds : List D} {i : Nat} {v : V}, DvL H vs ds → vs[i]? = some v → ∃ d, ds[i]? = some d ∧ Dv H v d
  | _, _, _, _, .nil, e => by simp at e
  | _, _, 0, _, .cons a b, e => by simp at e; subst e; exact ⟨_, rfl, a⟩
  | _, _, i + 1, _, .cons a b, e => by
    obtain ⟨d, h1, h2⟩ := DvL.get (i := i) b (by simpa using e)
    exact ⟨d, by simpa using h1, h2⟩
theorem DvL.getD {H : Hp} : ∀ {vs : List V} {ds : List D} {i : Nat} {d : D}, DvL H vs ds → ds[i]? = some d → ∃ v, vs[i]? = some v ∧ Dv H v d
  | _, _, _, _, .nil, e => by simp at e
  | _, _, 0, _, .cons a b, e => by simp at e; subst e; exact ⟨_, rfl, a⟩
  | _, _, i + 1, _, .cons a b, e => by
    obtain ⟨d, h1, h2⟩ := DvL.getD (i := i) b (by simpa using e)
    exact ⟨d, by simpa using h1, h2⟩
theorem DvL.drop {H : Hp} : ∀ {vs : List V} {ds : List D} (n : Nat), DvL H vs ds → DvL H (vs.drop n) (ds.drop n)
  | _, _, 0, h => h
  | _, _, _ + 1, .nil => .nil
  | _, _, n + 1, .cons _ h => DvL.drop n h
theorem DvL.take {H : Hp} : ∀ {vs : List V} {ds : List D} (n : Nat), DvL H vs ds → DvL H (vs.take n) (ds.take n)
  | _, _, 0, _ => .nil
  | _, _, _ + 1, .nil => .nil
  | _, _, n + 1, .cons a h => .cons a (DvL.take n h)
theorem DvL.set {H : Hp} {v : V} {d : D} (a : Dv H v d) : ∀ {vs : List V} {ds : List D} (n : Nat), DvL H vs ds → DvL H (vs.set n v) (ds.set n d)
  | _, _, _, .nil => .nil
  | _, _, 0, .cons _ h => .cons a h
  | _, _, n + 1, .cons b h => .cons b (DvL.set a n h)

/-! ### sizes, depths -/
mutual
def D.size : D → Nat
  | .str x => x.length + 1
  | .tup ds => sizes ds + 1
  | .lst ds => sizes ds + 1
  | _ => 1
def sizes : List D → Nat
  | [] => 0
  | d :: ds => d.size + sizes ds
end
mutual
def D.deep : D → Nat
  | .tup ds => deeps ds + 1
  | .lst ds => deeps ds + 1
  | _ => 0
def deeps : List D → Nat
  | [] => 0
  | d :: ds => max d.deep (deeps ds)
end
theorem sizes_app (a b : List D) : sizes (a ++ b) = sizes a + sizes b := by
  induction a with
  | nil => simp [sizes]
  | cons x r ih => simp only [List.cons_append, sizes, ih]; omega
theorem size_pos (d : D) : 1 ≤ d.size := by cases d <;> simp [D.size]
theorem len_sizes (ds : List D) : ds.length ≤ sizes ds := by
  induction ds with
  | nil => simp [sizes]
  | cons x r ih => have := size_pos x; simp only [List.length_cons, sizes]; omega
theorem sizes_drop (ds : List D) (n : Nat) : sizes (ds.drop n) ≤ sizes ds := by
  induction ds generalizing n with
  | nil => simp
  | cons x r ih =>
    cases n with
    | zero => simp
    | succ n => have := ih n; simp only [List.drop_succ_cons, sizes]; omega
theorem size_mem {d : D} {ds : List D} (h : d ∈ ds) : d.size ≤ sizes ds := by
  induction ds with
  | nil => cases h
  | cons x r ih =>
    simp only [sizes]
    rcases List.mem_cons.mp h with rfl | h
    · omega
    · have := ih h; omega
theorem deep_mem {d : D} {ds : List D} (h : d ∈ ds) : d.deep ≤ deeps ds := by
  induction ds with
  | nil => cases h
  | cons x r ih =>
    simp only [deeps]
    rcases List.mem_cons.mp h with rfl | h
    · omega
    · have := ih h; omega

/-! ### kinds -/
def tyN : D → String
  | .non => "NoneType" | .bl _ => "bool" | .int _ => "int" | .str _ => "str" | .tup _ => "tuple" | .lst _ => "list" | .dic => "dict"
theorem Dv.ty {K : PySem.W.Frag} {H : Hp} {v : V} {d : D} (h : Dv H v d) : TyX K H v (.type (tyN d)) := by
  cases h with
  | non => exact .base .non
  | bl b => exact .base (.bl b)
  | int i => exact .base (.int i)
  | str x _ => exact .base (.str x)
  | tup a _ => exact .base (.tup a)
  | lst a _ => exact .base (.lst a)
  | dic a => exact .base (.dK a)
def isI : D → Bool
  | .int _ => true | .bl _ => true | _ => false
def isB : D → Bool
  | .bl _ => true | _ => false
def isS : D → Bool
  | .str _ => true | _ => false
def isT : D → Bool
  | .tup _ => true | _ => false
def isL : D → Bool
  | .lst _ => true | _ => false
section
variable {K : PySem.W.Frag} (d : D)
theorem kit_I : PySem.W.kitOne K (.type (tyN d)) (.type "int") = some (isI d) := by cases d <;> exact kit_ty (by simp only [tyN, isI]; decide +kernel)
theorem kit_B : PySem.W.kitOne K (.type (tyN d)) (.type "bool") = some (isB d) := by cases d <;> exact kit_ty (by simp only [tyN, isB]; decide +kernel)
theorem kit_S : PySem.W.kitOne K (.type (tyN d)) (.type "str") = some (isS d) := by cases d <;> exact kit_ty (by simp only [tyN, isS]; decide +kernel)
theorem kit_T : PySem.W.kitOne K (.type (tyN d)) (.type "tuple") = some (isT d) := by cases d <;> exact kit_ty (by simp only [tyN, isT]; decide +kernel)
theorem kit_L : PySem.W.kitOne K (.type (tyN d)) (.type "list") = some (isL d) := by cases d <;> exact kit_ty (by simp only [tyN, isL]; decide +kernel)
end
/-- isinstance(x, T) of data, told -/
theorem isi_I {K : PySem.W.Frag} {H : Hp} {v : V} {d : D} {Q : VK} (h : Dv H v d) (q : Q (.bl (isI d)) H) : rIsi K [v, .ty "int"] H Q := ⟨_, _, _, _, _, rfl, .ty _, h.ty, kit_I d, q⟩
theorem isi_B {K : PySem.W.Frag} {H : Hp} {v : V} {d : D} {Q : VK} (h : Dv H v d) (q : Q (.bl (isB d)) H) : rIsi K [v, .ty "bool"] H Q := ⟨_, _, _, _, _, rfl, .ty _, h.ty, kit_B d, q⟩
theorem isi_S {K : PySem.W.Frag} {H : Hp} {v : V} {d : D} {Q : VK} (h : Dv H v d) (q : Q (.bl (isS d)) H) : rIsi K [v, .ty "str"] H Q := ⟨_, _, _, _, _, rfl, .ty _, h.ty, kit_S d, q⟩
theorem isi_T {K : PySem.W.Frag} {H : Hp} {v : V} {d : D} {Q : VK} (h : Dv H v d) (q : Q (.bl (isT d)) H) : rIsi K [v, .ty "tuple"] H Q := ⟨_, _, _, _, _, rfl, .ty _, h.ty, kit_T d, q⟩

/-! ### names, outcomes, terms -/
def letters : Str := "abcdefghijklmnopqrstuvwxyz"
def signOk (x : Str) : Bool := !(Builtin.Str.occurrences letters x 0 letters.length 1).isEmpty
def signs (s : Str) : List Str := s.cps.toList.map fun c => ⟨#[c]⟩
def isNameS (s : Str) : Bool := decide (1 ≤ s.length) && decide (s.length ≤ 8) && (signs s).all signOk
def isName : D → Bool
  | .str s => isNameS s
  | _ => false
def isWhole : D → Bool
  | .int _ => true | _ => false
def cutLast (s : Str) : Str := cutS s none (some (-1))
def isOutS (s : Str) : Bool := isNameS s || (Txt.endswith s "-" && isNameS (cutLast s))
def isOut : D → Bool
  | .str s => isOutS s
  | _ => false
mutual
def isTerm : D → Bool
  | .int i => decide (0 ≤ i)
  | .tup ds => isTermT ds
  | _ => false
def isTermT : List D → Bool
  | [] => false
  | x :: r => decide (r.length ≤ 3) && isName x && areTerms r
def areTerms : List D → Bool
  | [] => true
  | d :: ds => isTerm d && areTerms ds
end
theorem areTerms_app (a b : List D) : areTerms (a ++ b) = (areTerms a && areTerms b) := by
  induction a with
  | nil => simp [areTerms]
  | cons x r ih => simp only [List.cons_append, areTerms, ih, Bool.and_assoc]
theorem areTerms_all (a : List D) : areTerms a = a.all isTerm := by
  induction a with
  | nil => rfl
  | cons x r ih => simp only [areTerms, List.all_cons, ih]
end Fm
set_option maxRecDepth 100000
set_option maxHeartbeats 2000000
/-! Fm: rules in other readings. -/
namespace Fm
open PySem PySem.Spec PyProof.Rows L2
section
variable {X : Cx} {e c : Expr} {t t' te : TE} {p pos : Pos}
theorem peI (h : PE X e t) (k : ∀ σ H Q, t' σ H Q → t σ H Q) : PE X e t' := ⟨fun pins s σ H Q I q => h.run pins s σ H Q I (k σ H Q q)⟩
/-- isinstance(x, T) of data -/
def tIs (f : D → Bool) (te : TE) : TE := fun σ H Q => te σ H fun v H1 => ∃ d, Dv H1 v d ∧ Q (.bl (f d)) H1
/-- how a reading of an expression grows with what is wanted: asked where it is re-read -/
def MonE (te : TE) : Prop := ∀ σ H (Q Q' : VK), (∀ v H1, Q v H1 → Q' v H1) → te σ H Q → te σ H Q'
theorem mon_var {i : Nat} : MonE (tVar i) := fun _ _ _ _ k ⟨v, a, b⟩ => ⟨v, a, k _ _ b⟩
theorem pe_isD {n : String} {f : D → Bool} (hk : ∀ K d, PySem.W.kitOne K (.type (tyN d)) (.type n) = some (f d)) (hm : X.mg "isinstance" = none) (he : PE X e te) (hc : PE X c (tC (.ty n))) (mo : MonE te)
    (hg : Gl X "isinstance" := by rfl) (h1 : starEach [e, c] X.env = (false, eval e X.env) :: starEach [c] X.env := by rfl) (h2 : starEach [c] X.env = (false, eval c X.env) :: starEach [] X.env := by rfl)
    (h3 : (backTo pos (starEach [c] X.env)).any (·.1) = false := by rfl) : PE X (.Call (.Name "isinstance" p) [e, c] [] pos) (tIs f te) := by
  refine peI (pe_callB call_isi hg hm (by decide +kernel) (pa_cons he (pa_cons hc pa_nil h2) h1) (he := h1) (hpl := h3)) ?_
  intro σ H Q h
  refine mo σ H _ _ ?_ h
  rintro v H1 ⟨d, hd, q⟩
  exact ⟨v, .ty n, _, _, f d, rfl, .ty n, hd.ty, hk _ d, q⟩
def isTL : D → Bool
  | .tup _ => true | .lst _ => true | _ => false
/-- isinstance(x, (tuple, list)) -/
def tIs2 (te : TE) : TE := fun σ H Q => te σ H fun v H1 => ∃ d, Dv H1 v d ∧ ∀ p, H1 p = none → Q (.bl (isTL d)) (upd H1 p (.tup [.ty "tuple", .ty "list"]))
theorem pe_isD2 {a b : Expr} {k2} {pt : Pos} (hm : X.mg "isinstance" = none) (he : PE X e te) (ha : PE X a (tC (.ty "tuple"))) (hb : PE X b (tC (.ty "list"))) (mo : MonE te)
    (hg : Gl X "isinstance" := by rfl) (h1 : starEach [e, .Tuple [a, b] k2 pt] X.env = (false, eval e X.env) :: starEach [.Tuple [a, b] k2 pt] X.env := by rfl)
    (h2 : starEach [.Tuple [a, b] k2 pt] X.env = (false, eval (.Tuple [a, b] k2 pt) X.env) :: starEach [] X.env := by rfl) (h3 : (backTo pos (starEach [.Tuple [a, b] k2 pt] X.env)).any (·.1) = false := by rfl)
    (h4 : starEach [a, b] X.env = (false, eval a X.env) :: starEach [b] X.env := by rfl) (h5 : starEach [b] X.env = (false, eval b X.env) :: starEach [] X.env := by rfl) :
    PE X (.Call (.Name "isinstance" p) [e, .Tuple [a, b] k2 pt] [] pos) (tIs2 te) := by
  refine peI (pe_callB call_isiT hg hm (by decide +kernel) (pa_cons he (pa_cons (pe_tup (pa_cons ha (pa_cons hb pa_nil h5) h4)) pa_nil h2) h1) (he := h1) (hpl := h3)) ?_
  intro σ H Q h
  refine mo σ H _ _ ?_ h
  rintro v H1 ⟨d, hd, q⟩
  refine ⟨by decide, fun p hp => ?_⟩
  have hd' : Dv (upd H1 p (.tup [.ty "tuple", .ty "list"])) v d := hd.same (fun a o q => by rw [upd_ne (ne_of_none q hp)]; exact q) _ _
  refine ⟨v, p, _, _, [.type "tuple", .type "list"], isTL d, rfl, upd_same, .cons (.ty _) (.cons (.ty _) .nil), hd'.ty, ?_, q p hp⟩
  refine kitAny_cons (kit_T d) (fun z => kitAny_cons (kit_L d) (fun y => ?_) (fun y => ?_)) (fun z => ?_)
  · have : isTL d = false := by cases d <;> simp_all [isT, isL, isTL]
    rw [this]
    exact kitAny_nil
  · cases d <;> simp_all [isT, isL, isTL]
  · cases d <;> simp_all [isT, isTL]
end
end Fm
namespace Fm
open PySem PySem.Spec PyProof.Rows L2
theorem Same.new {H : Hp} {p : Addr} {o : HO} (h : H p = none) : Same H (upd H p o) := fun a u e => by
  rw [upd_ne (ne_of_none e h)]
  exact e
theorem Same.upd {H H' : Hp} {p : Addr} {o : HO} (k : Same H H') (h : H p = none) : Same H (upd H' p o) := fun a u e => by
  rw [upd_ne (ne_of_none e h)]
  exact k a u e
theorem sz {n : Nat} (h : n ≤ 10000000) : n ≤ sizeLine := Nat.le_trans h (by decide)
theorem szl {n : Nat} (h : n ≤ 10000000) : n < sizeLine := Nat.lt_of_le_of_lt h (by decide)
theorem signs_len (s : Str) : (signs s).length = s.length := by
  unfold signs Str.length
  simp
theorem signs_get {s : Str} {i c : Nat} (h : s.cps[i]? = some c) : (signs s)[i]? = some ⟨#[c]⟩ := by
  unfold signs
  rw [List.getElem?_map]
  have : s.cps.toList[i]? = some c := by simpa using h
  rw [this]
  rfl
theorem take_succ' {α : Type} {l : List α} {i : Nat} {x : α} (h : l[i]? = some x) : l.take (i + 1) = l.take i ++ [x] := by
  rw [List.take_add_one, h]
  rfl
/-- [f(c) for c in s], f read off each sign by its text -/
theorem lc_signs {K : PySem.W.Frag} {te : TE} {tt : TT} {σ : L2.St} {H : Hp} {s : Str} {j : Nat} {vs : List Nat} {Dl : Addr} {Qd : Hp → Prop} (f : Str → V) (keep : Str → Bool) (hD : H Dl = none) (hz : s.length ≤ 100000)
    (hw : ∀ x, wipe ((wipe σ vs).set j (some x)) vs = wipe σ vs)
    (he : ∀ (x : Str) (H' : Hp) (R : Bool → Hp → Prop), Same H H' → R (keep x) H' → tt ((wipe σ vs).set j (some (.str x))) H' R)
    (hv : ∀ (x : Str) (H' : Hp) (R : VK), Same H H' → keep x = true → R (f x) H' → te ((wipe σ vs).set j (some (.str x))) H' R)
    (q : ∀ H', Same H H' → H' Dl = some (.lst (((signs s).filter keep).map f)) → Qd H') :
    ∃ W : Nat → Nat → Hp → Prop, (∃ m, W 0 m (upd H Dl (.lst []))) ∧ ∀ i m H, W i m H → ((Its s).stop i H ∧ Qd H) ∨ ((Its s).go i H ∧ ∃ Nx : Hp → Prop, (∀ H', Nx H' → ∃ m', m' < m ∧ W (i + 1) m' H') ∧
      ∀ x H', (Its s).yld i H x H' → gName j x (wipe σ vs) H' fun σ2 H2 => wipe σ2 vs = wipe σ vs ∧ tt σ2 H2 fun b H3 => if b = true then te σ2 H3 fun y H4 => ∃ acc, H4 Dl = some (.lst acc) ∧ acc.length < sizeLine ∧ Nx (upd H4 Dl (.lst (acc ++ [y]))) else Nx H3) := by
  refine lc_it (walk_str (z := s)) (fun i H' => Same H H' ∧ H' Dl = some (.lst ((((signs s).take i).filter keep).map f))) ⟨Same.new hD, upd_same⟩ (fun _ _ _ _ => trivial) ?_ ?_
  · rintro i x H1 H2 hi ⟨k, hl⟩ ⟨rfl, c, hc, rfl⟩
    refine ⟨hw _, he _ _ _ k ?_⟩
    have e1 := take_succ' (signs_get hc)
    by_cases hk : keep ⟨#[c]⟩ = true
    · rw [hk]
      refine iteT (hv _ _ _ k hk ⟨_, hl, ?_, Same.upd k hD, ?_⟩)
      · rw [List.length_map]
        refine szl (Nat.le_trans (List.length_filter_le _ _) ?_)
        rw [List.length_take, signs_len]
        omega
      · rw [e1, List.filter_append, List.map_append, List.filter_cons, if_pos hk]
        exact upd_same
    · have hf : keep ⟨#[c]⟩ = false := by simpa using hk
      rw [hf]
      refine iteF ⟨k, ?_⟩
      rw [e1, List.filter_append, List.map_append, List.filter_cons, if_neg (by rw [hf]; decide)]
      simpa using hl
  · rintro H' ⟨k, hl⟩
    refine q H' k ?_
    have : (signs s).take s.cps.size = signs s := List.take_of_length_le (by rw [signs_len]; exact Nat.le_refl _)
    rw [this] at hl
    exact hl
end Fm
namespace Fm
open PySem PySem.Spec PyProof.Rows L2
theorem ite_b {c : Bool} {A B : Prop} (h1 : c = true → A) (h0 : c = false → B) : if c = true then A else B := by
  cases c with
  | true => exact iteT (h1 rfl)
  | false => exact iteF (h0 rfl)
theorem cutV_one (us : List V) (h : 1 ≤ us.length) : cutV us (some 1) none = us.drop 1 ∧ ¬ (HT.sIx us.length 0 (some 1) = 0 ∧ HT.sIx us.length us.length none = us.length) := by
  have e : HT.sIx us.length 0 (some 1) = 1 := by
    have := HT.sIx_nat us.length 0 1
    have z : ((1 : Nat) : Int) = 1 := rfl
    rw [z] at this
    rw [this]
    omega
  constructor
  · unfold cutV
    rw [e]
    exact List.take_of_length_le (by rw [List.length_drop]; exact Nat.le_refl _)
  · rintro ⟨a, _⟩
    rw [e] at a
    cases a
theorem last_split {vs : List V} {ds : List D} {H : Hp} (h : DvL H vs ds) (ne : vs ≠ []) : ∃ y d es, vs[vs.length - 1]? = some y ∧ ds = es ++ [d] ∧ DvL H vs.dropLast es ∧ Dv H y d := by
  have n1 : ds ≠ [] := by
    intro e
    have := h.len
    rw [e] at this
    exact ne (List.length_eq_zero_iff.mp this)
  have l := h.len
  have pos : 0 < vs.length := List.length_pos_iff.mpr ne
  have e0 : ds[vs.length - 1]? = some (ds.getLast n1) := by
    rw [List.getLast_eq_getElem, l]
    exact List.getElem?_eq_getElem (by omega)
  obtain ⟨y, hy, hd⟩ := h.getD e0
  refine ⟨y, ds.getLast n1, ds.dropLast, hy, (List.dropLast_concat_getLast n1).symm, ?_, hd⟩
  have t := h.take (vs.length - 1)
  rw [List.dropLast_eq_take, List.dropLast_eq_take, ← l]
  exact t
end Fm
namespace Fm
open PySem PySem.Spec PyProof.Rows L2
theorem filt {α : Type} (l : List α) : l.filter (fun _ => true) = l := List.filter_eq_self.mpr fun _ _ => rfl
theorem len_last {x : Str} : (cutLast x).length ≤ x.length := by
  unfold cutLast cutS Str.length
  simp
  omega
end Fm
namespace Fm
open PySem PySem.Spec PyProof.Rows L2
theorem deeps_app (a b : List D) : deeps (a ++ b) = max (deeps a) (deeps b) := by
  induction a with
  | nil => simp [deeps]
  | cons x r ih => simp only [List.cons_append, deeps, ih]; omega
end Fm
namespace Fm
open PySem PySem.Spec PyProof.Rows L2
theorem dp_strs {K : PySem.W.Frag} {H : Hp} {p : Addr} {xs : List Str} (h : SqL K H p (xs.map V.str)) : Dp K H (.ref p) (.list (xs.map PyData.str)) := by
  refine .lst h ?_
  clear h
  induction xs with
  | nil => exact .nil
  | cons x r ih => exact .cons (.str x) ih
theorem lay_strs {xs : List Str} (h : ∀ x ∈ xs, PyData.strOk x = true) : PyData.canLayAll0 (xs.map PyData.str) = true := by
  induction xs with
  | nil => simp [PyData.canLayAll0]
  | cons x r ih =>
    have h1 := h x List.mem_cons_self
    have h2 := ih fun y hy => h y (List.mem_cons_of_mem _ hy)
    simp [PyData.canLayAll0, PyData.canLay0, h1, h2]
theorem deep_strs (xs : List Str) : PyData.depthAll (xs.map PyData.str) ≤ 1 := by
  induction xs with
  | nil => simp [PyData.depthAll]
  | cons x r ih => simp [PyData.depthAll, PyData.depth]; omega
theorem shaped_strs {xs : List Str} (h : ∀ x ∈ xs, PyData.strOk x = true) : SeqAt.shaped (.list (xs.map PyData.str)) = true := by
  unfold SeqAt.shaped
  have h1 := lay_strs h
  have h2 := deep_strs xs
  simp [PyData.canLay0, PyData.depth, h1]
  omega
theorem ok_signs {x y : Str} (h : PyData.strOk x = true) (hy : y ∈ signs x) : PyData.strOk y = true := by
  unfold signs at hy
  obtain ⟨c, hc, rfl⟩ := List.mem_map.mp hy
  unfold PyData.strOk at h ⊢
  have := (Array.all_eq_true_iff_forall_mem.mp h) c (by simpa using hc)
  simpa using this
theorem ok_part {x y : Str} (h : PyData.strOk x = true) (hy : ∀ c ∈ y.cps.toList, c ∈ x.cps.toList) : PyData.strOk y = true := by
  unfold PyData.strOk at h ⊢
  refine Array.all_eq_true_iff_forall_mem.mpr fun c hc => ?_
  exact (Array.all_eq_true_iff_forall_mem.mp h) c (by simpa using hy c (by simpa using hc))
theorem ok_cut {x : Str} {lo hi : Option Int} (h : PyData.strOk x = true) : PyData.strOk (cutS x lo hi) = true := by
  refine ok_part h fun c hc => ?_
  unfold cutS at hc
  simp only [List.toList_toArray] at hc
  exact List.mem_of_mem_drop (List.mem_of_mem_take hc)
theorem eqv_nil (xs : List PyData) : PyData.eqv (.list xs) (.list []) = xs.isEmpty := by
  cases xs <;> simp [PyData.eqv, PyData.eqvAll]
end Fm
namespace Fm
open PySem PySem.Spec PyProof.Rows L2
theorem last_sign {x : Str} (h : 1 ≤ x.length) : ∃ c, x.cps.toList[x.length - 1]? = some c ∧ Txt.endswith x "-" = decide (V.str ⟨#[c]⟩ = V.str "-") := by
  have l : x.cps.toList.length = x.length := by simp [Str.length]
  have lt : x.length - 1 < x.cps.size := by
    have : x.cps.size = x.length := rfl
    omega
  refine ⟨x.cps[x.length - 1], by rw [List.getElem?_eq_getElem (by omega)]; simp, ?_⟩
  unfold Txt.endswith Builtin.Str.subAt
  have e1 : (("-" : String) : Str).length = 1 := rfl
  have e2 : x.cps.extract (x.length - 1) (x.length - 1 + 1) = #[x.cps[x.length - 1]] := by
    apply Array.ext
    · simp [Array.size_extract]
      have : x.cps.size = x.length := rfl
      omega
    · intro i h1 h2
      simp only [List.size_toArray, List.length_cons, List.length_nil] at h2
      have i0 : i = 0 := by omega
      subst i0
      simp [Array.getElem_extract]
  rw [e1, e2]
  have e3 : decide (0 + 1 ≤ x.length) = true := decide_eq_true (by omega)
  rw [e3, Bool.true_and]
  rw [Bool.eq_iff_iff, beq_iff_eq, decide_eq_true_iff]
  constructor
  · intro q
    rw [q]
  · intro q
    injection q with q
    exact congrArg Str.cps q
end Fm
namespace Fm
open PySem PySem.Spec PyProof.Rows L2
theorem cutLast_len (x : Str) : (cutLast x).length = x.length - 1 := by
  unfold cutLast cutS
  have e1 : HT.sIx x.length 0 none = 0 := rfl
  have e2 : HT.sIx x.length x.length (some (-1)) = x.length - 1 := by
    show (if (-1 : Int) < 0 then ((-1 : Int) + (x.length : Int)).toNat else min (-1 : Int).toNat x.length) = _
    rw [if_pos (by decide)]
    omega
  rw [e1, e2]
  have l : x.cps.toList.length = x.length := by simp [Str.length]
  show (List.toArray _).size = _
  rw [List.size_toArray, List.length_take, List.length_drop]
  omega
end Fm
namespace Fm
open PySem PySem.Spec PyProof.Rows L2
theorem in_1234 (n : Nat) : inV (.int (n : Int)) [.int 1, .int 2, .int 3, .int 4] = decide (1 ≤ n ∧ n ≤ 4) := by
  rw [Bool.eq_iff_iff]
  simp only [inV, List.any_cons, List.any_nil, eqV, Bool.or_false, Bool.or_eq_true, beq_iff_eq, decide_eq_true_iff]
  omega
theorem tk {α : Type} {l : List α} {i : Nat} {x : α} (h : l[i]? = some x) : x ∈ l := List.mem_of_getElem? h
/-- [f(x) for x in xs] over a tuple of data, f a def that leaves what stood -/
theorem lc_tupD {K : PySem.W.Frag} {te : TE} {tt : TT} {σ : L2.St} {H : Hp} {a : Addr} {xs : List V} {ds : List D} {j : Nat} {vs : List Nat} {Dl : Addr} {Qd : Hp → Prop} (f : D → V) (hT : SqT K H a xs) (hd : DvL H xs ds) (hD : H Dl = none) (hz : xs.length ≤ 100000)
    (hw : ∀ x, wipe ((wipe σ vs).set j (some x)) vs = wipe σ vs)
    (he : ∀ σ' H' (R : Bool → Hp → Prop), R true H' → tt σ' H' R)
    (hv : ∀ (x : V) (d : D) (H' : Hp) (R : VK), Same H H' → d ∈ ds → Dv H x d → (∀ H2, Same H' H2 → R (f d) H2) → te ((wipe σ vs).set j (some x)) H' R)
    (q : ∀ H', Same H H' → H' Dl = some (.lst (ds.map f)) → Qd H') :
    ∃ W : Nat → Nat → Hp → Prop, (∃ m, W 0 m (upd H Dl (.lst []))) ∧ ∀ i m H, W i m H → ((Itt K a).stop i H ∧ Qd H) ∨ ((Itt K a).go i H ∧ ∃ Nx : Hp → Prop, (∀ H', Nx H' → ∃ m', m' < m ∧ W (i + 1) m' H') ∧
      ∀ x H', (Itt K a).yld i H x H' → gName j x (wipe σ vs) H' fun σ2 H2 => wipe σ2 vs = wipe σ vs ∧ tt σ2 H2 fun b H3 => if b = true then te σ2 H3 fun y H4 => ∃ acc, H4 Dl = some (.lst acc) ∧ acc.length < sizeLine ∧ Nx (upd H4 Dl (.lst (acc ++ [y]))) else Nx H3) := by
  have hlen := hd.len
  have st : ∀ H', Same H H' → SqT K H' a xs := fun H' k => Evl.ex_t k hT
  refine lc_tup (fun i H' => Same H H' ∧ H' Dl = some (.lst ((ds.take i).map f))) ⟨Same.new hD, upd_same⟩ (fun i H' _ p => st H' p.1) ?_ ?_
  · rintro i x H1 hx ⟨k, hl⟩
    refine ⟨hw _, he _ _ _ ?_⟩
    rw [if_pos rfl]
    obtain ⟨d, e1, hd1⟩ := hd.get hx
    refine hv x d H1 _ k (tk e1) hd1 fun H2 k2 => ⟨_, k2 _ _ hl, ?_, Same.upd (k.trans k2) hD, ?_⟩
    · rw [List.length_map]
      refine szl ?_
      rw [List.length_take]
      omega
    · rw [take_succ' e1, List.map_append]
      exact upd_same
  · rintro H' ⟨k, hl⟩
    refine q H' k ?_
    have : ds.take xs.length = ds := List.take_of_length_le (by omega)
    rw [this] at hl
    exact hl
end Fm
set_option maxRecDepth 100000
set_option maxHeartbeats 2000000
/-! Fm: the bag that a law draws from: a list of three ints and a list of ints; what is drawn is any int below a bound. -/
namespace Fm
open PySem PySem.Spec PyProof.Rows L2
/-- the heap without the bag -/
def mask (b : Addr) (H : Hp) : Hp := fun a => if a = b then none else H a
theorem mask_ne {b a : Addr} {H : Hp} (h : a ≠ b) : mask b H a = H a := if_neg h
theorem unmask {b : Addr} {H : Hp} : Same (mask b H) H := fun a o e => by
  unfold mask at e
  split at e
  · cases e
  · exact e
theorem mask_same {b : Addr} {H H' : Hp} (k : Same H H') : Same (mask b H) (mask b H') := fun a o e => by
  have e' := unmask _ _ e
  have n : a ≠ b := fun z => by
    rw [z] at e
    simp [mask] at e
  rw [mask_ne n]
  exact k _ _ e'
theorem mask_updb {b : Addr} {H : Hp} {o : HO} : mask b (upd H b o) = mask b H := by
  funext a
  unfold mask
  split
  · rfl
  · rename_i n
    exact upd_ne n
structure BagAt (b p : Addr) (H : Hp) (s m k : Int) (cells : List Int) : Prop where
  at_b : H b = some (.lst [.int s, .int m, .int k, .ref p])
  at_p : H p = some (.lst (cells.map V.int))
  ne : p ≠ b
  s0 : 0 ≤ s
  m0 : 0 ≤ m
  m1 : m < 2147483647
  k0 : 0 ≤ k
  c0 : ∀ c ∈ cells, 0 ≤ c
def Bag (b p : Addr) (H : Hp) : Prop := ∃ s m k cells, BagAt b p H s m k cells
theorem Bag.same {b p : Addr} {H H' : Hp} (B : Bag b p H) (k : Same H H') : Bag b p H' := by
  obtain ⟨s, m, n, cells, h1, h2, h3, h4, h5, h6, h7, h8⟩ := B
  exact ⟨s, m, n, cells, k _ _ h1, k _ _ h2, h3, h4, h5, h6, h7, h8⟩
/-- the bag has gone on, all else stands -/
structure Go (b p : Addr) (H H' : Hp) : Prop where
  k : Same (mask b H) (mask b H')
  B : Bag b p H'
section
variable {b p : Addr} {H H' H2 : Hp}
theorem Go.of (B : Bag b p H) (k : Same H H') : Go b p H H' := ⟨mask_same k, B.same k⟩
theorem Go.refl (B : Bag b p H) : Go b p H H := ⟨Same.refl _, B⟩
theorem Go.trans (g : Go b p H H') (g2 : Go b p H' H2) : Go b p H H2 := ⟨g.k.trans g2.k, g2.B⟩
theorem Go.same (g : Go b p H H') (k : Same H' H2) : Go b p H H2 := g.trans (.of g.B k)
theorem Go.new {q : Addr} {o : HO} (g : Go b p H H') (h : H' q = none) : Go b p H (upd H' q o) := g.same (Same.new h)
theorem Bag.b_ne (B : Bag b p H) {l : Addr} (h : H l = none) : l ≠ b := by
  obtain ⟨s, m, n, cells, h1, _⟩ := B
  exact fun z => by
    rw [z, h1] at h
    cases h
theorem Go.free (g : Go b p H H') {l : Addr} (h : H' l = none) : H l = none := by
  have n := g.B.b_ne h
  cases e : H l with
  | none => rfl
  | some o =>
    have e1 := g.k l o (by rw [mask_ne n]; exact e)
    rw [mask_ne n, h] at e1
    cases e1
/-- an object that was not there at the start changes -/
theorem Go.mut {l : Addr} {o : HO} (B : Bag b p H) (g : Go b p H H') (h : H l = none) : Go b p H (upd H' l o) := by
  have nb := B.b_ne h
  obtain ⟨s, m, n, cells, h1, h2, h3, h4, h5, h6, h7, h8⟩ := B
  have np : p ≠ l := fun z => by
    rw [z, h] at h2
    cases h2
  obtain ⟨s', m', n', cells', g1, g2, g3, g4, g5, g6, g7, g8⟩ := g.B
  refine ⟨fun a u e => ?_, s', m', n', cells', ?_, ?_, g3, g4, g5, g6, g7, g8⟩
  · have na : a ≠ b := fun z => by
      rw [z] at e
      simp [mask] at e
    have nl : a ≠ l := fun z => by
      rw [z, mask_ne nb, h] at e
      cases e
    have e1 := g.k a u e
    rw [mask_ne na] at e1 ⊢
    rw [upd_ne nl]
    exact e1
  · rw [upd_ne nb.symm]
    exact g1
  · rw [upd_ne np]
    exact g2
theorem Go.dv {v : V} {d : D} (g : Go b p H H') (h : Dv (mask b H) v d) : Dv (mask b H') v d := h.same g.k _ _
theorem Go.dvl {vs : List V} {ds : List D} (g : Go b p H H') (h : DvL (mask b H) vs ds) : DvL (mask b H') vs ds := h.same g.k _ _
theorem Dv.un {v : V} {d : D} (h : Dv (mask b H) v d) : Dv H v d := h.same unmask _ _
theorem DvL.un {vs : List V} {ds : List D} (h : DvL (mask b H) vs ds) : DvL H vs ds := h.same unmask _ _
theorem Go.at {q : Addr} {o : HO} (g : Go b p H H') (n : q ≠ b) (h : H q = some o) : H' q = some o := by
  have := g.k q o (by rw [mask_ne n]; exact h)
  rw [mask_ne n] at this
  exact this
end
/-- _law_take: an int below n -/
def spTake : Sp := fun vs H Q _ => ∃ b p n, vs = [.ref b, .int n] ∧ Bag b p H ∧ 0 < n ∧ n ≤ 1000000 ∧ ∀ i H', 0 ≤ i → i < n → Go b p H H' → Q (.int i) H'
end Fm
namespace Fm
open PySem PySem.Spec PyProof.Rows L2
/-- what stands in H2 and not yet in H -/
def newof (H H2 : Hp) : Hp := fun a => match H a with
  | none => H2 a
  | some _ => none
section
variable {b p : Addr} {H H1 H2 H3 : Hp}
theorem newof_of {a : Addr} {o : HO} (h : H a = none) (h2 : H2 a = some o) : newof H H2 a = some o := by
  unfold newof
  rw [h]
  exact h2
theorem newof_is {a : Addr} {o : HO} (h : newof H H2 a = some o) : H a = none ∧ H2 a = some o := by
  unfold newof at h
  cases e : H a with
  | none =>
    rw [e] at h
    exact ⟨rfl, h⟩
  | some u =>
    rw [e] at h
    cases h
theorem newof_sub : Same (newof H H2) H2 := fun _ _ h => (newof_is h).2
theorem newof_mask (B : Bag b p H) : Same (newof H H2) (mask b H2) := fun a o h => by
  obtain ⟨h1, h2⟩ := newof_is h
  rw [mask_ne (B.b_ne h1)]
  exact h2
theorem newof_go (B : Bag b p H) (g : Go b p H1 H2) : Same (newof H H1) (newof H H2) := fun a o h => by
  obtain ⟨h1, h2⟩ := newof_is h
  exact newof_of h1 (g.at (B.b_ne h1) h2)
theorem newof_same (k : Same H1 H2) : Same (newof H H1) (newof H H2) := fun a o h => by
  obtain ⟨h1, h2⟩ := newof_is h
  exact newof_of h1 (k _ _ h2)
theorem newof_lift (f : ∀ a, H1 a = none → H a = none) : Same (newof H1 H2) (newof H H2) := fun a o h => by
  obtain ⟨h1, h2⟩ := newof_is h
  exact newof_of (f _ h1) h2
theorem newof_upd {l : Addr} {o u : HO} (h : H l = some u) : newof H (upd H2 l o) = newof H H2 := by
  funext a
  unfold newof
  cases e : H a with
  | none =>
    show upd H2 l o a = H2 a
    exact upd_ne fun z => by
      rw [z, h] at e
      cases e
  | some _ => rfl
end
/-- [e for k in range(n)], each turn draws from the bag and gives new data -/
theorem lc_bagS {te : TE} {tt : TT} {σ : L2.St} {H : Hp} {b p : Addr} {j n : Nat} {vs : List Nat} {Dl : Addr} {Qd : Hp → Prop} (good : D → Prop) (B : Bag b p H) (hD : H Dl = none) (hz : n ≤ 100000)
    (hw : ∀ x, wipe ((wipe σ vs).set j (some x)) vs = wipe σ vs) (he : ∀ σ' H' (R : Bool → Hp → Prop), R true H' → tt σ' H' R)
    (hv : ∀ (i : Nat) (H' : Hp) (R : VK), i < n → Go b p H H' → (∀ y d H2, Go b p H' H2 → Dv (newof H' H2) y d → good d → R y H2) → te ((wipe σ vs).set j (some (.int (i : Int)))) H' R)
    (q : ∀ H' acc ds, Go b p H H' → H' Dl = some (.lst acc) → DvL (newof (upd H Dl (.lst [])) H') acc ds → (∀ d ∈ ds, good d) → ds.length = n → Qd H') :
    ∃ W : Nat → Nat → Hp → Prop, (∃ m, W 0 m (upd H Dl (.lst []))) ∧ ∀ i m H, W i m H → ((Itr 0 n).stop i H ∧ Qd H) ∨ ((Itr 0 n).go i H ∧ ∃ Nx : Hp → Prop, (∀ H', Nx H' → ∃ m', m' < m ∧ W (i + 1) m' H') ∧
      ∀ x H', (Itr 0 n).yld i H x H' → gName j x (wipe σ vs) H' fun σ2 H2 => wipe σ2 vs = wipe σ vs ∧ tt σ2 H2 fun b H3 => if b = true then te σ2 H3 fun y H4 => ∃ acc, H4 Dl = some (.lst acc) ∧ acc.length < sizeLine ∧ Nx (upd H4 Dl (.lst (acc ++ [y]))) else Nx H3) := by
  have nb := B.b_ne hD
  refine lc_range (lo := 0) (fun i H' => Go b p H H' ∧ ∃ acc ds, H' Dl = some (.lst acc) ∧ DvL (newof (upd H Dl (.lst [])) H') acc ds ∧ (∀ d ∈ ds, good d) ∧ ds.length = i)
    ⟨(Go.refl B).new hD, [], [], upd_same, .nil, fun _ h => (by cases h), rfl⟩ ?_ ?_
  · rintro i H1 hi ⟨g, acc, ds, hl, hds, hg, hn⟩
    refine ⟨hw _, he _ _ _ ?_⟩
    rw [if_pos rfl]
    have e0 : (0 : Int) + (i : Int) = (i : Int) := by omega
    rw [e0]
    refine hv i H1 _ hi g fun y d H2 g2 hy gd => ⟨acc, g2.at nb hl, ?_, (g.trans g2).mut B hD, acc ++ [y], ds ++ [d], upd_same, ?_, ?_, ?_⟩
    · have := hds.len
      exact szl (by omega)
    · have hDl : (upd H Dl (.lst [])) Dl = some (.lst []) := upd_same
      rw [newof_upd hDl]
      have B1 : Bag b p (upd H Dl (.lst [])) := ((Go.refl B).new hD).B
      refine (hds.same (newof_go B1 g2) _ _).app (.cons (hy.same (newof_lift fun a ha => ?_) _ _) .nil)
      have n1 : a ≠ Dl := fun z => by
        rw [z, hl] at ha
        cases ha
      rw [upd_ne n1]
      exact g.free ha
    · intro d' hd'
      rcases List.mem_append.mp hd' with h | h
      · exact hg d' h
      · rw [List.mem_singleton.mp h]
        exact gd
    · rw [List.length_append, hn]
      rfl
  · rintro H' ⟨g, acc, ds, hl, hds, hg, hn⟩
    exact q H' acc ds g hl hds hg hn
/-- [e for k in range(n)], each turn draws from the bag and gives new data -/
theorem lc_bag {te : TE} {tt : TT} {σ : L2.St} {H : Hp} {b p : Addr} {j n : Nat} {vs : List Nat} {Dl : Addr} {Qd : Hp → Prop} (good : D → Prop) (B : Bag b p H) (hD : H Dl = none) (hz : n ≤ 100000)
    (hw : ∀ x, wipe ((wipe σ vs).set j (some x)) vs = wipe σ vs) (he : ∀ σ' H' (R : Bool → Hp → Prop), R true H' → tt σ' H' R)
    (hv : ∀ (i : Nat) (H' : Hp) (R : VK), i < n → Go b p H H' → (∀ y d H2, Go b p H' H2 → Dv (newof H' H2) y d → good d → R y H2) → te ((wipe σ vs).set j (some (.int (i : Int)))) H' R)
    (q : ∀ H' acc ds, Go b p H H' → H' Dl = some (.lst acc) → DvL (newof H H') acc ds → (∀ d ∈ ds, good d) → ds.length = n → Qd H') :
    ∃ W : Nat → Nat → Hp → Prop, (∃ m, W 0 m (upd H Dl (.lst []))) ∧ ∀ i m H, W i m H → ((Itr 0 n).stop i H ∧ Qd H) ∨ ((Itr 0 n).go i H ∧ ∃ Nx : Hp → Prop, (∀ H', Nx H' → ∃ m', m' < m ∧ W (i + 1) m' H') ∧
      ∀ x H', (Itr 0 n).yld i H x H' → gName j x (wipe σ vs) H' fun σ2 H2 => wipe σ2 vs = wipe σ vs ∧ tt σ2 H2 fun b H3 => if b = true then te σ2 H3 fun y H4 => ∃ acc, H4 Dl = some (.lst acc) ∧ acc.length < sizeLine ∧ Nx (upd H4 Dl (.lst (acc ++ [y]))) else Nx H3) :=
  lc_bagS good B hD hz hw he hv fun H' acc ds g hl hds hg hn => q H' acc ds g hl (hds.same (newof_lift fun a ha => by
    by_cases z : a = Dl
    · rw [z]
      exact hD
    · rwa [upd_ne z] at ha) _ _) hg hn
/-- [f(x) for x in xs] over a list, f leaves what stands -/
theorem lc_listF {K : PySem.W.Frag} {te : TE} {tt : TT} {σ : L2.St} {H : Hp} {a : Addr} {xs : List V} {j : Nat} {vs : List Nat} {Dl : Addr} {Qd : Hp → Prop} (f : V → V) (hT : SqL K H a xs) (hD : H Dl = none) (hz : xs.length ≤ 100000)
    (hw : ∀ x, wipe ((wipe σ vs).set j (some x)) vs = wipe σ vs) (he : ∀ σ' H' (R : Bool → Hp → Prop), R true H' → tt σ' H' R)
    (hv : ∀ (x : V) (H' : Hp) (R : VK), Same H H' → x ∈ xs → (∀ H2, Same H' H2 → R (f x) H2) → te ((wipe σ vs).set j (some x)) H' R)
    (q : ∀ H', Same H H' → H' Dl = some (.lst (xs.map f)) → Qd H') :
    ∃ W : Nat → Nat → Hp → Prop, (∃ m, W 0 m (upd H Dl (.lst []))) ∧ ∀ i m H, W i m H → ((Itl K a).stop i H ∧ Qd H) ∨ ((Itl K a).go i H ∧ ∃ Nx : Hp → Prop, (∀ H', Nx H' → ∃ m', m' < m ∧ W (i + 1) m' H') ∧
      ∀ x H', (Itl K a).yld i H x H' → gName j x (wipe σ vs) H' fun σ2 H2 => wipe σ2 vs = wipe σ vs ∧ tt σ2 H2 fun b H3 => if b = true then te σ2 H3 fun y H4 => ∃ acc, H4 Dl = some (.lst acc) ∧ acc.length < sizeLine ∧ Nx (upd H4 Dl (.lst (acc ++ [y]))) else Nx H3) := by
  refine lc_list (fun i H' => Same H H' ∧ H' Dl = some (.lst ((xs.take i).map f))) ⟨Same.new hD, upd_same⟩ (fun i H' _ h => Evl.ex_l h.1 hT) ?_ ?_
  · rintro i x H1 hx ⟨k, hl⟩
    refine ⟨hw _, he _ _ _ ?_⟩
    rw [if_pos rfl]
    refine hv x H1 _ k (tk hx) fun H2 k2 => ⟨_, k2 _ _ hl, ?_, Same.upd (k.trans k2) hD, ?_⟩
    · rw [List.length_map]
      refine szl ?_
      rw [List.length_take]
      omega
    · rw [take_succ' hx, List.map_append]
      exact upd_same
  · rintro H' ⟨k, hl⟩
    refine q H' k ?_
    rw [List.take_length] at hl
    exact hl
end Fm
namespace Fm
open PySem PySem.Spec PyProof.Rows L2
theorem ok_app {x y : Str} (hx : PyData.strOk x = true) (hy : PyData.strOk y = true) : PyData.strOk (x ++ y) = true := by
  unfold PyData.strOk at *
  show (x.cps ++ y.cps).all _ = true
  rw [Array.all_append, hx, hy]
  rfl
theorem ok_join {ys : List Str} (h : ∀ y ∈ ys, PyData.strOk y = true) : PyData.strOk (Txt.join "" ys) = true := by
  have e : Txt.join "" ys = Str.join "" ys := StrLaws.glued_eq_join _ _
  rw [e]
  clear e
  induction ys with
  | nil => decide +kernel
  | cons x r ih =>
    cases r with
    | nil => exact h x List.mem_cons_self
    | cons y r => exact ok_app (ok_app (h x List.mem_cons_self) (by decide +kernel)) (ih fun z hz => h z (List.mem_cons_of_mem _ hz))
theorem len_join {ys : List Str} (h : ∀ y ∈ ys, y.length ≤ 1) : (Txt.join "" ys).length ≤ ys.length := by
  have e : Txt.join "" ys = Str.join "" ys := StrLaws.glued_eq_join _ _
  rw [e]
  refine Nat.le_trans (StrLaws.join_length_le _ _) ?_
  have z : (("" : String) : Str).length = 0 := rfl
  rw [z, Nat.mul_zero, Nat.add_zero]
  clear e
  induction ys with
  | nil => simp
  | cons x r ih =>
    have h1 := h x List.mem_cons_self
    have h2 := ih fun y hy => h y (List.mem_cons_of_mem _ hy)
    rw [List.map_cons, List.sum_cons, List.length_cons]
    omega
theorem sum_len {ys : List Str} (h : ∀ y ∈ ys, y.length ≤ 1) : (ys.map (·.length)).sum ≤ ys.length := by
  induction ys with
  | nil => simp
  | cons x r ih =>
    have h1 := h x List.mem_cons_self
    have h2 := ih fun y hy => h y (List.mem_cons_of_mem _ hy)
    rw [List.map_cons, List.sum_cons, List.length_cons]
    omega
/-- strings as data, and back -/
theorem dvl_strs {H : Hp} {m : Nat} : ∀ {acc : List V} {ds : List D}, DvL H acc ds → (∀ d ∈ ds, ∃ x, d = .str x ∧ PyData.strOk x = true ∧ x.length ≤ m) → ∃ ys : List Str, acc = ys.map V.str ∧ (∀ y ∈ ys, PyData.strOk y = true ∧ y.length ≤ m) ∧ ys.length = ds.length
  | _, _, .nil, _ => ⟨[], rfl, fun _ h => (by cases h), rfl⟩
  | _, _, .cons a b, h => by
    obtain ⟨ys, e, f, g⟩ := dvl_strs b fun d hd => h d (List.mem_cons_of_mem _ hd)
    obtain ⟨x, rfl, o, l⟩ := h _ List.mem_cons_self
    cases a
    refine ⟨x :: ys, by rw [e]; rfl, fun y hy => ?_, by simp [g]⟩
    rcases List.mem_cons.mp hy with rfl | hy
    · exact ⟨o, l⟩
    · exact f y hy
/-- a sign of a written text at an int below its length -/
theorem sign_at {x : Str} {i : Int} (h0 : 0 ≤ i) (h1 : i < x.length) : ∃ c, atI x.cps.toList i = some c ∧ (PyData.strOk x = true → PyData.strOk ⟨#[c]⟩ = true) := by
  obtain ⟨k, rfl⟩ := Int.eq_ofNat_of_zero_le h0
  have l : x.cps.toList.length = x.length := by simp [Str.length]
  have lt : k < x.cps.toList.length := by omega
  refine ⟨x.cps.toList[k], atI_nat (List.getElem?_eq_getElem lt), fun o => ok_part o fun c hc => ?_⟩
  simp only [List.mem_singleton] at hc
  rw [hc]
  exact List.getElem_mem lt
theorem cut_len_le {x : Str} {lo hi : Option Int} : (cutS x lo hi).length ≤ x.length := by
  unfold cutS
  show (List.toArray _).size ≤ _
  rw [List.size_toArray, List.length_take, List.length_drop]
  have l : x.cps.toList.length = x.length := by simp [Str.length]
  omega
theorem len_app (x y : Str) : (x ++ y).length = x.length + y.length := by
  show (x.cps ++ y.cps).size = _
  rw [Array.size_append]
  rfl
/-- the law's bag made of the script -/
def spBag (K : PySem.W.Frag) : Sp := fun vs H Q _ => ∃ (a : Addr) (ns : List Int), vs = [.ref a] ∧ SqL K H a (ns.map V.int) ∧ ns.length ≤ 63 ∧ ∀ b p H', H b = none → Same H H' → Bag b p H' → Q (.ref b) H'
/-- some names -/
def spNames : Sp := fun vs H Q _ => ∃ b p n, vs = [.ref b, .int n] ∧ Bag b p H ∧ 0 ≤ n ∧ n ≤ 20 ∧
  ∀ (l : Addr) (H' : Hp) (xs : List Str), Go b p H H' → newof H H' l = some (.lst (xs.map V.str)) → (xs.length : Int) = n → (∀ x ∈ xs, PyData.strOk x = true ∧ x.length ≤ 30) → Q (.ref l) H'
end Fm
namespace Fm
open PySem PySem.Spec PyProof.Rows L2
theorem cut_strs (ws : List Str) (lo hi : Option Int) : ∃ zs : List Str, cutV (ws.map V.str) lo hi = zs.map V.str ∧ (∀ z ∈ zs, z ∈ ws) ∧ zs.length = min (HT.sIx ws.length ws.length hi - HT.sIx ws.length 0 lo) (ws.length - HT.sIx ws.length 0 lo) := by
  unfold cutV
  rw [List.length_map, ← List.map_drop, ← List.map_take]
  refine ⟨_, rfl, fun z hz => List.mem_of_mem_drop (List.mem_of_mem_take hz), ?_⟩
  rw [List.length_take, List.length_drop]
theorem sIx_none (n d : Nat) : HT.sIx n d none = d := rfl
theorem sIx_at {n d : Nat} {i : Int} (h : 0 ≤ i) : HT.sIx n d (some i) = min i.toNat n := by
  show (if i < 0 then (i + (n : Int)).toNat else min i.toNat n) = _
  rw [if_neg (by omega)]
end Fm
namespace Fm
open PySem PySem.Spec PyProof.Rows L2
/-- a term as a law makes it: an int, or a tuple of a text and terms -/
inductive Tm : D → Prop
  | int (i : Int) : Tm (.int i)
  | tup (x : Str) (ds : List D) : (∀ d ∈ ds, Tm d) → Tm (.tup (.str x :: ds))
/-- a list of names that stands in the heap -/
structure Names (nm b : Addr) (H : Hp) (xs : List Str) : Prop where
  at_ : H nm = some (.lst (xs.map V.str))
  ne : nm ≠ b
  pos : 1 ≤ xs.length
  few : xs.length ≤ 20
  ok : ∀ x ∈ xs, PyData.strOk x = true ∧ x.length ≤ 30
theorem Names.go {nm b p : Addr} {H H' : Hp} {xs : List Str} (N : Names nm b H xs) (g : Go b p H H') : Names nm b H' xs := ⟨g.at N.ne N.at_, N.ne, N.pos, N.few, N.ok⟩
theorem Names.get {nm b : Addr} {H : Hp} {xs : List Str} (N : Names nm b H xs) {i : Int} (h0 : 0 ≤ i) (h1 : i < xs.length) : ∃ x, atI (xs.map V.str) i = some (.str x) ∧ PyData.strOk x = true ∧ x.length ≤ 30 := by
  obtain ⟨k, rfl⟩ := Int.eq_ofNat_of_zero_le h0
  have lt : k < xs.length := by omega
  refine ⟨xs[k], atI_nat ?_, N.ok _ (List.getElem_mem lt)⟩
  rw [List.getElem?_map, List.getElem?_eq_getElem lt]
  rfl
/-- how great a term of so many levels may be -/
def Sized (k : Nat) (d : D) : Prop := d.deep ≤ k ∧ d.size + 16 ≤ 17 * 3 ^ k
theorem sizes_le {ds : List D} {n : Nat} (h : ∀ d ∈ ds, d.size + 16 ≤ n) : sizes ds + 16 * ds.length ≤ n * ds.length := by
  induction ds with
  | nil => simp [sizes]
  | cons x r ih =>
    have h1 := h x List.mem_cons_self
    have h2 := ih fun y hy => h y (List.mem_cons_of_mem _ hy)
    simp only [sizes, List.length_cons, Nat.mul_add, Nat.mul_one]
    omega
theorem deeps_le {ds : List D} {n : Nat} (h : ∀ d ∈ ds, d.deep ≤ n) : deeps ds ≤ n := by
  induction ds with
  | nil => simp [deeps]
  | cons x r ih =>
    have h1 := h x List.mem_cons_self
    have h2 := ih fun y hy => h y (List.mem_cons_of_mem _ hy)
    simp only [deeps]
    omega
theorem Sized.tup {k : Nat} {x : Str} {ds : List D} (lx : x.length ≤ 30) (l3 : ds.length ≤ 3) (h : ∀ d ∈ ds, Sized k d) : Sized (k + 1) (.tup (.str x :: ds)) := by
  have h1 := deeps_le fun d hd => (h d hd).1
  have h2 := sizes_le fun d hd => (h d hd).2
  have h3 : 17 * 3 ^ k * ds.length ≤ 17 * 3 ^ k * 3 := Nat.mul_le_mul_left _ l3
  have h4 : 1 ≤ 3 ^ k := Nat.one_le_pow _ _ (by decide)
  refine ⟨?_, ?_⟩
  · simp only [D.deep, deeps]
    omega
  · simp only [D.size, sizes]
    have e : 17 * 3 ^ (k + 1) = 17 * 3 ^ k * 3 := by rw [Nat.pow_succ]; omega
    rw [e]
    -- three parts, or fewer
    rcases (by omega : ds.length = 0 ∨ ds.length = 1 ∨ ds.length = 2 ∨ ds.length = 3) with z | z | z | z <;> rw [z] at h2 <;> omega
/-- _law_term of a bag, names, so many unknowns and k levels, k below m -/
def spTerm (m : Nat) : Sp := fun vs H Q _ => ∃ (b p nm : Addr) (xs : List Str) (many : Int) (k : Nat) (deep : Int), vs = [.ref b, .ref nm, .int many, .int deep] ∧ deep = (k : Int) ∧ Bag b p H ∧ Names nm b H xs ∧ 0 < many ∧ many ≤ 1000 ∧ k < m ∧ k ≤ 100 ∧
  ∀ v H' d, Go b p H H' → Dv (newof H H') v d → Tm d → Sized k d → Q v H'
end Fm
set_option maxRecDepth 100000
set_option maxHeartbeats 2000000
/-! Fm: written data. -/
namespace Fm
open PySem PySem.Spec PyProof.Rows L2
/-- an expression that makes this data anew, all that stood standing -/
def Ed (te : TE) (d : D) : Prop := ∀ σ H (Q : VK), (∀ v H', Same H H' → Dv (newof H H') v d → Q v H') → te σ H Q
def EdA (ta : TA) (ds : List D) : Prop := ∀ σ H (Q : List V → Hp → Prop), (∀ vs H', Same H H' → DvL (newof H H') vs ds → Q vs H') → ta σ H Q
theorem ed_non : Ed (tC .non) .non := fun _ H _ q => q _ _ (Same.refl H) .non
theorem ed_bl {b : Bool} : Ed (tC (.bl b)) (.bl b) := fun _ H _ q => q _ _ (Same.refl H) (.bl b)
theorem ed_int {i : Int} : Ed (tC (.int i)) (.int i) := fun _ H _ q => q _ _ (Same.refl H) (.int i)
theorem ed_str {x : Str} (h : PyData.strOk x = true) : Ed (tC (.str x)) (.str x) := fun _ H _ q => q _ _ (Same.refl H) (.str x h)
theorem ed_neg {i : Int} : Ed (tUn (rU fun i => .int (-i)) (tC (.int i))) (.int (-i)) := fun _ H _ q => ⟨i, rfl, q _ _ (Same.refl H) (.int _)⟩
theorem eda_nil : EdA tNil [] := fun _ H _ q => q _ _ (Same.refl H) .nil
theorem eda_cons {te : TE} {ta : TA} {d : D} {ds : List D} (h : Ed te d) (h2 : EdA ta ds) : EdA (tCons te ta) (d :: ds) := fun σ H Q q =>
  h σ H _ fun v H1 k1 h1 => h2 σ H1 _ fun vs H2 k2 h3 => q _ _ (k1.trans k2) (.cons (h1.same (newof_same k2) _ _) (h3.same (newof_lift fun _ ha => k1.free ha) _ _))
theorem ed_tup {ta : TA} {ds : List D} (h : EdA ta ds) (hl : ds.length ≤ 1000) : Ed (tTup ta) (.tup ds) := fun σ H Q q =>
  h σ H _ fun vs H1 k1 h1 => ⟨sz (by have := h1.len; omega), fun p hp => q _ _ (k1.trans (Same.new hp)) (.tup (newof_of (k1.free hp) upd_same) (h1.same (newof_same (Same.new hp)) _ _))⟩
theorem ed_lst {ta : TA} {ds : List D} (h : EdA ta ds) (hl : ds.length ≤ 1000) : Ed (tLst ta) (.lst ds) := fun σ H Q q =>
  h σ H _ fun vs H1 k1 h1 => ⟨sz (by have := h1.len; omega), fun p hp => q _ _ (k1.trans (Same.new hp)) (.lst (newof_of (k1.free hp) upd_same) (h1.same (newof_same (Same.new hp)) _ _))⟩
theorem ed_asg {te : TE} {d : D} {i : Nat} {D' : Ends} {σ : L2.St} {H : Hp} (h : Ed te d) (k : ∀ v H', Same H H' → Dv (newof H H') v d → D'.nx (σ.set i (some v)) H') : tAsg te (gName i) D' σ H := h σ H _ k
theorem ed_dic : Ed tDNewK .dic := fun _ H _ q p hp => q _ _ (Same.new hp) (.dic (newof_of hp upd_same))
theorem Ed.use {te : TE} {d : D} {σ : L2.St} {H : Hp} {Q : VK} (h : Ed te d) (k : ∀ v H', Same H H' → Dv (newof H H') v d → Q v H') : te σ H Q := h σ H Q k
/-- _law_odd: a small piece of data -/
def spOdd : Sp := fun vs H Q _ => ∃ b p, vs = [.ref b] ∧ Bag b p H ∧ ∀ v H' d, Go b p H H' → Dv (newof H H') v d → d.deep ≤ 3 → d.size ≤ 40 → Q v H'
end Fm
namespace Fm
open PySem PySem.Spec PyProof.Rows L2
theorem split_at {ds : List D} {k : Nat} (h : k < ds.length) : ds = ds.take k ++ (ds[k] :: ds.drop (k + 1)) := by
  have e := List.take_append_drop k ds
  rw [List.drop_eq_getElem_cons h] at e
  exact e.symm
theorem cut_to {us : List V} {k : Nat} (h : k < us.length) : cutV us none (some (k : Int)) = us.take k ∧ ¬ (HT.sIx us.length 0 none = 0 ∧ HT.sIx us.length us.length (some (k : Int)) = us.length) := by
  have e : HT.sIx us.length us.length (some (k : Int)) = k := by
    rw [HT.sIx_nat]
    omega
  have e0 : HT.sIx us.length 0 none = 0 := rfl
  constructor
  · unfold cutV
    rw [e, e0]
    rfl
  · rintro ⟨_, z⟩
    rw [e] at z
    omega
theorem cut_from {us : List V} {k : Nat} (h : 0 < k) (h2 : k ≤ us.length) : cutV us (some (k : Int)) none = us.drop k ∧ ¬ (HT.sIx us.length 0 (some (k : Int)) = 0 ∧ HT.sIx us.length us.length none = us.length) := by
  have e : HT.sIx us.length 0 (some (k : Int)) = k := by
    rw [HT.sIx_nat]
    omega
  constructor
  · unfold cutV
    rw [e]
    exact List.take_of_length_le (by rw [List.length_drop]; exact Nat.le_refl _)
  · rintro ⟨z, _⟩
    rw [e] at z
    omega
/-- _law_spoilt of a bag and a term -/
def spSpoilt (m : Nat) : Sp := fun vs H Q _ => ∃ b p v d, vs = [.ref b, v] ∧ Bag b p H ∧ Dv (mask b H) v d ∧ Tm d ∧ d.deep < m ∧ d.deep ≤ 90 ∧ d.size ≤ 50000 ∧
  ∀ v' H' d', Go b p H H' → Dv (mask b H') v' d' → d'.deep ≤ d.deep + 3 → d'.size ≤ d.size + 40 → Q v' H'
theorem mask_new {b q : Addr} {H : Hp} {o : HO} (n : q ≠ b) : mask b (upd H q o) q = some o := by
  rw [mask_ne n]
  exact upd_same
end Fm
namespace Fm
open PySem PySem.Spec PyProof.Rows L2
theorem ed_pow {i j : Int} (h : CPow i j) : Ed (tOp (rI CPow fun i j => .int (i ^ j.toNat)) (tC (.int i)) (tC (.int j))) (.int (i ^ j.toNat)) := fun _ H _ q => ⟨i, j, rfl, rfl, h, q _ _ (Same.refl H) (.int _)⟩
theorem op_or {X : Cx} {f : Value → Value → Sem Value} {r1 r2 : R2} (h1 : OpR X f r1) (h2 : OpR X f r2) : OpR X f (fun x y H Q => r1 x y H Q ∨ r2 x y H Q) := fun pins s σ H x y v u Q I rx ry h => by
  rcases h with h | h
  · exact h1 pins s σ H x y v u Q I rx ry h
  · exact h2 pins s σ H x y v u Q I rx ry h
/-- one of some written texts -/
theorem text_at {xs : List Str} {i : Int} (h0 : 0 ≤ i) (h1 : i < xs.length) : ∃ x, atI (xs.map V.str) i = some (.str x) ∧ x ∈ xs := by
  obtain ⟨k, rfl⟩ := Int.eq_ofNat_of_zero_le h0
  have lt : k < xs.length := by omega
  refine ⟨xs[k], atI_nat ?_, List.getElem_mem lt⟩
  rw [List.getElem?_map, List.getElem?_eq_getElem lt]
  rfl
mutual
def noDic : D → Bool
  | .tup ds => noDics ds
  | .lst ds => noDics ds
  | .dic => false
  | _ => true
def noDics : List D → Bool
  | [] => true
  | d :: ds => noDic d && noDics ds
end
theorem noDics_of {ds : List D} (h : ∀ d ∈ ds, noDic d = true) : noDics ds = true := by
  induction ds with
  | nil => rfl
  | cons x r ih =>
    simp only [noDics, h x List.mem_cons_self, Bool.true_and]
    exact ih fun y hy => h y (List.mem_cons_of_mem _ hy)
theorem Tm.noDic {d : D} (t : Tm d) : Fm.noDic d = true := by
  induction t with
  | int i => rfl
  | tup x ds _ ih =>
    simp only [Fm.noDic, noDics, Bool.true_and]
    exact noDics_of ih
mutual
theorem dp_of {K : PySem.W.Frag} {H : Hp} : ∀ (d : D) (v : V), Dv H v d → noDic d = true → ∃ pd, Dp K H v pd ∧ pd.canLay0 = true ∧ pd.depth ≤ d.deep + 1
  | .non, _, h, _ => by cases h; exact ⟨_, .non, rfl, by simp [PyData.depth]⟩
  | .bl _, _, h, _ => by cases h; exact ⟨_, .bl _, rfl, by simp [PyData.depth]⟩
  | .int _, _, h, _ => by cases h; exact ⟨_, .int _, rfl, by simp [PyData.depth]⟩
  | .str _, _, h, _ => by
    cases h with
    | str _ o => exact ⟨_, .str _, by simpa [PyData.canLay0] using o, by simp [PyData.depth]⟩
  | .tup ds, _, h, n => by
    cases h with
    | tup a b =>
      obtain ⟨ps, h1, h2, h3⟩ := dps_of ds _ b (by simpa [noDic] using n)
      exact ⟨_, .tup (SqT.of a) h1, by simpa [PyData.canLay0] using h2, by simp only [PyData.depth, D.deep]; omega⟩
  | .lst ds, _, h, n => by
    cases h with
    | lst a b =>
      obtain ⟨ps, h1, h2, h3⟩ := dps_of ds _ b (by simpa [noDic] using n)
      exact ⟨_, .lst (SqL.of a) h1, by simpa [PyData.canLay0] using h2, by simp only [PyData.depth, D.deep]; omega⟩
  | .dic, _, _, n => by simp [noDic] at n
theorem dps_of {K : PySem.W.Frag} {H : Hp} : ∀ (ds : List D) (vs : List V), DvL H vs ds → noDics ds = true → ∃ ps, DpAll K H vs ps ∧ PyData.canLayAll0 ps = true ∧ PyData.depthAll ps ≤ deeps ds + 1
  | [], _, h, _ => by cases h; exact ⟨[], .nil, by simp [PyData.canLayAll0], by simp [PyData.depthAll]⟩
  | d :: ds, _, h, n => by
    cases h with
    | cons a b =>
      have n' : noDic d = true ∧ noDics ds = true := by simpa [noDics] using n
      obtain ⟨p, h1, h2, h3⟩ := dp_of d _ a n'.1
      obtain ⟨ps, h4, h5, h6⟩ := dps_of ds _ b n'.2
      exact ⟨p :: ps, .cons h1 h4, by simp [PyData.canLayAll0, h2, h5], by simp only [PyData.depthAll, deeps]; omega⟩
end
def spText : Sp := fun vs H Q _ => ∃ b p, vs = [.ref b] ∧ Bag b p H ∧ ∀ x H', Go b p H H' → PyData.strOk x = true → x.length ≤ 13 → Q (.str x) H'
/-- a thing to look at -/
def spThing : Sp := fun vs H Q _ => ∃ b p nm xs, vs = [.ref b, .ref nm] ∧ Bag b p H ∧ Names nm b H xs ∧ ∀ v H' d, Go b p H H' → Dv (mask b H') v d → d.deep ≤ 50 → d.size ≤ 50000 → Q v H'
end Fm
namespace Fm
open PySem PySem.Spec PyProof.Rows L2
theorem sizes_set {ds : List D} {d : D} (n : Nat) : sizes (ds.set n d) ≤ sizes ds + d.size := by
  induction ds generalizing n with
  | nil => simp [sizes]
  | cons x r ih =>
    cases n with
    | zero => simp only [List.set_cons_zero, sizes]; omega
    | succ n => have := ih n; simp only [List.set_cons_succ, sizes]; omega
theorem deeps_set {ds : List D} {d : D} (n : Nat) : deeps (ds.set n d) ≤ max (deeps ds) d.deep := by
  induction ds generalizing n with
  | nil => simp [deeps]
  | cons x r ih =>
    cases n with
    | zero => simp only [List.set_cons_zero, deeps]; omega
    | succ n => have := ih n; simp only [List.set_cons_succ, deeps]; omega
theorem ixN_at {n k : Nat} (h : k < n) : ixN n (k : Int) = some k := by
  unfold ixN
  rw [if_pos (by omega), if_pos (by omega)]
  simp
end Fm
namespace Fm
open PySem PySem.Spec PyProof.Rows L2
/-- (v,) * k, k from 0 to 2 -/
def rRep3 : R2 := fun x y H Q => ∃ l k v, x = .ref l ∧ y = .int k ∧ H l = some (.tup [v]) ∧ 0 ≤ k ∧ k ≤ 2 ∧ ∀ r H', Same H H' → H' r = some (.tup (List.replicate k.toNat v)) → Q (.ref r) H'
theorem op_rep3 {X : Cx} : OpR X (binaryOp .Mult) rRep3 := by
  intro pins s σ H x y v u Q I rx ry h
  obtain ⟨l, k, w1, rfl, rfl, hl, k0, k2, q⟩ := h
  refine op_or op_rep1 op_repT pins s σ H _ _ v u Q I rx ry ?_
  rcases (by omega : k = 0 ∨ k = 1 ∨ k = 2) with rfl | rfl | rfl
  · exact .inl ⟨l, 0, w1, rfl, rfl, SqT.of hl, .inl rfl, fun _ p hp => q p _ (Same.new hp) upd_same, fun z => (by cases z)⟩
  · exact .inl ⟨l, 1, w1, rfl, rfl, SqT.of hl, .inr rfl, fun z => (by cases z), fun _ => q l H (Same.refl H) hl⟩
  · exact .inr ⟨l, 2, [w1], rfl, rfl, SqT.of hl, by simp, by decide, by decide, by simp, fun p hp => q p _ (Same.new hp) upd_same⟩
theorem dvl_rep {H : Hp} {v : V} {d : D} (h : Dv H v d) : ∀ n : Nat, DvL H (List.replicate n v) (List.replicate n d)
  | 0 => .nil
  | n + 1 => .cons h (dvl_rep h n)
end Fm
namespace Fm
open PySem PySem.Spec PyProof.Rows L2
theorem areTerms_set {ds : List D} {d : D} (n : Nat) (h : ∀ x ∈ ds, isTerm x = true) (lt : n < ds.length) : areTerms (ds.set n d) = isTerm d := by
  induction ds generalizing n with
  | nil => simp at lt
  | cons x r ih =>
    have hx := h x List.mem_cons_self
    have hr : areTerms r = true := by
      rw [areTerms_all]
      exact List.all_eq_true.mpr fun y hy => h y (List.mem_cons_of_mem _ hy)
    cases n with
    | zero => simp only [List.set_cons_zero, areTerms, hr, Bool.and_true]
    | succ n =>
      simp only [List.set_cons_succ, areTerms, hx, Bool.true_and]
      exact ih n (fun y hy => h y (List.mem_cons_of_mem _ hy)) (by simpa using lt)
/-- the list of bools, as data -/
def bools (bs : List Bool) : PyData := .list (bs.map .bool)
theorem dp_bools {K : PySem.W.Frag} {H : Hp} {l : Addr} {bs : List Bool} (h : H l = some (.lst (bs.map V.bl))) : Dp K H (.ref l) (bools bs) := by
  refine .lst (SqL.of h) ?_
  clear h
  induction bs with
  | nil => exact .nil
  | cons b r ih => exact .cons (.bl b) ih
def spMany : Sp := fun vs H Q _ => ∃ b p, vs = [.ref b] ∧ Bag b p H ∧ ∀ H', Q (.bl true) H'
def spLaw (K : PySem.W.Frag) : Sp := fun vs H Q _ => ∃ (a : Addr) (ns : List Int), vs = [.ref a] ∧ SqL K H a (ns.map V.int) ∧ ns.length ≤ 63 ∧ ∀ H', Q (.bl true) H'
end Fm
namespace Fm
open PySem PySem.Spec PyProof.Rows L2
theorem bools5 : ∀ b1 b2 b3 b4 b5 : Bool, SeqAt.shaped (bools [b1, b2, b3, b4, b5]) = true ∧ (bools [b1, b2, b3, b4, b5]).showable = true ∧ (bools [b1, b2, b3, b4, b5]).hasDict = false ∧ (bools [b1, b2, b3, b4, b5]).depth ≤ 60 ∧
    (bools [b1, b2, b3, b4, b5]).shown.length ≤ sizeLine := by decide +kernel
end Fm
set_option maxRecDepth 100000
set_option maxHeartbeats 2000000
/-! Fm: rules for terms as numbered nodes: setdefault with tuples as keys, t[:0:-1]. -/
namespace Fm
open PySem PySem.Spec PyProof.Rows L2
section
variable {X : Cx}
/-- d.setdefault(t, v), keys are tuples -/
def rSetdT : V → List V → Hp → VK → Prop := fun x vs H Q => ∃ (a : Addr) (kvs : List (List L2.Key × V)) (k : List L2.Key) (b : Addr) (v : V), x = .ref a ∧ vs = [.ref b, v] ∧ H a = some (.dT kvs) ∧ H b = some (.tup (k.map kV)) ∧ kvs.length < sizeLine ∧
  (∀ w, valV kvs k = some w → Q w H) ∧ (valV kvs k = none → Q v (upd H a (.dT (kvs ++ [(k, v)]))))
theorem mt_setdT (hu : X.A.units + 1 < cLine) : MtR X "dict.setdefault" rSetdT := by
  intro pins s σ H x xs v us Q I rx rxs h
  obtain ⟨a, kvs, k, b, d, rfl, rfl, ha, hb, hl, q1, q2⟩ := h
  cases rx
  obtain ⟨u1, u2, rfl, r1, r2⟩ := vals2 rxs
  cases r1
  obtain ⟨z, hd, xs', rel, dd⟩ := dt_of I.hok ha
  have hz : xs'.length ≤ sizeLine := by rw [← Paired.length rel]; exact z
  refine call_setdefault_heap (knd := tupleKind (mixKind X.prog X.w)) (tupleKind_room_in1 hu) (key_of I.hok hb) hd dd (fun p hp => ?_) (fun hn h' dd' hs => ?_) hz
  · have r := rel.val k
    rw [hp] at r
    obtain ⟨v0, ev, rv⟩ : ∃ v0, valV kvs k = some v0 ∧ RelV v0 p.2 := by
      cases ev : valV kvs k with
      | none =>
        rw [ev] at r
        exact (show False from r).elim
      | some v0 =>
        rw [ev] at r
        exact ⟨v0, rfl, r⟩
    exact ⟨v0, H, I.tok _, rv, q1 v0 ev⟩
  · have r := rel.val k
    rw [hn] at r
    have e : valV kvs k = none := by
      cases ev : valV kvs k with
      | none => rfl
      | some v0 =>
        rw [ev] at r
        exact (show False from r).elim
    obtain ⟨q, es, ep, hq, h2, h3, h4, _, h5⟩ := dd'
    have hl2 : (putK kvs k d).length ≤ sizeLine := by have := length_putK kvs k d; omega
    have I2 := d_write (t' := s.toks + (tupleKind (mixKind X.prog X.w)).draws k) (ob := .dT (putK kvs k d)) I (by rw [ha]; exact True.intro) hs ⟨q, hq⟩ ⟨hl2, hd, _, (rel.put k hb r2).keeps fun c ys ec => (by
      rw [upd_ne (ne_of ec ha (fun z => nomatch z))]
      exact ec), q, es, ep, hq, h2, h3, h4, h5⟩
    rw [putK_new d e] at I2
    exact ⟨d, _, I2, r2, q2 e⟩
end
/-! ### t[:0:-1] -/
section
variable {prog : Program} {w : World} {A : Around} {E : Value → Shared → Prop} {s : Shared}
theorem adjust_back (n : Nat) : Builtin.Slice.sliceAdjust none (some 0) (-1) (n : Int) = ((n : Int) - 1, min 0 ((n : Int) - 1)) := by
  unfold Builtin.Slice.sliceAdjust
  simp
theorem places_back {n : Nat} (h : 1 ≤ n) : Builtin.Slice.slicePlaces ((n : Int) - 1) (min 0 ((n : Int) - 1)) (-1) = n - 1 := by
  unfold Builtin.Slice.slicePlaces
  have e : min (0 : Int) ((n : Int) - 1) = 0 := by omega
  rw [e]
  simp only [show ¬ ((-1 : Int) > 0) by decide, if_false, show (-(-1) : Int) = 1 by decide, Int.ediv_one]
  split <;> omega
theorem sliceApplied_back {sl : Addr} {vu vs : Value} {n : Nat} {Q : Int × Int × Nat → Shared → Prop} (hn : 1 ≤ n) (hs : s.heap.IsSliceOf sl .none vu vs) (pu : IsPart vu (some 0)) (ps : IsPart vs (some (-1)))
    (h : Q ((n : Int) - 1, -1, n - 1) s) : wpAny (model prog w) A (Builtin.Slice.sliceApplied (.ref sl) (pure (n : Int))) Q E s := by
  obtain ⟨os, hos, hcs, hds⟩ := id hs
  unfold Builtin.Slice.sliceApplied Builtin.Slice.sliceFields
  refine wpAny_bind (wpAny_bind (wpAny_field hos hds (x := .none) rfl (wpAny_bind (wpAny_field hos hds (x := vu) rfl (wpAny_bind (wpAny_field hos hds (x := vs) rfl (wpAny_pure ?_)))))))
  refine wpAny_bind (HT.slicePart_ ps ?_)
  show wpAny _ _ (if ((-1 : Int) == 0) = true then _ else _) _ _ s
  rw [if_neg (by decide)]
  refine wpAny_bind (HT.slicePart_ .none (wpAny_bind (HT.slicePart_ pu (wpAny_bind (wpAny_pure ?_)))))
  show wpAny _ _ (match Builtin.Slice.sliceAdjust none (some 0) (-1) (n : Int) with | (lo, hi) => pure (lo, (-1 : Int), Builtin.Slice.slicePlaces lo hi (-1))) _ _ s
  rw [adjust_back n]
  show wpAny _ _ (pure ((n : Int) - 1, (-1 : Int), Builtin.Slice.slicePlaces ((n : Int) - 1) (min 0 ((n : Int) - 1)) (-1))) _ _ s
  rw [places_back hn]
  exact wpAny_pure h
theorem fm_map {α β : Type} {f : α → Option β} {g : α → β} {l : List α} (h : ∀ m ∈ l, f m = some (g m)) : l.filterMap f = l.map g := by
  induction l with
  | nil => rfl
  | cons x r ih => rw [List.filterMap_cons, h x List.mem_cons_self, ih fun m hm => h m (List.mem_cons_of_mem _ hm)]; rfl
theorem pick_back (xs : Array Value) (h : 1 ≤ xs.size) : ((List.range (xs.size - 1)).filterMap fun (m : Nat) => xs[(((xs.size : Int) - 1) + (m : Int) * (-1)).toNat]?).toArray = (xs.toList.drop 1).reverse.toArray := by
  congr 1
  apply List.ext_getElem?
  intro i
  have e : (List.range (xs.size - 1)).filterMap (fun (m : Nat) => xs[(((xs.size : Int) - 1) + (m : Int) * (-1)).toNat]?) = (List.range (xs.size - 1)).map fun m => xs[xs.size - 1 - m]! := by
    refine fm_map fun m hm => ?_
    have lm := List.mem_range.mp hm
    have e1 : (((xs.size : Int) - 1) + (m : Int) * (-1)).toNat = xs.size - 1 - m := by omega
    have lt : xs.size - 1 - m < xs.size := by omega
    rw [e1, getElem!_pos xs (xs.size - 1 - m) lt]
    exact Array.getElem?_eq_getElem lt
  rw [e, List.getElem?_map]
  have l : xs.toList.length = xs.size := Array.length_toList
  by_cases hi : i < xs.size - 1
  · have lt : xs.size - 1 - i < xs.size := by omega
    rw [List.getElem?_range hi, List.getElem?_reverse (by rw [List.length_drop]; omega), List.length_drop, List.getElem?_drop, Option.map_some, getElem!_pos xs (xs.size - 1 - i) lt]
    have e2 : 1 + (xs.toList.length - 1 - 1 - i) = xs.size - 1 - i := by omega
    rw [e2, List.getElem?_eq_getElem (by omega)]
    rfl
  · rw [List.getElem?_eq_none (by rw [List.length_range]; omega), List.getElem?_eq_none (by rw [List.length_reverse, List.length_drop]; omega)]
    rfl
theorem getItem_tuple_back {t sl : Addr} {items : Array Value} {vu vs : Value} {Q : Value → Shared → Prop} (ht : IsTup s.heap t items) (hs : s.heap.IsSliceOf sl .none vu vs) (pu : IsPart vu (some 0)) (ps : IsPart vs (some (-1))) (hn : 1 ≤ items.size)
    (h : Q (.ref s.heap.objs.size) { s with heap := s.heap.push { cls := .type "tuple", data := .seq (items.toList.drop 1).reverse.toArray } })
    (hsz : items.size ≤ sizeLine) : wpAny (model prog w) A (getItem (.ref t) (.ref sl)) Q E s := by
  have htake : sizeOk (.seq (items.toList.drop 1).reverse.toArray) := by
    show (items.toList.drop 1).reverse.toArray.size ≤ sizeLine
    rw [List.size_toArray, List.length_reverse, List.length_drop, Array.length_toList]
    omega
  obtain ⟨os, hos, hcs, hds⟩ := id hs
  have hTs : s.TypeIs (.ref sl) "slice" := ⟨os, hos, hcs⟩
  unfold getItem
  try with_reducible refine wpAny_holding ?_
  first | refine wpAny_bind (wpAny_pure ?_) | skip
  refine wpAny_bind (wpAny_sequenceKey ht.typeIs (by decide) ?_)
  refine wpAny_bind (wpAny_callSpecial?_slot (name := Str.ofString "__getitem__") ht.typeIs PyProof.Rows.slot_tuple_getitem
    (wpAny_call_entry PyProof.Rows.slot_tuple_getitem ht.typeIs entry_tuple_getitem ?_ (args_tuple_getitem _ _)))
  show wpAny _ _ (Builtin.Tuple.tupleItemsOf (.ref t) >>= _) _ _ s
  refine wpAny_bind (tupleItemsOf_ ht ?_)
  refine wpAny_bind (wpAny_typeOf hTs ?_)
  rw [if_pos (by decide)]
  refine wpAny_bind (sliceApplied_back hn hs pu ps ?_)
  have hno : ¬ ((((items.size : Int) - 1) == 0 && (-1 : Int) == 1 && (items.size - 1) == items.size) = true) := by
    intro q
    rw [Bool.and_eq_true, Bool.and_eq_true] at q
    exact absurd q.1.2 (by decide)
  show wpAny _ _ (if (((items.size : Int) - 1) == 0 && (-1 : Int) == 1 && (items.size - 1) == items.size) = true then _ else _) _ _ s
  rw [if_neg hno, pick_back items hn]
  first
    | exact wpAny_bind (m := Builtin.Tuple.tupleExact _) (wpAny_newObj_type (wpAny_pure ⟨_, rfl, wpAny_pure h⟩) htake)
    | exact wpAny_bind (m := Builtin.Tuple.tupleExact _) (wpAny_newObj_type (wpAny_bind (wpAny_pure (wpAny_pure ⟨_, rfl, wpAny_pure h⟩))) htake)
    | exact wpAny_bind (wpAny_bind (m := Builtin.Tuple.tupleExact _) (wpAny_newObj_type (wpAny_pure (wpAny_pure ⟨_, rfl, wpAny_pure h⟩)) htake))
    | exact wpAny_bind (wpAny_bind (m := Builtin.Tuple.tupleExact _) (wpAny_newObj_type (wpAny_pure ⟨_, rfl, wpAny_pure h⟩) htake))
end
/-- t[:0:-1] -/
def tBack (K : PySem.W.Frag) (te : TE) : TE := fun σ H Q => te σ H fun x H1 => ∃ a xs, x = .ref a ∧ SqT K H1 a xs ∧ 1 ≤ xs.length ∧ ∀ p, H1 p = none → Q (.ref p) (upd H1 p (.tup (xs.drop 1).reverse))
theorem pe_back {X : Cx} {e : Expr} {te : TE} {k k0 : Nat} {p0 p1 p2 p3 pos : Pos} (he : PE X e te) : PE X (.Subscript e (.Slice none (some (.Constant (.int 0) k0 p0)) (some (.UnaryOp .USub (.Constant (.int 1) k p1) p2)) p3) pos) (tBack X.K te) := by
  refine ⟨fun pins s σ H Q I h => ?_⟩
  refine Subscript_ (thn (he.run pins s σ H _ I h) fun v s1 ⟨x, H1, I1, r1, q1⟩ => ?_)
  obtain ⟨a, xs, ex, hx, hn, q⟩ := q1
  subst ex
  cases r1
  have hup : PO X (some (.Constant (.int 0) k0 p0)) (tPart (tC (.int 0))) := po_some pe_int
  have hst : PO X (some (.UnaryOp .USub (.Constant (.int 1) k p1) p2)) (tPart (tUn (rU fun i => .int (-i)) (tC (.int 1)))) := po_some (pe_un un_neg pe_int)
  refine wpAny_Slice (thn (po_none.run pins s1 σ H1 (fun o H2 => o = none ∧ H2 = H1) I1 ⟨rfl, rfl⟩) fun vl s2 ⟨l, H2, I2, pl, el, e2⟩ => ?_)
  subst el e2
  refine thn (hup.run pins s2 σ H2 (fun o H3 => o = some 0 ∧ H3 = H2) I2 ⟨0, rfl, rfl, rfl⟩) fun vu s3 ⟨u, H3, I3, pu, eu, e3⟩ => ?_
  subst eu e3
  refine thn (hst.run pins s3 σ H3 (fun o H4 => o = some (-1) ∧ H4 = H3) I3 ⟨1, rfl, -1, rfl, rfl, rfl⟩) fun vs s4 ⟨o, H4, I4, ps, eo, e4⟩ => ?_
  subst eo e4
  cases pl
  have I5 : Inv X pins σ H4 { s4 with heap := s4.heap.push { cls := .type "slice", data := .fields #[.none, vu, vs] } } := I4.kept (t' := s4.toks) fun b ob q => Heap.get?_push_of_some _ q
  obtain ⟨its, r, ht, hz⟩ := I5.tuple hx
  have hlen := r.length
  show wpAny (model X.prog X.w) X.A (subscriptTail e (.Slice none (some (.Constant (.int 0) k0 p0)) (some (.UnaryOp .USub (.Constant (.int 1) k p1) p2)) p3) (.ref a) (.ref s4.heap.objs.size)) (EP X pins σ Q) X.xe { s4 with heap := s4.heap.push { cls := .type "slice", data := .fields #[.none, vu, vs] } }
  refine tail_any (ops := [.ref a, .ref s4.heap.objs.size]) ht.typeIs (PyProof.Rows.slot_tuple_getitem.lookup) ?_ (by with_unfolding_all rfl)
  refine getItem_tuple_back ht (Heap.IsSliceOf.new _ .none vu vs) pu ps (by rw [List.size_toArray]; omega) ?_ (by rw [List.size_toArray]; omega)
  refine ⟨.ref _, _, I5.laid (t' := s4.toks) (o := .tup (xs.drop 1).reverse) (fun b ob q => Heap.get?_push_of_some _ q) (Nat.le_refl _) ?_, rfl, q _ (I5.hok.fresh (Nat.le_refl _))⟩
  exact ⟨by rw [List.length_reverse, List.length_drop]; omega, _, (r.drop 1).reverse, IsTup.new _ _⟩
end Fm
set_option maxRecDepth 100000
set_option maxHeartbeats 2000000
/-! Fm: terms and what is in them, as trees. -/
namespace Fm
open PySem PySem.Spec PyProof.Rows L2
mutual
/-- a term and each part in it, from left to right -/
def flat : D → List D
  | .tup ds => .tup ds :: flatT ds
  | d => [d]
def flatT : List D → List D
  | [] => []
  | _ :: r => flats r
def flats : List D → List D
  | [] => []
  | d :: r => flat d ++ flats r
end
theorem flats_app (a b : List D) : flats (a ++ b) = flats a ++ flats b := by
  induction a with
  | nil => simp [flats]
  | cons x r ih => simp only [List.cons_append, flats, ih, List.append_assoc]
mutual
theorem flat_len : ∀ d : D, (flat d).length ≤ d.size
  | .non => by simp [flat, D.size]
  | .bl _ => by simp [flat, D.size]
  | .int _ => by simp [flat, D.size]
  | .str _ => by simp [flat, D.size]
  | .dic => by simp [flat, D.size]
  | .lst _ => by simp [flat, D.size]
  | .tup ds => by
    have := flatT_len ds
    simp only [flat, D.size, List.length_cons]
    omega
theorem flatT_len : ∀ ds : List D, (flatT ds).length ≤ sizes ds
  | [] => by simp [flatT]
  | x :: r => by
    have := flats_len r
    simp only [flatT, sizes]
    omega
theorem flats_len : ∀ ds : List D, (flats ds).length ≤ sizes ds
  | [] => by simp [flats]
  | x :: r => by
    have h1 := flat_len x
    have h2 := flats_len r
    simp only [flats, sizes, List.length_append]
    omega
end
theorem DvL.rev {H : Hp} {vs : List V} {ds : List D} (h : DvL H vs ds) : DvL H vs.reverse ds.reverse := by
  induction vs generalizing ds with
  | nil => cases h; exact .nil
  | cons v r ih =>
    cases h with
    | cons a b =>
      rw [List.reverse_cons, List.reverse_cons]
      exact (ih b).app (.cons a .nil)
theorem sizes_rev (ds : List D) : sizes ds.reverse = sizes ds := by
  induction ds with
  | nil => rfl
  | cons x r ih => rw [List.reverse_cons, sizes_app, ih]; simp only [sizes]; omega
theorem hu1 {k : Nat} {A : Around} (hr : Room k A) : A.units + 1 < cLine := by have := hr.units; omega
theorem hu0 {k : Nat} {A : Around} (hr : Room k A) : A.units < cLine := by have := hr.units; omega
/-- laid_out: what is told stands where the terms stand -/
def spLaid (K : PySem.W.Frag) : Sp := fun vs H Q _ => ∃ Hb a us ds, vs = [.ref a] ∧ Same Hb H ∧ (SqL K H a us ∨ SqT K H a us) ∧ DvL Hb us ds ∧ (∀ d ∈ ds, Tm d) ∧ sizes ds ≤ 100000 ∧
  ∀ l H' ws, Same H H' → H l = none → H' l = some (.lst ws) → DvL Hb ws (flats ds) → Q (.ref l) H'

/-! ### nodes -/
def parts : D → List D
  | .tup (_ :: r) => r
  | _ => []
theorem flat_eq (d : D) : flat d = d :: flats (parts d) := by
  cases d with
  | tup ds => cases ds <;> simp [flat, flatT, parts, flats]
  | _ => simp [flat, parts, flats]
theorem flats_cons (d : D) (ds : List D) : flats (d :: ds) = d :: flats (parts d ++ ds) := by
  rw [flats_app]
  simp only [flats, flat_eq d, List.cons_append]
theorem flats_split {t : D} {suf : List D} : ∀ {pre ds : List D}, flats ds = pre ++ t :: suf → ∃ rest, suf = flats (parts t ++ rest)
  | [], [], h => by simp [flats] at h
  | [], d :: r, h => by
    rw [flats_cons, List.nil_append] at h
    injection h with h1 h2
    subst h1
    exact ⟨r, h2.symm⟩
  | p :: pre, [], h => by simp [flats] at h
  | p :: pre, d :: r, h => by
    rw [flats_cons, List.cons_append] at h
    injection h with h1 h2
    exact flats_split h2
theorem flats_inj : ∀ {es fs : List D}, flats es = flats fs → es = fs
  | [], [], _ => rfl
  | [], f :: fs, h => by rw [flats_cons] at h; simp [flats] at h
  | e :: es, [], h => by rw [flats_cons] at h; simp [flats] at h
  | e :: es, f :: fs, h => by
    rw [flats_cons, flats_cons] at h
    injection h with h1 h2
    subst h1
    rw [flats_app, flats_app] at h2
    rw [flats_inj (List.append_cancel_left h2)]
/-- the terms at these places -/
inductive Ats (ts : List D) : List Nat → List D → Prop
  | nil : Ats ts [] []
  | cons {j : Nat} {d : D} {js : List Nat} {ds : List D} : ts[j]? = some d → Ats ts js ds → Ats ts (j :: js) (d :: ds)
theorem Ats.len {ts : List D} {js : List Nat} {ds : List D} (h : Ats ts js ds) : js.length = ds.length := by
  induction h with
  | nil => rfl
  | cons _ _ ih => simp [ih]
theorem Ats.app {ts : List D} {js ks : List Nat} {ds es : List D} (h : Ats ts js ds) (g : Ats ts ks es) : Ats ts (js ++ ks) (ds ++ es) := by
  induction h with
  | nil => exact g
  | cons a _ ih => exact .cons a ih
theorem Ats.mono {ts us : List D} {js : List Nat} {ds : List D} (h : Ats ts js ds) (k : ∀ (j : Nat) (d : D), ts[j]? = some d → us[j]? = some d) : Ats us js ds := by
  induction h with
  | nil => exact .nil
  | cons a _ ih => exact .cons (k _ _ a) ih
theorem Ats.split {ts : List D} {js : List Nat} {ds es : List D} (h : Ats ts js (ds ++ es)) : Ats ts (js.take ds.length) ds ∧ Ats ts (js.drop ds.length) es := by
  induction ds generalizing js with
  | nil => exact ⟨.nil, h⟩
  | cons d r ih =>
    cases h with
    | cons a b => exact ⟨.cons a (ih b).1, (ih b).2⟩
theorem Ats.same {ts us : List D} {js : List Nat} {ds es : List D} (h : Ats ts js ds) (g : Ats us js es) (k : ∀ (j : Nat) (d : D), ts[j]? = some d → us[j]? = some d) : ds = es := by
  induction h generalizing es with
  | nil => cases g; rfl
  | cons a _ ih =>
    cases g with
    | cons b c =>
      rw [k _ _ a] at b
      injection b with b
      rw [b, ih c]
theorem Ats.inj {ts : List D} (nd : ts.Nodup) {js ks : List Nat} {ds : List D} (h : Ats ts js ds) (g : Ats ts ks ds) : js = ks := by
  induction h generalizing ks with
  | nil => cases g; rfl
  | cons a _ ih =>
    cases g with
    | cons b c =>
      rw [(List.getElem?_inj (List.getElem?_eq_some_iff.mp a).1 nd).mp (a.trans b.symm), ih c]
theorem Ats.get {ts : List D} {js : List Nat} {ds : List D} (h : Ats ts js ds) {i j : Nat} (e : js[i]? = some j) : ∃ d, ds[i]? = some d ∧ ts[j]? = some d := by
  induction h generalizing i with
  | nil => simp at e
  | cons a _ ih =>
    cases i with
    | zero => simp at e; subst e; exact ⟨_, rfl, a⟩
    | succ i =>
      obtain ⟨d, h1, h2⟩ := ih (i := i) (by simpa using e)
      exact ⟨d, by simpa using h1, h2⟩
def kI (j : Nat) : L2.Key := .inl (j : Int)
/-- the key of a term's node -/
inductive KeyOf (ts : List D) : List L2.Key → D → Prop
  | int (u : Int) : KeyOf ts [.inl u] (.int u)
  | tup (x : Str) (js : List Nat) (ds : List D) : PyData.strOk x = true → ds.length ≤ 100000 → Ats ts js ds → KeyOf ts (.inr x :: js.map kI) (.tup (.str x :: ds))
theorem keys_inj {js ks : List Nat} (h : js.map kI = ks.map kI) : js = ks := by
  refine (List.map_inj_right (f := kI) ?_).mp h
  intro a b e
  have := Sum.inl.inj e
  omega
theorem KeyOf.mono {ts us : List D} {k : List L2.Key} {d : D} (h : KeyOf ts k d) (m : ∀ (j : Nat) (d : D), ts[j]? = some d → us[j]? = some d) : KeyOf us k d := by
  cases h with
  | int u => exact .int u
  | tup x js ds o z a => exact .tup x js ds o z (a.mono m)
theorem KeyOf.fn {ts : List D} {k : List L2.Key} {d e : D} (h : KeyOf ts k d) (g : KeyOf ts k e) : d = e := by
  cases h with
  | int u => cases g; rfl
  | tup x js ds _ _ a =>
    generalize hk : ((Sum.inr x : L2.Key) :: js.map kI) = k' at g
    cases g with
    | int u => simp at hk
    | tup y ks es _ _ b =>
      injection hk with h1 h2
      injection h1 with h1
      have h3 := keys_inj h2
      subst h1 h3
      rw [a.same b (fun _ _ e => e)]
theorem KeyOf.inj {ts : List D} (nd : ts.Nodup) {k l : List L2.Key} {d : D} (h : KeyOf ts k d) (g : KeyOf ts l d) : k = l := by
  cases h with
  | int u => cases g; rfl
  | tup x js ds _ _ a =>
    cases g with
    | tup _ ks _ _ _ b => rw [a.inj nd b]
theorem take_get {ts : List D} {n j : Nat} {d : D} (h : (ts.take n)[j]? = some d) : ts[j]? = some d := by
  rw [List.getElem?_take] at h
  split at h
  · exact h
  · cases h
theorem app_get {ts us : List D} {j : Nat} {d : D} (h : ts[j]? = some d) : (ts ++ us)[j]? = some d := by
  rw [List.getElem?_append_left (List.getElem?_eq_some_iff.mp h).1]
  exact h
/-- a dict's entries are the nodes of these terms -/
structure NodesK (kvs : List (List L2.Key × V)) (ts : List D) : Prop where
  len : kvs.length = ts.length
  val : ∀ (n : Nat) (k : List L2.Key) (v : V), kvs[n]? = some (k, v) → v = .int (n : Int)
  key : ∀ (n : Nat) (k : List L2.Key) (v : V) (d : D), kvs[n]? = some (k, v) → ts[n]? = some d → KeyOf (ts.take n) k d
  nd : ts.Nodup
theorem valV_at {kvs : List (List L2.Key × V)} {k : List L2.Key} {v : V} (h : valV kvs k = some v) : ∃ n : Nat, kvs[n]? = some (k, v) := by
  unfold valV at h
  obtain ⟨⟨k', v'⟩, h1, h2⟩ := Option.map_eq_some_iff.mp h
  have h3 := List.find?_some h1
  simp only [decide_eq_true_eq] at h3 h2
  subst h3 h2
  exact List.mem_iff_getElem?.mp (List.mem_of_find?_eq_some h1)
theorem valV_none {kvs : List (List L2.Key × V)} {k : List L2.Key} (h : valV kvs k = none) {n : Nat} {v : V} : kvs[n]? ≠ some (k, v) := by
  intro e
  unfold valV at h
  rw [Option.map_eq_none_iff, List.find?_eq_none] at h
  have := h _ (List.mem_of_getElem? e)
  simp at this
theorem NodesK.nil : NodesK [] [] := ⟨rfl, fun _ _ _ h => by simp at h, fun _ _ _ _ h => by simp at h, List.nodup_nil⟩
theorem NodesK.old {kvs : List (List L2.Key × V)} {ts : List D} {k : List L2.Key} {v : V} {d : D} (N : NodesK kvs ts) (g : KeyOf ts k d) (h : valV kvs k = some v) : ∃ n : Nat, v = .int (n : Int) ∧ ts[n]? = some d := by
  obtain ⟨n, e⟩ := valV_at h
  have lt : n < ts.length := by
    have := (List.getElem?_eq_some_iff.mp e).1
    rw [N.len] at this
    exact this
  refine ⟨n, N.val _ _ _ e, ?_⟩
  have e2 : ts[n]? = some ts[n] := List.getElem?_eq_getElem lt
  have := (N.key _ _ _ _ e e2).mono (fun _ _ => take_get)
  rw [g.fn this]
  exact e2
theorem NodesK.new {kvs : List (List L2.Key × V)} {ts : List D} {k : List L2.Key} {d : D} (N : NodesK kvs ts) (g : KeyOf ts k d) (h : valV kvs k = none) : NodesK (kvs ++ [(k, .int (kvs.length : Int))]) (ts ++ [d]) := by
  have hd : d ∉ ts := by
    intro hm
    obtain ⟨n, e⟩ := List.mem_iff_getElem?.mp hm
    have lt : n < kvs.length := by
      rw [N.len]
      exact (List.getElem?_eq_some_iff.mp e).1
    have e2 : kvs[n]? = some (kvs[n].1, kvs[n].2) := List.getElem?_eq_getElem lt
    have g2 := (N.key _ _ _ _ e2 e).mono (fun _ _ => take_get)
    rw [g.inj N.nd g2] at h
    exact valV_none h e2
  refine ⟨by simp [N.len], ?_, ?_, ?_⟩
  · intro n k' v e
    by_cases lt : n < kvs.length
    · rw [List.getElem?_append_left lt] at e
      exact N.val _ _ _ e
    · rw [List.getElem?_append_right (by omega)] at e
      have : n - kvs.length = 0 := by
        have := (List.getElem?_eq_some_iff.mp e).1
        simp at this
        omega
      rw [this] at e
      simp at e
      rw [← e.2, show n = kvs.length by omega]
  · intro n k' v d' e f
    by_cases lt : n < kvs.length
    · rw [List.getElem?_append_left lt] at e
      rw [List.getElem?_append_left (by rw [← N.len]; exact lt)] at f
      rw [List.take_append_of_le_length (by rw [← N.len]; omega)]
      exact N.key _ _ _ _ e f
    · rw [List.getElem?_append_right (by omega)] at e
      rw [List.getElem?_append_right (by rw [← N.len]; omega)] at f
      have z : n - kvs.length = 0 := by
        have := (List.getElem?_eq_some_iff.mp e).1
        simp at this
        omega
      have z2 : n - ts.length = 0 := by rw [← N.len]; exact z
      rw [z] at e
      rw [z2] at f
      simp at e f
      rw [← e.1, ← f, show n = ts.length by rw [← N.len]; omega, List.take_left]
      exact g
  · rw [List.nodup_append]
    refine ⟨N.nd, by simp, ?_⟩
    intro a ha b hb
    simp at hb
    subst hb
    rintro rfl
    exact hd ha
/-- these tuples are the nodes of these terms -/
structure Nodes (H : Hp) (bs : List Addr) (ts : List D) : Prop where
  len : bs.length = ts.length
  node : ∀ (n : Nat) (b : Addr) (d : D), bs[n]? = some b → ts[n]? = some d → ∃ k, H b = some (.tup (k.map kV)) ∧ KeyOf (ts.take n) k d
  nd : ts.Nodup
theorem Nodes.same {H H' : Hp} {bs : List Addr} {ts : List D} (N : Nodes H bs ts) (k : Same H H') : Nodes H' bs ts :=
  ⟨N.len, fun n b d e f => let ⟨c, h1, h2⟩ := N.node n b d e f; ⟨c, k _ _ h1, h2⟩, N.nd⟩
theorem paired_get {α β : Type} {R : α → β → Prop} : ∀ {xs : List α} {ys : List β}, Paired R xs ys → ∀ (n : Nat) (y : β), ys[n]? = some y → ∃ x, xs[n]? = some x ∧ R x y
  | _, _, .nil, n, y, h => by simp at h
  | _, _, .cons a b, 0, y, h => by simp at h; subst h; exact ⟨_, rfl, a⟩
  | _, _, .cons a b, n + 1, y, h => by
    obtain ⟨x, h1, h2⟩ := paired_get b n y (by simpa using h)
    exact ⟨x, by simpa using h1, h2⟩
theorem NodesK.nodes {H : Hp} {kvs : List (List L2.Key × V)} {ts : List D} {bs : List Addr} (N : NodesK kvs ts) (h : IsKeys H kvs bs) : Nodes H bs ts := by
  refine ⟨by rw [← Paired.length h, N.len], fun n b d e f => ?_, N.nd⟩
  obtain ⟨⟨k, v⟩, h1, h2⟩ := paired_get h n b e
  exact ⟨k, h2, N.key _ _ _ _ h1 f⟩
theorem len_flats (ds : List D) : ds.length ≤ (flats ds).length := by
  induction ds with
  | nil => simp
  | cons d r ih =>
    rw [flats_cons, List.length_cons, List.length_cons, flats_app, List.length_append]
    omega
theorem flats_tm_go : ∀ (n : Nat) (ds : List D), (flats ds).length ≤ n → (∀ d ∈ ds, Tm d) → ∀ d ∈ flats ds, Tm d
  | _, [], _, _, d, h => by simp [flats] at h
  | 0, d :: r, hn, _, _, _ => by rw [flats_cons] at hn; simp at hn
  | n + 1, d :: r, hn, hm, e, he => by
    rw [flats_cons] at hn he
    rw [List.length_cons] at hn
    rcases List.mem_cons.mp he with rfl | he
    · exact hm _ List.mem_cons_self
    · refine flats_tm_go n _ (by omega) (fun f hf => ?_) e he
      rcases List.mem_append.mp hf with h | h
      · have := hm d List.mem_cons_self
        cases this with
        | int i => simp [parts] at h
        | tup x rs hr => exact hr f h
      · exact hm f (List.mem_cons_of_mem _ h)
theorem flats_tm {ds : List D} (h : ∀ d ∈ ds, Tm d) : ∀ d ∈ flats ds, Tm d := flats_tm_go _ ds (Nat.le_refl _) h
def vI (j : Nat) : V := .int (j : Int)
theorem pop_rev {js : List Nat} {j : Nat} (h : j < js.length) : ((js.drop j).reverse.map vI)[((js.drop j).reverse.map vI).length - 1]? = some (vI js[j]) ∧ ((js.drop j).reverse.map vI).dropLast = (js.drop (j + 1)).reverse.map vI := by
  rw [List.drop_eq_getElem_cons h, List.reverse_cons, List.map_append, List.map_singleton]
  refine ⟨?_, List.dropLast_concat⟩
  rw [List.length_append, List.length_singleton, Nat.add_sub_cancel, List.getElem?_append_right (Nat.le_refl _), Nat.sub_self]
  rfl
theorem kV_kI (js : List Nat) : (js.map kI).map kV = js.map vI := by
  rw [List.map_map]
  rfl
/-- shared -/
def spShared (K : PySem.W.Frag) : Sp := fun vs H Q _ => ∃ a us ds, vs = [.ref a] ∧ (SqL K H a us ∨ SqT K H a us) ∧ DvL H us ds ∧ (∀ d ∈ ds, Tm d) ∧ sizes ds ≤ 100000 ∧
  ∀ (p l1 l2 : Addr) (H' : Hp) (bs : List Addr) (ts : List D) (js : List Nat), Same H H' → H' p = some (.tup [.ref l1, .ref l2]) → H' l1 = some (.lst (bs.map V.ref)) → H' l2 = some (.lst (js.map vI)) → Nodes H' bs ts → Ats ts js ds → ts.length ≤ 100000 → (∀ t ∈ ts, t ∈ flats ds) → js.length ≤ 100000 → Q (.ref p) H'

/-! ### values put in -/
mutual
/-- the term in which each unknown is replaced -/
def putD (f : Int → D) : D → D
  | .int u => f u
  | .tup ds => .tup (putT f ds)
  | d => d
def putT (f : Int → D) : List D → List D
  | [] => []
  | x :: r => x :: puts f r
def puts (f : Int → D) : List D → List D
  | [] => []
  | d :: r => putD f d :: puts f r
end
theorem puts_map (f : Int → D) (ds : List D) : puts f ds = ds.map (putD f) := by
  induction ds with
  | nil => rfl
  | cons d r ih => rw [List.map_cons, puts, ih]
/-- values[u] -/
def Look (K : PySem.W.Frag) (H : Hp) (va : V) (u : Int) (v : V) : Prop := (∃ a xs, va = .ref a ∧ (SqL K H a xs ∨ SqT K H a xs) ∧ atI xs u = some v) ∨ ∃ a kvs, va = .ref a ∧ H a = some (.dK kvs) ∧ valV kvs (.inl u) = some v
theorem Look.same {K : PySem.W.Frag} {H H' : Hp} {va v : V} {u : Int} (h : Look K H va u v) (k : Same H H') : Look K H' va u v := by
  rcases h with ⟨a, xs, e, s, g⟩ | ⟨a, kvs, e, s, g⟩
  · exact .inl ⟨a, xs, e, s.imp (Evl.ex_l k) (Evl.ex_t k), g⟩
  · exact .inr ⟨a, kvs, e, k _ _ s, g⟩
section
variable {X : Cx} {e : Expr}
theorem pe_alt {t1 t2 : TE} (h1 : PE X e t1) (h2 : PE X e t2) : PE X e (fun σ H Q => t1 σ H Q ∨ t2 σ H Q) :=
  ⟨fun pins s σ H Q I h => h.elim (h1.run pins s σ H Q I) (h2.run pins s σ H Q I)⟩
end
theorem mon_ixT {K : PySem.W.Frag} {i : Nat} {y : V} : MonE (tOp (rIxT K) (tVar i) (tC y)) := by
  rintro σ H Q Q' k ⟨v, e, p, xs, j, z, h1, h2, h3, h4, q⟩
  exact ⟨v, e, p, xs, j, z, h1, h2, h3, h4, k _ _ q⟩
theorem DvL.map {H : Hp} {α : Type} {f : α → V} {g : α → D} : ∀ {as : List α}, (∀ a ∈ as, Dv H (f a) (g a)) → DvL H (as.map f) (as.map g)
  | [], _ => .nil
  | a :: r, h => .cons (h a List.mem_cons_self) (DvL.map fun b hb => h b (List.mem_cons_of_mem _ hb))
theorem DvL.snoc {H : Hp} {vs : List V} {ds : List D} {v : V} {d : D} (h : DvL H vs ds) (g : Dv H v d) : DvL H (vs ++ [v]) (ds ++ [d]) := h.app (.cons g .nil)
theorem dvl_ints {H : Hp} (js : List Nat) : DvL H (js.map vI) (js.map fun j : Nat => D.int (j : Int)) := DvL.map fun _ _ => .int _
/-- what is made of the terms at these places -/
def atV (mv : List V) : D → V
  | .int j => mv.getD j.toNat .non
  | _ => .non
theorem atV_get {mv : List V} {j : Nat} (h : j < mv.length) : mv[j]? = some (atV mv (.int (j : Int))) := by
  show mv[j]? = some (mv.getD (j : Int).toNat .non)
  rw [Int.toNat_natCast, List.getD_eq_getElem?_getD, List.getElem?_eq_getElem h]
  rfl
theorem made_parts {H : Hp} {ts : List D} {i : Nat} {f : Int → D} {mv : List V} (hm : DvL H mv ((ts.take i).map (putD f))) {js : List Nat} {ds : List D} (h : Ats (ts.take i) js ds) :
    DvL H ((js.map fun j : Nat => D.int (j : Int)).map (atV mv)) (puts f ds) := by
  induction h with
  | nil => exact .nil
  | @cons j d js ds a _ ih =>
    have e : ((ts.take i).map (putD f))[j]? = some (putD f d) := by rw [List.getElem?_map, a]; rfl
    obtain ⟨v, e1, e2⟩ := hm.getD e
    have lt := (List.getElem?_eq_some_iff.mp e1).1
    have e3 := atV_get lt
    rw [e1] at e3
    injection e3 with e3
    refine .cons ?_ ih
    show Dv H (atV mv (.int (j : Int))) (putD f d)
    rw [← e3]
    exact e2
/-- filled -/
def spFilled (K : PySem.W.Frag) : Sp := fun vs H Q _ => ∃ (l : Addr) (va : V) (bs : List Addr) (ts : List D) (f : Int → D), vs = [.ref l, va] ∧ H l = some (.lst (bs.map V.ref)) ∧ Nodes H bs ts ∧ ts.length ≤ 100000 ∧
  (∀ u, D.int u ∈ ts → ∃ v, Look K H va u v ∧ Dv H v (f u)) ∧ ∀ (m : Addr) (H' : Hp) (ws : List V), Same H H' → H' m = some (.lst ws) → DvL H' ws (ts.map (putD f)) → Q (.ref m) H'
theorem same_mask {H H' : Hp} {m : Addr} (k : Same H H') (h : H m = none) : Same H (mask m H') := fun a o e => by
  rw [mask_ne (ne_of_none e h)]
  exact k _ _ e
theorem mask_same2 {H H' : Hp} {m : Addr} (k : Same H H') : Same (mask m H) (mask m H') := fun a o e => by
  by_cases z : a = m
  · rw [z] at e
    simp [mask] at e
  · rw [mask_ne z] at e ⊢
    exact k _ _ e
theorem ats_sub {ts : List D} {js : List Nat} {ds : List D} (h : Ats ts js ds) : ∀ j ∈ js, j < ts.length := by
  induction h with
  | nil => exact fun _ h => by cases h
  | cons a _ ih =>
    intro j hj
    rcases List.mem_cons.mp hj with rfl | hj
    · exact (List.getElem?_eq_some_iff.mp a).1
    · exact ih j hj
/-- put_all -/
def spPutAll (K : PySem.W.Frag) : Sp := fun vs H Q _ => ∃ (a : Addr) (va : V) (us : List V) (ds : List D) (f : Int → D), vs = [.ref a, va] ∧ (SqL K H a us ∨ SqT K H a us) ∧ DvL H us ds ∧ (∀ d ∈ ds, Tm d) ∧ sizes ds ≤ 100000 ∧
  (∀ u, D.int u ∈ flats ds → ∃ v, Look K H va u v ∧ Dv H v (f u)) ∧ ∀ (m : Addr) (H' : Hp) (ws : List V), Same H H' → H m = none → H' m = some (.lst ws) → DvL (mask m H') ws (puts f ds) → Q (.ref m) H'
/-- put -/
def spPut (K : PySem.W.Frag) : Sp := fun vs H Q _ => ∃ (v va : V) (d : D) (f : Int → D), vs = [v, va] ∧ Dv H v d ∧ Tm d ∧ d.size ≤ 100000 ∧
  (∀ u, D.int u ∈ flat d → ∃ v, Look K H va u v ∧ Dv H v (f u)) ∧ ∀ (v' : V) (H' : Hp), Same H H' → Dv H' v' (putD f d) → Q v' H'
/-- how many operations -/
def opsOf (ds : List D) : Nat := ((flats ds).filter isT).length
def spSize (K : PySem.W.Frag) : Sp := fun vs H Q _ => ∃ a us ds, vs = [.ref a] ∧ (SqL K H a us ∨ SqT K H a us) ∧ DvL H us ds ∧ (∀ d ∈ ds, Tm d) ∧ sizes ds ≤ 100000 ∧ ∀ H', Same H H' → Q (.int (opsOf ds : Nat)) H'
def atVV (mv : List V) : V → V
  | .int j => mv.getD j.toNat .non
  | _ => .non
theorem atVV_map (mv : List V) (js : List Nat) : (js.map vI).map (atVV mv) = (js.map fun j : Nat => D.int (j : Int)).map (atV mv) := by
  rw [List.map_map, List.map_map]
  rfl
theorem atVV_get {mv : List V} {j : Nat} (h : j < mv.length) : mv[j]? = some (atVV mv (vI j)) := atV_get h
/-- [x for x in xs if keep(x)] over a list of data -/
theorem lc_keep {K : PySem.W.Frag} {te : TE} {tt : TT} {σ : L2.St} {H Hb : Hp} {a : Addr} {xs : List V} {ds : List D} {j : Nat} {vs : List Nat} {Dl : Addr} {Qd : Hp → Prop} (keep : D → Bool) (hT : SqL K H a xs) (hd : DvL Hb xs ds) (hD : H Dl = none) (hz : xs.length ≤ 100000)
    (hw : ∀ x, wipe ((wipe σ vs).set j (some x)) vs = wipe σ vs)
    (he : ∀ (x : V) (d : D) (H' : Hp) (R : Bool → Hp → Prop), Same H H' → d ∈ ds → Dv Hb x d → R (keep d) H' → tt ((wipe σ vs).set j (some x)) H' R)
    (hv : ∀ (x : V) (H' : Hp) (R : VK), R x H' → te ((wipe σ vs).set j (some x)) H' R)
    (q : ∀ H' zs, Same H H' → H' Dl = some (.lst zs) → DvL Hb zs (ds.filter keep) → Qd H') :
    ∃ W : Nat → Nat → Hp → Prop, (∃ m, W 0 m (upd H Dl (.lst []))) ∧ ∀ i m H, W i m H → ((Itl K a).stop i H ∧ Qd H) ∨ ((Itl K a).go i H ∧ ∃ Nx : Hp → Prop, (∀ H', Nx H' → ∃ m', m' < m ∧ W (i + 1) m' H') ∧
      ∀ x H', (Itl K a).yld i H x H' → gName j x (wipe σ vs) H' fun σ2 H2 => wipe σ2 vs = wipe σ vs ∧ tt σ2 H2 fun b H3 => if b = true then te σ2 H3 fun y H4 => ∃ acc, H4 Dl = some (.lst acc) ∧ acc.length < sizeLine ∧ Nx (upd H4 Dl (.lst (acc ++ [y]))) else Nx H3) := by
  have hlen := hd.len
  refine lc_list (fun i H' => Same H H' ∧ ∃ zs, H' Dl = some (.lst zs) ∧ DvL Hb zs ((ds.take i).filter keep)) ⟨Same.new hD, [], upd_same, .nil⟩ (fun i H' _ h => Evl.ex_l h.1 hT) ?_ ?_
  · rintro i x H1 hx ⟨k, zs, hl, hz2⟩
    obtain ⟨d, e1, hd1⟩ := hd.get hx
    have zl := hz2.len
    have zl2 := List.length_filter_le keep (ds.take i)
    rw [List.length_take] at zl2
    refine ⟨hw _, he x d _ _ k (tk e1) hd1 (ite_b (fun c => ?_) (fun c => ?_))⟩
    · refine hv x H1 _ ⟨zs, hl, szl (by omega), Same.upd k hD, zs ++ [x], upd_same, ?_⟩
      rw [take_succ' e1, List.filter_append, List.filter_cons, if_pos c, List.filter_nil]
      exact hz2.snoc hd1
    · refine ⟨k, zs, hl, ?_⟩
      rw [take_succ' e1, List.filter_append, List.filter_cons, if_neg (by rw [c]; decide), List.filter_nil, List.append_nil]
      exact hz2
  · rintro H' ⟨k, zs, hl, hz2⟩
    have : ds.take xs.length = ds := List.take_of_length_le (by omega)
    rw [this] at hz2
    exact q H' zs k hl hz2

/-! ### unknowns in their order -/
def intOf : D → Option Int
  | .int u => some u
  | _ => none
/-- the unknowns of terms from left to right -/
def leaves (ds : List D) : List Int := (flats ds).filterMap intOf
def addI (us : List Int) (u : Int) : List Int := if u ∈ us then us else us ++ [u]
/-- the different ones, in the order of their first places -/
def firstsOf (ds : List D) : List Int := (leaves ds).foldl addI []
def ordK : List Int → Nat → List (L2.Key × V)
  | [], _ => []
  | u :: r, n => (.inl u, .int (n : Int)) :: ordK r (n + 1)
theorem ordK_len (us : List Int) (n : Nat) : (ordK us n).length = us.length := by
  induction us generalizing n with
  | nil => rfl
  | cons u r ih => simp [ordK, ih]
theorem ordK_app (us : List Int) (u : Int) (n : Nat) : ordK (us ++ [u]) n = ordK us n ++ [(.inl u, .int ((n + us.length : Nat) : Int))] := by
  induction us generalizing n with
  | nil => rfl
  | cons v r ih =>
    simp only [List.cons_append, ordK, ih, List.length_cons]
    congr 3
    simp only [List.cons.injEq, Prod.mk.injEq, true_and, and_true]
    congr 2
    omega
theorem ordK_val (us : List Int) (u : Int) (n : Nat) : valV (ordK us n) (.inl u) = if u ∈ us then some (.int ((n + us.idxOf u : Nat) : Int)) else none := by
  induction us generalizing n with
  | nil => rfl
  | cons v r ih =>
    by_cases e : v = u
    · subst e
      rw [ordK, valV_pos rfl, if_pos List.mem_cons_self, List.idxOf_cons_self]
      rfl
    · have e2 : ¬ ((Sum.inl v : L2.Key) = .inl u) := fun z => e (Sum.inl.inj z)
      rw [ordK, valV_neg e2, ih]
      have e3 : (u ∈ v :: r) ↔ u ∈ r := by simp [Ne.symm e]
      by_cases m : u ∈ r
      · have e4 : (v :: r).idxOf u = r.idxOf u + 1 := by
          rw [List.idxOf_cons, show (v == u) = false from by simpa using e]
          rfl
        rw [if_pos m, if_pos (e3.mpr m), e4]
        congr 3
        omega
      · rw [if_neg m, if_neg (fun z => m (e3.mp z))]
theorem addI_mem {us : List Int} {u v : Int} : v ∈ addI us u ↔ v ∈ us ∨ v = u := by
  unfold addI
  split
  · constructor
    · exact .inl
    · rintro (h | rfl)
      · exact h
      · assumption
  · simp
theorem foldl_addI_mem {ls us : List Int} {v : Int} : v ∈ ls.foldl addI us ↔ v ∈ us ∨ v ∈ ls := by
  induction ls generalizing us with
  | nil => simp
  | cons u r ih =>
    rw [List.foldl_cons, ih, addI_mem, List.mem_cons]
    constructor
    · rintro ((h | h) | h)
      · exact .inl h
      · exact .inr (.inl h)
      · exact .inr (.inr h)
    · rintro (h | h | h)
      · exact .inl (.inl h)
      · exact .inl (.inr h)
      · exact .inr h
theorem firstsOf_mem {ds : List D} {u : Int} : u ∈ firstsOf ds ↔ D.int u ∈ flats ds := by
  unfold firstsOf leaves
  rw [foldl_addI_mem]
  simp only [List.not_mem_nil, false_or, List.mem_filterMap]
  constructor
  · rintro ⟨d, h1, h2⟩
    cases d <;> simp [intOf] at h2
    subst h2
    exact h1
  · exact fun h => ⟨_, h, rfl⟩
theorem addI_len (us : List Int) (u : Int) : (addI us u).length ≤ us.length + 1 := by
  unfold addI
  split <;> simp
theorem foldl_addI_len (ls us : List Int) : (ls.foldl addI us).length ≤ us.length + ls.length := by
  induction ls generalizing us with
  | nil => simp
  | cons u r ih =>
    have h1 := ih (addI us u)
    have h2 := addI_len us u
    rw [List.foldl_cons, List.length_cons]
    omega
/-- the number of an unknown -/
def numF (ds : List D) (u : Int) : D := .int ((firstsOf ds).idxOf u : Nat)
def spNumbered (K : PySem.W.Frag) : Sp := fun vs H Q _ => ∃ (a : Addr) (us : List V) (ds : List D), vs = [.ref a] ∧ (SqL K H a us ∨ SqT K H a us) ∧ DvL H us ds ∧ (∀ d ∈ ds, Tm d) ∧ sizes ds ≤ 100000 ∧
  ∀ (m : Addr) (H' : Hp) (ws : List V), Same H H' → H m = none → H' m = some (.lst ws) → DvL (mask m H') ws (puts (numF ds) ds) → Q (.ref m) H'
end Fm
set_option maxRecDepth 100000
set_option maxHeartbeats 2000000
/-! Fm: set comprehensions over any kind of tracked sets; sets of ints. -/
namespace Fm
open PySem PySem.Spec PyProof.Rows L2 PpSet
/-- what a new set's object is -/
abbrev noSet (w : World) : Obj := { cls := .type "set", dict := none, data := .set #[] 0 (.fresh 0 0 (!w.params.followText "set-order")) }
/-- a kind of tracked sets: states, the empty one, what adding a value makes of a state -/
structure SetK' (P : Program) (w : World) (S : Type) where
  obj : Addr → S → HO
  init : S
  step : S → V → S → Prop
  fresh : ∀ (H : Hp) (h : Heap), ObjOk P w H (h.push (noSet w)) h.objs.size (obj h.objs.size init)
  add : ∀ (X : Cx), X.prog = P → X.w = w → ∀ {pins : List (Addr × Obj)} {σ : L2.St} {H : Hp} {s : Shared} {E : Value → Shared → Prop} {D : Addr} {a b : S} {y : V} {u : Value} {Q : Value → Shared → Prop}, Inv X pins σ H s → H D = some (obj D a) → RelV y u → step a y b →
    (∀ s', Inv X pins σ (upd H D (obj D b)) s' → Q .none s') → wpAny (model X.prog X.w) X.A (call (.builtin "set.add") [.ref D, u]) Q E s
section
variable {X : Cx} {S : Type}
/-- {elt for target in iter if ..}: D the new set, W by the turn and a measure -/
def tSetC (k : SetK' X.prog X.w S) (wi : TI) (g : TG) (tt : TT) (te : TE) (vs : List Nat) : TE := fun σ H Q => wi σ H fun J H1 => ∀ D, H1 D = none → ∃ W : Nat → Nat → Hp → Prop, (∃ m, W 0 m (upd H1 D (k.obj D k.init))) ∧ ∀ i m H, W i m H →
  (J.stop i H ∧ Q (.ref D) H) ∨ (J.go i H ∧ ∃ Nx : Hp → Prop, (∀ H', Nx H' → ∃ m', m' < m ∧ W (i + 1) m' H') ∧ ∀ x H', J.yld i H x H' → g x (wipe σ vs) H' fun σ2 H2 => wipe σ2 vs = wipe σ vs ∧ tt σ2 H2 fun b H3 =>
    if b = true then te σ2 H3 fun y H4 => ∃ a b, H4 D = some (k.obj D a) ∧ k.step a y b ∧ Nx (upd H4 D (k.obj D b)) else Nx H3)
theorem pe_setC (k : SetK' X.prog X.w S) {elt tg iter : Expr} {ifs : List Expr} {scope : Scope} {own : List (PySem.Str × Nat)} {pos : Pos} {wi : TI} {g : TG} {tt : TT} {te : TE} (hc : X.calm = true) (hN : X.N.Nodup) (hi : PI X tg iter wi) (ok : BlkOk X.N X.env.scope scope own)
    (hg : ∀ (s : Shared) (H : Hp) (C : Addr) (cl : List (PySem.Str × Addr)) (fp : List Addr), PG (X.blk s H scope (compEnvC scope cl C X.env) fp) tg g) (ht : ∀ (s : Shared) (H : Hp) (C : Addr) (cl : List (PySem.Str × Addr)) (fp : List Addr), PTs (X.blk s H scope (compEnvC scope cl C X.env) fp) ifs tt)
    (he : ∀ (s : Shared) (H : Hp) (C : Addr) (cl : List (PySem.Str × Addr)) (fp : List Addr), PE (X.blk s H scope (compEnvC scope cl C X.env) fp) elt te) (hs : ∀ x, foldedSetIterable iter X.env x = pure x := by intro _; rfl) :
    PE X (.SetComp elt [⟨tg, iter, ifs, 0⟩] scope pos) (tSetC k wi g tt te (own.map (·.2))) := by
  refine ⟨fun pins s σ H Q I h => ?_⟩
  rw [eval_SetComp]
  have free : ∀ y ∈ scope.names, y.2 = .free → ∃ c, X.env.cells.lookup y.1 = some c := fun y hy e => (ok.free y hy e).elim (fun z => I.ok.has _ (.inl z)) fun z => I.ok.has _ (.inr z)
  refine wpAny_comprehension_free rfl hs (closure_ok free) ok.kind (fun y hy e => by rw [ok.uniq y hy, e]) (thn (hi.run pins s σ H _ I h) fun xv s1 hx => thn hx fun itv s2 ⟨it, fp, tn, J, H2, e, I2, T, st2, f2, q⟩ => ?_)
  subst e
  refine newSet_ok (newEnv_comp ?_)
  -- the new set, at the end of the heap
  generalize hD : s2.heap.objs.size = D
  obtain ⟨W, ⟨m0, w0⟩, turn⟩ := q D (I2.hok.fresh (Nat.le_of_eq hD))
  generalize hs3 : ({ s2 with heap := s2.heap.push (noSet X.w) } : Shared) = s3
  have h3 : s3.heap = s2.heap.push (noSet X.w) := by rw [← hs3]
  have I3 : Inv X pins σ (upd H2 D (k.obj D k.init)) s3 := by
    rw [← hs3, ← hD]
    exact I2.laid (t' := s2.toks) (fun b o e => Heap.get?_push_of_some _ e) (Nat.le_refl _) (k.fresh _ _)
  have up : ∀ b o, s2.heap.get? b = some o → s3.heap.get? b = some o := fun b o e => by rw [h3]; exact Heap.get?_push_of_some _ e
  have f3 : ∀ b ∈ fp, FpOk X pins (upd H2 D (k.obj D k.init)) b ∧ b < s3.heap.objs.size := fun b hb => by
    obtain ⟨o, e, _⟩ := T.obj _ _ st2 b hb
    have lt : b < D := by rw [← hD]; exact Heap.lt_size e
    exact ⟨⟨by rw [upd_ne (Nat.ne_of_lt lt)]; exact (f2 b hb).1, (f2 b hb).2⟩, Heap.lt_size (up b o e)⟩
  have I4 := block_start I3 ok hN f3
  have pg := hg s3 (upd H2 D (k.obj D k.init)) s3.heap.objs.size (cellsFrom (s3.heap.objs.size + 1) scope.names (cloFrom X.env.cells scope.names [])) fp
  have pt := ht s3 (upd H2 D (k.obj D k.init)) s3.heap.objs.size (cellsFrom (s3.heap.objs.size + 1) scope.names (cloFrom X.env.cells scope.names [])) fp
  have pe := he s3 (upd H2 D (k.obj D k.init)) s3.heap.objs.size (cellsFrom (s3.heap.objs.size + 1) scope.names (cloFrom X.env.cells scope.names [])) fp
  have none3 : ∀ b ∈ fp, (upd H2 D (k.obj D k.init)) b = none := fun b hb => (f3 b hb).1.1
  show codeAny _ _ (.compStart (.SetComp elt [⟨tg, iter, ifs, 0⟩] scope pos) 0 (.ref it) (.ref D) (compEnvC scope (cellsFrom (s3.heap.objs.size + 1) scope.names (cloFrom X.env.cells scope.names [])) s3.heap.objs.size X.env)) _ { s3 with heap := pushCells (s3.heap.push { cls := .type "dict", data := .dict #[] }) scope.names }
  generalize hce : compEnvC scope (cellsFrom (s3.heap.objs.size + 1) scope.names (cloFrom X.env.cells scope.names [])) s3.heap.objs.size X.env = ce at I4 pg pt pe ⊢
  have cL : ce.locals = s3.heap.objs.size := by subst hce; rfl
  generalize hH3 : upd H2 D (k.obj D k.init) = H3 at I3 I4 pg pt pe w0 none3 f3
  generalize hs4 : ({ s3 with heap := pushCells (s3.heap.push { cls := .type "dict", data := .dict #[] }) scope.names } : Shared) = s4 at I4 ⊢
  have st4 : tn 0 s4.heap := T.keep _ _ _ (T.keep _ _ _ st2 fun b _ o e => up b o e) fun b _ o e => by rw [← hs4]; exact pushCells_keeps _ _ _ _ (Heap.get?_push_of_some _ e)
  have stat : ∀ {σ' : L2.St} {H' : Hp} {s' : Shared}, Inv (X.blk s3 H3 scope ce fp) [] σ' H' s' → (∀ b ∈ fp, H' b = none) → ∀ b ∈ fp, FpOk (X.blk s3 H3 scope ce fp) [] H' b := fun I' hn b hb =>
    ⟨hn b hb, (I'.ok.exf b hb).1, I'.ok.exfs b hb, .inl hb, fun x c e => (I'.ok.exf b hb).2 x c e, fun p hp => absurd (show p ∈ ([] : List (Addr × Obj)) ++ [] from hp) (by simp)⟩
  refine (fun loop => codeAny_compStart_set loop (T.self X.A 0 _ _ _ st4 loop)) ?_
  refine compLoopS_any (fun n s' => ∃ i H', Inv (X.blk s3 H3 scope ce fp) [] (wipe σ (own.map (·.2))) H' s' ∧ tn i s'.heap ∧ (∀ b ∈ fp, H' b = none) ∧ W i n H') ?_ m0 ⟨0, H3, I4, st4, none3, w0⟩
  rintro n s5 ⟨i, H5, I5, st5, n5, w5⟩
  rcases turn i n H5 w5 with ⟨stop, qq⟩ | ⟨go, Nx, hNx, step⟩
  · refine thnF (T.done (X.blk s3 H3 scope ce fp) rfl rfl rfl hc i [] s5 _ H5 (fun _ _ => False) I5 (stat I5 n5) st5 stop) fun r s6 ⟨hr, I6⟩ => ?_
    subst hr
    have I7 : Inv X pins σ H5 s6 := I3.call' (ch := fp) I6.os I6.base I6.hok I6.bare fun b hb => let z := (f3 b hb).1; ⟨z.2.2.2.1, z.2.1, z.2.2.2.2.1, z.2.2.2.2.2⟩
    have nC : H5 s3.heap.objs.size = none := by rw [← cL]; exact I6.free
    obtain ⟨m, hn, _⟩ := I6.loc
    have hn : s6.heap.Ns s3.heap.objs.size m := by rw [← cL]; exact hn
    refine ⟨m, hn, fun h'' sb => ?_⟩
    obtain ⟨f0, f1, f2', f3', f4, f5⟩ := I3.fpOk (H' := H5) (Nat.le_refl _) nC
    exact ⟨.ref D, H5, I7.turned (t' := s6.toks) (fun b o hb e => (sb.2 b hb).trans e) f0 f1 f3' f4 f5, rfl, qq⟩
  · refine thnF (T.item (X.blk s3 H3 scope ce fp) rfl rfl rfl hc i [] s5 _ H5 (fun _ _ => False) I5 (stat I5 n5) st5 go) fun r s6 ⟨u, hr, h6⟩ => ?_
    subst hr
    refine thnF h6 fun _ s7 ⟨x, H7, I7, r7, y7, st7, n7⟩ => ?_
    refine thnF (pg.run _ s7 _ H7 x u _ (I7.pinned (stat I7 n7) (T.obj _ _ st7)) r7 (step x H7 y7)) fun _ s8 ⟨σ8, H8, I8, hw8, q8⟩ => ?_
    refine thnF (pt.run _ s8 σ8 H8 _ I8 q8) fun b s9 ⟨H9, I9, q9⟩ => ?_
    have fin : ∀ {s' : Shared} {H' : Hp}, Inv (X.blk s3 H3 scope ce fp) ([] ++ pinsAt fp s7.heap) σ8 H' s' → Nx H' → ∃ m, m < n ∧ ∃ i H', Inv (X.blk s3 H3 scope ce fp) [] (wipe σ (own.map (·.2))) H' s' ∧ tn i s'.heap ∧ (∀ b ∈ fp, H' b = none) ∧ W i m H' := fun {s' H'} I' nx => by
      obtain ⟨m', hm, w'⟩ := hNx H' nx
      have pin' : ∀ b ∈ fp, ∀ o, s7.heap.get? b = some o → s'.heap.get? b = some o ∧ H' b = none := fun b hb o e =>
        let z := I'.pin (b, o) (List.mem_append_right _ (List.mem_append_right _ (mem_pinsAt hb e)))
        ⟨z.1, z.2.1⟩
      refine ⟨m', hm, i + 1, H', (I'.unpinned (pins := [])).weak (by rw [← hw8, wipe_length]) (fun j v e => ?_), T.keep _ _ _ st7 fun b hb o e => (pin' b hb o e).1, fun b hb => ?_, w'⟩
      · rw [← hw8] at e
        exact (wipe_some e).1
      · obtain ⟨o, e, _⟩ := T.obj _ _ st7 b hb
        exact (pin' b hb o e).2
    cases b with
    | false =>
      rw [if_neg (by decide)] at q9
      rw [if_neg (by decide)]
      exact fin I9 q9
    | true =>
      rw [if_pos rfl] at q9
      rw [if_pos rfl]
      refine thnF (pe.run _ s9 σ8 H9 _ I9 q9) fun z s10 ⟨yv, H10, I10, r10, a, b, hD10, hst, nx⟩ => ?_
      exact k.add (X.blk s3 H3 scope ce fp) rfl rfl I10 hD10 r10 hst fun s11 I11 => fin I11 nx
/-- sets of ints -/
def intSets (P : Program) (w : World) : SetK' P w ((Int → Bool) × Nat) where
  obj D a := SetO w D a.1 a.2
  init := (fun _ => false, 0)
  step a y b := ∃ c, y = .int c ∧ a.2 + 1 < scanBound ∧ b = (fun j => a.1 j || decide (j = c), if a.1 c = true then a.2 else a.2 + 1)
  fresh H h := setO_new (setR_fresh w)
  add := by
    rintro X rfl rfl pins σ H s E D ⟨S, n⟩ b y u Q I hD r ⟨c, rfl, room, rfl⟩ q
    obtain ⟨t, rfl⟩ := r
    refine setR_add (setO_get I hD) room fun h' sb new => ?_
    have he : ∃ u, h'.get? D = some u := by
      have ⟨o, _, _, _, ho, _⟩ := new
      exact ⟨o, ho⟩
    exact q _ (I.write (e := D) (t' := s.toks + 1) (by rw [hD]; trivial) (.inl rfl) (fun b u hb hu => (sb.2 b hb).trans hu) he (setO_new new))
end
section
variable {J : It} {n : Nat} {G : Hp → Prop} {Y : Nat → Hp → V → Hp → Prop} {P : Program} {w : World} {S : Type}
/-- a set comprehension over a walk -/
theorem setC_it (k : SetK' P w S) (wk : Walk J n G Y) {g : TG} {tt : TT} {te : TE} {vs : List Nat} {σ : L2.St} {H1 : Hp} {D : Addr} {Qd : Hp → Prop} (Pv : Nat → Hp → Prop) (h0 : Pv 0 (upd H1 D (k.obj D k.init))) (hG : ∀ i H, i ≤ n → Pv i H → G H)
    (hs : ∀ i x H H', i < n → Pv i H → Y i H x H' → g x (wipe σ vs) H' fun σ2 H2 => wipe σ2 vs = wipe σ vs ∧ tt σ2 H2 fun b H3 =>
      if b = true then te σ2 H3 fun y H4 => ∃ a b, H4 D = some (k.obj D a) ∧ k.step a y b ∧ Pv (i + 1) (upd H4 D (k.obj D b)) else Pv (i + 1) H3) (hd : ∀ H, Pv n H → Qd H) :
    ∃ W : Nat → Nat → Hp → Prop, (∃ m, W 0 m (upd H1 D (k.obj D k.init))) ∧ ∀ i m H, W i m H →
      (J.stop i H ∧ Qd H) ∨ (J.go i H ∧ ∃ Nx : Hp → Prop, (∀ H', Nx H' → ∃ m', m' < m ∧ W (i + 1) m' H') ∧ ∀ x H', J.yld i H x H' → g x (wipe σ vs) H' fun σ2 H2 => wipe σ2 vs = wipe σ vs ∧ tt σ2 H2 fun b H3 =>
        if b = true then te σ2 H3 fun y H4 => ∃ a b, H4 D = some (k.obj D a) ∧ k.step a y b ∧ Nx (upd H4 D (k.obj D b)) else Nx H3) := by
  refine ⟨fun i m H => m = n - i ∧ i ≤ n ∧ Pv i H, ⟨n, by simp, Nat.zero_le _, h0⟩, ?_⟩
  rintro i m H ⟨rfl, hi, p⟩
  have q := hG i H hi p
  by_cases hlt : i < n
  · exact .inr ⟨wk.goes i H hlt q, Pv (i + 1), fun H' p' => ⟨n - (i + 1), by omega, rfl, hlt, p'⟩, fun x H' y => hs i x H H' hlt p (wk.yields i H x H' hlt q y)⟩
  · have e : i = n := by omega
    subst e
    exact .inl ⟨wk.stops H q, hd H p⟩
end
/-- the state of a set of these ints -/
def setAt (us : List Int) : (Int → Bool) × Nat := (fun j => decide (j ∈ us), us.length)
theorem setAt_step {P : Program} {w : World} {us : List Int} {u : Int} (h : us.length + 1 < scanBound) : (intSets P w).step (setAt us) (.int u) (setAt (addI us u)) := by
  refine ⟨u, rfl, h, ?_⟩
  unfold setAt addI
  by_cases m : u ∈ us
  · rw [if_pos m]
    simp only [m, decide_true, if_true]
    refine Prod.ext ?_ rfl
    funext j
    by_cases e : j = u
    · subst e
      simp [m]
    · simp [e]
  · rw [if_neg m]
    simp only [m, decide_false, Bool.false_eq_true, if_false, List.length_append, List.length_singleton]
    refine Prod.ext ?_ rfl
    funext j
    simp
theorem foldl_addI_mono (ls us : List Int) : us.length ≤ (ls.foldl addI us).length := by
  induction ls generalizing us with
  | nil => exact Nat.le_refl _
  | cons u r ih =>
    refine Nat.le_trans ?_ (ih (addI us u))
    unfold addI
    split <;> simp
theorem firsts_take (ds : List D) (i : Nat) : ((((flats ds).take i).filterMap intOf).foldl addI []).length ≤ (firstsOf ds).length := by
  have e : leaves ds = ((flats ds).take i).filterMap intOf ++ ((flats ds).drop i).filterMap intOf := by
    rw [← List.filterMap_append, List.take_append_drop]
    rfl
  unfold firstsOf
  rw [e, List.foldl_append]
  exact foldl_addI_mono _ _
/-- unknowns -/
def spUnknowns (K : PySem.W.Frag) : Sp := fun vs H Q _ => ∃ (a : Addr) (us : List V) (ds : List D), vs = [.ref a] ∧ (SqL K H a us ∨ SqT K H a us) ∧ DvL H us ds ∧ (∀ d ∈ ds, Tm d) ∧ sizes ds ≤ 100000 ∧ (firstsOf ds).length < 64 ∧
  ∀ (p : Addr) (H' : Hp) (ns : List Int), Same H H' → H p = none → H' p = some (.lst (ns.map V.int)) → ns.Pairwise (· < ·) → (∀ k, k ∈ ns ↔ D.int k ∈ flats ds) → Q (.ref p) H'

/-! ### parts of a tuple -/
section
variable {K : PySem.W.Frag} {H : Hp} {a : Addr} {w0 : V} {wr : List V} {Q : VK}
/-- t[:1] -/
theorem first_one (h : H a = some (.tup (w0 :: wr))) (q : ∀ t1 H1, Same H H1 → H1 t1 = some (.tup [w0]) → (t1 = a ∨ H t1 = none) → Q (.ref t1) H1) : rSlA K (.ref a) none (some 1) H Q := by
  refine ⟨a, _, rfl, SqT.of h, fun z => ?_, fun _ p hp => ?_⟩
  · have z2 := z.2
    have e : HT.sIx (w0 :: wr).length (w0 :: wr).length (some 1) = min 1 (w0 :: wr).length := sIx_at (by decide)
    rw [e] at z2
    simp only [List.length_cons] at z2
    have : wr = [] := List.length_eq_zero_iff.mp (by omega)
    subst this
    exact q a H (Same.refl _) h (.inl rfl)
  · have e : cutV (w0 :: wr) none (some 1) = [w0] := by
      unfold cutV
      rw [sIx_at (by decide), sIx_none]
      simp
    rw [e]
    exact q p _ (Same.new hp) upd_same (.inr hp)
/-- t[1:] -/
theorem tail_one {σ : L2.St} (h : H a = some (.tup (w0 :: wr))) (q : ∀ p, H p = none → Q (.ref p) (upd H p (.tup wr))) : tNoPart σ H fun u H3 => rSlA K (.ref a) (some 1) u H3 Q := by
  show rSlA K (.ref a) (some 1) none H Q
  obtain ⟨u1, u2⟩ := cutV_one (w0 :: wr) (by simp)
  refine ⟨a, _, rfl, SqT.of h, fun z => absurd z u2, fun _ p hp => ?_⟩
  rw [u1]
  exact q p hp
/-- (x,) + t -/
theorem cat_one {t1 t2 : Addr} {ws : List V} (h1 : H t1 = some (.tup [w0])) (h2 : H t2 = some (.tup ws)) (hz : ws.length ≤ 100000) (q : ∀ tt H4, Same H H4 → H4 tt = some (.tup (w0 :: ws)) → (tt = t1 ∨ H tt = none) → Q (.ref tt) H4) : rCatA K (.ref t1) (.ref t2) H Q := by
  refine ⟨t1, t2, _, _, rfl, rfl, SqT.of h1, SqT.of h2, ?_, fun z => (by cases z), fun _ z => ?_, fun _ _ p hp => q p _ (Same.new hp) upd_same (.inr hp)⟩
  · simp only [List.length_cons, List.length_nil]
    exact sz (by omega)
  · subst z
    exact q t1 H (Same.refl _) h1 (.inl rfl)
end
section
variable {X : Cx} {tg e : Expr}
theorem pi_alt {w1 w2 : TI} (h1 : PI X tg e w1) (h2 : PI X tg e w2) : PI X tg e (fun σ H R => w1 σ H R ∨ w2 σ H R) :=
  ⟨fun pins s σ H R I h => h.elim (h1.run pins s σ H R I) (h2.run pins s σ H R I)⟩
end
theorem mem_flat_part {d : D} {x : Str} {rs : List D} {u : Int} (hd : d ∈ rs) (h : D.int u ∈ flat d) : D.int u ∈ flat (.tup (.str x :: rs)) := by
  have e : flat (.tup (.str x :: rs)) = .tup (.str x :: rs) :: flats rs := by simp [flat, flatT]
  rw [e]
  refine List.mem_cons_of_mem _ ?_
  induction rs with
  | nil => cases hd
  | cons c r ih =>
    simp only [flats, List.mem_append]
    rcases List.mem_cons.mp hd with rfl | hd
    · exact .inl h
    · exact .inr (ih hd (by simp [flat, flatT]))
/-- a heap and what is laid over it -/
def ovl (Hb N : Hp) : Hp := fun a => match Hb a with
  | some o => some o
  | none => N a
section
variable {Hb N N' H H' : Hp}
theorem ovl_base : Same Hb (ovl Hb N) := fun a o e => by
  unfold ovl
  rw [e]
theorem ovl_new {a : Addr} {o : HO} (h : Hb a = none) (e : N a = some o) : ovl Hb N a = some o := by
  unfold ovl
  rw [h]
  exact e
theorem ovl_mono (k : Same N N') : Same (ovl Hb N) (ovl Hb N') := fun a o e => by
  unfold ovl at e ⊢
  cases z : Hb a with
  | some u =>
    rw [z] at e
    exact e
  | none =>
    rw [z] at e
    exact k _ _ e
theorem ovl_sub (k : Same Hb H') (k2 : Same N H') : Same (ovl Hb N) H' := fun a o e => by
  unfold ovl at e
  cases z : Hb a with
  | some u =>
    rw [z] at e
    cases e
    exact k _ _ z
  | none =>
    rw [z] at e
    exact k2 _ _ e
end
theorem Same.none {H H' : Hp} {l : Addr} (k : Same H H') (h : H' l = none) : H l = none := by
  cases e : H l with
  | none => rfl
  | some o =>
    rw [k _ _ e] at h
    cases h
/-- _law_put: what is told stands in Hb and in what is new -/
def spLPut (K : PySem.W.Frag) (m : Nat) : Sp := fun vs H Q _ => ∃ (Hb : Hp) (v va : V) (d : D) (f : Int → D), vs = [v, va] ∧ Same Hb H ∧ Dv Hb v d ∧ Tm d ∧ d.deep < m ∧ d.size ≤ 100000 ∧
  (∀ u, D.int u ∈ flat d → ∃ v, Look K H va u v ∧ Dv Hb v (f u)) ∧ ∀ (v' : V) (H' : Hp), Same H H' → Dv (ovl Hb (newof H H')) v' (putD f d) → Q v' H'
/-- [f(x) for x in xs], each turn may leave new things and gives new data -/
theorem lc_newD {J : It} {G : Hp → Prop} {te : TE} {tt : TT} {σ : L2.St} {H Hb : Hp} {xs : List V} {ds : List D} {j : Nat} {vs : List Nat} {Dl : Addr} {Qd : Hp → Prop} (f : D → D) (wk : Walk J xs.length G (YAt xs)) (hG : ∀ H', Same H H' → G H') (hd : DvL Hb xs ds) (hD : H Dl = none) (hz : xs.length ≤ 100000)
    (hw : ∀ x, wipe ((wipe σ vs).set j (some x)) vs = wipe σ vs) (he : ∀ σ' H' (R : Bool → Hp → Prop), R true H' → tt σ' H' R)
    (hv : ∀ (x : V) (d : D) (H' : Hp) (R : VK), Same H H' → d ∈ ds → Dv Hb x d → (∀ y H2, Same H' H2 → Dv (ovl Hb (newof H' H2)) y (f d) → R y H2) → te ((wipe σ vs).set j (some x)) H' R)
    (q : ∀ H' zs, Same H H' → H' Dl = some (.lst zs) → DvL (ovl Hb (newof (upd H Dl (.lst [])) H')) zs (ds.map f) → Qd H') :
    ∃ W : Nat → Nat → Hp → Prop, (∃ m, W 0 m (upd H Dl (.lst []))) ∧ ∀ i m H, W i m H → (J.stop i H ∧ Qd H) ∨ (J.go i H ∧ ∃ Nx : Hp → Prop, (∀ H', Nx H' → ∃ m', m' < m ∧ W (i + 1) m' H') ∧
      ∀ x H', J.yld i H x H' → gName j x (wipe σ vs) H' fun σ2 H2 => wipe σ2 vs = wipe σ vs ∧ tt σ2 H2 fun b H3 => if b = true then te σ2 H3 fun y H4 => ∃ acc, H4 Dl = some (.lst acc) ∧ acc.length < sizeLine ∧ Nx (upd H4 Dl (.lst (acc ++ [y]))) else Nx H3) := by
  have hlen := hd.len
  have h0 : (upd H Dl (.lst [])) Dl = some (.lst []) := upd_same
  refine lc_it wk (fun i H' => Same H H' ∧ ∃ zs, H' Dl = some (.lst zs) ∧ DvL (ovl Hb (newof (upd H Dl (.lst [])) H')) zs ((ds.take i).map f)) ⟨Same.new hD, [], upd_same, .nil⟩ (fun i H' _ h => hG H' h.1) ?_ ?_
  · rintro i x H1 H1' hi ⟨k, zs, hl, hz2⟩ ⟨rfl, hx⟩
    obtain ⟨d, e1, hd1⟩ := hd.get hx
    refine ⟨hw _, he _ _ _ ?_⟩
    rw [if_pos rfl]
    refine hv x d H1' _ k (tk e1) hd1 fun y H2 k2 hy => ⟨zs, k2 _ _ hl, ?_, Same.upd (k.trans k2) hD, zs ++ [y], upd_same, ?_⟩
    · have := hz2.len
      rw [List.length_map, List.length_take] at this
      exact szl (by omega)
    · rw [newof_upd h0, take_succ' e1, List.map_append]
      refine (hz2.same (ovl_mono (newof_same k2)) _ _).snoc (hy.same (ovl_mono (newof_lift fun a ha => ?_)) _ _)
      have n1 : a ≠ Dl := fun z => by
        rw [z, hl] at ha
        cases ha
      rw [upd_ne n1]
      exact Same.none k ha
  · rintro H' ⟨k, zs, hl, hz2⟩
    have : ds.take xs.length = ds := List.take_of_length_le (by omega)
    rw [this] at hz2
    exact q H' zs k hl hz2
theorem newof_first {H H' : Hp} {Dl : Addr} {o : HO} (h : H Dl = none) : Same (newof (upd H Dl o) H') (newof H H') := newof_lift fun a ha => by
  by_cases z : a = Dl
  · rw [z]
    exact h
  · rwa [upd_ne z] at ha
end Fm
set_option maxRecDepth 100000
set_option maxHeartbeats 2000000
namespace Fm
open PySem PySem.Spec PyProof.Rows L2
def leaf : D → List Int
  | .int u => [u]
  | .tup (_ :: r) => leaves r
  | _ => []
theorem leaves_app (a b : List D) : leaves (a ++ b) = leaves a ++ leaves b := by
  unfold leaves
  rw [flats_app, List.filterMap_append]
theorem leaves_one (d : D) : leaves [d] = leaf d := by
  unfold leaves
  simp only [flats, List.append_nil]
  rw [flat_eq]
  cases d with
  | int u => rfl
  | tup ds => cases ds <;> rfl
  | _ => rfl
theorem leaves_len (ds : List D) : (leaves ds).length ≤ sizes ds := by
  have h1 := List.length_filterMap_le intOf (flats ds)
  have h2 := flats_len ds
  unfold leaves
  omega
def opOf : D → Nat
  | .tup (_ :: r) => 1 + opsOf r
  | .tup [] => 1
  | _ => 0
theorem ops_app (a b : List D) : opsOf (a ++ b) = opsOf a + opsOf b := by
  unfold opsOf
  rw [flats_app, List.filter_append, List.length_append]
theorem ops_one (d : D) : opsOf [d] = opOf d := by
  unfold opsOf
  simp only [flats, List.append_nil]
  rw [flat_eq]
  cases d with
  | tup ds =>
    cases ds with
    | nil => rfl
    | cons x r =>
      simp only [parts, List.filter_cons, isT, if_true, List.length_cons, opOf, opsOf]
      omega
  | _ => rfl
theorem ops_sum (ds : List D) : ((ds.map fun d => (opOf d : Int))).sum = (opsOf ds : Int) := by
  induction ds with
  | nil => rfl
  | cons d r ih =>
    have e : opsOf (d :: r) = opOf d + opsOf r := by
      rw [← ops_one, ← ops_app]
      rfl
    rw [List.map_cons, List.sum_cons, ih, e]
    omega
theorem dvl_intsOf {H : Hp} : ∀ {ns : List Int} {zs : List V}, DvL H zs (ns.map D.int) → zs = ns.map V.int
  | [], _, h => by cases h; rfl
  | n :: r, _, h => by
    cases h with
    | cons a b =>
      cases a
      rw [dvl_intsOf b]
      rfl
/-- _law_leaves -/
def spLeaves (K : PySem.W.Frag) (m : Nat) : Sp := fun vs H Q _ => ∃ a us ds, vs = [.ref a] ∧ (SqL K H a us ∨ SqT K H a us) ∧ DvL H us ds ∧ (∀ d ∈ ds, Tm d) ∧ deeps ds < m ∧ sizes ds ≤ 100000 ∧
  ∀ l H', Same H H' → H l = none → H' l = some (.lst ((leaves ds).map V.int)) → Q (.ref l) H'
/-- _law_size -/
def spLSize (K : PySem.W.Frag) (m : Nat) : Sp := fun vs H Q _ => ∃ a us ds, vs = [.ref a] ∧ (SqL K H a us ∨ SqT K H a us) ∧ DvL H us ds ∧ (∀ d ∈ ds, Tm d) ∧ deeps ds < m ∧ sizes ds ≤ 100000 ∧ ∀ H', Same H H' → Q (.int (opsOf ds : Nat)) H'
theorem inV_ints (u : Int) (us : List Int) : inV (.int u) (us.map V.int) = decide (u ∈ us) := by
  induction us with
  | nil => rfl
  | cons v r ih =>
    have e : inV (.int u) ((v :: r).map V.int) = ((v == u) || inV (.int u) (r.map V.int)) := rfl
    rw [e, ih, Bool.eq_iff_iff]
    simp only [Bool.or_eq_true, beq_iff_eq, decide_eq_true_iff, List.mem_cons]
    constructor
    · rintro (h | h)
      · exact .inl h.symm
      · exact .inr h
    · rintro (h | h)
      · exact .inl h.symm
      · exact .inr h
theorem flat_ints (us : List Int) : (us.map V.int).all flatV = true := by
  induction us with
  | nil => rfl
  | cons v r ih => rw [List.map_cons, List.all_cons, ih]; rfl
theorem addI_nodup {us : List Int} {u : Int} (h : us.Nodup) : (addI us u).Nodup := by
  unfold addI
  split
  · exact h
  · rename_i m
    rw [List.nodup_append]
    refine ⟨h, by simp, ?_⟩
    intro a ha b hb
    simp at hb
    subst hb
    rintro rfl
    exact m ha
theorem foldl_addI_nodup (ls : List Int) : ∀ {us : List Int}, us.Nodup → (ls.foldl addI us).Nodup := by
  induction ls with
  | nil => exact fun h => h
  | cons u r ih => exact fun h => ih (addI_nodup h)
theorem firstsOf_nodup (ds : List D) : (firstsOf ds).Nodup := foldl_addI_nodup _ List.nodup_nil
theorem merge_ord : ∀ (us pre : List Int), (pre ++ us).Nodup → mergeK (ordK pre 0) (ordK us pre.length) = ordK (pre ++ us) 0
  | [], pre, _ => by rw [List.append_nil]; rfl
  | u :: r, pre, h => by
    have nu : u ∉ pre := fun m => by
      rw [List.nodup_append] at h
      exact h.2.2 u m u List.mem_cons_self rfl
    have e1 : valV (ordK pre 0) (.inl u) = none := by rw [ordK_val, if_neg nu]
    have e2 : mergeK (ordK pre 0) (ordK (u :: r) pre.length) = mergeK (putK (ordK pre 0) (.inl u) (.int (pre.length : Int))) (ordK r (pre.length + 1)) := rfl
    have e3 : ordK pre 0 ++ [(.inl u, .int (pre.length : Int))] = ordK (pre ++ [u]) 0 := by rw [ordK_app, Nat.zero_add]
    have e4 : pre.length + 1 = (pre ++ [u]).length := by simp
    rw [e2, putK_new _ e1, e3, e4, merge_ord r (pre ++ [u]) (by rw [List.append_assoc]; exact h), List.append_assoc]
    rfl
theorem walk_rangeA {n : Nat} : Walk (Itr 0 n) ((List.range n).map fun i : Nat => V.int (i : Int)).length (fun _ => True) (YAt ((List.range n).map fun i : Nat => V.int (i : Int))) := by
  rw [List.length_map, List.length_range]
  refine walk_range.mono (fun _ h => h) fun i H x H' hi _ ⟨e, y⟩ => ⟨e, ?_⟩
  rw [List.getElem?_map, List.getElem?_range hi, y]
  show some (V.int (i : Int)) = some (.int (0 + (i : Int)))
  rw [Int.zero_add]
/-- a list of pairs as a dict's entries -/
theorem dvl_pairs {K : PySem.W.Frag} {H : Hp} : ∀ {us : List Int} {n : Nat} {zs : List V}, DvL H zs ((us.zipIdx n).map fun p => D.tup [.int p.1, .int (p.2 : Int)]) → ∃ ps : List Addr, zs = ps.map V.ref ∧ Paired (fun p kv => SqT K H p [kV kv.1, kv.2]) ps (ordK us n)
  | [], n, zs, h => by cases h; exact ⟨[], rfl, .nil⟩
  | u :: r, n, zs, h => by
    rw [List.zipIdx_cons, List.map_cons] at h
    cases h with
    | cons a b =>
      obtain ⟨ps, rfl, h2⟩ := dvl_pairs b
      cases a with
      | @tup p xs _ h3 h4 =>
      cases h4 with
      | cons a1 b1 =>
      cases b1 with
      | cons a2 b2 =>
      cases a1
      cases a2
      cases b2
      exact ⟨p :: ps, rfl, .cons (SqT.of h3) h2⟩
def pairAt (us : List Int) (d : D) : D := .tup [.int (us.getD (match d with | .int i => i.toNat | _ => 0) 0), d]
theorem pairs_eq (us : List Int) : ((List.range us.length).map fun i : Nat => D.int (i : Int)).map (pairAt us) = (us.zipIdx 0).map fun p => D.tup [.int p.1, .int (p.2 : Int)] := by
  apply List.ext_getElem?
  intro i
  rw [List.getElem?_map, List.getElem?_map, List.getElem?_map, List.getElem?_zipIdx]
  by_cases h : i < us.length
  · rw [List.getElem?_range h, List.getElem?_eq_getElem h]
    simp only [Option.map_some, pairAt, Int.toNat_natCast, Nat.zero_add]
    rw [List.getD_eq_getElem?_getD, List.getElem?_eq_getElem h]
    rfl
  · rw [List.getElem?_eq_none (by rw [List.length_range]; omega), List.getElem?_eq_none (by omega)]
    rfl
theorem pairAt_get {us : List Int} {i : Nat} (h : i < us.length) : pairAt us (.int (i : Int)) = .tup [.int us[i], .int (i : Int)] := by
  simp only [pairAt, Int.toNat_natCast]
  rw [List.getD_eq_getElem?_getD, List.getElem?_eq_getElem h]
  rfl
theorem mem_flats {d e : D} {ds : List D} (hd : d ∈ ds) (h : e ∈ flat d) : e ∈ flats ds := by
  induction ds with
  | nil => cases hd
  | cons c r ih =>
    simp only [flats, List.mem_append]
    rcases List.mem_cons.mp hd with rfl | hd
    · exact .inl h
    · exact .inr (ih hd)
/-- _law_numbered -/
def spLNum (K : PySem.W.Frag) (m : Nat) : Sp := fun vs H Q _ => ∃ a us ds, vs = [.ref a] ∧ SqL K H a us ∧ DvL H us ds ∧ (∀ d ∈ ds, Tm d) ∧ deeps ds < m ∧ sizes ds ≤ 100000 ∧
  ∀ l H' ws, Same H H' → H l = none → H' l = some (.lst ws) → DvL H' ws (puts (numF ds) ds) → Q (.ref l) H'
/-- unknowns from 0 on, below n -/
def Unk (n : Int) (d : D) : Prop := ∀ u, D.int u ∈ flat d → 0 ≤ u ∧ u < n
theorem Unk.int {n i : Int} (h0 : 0 ≤ i) (h1 : i < n) : Unk n (.int i) := fun u hu => by
  simp [flat] at hu
  subst hu
  exact ⟨h0, h1⟩
theorem flats_mem {e : D} {ds : List D} (h : e ∈ flats ds) : ∃ d ∈ ds, e ∈ flat d := by
  induction ds with
  | nil => simp [flats] at h
  | cons c r ih =>
    simp only [flats, List.mem_append] at h
    rcases h with h | h
    · exact ⟨c, List.mem_cons_self, h⟩
    · obtain ⟨d, h1, h2⟩ := ih h
      exact ⟨d, List.mem_cons_of_mem _ h1, h2⟩
theorem Unk.tup {n : Int} {x : Str} {ds : List D} (h : ∀ d ∈ ds, Unk n d) : Unk n (.tup (.str x :: ds)) := fun u hu => by
  have e : flat (.tup (.str x :: ds)) = .tup (.str x :: ds) :: flats ds := by simp [flat, flatT]
  rw [e] at hu
  rcases List.mem_cons.mp hu with z | hu
  · cases z
  · obtain ⟨d, h1, h2⟩ := flats_mem hu
    exact h d h1 u h2
theorem Unk.mono {n m : Int} {d : D} (h : Unk n d) (k : n ≤ m) : Unk m d := fun u hu => let ⟨a, b⟩ := h u hu; ⟨a, by omega⟩
def spTermU (m : Nat) : Sp := fun vs H Q _ => ∃ (b p nm : Addr) (xs : List Str) (many : Int) (k : Nat) (deep : Int), vs = [.ref b, .ref nm, .int many, .int deep] ∧ deep = (k : Int) ∧ Bag b p H ∧ Names nm b H xs ∧ 0 < many ∧ many ≤ 1000 ∧ k < m ∧ k ≤ 100 ∧
  ∀ v H' d, Go b p H H' → Dv (newof H H') v d → Tm d → Sized k d → Unk many d → Q v H'
/-- _law_great -/
def spGreat : Sp := fun vs H Q _ => ∃ (b p nm : Addr) (xs : List Str), vs = [.ref b, .ref nm] ∧ Bag b p H ∧ Names nm b H xs ∧
  ∀ v H' d, Go b p H H' → Dv (newof H H') v d → Tm d → d.deep ≤ 30 → d.size ≤ 3000 → Unk 5 d → Q v H'
end Fm
set_option maxRecDepth 100000
set_option maxHeartbeats 2000000
/-! Fm: what data are as Python's values, and how long they are shown. -/
namespace Fm
open PySem PySem.Spec PyProof.Rows L2
mutual
def pdOf : D → PyData
  | .non => .none
  | .bl b => .bool b
  | .int i => .int i
  | .str x => .str x
  | .tup ds => .tuple (pdsOf ds)
  | .lst ds => .list (pdsOf ds)
  | .dic => .none
def pdsOf : List D → List PyData
  | [] => []
  | d :: r => pdOf d :: pdsOf r
end
mutual
theorem dp_pd {K : PySem.W.Frag} {H : Hp} : ∀ (d : D) (v : V), Dv H v d → noDic d = true → Dp K H v (pdOf d) ∧ (pdOf d).canLay0 = true
  | .non, _, h, _ => by cases h; exact ⟨.non, rfl⟩
  | .bl _, _, h, _ => by cases h; exact ⟨.bl _, rfl⟩
  | .int _, _, h, _ => by cases h; exact ⟨.int _, rfl⟩
  | .str _, _, h, _ => by
    cases h with
    | str _ o => exact ⟨.str _, by simpa [pdOf, PyData.canLay0] using o⟩
  | .tup ds, _, h, n => by
    cases h with
    | tup a b =>
      obtain ⟨h1, h2⟩ := dps_pd ds _ b (by simpa [noDic] using n)
      exact ⟨.tup (SqT.of a) h1, by simpa [pdOf, PyData.canLay0] using h2⟩
  | .lst ds, _, h, n => by
    cases h with
    | lst a b =>
      obtain ⟨h1, h2⟩ := dps_pd ds _ b (by simpa [noDic] using n)
      exact ⟨.lst (SqL.of a) h1, by simpa [pdOf, PyData.canLay0] using h2⟩
  | .dic, _, _, n => by simp [noDic] at n
theorem dps_pd {K : PySem.W.Frag} {H : Hp} : ∀ (ds : List D) (vs : List V), DvL H vs ds → noDics ds = true → DpAll K H vs (pdsOf ds) ∧ PyData.canLayAll0 (pdsOf ds) = true
  | [], _, h, _ => by cases h; exact ⟨.nil, by simp [pdsOf, PyData.canLayAll0]⟩
  | d :: ds, _, h, n => by
    cases h with
    | cons a b =>
      have n' : noDic d = true ∧ noDics ds = true := by simpa [noDics] using n
      obtain ⟨h1, h2⟩ := dp_pd d _ a n'.1
      obtain ⟨h4, h5⟩ := dps_pd ds _ b n'.2
      exact ⟨.cons h1 h4, by simp [pdsOf, PyData.canLayAll0, h2, h5]⟩
end
mutual
theorem pd_depth : ∀ d : D, (pdOf d).depth ≤ d.deep + 1
  | .non => by simp [pdOf, PyData.depth]
  | .bl _ => by simp [pdOf, PyData.depth]
  | .int _ => by simp [pdOf, PyData.depth]
  | .str _ => by simp [pdOf, PyData.depth]
  | .dic => by simp [pdOf, PyData.depth]
  | .tup ds => by
    have := pds_depth ds
    simp only [pdOf, PyData.depth, D.deep]
    omega
  | .lst ds => by
    have := pds_depth ds
    simp only [pdOf, PyData.depth, D.deep]
    omega
theorem pds_depth : ∀ ds : List D, PyData.depthAll (pdsOf ds) ≤ deeps ds + 1
  | [] => by simp [pdsOf, PyData.depthAll]
  | d :: r => by
    have h1 := pd_depth d
    have h2 := pds_depth r
    simp only [pdsOf, PyData.depthAll, deeps]
    omega
end
mutual
/-- the ints in data -/
def intsIn : D → List Int
  | .int i => [i]
  | .tup ds => intsOf ds
  | .lst ds => intsOf ds
  | _ => []
def intsOf : List D → List Int
  | [] => []
  | d :: r => intsIn d ++ intsOf r
end
/-- ints of at most so many bits, and no longer shown than B -/
def Short (B bits : Nat) (i : Int) : Prop := i.natAbs.log2 + 1 ≤ bits ∧ bits ≤ 1900 ∧ (PyData.shown (.int i)).length ≤ B
mutual
theorem pd_short {B bits : Nat} : ∀ d : D, (∀ i ∈ intsIn d, Short B bits i) → (pdOf d).intsShort B = true ∧ (pdOf d).showable = true ∧ (pdOf d).weight + 1 ≤ 2 * d.size + bits * (intsIn d).length
  | .non, _ => by
    simp [pdOf, PyData.intsShort, PyData.showable, PyData.weight, D.size]
    omega
  | .bl _, _ => by
    simp [pdOf, PyData.intsShort, PyData.showable, PyData.weight, D.size]
    omega
  | .dic, _ => by
    simp [pdOf, PyData.intsShort, PyData.showable, PyData.weight, D.size]
    omega
  | .str x, _ => by
    refine ⟨by simp [pdOf, PyData.intsShort], by simp [pdOf, PyData.showable], ?_⟩
    simp only [pdOf, PyData.weight, D.size]
    have : x.cps.size = x.length := rfl
    omega
  | .int i, h => by
    have := h i (by simp [intsIn])
    obtain ⟨h1, h2, h3⟩ := this
    refine ⟨by simpa only [pdOf, PyData.intsShort, decide_eq_true_eq] using h3, ?_, ?_⟩
    · simp only [pdOf, PyData.showable, decide_eq_true_eq]
      omega
    · simp only [pdOf, PyData.weight, D.size, intsIn, List.length_singleton]
      split <;> omega
  | .tup ds, h => by
    obtain ⟨h1, h2, h3⟩ := pds_short ds (by simpa [intsIn] using h)
    refine ⟨by simpa only [pdOf, PyData.intsShort] using h1, by simpa only [pdOf, PyData.showable] using h2, ?_⟩
    have h4 : PyData.weight (pdOf (.tup ds)) = PyData.weightAll (pdsOf ds) := rfl
    have h5 : intsIn (.tup ds) = intsOf ds := by simp [intsIn]
    rw [h4, h5]
    simp only [D.size]
    omega
  | .lst ds, h => by
    obtain ⟨h1, h2, h3⟩ := pds_short ds (by simpa [intsIn] using h)
    refine ⟨by simpa only [pdOf, PyData.intsShort] using h1, by simpa only [pdOf, PyData.showable] using h2, ?_⟩
    have h4 : PyData.weight (pdOf (.lst ds)) = PyData.weightAll (pdsOf ds) := rfl
    have h5 : intsIn (.lst ds) = intsOf ds := by simp [intsIn]
    rw [h4, h5]
    simp only [D.size]
    omega
theorem pds_short {B bits : Nat} : ∀ ds : List D, (∀ i ∈ intsOf ds, Short B bits i) → PyData.intsShortAll B (pdsOf ds) = true ∧ PyData.showableAll (pdsOf ds) = true ∧ PyData.weightAll (pdsOf ds) ≤ 2 * sizes ds + bits * (intsOf ds).length
  | [], _ => by simp [pdsOf, PyData.intsShortAll, PyData.showableAll, PyData.weightAll]
  | d :: r, h => by
    obtain ⟨a1, a2, a3⟩ := pd_short d fun i hi => h i (by simp [intsOf, hi])
    obtain ⟨b1, b2, b3⟩ := pds_short r fun i hi => h i (by simp [intsOf, hi])
    refine ⟨by simp [pdsOf, PyData.intsShortAll, a1, b1], by simp [pdsOf, PyData.showableAll, a2, b2], ?_⟩
    have := size_pos d
    simp only [pdsOf, PyData.weightAll, sizes, intsOf, List.length_append, Nat.mul_add]
    omega
end
/-- what is asked of data that are compared and shown -/
theorem pd_ok {B bits : Nat} (hB : 8 ≤ B) {d : D} {K : PySem.W.Frag} {H : Hp} {v : V} (h : Dv H v d) (hs : ∀ i ∈ intsIn d, Short B bits i) (nd : noDic d = true) (dz : d.deep ≤ 58) (hz : (B + 2) * (2 * d.size + bits * (intsIn d).length) + B ≤ 16000000) :
    Dp K H v (pdOf d) ∧ SeqAt.shaped (pdOf d) = true ∧ (pdOf d).showable = true ∧ (pdOf d).hasDict = false ∧ (pdOf d).depth ≤ 60 ∧ (pdOf d).shown.length ≤ sizeLine := by
  obtain ⟨h1, h2⟩ := dp_pd (K := K) d v h nd
  obtain ⟨a1, a2, a3⟩ := pd_short d hs
  have dd := pd_depth d
  refine ⟨h1, ?_, a2, PyData.hasDict_of_canLay _ h2, by omega, ?_⟩
  · unfold SeqAt.shaped
    simp [h2]
    omega
  · have e := PyData.shown_le B hB (pdOf d) (PyData.leavesShort_of_canLay0 B _ h2 a1)
    have e2 : (B + 2) * (pdOf d).weight ≤ (B + 2) * (2 * d.size + bits * (intsIn d).length) := Nat.mul_le_mul_left _ (by omega)
    have e3 : sizeLine = 16777216 := by decide
    omega
theorem short_small {i : Int} (h0 : 0 ≤ i) (h1 : i < 1000000) : Short 13 20 i := by
  have e12 : (10 : Nat) ^ 12 = 1000000000000 := by decide
  refine ⟨?_, by decide, PyData.shown_int_le (by omega)⟩
  have : i.natAbs.log2 < 20 := by
    by_cases z : i.natAbs = 0
    · rw [z]; decide
    · rw [Nat.log2_lt z]
      have : (2 : Nat) ^ 20 = 1048576 := by decide
      omega
  omega
theorem short_far : Short 41 130 (10 ^ 39) := by
  refine ⟨by decide +kernel, by decide, by decide +kernel⟩
theorem Short.wide {B bits B' bits' : Nat} {i : Int} (h : Short B bits i) (h1 : B ≤ B') (h2 : bits ≤ bits') (h3 : bits' ≤ 1900) : Short B' bits' i := ⟨Nat.le_trans h.1 h2, h3, Nat.le_trans h.2.2 h1⟩
/-- unknowns below n, of at most so many places -/
def UnkL (n : Int) (k : Nat) (d : D) : Prop := Unk n d ∧ (intsIn d).length ≤ 3 ^ k
theorem UnkL.int {n i : Int} {k : Nat} (h0 : 0 ≤ i) (h1 : i < n) : UnkL n k (.int i) := ⟨Unk.int h0 h1, by
  have : 1 ≤ 3 ^ k := Nat.one_le_pow _ _ (by decide)
  simpa [intsIn] using this⟩
theorem intsOf_len {ds : List D} {m : Nat} (h : ∀ d ∈ ds, (intsIn d).length ≤ m) : (intsOf ds).length ≤ ds.length * m := by
  induction ds with
  | nil => simp [intsOf]
  | cons d r ih =>
    have h1 := h d List.mem_cons_self
    have h2 := ih fun e he => h e (List.mem_cons_of_mem _ he)
    simp only [intsOf, List.length_append, List.length_cons, Nat.add_mul, Nat.one_mul]
    omega
theorem UnkL.tup {n : Int} {k : Nat} {x : Str} {ds : List D} (l : ds.length ≤ 3) (h : ∀ d ∈ ds, UnkL n k d) : UnkL n (k + 1) (.tup (.str x :: ds)) := by
  refine ⟨Unk.tup fun d hd => (h d hd).1, ?_⟩
  have h1 := intsOf_len fun d hd => (h d hd).2
  have h2 : ds.length * 3 ^ k ≤ 3 * 3 ^ k := Nat.mul_le_mul_right _ l
  have e : intsIn (.tup (.str x :: ds)) = intsOf ds := by simp [intsIn, intsOf]
  rw [e, Nat.pow_succ]
  omega
def spTermV (m : Nat) : Sp := fun vs H Q _ => ∃ (b p nm : Addr) (xs : List Str) (many : Int) (k : Nat) (deep : Int), vs = [.ref b, .ref nm, .int many, .int deep] ∧ deep = (k : Int) ∧ Bag b p H ∧ Names nm b H xs ∧ 0 < many ∧ many ≤ 1000 ∧ k < m ∧ k ≤ 100 ∧
  ∀ v H' d, Go b p H H' → Dv (newof H H') v d → Tm d → Sized k d → UnkL many k d → Q v H'
/-- a term as _law_great makes it -/
structure Grt (d : D) : Prop where
  tm : Tm d
  dp : d.deep ≤ 20
  sz : d.size ≤ 1400
  un : Unk 5 d
  few : (intsIn d).length ≤ 81
def spGreatV : Sp := fun vs H Q _ => ∃ (b p nm : Addr) (xs : List Str), vs = [.ref b, .ref nm] ∧ Bag b p H ∧ Names nm b H xs ∧
  ∀ v H' d, Go b p H H' → Dv (newof H H') v d → Grt d → Q v H'
def FarI (z : Int) : Prop := z = 0 ∨ z = 5 ∨ z = 7 ∨ z = 10 ^ 39
/-- a term with far unknowns -/
structure Far (d : D) : Prop where
  tm : Tm d
  dp : d.deep ≤ 30
  sz : d.size ≤ 1400
  un : ∀ i ∈ intsIn d, FarI i
  few : (intsIn d).length ≤ 81
structure Kept (f : Int → D) (d : D) : Prop where
  tm : Tm (putD f d)
  dp : (putD f d).deep = d.deep
  sz : (putD f d).size = d.size
  len : (intsIn (putD f d)).length = (intsIn d).length
theorem kept_list {f : Int → D} {ds : List D} (h : ∀ d ∈ ds, Kept f d) : deeps (puts f ds) = deeps ds ∧ sizes (puts f ds) = sizes ds ∧ (intsOf (puts f ds)).length = (intsOf ds).length := by
  induction ds with
  | nil => exact ⟨rfl, rfl, rfl⟩
  | cons d r ih =>
    obtain ⟨a, b, c⟩ := ih fun e he => h e (List.mem_cons_of_mem _ he)
    have hd := h d List.mem_cons_self
    simp only [puts, deeps, sizes, intsOf, List.length_append, a, b, c, hd.dp, hd.sz, hd.len, and_self]
theorem kept_of {f : Int → D} (hf : ∀ u, ∃ z, f u = .int z) {d : D} (t : Tm d) : Kept f d := by
  induction t with
  | int u =>
    obtain ⟨z, hz⟩ := hf u
    have e : putD f (.int u) = .int z := hz
    exact ⟨by rw [e]; exact .int z, by rw [e]; rfl, by rw [e]; rfl, by rw [e]; rfl⟩
  | tup x ds _ ih =>
    obtain ⟨a, b, c⟩ := kept_list ih
    have e : putD f (.tup (.str x :: ds)) = .tup (.str x :: puts f ds) := rfl
    refine ⟨?_, ?_, ?_, ?_⟩
    · rw [e]
      refine .tup x _ fun d hd => ?_
      rw [puts_map] at hd
      obtain ⟨d', h1, rfl⟩ := List.mem_map.mp hd
      exact (ih d' h1).tm
    · rw [e]
      simp only [D.deep, deeps, a]
    · rw [e]
      simp only [D.size, sizes, b]
    · rw [e]
      simp only [intsIn, intsOf, List.nil_append, c]
theorem ints_put {f : Int → D} {Pz : Int → Prop} (hf : ∀ u, ∃ z, f u = .int z ∧ Pz z) {d : D} (t : Tm d) : ∀ i ∈ intsIn (putD f d), Pz i := by
  induction t with
  | int u =>
    obtain ⟨z, hz, pz⟩ := hf u
    have e : putD f (.int u) = .int z := hz
    rw [e]
    intro i hi
    simp [intsIn] at hi
    subst hi
    exact pz
  | tup x ds _ ih =>
    have e : intsIn (putD f (.tup (.str x :: ds))) = intsOf (puts f ds) := by
      show intsIn (.tup (.str x :: puts f ds)) = _
      simp [intsIn, intsOf]
    rw [e]
    clear e
    induction ds with
    | nil => intro i hi; simp [puts, intsOf] at hi
    | cons d r ih2 =>
      intro i hi
      simp only [puts, intsOf, List.mem_append] at hi
      rcases hi with hi | hi
      · exact ih d List.mem_cons_self i hi
      · exact ih2 (fun c hc => by rename_i hall; exact hall c (List.mem_cons_of_mem _ hc)) (fun c hc => ih c (List.mem_cons_of_mem _ hc)) i hi
/-- _law_far -/
def spFar : Sp := fun vs H Q _ => ∃ (Hb : Hp) (b p : Addr) (v : V) (d : D), vs = [.ref b, v] ∧ Bag b p H ∧ Same Hb (mask b H) ∧ Dv Hb v d ∧ Grt d ∧
  ∀ v' H' d', Go b p H H' → Dv (ovl Hb (newof H H')) v' d' → Far d' → Q v' H'
theorem ints_flat {d : D} (t : Tm d) : ∀ i ∈ intsIn d, D.int i ∈ flat d := by
  induction t with
  | int u => intro i hi; simp [intsIn] at hi; subst hi; simp [flat]
  | tup x ds _ ih =>
    have e : intsIn (.tup (.str x :: ds)) = intsOf ds := by simp [intsIn, intsOf]
    have e2 : flat (.tup (.str x :: ds)) = .tup (.str x :: ds) :: flats ds := by simp [flat, flatT]
    rw [e, e2]
    intro i hi
    refine List.mem_cons_of_mem _ ?_
    clear e e2
    have go : ∀ cs : List D, (∀ c ∈ cs, c ∈ ds) → i ∈ intsOf cs → D.int i ∈ flats cs := by
      intro cs
      induction cs with
      | nil => intro _ h; simp [intsOf] at h
      | cons c r ih2 =>
        intro hc h
        simp only [intsOf, List.mem_append] at h
        simp only [flats, List.mem_append]
        rcases h with h | h
        · exact .inl (ih c (hc c List.mem_cons_self) i h)
        · exact .inr (ih2 (fun z hz => hc z (List.mem_cons_of_mem _ hz)) h)
    exact go ds (fun _ h => h) hi
theorem Grt.short {d : D} (g : Grt d) : ∀ i ∈ intsIn d, Short 13 20 i := fun i hi => by
  obtain ⟨a, b⟩ := g.un i (ints_flat g.tm i hi)
  exact short_small a (by omega)
/-- what putting values in makes of sizes -/
structure PutOk (f : Int → D) (d : D) : Prop where
  tm : Tm (putD f d)
  dp : (putD f d).deep ≤ d.deep + 20
  sz : (putD f d).size ≤ d.size + (intsIn d).length * 1400
  len : (intsIn (putD f d)).length ≤ (intsIn d).length * 81
  sh : ∀ i ∈ intsIn (putD f d), Short 13 20 i
theorem putOk_list {f : Int → D} {ds : List D} (h : ∀ d ∈ ds, PutOk f d) : deeps (puts f ds) ≤ deeps ds + 20 ∧ sizes (puts f ds) ≤ sizes ds + (intsOf ds).length * 1400 ∧ (intsOf (puts f ds)).length ≤ (intsOf ds).length * 81 ∧ ∀ i ∈ intsOf (puts f ds), Short 13 20 i := by
  induction ds with
  | nil => exact ⟨Nat.zero_le _, Nat.le_refl _, Nat.le_refl _, fun i hi => by simp [puts, intsOf] at hi⟩
  | cons d r ih =>
    obtain ⟨a, b, c, e⟩ := ih fun x hx => h x (List.mem_cons_of_mem _ hx)
    have hd := h d List.mem_cons_self
    have h1 := hd.dp
    have h2 := hd.sz
    have h3 := hd.len
    simp only [puts, deeps, sizes, intsOf, List.length_append, Nat.add_mul]
    refine ⟨by omega, by omega, by omega, fun i hi => ?_⟩
    rcases List.mem_append.mp hi with hi | hi
    · exact hd.sh i hi
    · exact e i hi
theorem putOk_of {f : Int → D} (hf : ∀ u, Grt (f u)) {d : D} (t : Tm d) : PutOk f d := by
  induction t with
  | int u =>
    have g := hf u
    have e : putD f (.int u) = f u := rfl
    have h1 := g.dp
    have h2 := g.sz
    have h3 := g.few
    refine ⟨by rw [e]; exact g.tm, by rw [e]; omega, ?_, ?_, by rw [e]; exact g.short⟩
    · rw [e]
      simp only [intsIn, List.length_singleton]
      omega
    · rw [e]
      simp only [intsIn, List.length_singleton]
      omega
  | tup x ds _ ih =>
    obtain ⟨a, b, c, e5⟩ := putOk_list ih
    have e : putD f (.tup (.str x :: ds)) = .tup (.str x :: puts f ds) := rfl
    have e2 : intsIn (.tup (.str x :: ds)) = intsOf ds := by simp [intsIn, intsOf]
    have e3 : intsIn (.tup (.str x :: puts f ds)) = intsOf (puts f ds) := by simp [intsIn, intsOf]
    refine ⟨?_, ?_, ?_, ?_, ?_⟩
    · rw [e]
      refine .tup x _ fun d hd => ?_
      rw [puts_map] at hd
      obtain ⟨d', h1, rfl⟩ := List.mem_map.mp hd
      exact (ih d' h1).tm
    · rw [e]
      simp only [D.deep, deeps]
      omega
    · rw [e, e2]
      simp only [D.size, sizes]
      omega
    · rw [e, e2, e3]
      exact c
    · rw [e, e3]
      exact e5
theorem intsOf_mem {i : Int} {ds : List D} (h : i ∈ intsOf ds) : ∃ d ∈ ds, i ∈ intsIn d := by
  induction ds with
  | nil => simp [intsOf] at h
  | cons c r ih =>
    simp only [intsOf, List.mem_append] at h
    rcases h with h | h
    · exact ⟨c, List.mem_cons_self, h⟩
    · obtain ⟨d, h1, h2⟩ := ih h
      exact ⟨d, List.mem_cons_of_mem _ h1, h2⟩
structure Grts (ds : List D) (n : Nat) : Prop where
  sz : sizes ds ≤ n * 1400
  dp : deeps ds ≤ 20
  few : (intsOf ds).length ≤ n * 81
  sh : ∀ i ∈ intsOf ds, Short 13 20 i
  nd : noDics ds = true
theorem grts_of {ds : List D} {n : Nat} (h : ∀ d ∈ ds, Grt d) (hn : ds.length ≤ n) : Grts ds n := by
  have h1 := sizes_le (n := 1416) fun d hd => by have := (h d hd).sz; omega
  have h2 := deeps_le fun d hd => (h d hd).dp
  have h3 := intsOf_len fun d hd => (h d hd).few
  have h4 : 1416 * ds.length ≤ 1416 * n := Nat.mul_le_mul_left _ hn
  have h5 : ds.length * 81 ≤ n * 81 := Nat.mul_le_mul_right _ hn
  refine ⟨?_, h2, by omega, fun i hi => ?_, noDics_of fun d hd => (h d hd).tm.noDic⟩
  · have : sizes ds ≤ 1400 * ds.length := by omega
    have : 1400 * ds.length ≤ 1400 * n := Nat.mul_le_mul_left _ hn
    omega
  · obtain ⟨d, h6, h7⟩ := intsOf_mem hi
    exact (h d h6).short i h7
/-- _law_put_right -/
def spPutRight : Sp := fun vs H Q _ => ∃ (b p nm : Addr) (xs : List Str) (la : Addr) (us : List V) (ds : List D), vs = [.ref b, .ref nm, .ref la] ∧ Bag b p H ∧ Names nm b H xs ∧ la ≠ b ∧ H la = some (.lst us) ∧ DvL (mask b H) us ds ∧ (∀ d ∈ ds, Grt d) ∧ ds.length ≤ 4 ∧
  ∀ H', Go b p H H' → Q (.bl true) H'
end Fm
set_option maxRecDepth 100000
set_option maxHeartbeats 3200000
/-! Fm: set(xs), xs a list of ints. -/
namespace Fm
open PySem PySem.Spec PyProof.Rows L2
section
variable {P : Program} {w : World} {A : Around} {E : Value → Shared → Prop} {s : Shared}
/-- set(x): what the new set's init does of x, in the heap with the new set -/
theorem set_of {a : Value} {Q : Value → Shared → Prop} (Z : Shared → Prop)
    (hi : wpAny (model P w) A.in1.in1 (Builtin.«set.__init__» ⟨[.ref s.heap.objs.size, a], []⟩) (fun fin s' => match fin with
        | Fin.done f => wants (fun r s₂ => r = .none ∧ Z s₂) E (.ok f) s'
        | Fin.again c' => c'.quiet = true ∧ codeAny (model P w) A.in1 c' (wants (fun r s₂ => r = .none ∧ Z s₂) E) s') (fun e s' => wants (fun r s₂ => r = .none ∧ Z s₂) E (.error e) s') { s with heap := s.heap.push (noSet w) })
    (h : ∀ s', Z s' → Q (.ref s.heap.objs.size) s') : wpAny (model P w) A (call (.type "set") [a]) Q E s := by
  have c := F.called_set
  obtain ⟨c0, tl, hmro⟩ := c.mro
  have hmade := c.made
  have hsub := c.sub
  have h1 := c.notType
  have h2 := c.canCreate
  have hct := F.typeCall_set_1 a
  refine wpAny_call (codeAny_of_tree ?_)
  show wpAny _ _ (callAny (.type "set") _) _ _ _
  refine wpAny_pure ⟨Code.quiet_builtin _ (by decide +kernel), codeAny_builtin F.entry_type_call ?_⟩
  rw [Around.under_plain (weight_type_call_type "set" [a] []) rfl]
  repeat (any_goals (first | assumption | wp_step))
  refine codeAny_mono (code_set_led1 a (E := E) (Q₁ := fun obj s₁ => obj = .ref s.heap.objs.size ∧ s₁ = { s with heap := s.heap.push (noSet w) }) ⟨rfl, rfl⟩) fun r s₁ hr => ?_
  cases r with
  | error e => exact hr
  | ok fl =>
    cases fl with
    | ret obj =>
      obtain ⟨rfl, rfl⟩ := hr
      have hS : (s.heap.push (noSet w)).get? s.heap.objs.size = some (noSet w) := Heap.get?_push_size _ rfl
      have hT : Shared.TypeIs { s with heap := s.heap.push (noSet w) } (.ref s.heap.objs.size) "set" := ⟨_, hS, rfl⟩
      have hli := F.called_set.init.lookup
      have hbi := F.called_set.init.bind (.ref s.heap.objs.size)
      repeat (any_goals (first | assumption | wp_step))
      refine codeAny_mono (codeAny_call_builtin (R := wants (fun r s₂ => r = .none ∧ Z s₂) E) F.called_set.init.plain F.entry_set_init (check_set_init_1 hT ?_)) fun r₂ s₂ hr₂ => ?_
      · exact hi
      · cases r₂ with
        | error e => exact hr₂
        | ok fl₂ =>
          cases fl₂ with
          | ret r =>
            obtain ⟨rfl, z⟩ := hr₂
            have hq := h _ z
            repeat (any_goals (first | assumption | wp_step))
          | _ => exact hr₂.elim
    | _ => exact hr.elim
/-- set(xs) of a list of ints: its members, at most as many as the ints -/
theorem set_ints {l : Addr} {items : Array Value} (ns : List Int) {Q : Value → Shared → Prop} (hh : A.handled = none) (hl : s.heap.IsList l items) (hit : IntsAre items.toList ns) (hb : ns.length + 1 < scanBound)
    (h : ∀ (h' : Heap) (tk c : Nat), SetR w h' s.heap.objs.size (fun j => decide (j ∈ ns)) c → c ≤ ns.length → (∀ b o, s.heap.get? b = some o → h'.get? b = some o) → Q (.ref s.heap.objs.size) { s with heap := h', toks := tk }) :
    wpAny (model P w) A (call (.type "set") [.ref l]) Q E s := by
  have hn : items.size = ns.length := by rw [← IntsAre.length hit, Array.length_toList]
  refine set_of (fun s' => ∃ h' tk c, s' = { s with heap := h', toks := tk } ∧ SetR w h' s.heap.objs.size (fun j => decide (j ∈ ns)) c ∧ c ≤ ns.length ∧ ∀ b o, s.heap.get? b = some o → h'.get? b = some o) ?_ ?_
  · have l1 : (s.heap.push (noSet w)).IsList l items := by
      obtain ⟨o, e, c1, c2, c3⟩ := hl
      exact ⟨o, Heap.get?_push_of_some _ e, c1, c2, c3⟩
    have lt : l < s.heap.objs.size := by
      obtain ⟨o, e, _⟩ := hl
      exact Heap.lt_size e
    have new : (s.heap.push (noSet w)).get? s.heap.objs.size = some (noSet w) := Heap.get?_push_size _ rfl
    have n1 : (s.heap.push (noSet w)).objs.size = s.heap.objs.size + 1 := Heap.size_push ..
    obtain ⟨⟨ocls, odict, odata, oslots⟩, e, c1, nl, c3⟩ := id l1
    simp only at c1 c3
    subst c1 c3
    have t1 := F.sub_list_set
    have t2 := F.sub_list_frozenset
    have t3 : (Value.type "list" == Value.type "dict") = false := by decide
    unfold Builtin.«set.__init__» noKeywords Builtin.Frozenset.updateFrom
    generalize hPI : pyIter = PI
    wp_walk
    subst hPI
    refine wpAny_pyIter_list l1 ?_
    refine wpAny_bind (wpAny_runValue ?_)
    have n2 : l ≠ (s.heap.push (noSet w)).objs.size := by
      rw [n1]
      exact Nat.ne_of_lt (Nat.lt_succ_of_lt lt)
    have n3 : s.heap.objs.size ∉ [(s.heap.push (noSet w)).objs.size, l] := by
      rw [n1]
      simp only [List.mem_cons, List.not_mem_nil, or_false, not_or]
      exact ⟨Nat.ne_of_lt (Nat.lt_succ_self _), Nat.ne_of_gt lt⟩
    have val : ∀ (i : Nat) (v : Value), items[i]? = some v → ∃ k t, ns[i]? = some k ∧ v = .int k t := fun i v hv => by
      have hi : i < ns.length := by rw [← hn]; exact (Array.getElem?_eq_some_iff.mp hv).1
      obtain ⟨t, e⟩ := PyProof.Rows.IntsAre.int_at hit i v (by rw [Array.getElem?_toList]; exact hv)
      refine ⟨ns[i], t, List.getElem?_eq_getElem hi, ?_⟩
      rw [e, List.getD_eq_getElem?_getD, List.getElem?_eq_getElem hi]
      rfl
    have hh3 : A.in1.in1.in1.handled = none := by simp [hh]
    refine set_update_ints ((Walks.list hh3 _ l n2 items).toS) s.heap.objs.size n3 ns hn hb val (items.size - 0) 0 _ (by omega) (Nat.zero_le _) ⟨⟨_, Heap.get?_push_size _ rfl, rfl, rfl⟩, l1.push _⟩ ⟨0, Nat.le_refl 0, setR_new_at (Heap.get?_push_of_some _ new)⟩ ?_
    intro s' c' hm hc' hS'
    obtain ⟨h', g2, d', tk', os'⟩ := s'
    have eg : g2 = s.gens := hm.gens
    have ed : d' = s.drawn := hm.drawn
    have eo : os' = s.os := hm.os
    subst eg ed eo
    rw [hn] at hc'
    refine wpAny_pure (wpAny_pure ⟨rfl, h', tk', c', rfl, hS', hc', fun b o eb => ?_⟩)
    have lb := Heap.lt_size eb
    refine hm.heap b o ?_ (Heap.get?_push_of_some _ (Heap.get?_push_of_some _ eb))
    simp only [List.mem_cons, List.not_mem_nil, or_false, not_or]
    exact ⟨Nat.ne_of_lt lb, by rw [n1]; exact Nat.ne_of_lt (Nat.lt_succ_of_lt lb)⟩
  · rintro s' ⟨h', tk, c, rfl, h1, h2, h3⟩
    exact h h' tk c h1 h2 h3
end
theorem nodup_len : ∀ {xs ys : List Int}, xs.Nodup → (∀ x ∈ xs, x ∈ ys) → xs.length ≤ ys.length
  | [], _, _, _ => Nat.zero_le _
  | x :: r, ys, h, k => by
    rw [List.nodup_cons] at h
    have hx := k x List.mem_cons_self
    have ih := nodup_len (xs := r) (ys := ys.erase x) h.2 fun y hy => by
      have ne : y ≠ x := fun e => h.1 (e ▸ hy)
      exact (List.mem_erase_of_ne ne).mpr (k y (List.mem_cons_of_mem _ hy))
    rw [List.length_erase_of_mem hx] at ih
    have pos : 0 < ys.length := List.length_pos_of_mem hx
    simp only [List.length_cons]
    omega
theorem setR_few {w : World} {h : Heap} {a : Addr} {ns : List Int} {c : Nat} (R : SetR w h a (fun j => decide (j ∈ ns)) c) : c ≤ (ns.foldl addI []).length := by
  obtain ⟨o, es, ep, t, _, _, _, _, nd, hm, _, _, hn, _⟩ := R
  have := nodup_len nd (ys := ns.foldl addI []) fun x hx => by
    have h1 := (hm x).mpr hx
    have h2 := of_decide_eq_true h1
    exact foldl_addI_mem.mpr (.inr h2)
  rw [List.length_map, Array.length_toList, hn] at this
  exact this
/-- two ascending lists with the same members are one -/
theorem asc_eq : ∀ {xs ys : List Int}, xs.Pairwise (· < ·) → ys.Pairwise (· < ·) → (∀ k, k ∈ xs ↔ k ∈ ys) → xs = ys
  | [], [], _, _, _ => rfl
  | [], y :: r, _, _, h => by have := (h y).mpr List.mem_cons_self; cases this
  | x :: r, [], _, _, h => by have := (h x).mp List.mem_cons_self; cases this
  | x :: r, y :: t, hx, hy, h => by
    rw [List.pairwise_cons] at hx hy
    have e : x = y := by
      have h1 := (h x).mp List.mem_cons_self
      have h2 := (h y).mpr List.mem_cons_self
      rcases List.mem_cons.mp h1 with e | h1
      · exact e
      · rcases List.mem_cons.mp h2 with e | h2
        · exact e.symm
        · have := hx.1 y h2
          have := hy.1 x h1
          omega
    subst e
    rw [asc_eq hx.2 hy.2 fun k => ?_]
    constructor
    · intro hk
      rcases List.mem_cons.mp ((h k).mp (List.mem_cons_of_mem _ hk)) with e | z
      · have := hx.1 k hk
        omega
      · exact z
    · intro hk
      rcases List.mem_cons.mp ((h k).mpr (List.mem_cons_of_mem _ hk)) with e | z
      · have := hy.1 k hk
        omega
      · exact z
section
variable {X : Cx}
/-- set(xs), a list of ints -/
def rSetI (K : PySem.W.Frag) (w : World) : List V → Hp → VK → Prop := fun xs H Q => ∃ (a : Addr) (ns : List Int), xs = [.ref a] ∧ SqL K H a (ns.map V.int) ∧ ns.length + 1 < scanBound ∧
  ∀ (p : Addr) (c : Nat), H p = none → c ≤ (ns.foldl addI []).length → Q (.ref p) (upd H p (SetO w p (fun j => decide (j ∈ ns)) c))
theorem cr_setI (hc : X.calm = true) : CallR X (.type "set") (rSetI X.K X.w) := by
  intro pins s σ H xs us Q I r h
  obtain ⟨a, ns, rfl, hs, hb, q⟩ := h
  rw [Vals.ref1 r]
  obtain ⟨its, rv, hl, hz⟩ := I.list hs
  have fresh : H s.heap.objs.size = none := I.hok.fresh (Nat.le_refl _)
  refine set_ints ns (I.ok.hd hc) hl.isList (by simpa using ints_of_vals rv) hb fun h' tk c R lc k => ?_
  exact ⟨.ref _, upd H s.heap.objs.size (SetO X.w s.heap.objs.size (fun j => decide (j ∈ ns)) c), I.laid (t' := tk) k (Nat.le_refl _) (setO_new R), rfl, q _ c fresh (setR_few R)⟩
end
/-- [f(bag, x) for x in xs]: each turn draws from the bag and gives new data over a base -/
theorem lc_bagN {K : PySem.W.Frag} {te : TE} {tt : TT} {σ : L2.St} {H Hb : Hp} {a b p : Addr} {xs : List V} {ds : List D} {j : Nat} {vs : List Nat} {Dl : Addr} {Qd : Hp → Prop} (good : D → Prop) (B : Bag b p H) (na : a ≠ b) (hT : H a = some (.lst xs)) (hd : DvL Hb xs ds) (hD : H Dl = none) (hz : xs.length ≤ 100000)
    (hw : ∀ x, wipe ((wipe σ vs).set j (some x)) vs = wipe σ vs) (he : ∀ σ' H' (R : Bool → Hp → Prop), R true H' → tt σ' H' R)
    (hv : ∀ (x : V) (d : D) (H' : Hp) (R : VK), Go b p H H' → d ∈ ds → Dv Hb x d → (∀ y H2 e, Go b p H' H2 → Dv (ovl Hb (newof H' H2)) y e → good e → R y H2) → te ((wipe σ vs).set j (some x)) H' R)
    (q : ∀ H' zs es, Go b p H H' → H' Dl = some (.lst zs) → DvL (ovl Hb (newof (upd H Dl (.lst [])) H')) zs es → (∀ e ∈ es, good e) → es.length = ds.length → Qd H') :
    ∃ W : Nat → Nat → Hp → Prop, (∃ m, W 0 m (upd H Dl (.lst []))) ∧ ∀ i m H, W i m H → ((Itl K a).stop i H ∧ Qd H) ∨ ((Itl K a).go i H ∧ ∃ Nx : Hp → Prop, (∀ H', Nx H' → ∃ m', m' < m ∧ W (i + 1) m' H') ∧
      ∀ x H', (Itl K a).yld i H x H' → gName j x (wipe σ vs) H' fun σ2 H2 => wipe σ2 vs = wipe σ vs ∧ tt σ2 H2 fun b H3 => if b = true then te σ2 H3 fun y H4 => ∃ acc, H4 Dl = some (.lst acc) ∧ acc.length < sizeLine ∧ Nx (upd H4 Dl (.lst (acc ++ [y]))) else Nx H3) := by
  have hlen := hd.len
  have nb := B.b_ne hD
  have h0 : (upd H Dl (.lst [])) Dl = some (.lst []) := upd_same
  have B1 : Bag b p (upd H Dl (.lst [])) := ((Go.refl B).new hD).B
  refine lc_it (walk_list (K := K) (a := a) (xs := xs)) (fun i H' => Go b p H H' ∧ ∃ zs es, H' Dl = some (.lst zs) ∧ DvL (ovl Hb (newof (upd H Dl (.lst [])) H')) zs es ∧ (∀ e ∈ es, good e) ∧ es.length = i)
    ⟨(Go.refl B).new hD, [], [], upd_same, .nil, fun _ h => (by cases h), rfl⟩ (fun i H' _ h => SqL.of (h.1.at na hT)) ?_ ?_
  · rintro i x H1 H1' hi ⟨g, zs, es, hl, hz2, hg, hn⟩ ⟨rfl, hx⟩
    obtain ⟨d, e1, hd1⟩ := hd.get hx
    refine ⟨hw _, he _ _ _ ?_⟩
    rw [if_pos rfl]
    refine hv x d H1' _ g (tk e1) hd1 fun y H2 e g2 hy ge => ⟨zs, g2.at nb hl, ?_, (g.trans g2).mut B hD, zs ++ [y], es ++ [e], upd_same, ?_, ?_, ?_⟩
    · have := hz2.len
      exact szl (by omega)
    · rw [newof_upd h0]
      refine (hz2.same (ovl_mono (newof_go B1 g2)) _ _).snoc (hy.same (ovl_mono (newof_lift fun c hc => ?_)) _ _)
      have n1 : c ≠ Dl := fun z => by
        rw [z, hl] at hc
        cases hc
      rw [upd_ne n1]
      exact g.free hc
    · intro e' he'
      rcases List.mem_append.mp he' with h | h
      · exact hg e' h
      · rw [List.mem_singleton.mp h]
        exact ge
    · rw [List.length_append, hn]
      rfl
  · rintro H' ⟨g, zs, es, hl, hz2, hg, hn⟩
    exact q H' zs es g hl hz2 hg (by omega)
end Fm
set_option maxRecDepth 100000
set_option maxHeartbeats 2000000
namespace Fm
open PySem PySem.Spec PyProof.Rows L2
theorem ints_of_flat {d : D} (t : Tm d) : ∀ i, D.int i ∈ flat d → i ∈ intsIn d := by
  induction t with
  | int u => intro i hi; simp [flat] at hi; subst hi; simp [intsIn]
  | tup x ds _ ih =>
    have e : intsIn (.tup (.str x :: ds)) = intsOf ds := by simp [intsIn, intsOf]
    have e2 : flat (.tup (.str x :: ds)) = .tup (.str x :: ds) :: flats ds := by simp [flat, flatT]
    rw [e, e2]
    intro i hi
    rcases List.mem_cons.mp hi with h | h
    · cases h
    clear e e2 hi
    induction ds with
    | nil => simp [flats] at h
    | cons c r ih2 =>
      simp only [flats, List.mem_append] at h
      simp only [intsOf, List.mem_append]
      rcases h with h | h
      · exact .inl (ih c List.mem_cons_self i h)
      · exact .inr (ih2 (fun c hc => by rename_i hall; exact hall c (List.mem_cons_of_mem _ hc)) (fun c hc => ih c (List.mem_cons_of_mem _ hc)) h)
theorem intsOf_in {i : Int} {d : D} : ∀ {ds : List D}, d ∈ ds → i ∈ intsIn d → i ∈ intsOf ds
  | [], h, _ => by cases h
  | x :: r, h, k => by
    simp only [intsOf, List.mem_append]
    rcases List.mem_cons.mp h with rfl | h
    · exact .inl k
    · exact .inr (intsOf_in h k)
/-- a list of terms whose told things can be shown -/
structure CaseOk (ds : List D) : Prop where
  tm : ∀ d ∈ ds, Tm d
  dp : deeps ds ≤ 30
  sz : sizes ds ≤ 5700
  few : (intsOf ds).length ≤ 324
  sh : ∀ i ∈ intsOf ds, Short 41 130 i
  nd : noDics ds = true
  un : (firstsOf ds).length ≤ 5
  len : ds.length ≤ 4
theorem caseOk_grt {ds : List D} (h : ∀ d ∈ ds, Grt d) (hn : ds.length ≤ 4) : CaseOk ds := by
  have g := grts_of h hn
  have h1 := g.sz
  have h2 := g.dp
  have h3 := g.few
  refine ⟨fun d hd => (h d hd).tm, by omega, by omega, by omega, fun i hi => (g.sh i hi).wide (by decide) (by decide) (by decide), g.nd, ?_, hn⟩
  have := nodup_len (firstsOf_nodup ds) (ys := [0, 1, 2, 3, 4]) fun u hu => by
    obtain ⟨d, hd, hf⟩ := flats_mem (firstsOf_mem.mp hu)
    obtain ⟨a, b⟩ := (h d hd).un u hf
    have : u = 0 ∨ u = 1 ∨ u = 2 ∨ u = 3 ∨ u = 4 := by omega
    simpa using this
  simpa using this
theorem caseOk_far {ds : List D} (h : ∀ d ∈ ds, Far d) (hn : ds.length ≤ 4) : CaseOk ds := by
  have h1 := sizes_le (n := 1416) fun d hd => by have := (h d hd).sz; omega
  have h2 := deeps_le fun d hd => (h d hd).dp
  have h3 := intsOf_len fun d hd => (h d hd).few
  have h4 : 1416 * ds.length ≤ 1416 * 4 := Nat.mul_le_mul_left _ hn
  have h5 : ds.length * 81 ≤ 4 * 81 := Nat.mul_le_mul_right _ hn
  refine ⟨fun d hd => (h d hd).tm, h2, by omega, by omega, fun i hi => ?_, noDics_of fun d hd => (h d hd).tm.noDic, ?_, hn⟩
  · obtain ⟨d, h6, h7⟩ := intsOf_mem hi
    rcases (h d h6).un i h7 with e | e | e | e
    · rw [e]; exact (short_small (by decide) (by decide)).wide (by decide) (by decide) (by decide)
    · rw [e]; exact (short_small (by decide) (by decide)).wide (by decide) (by decide) (by decide)
    · rw [e]; exact (short_small (by decide) (by decide)).wide (by decide) (by decide) (by decide)
    · rw [e]; exact short_far
  · have := nodup_len (firstsOf_nodup ds) (ys := [0, 5, 7, 10 ^ 39]) fun u hu => by
      obtain ⟨d, hd, hf⟩ := flats_mem (firstsOf_mem.mp hu)
      have : u = 0 ∨ u = 5 ∨ u = 7 ∨ u = 10 ^ 39 := (h d hd).un u (ints_of_flat (h d hd).tm u hf)
      simp only [List.mem_cons, List.not_mem_nil, or_false]
      exact this
    simp only [List.length_cons, List.length_nil] at this
    omega
theorem ops_len (ds : List D) : opsOf ds ≤ sizes ds := by
  have h1 := List.length_filter_le isT (flats ds)
  have h2 := flats_len ds
  unfold opsOf
  omega
theorem leaves_ints : ∀ {ds : List D}, (∀ d ∈ ds, Tm d) → leaves ds = intsOf ds := by
  have one : ∀ d, Tm d → leaf d = intsIn d := by
    intro d t
    induction t with
    | int u => simp [leaf, intsIn]
    | tup x ds _ ih =>
      have e : intsIn (.tup (.str x :: ds)) = intsOf ds := by simp [intsIn, intsOf]
      rw [e]
      show leaves ds = _
      clear e
      induction ds with
      | nil => rfl
      | cons c r ih2 =>
        have e3 : leaves (c :: r) = leaf c ++ leaves r := by rw [← leaves_one, ← leaves_app]; rfl
        rw [e3, ih c List.mem_cons_self, ih2 (fun c hc => by rename_i hall; exact hall c (List.mem_cons_of_mem _ hc)) (fun c hc => ih c (List.mem_cons_of_mem _ hc))]
        rfl
  intro ds
  induction ds with
  | nil => intro _; rfl
  | cons c r ih =>
    intro h
    have e3 : leaves (c :: r) = leaf c ++ leaves r := by rw [← leaves_one, ← leaves_app]; rfl
    rw [e3, one c (h c List.mem_cons_self), ih fun d hd => h d (List.mem_cons_of_mem _ hd)]
    rfl
theorem dvl_nums {H : Hp} : ∀ ns : List Int, DvL H (ns.map V.int) (ns.map D.int)
  | [] => .nil
  | n :: r => .cons (.int n) (dvl_nums r)
/-- what is told of terms -/
def dueD (ds : List D) (ns : List Int) : D := .lst [.int (opsOf ds : Nat), .lst (ns.map D.int), .lst (puts (numF ds) ds)]
theorem ints_facts : ∀ ns : List Int, sizes (ns.map D.int) = ns.length ∧ deeps (ns.map D.int) ≤ 1 ∧ intsOf (ns.map D.int) = ns ∧ noDics (ns.map D.int) = true
  | [] => ⟨rfl, Nat.zero_le _, rfl, rfl⟩
  | n :: r => by
    obtain ⟨a, b, c, e⟩ := ints_facts r
    refine ⟨?_, ?_, ?_, ?_⟩
    · simp only [List.map_cons, sizes, D.size, a, List.length_cons]; omega
    · simp only [List.map_cons, deeps, D.deep]; omega
    · simp only [List.map_cons, intsOf, intsIn, c]; rfl
    · simp only [List.map_cons, noDics, noDic, e]; rfl
theorem due_ok {ds : List D} {ns : List Int} {K : PySem.W.Frag} {H : Hp} {v : V} (c : CaseOk ds) (hn : ns.length ≤ 5) (hs : ∀ k ∈ ns, D.int k ∈ flats ds) (h : Dv H v (dueD ds ns)) :
    Dp K H v (pdOf (dueD ds ns)) ∧ SeqAt.shaped (pdOf (dueD ds ns)) = true ∧ (pdOf (dueD ds ns)).showable = true ∧ (pdOf (dueD ds ns)).hasDict = false ∧ (pdOf (dueD ds ns)).depth ≤ 60 ∧ (pdOf (dueD ds ns)).shown.length ≤ sizeLine := by
  obtain ⟨a1, a2, a3, a4⟩ := ints_facts ns
  have kf : ∀ u : Int, ∃ z : Int, numF ds u = .int z ∧ Short 13 20 z := fun u => ⟨_, rfl, short_small (by omega) (by
    have : (firstsOf ds).idxOf u ≤ (firstsOf ds).length := List.idxOf_le_length
    have := c.un
    omega)⟩
  have kf2 : ∀ u : Int, ∃ z : Int, numF ds u = .int z := fun u => ⟨_, rfl⟩
  obtain ⟨b1, b2, b3⟩ := kept_list fun d hd => kept_of kf2 (c.tm d hd)
  have b4 : noDics (puts (numF ds) ds) = true := noDics_of fun e he => by
    rw [puts_map] at he
    obtain ⟨d, hd, rfl⟩ := List.mem_map.mp he
    exact (kept_of kf2 (c.tm d hd)).tm.noDic
  have b5 : ∀ i ∈ intsOf (puts (numF ds) ds), Short 41 130 i := fun i hi => by
    obtain ⟨e, he, hi2⟩ := intsOf_mem hi
    rw [puts_map] at he
    obtain ⟨d, hd, rfl⟩ := List.mem_map.mp he
    exact (ints_put kf (c.tm d hd) i hi2).wide (by decide) (by decide) (by decide)
  have fi : intsIn (dueD ds ns) = (opsOf ds : Int) :: (ns ++ intsOf (puts (numF ds) ds)) := by
    simp [dueD, intsIn, intsOf, a3]
  have c1 := c.dp
  have c2 := c.sz
  have c3 := c.few
  have c4 := ops_len ds
  refine pd_ok (B := 41) (bits := 130) (by decide) h ?_ ?_ ?_ ?_
  · rw [fi]
    intro i hi
    rcases List.mem_cons.mp hi with rfl | hi
    · exact (short_small (by omega) (by omega)).wide (by decide) (by decide) (by decide)
    · rcases List.mem_append.mp hi with hi | hi
      · obtain ⟨d, hd, hf⟩ := flats_mem (hs i hi)
        refine c.sh i ?_
        have := ints_of_flat (c.tm d hd) i hf
        exact intsOf_in hd this
      · exact b5 i hi
  · simp [dueD, noDic, noDics, a4, b4]
  · simp only [dueD, D.deep, deeps, b1]
    omega
  · rw [fi]
    simp only [dueD, D.size, sizes, b2, a1, List.length_cons, List.length_append, b3]
    omega
theorem kept_ok {ds : List D} {K : PySem.W.Frag} {H : Hp} {v : V} (c : CaseOk ds) (h : Dv H v (.lst ds)) :
    Dp K H v (pdOf (.lst ds)) ∧ SeqAt.shaped (pdOf (.lst ds)) = true ∧ (pdOf (.lst ds)).showable = true ∧ (pdOf (.lst ds)).hasDict = false ∧ (pdOf (.lst ds)).depth ≤ 60 ∧ (pdOf (.lst ds)).shown.length ≤ sizeLine := by
  have c1 := c.dp
  have c2 := c.sz
  have c3 := c.few
  have fi : intsIn (.lst ds) = intsOf ds := by simp [intsIn]
  refine pd_ok (B := 41) (bits := 130) (by decide) h ?_ ?_ ?_ ?_
  · rw [fi]; exact c.sh
  · simp [noDic, c.nd]
  · simp only [D.deep]; omega
  · rw [fi]
    simp only [D.size]
    omega
end Fm
set_option maxRecDepth 100000
set_option maxHeartbeats 2000000
namespace Fm
open PySem PySem.Spec PyProof.Rows L2
open PySem.Builtin PySem.Builtin.Str
/-- a text of small letters -/
def Low (x : Str) : Prop := ∀ c ∈ x.cps.toList, 97 ≤ c ∧ c ≤ 122
/-- terms of names of small letters and of small unknowns -/
inductive TmL : D → Prop
  | int (i : Nat) : i < 10 → TmL (.int (i : Int))
  | tup (x : Str) (ds : List D) : Low x → (∀ d ∈ ds, TmL d) → TmL (.tup (.str x :: ds))
theorem low_prints : ∀ k, k < 26 → Unicode.isPrintable (97 + k) = true := by decide +kernel
theorem reprChar_low {c : Nat} (h : 97 ≤ c ∧ c ≤ 122) : reprChar 39 c = [c] := by
  have hp : Unicode.isPrintable c = true := by
    have := low_prints (c - 97) (by omega)
    rwa [show 97 + (c - 97) = c by omega] at this
  unfold reprChar
  rw [if_neg (by simp; omega), if_neg (by simp; omega), if_neg (by simp; omega), if_neg (by simp; omega), if_pos hp]
theorem fold_low : ∀ (l : List Nat) (acc : Array Nat), (∀ c ∈ l, 97 ≤ c ∧ c ≤ 122) → (l.foldl (fun out c => out ++ (reprChar 39 c).toArray) acc).toList = acc.toList ++ l
  | [], acc, _ => by simp
  | c :: r, acc, h => by
    rw [List.foldl_cons, fold_low r _ fun d hd => h d (List.mem_cons_of_mem _ hd), reprChar_low (h c List.mem_cons_self)]
    simp
theorem reprText_low {x : Str} (h : Low x) : (reprText x).cps.toList = 39 :: (x.cps.toList ++ [39]) := by
  have q : reprQuote x = 39 := by
    unfold reprQuote
    have : x.cps.contains 39 = false := by
      rw [Bool.eq_false_iff]
      intro e
      rw [Array.contains_iff_mem] at e
      have := h 39 (Array.mem_toList_iff.mpr e)
      omega
    rw [this]
    rfl
  unfold reprText
  rw [q]
  show (Array.push _ 39).toList = _
  rw [Array.toList_push, ← Array.foldl_toList, fold_low _ _ h]
  simp
mutual
def rt : D → List Nat
  | .int i => [48 + i.toNat]
  | .tup (.str x :: []) => 40 :: 39 :: (x.cps.toList ++ [39, 44, 41])
  | .tup (.str x :: d :: r) => 40 :: 39 :: (x.cps.toList ++ 39 :: (44 :: 32 :: rt d ++ rts r ++ [41]))
  | _ => []
def rts : List D → List Nat
  | [] => []
  | d :: r => 44 :: 32 :: rt d ++ rts r
end
def tails (ds : List D) : List Nat := match ds with
  | [] => [44, 41]
  | d :: r => rts (d :: r) ++ [41]
theorem rt_tup (x : Str) (ds : List D) : rt (.tup (.str x :: ds)) = 40 :: 39 :: (x.cps.toList ++ 39 :: tails ds) := by
  cases ds with
  | nil => simp [rt, tails]
  | cons d r => simp [rt, rts, tails]
theorem low_split : ∀ {xs ys : List Nat} {s t : List Nat}, (∀ c ∈ xs, 97 ≤ c ∧ c ≤ 122) → (∀ c ∈ ys, 97 ≤ c ∧ c ≤ 122) → xs ++ 39 :: s = ys ++ 39 :: t → xs = ys ∧ s = t
  | [], [], _, _, _, _, h => by simpa using h
  | [], y :: r, _, _, _, hy, h => by
    have := hy y List.mem_cons_self
    simp at h
    omega
  | x :: r, [], _, _, hx, _, h => by
    have := hx x List.mem_cons_self
    simp at h
    omega
  | x :: r, y :: r2, _, _, hx, hy, h => by
    simp only [List.cons_append, List.cons.injEq] at h
    obtain ⟨rfl, h⟩ := h
    obtain ⟨e, k⟩ := low_split (fun c hc => hx c (List.mem_cons_of_mem _ hc)) (fun c hc => hy c (List.mem_cons_of_mem _ hc)) h
    exact ⟨by rw [e], k⟩
/-- what one term's text and what stands behind it say -/
def Tells (a : D) : Prop := ∀ (b : D) (s t : List Nat), TmL b → rt a ++ s = rt b ++ t → a = b ∧ s = t
theorem rts_tell : ∀ {ds es : List D} {s t : List Nat}, (∀ d ∈ ds, Tells d) → (∀ e ∈ es, TmL e) → rts ds ++ 41 :: s = rts es ++ 41 :: t → ds = es ∧ s = t
  | [], [], _, _, _, _, h => by simpa [rts] using h
  | [], e :: r, _, _, _, _, h => by simp [rts] at h
  | d :: r, [], _, _, _, _, h => by simp [rts] at h
  | d :: r, e :: r2, s, t, hd, he, h => by
    simp only [rts, List.cons_append, List.append_assoc, List.cons.injEq, true_and] at h
    obtain ⟨rfl, k⟩ := hd d List.mem_cons_self e _ _ (he e List.mem_cons_self) h
    obtain ⟨rfl, k2⟩ := rts_tell (fun x hx => hd x (List.mem_cons_of_mem _ hx)) (fun x hx => he x (List.mem_cons_of_mem _ hx)) k
    exact ⟨rfl, k2⟩
theorem str_ext {x y : Str} (h : x.cps.toList = y.cps.toList) : x = y := by
  cases x
  cases y
  simp only [Str.mk.injEq]
  exact Array.toList_inj.mp h
theorem rt_tells {a : D} (h : TmL a) : Tells a := by
  induction h with
  | int i hi =>
    intro b s t hb e
    cases hb with
    | int j hj =>
      simp only [rt, List.cons_append, List.nil_append, List.cons.injEq, Int.toNat_natCast] at e
      obtain ⟨e, k⟩ := e
      exact ⟨by rw [show i = j by omega], k⟩
    | tup y es hy hes =>
      rw [rt_tup] at e
      simp only [rt, List.cons_append, List.nil_append, List.cons.injEq, Int.toNat_natCast] at e
      omega
  | tup x ds hx _ ih =>
    intro b s t hb e
    cases hb with
    | int j hj =>
      rw [rt_tup] at e
      simp only [rt, List.cons_append, List.nil_append, List.cons.injEq, Int.toNat_natCast] at e
      omega
    | tup y es hy hes =>
      rw [rt_tup, rt_tup] at e
      simp only [List.cons_append, List.append_assoc, List.cons.injEq, true_and] at e
      obtain ⟨e1, e2⟩ := low_split hx hy e
      cases str_ext e1
      cases ds with
      | nil =>
        cases es with
        | nil => simpa [tails] using e2
        | cons f r => simp [tails, rts] at e2
      | cons d r =>
        cases es with
        | nil => simp [tails, rts] at e2
        | cons f r2 =>
          simp only [tails, List.append_assoc, List.singleton_append] at e2
          obtain ⟨e3, e4⟩ := rts_tell ih hes e2
          exact ⟨by rw [e3], e4⟩
theorem cps_app (x y : Str) : (x ++ y).cps.toList = x.cps.toList ++ y.cps.toList := Array.toList_append
theorem join_rts : ∀ (ds : List D) (y : Str), (∀ d ∈ ds, (PyData.shown (pdOf d)).cps.toList = rt d) → (Str.join ", " (y :: PyData.shownAll (pdsOf ds))).cps.toList = y.cps.toList ++ rts ds
  | [], y, _ => by simp [PyData.shownAll, pdsOf, Str.join, rts]
  | d :: r, y, h => by
    have e : Str.join ", " (y :: PyData.shownAll (pdsOf (d :: r))) = y ++ ", " ++ Str.join ", " (PyData.shown (pdOf d) :: PyData.shownAll (pdsOf r)) := rfl
    rw [e, cps_app, cps_app, join_rts r _ fun x hx => h x (List.mem_cons_of_mem _ hx), h d List.mem_cons_self]
    have c : ((", " : String) : Str).cps.toList = [44, 32] := by decide
    rw [c]
    simp [rts]
theorem digit_text : ∀ i : Nat, i < 10 → (PyData.shown (.int (i : Int))).cps.toList = [48 + i] := by decide
theorem shown_rt {a : D} (h : TmL a) : (PyData.shown (pdOf a)).cps.toList = rt a := by
  induction h with
  | int i hi =>
    show (PyData.shown (.int (i : Int))).cps.toList = _
    rw [digit_text i hi]
    simp [rt]
  | tup x ds hx _ ih =>
    rw [rt_tup]
    have e : PyData.shown (pdOf (.tup (.str x :: ds))) = ("(" : Str) ++ Str.join ", " (reprText x :: PyData.shownAll (pdsOf ds)) ++ (if (reprText x :: PyData.shownAll (pdsOf ds)).length == 1 then ",)" else ")" : String) := rfl
    rw [e, cps_app, cps_app, join_rts ds _ ih, reprText_low hx]
    have c1 : ((("(" : String) : Str)).cps.toList = [40] := by decide
    have c2 : (((",)" : String) : Str)).cps.toList = [44, 41] := by decide
    have c3 : (((")" : String) : Str)).cps.toList = [41] := by decide
    rw [c1]
    cases ds with
    | nil =>
      have : ((reprText x :: PyData.shownAll (pdsOf [])).length == 1) = true := rfl
      rw [if_pos this, c2]
      simp [rts, tails]
    | cons d r =>
      have : ¬ ((reprText x :: PyData.shownAll (pdsOf (d :: r))).length == 1) = true := by
        simp [pdsOf, PyData.shownAll]
      rw [if_neg this, c3]
      simp [rts, tails]
/-- what is shown of terms tells them -/
theorem shown_inj {a b : D} (ha : TmL a) (hb : TmL b) (h : PyData.shown (pdOf a) = PyData.shown (pdOf b)) : a = b := by
  have e : rt a ++ [] = rt b ++ [] := by rw [← shown_rt ha, ← shown_rt hb, h]
  exact (rt_tells ha b [] [] hb e).1
end Fm
set_option maxRecDepth 100000
set_option maxHeartbeats 2000000
namespace Fm
open PySem PySem.Spec PyProof.Rows L2
def okL (x : Str) : Bool := x.cps.all fun c => decide (97 ≤ c) && decide (c ≤ 122)
theorem okL_iff {x : Str} : okL x = true ↔ Low x := by
  unfold okL Low
  rw [Array.all_eq_true_iff_forall_mem]
  constructor
  · intro h c hc
    have := h c (Array.mem_toList_iff.mp hc)
    simpa using this
  · intro h c hc
    simpa using h c (Array.mem_toList_iff.mpr hc)
theorem okL_ok {x : Str} (h : okL x = true) : PyData.strOk x = true := by
  have l := okL_iff.mp h
  unfold PyData.strOk
  rw [Array.all_eq_true_iff_forall_mem]
  intro c hc
  have := l c (Array.mem_toList_iff.mpr hc)
  simp
  omega
theorem okL_part {x y : Str} (h : okL x = true) (k : ∀ c ∈ y.cps.toList, c ∈ x.cps.toList) : okL y = true :=
  okL_iff.mpr fun c hc => okL_iff.mp h c (k c hc)
theorem okL_app {x y : Str} (hx : okL x = true) (hy : okL y = true) : okL (x ++ y) = true := by
  refine okL_iff.mpr fun c hc => ?_
  rw [cps_app] at hc
  rcases List.mem_append.mp hc with h | h
  · exact okL_iff.mp hx c h
  · exact okL_iff.mp hy c h
theorem okL_join {ys : List Str} (h : ∀ y ∈ ys, okL y = true) : okL (Txt.join "" ys) = true := by
  have e : Txt.join "" ys = Str.join "" ys := StrLaws.glued_eq_join _ _
  rw [e]
  clear e
  induction ys with
  | nil => decide +kernel
  | cons x r ih =>
    cases r with
    | nil => exact h x List.mem_cons_self
    | cons y r => exact okL_app (okL_app (h x List.mem_cons_self) (by decide +kernel)) (ih fun z hz => h z (List.mem_cons_of_mem _ hz))
theorem okL_cut {x : Str} {lo hi : Option Int} (h : okL x = true) : okL (cutS x lo hi) = true := by
  refine okL_part h fun c hc => ?_
  have e : (cutS x lo hi).cps.toList = (x.cps.toList.drop (HT.sIx x.cps.toList.length 0 lo)).take (HT.sIx x.cps.toList.length x.cps.toList.length hi - HT.sIx x.cps.toList.length 0 lo) := by
    first | rfl | simp [cutS]
  rw [e] at hc
  exact List.mem_of_mem_drop (List.mem_of_mem_take hc)
theorem dvl_strsL {H : Hp} {m : Nat} : ∀ {acc : List V} {ds : List D}, DvL H acc ds → (∀ d ∈ ds, ∃ x, d = .str x ∧ okL x = true ∧ x.length ≤ m) → ∃ ys : List Str, acc = ys.map V.str ∧ (∀ y ∈ ys, okL y = true ∧ y.length ≤ m) ∧ ys.length = ds.length
  | _, _, .nil, _ => ⟨[], rfl, fun _ h => (by cases h), rfl⟩
  | _, _, .cons a b, h => by
    obtain ⟨ys, e, f, g⟩ := dvl_strsL b fun d hd => h d (List.mem_cons_of_mem _ hd)
    obtain ⟨x, rfl, o, l⟩ := h _ List.mem_cons_self
    cases a
    refine ⟨x :: ys, by rw [e]; rfl, fun y hy => ?_, by simp [g]⟩
    rcases List.mem_cons.mp hy with rfl | hy
    · exact ⟨o, l⟩
    · exact f y hy
theorem sign_atL {x : Str} {i : Int} (h0 : 0 ≤ i) (h1 : i < x.length) : ∃ c, atI x.cps.toList i = some c ∧ (okL x = true → okL ⟨#[c]⟩ = true) := by
  obtain ⟨k, rfl⟩ := Int.eq_ofNat_of_zero_le h0
  have l : x.cps.toList.length = x.length := by simp [Str.length]
  have lt : k < x.cps.toList.length := by omega
  refine ⟨x.cps.toList[k], atI_nat (List.getElem?_eq_getElem lt), fun o => okL_part o fun c hc => ?_⟩
  simp only [List.mem_singleton] at hc
  rw [hc]
  exact List.getElem_mem lt
/-- some names of small letters -/
def spNamesL : Sp := fun vs H Q _ => ∃ b p n, vs = [.ref b, .int n] ∧ Bag b p H ∧ 0 ≤ n ∧ n ≤ 20 ∧
  ∀ (l : Addr) (H' : Hp) (xs : List Str), Go b p H H' → newof H H' l = some (.lst (xs.map V.str)) → (xs.length : Int) = n → (∀ x ∈ xs, okL x = true ∧ x.length ≤ 30) → Q (.ref l) H'
structure NamesL (nm b : Addr) (H : Hp) (xs : List Str) : Prop where
  at_ : H nm = some (.lst (xs.map V.str))
  ne : nm ≠ b
  pos : 1 ≤ xs.length
  few : xs.length ≤ 20
  ok : ∀ x ∈ xs, okL x = true ∧ x.length ≤ 30
theorem NamesL.go {nm b p : Addr} {H H' : Hp} {xs : List Str} (N : NamesL nm b H xs) (g : Go b p H H') : NamesL nm b H' xs := ⟨g.at N.ne N.at_, N.ne, N.pos, N.few, N.ok⟩
theorem NamesL.get {nm b : Addr} {H : Hp} {xs : List Str} (N : NamesL nm b H xs) {i : Int} (h0 : 0 ≤ i) (h1 : i < xs.length) : ∃ x, atI (xs.map V.str) i = some (.str x) ∧ okL x = true ∧ x.length ≤ 30 := by
  obtain ⟨k, rfl⟩ := Int.eq_ofNat_of_zero_le h0
  have lt : k < xs.length := by omega
  refine ⟨xs[k], atI_nat ?_, N.ok _ (List.getElem_mem lt)⟩
  rw [List.getElem?_map, List.getElem?_eq_getElem lt]
  rfl
def spTermL (m : Nat) : Sp := fun vs H Q _ => ∃ (b p nm : Addr) (xs : List Str) (many : Int) (k : Nat) (deep : Int), vs = [.ref b, .ref nm, .int many, .int deep] ∧ deep = (k : Int) ∧ Bag b p H ∧ NamesL nm b H xs ∧ 0 < many ∧ many ≤ 10 ∧ k < m ∧ k ≤ 100 ∧
  ∀ v H' d, Go b p H H' → Dv (newof H H') v d → TmL d → Sized k d → UnkL many k d → Q v H'
theorem TmL.tm {d : D} (h : TmL d) : Tm d := by
  induction h with
  | int i _ => exact .int _
  | tup x ds _ _ ih => exact .tup x ds ih
section
variable {X : Cx}
/-- x in a list of data -/
def rInD (K : PySem.W.Frag) (neg : Bool) : R2 := fun x y H Q => ∃ (d : PyData) (ds : List PyData), Dp K H x d ∧ Dp K H y (.list ds) ∧ PyData.canLayAll0 ds = true ∧ d.canLay0 = true ∧ min (PyData.depthAll ds) d.depth < 60 ∧
  Q (.bl (if neg then !(ds.any fun e => PyData.eqv e d) else ds.any fun e => PyData.eqv e d)) H
theorem op_inD (hu : X.A.units + 64 < cLine) : OpR X (compareOp .In) (rInD X.K false) := by
  intro pins s σ H x y v u Q I rx ry h
  obtain ⟨d, ds, hd, he, sd, se, dz, q⟩ := h
  obtain ⟨as, r1⟩ := Dp.reads I d x v hd rx
  obtain ⟨bs, r2⟩ := Dp.reads I _ y u he ry
  exact SeqAt.in_list_reads r2 r1 sd se (by omega) ⟨.bl _, H, I, rfl, q⟩
theorem op_niD (hu : X.A.units + 64 < cLine) : OpR X (compareOp .NotIn) (rInD X.K true) := by
  intro pins s σ H x y v u Q I rx ry h
  obtain ⟨d, ds, hd, he, sd, se, dz, q⟩ := h
  obtain ⟨as, r1⟩ := Dp.reads I d x v hd rx
  obtain ⟨bs, r2⟩ := Dp.reads I _ y u he ry
  exact SeqAt.notIn_list_reads r2 r1 sd se (by omega) ⟨.bl _, H, I, rfl, q⟩
end
end Fm
set_option maxRecDepth 100000
set_option maxHeartbeats 2000000
namespace Fm
open PySem PySem.Spec PyProof.Rows L2
/-- the first place of a keep at which a term stands -/
noncomputable def kAt (es : List D) (ks : List Nat) (d : D) : Option Nat := ks.find? fun a => open Classical in decide (es[a]? = some d)
def isNon : D → Bool
  | .non => true
  | _ => false
mutual
/-- what is built of a term, or nothing -/
def blt (k : D → Option Nat) : D → D
  | .tup (x :: ps) => match k (.tup (x :: ps)) with
    | some a => .int (a : Int)
    | none => if (blts k ps).any isNon then .non else .tup (x :: blts k ps)
  | d => match k d with
    | some a => .int (a : Int)
    | none => .non
def blts (k : D → Option Nat) : List D → List D
  | [] => []
  | d :: r => blt k d :: blts k r
end
theorem blts_map (k : D → Option Nat) (ds : List D) : blts k ds = ds.map (blt k) := by
  induction ds with
  | nil => rfl
  | cons d r ih => simp only [blts, List.map_cons, ih]
theorem blt_some {k : D → Option Nat} {d : D} {a : Nat} (h : k d = some a) : blt k d = .int (a : Int) := by
  unfold blt
  split
  · rw [h]
  · rw [h]
theorem blt_int {k : D → Option Nat} {u : Int} (h : k (.int u) = none) : blt k (.int u) = .non := by
  unfold blt
  rw [h]
theorem blt_tup {k : D → Option Nat} {x : D} {ps : List D} (h : k (.tup (x :: ps)) = none) : blt k (.tup (x :: ps)) = if (blts k ps).any isNon then .non else .tup (x :: blts k ps) := by
  unfold blt
  rw [h]
theorem kAt_some {es : List D} {ks : List Nat} {d : D} {a : Nat} (h : kAt es ks d = some a) : a ∈ ks ∧ es[a]? = some d := by
  unfold kAt at h
  refine ⟨List.mem_of_find?_eq_some h, ?_⟩
  have := List.find?_some h
  simpa using this
theorem kAt_none {es : List D} {ks : List Nat} {d : D} (h : kAt es ks d = none) : ∀ a ∈ ks, es[a]? ≠ some d := by
  unfold kAt at h
  intro a ha
  have := List.find?_eq_none.mp h a ha
  simpa using this
theorem kAt_snoc (es : List D) (ks : List Nat) (a : Nat) (d : D) : kAt es (ks ++ [a]) d = (kAt es ks d).or (open Classical in if es[a]? = some d then some a else none) := by
  unfold kAt
  rw [List.find?_append]
  congr 1
  by_cases h : es[a]? = some d
  · rw [List.find?_cons_of_pos (by simpa using h), if_pos h]
  · rw [List.find?_cons_of_neg (by simpa using h), if_neg h]
    rfl
theorem D.size_pos (d : D) : 1 ≤ d.size := by
  cases d <;> simp [D.size]
/-- what is built, put together, is the term again; its unknowns are kept places; it is a term -/
structure Bltd (es : List D) (ks : List Nat) (d : D) : Prop where
  tm : Tm (blt (kAt es ks) d)
  put : putD (fun u => es.getD u.toNat (.int 0)) (blt (kAt es ks) d) = d
  at_ : ∀ i ∈ intsIn (blt (kAt es ks) d), ∃ a ∈ ks, i = (a : Int)
  sz : (blt (kAt es ks) d).size ≤ d.size
  dp : (blt (kAt es ks) d).deep ≤ d.deep
  few : (intsIn (blt (kAt es ks) d)).length ≤ d.size
theorem bltd_int {es : List D} {ks : List Nat} {d : D} {a : Nat} (h : kAt es ks d = some a) : Bltd es ks d := by
  obtain ⟨h1, h2⟩ := kAt_some h
  have e := blt_some h
  have p := d.size_pos
  refine ⟨by rw [e]; exact .int _, ?_, ?_, by rw [e]; simp only [D.size]; exact p, by rw [e]; simp [D.deep], by rw [e]; simp only [intsIn, List.length_singleton]; exact p⟩
  · rw [e]
    show es.getD (a : Int).toNat (.int 0) = d
    rw [Int.toNat_natCast, List.getD_eq_getElem?_getD, h2]
    rfl
  · rw [e]
    intro i hi
    simp only [intsIn, List.mem_singleton] at hi
    exact ⟨a, h1, hi⟩
theorem bltds {es : List D} {ks : List Nat} : ∀ {ds : List D}, (∀ d ∈ ds, Bltd es ks d) → puts (fun u => es.getD u.toNat (.int 0)) (blts (kAt es ks) ds) = ds ∧ (∀ i ∈ intsOf (blts (kAt es ks) ds), ∃ a ∈ ks, i = (a : Int)) ∧ sizes (blts (kAt es ks) ds) ≤ sizes ds ∧ deeps (blts (kAt es ks) ds) ≤ deeps ds ∧ (intsOf (blts (kAt es ks) ds)).length ≤ sizes ds
  | [], _ => ⟨rfl, fun i hi => by simp [blts, intsOf] at hi, Nat.le_refl _, Nat.le_refl _, Nat.le_refl _⟩
  | d :: r, h => by
    obtain ⟨a, b, c, e, f⟩ := bltds fun x hx => h x (List.mem_cons_of_mem _ hx)
    have g := h d List.mem_cons_self
    have g1 := g.sz
    have g2 := g.dp
    have g3 := g.few
    refine ⟨?_, ?_, ?_, ?_, ?_⟩
    · simp only [blts, puts, g.put, a]
    · intro i hi
      simp only [blts, intsOf, List.mem_append] at hi
      rcases hi with hi | hi
      · exact g.at_ i hi
      · exact b i hi
    · simp only [blts, sizes]; omega
    · simp only [blts, deeps]; omega
    · simp only [blts, intsOf, sizes, List.length_append]; omega
theorem bltd {es : List D} {ks : List Nat} {d : D} (t : Tm d) : blt (kAt es ks) d = .non ∨ Bltd es ks d := by
  induction t with
  | int u =>
    cases h : kAt es ks (.int u) with
    | none => exact .inl (blt_int h)
    | some a => exact .inr (bltd_int h)
  | tup x ds _ ih =>
    cases h : kAt es ks (.tup (.str x :: ds)) with
    | some a => exact .inr (bltd_int h)
    | none =>
      have e := blt_tup h
      by_cases n : (blts (kAt es ks) ds).any isNon = true
      · exact .inl (by rw [e, if_pos n])
      · rw [if_neg n] at e
        have all : ∀ d ∈ ds, Bltd es ks d := fun d hd => by
          rcases ih d hd with z | z
          · refine absurd ?_ n
            rw [List.any_eq_true]
            refine ⟨.non, ?_, rfl⟩
            rw [blts_map]
            exact List.mem_map.mpr ⟨d, hd, z⟩
          · exact z
        obtain ⟨p1, p2, p3, p4, p5⟩ := bltds all
        refine .inr ⟨?_, ?_, ?_, ?_, ?_, ?_⟩
        · rw [e]
          refine .tup x _ fun c hc => ?_
          rw [blts_map] at hc
          obtain ⟨d, hd, rfl⟩ := List.mem_map.mp hc
          exact (all d hd).tm
        · rw [e]
          show D.tup (.str x :: puts _ _) = _
          rw [p1]
        · rw [e]
          intro i hi
          simp only [intsIn, intsOf, List.nil_append] at hi
          exact p2 i hi
        · rw [e]; simp only [D.size, sizes]; omega
        · rw [e]; simp only [D.deep, deeps]; omega
        · rw [e]; simp only [intsIn, intsOf, List.nil_append, D.size, sizes]; omega
/-- built -/
def spBuilt (K : PySem.W.Frag) : Sp := fun vs H Q _ => ∃ (v : V) (va ka : Addr) (ws : List V) (d : D) (es : List D) (ks : List Nat), vs = [v, .ref va, .ref ka] ∧ (SqL K H va ws ∨ SqT K H va ws) ∧ DvL H ws es ∧ Dv H v d ∧ Tm d ∧ (∀ e ∈ es, Tm e) ∧
  H ka = some (.lst (ks.map vI)) ∧ (∀ a ∈ ks, a < es.length) ∧ ks.length ≤ 100 ∧ d.size ≤ 10000 ∧ (∀ e ∈ es, e.size ≤ 450) ∧ ∀ (v' : V) (H' : Hp), Same H H' → Dv H' v' (blt (kAt es ks) d) → Q v' H'
/-- _law_built -/
def spLBuilt (K : PySem.W.Frag) (m : Nat) : Sp := fun vs H Q _ => ∃ (Hb : Hp) (v : V) (va ka : Addr) (ws : List V) (d : D) (es : List D) (ks : List Nat), vs = [v, .ref va, .ref ka] ∧ Same Hb H ∧ Hb va = some (.lst ws) ∧ DvL Hb ws es ∧ Dv Hb v d ∧ Tm d ∧ (∀ e ∈ es, Tm e) ∧
  Hb ka = some (.lst (ks.map vI)) ∧ (∀ a ∈ ks, a < es.length) ∧ ks.length ≤ 100 ∧ d.deep < m ∧ d.deep ≤ 30 ∧ d.size ≤ 10000 ∧ (∀ e ∈ es, e.size ≤ 10000 ∧ e.deep ≤ 30) ∧ ∀ (v' : V) (H' : Hp), Same H H' → Dv (ovl Hb (newof H H')) v' (blt (kAt es ks) d) → Q v' H'
end Fm
set_option maxRecDepth 100000
set_option maxHeartbeats 2000000
namespace Fm
open PySem PySem.Spec PyProof.Rows L2
theorem eqvs_tm : ∀ {as bs : List D}, (∀ a ∈ as, ∀ b, Tm b → (PyData.eqv (pdOf a) (pdOf b) = true ↔ a = b)) → (∀ b ∈ bs, Tm b) → (PyData.eqvAll (pdsOf as) (pdsOf bs) = true ↔ as = bs)
  | [], [], _, _ => by simp [pdsOf, PyData.eqvAll]
  | [], b :: r, _, _ => by simp [pdsOf, PyData.eqvAll]
  | a :: r, [], _, _ => by simp [pdsOf, PyData.eqvAll]
  | a :: r, b :: s, ha, hb => by
    simp only [pdsOf, PyData.eqvAll, Bool.and_eq_true]
    rw [ha a List.mem_cons_self b (hb b List.mem_cons_self), eqvs_tm (fun x hx => ha x (List.mem_cons_of_mem _ hx)) (fun x hx => hb x (List.mem_cons_of_mem _ hx))]
    simp
theorem eqv_tm {a : D} (t : Tm a) : ∀ b, Tm b → (PyData.eqv (pdOf a) (pdOf b) = true ↔ a = b) := by
  induction t with
  | int i =>
    intro b hb
    cases hb with
    | int j => simp [pdOf, PyData.eqv]
    | tup x ds _ => simp [pdOf, PyData.eqv]
  | tup x ds _ ih =>
    intro b hb
    cases hb with
    | int j => simp [pdOf, PyData.eqv]
    | tup y es he =>
      have e1 : pdOf (.tup (.str x :: ds)) = .tuple (.str x :: pdsOf ds) := rfl
      have e2 : pdOf (.tup (.str y :: es)) = .tuple (.str y :: pdsOf es) := rfl
      rw [e1, e2]
      simp only [PyData.eqv, PyData.eqvAll, Bool.and_eq_true, beq_iff_eq]
      rw [eqvs_tm ih he]
      simp
theorem tm_data {K : PySem.W.Frag} {H : Hp} {v : V} {d : D} (h : Dv H v d) (n : noDic d = true) (dz : d.deep ≤ 58) : Dp K H v (pdOf d) ∧ SeqAt.shaped (pdOf d) = true := by
  obtain ⟨a, b⟩ := dp_pd (K := K) d v h n
  refine ⟨a, ?_⟩
  unfold SeqAt.shaped
  rw [b]
  have := pd_depth d
  simp only [Bool.true_and, decide_eq_true_eq]
  omega
theorem any_non : ∀ {ds : List D}, (∀ d ∈ ds, d = .non ∨ Tm d) → ((pdsOf ds).any fun e => PyData.eqv e .none) = ds.any isNon
  | [], _ => rfl
  | d :: r, h => by
    have e : (pdsOf (d :: r)) = pdOf d :: pdsOf r := rfl
    rw [e, List.any_cons, List.any_cons, any_non fun x hx => h x (List.mem_cons_of_mem _ hx)]
    congr 1
    rcases h d List.mem_cons_self with rfl | t
    · rfl
    · cases t <;> rfl
theorem blt_or {es : List D} {ks : List Nat} {d : D} (t : Tm d) : blt (kAt es ks) d = .non ∨ Tm (blt (kAt es ks) d) := by
  rcases bltd (es := es) (ks := ks) t with h | h
  · exact .inl h
  · exact .inr h.tm
theorem blt_dp {es : List D} {ks : List Nat} {d : D} (t : Tm d) : (blt (kAt es ks) d).deep ≤ d.deep := by
  rcases bltd (es := es) (ks := ks) t with h | h
  · rw [h]; simp [D.deep]
  · exact h.dp
theorem blts_dp {es : List D} {ks : List Nat} {ds : List D} (t : ∀ d ∈ ds, Tm d) : deeps (blts (kAt es ks) ds) ≤ deeps ds := by
  induction ds with
  | nil => exact Nat.le_refl _
  | cons d r ih =>
    have h1 := blt_dp (es := es) (ks := ks) (t d List.mem_cons_self)
    have h2 := ih fun x hx => t x (List.mem_cons_of_mem _ hx)
    simp only [blts, deeps]
    omega
theorem noDic_or {d : D} (h : d = .non ∨ Tm d) : noDic d = true := by
  rcases h with rfl | t
  · rfl
  · exact t.noDic
/-- a list of built things as data -/
theorem blts_data {K : PySem.W.Frag} {H : Hp} {l : Addr} {zs : List V} {es : List D} {ks : List Nat} {ds : List D} (hl : H l = some (.lst zs)) (hz : DvL H zs (blts (kAt es ks) ds)) (t : ∀ d ∈ ds, Tm d) (dz : deeps ds ≤ 55) :
    Dp K H (.ref l) (.list (pdsOf (blts (kAt es ks) ds))) ∧ PyData.canLayAll0 (pdsOf (blts (kAt es ks) ds)) = true := by
  have n : noDics (blts (kAt es ks) ds) = true := noDics_of fun e he => by
    rw [blts_map] at he
    obtain ⟨d, hd, rfl⟩ := List.mem_map.mp he
    exact noDic_or (blt_or (t d hd))
  have nd : noDic (.lst (blts (kAt es ks) ds)) = true := by simp [noDic, n]
  obtain ⟨a, b⟩ := dp_pd (K := K) (.lst (blts (kAt es ks) ds)) (.ref l) (.lst hl hz) nd
  exact ⟨a, (dps_pd (K := K) _ _ hz n).2⟩
theorem blts_any {es : List D} {ks : List Nat} {ds : List D} (t : ∀ d ∈ ds, Tm d) : ((pdsOf (blts (kAt es ks) ds)).any fun e => PyData.eqv e .none) = (blts (kAt es ks) ds).any isNon :=
  any_non fun e he => by
    rw [blts_map] at he
    obtain ⟨d, hd, rfl⟩ := List.mem_map.mp he
    exact blt_or (t d hd)
theorem dv_non {H : Hp} {v : V} {d : D} (h : Dv H v d) : decide (v = .non) = isNon d := by
  cases h <;> simp [isNon]
theorem dvl_non {H : Hp} : ∀ {vs : List V} {ds : List D}, DvL H vs ds → (vs.map fun x => !decide (x = .non)).all id = !ds.any isNon
  | _, _, .nil => rfl
  | _, _, .cons a b => by
    rw [List.map_cons, List.all_cons, List.any_cons, dvl_non b, dv_non a]
    simp
theorem made_partsG {H : Hp} {ts : List D} {i : Nat} {g : D → D} {mv : List V} (hm : DvL H mv ((ts.take i).map g)) {js : List Nat} {ds : List D} (h : Ats (ts.take i) js ds) :
    DvL H ((js.map fun j : Nat => D.int (j : Int)).map (atV mv)) (ds.map g) := by
  induction h with
  | nil => exact .nil
  | @cons j d js ds a _ ih =>
    have e : ((ts.take i).map g)[j]? = some (g d) := by rw [List.getElem?_map, a]; rfl
    obtain ⟨v, e1, e2⟩ := hm.getD e
    have lt := (List.getElem?_eq_some_iff.mp e1).1
    have e3 := atV_get lt
    rw [e1] at e3
    injection e3 with e3
    refine .cons ?_ ih
    show Dv H (atV mv (.int (j : Int))) (g d)
    rw [← e3]
    exact e2
end Fm
namespace Fm
open PySem PySem.Spec PyProof.Rows L2
def spMixed : Sp := fun vs H Q _ => ∃ (b p la : Addr) (js : List Nat), vs = [.ref b, .ref la] ∧ Bag b p H ∧ la ≠ b ∧ H la = some (.lst (js.map vI)) ∧ js.length ≤ 100 ∧
  ∀ (l : Addr) (H' : Hp) (zs : List Nat), Go b p H H' → newof H H' l = some (.lst (zs.map vI)) → (∀ z ∈ zs, z ∈ js) → zs.length = js.length → Q (.ref l) H'
def spLParts (K : PySem.W.Frag) (m : Nat) : Sp := fun vs H Q _ => ∃ (Hb : Hp) (v : V) (d : D), vs = [v] ∧ Same Hb H ∧ Dv Hb v d ∧ Tm d ∧ d.deep < m ∧ d.size ≤ 10000 ∧
  ∀ (l : Addr) (H' : Hp) (us : List V), Same H H' → H l = none → H' l = some (.lst us) → DvL Hb us (flat d) → Q (.ref l) H'
/-- a term or value of the law -/
structure Drawn (d : D) : Prop where
  tm : TmL d
  dp : d.deep ≤ 3
  sz : d.size ≤ 450
def spLValues : Sp := fun vs H Q _ => ∃ (b p nm la : Addr) (xs : List Str) (us : List V) (ds : List D), vs = [.ref b, .ref nm, .ref la] ∧ Bag b p H ∧ NamesL nm b H xs ∧ la ≠ b ∧ H la = some (.lst us) ∧ DvL (mask b H) us ds ∧ (∀ d ∈ ds, Drawn d) ∧ 1 ≤ ds.length ∧ ds.length ≤ 3 ∧
  ∀ (l : Addr) (H' : Hp) (ws : List V) (es : List D), Go b p H H' → l ≠ b → H' l = some (.lst ws) → DvL (mask b H') ws es → (∀ e ∈ es, Drawn e) → es.length ≤ 6 → Q (.ref l) H'
theorem tmL_parts : ∀ {ds : List D} {e : D}, (∀ d ∈ ds, TmL d → ∀ x ∈ flat d, TmL x) → (∀ d ∈ ds, TmL d) → e ∈ flats ds → TmL e
  | [], e, _, _, h => by simp [flats] at h
  | d :: r, e, ih, ht, h => by
    simp only [flats, List.mem_append] at h
    rcases h with h | h
    · exact ih d List.mem_cons_self (ht d List.mem_cons_self) e h
    · exact tmL_parts (fun x hx => ih x (List.mem_cons_of_mem _ hx)) (fun x hx => ht x (List.mem_cons_of_mem _ hx)) h
theorem tmL_flat {d e : D} (t : TmL d) (h : e ∈ flat d) : TmL e := by
  induction t generalizing e with
  | int i hi =>
    simp only [flat, List.mem_singleton] at h
    rw [h]
    exact .int i hi
  | tup x ds lx ht ih =>
    have e2 : flat (.tup (.str x :: ds)) = .tup (.str x :: ds) :: flats ds := by simp [flat, flatT]
    rw [e2] at h
    rcases List.mem_cons.mp h with rfl | h
    · exact .tup x ds lx ht
    · exact tmL_parts (fun d hd _ x hx => ih d hd hx) ht h
theorem size_flats : ∀ (n : Nat) {ds : List D} {e : D}, sizes ds ≤ n → e ∈ flats ds → e.size ≤ sizes ds ∧ e.deep ≤ deeps ds
  | _, [], _, _, h => by simp [flats] at h
  | 0, d :: r, _, hn, _ => by
    have := d.size_pos
    simp only [sizes] at hn
    omega
  | n + 1, d :: r, e, hn, h => by
    simp only [flats, List.mem_append] at h
    have hp := d.size_pos
    simp only [sizes] at hn
    rcases h with h | h
    · rw [flat_eq] at h
      rcases List.mem_cons.mp h with rfl | h
      · simp only [sizes, deeps]; omega
      · have hs : sizes (parts d) + 1 ≤ d.size ∧ deeps (parts d) ≤ d.deep := by
          cases d with
          | tup ds =>
            cases ds with
            | nil => simp [parts, sizes, deeps, D.size, D.deep]
            | cons x r => simp only [parts, D.size, sizes, D.deep, deeps]; have := x.size_pos; omega
          | _ => simp [parts, sizes, deeps, D.size, D.deep]
        have := size_flats n (ds := parts d) (by omega) h
        simp only [sizes, deeps]
        omega
    · have := size_flats n (ds := r) (by omega) h
      simp only [sizes, deeps]
      omega
theorem size_flat {d e : D} (h : e ∈ flat d) : e.size ≤ d.size := by
  have := (size_flats _ (ds := [d]) (e := e) (Nat.le_refl _) (by simpa [flats] using h)).1
  simpa [sizes] using this
theorem deep_flat {d e : D} (h : e ∈ flat d) : e.deep ≤ d.deep := by
  have := (size_flats _ (ds := [d]) (e := e) (Nat.le_refl _) (by simpa [flats] using h)).2
  simpa [deeps] using this
end Fm
set_option maxRecDepth 100000
set_option maxHeartbeats 2000000
namespace Fm
open PySem PySem.Spec PyProof.Rows L2
/-- what is shown of a term -/
def sh (d : D) : Str := PyData.shown (pdOf d)
theorem nodup_lenA {α : Type} [DecidableEq α] : ∀ {xs ys : List α}, xs.Nodup → (∀ x ∈ xs, x ∈ ys) → xs.length ≤ ys.length
  | [], _, _, _ => Nat.zero_le _
  | x :: r, ys, h, k => by
    rw [List.nodup_cons] at h
    have hx := k x List.mem_cons_self
    have ih := nodup_lenA (xs := r) (ys := ys.erase x) h.2 fun y hy => by
      have ne : y ≠ x := fun e => h.1 (e ▸ hy)
      exact (List.mem_erase_of_ne ne).mpr (k y (List.mem_cons_of_mem _ hy))
    rw [List.length_erase_of_mem hx] at ih
    have pos : 0 < ys.length := List.length_pos_of_mem hx
    simp only [List.length_cons]
    omega
/-- the texts of what is known so far -/
structure Kn (es : List D) (ks : List Nat) (ds : List D) (kn : List Str) : Prop where
  ok : ∀ x ∈ kn, ∃ d, TmL d ∧ x = sh d ∧ blt (kAt es ks) d ≠ .non
  base : ∀ a ∈ ks, ∀ e, es[a]? = some e → sh e ∈ kn
  len : ∃ ex : List Str, kn.length = ks.length + ex.length ∧ ex.Nodup ∧ (∀ x ∈ ex, x ∈ (flats ds).map sh) ∧ ∀ x ∈ ex, x ∈ kn
/-- nothing is to be added for this part -/
def Clo (kn : List Str) (t : D) : Prop := ∀ x ps, t = .tup (x :: ps) → sh t ∈ kn ∨ ∃ p ∈ ps, sh p ∉ kn
theorem Kn.le {es : List D} {ks : List Nat} {ds : List D} {kn : List Str} (k : Kn es ks ds kn) : kn.length ≤ ks.length + (flats ds).length := by
  obtain ⟨ex, h1, h2, h3, _⟩ := k.len
  have := nodup_lenA h2 h3
  rw [List.length_map] at this
  omega
theorem blt_tup_non {k : D → Option Nat} {x : D} {ps : List D} (h : ∀ p ∈ ps, blt k p ≠ .non) : blt k (.tup (x :: ps)) ≠ .non := by
  cases c : k (.tup (x :: ps)) with
  | some a =>
    rw [blt_some c]
    exact fun e => by cases e
  | none =>
    rw [blt_tup c]
    have : (blts k ps).any isNon = false := by
      rw [Bool.eq_false_iff]
      intro e
      obtain ⟨y, hy, e2⟩ := List.any_eq_true.mp e
      rw [blts_map] at hy
      obtain ⟨p, hp, rfl⟩ := List.mem_map.mp hy
      refine h p hp ?_
      cases z : blt k p <;> rw [z] at e2 <;> first | rfl | cases e2
    rw [if_neg (by rw [this]; decide)]
    exact fun e => by cases e
theorem Kn.add {es : List D} {ks : List Nat} {ds : List D} {kn : List Str} (k : Kn es ks ds kn) {x : Str} {ps : List D} (t : TmL (.tup (.str x :: ps))) (ht : .tup (.str x :: ps) ∈ flats ds) (hn : sh (.tup (.str x :: ps)) ∉ kn)
    (hp : ∀ p ∈ ps, sh p ∈ kn) : Kn es ks ds (kn ++ [sh (.tup (.str x :: ps))]) := by
  obtain ⟨ex, h1, h2, h3, h4⟩ := k.len
  refine ⟨fun y hy => ?_, fun a ha e he => List.mem_append_left _ (k.base a ha e he), ex ++ [sh (.tup (.str x :: ps))], ?_, ?_, fun y hy => ?_, fun y hy => ?_⟩
  · rcases List.mem_append.mp hy with h | h
    · exact k.ok y h
    · rw [List.mem_singleton.mp h]
      refine ⟨_, t, rfl, blt_tup_non fun p hpm => ?_⟩
      obtain ⟨d, td, e, nb⟩ := k.ok _ (hp p hpm)
      have tp : TmL p := by
        cases t with
        | tup _ _ _ h => exact h p hpm
      rw [shown_inj tp td e]
      exact nb
  · simp only [List.length_append, List.length_singleton]
    omega
  · rw [List.nodup_append]
    refine ⟨h2, by simp, fun a ha b hb => ?_⟩
    rw [List.mem_singleton.mp hb]
    exact fun e => hn (e ▸ h4 a ha)
  · rcases List.mem_append.mp hy with h | h
    · exact h3 y h
    · rw [List.mem_singleton.mp h]
      exact List.mem_map.mpr ⟨_, ht, rfl⟩
  · rcases List.mem_append.mp hy with h | h
    · exact List.mem_append_left _ (h4 y h)
    · exact List.mem_append_right _ h
theorem flats_parts : ∀ (n : Nat) {ds : List D} {x : D} {ps : List D}, sizes ds ≤ n → .tup (x :: ps) ∈ flats ds → ∀ p ∈ ps, p ∈ flats ds
  | _, [], _, _, _, h => by simp [flats] at h
  | 0, d :: r, _, _, hn, _ => by
    have := d.size_pos
    simp only [sizes] at hn
    omega
  | n + 1, d :: r, x, ps, hn, h => by
    intro p hp
    simp only [flats, List.mem_append] at h ⊢
    have hz := d.size_pos
    simp only [sizes] at hn
    rcases h with h | h
    · left
      rw [flat_eq] at h ⊢
      rcases List.mem_cons.mp h with e | h
      · refine List.mem_cons_of_mem _ ?_
        rw [← e]
        exact mem_flats hp (by rw [flat_eq]; exact List.mem_cons_self)
      · have hs : sizes (parts d) + 1 ≤ d.size := by
          cases d with
          | tup ds =>
            cases ds with
            | nil => simp [parts, sizes, D.size]
            | cons x r => simp only [parts, D.size, sizes]; have := x.size_pos; omega
          | _ => simp [parts, sizes, D.size]
        exact List.mem_cons_of_mem _ (flats_parts n (ds := parts d) (by omega) h p hp)
    · exact .inr (flats_parts n (ds := r) (by omega) h p hp)
/-- at the end what is known is what can be built -/
theorem Kn.done {es : List D} {ks : List Nat} {ds : List D} {kn : List Str} (k : Kn es ks ds kn) (cl : ∀ t ∈ flats ds, Clo kn t) {d : D} (t : TmL d) (hd : d ∈ flats ds) : sh d ∈ kn ↔ blt (kAt es ks) d ≠ .non := by
  constructor
  · intro h
    obtain ⟨e, te, ee, nb⟩ := k.ok _ h
    rw [shown_inj t te ee]
    exact nb
  · induction t with
    | int i hi =>
      intro nb
      cases c : kAt es ks (.int (i : Int)) with
      | some a => exact k.base a (kAt_some c).1 _ (kAt_some c).2
      | none => exact absurd (blt_int c) nb
    | tup x ps lx _ ih =>
      intro nb
      cases c : kAt es ks (.tup (.str x :: ps)) with
      | some a => exact k.base a (kAt_some c).1 _ (kAt_some c).2
      | none =>
        rw [blt_tup c] at nb
        have nn : ¬ (blts (kAt es ks) ps).any isNon = true := fun e => nb (if_pos e)
        rcases cl _ hd _ _ rfl with h | ⟨p, hp, hn⟩
        · exact h
        · refine absurd (ih p hp (flats_parts _ (Nat.le_refl _) hd p hp) fun e => nn ?_) hn
          rw [List.any_eq_true]
          refine ⟨.non, ?_, rfl⟩
          rw [blts_map]
          exact List.mem_map.mpr ⟨p, hp, e⟩
theorem tmL_short {d : D} (t : TmL d) : ∀ i ∈ intsIn d, Short 13 20 i := by
  induction t with
  | int n hn =>
    intro i hi
    simp only [intsIn, List.mem_singleton] at hi
    rw [hi]
    exact short_small (by omega) (by omega)
  | tup x ds _ _ ih =>
    have e : intsIn (.tup (.str x :: ds)) = intsOf ds := by simp [intsIn, intsOf]
    rw [e]
    intro i hi
    obtain ⟨d, hd, h⟩ := intsOf_mem hi
    exact ih d hd i h
mutual
theorem ints_size : ∀ d : D, (intsIn d).length ≤ d.size
  | .non => by simp [intsIn]
  | .bl _ => by simp [intsIn]
  | .int _ => by simp [intsIn, D.size]
  | .str _ => by simp [intsIn]
  | .dic => by simp [intsIn]
  | .lst ds => by
    have := ints_sizes ds
    simp only [intsIn, D.size]
    omega
  | .tup ds => by
    have := ints_sizes ds
    simp only [intsIn, D.size]
    omega
theorem ints_sizes : ∀ ds : List D, (intsOf ds).length ≤ sizes ds
  | [] => by simp [intsOf]
  | d :: r => by
    have h1 := ints_size d
    have h2 := ints_sizes r
    simp only [intsOf, sizes, List.length_append]
    omega
end
theorem drawn_ok {K : PySem.W.Frag} {H : Hp} {v : V} {d : D} (dr : Drawn d) (h : Dv H v d) :
    Dp K H v (pdOf d) ∧ SeqAt.shaped (pdOf d) = true ∧ (pdOf d).showable = true ∧ (pdOf d).hasDict = false ∧ (pdOf d).depth ≤ 60 ∧ (pdOf d).shown.length ≤ sizeLine := by
  have h1 := dr.dp
  have h2 := dr.sz
  have h3 := ints_size d
  exact pd_ok (B := 13) (bits := 20) (by decide) h (tmL_short dr.tm) dr.tm.tm.noDic (by omega) (by omega)
theorem Drawn.flat {d e : D} (h : Drawn d) (he : e ∈ Fm.flat d) : Drawn e := by
  have h1 := h.dp
  have h2 := h.sz
  have h3 := size_flat he
  have h4 := deep_flat he
  exact ⟨tmL_flat h.tm he, by omega, by omega⟩
theorem drawn_flats {ds : List D} (h : ∀ d ∈ ds, Drawn d) : ∀ e ∈ flats ds, Drawn e := fun e he => by
  obtain ⟨d, hd, h2⟩ := flats_mem he
  exact (h d hd).flat h2
theorem drawn_sizes {ds : List D} {n : Nat} (h : ∀ d ∈ ds, Drawn d) (hn : ds.length ≤ n) : sizes ds ≤ n * 466 := by
  have h5 := sizes_le (n := 466) (ds := ds) fun e he => by have := (h e he).sz; omega
  have h7 : 466 * ds.length ≤ 466 * n := Nat.mul_le_mul_left _ hn
  omega
/-- the text of the value at a place -/
def shAt (es : List D) : V → V
  | .int j => .str (sh (es.getD j.toNat (.int 0)))
  | _ => .non
theorem shAt_map (es : List D) (ks : List Nat) : (ks.map vI).map (shAt es) = (ks.map fun a => sh (es.getD a (.int 0))).map V.str := by
  rw [List.map_map, List.map_map]
  refine List.map_congr_left fun a _ => ?_
  show V.str (sh (es.getD (a : Int).toNat (.int 0))) = _
  rw [Int.toNat_natCast]
  rfl
theorem Kn.first {es : List D} {ks : List Nat} {ds : List D} (hes : ∀ e ∈ es, Drawn e) (hks : ∀ a ∈ ks, a < es.length) : Kn es ks ds (ks.map fun a => sh (es.getD a (.int 0))) := by
  have at_ : ∀ a ∈ ks, es[a]? = some (es.getD a (.int 0)) := fun a ha => by
    rw [List.getD_eq_getElem?_getD, List.getElem?_eq_getElem (hks a ha)]
    rfl
  refine ⟨fun x hx => ?_, fun a ha e he => ?_, [], by simp, List.nodup_nil, fun x h => (by cases h), fun x h => by cases h⟩
  · obtain ⟨a, ha, rfl⟩ := List.mem_map.mp hx
    have h1 := at_ a ha
    refine ⟨_, (hes _ (List.mem_of_getElem? h1)).tm, rfl, ?_⟩
    cases c : kAt es ks (es.getD a (.int 0)) with
    | none => exact absurd h1 (kAt_none c a ha)
    | some b =>
      rw [blt_some c]
      exact fun e => by cases e
  · have h1 := at_ a ha
    rw [he] at h1
    rw [Option.some.inj h1]
    exact List.mem_map.mpr ⟨a, ha, rfl⟩
theorem inV_strs (x : Str) (ks : List Str) : inV (.str x) (ks.map V.str) = decide (x ∈ ks) := by
  unfold inV
  induction ks with
  | nil => simp
  | cons y r ih =>
    rw [List.map_cons, List.any_cons, ih]
    show (y == x || decide (x ∈ r)) = _
    by_cases e : y = x
    · subst e
      simp
    · have e2 : ¬ x = y := fun z => e z.symm
      simp [e, e2]
/-- _law_can -/
def spCan (K : PySem.W.Frag) : Sp := fun vs H Q _ => ∃ (lt lv lk : Addr) (us ws : List V) (ds es : List D) (ks : List Nat), vs = [.ref lt, .ref lv, .ref lk] ∧ H lt = some (.lst us) ∧ DvL H us ds ∧ (∀ d ∈ ds, Drawn d) ∧ ds.length ≤ 3 ∧ H lv = some (.lst ws) ∧ DvL H ws es ∧ (∀ e ∈ es, Drawn e) ∧ es.length ≤ 6 ∧
  H lk = some (.lst (ks.map vI)) ∧ (∀ a ∈ ks, a < es.length) ∧ ks.length ≤ 100 ∧
  ∀ (l : Addr) (H' : Hp) (kn : List Str), Same H H' → H l = none → H' l = some (.lst (kn.map V.str)) → (∀ d ∈ ds, (sh d ∈ kn ↔ blt (kAt es ks) d ≠ .non)) → Q (.ref l) H'
theorem rgV_vI (n : Nat) : rgV 0 (n : Int) = (List.range n).map vI := by
  unfold rgV
  rw [show ((n : Int) - 0).toNat = n by omega]
  refine List.map_congr_left fun i _ => ?_
  show V.int (0 + (i : Int)) = V.int (i : Int)
  rw [Int.zero_add]
theorem vI_ints (zs : List Nat) : zs.map vI = (zs.map fun z : Nat => (z : Int)).map V.int := by
  rw [List.map_map]
  rfl
theorem perm_nats {zs : List Nat} {ns : List Int} (h : ns.Perm (zs.map fun z : Nat => (z : Int))) : ∃ ks : List Nat, ns.map V.int = ks.map vI ∧ (∀ a ∈ ks, a ∈ zs) ∧ ks.length = zs.length := by
  have mem : ∀ n ∈ ns, ∃ z ∈ zs, n = (z : Int) := fun n hn => by
    obtain ⟨z, hz, e⟩ := List.mem_map.mp (h.mem_iff.mp hn)
    exact ⟨z, hz, e.symm⟩
  refine ⟨ns.map Int.toNat, ?_, fun a ha => ?_, by rw [List.length_map, h.length_eq, List.length_map]⟩
  · rw [List.map_map]
    refine List.map_congr_left fun n hn => ?_
    obtain ⟨z, _, rfl⟩ := mem n hn
    show V.int (z : Int) = V.int (((z : Int).toNat : Nat) : Int)
    rw [Int.toNat_natCast]
  · obtain ⟨n, hn, rfl⟩ := List.mem_map.mp ha
    obtain ⟨z, hz, rfl⟩ := mem n hn
    rw [Int.toNat_natCast]
    exact hz
theorem cut_nats (zs : List Nat) (lo hi : Option Int) : ∃ ys : List Nat, cutV (zs.map vI) lo hi = ys.map vI ∧ (∀ y ∈ ys, y ∈ zs) ∧ ys.length ≤ zs.length := by
  unfold cutV
  rw [List.length_map, ← List.map_drop, ← List.map_take]
  refine ⟨_, rfl, fun z hz => List.mem_of_mem_drop (List.mem_of_mem_take hz), ?_⟩
  rw [List.length_take, List.length_drop]
  omega
theorem drawn_of {k : Nat} {d : D} (t : TmL d) (s : Sized k d) (h : k ≤ 3) : Drawn d := by
  obtain ⟨a, b⟩ := s
  refine ⟨t, by omega, ?_⟩
  have : 3 ^ k ≤ 3 ^ 3 := Nat.pow_le_pow_right (by decide) h
  omega
theorem drawn_noDics {ds : List D} (h : ∀ d ∈ ds, Drawn d) : noDics ds = true := noDics_of fun d hd => (h d hd).tm.tm.noDic
theorem drawn_shorts {ds : List D} (h : ∀ d ∈ ds, Drawn d) : ∀ i ∈ intsOf ds, Short 13 20 i := fun i hi => by
  obtain ⟨d, hd, h2⟩ := intsOf_mem hi
  exact tmL_short (h d hd).tm i h2
/-- [values, keep, terms] -/
def allD (es ds : List D) (ks : List Nat) : D := .lst [.lst es, .lst ((ks.map fun a : Nat => (a : Int)).map D.int), .lst ds]
theorem all_ok {K : PySem.W.Frag} {H : Hp} {v : V} {es ds : List D} {ks : List Nat} (h : Dv H v (allD es ds ks)) (hes : ∀ e ∈ es, Drawn e) (les : es.length ≤ 6) (hds : ∀ d ∈ ds, Drawn d) (lds : ds.length ≤ 3) (hks : ∀ a ∈ ks, a < es.length) (hkl : ks.length ≤ 100) :
    Dp K H v (pdOf (allD es ds ks)) ∧ SeqAt.shaped (pdOf (allD es ds ks)) = true ∧ (pdOf (allD es ds ks)).showable = true ∧ (pdOf (allD es ds ks)).hasDict = false ∧ (pdOf (allD es ds ks)).depth ≤ 60 ∧ (pdOf (allD es ds ks)).shown.length ≤ sizeLine := by
  obtain ⟨a1, a2, a3, a4⟩ := ints_facts (ks.map fun a : Nat => (a : Int))
  rw [List.length_map] at a1
  have z1 := drawn_sizes hes les
  have z2 := drawn_sizes hds lds
  have i1 := ints_sizes es
  have i2 := ints_sizes ds
  have d1 := deeps_le fun d hd => (hes d hd).dp
  have d2 := deeps_le fun d hd => (hds d hd).dp
  have n1 := drawn_noDics hes
  have n2 := drawn_noDics hds
  have fi : intsIn (allD es ds ks) = intsOf es ++ ((ks.map fun a : Nat => (a : Int)) ++ intsOf ds) := by
    simp only [allD, intsIn, intsOf, a3, List.append_nil]
  refine pd_ok (B := 13) (bits := 20) (by decide) h ?_ ?_ ?_ ?_
  · rw [fi]
    intro i hi
    rcases List.mem_append.mp hi with hi | hi
    · exact drawn_shorts hes i hi
    · rcases List.mem_append.mp hi with hi | hi
      · obtain ⟨a, ha, rfl⟩ := List.mem_map.mp hi
        have := hks a ha
        exact short_small (by omega) (by omega)
      · exact drawn_shorts hds i hi
  · simp only [allD, noDic, noDics, a4, n1, n2, Bool.and_self]
  · simp only [allD, D.deep, deeps]
    omega
  · rw [fi]
    simp only [allD, D.size, sizes, a1, List.length_append, List.length_map]
    omega
theorem all_dv {H : Hp} {q lv lk ld : Addr} {ws us : List V} {es ds : List D} {ks : List Nat} (hq : H q = some (.lst [.ref lv, .ref lk, .ref ld])) (h1 : H lv = some (.lst ws)) (h2 : DvL H ws es) (h3 : H lk = some (.lst (ks.map vI))) (h4 : H ld = some (.lst us)) (h5 : DvL H us ds) : Dv H (.ref q) (allD es ds ks) := by
  refine .lst hq (.cons (.lst h1 h2) (.cons (.lst h3 ?_) (.cons (.lst h4 h5) .nil)))
  rw [vI_ints]
  exact dvl_nums _
theorem blt_ok {K : PySem.W.Frag} {H : Hp} {v : V} {es : List D} {ks : List Nat} {d : D} (dr : Drawn d) (les : es.length ≤ 6) (hks : ∀ a ∈ ks, a < es.length) (h : Dv H v (blt (kAt es ks) d)) :
    Dp K H v (pdOf (blt (kAt es ks) d)) ∧ SeqAt.shaped (pdOf (blt (kAt es ks) d)) = true ∧ (pdOf (blt (kAt es ks) d)).showable = true ∧ (pdOf (blt (kAt es ks) d)).hasDict = false ∧ (pdOf (blt (kAt es ks) d)).depth ≤ 60 ∧ (pdOf (blt (kAt es ks) d)).shown.length ≤ sizeLine := by
  have d1 := dr.dp
  have d2 := dr.sz
  rcases bltd (es := es) (ks := ks) dr.tm.tm with e | b
  · rw [e] at h ⊢
    exact pd_ok (B := 13) (bits := 20) (by decide) h (fun i hi => by simp [intsIn] at hi) rfl (by simp [D.deep]) (by simp [D.size, intsIn])
  · have b1 := b.sz
    have b2 := b.dp
    have b3 := b.few
    refine pd_ok (B := 13) (bits := 20) (by decide) h (fun i hi => ?_) b.tm.noDic (by omega) (by omega)
    obtain ⟨a, ha, rfl⟩ := b.at_ i hi
    have := hks a ha
    exact short_small (by omega) (by omega)
theorem isNon_iff (e : D) : Fm.isNon e = true ↔ e = .non := by
  cases e <;> simp [Fm.isNon]
end Fm
set_option maxRecDepth 100000
set_option maxHeartbeats 2000000
namespace K13
open PySem PySem.Spec PyProof.Rows L2 Fm
/-- the i-th statement of the text -/
def top (i : Nat) : Stmt := PySem.Challenge.pw_framemoves_k13_whole_terms_built.main.body.getD i (.Pass ⟨0, 0, 0, 0⟩)
abbrev s_laid_out : Stmt := top 1
abbrev N_laid_out : List Str := ["terms", "found", "ahead", "term"]
theorem sc_laid_out : FnScope N_laid_out ["terms"] (defScope s_laid_out) := ⟨rfl, rfl, rfl, by decide +kernel, rfl, by decide +kernel, by decide +kernel⟩
abbrev s_shared : Stmt := top 2
abbrev N_shared : List Str := ["terms", "numbers", "waiting", "term", "parts", "_", "key"]
theorem sc_shared : FnScope N_shared ["terms"] (defScope s_shared) := ⟨rfl, rfl, rfl, by decide +kernel, rfl, by decide +kernel, by decide +kernel⟩
abbrev s_built : Stmt := top 4
abbrev N_built : List Str := ["term", "values", "keep", "nodes", "tops", "kept", "at", "top", "made", "number", "node", "parts", "part"]
theorem sc_built : FnScope N_built ["term", "values", "keep"] (defScope s_built) := ⟨rfl, rfl, rfl, by decide +kernel, rfl, by decide +kernel, by decide +kernel⟩
abbrev s__law_bag : Stmt := top 6
abbrev N__law_bag : List Str := ["_law_script", "_law_cell"]
theorem sc__law_bag : FnScope N__law_bag ["_law_script"] (defScope s__law_bag) := ⟨rfl, rfl, rfl, by decide +kernel, rfl, by decide +kernel, by decide +kernel⟩
abbrev s__law_take : Stmt := top 7
abbrev N__law_take : List Str := ["_law_bag_here", "_law_many", "_law_cell", "_law_mixed_here", "_law_value", "_law_begin", "_law_second"]
theorem sc__law_take : FnScope N__law_take ["_law_bag_here", "_law_many"] (defScope s__law_take) := ⟨rfl, rfl, rfl, by decide +kernel, rfl, by decide +kernel, by decide +kernel⟩
abbrev s__law_alike : Stmt := top 8
abbrev N__law_alike : List Str := ["_law_found", "_law_due"]
theorem sc__law_alike : FnScope N__law_alike ["_law_found", "_law_due"] (defScope s__law_alike) := ⟨rfl, rfl, rfl, by decide +kernel, rfl, by decide +kernel, by decide +kernel⟩
abbrev s__law_mixed : Stmt := top 9
abbrev N__law_mixed : List Str := ["_law_bag_here", "_law_things", "_law_found", "_law_thing"]
theorem sc__law_mixed : FnScope N__law_mixed ["_law_bag_here", "_law_things"] (defScope s__law_mixed) := ⟨rfl, rfl, rfl, by decide +kernel, rfl, by decide +kernel, by decide +kernel⟩
abbrev s__law_names : Stmt := top 10
abbrev N__law_names : List Str := ["_law_bag_here", "_law_many", "_law_letters", "_law_words", "_law_way", "_law_turn", "_law_base", "_law_at", "_law_k"]
theorem sc__law_names : FnScope N__law_names ["_law_bag_here", "_law_many"] (defScope s__law_names) := ⟨rfl, rfl, rfl, by decide +kernel, rfl, by decide +kernel, by decide +kernel⟩
abbrev s__law_term : Stmt := top 11
abbrev N__law_term : List Str := ["_law_bag_here", "_law_names_here", "_law_many", "_law_deep", "_law_way", "_law_name", "_law_parts_here", "_law_k"]
theorem sc__law_term : FnScope N__law_term ["_law_bag_here", "_law_names_here", "_law_many", "_law_deep"] (defScope s__law_term) := ⟨rfl, rfl, rfl, by decide +kernel, rfl, by decide +kernel, by decide +kernel⟩
abbrev s__law_put : Stmt := top 12
abbrev N__law_put : List Str := ["_law_term_here", "_law_values_here", "_law_part"]
theorem sc__law_put : FnScope N__law_put ["_law_term_here", "_law_values_here"] (defScope s__law_put) := ⟨rfl, rfl, rfl, by decide +kernel, rfl, by decide +kernel, by decide +kernel⟩
abbrev s__law_leaves : Stmt := top 13
abbrev N__law_leaves : List Str := ["_law_terms", "_law_found", "_law_term_here"]
theorem sc__law_leaves : FnScope N__law_leaves ["_law_terms"] (defScope s__law_leaves) := ⟨rfl, rfl, rfl, by decide +kernel, rfl, by decide +kernel, by decide +kernel⟩
abbrev s__law_built : Stmt := top 14
abbrev N__law_built : List Str := ["_law_term_here", "_law_values_here", "_law_keep", "_law_at", "_law_parts_here", "_law_part"]
theorem sc__law_built : FnScope N__law_built ["_law_term_here", "_law_values_here", "_law_keep"] (defScope s__law_built) := ⟨rfl, rfl, rfl, by decide +kernel, rfl, by decide +kernel, by decide +kernel⟩
abbrev s__law_parts : Stmt := top 15
abbrev N__law_parts : List Str := ["_law_term_here", "_law_found", "_law_part"]
theorem sc__law_parts : FnScope N__law_parts ["_law_term_here"] (defScope s__law_parts) := ⟨rfl, rfl, rfl, by decide +kernel, rfl, by decide +kernel, by decide +kernel⟩
abbrev s__law_can : Stmt := top 16
abbrev N__law_can : List Str := ["_law_terms", "_law_values_here", "_law_keep", "_law_known", "_law_before", "_law_inner", "_law_term_here", "_law_part", "_law_at", "_law_one"]
theorem sc__law_can : FnScope N__law_can ["_law_terms", "_law_values_here", "_law_keep"] (defScope s__law_can) := ⟨rfl, rfl, rfl, by decide +kernel, rfl, by decide +kernel, by decide +kernel⟩
abbrev s__law_values : Stmt := top 17
abbrev N__law_values : List Str := ["_law_bag_here", "_law_names_here", "_law_terms", "_law_parts_here", "_law_found", "_law_term_here", "_law_k", "_law_some"]
theorem sc__law_values : FnScope N__law_values ["_law_bag_here", "_law_names_here", "_law_terms"] (defScope s__law_values) := ⟨rfl, rfl, rfl, by decide +kernel, rfl, by decide +kernel, by decide +kernel⟩
abbrev s_law : Stmt := top 18
abbrev N_law : List Str := ["_law_script", "_law_bag_here", "_law_names_here", "_law_turn", "_law_terms", "_law_values_here", "_law_keep", "_law_known", "_law_handed", "_law_kept", "_law_term_here", "_law_again", "_law_found", "_law_used", "_law_k", "_law_at"]
theorem sc_law : FnScope N_law ["_law_script"] (defScope s_law) := ⟨rfl, rfl, rfl, by decide +kernel, rfl, by decide +kernel, by decide +kernel⟩
/-- what the top has written: where each def stands, what names are still the built-in ones -/
structure Txt (K : PySem.W.Frag) (mg : Str → Option Value) where
  a_laid_out : Addr
  d_laid_out : FuncData
  F_laid_out : Fun K "laid_out" "laid_out" s_laid_out a_laid_out d_laid_out
  f_laid_out : mg "laid_out" = some (.ref a_laid_out)
  b_laid_out : Binds K d_laid_out ["terms"] []
  a_shared : Addr
  d_shared : FuncData
  F_shared : Fun K "shared" "shared" s_shared a_shared d_shared
  f_shared : mg "shared" = some (.ref a_shared)
  b_shared : Binds K d_shared ["terms"] []
  a_built : Addr
  d_built : FuncData
  F_built : Fun K "built" "built" s_built a_built d_built
  f_built : mg "built" = some (.ref a_built)
  b_built : Binds K d_built ["term", "values", "keep"] []
  a__law_bag : Addr
  d__law_bag : FuncData
  F__law_bag : Fun K "_law_bag" "_law_bag" s__law_bag a__law_bag d__law_bag
  f__law_bag : mg "_law_bag" = some (.ref a__law_bag)
  b__law_bag : Binds K d__law_bag ["_law_script"] []
  a__law_take : Addr
  d__law_take : FuncData
  F__law_take : Fun K "_law_take" "_law_take" s__law_take a__law_take d__law_take
  f__law_take : mg "_law_take" = some (.ref a__law_take)
  b__law_take : Binds K d__law_take ["_law_bag_here", "_law_many"] []
  a__law_alike : Addr
  d__law_alike : FuncData
  F__law_alike : Fun K "_law_alike" "_law_alike" s__law_alike a__law_alike d__law_alike
  f__law_alike : mg "_law_alike" = some (.ref a__law_alike)
  b__law_alike : Binds K d__law_alike ["_law_found", "_law_due"] []
  a__law_mixed : Addr
  d__law_mixed : FuncData
  F__law_mixed : Fun K "_law_mixed" "_law_mixed" s__law_mixed a__law_mixed d__law_mixed
  f__law_mixed : mg "_law_mixed" = some (.ref a__law_mixed)
  b__law_mixed : Binds K d__law_mixed ["_law_bag_here", "_law_things"] []
  a__law_names : Addr
  d__law_names : FuncData
  F__law_names : Fun K "_law_names" "_law_names" s__law_names a__law_names d__law_names
  f__law_names : mg "_law_names" = some (.ref a__law_names)
  b__law_names : Binds K d__law_names ["_law_bag_here", "_law_many"] []
  a__law_term : Addr
  d__law_term : FuncData
  F__law_term : Fun K "_law_term" "_law_term" s__law_term a__law_term d__law_term
  f__law_term : mg "_law_term" = some (.ref a__law_term)
  b__law_term : Binds K d__law_term ["_law_bag_here", "_law_names_here", "_law_many", "_law_deep"] []
  a__law_put : Addr
  d__law_put : FuncData
  F__law_put : Fun K "_law_put" "_law_put" s__law_put a__law_put d__law_put
  f__law_put : mg "_law_put" = some (.ref a__law_put)
  b__law_put : Binds K d__law_put ["_law_term_here", "_law_values_here"] []
  a__law_leaves : Addr
  d__law_leaves : FuncData
  F__law_leaves : Fun K "_law_leaves" "_law_leaves" s__law_leaves a__law_leaves d__law_leaves
  f__law_leaves : mg "_law_leaves" = some (.ref a__law_leaves)
  b__law_leaves : Binds K d__law_leaves ["_law_terms"] []
  a__law_built : Addr
  d__law_built : FuncData
  F__law_built : Fun K "_law_built" "_law_built" s__law_built a__law_built d__law_built
  f__law_built : mg "_law_built" = some (.ref a__law_built)
  b__law_built : Binds K d__law_built ["_law_term_here", "_law_values_here", "_law_keep"] []
  a__law_parts : Addr
  d__law_parts : FuncData
  F__law_parts : Fun K "_law_parts" "_law_parts" s__law_parts a__law_parts d__law_parts
  f__law_parts : mg "_law_parts" = some (.ref a__law_parts)
  b__law_parts : Binds K d__law_parts ["_law_term_here"] []
  a__law_can : Addr
  d__law_can : FuncData
  F__law_can : Fun K "_law_can" "_law_can" s__law_can a__law_can d__law_can
  f__law_can : mg "_law_can" = some (.ref a__law_can)
  b__law_can : Binds K d__law_can ["_law_terms", "_law_values_here", "_law_keep"] []
  a__law_values : Addr
  d__law_values : FuncData
  F__law_values : Fun K "_law_values" "_law_values" s__law_values a__law_values d__law_values
  f__law_values : mg "_law_values" = some (.ref a__law_values)
  b__law_values : Binds K d__law_values ["_law_bag_here", "_law_names_here", "_law_terms"] []
  a_law : Addr
  d_law : FuncData
  F_law : Fun K "law" "law" s_law a_law d_law
  f_law : mg "law" = some (.ref a_law)
  b_law : Binds K d_law ["_law_script"] []
  m_abs : mg "abs" = none
  m_all : mg "all" = none
  m_enumerate : mg "enumerate" = none
  m_int : mg "int" = none
  m_isinstance : mg "isinstance" = none
  m_len : mg "len" = none
  m_list : mg "list" = none
  m_range : mg "range" = none
  m_repr : mg "repr" = none
  m_reversed : mg "reversed" = none
  m_sorted : mg "sorted" = none
  m_str : mg "str" = none
  m_tuple : mg "tuple" = none
  m_zip : mg "zip" = none
end K13
set_option maxRecDepth 100000
set_option maxHeartbeats 2000000
namespace K13
open PySem L2 Fm
section
variable {P : Program} {w : World} {K : PySem.W.Frag} {mg : Str → Option Value} {base : Heap} (T : Txt K mg)
theorem ok_laid_out : FnOk P w K mg base CX0 1 T.a_laid_out T.d_laid_out ["terms"] (spLaid K) := by
  refine T.F_laid_out.ok sc_laid_out ?_ (fun cdv A outer s H vs Q E hr h => ?_)
  · rintro vs H Q E ⟨Hb, a, us, ds, rfl, _⟩
    rfl
  obtain ⟨Hb, a, us, ds, rfl, hb, hs, hd, htm, hz, q⟩ := h
  refine ⟨_, 
    (pss_cons (ps_set (i := 1) sc_laid_out.nd rfl (Or.inl rfl) (pe_lst pa_nil))
    (pss_cons (ps_set (i := 2) sc_laid_out.nd rfl (Or.inl rfl) (pe_revL (pe_callTy call_list_of (by rfl) T.m_list (by decide +kernel) (pa_cons (pv 0) pa_nil))))
    (pss_cons (ps_while PassesOwn.never (pt_truth (pv 2) (by intro _; rfl)) (pss_cons (ps_set (i := 3) sc_laid_out.nd rfl (Or.inl rfl) (pe_bm0 PySem.F.plainAttrs_list PySem.F.slot_list_pop PySem.F.type_list_pop mt_pop (pv 2))) (pss_cons (ps_expr (pe_bm PySem.F.plainAttrs_list PySem.F.slot_list_append PySem.F.type_list_append mt_append (pv 1) (pa_cons (pv 3) pa_nil))) (pss_one (ps_if (pt_val (pe_isD (fun _ => kit_T) T.m_isinstance (pv 3) (pe_bltn (v := .ty "tuple") (u := .type "tuple") (by rfl) T.m_tuple (by decide +kernel) rfl) mon_var)) (pss_one (ps_expr (pe_bm PySem.F.plainAttrs_list PySem.F.slot_list_extend PySem.F.type_list_extend mt_extT (pv 2) (pa_cons (pe_back (pv 3)) pa_nil)))) pss_nil)))))
    (pss_one (ps_ret (pv 1)))))), ?_⟩
  refine ⟨by decide, fun lf hf => ?_⟩
  have k0 : Same H (upd H lf (.lst [])) := Same.new hf
  have hs0 : SqL K (upd H lf (.lst [])) a us ∨ SqT K (upd H lf (.lst [])) a us := hs.imp (Evl.ex_l k0) (Evl.ex_t k0)
  refine ⟨_, rfl, a, us, rfl, hs0, fun l1 hl1 => ?_⟩
  refine ⟨l1, us, rfl, SqL.of upd_same, fun l hl => ?_⟩
  have k1 : Same H (upd (upd H lf (.lst [])) l1 (.lst us)) := Same.upd k0 (by
    have := hl1
    by_cases e : l1 = lf
    · rw [e, upd_same] at this; cases this
    · rwa [upd_ne e] at this)
  have nlf : lf ≠ l := fun e => by
    rw [← e] at hl
    by_cases e1 : lf = l1
    · rw [e1, upd_same] at hl; cases hl
    · rw [upd_ne e1, upd_same] at hl; cases hl
  have nlf1 : lf ≠ l1 := fun e => by
    rw [← e, upd_same] at hl1
    cases hl1
  have hlH : H l = none := by
    cases e : H l with
    | none => rfl
    | some o =>
      have := k1 l o e
      rw [hl] at this
      cases this
  refine ⟨fun m σ H' => ∃ ws fs vs es o, σ = [some (.ref a), some (.ref lf), some (.ref l), o] ∧ Same H H' ∧ H' lf = some (.lst ws) ∧ DvL Hb ws fs ∧ H' l = some (.lst vs) ∧ DvL Hb vs es ∧ m = sizes es ∧ sizes es ≤ 100000 ∧ (∀ d ∈ es, Tm d) ∧ fs ++ flats es.reverse = flats ds,
    ⟨_, [], [], us.reverse, ds.reverse, none, rfl, Same.upd k1 hlH, ?_, .nil, upd_same, hd.rev, rfl, by rw [sizes_rev]; exact hz, fun d h => htm d (List.mem_reverse.mp h), by rw [List.reverse_reverse]; rfl⟩, ?_⟩
  · rw [upd_ne nlf, upd_ne nlf1]
    exact upd_same
  rintro m σ H' ⟨ws, fs, vs, es, o, rfl, k, h1, h2, h3, h4, rfl, z1, t1, e1⟩
  refine ⟨_, rfl, !vs.isEmpty, .inl ⟨vs, SqL.of h3, rfl⟩, ite_b (fun c => ?_) (fun c => ?_)⟩
  · have ne : vs ≠ [] := by
      rintro rfl
      simp at c
    obtain ⟨y, d, es0, hy, rfl, h5, h6⟩ := last_split h4 ne
    refine ⟨fun σ' H2 => ∃ m', m' < sizes (es0 ++ [d]) ∧ ∃ ws fs vs es o, σ' = [some (.ref a), some (.ref lf), some (.ref l), o] ∧ Same H H2 ∧ H2 lf = some (.lst ws) ∧ DvL Hb ws fs ∧ H2 l = some (.lst vs) ∧ DvL Hb vs es ∧ m' = sizes es ∧ sizes es ≤ 100000 ∧ (∀ d ∈ es, Tm d) ∧ fs ++ flats es.reverse = flats ds, fun _ _ x => x, ?_⟩
    have zs := sizes_app es0 [d]
    simp only [sizes] at zs
    have pd := size_pos d
    have k2 : Same H (upd H' l (.lst vs.dropLast)) := Same.upd k hlH
    have lw := h2.len
    have lz := flats_len ds
    have lfs : fs.length ≤ 100000 := by
      have := congrArg List.length e1
      rw [List.length_append] at this
      omega
    have h1' : (upd H' l (.lst vs.dropLast)) lf = some (.lst ws) := by rw [upd_ne nlf]; exact h1
    refine ⟨_, rfl, .inl ⟨rfl, _, SqL.of h3⟩, l, vs, y, rfl, rfl, h3, hy, ?_⟩
    refine ⟨_, rfl, .inl ⟨rfl, _, SqL.of h1'⟩, _, rfl, lf, ws, y, rfl, rfl, h1', szl (by omega), ?_⟩
    have k3 : Same H (upd (upd H' l (.lst vs.dropLast)) lf (.lst (ws ++ [y]))) := Same.upd k2 hf
    have e2 : flats (es0 ++ [d]).reverse = flat d ++ flats es0.reverse := by
      rw [List.reverse_append]
      rfl
    rw [e2] at e1
    have td := t1 d (by simp)
    refine ⟨_, rfl, d, h6.same (hb.trans k3) _ _, _, rfl, ite_b (fun ct => ?_) (fun ct => ?_)⟩
    · obtain ⟨gs, rfl⟩ : ∃ gs, d = .tup gs := by cases d <;> simp_all [isT]
      cases h6 with
      | @tup b us2 _ g1 g2 =>
      cases td with
      | tup x rs htr =>
      cases g2 with
      | @cons w0 wr _ _ g3 g4 =>
      have lr := g4.len
      have h3' : (upd (upd H' l (.lst vs.dropLast)) lf (.lst (ws ++ [.ref b]))) l = some (.lst vs.dropLast) := by rw [upd_ne (Ne.symm nlf)]; exact upd_same
      refine ⟨_, rfl, .inl ⟨rfl, _, SqL.of h3'⟩, _, rfl, b, _, rfl, SqT.of (k3 _ _ (hb _ _ g1)), by simp, fun p hp => ?_⟩
      have n1 := len_sizes rs
      have lv := h5.len
      have n2 := len_sizes es0
      simp only [D.size, sizes] at zs z1
      have np1 : l ≠ p := fun e => by rw [← e, h3'] at hp; cases hp
      refine ⟨l, p, vs.dropLast, wr.reverse, rfl, rfl, by rw [upd_ne np1]; exact h3', SqT.of upd_same, ?_, ?_⟩
      · rw [List.length_reverse]
        exact sz (by omega)
      · have k4 : Same H (upd (upd (upd H' l (.lst vs.dropLast)) lf (.lst (ws ++ [.ref b]))) p (.tup wr.reverse)) := fun a' o' e => Same.new hp a' o' (k3 a' o' e)
        refine ⟨sizes (es0 ++ rs.reverse), ?_, ws ++ [.ref b], fs ++ [.tup (.str x :: rs)], _, es0 ++ rs.reverse, _, rfl, Same.upd k4 hlH, ?_, ?_, upd_same, h5.app g4.rev, rfl, ?_, ?_, ?_⟩
        · rw [sizes_app, sizes_rev]
          simp only [D.size, sizes, sizes_app] at *
          omega
        · have np2 : lf ≠ p := fun e => by rw [← e, upd_same] at hp; cases hp
          rw [upd_ne nlf, upd_ne np2]
          exact upd_same
        · exact h2.app (.cons (.tup g1 (.cons g3 g4)) .nil)
        · rw [sizes_app, sizes_rev]
          omega
        · intro d' hd'
          rcases List.mem_append.mp hd' with h | h
          · exact t1 d' (by simp [h])
          · exact htr d' (List.mem_reverse.mp h)
        · rw [← e1, List.reverse_append, List.reverse_reverse, flats_app]
          simp [flat, flatT]
    · refine ⟨sizes es0, ?_, ws ++ [y], fs ++ [d], _, es0, _, rfl, k3, upd_same, h2.app (.cons h6 .nil), ?_, h5, rfl, ?_, ?_, ?_⟩
      · omega
      · rw [upd_ne (Ne.symm nlf)]
        exact upd_same
      · omega
      · exact fun d' h => t1 d' (by simp [h])
      · rw [← e1, List.append_assoc]
        have : flat d = [d] := by
          cases d <;> first | rfl | simp_all [isT]
        rw [this]
  · have e : vs = [] := by simpa using c
    subst e
    cases h4
    refine ⟨_, rfl, q lf _ ws k hf h1 ?_⟩
    have : fs = flats ds := by
      rw [← e1]
      simp [flats]
    rw [← this]
    exact h2
/-- what of the dict stands behind a turn -/
theorem ok_shared : FnOk P w K mg base CX0 2 T.a_shared T.d_shared ["terms"] (spShared K) := by
  have G_laid_out := ok_laid_out (P := P) (w := w) (base := base) T
  refine T.F_shared.ok sc_shared ?_ (fun cdv A outer s H vs Q E hr h => ?_)
  · rintro vs H Q E ⟨a, us, ds, rfl, _⟩
    rfl
  obtain ⟨a, us, ds, rfl, hs, hd, htm, hz, q⟩ := h
  refine ⟨_, 
    (pss_cons (ps_set (i := 1) sc_shared.nd rfl (Or.inl rfl) pe_dnewT)
    (pss_cons (ps_set (i := 2) sc_shared.nd rfl (Or.inl rfl) (pe_lst pa_nil))
    (pss_cons (ps_for PassesOwn.never rfl (pi_reversed (by rfl) T.m_reversed (pa_cons (pe_call G_laid_out (hr.mono (by omega)) (by rfl) T.f_laid_out T.F_laid_out.kp T.b_laid_out .nil pass0 (pa_cons (pv 0) pa_nil)) pa_nil)) (pg_name (i := 3) sc_shared.nd rfl (Or.inl rfl)) (Evl.pss_cut (ps_if (pt_val (pe_isD (fun _ => kit_T) T.m_isinstance (pv 3) (pe_bltn (v := .ty "tuple") (u := .type "tuple") (by rfl) T.m_tuple (by decide +kernel) rfl) mon_var)) (pss_cons (ps_set (i := 4) sc_shared.nd rfl (Or.inl rfl) (pe_lst pa_nil)) (pss_cons (ps_for PassesOwn.never rfl (pi_tup (pe_slice sl_tupA (pv 3) (po_some pe_int) po_none)) (pg_name (i := 5) sc_shared.nd rfl (Or.inl rfl)) (pss_one (ps_expr (pe_bm PySem.F.plainAttrs_list PySem.F.slot_list_append PySem.F.type_list_append mt_append (pv 4) (pa_cons (pe_bm0 PySem.F.plainAttrs_list PySem.F.slot_list_pop PySem.F.type_list_pop mt_pop (pv 2)) pa_nil))))) (pss_one (ps_set (i := 6) sc_shared.nd rfl (Or.inl rfl) (pe_op op_catA (pe_tup (pa_cons (pe_ix ix_tup (pv 3) pe_int (fun _ _ => rfl)) pa_nil)) (pe_callTy call_tuple_of (by rfl) T.m_tuple (by decide +kernel) (pa_cons (pv 4) pa_nil))))))) (pss_one (ps_set (i := 6) sc_shared.nd rfl (Or.inl rfl) (pe_tup (pa_cons (pv 3) pa_nil))))) (pss_one (ps_expr (pe_bm PySem.F.plainAttrs_list PySem.F.slot_list_append PySem.F.type_list_append mt_append (pv 2) (pa_cons (pe_bm PySem.F.plainAttrs_dict PySem.F.slot_dict_setdefault PySem.F.type_dict_setdefault (mt_setdT (hu1 hr)) (pv 1) (pa_cons (pv 6) (pa_cons (pe_callB call_len_dT (by rfl) T.m_len (by decide +kernel) (pa_cons (pv 1) pa_nil)) pa_nil))) pa_nil))))))
    (pss_one (ps_ret (pe_tup (pa_cons (pe_callTy (call_list_dT rfl) (by rfl) T.m_list (by decide +kernel) (pa_cons (pv 1) pa_nil)) (pa_cons (pe_revL (pv 2)) pa_nil)))))))), ?_⟩
  show ∀ nd : Addr, H nd = none → _
  intro nd hnd
  have k0 : Same H (upd H nd (.dT [])) := Same.new hnd
  refine ⟨by decide, fun lw hlw => ?_⟩
  have k1 : Same H (upd (upd H nd (.dT [])) lw (.lst [])) := k0.trans (Same.new hlw)
  have n1 : nd ≠ lw := fun e => by
    rw [← e, upd_same] at hlw
    cases hlw
  have hlwH : H lw = none := by
    rw [upd_ne (Ne.symm n1)] at hlw
    exact hlw
  refine ⟨_, rfl, H, a, us, ds, rfl, k1, hs.imp (Evl.ex_l k1) (Evl.ex_t k1), hd, htm, hz, fun l H1 ws k hl hl2 hw => ?_⟩
  have n2 : l ≠ nd := fun e => by
    rw [e, upd_ne n1, upd_same] at hl
    cases hl
  have n3 : l ≠ lw := fun e => by
    rw [e, upd_same] at hl
    cases hl
  have lw1 := hw.len
  have lz := flats_len ds
  refine ⟨l, ws, rfl, SqL.of hl2, ?_⟩
  refine for_it walk_rev (fun i σ H' => ∃ o3 o4 o5 o6 kvs ts js es, σ = [some (.ref a), some (.ref nd), some (.ref lw), o3, o4, o5, o6] ∧ Same H H' ∧ H' l = some (.lst ws) ∧ H' nd = some (.dT kvs) ∧ H' lw = some (.lst (js.reverse.map vI)) ∧
    NodesK kvs ts ∧ Ats ts js es ∧ flats es = (flats ds).drop (ws.length - i) ∧ kvs.length ≤ i ∧ ∀ t ∈ ts, t ∈ flats ds)
    ⟨none, none, none, none, [], [], [], [], rfl, k1.trans k, hl2, ?_, ?_, .nil, .nil, ?_, Nat.zero_le _, fun _ h => by cases h⟩ (fun i σ H' hi ⟨_, _, _, _, _, _, _, _, _, _, e, _⟩ => SqL.of e) ?_ ?_
  · exact k _ _ (by rw [upd_ne n1]; exact upd_same)
  · exact k _ _ upd_same
  · rw [List.drop_of_length_le (by omega)]
    rfl
  · rintro i x σ H' H2 hi ⟨o3, o4, o5, o6, kvs, ts, js, es, rfl, e1, e2, e3, e4, N, At, ef, hk, sub⟩ ⟨rfl, hx⟩
    obtain ⟨t, ht, hdt⟩ := hw.get hx
    have sd : (flats ds).drop (ws.length - 1 - i) = t :: (flats ds).drop (ws.length - i) := by
      have lt := (List.getElem?_eq_some_iff.mp ht).1
      rw [List.drop_eq_getElem_cons lt, (List.getElem?_eq_some_iff.mp ht).2]
      congr 2
      omega
    have sp : flats ds = (flats ds).take (ws.length - 1 - i) ++ t :: (flats ds).drop (ws.length - i) := by
      have h1 := (List.take_append_drop (ws.length - 1 - i) (flats ds)).symm
      rw [sd] at h1
      exact h1
    obtain ⟨rest, er⟩ := flats_split sp
    rw [er] at ef
    have ee := flats_inj ef
    subst ee
    have ljs := At.len
    have les : (parts t ++ rest).length ≤ 100000 := by
      have h1 := len_flats (parts t ++ rest)
      have h2 := congrArg List.length er
      rw [List.length_drop] at h2
      omega
    have tm : Tm t := flats_tm htm t (List.mem_of_getElem? ht)
    refine ⟨fun σ' H3 => ∃ o4 o5 kb k js2, σ' = [some (.ref a), some (.ref nd), some (.ref lw), some x, o4, o5, some (.ref kb)] ∧ Same H H3 ∧ H3 l = some (.lst ws) ∧ H3 nd = some (.dT kvs) ∧ H3 lw = some (.lst (js2.reverse.map vI)) ∧
      H3 kb = some (.tup (k.map kV)) ∧ KeyOf ts k t ∧ Ats ts js2 rest, ⟨_, rfl, t, hdt.same e1 _ _, _, rfl, ite_b (fun ct => ?_) (fun ct => ?_)⟩, ?_⟩
    · obtain ⟨gs, rfl⟩ : ∃ gs, t = .tup gs := by
        cases t with
        | tup gs => exact ⟨gs, rfl⟩
        | _ => cases ct
      cases tm with
      | tup y rs htr =>
      cases hdt with
      | @tup b us2 _ g1 g2 =>
      cases g2 with
      | @cons w0 wr _ _ g3 g4 =>
      cases g3 with
      | str _ oy =>
      have lr := g4.len
      simp only [parts] at At ljs les er
      rw [List.length_append] at ljs les
      refine ⟨by decide, fun lp hlp => ?_⟩
      have k2 : Same H2 (upd H2 lp (.lst [])) := Same.new hlp
      obtain ⟨u1, u2⟩ := cutV_one (.str y :: wr) (by simp)
      refine ⟨_, rfl, _, rfl, b, _, rfl, SqT.of (k2 _ _ (e1 _ _ g1)), fun z => absurd z u2, fun _ tl htl => ?_⟩
      rw [u1]
      have k3 : Same H2 (upd (upd H2 lp (.lst [])) tl (.tup wr)) := k2.trans (Same.new htl)
      have m1 : lp ≠ tl := fun e => by
        rw [← e, upd_same] at htl
        cases htl
      have m2 : lw ≠ lp := fun e => by rw [← e, e4] at hlp; cases hlp
      have m3 : nd ≠ lp := fun e => by rw [← e, e3] at hlp; cases hlp
      have m4 : l ≠ lp := fun e => by rw [← e, e2] at hlp; cases hlp
      have m5 : lw ≠ tl := fun e => by
        rw [← e, upd_ne m2, e4] at htl
        cases htl
      have hlpH : H lp = none := by
        cases e : H lp with
        | none => rfl
        | some o =>
          rw [e1 _ _ e] at hlp
          cases hlp
      have mb1 : b ≠ lp := fun e => by rw [← e, e1 _ _ g1] at hlp; cases hlp
      refine ⟨tl, rfl, ⟨wr, SqT.of upd_same⟩, ?_⟩
      refine for_tup (xs := wr) (fun j σ H3 => ∃ o5 o6, σ = [some (.ref a), some (.ref nd), some (.ref lw), some (.ref b), some (.ref lp), o5, o6] ∧ Same H H3 ∧ H3 l = some (.lst ws) ∧ H3 nd = some (.dT kvs) ∧ H3 lw = some (.lst ((js.drop j).reverse.map vI)) ∧
        H3 lp = some (.lst ((js.take j).map vI)) ∧ H3 tl = some (.tup wr)) ⟨o5, o6, rfl, e1.trans k3, k3 _ _ e2, k3 _ _ e3, k3 _ _ e4, ?_, upd_same⟩ (fun j σ H3 hj ⟨_, _, _, _, _, _, _, _, z⟩ => SqT.of z) ?_ ?_
      · rw [upd_ne m1]
        exact upd_same
      · rintro j x σ H3 hj ⟨o5, o6, rfl, f1, f2, f3, f4, f5, f6⟩
        have lj : j < js.length := by
          have := (List.getElem?_eq_some_iff.mp hj).1
          omega
        obtain ⟨v1, v2⟩ := pop_rev lj
        refine ⟨_, rfl, .inl ⟨rfl, _, SqL.of f5⟩, _, rfl, .inl ⟨rfl, _, SqL.of f4⟩, lw, _, _, rfl, rfl, f4, v1, ?_⟩
        rw [v2]
        have f5' : (upd H3 lw (.lst ((js.drop (j + 1)).reverse.map vI))) lp = some (.lst ((js.take j).map vI)) := by rw [upd_ne (Ne.symm m2)]; exact f5
        refine ⟨lp, _, _, rfl, rfl, f5', ?_, _, _, rfl, Same.upd (Same.upd f1 hlwH) hlpH, ?_, ?_, ?_, ?_, ?_⟩
        · rw [List.length_map, List.length_take]
          exact szl (by omega)
        · rw [upd_ne m4, upd_ne n3]
          exact f2
        · rw [upd_ne m3, upd_ne n1]
          exact f3
        · rw [upd_ne m2]
          exact upd_same
        · have : (js.take (j + 1)).map vI = (js.take j).map vI ++ [vI js[j]] := by
            rw [take_succ' (List.getElem?_eq_getElem lj), List.map_append]
            rfl
          rw [this]
          exact upd_same
        · rw [upd_ne (Ne.symm m1), upd_ne (Ne.symm m5)]
          exact f6
      · rintro σ H3 ⟨o5, o6, rfl, f1, f2, f3, f4, f5, f6⟩
        rw [lr] at f4 f5
        obtain ⟨At1, At2⟩ := At.split
        refine ⟨_, rfl, b, _, 0, _, rfl, rfl, SqT.of (f1 _ _ g1), atI_nat (j := 0) rfl, by (show 1 ≤ sizeLine; decide), fun t1 ht1 => ?_⟩
        have k4 : Same H3 (upd H3 t1 (.tup [.str y])) := Same.new ht1
        refine ⟨_, rfl, lp, _, rfl, .inl ⟨SqL.of (k4 _ _ f5), fun t2 ht2 => ?_⟩⟩
        have k5 : Same H3 (upd (upd H3 t1 (.tup [.str y])) t2 (.tup ((js.take rs.length).map vI))) := k4.trans (Same.new ht2)
        have fin : ∀ (kb : Addr) (H4 : Hp), Same H3 H4 → H4 kb = some (.tup (.str y :: (js.take rs.length).map vI)) → ∃ o4 o5' kb' k js2, [some (.ref a), some (.ref nd), some (.ref lw), some (V.ref b), some (.ref lp), o5, some (.ref kb)] = [some (.ref a), some (.ref nd), some (.ref lw), some (.ref b), o4, o5', some (.ref kb')] ∧ Same H H4 ∧ H4 l = some (.lst ws) ∧ H4 nd = some (.dT kvs) ∧ H4 lw = some (.lst (js2.reverse.map vI)) ∧
            H4 kb' = some (.tup (k.map kV)) ∧ KeyOf ts k (.tup (.str y :: rs)) ∧ Ats ts js2 rest := by
          intro kb H4 kk hkb
          refine ⟨_, _, kb, .inr y :: (js.take rs.length).map kI, js.drop rs.length, rfl, f1.trans kk, kk _ _ f2, kk _ _ f3, kk _ _ f4, ?_, .tup y _ _ oy (by omega) At1, At2⟩
          rw [List.map_cons, kV_kI]
          exact hkb
        refine ⟨t1, t2, _, _, rfl, rfl, SqT.of (Same.new ht2 _ _ upd_same), SqT.of upd_same, ?_, fun z => (by cases z), fun _ z => ?_, fun _ _ t3 ht3 => ?_⟩
        · rw [List.length_map, List.length_take]
          simp only [List.length_cons, List.length_nil]
          exact sz (by omega)
        · refine fin t1 _ k5 ?_
          rw [z]
          exact Same.new ht2 _ _ upd_same
        · exact fin t3 _ (k5.trans (Same.new ht3)) upd_same
    · obtain ⟨u, rfl⟩ : ∃ u, t = .int u := by
        cases tm with
        | int u => exact ⟨u, rfl⟩
        | tup y rs _ => cases ct
      cases hdt
      refine ⟨_, rfl, by (show 1 ≤ sizeLine; decide), fun kb hkb => ?_⟩
      have k2 : Same H2 (upd H2 kb (.tup [.int u])) := Same.new hkb
      exact ⟨_, _, kb, [.inl u], js, rfl, e1.trans k2, k2 _ _ e2, k2 _ _ e3, k2 _ _ e4, upd_same, .int u, by simpa [parts] using At⟩
    · rintro σ H3 ⟨o4, o5, kb, k, js2, rfl, f1, f2, f3, f4, f5, ky, At2⟩
      have lj2 := At2.len
      rw [List.length_append] at les
      have lk : kvs.length < sizeLine := szl (by omega)
      refine ⟨_, rfl, .inl ⟨rfl, _, SqL.of f4⟩, _, rfl, .inr (.inr (.inl ⟨rfl, .inr ⟨_, f3⟩⟩)), _, rfl, _, rfl, nd, kvs, rfl, f3, nd, kvs, k, kb, _, rfl, rfl, f3, f5, lk, fun v hv => ?_, fun hn => ?_⟩
      · obtain ⟨n, rfl, hn⟩ := N.old ky hv
        refine ⟨lw, _, _, rfl, rfl, f4, ?_, _, _, _, _, kvs, ts, n :: js2, t :: rest, rfl, Same.upd f1 hlwH, ?_, ?_, ?_, N, .cons hn At2, ?_, by omega, sub⟩
        · rw [List.length_map, List.length_reverse]
          exact szl (by omega)
        · rw [upd_ne n3]
          exact f2
        · rw [upd_ne n1]
          exact f3
        · rw [List.reverse_cons, List.map_append]
          exact upd_same
        · rw [flats_cons, ← er, ← sd]
          congr 1
          omega
      · have N2 := N.new ky hn
        have f4' : (upd H3 nd (.dT (kvs ++ [(k, V.int (kvs.length : Int))]))) lw = some (.lst (js2.reverse.map vI)) := by rw [upd_ne (Ne.symm n1)]; exact f4
        refine ⟨lw, _, _, rfl, rfl, f4', ?_, _, _, _, _, kvs ++ [(k, V.int (kvs.length : Int))], ts ++ [t], kvs.length :: js2, t :: rest, rfl, Same.upd (Same.upd f1 hnd) hlwH, ?_, ?_, ?_, N2, .cons ?_ (At2.mono fun _ _ => app_get), ?_, ?_, fun t' h => ?_⟩
        · rw [List.length_map, List.length_reverse]
          exact szl (by omega)
        · rw [upd_ne n3, upd_ne n2]
          exact f2
        · rw [upd_ne n1]
          exact upd_same
        · rw [List.reverse_cons, List.map_append]
          exact upd_same
        · rw [N.len, List.getElem?_append_right (Nat.le_refl _), Nat.sub_self]
          rfl
        · rw [flats_cons, ← er, ← sd]
          congr 1
          omega
        · rw [List.length_append, List.length_singleton]
          omega
        · rcases List.mem_append.mp h with h | h
          · exact sub _ h
          · rw [List.mem_singleton.mp h]
            exact List.mem_of_getElem? ht
  · rintro σ H3 ⟨o3, o4, o5, o6, kvs, ts, js, es, rfl, e1, e2, e3, e4, N, At, ef, hk, sub⟩
    rw [Nat.sub_self, List.drop_zero] at ef
    have ee := flats_inj ef
    subst ee
    refine ⟨_, rfl, nd, kvs, rfl, .inl e3, fun l1 bs hl1 hks => ?_⟩
    have k2 : Same H3 (upd H3 l1 (.lst (bs.map V.ref))) := Same.new hl1
    refine ⟨_, rfl, lw, _, rfl, SqL.of (k2 _ _ e4), fun l2 hl2' => ?_⟩
    have k3 := k2.trans (Same.new (o := .lst (js.reverse.map vI).reverse) hl2')
    refine ⟨by (show 2 ≤ sizeLine; decide), fun p hp => ?_⟩
    have k4 := k3.trans (Same.new (o := .tup [.ref l1, .ref l2]) hp)
    refine q p l1 l2 _ bs ts js (e1.trans k4) upd_same ?_ ?_ ((N.nodes hks).same k4) At ?_ sub ?_
    · exact Same.new hp _ _ (Same.new hl2' _ _ upd_same)
    · have : js.map vI = (js.reverse.map vI).reverse := by rw [← List.map_reverse, List.reverse_reverse]
      rw [this]
      exact Same.new hp _ _ upd_same
    · rw [← N.len]
      omega
    · rw [At.len]
      have := len_flats es
      omega
end
end K13
set_option maxRecDepth 100000
set_option maxHeartbeats 4000000
namespace K13
open PySem L2 Fm
section
variable {P : Program} {w : World} {K : PySem.W.Frag} {mg : Str → Option Value} {base : Heap} (T : Txt K mg)
theorem ok_law_take : FnOk P w K mg base CX0 1 T.a__law_take T.d__law_take ["_law_bag_here", "_law_many"] spTake := by
  refine T.F__law_take.ok sc__law_take ?_ (fun cdv A outer s H vs Q E hr h => ?_)
  · rintro vs H Q E ⟨b, p, n, rfl, _⟩
    rfl
  obtain ⟨b, p, n, rfl, B0, n0, n1, q⟩ := h
  refine ⟨_, 
    (Evl.pss_cut (ps_if (pt_cmpR op_eq (pe_ix ix_list (pv 0) pe_int (fun _ _ => rfl)) pe_int (nomark _)) (pss_cons (ps_set (i := 2) sc__law_take.nd rfl (Or.inl rfl) pe_int) (Evl.pss_cut (ps_if (pt_cmpR op_lt (pe_ix ix_list (pv 0) pe_int (fun _ _ => rfl)) (pe_callB call_len_seq (by rfl) T.m_len (by decide +kernel) (pa_cons (pe_ix ix_list (pv 0) pe_int (fun _ _ => rfl)) pa_nil)) (nomark _)) (pss_one (ps_set (i := 2) sc__law_take.nd rfl (Or.inl rfl) (pe_ix ix_list (pe_ix ix_list (pv 0) pe_int (fun _ _ => rfl)) (pe_ix ix_list (pv 0) pe_int (fun _ _ => rfl)) (fun _ _ => rfl)))) pss_nil) (pss_cons (ps_augS (pv 0) pe_int pg_list pe_int ip_add set_list) (Evl.pss_cut (ps_if (pt_cmpR op_ge (pv 2) pe_int (nomark _)) (pss_one (ps_asg (pv 2) (pg_sub (pv 0) pe_int set_list))) pss_nil) (pss_cons (ps_set (i := 3) sc__law_take.nd rfl (Or.inl rfl) (pe_op op_add (pe_op op_add (pe_op op_mul (pe_ix ix_list (pv 0) pe_int (fun _ _ => rfl)) pe_int) (pe_op op_mod (pe_callTy call_int1 (by rfl) T.m_int (by decide +kernel) (pa_cons (pv 2) pa_nil)) pe_int)) (pe_op op_mul pe_int (pe_ix ix_list (pv 0) pe_int (fun _ _ => rfl))))) (pss_one (ps_asg (pe_op op_mod (pe_callTy call_int1 (by rfl) T.m_int (by decide +kernel) (pa_cons (pv 3) pa_nil)) pe_int) (pg_sub (pv 0) pe_int set_list)))))))) pss_nil)
    (pss_cons (ps_if (pt_cmpR op_gt (pe_ix ix_list (pv 0) pe_int (fun _ _ => rfl)) pe_int (nomark _)) (pss_cons (ps_set (i := 4) sc__law_take.nd rfl (Or.inl rfl) (pe_op op_mod (pe_callTy call_int1 (by rfl) T.m_int (by decide +kernel) (pa_cons (pe_ix ix_list (pv 0) pe_int (fun _ _ => rfl)) pa_nil)) (pv 1))) (pss_cons (ps_asg (pe_op op_fdiv (pe_ix ix_list (pv 0) pe_int (fun _ _ => rfl)) (pv 1)) (pg_sub (pv 0) pe_int set_list)) (pss_one (ps_ret (pv 4))))) pss_nil)
    (pss_cons (ps_set (i := 5) sc__law_take.nd rfl (Or.inl rfl) (pe_op op_mod (pe_callTy call_int1 (by rfl) T.m_int (by decide +kernel) (pa_cons (pe_op op_mul (pe_op op_add (pe_ix ix_list (pv 0) pe_int (fun _ _ => rfl)) pe_int) pe_int) pa_nil)) pe_int))
    (pss_cons (ps_set (i := 6) sc__law_take.nd rfl (Or.inl rfl) (pe_op op_mod (pe_callTy call_int1 (by rfl) T.m_int (by decide +kernel) (pa_cons (pe_op op_mul (pe_op op_mod (pe_callTy call_int1 (by rfl) T.m_int (by decide +kernel) (pa_cons (pe_op op_mul (pv 5) (pv 5)) pa_nil)) pe_int) pe_int) pa_nil)) pe_int))
    (pss_cons (ps_if (pt_cmpR op_gt (pv 1) pe_int (nomark _)) (pss_one (ps_ret (pe_op op_mod (pe_callTy call_int1 (by rfl) T.m_int (by decide +kernel) (pa_cons (pe_op op_add (pe_op op_mul (pv 6) pe_int) (pv 5)) pa_nil)) (pv 1)))) pss_nil)
    (pss_one (ps_ret (pe_op op_mod (pe_callTy call_int1 (by rfl) T.m_int (by decide +kernel) (pa_cons (pe_op op_fdiv (pv 6) pe_int) pa_nil)) (pv 1))))))))), ?_⟩
  -- the first if: the state behind it
  refine ⟨fun σ H' => ∃ c mx, σ = [some (.ref b), some (.int n), c, mx, none, none, none] ∧ Go b p H H', ?_, ?_⟩
  · obtain ⟨st, m, k, cells, hb, hp, ne, s0, m0, m1, k0, c0⟩ := id B0
    obtain ⟨kn, rfl⟩ := Int.eq_ofNat_of_zero_le k0
    refine ⟨_, rfl, b, _, 0, _, rfl, rfl, SqL.of hb, atI_nat (j := 0) rfl, rfl, _, rfl, ite_b (fun h1 => ?_) (fun h1 => ?_)⟩
    · refine ⟨fun σ H' => ∃ c, σ = [some (.ref b), some (.int n), some (.int c), none, none, none, none] ∧ H' = H ∧ 0 ≤ c, ?_, ?_⟩
      · refine ⟨_, rfl, b, _, 2, _, rfl, rfl, SqL.of hb, atI_nat (j := 2) rfl, _, rfl, b, _, 3, _, rfl, rfl, SqL.of hb, atI_nat (j := 3) rfl, p, cells.map V.int, rfl, .inl (SqL.of hp), _, _, rfl, rfl, _, rfl, ite_b (fun h2 => ?_) (fun h2 => ?_)⟩
        · have lt : kn < cells.length := by
            have := of_decide_eq_true h2
            rw [List.length_map] at this
            omega
          have ga : (cells.map V.int)[kn]? = some (.int cells[kn]) := by
            rw [List.getElem?_map]
            simp [lt]
          refine ⟨_, rfl, b, _, 3, _, rfl, rfl, SqL.of hb, atI_nat (j := 3) rfl, _, rfl, b, _, 2, _, rfl, rfl, SqL.of hb, atI_nat (j := 2) rfl, p, cells.map V.int, kn, _, rfl, rfl, SqL.of hp, atI_nat ga, ?_⟩
          exact ⟨_, rfl, rfl, c0 _ (List.getElem_mem lt)⟩
        · exact ⟨0, rfl, rfl, Int.le_refl _⟩
      · rintro σ H' ⟨c, rfl, rfl, c1⟩
        refine ⟨_, rfl, b, _, 2, _, rfl, rfl, hb, by decide, rfl, _, _, rfl, rfl, b, _, 2, 2, rfl, rfl, hb, rfl, ?_⟩
        refine ⟨fun σ H2 => σ = [some (.ref b), some (.int n), some (.int c), none, none, none, none] ∧ ∃ s1, H2 = upd H' b (.lst [.int s1, .int m, .int ((kn : Int) + 1), .ref p]) ∧ 0 ≤ s1, ?_, ?_⟩
        · refine ⟨_, rfl, _, _, rfl, rfl, _, rfl, ite_b (fun h2 => ?_) (fun h2 => ?_)⟩
          · refine ⟨_, rfl, _, rfl, b, _, 0, 0, rfl, rfl, upd_same, rfl, ?_⟩
            exact ⟨rfl, c, upd_upd, c1⟩
          · exact ⟨rfl, st, rfl, s0⟩
        · rintro σ H2 ⟨rfl, s1, rfl, s2⟩
          have e1 : (upd H' b (.lst [.int s1, .int m, .int ((kn : Int) + 1), .ref p])) b = some (.lst [.int s1, .int m, .int ((kn : Int) + 1), .ref p]) := upd_same
          refine ⟨_, rfl, b, _, 1, _, rfl, rfl, SqL.of e1, atI_nat (j := 1) rfl, _, _, rfl, rfl, .inl ⟨by omega, by omega⟩, _, rfl, .inl ⟨_, rfl, _, _, rfl, rfl, (by show (0 : Int) < _; decide), _, _, rfl, rfl, _, rfl, b, _, 2, _, rfl, rfl, SqL.of e1, atI_nat (j := 2) rfl, _, _, rfl, rfl, .inl ⟨by decide, by decide⟩, _, _, rfl, rfl, ?_⟩⟩
          refine ⟨_, rfl, .inl ⟨_, rfl, _, _, rfl, rfl, (by show (0 : Int) < _; decide), _, rfl, b, _, 1, 1, rfl, rfl, e1, rfl, ?_⟩⟩
          refine ⟨_, _, rfl, ?_, s1, _, (kn : Int) + 1, cells, upd_same, ?_, ne, s2, Int.emod_nonneg _ (by decide), Int.emod_lt_of_pos _ (by decide), by omega, c0⟩
          · rw [upd_upd, mask_updb]
            exact Same.refl _
          · rw [upd_ne ne, upd_ne ne]
            exact hp
    · exact ⟨none, none, rfl, .refl B0⟩
  · rintro σ H' ⟨c, mx, rfl, g⟩
    obtain ⟨st, m, k, cells, hb, hp, ne, s0, m0, m1, k0, c0⟩ := g.B
    refine ⟨_, rfl, b, _, 0, _, rfl, rfl, SqL.of hb, atI_nat (j := 0) rfl, _, _, rfl, rfl, _, rfl, ite_b (fun h1 => ?_) (fun h1 => ?_)⟩
    · refine ⟨_, rfl, b, _, 0, _, rfl, rfl, SqL.of hb, atI_nat (j := 0) rfl, .inl ⟨_, rfl, _, rfl, _, _, rfl, rfl, n0, ?_⟩⟩
      refine ⟨_, rfl, b, _, 0, _, rfl, rfl, SqL.of hb, atI_nat (j := 0) rfl, _, rfl, _, _, rfl, rfl, ⟨n0, by omega⟩, _, rfl, b, _, 0, 0, rfl, rfl, hb, rfl, ?_⟩
      refine ⟨_, rfl, q _ _ (Int.emod_nonneg _ (by omega)) (Int.emod_lt_of_pos _ n0) ⟨?_, st / n, m, k, cells, upd_same, ?_, ne, Int.ediv_nonneg s0 (by omega), m0, m1, k0, c0⟩⟩
      · rw [mask_updb]
        exact g.k
      · rw [upd_ne ne]
        exact hp
    · refine ⟨_, rfl, b, _, 1, _, rfl, rfl, SqL.of hb, atI_nat (j := 1) rfl, _, _, rfl, rfl, _, _, rfl, rfl, .inl ⟨by omega, by omega⟩, .inl ⟨_, rfl, _, _, rfl, rfl, (by show (0 : Int) < _; decide), ?_⟩⟩
      refine ⟨_, rfl, _, rfl, _, _, rfl, rfl, .inl ⟨?_, ?_⟩, .inl ⟨_, rfl, _, _, rfl, rfl, (by show (0 : Int) < _; decide), _, _, rfl, rfl, .inl ⟨?_, ?_⟩, .inl ⟨_, rfl, _, _, rfl, rfl, (by show (0 : Int) < _; decide), ?_⟩⟩⟩
      · have := Int.emod_nonneg ((m + 1) * 39373) (show (1000000007 : Int) ≠ 0 by decide)
        omega
      · have := Int.emod_lt_of_pos ((m + 1) * 39373) (show (0 : Int) < 1000000007 by decide)
        omega
      · have := Int.emod_nonneg ((m + 1) * 39373 % 1000000007 * ((m + 1) * 39373 % 1000000007)) (show (998244353 : Int) ≠ 0 by decide)
        omega
      · have := Int.emod_lt_of_pos ((m + 1) * 39373 % 1000000007 * ((m + 1) * 39373 % 1000000007)) (show (0 : Int) < 998244353 by decide)
        omega
      · refine ⟨_, rfl, _, _, rfl, rfl, _, rfl, ite_b (fun h2 => ?_) (fun h2 => ?_)⟩
        · have := of_decide_eq_true h2
          omega
        · refine ⟨_, rfl, _, _, rfl, rfl, ⟨by decide, by decide⟩, .inl ⟨_, rfl, _, rfl, _, _, rfl, rfl, n0, ?_⟩⟩
          exact q _ _ (Int.emod_nonneg _ (by omega)) (Int.emod_lt_of_pos _ n0) g
end
end K13
namespace K13
open PySem L2 Fm
section
variable {P : Program} {w : World} {K : PySem.W.Frag} {mg : Str → Option Value} {base : Heap} (T : Txt K mg)
theorem ok_law_bag : FnOk P w K mg base CX0 1 T.a__law_bag T.d__law_bag ["_law_script"] (spBag K) := by
  refine T.F__law_bag.ok sc__law_bag ?_ (fun cdv A outer s H vs Q E hr h => ?_)
  · rintro vs H Q E ⟨a, ns, rfl, _⟩
    rfl
  obtain ⟨a, ns, rfl, hs, hl, q⟩ := h
  refine ⟨_, 
    (pss_one (ps_ret (pe_lst (pa_cons pe_int (pa_cons pe_int (pa_cons pe_int (pa_cons (pe_lc (own := [("_law_cell", 1)]) (g := gName 1) (tt := tYes) rfl sc__law_bag.nd (pi_list (pe_slice sl_list (pv 0) po_none (po_some pe_int))) (blkOk_by (N := N__law_bag) (sc := defScope s__law_bag) (by decide +kernel)) (fun _ _ _ _ _ => pg_name (i := 1) sc__law_bag.nd rfl (Or.inl rfl)) (fun _ _ _ _ _ => pts_nil) (fun _ _ _ _ _ => pe_callB call_abs (by rfl) T.m_abs (by decide +kernel) (pa_cons (pv 1) pa_nil))) pa_nil))))))), ?_⟩
  refine ⟨_, rfl, _, rfl, a, _, rfl, hs, fun c hc => ⟨c, rfl, ⟨_, SqL.of upd_same⟩, fun Dl hD => ?_⟩⟩
  obtain ⟨ms, em, lm⟩ : ∃ ms : List Int, cutV (ns.map V.int) none (some 63) = ms.map V.int ∧ ms.length ≤ 63 := by
    unfold cutV
    rw [← List.map_drop, ← List.map_take]
    refine ⟨_, rfl, ?_⟩
    rw [List.length_take, List.length_drop]
    omega
  have k1 : Same H (upd H c (.lst (cutV (ns.map V.int) none (some 63)))) := Same.new hc
  rw [em] at hD k1 ⊢
  refine lc_listF (K := K) (fun v => match v with | .int i => .int (if i < 0 then -i else i) | v => v) (SqL.of upd_same) hD (by rw [List.length_map]; omega) (fun _ => rfl) (fun _ _ _ r => r) ?_ ?_
  · intro x H' R k hx r
    obtain ⟨i, _, rfl⟩ := List.mem_map.mp hx
    exact ⟨_, rfl, i, rfl, r _ (Same.refl _)⟩
  · intro H' k hl2
    refine ⟨(by show 4 ≤ sizeLine; decide), fun b hb => ?_⟩
    have k2 := k1.trans k
    have k3 : Same H' (upd H' b (.lst [.int 0, .int 1234567891, .int 0, .ref Dl])) := Same.new hb
    refine q b Dl _ (Same.free k2 hb) (k2.trans k3) ⟨0, 1234567891, 0, ms.map fun i => if i < 0 then -i else i, upd_same, k3 _ _ ?_, ne_of_none hl2 hb, by decide, by decide, by decide, by decide, ?_⟩
    · rw [hl2]
      simp [List.map_map, Function.comp_def]
    · intro z hz
      obtain ⟨i, _, rfl⟩ := List.mem_map.mp hz
      by_cases hi : i < 0
      · rw [if_pos hi]
        omega
      · rw [if_neg hi]
        omega
/-- two values that are the same data -/
def spAlike (K : PySem.W.Frag) : Sp := fun vs H Q _ => ∃ v1 v2 d, vs = [v1, v2] ∧ Dp K H v1 d ∧ Dp K H v2 d ∧ SeqAt.shaped d = true ∧ d.showable = true ∧ d.hasDict = false ∧ d.depth ≤ 60 ∧ d.shown.length ≤ sizeLine ∧ Q (.bl true) H
theorem ok_law_alike : FnG P w K mg base 1 T.a__law_alike T.d__law_alike ["_law_found", "_law_due"] (spAlike K) := by
  refine fnG T.F__law_alike sc__law_alike ?_ (fun cdv A outer s H vs Q gd hr h => ?_)
  · rintro vs H Q E ⟨v1, v2, d, rfl, _⟩
    rfl
  obtain ⟨v1, v2, d, rfl, h1, h2, sh, so, nd, dz, sl, q⟩ := h
  refine ⟨_, 
    (pss_one (ps_ret (pe_and (pe_cmpR (op_eqD hr.units) (pv 0) (pv 1) (nomark _)) (pe_one (pe_cmpR op_eq (pe_callB (call_repr hr gd) (by rfl) T.m_repr (by decide +kernel) (pa_cons (pv 0) pa_nil)) (pe_callB (call_repr hr gd) (by rfl) T.m_repr (by decide +kernel) (pa_cons (pv 1) pa_nil)) (nomark _)))))), ?_⟩
  refine ⟨_, rfl, _, rfl, d, d, h1, h2, sh, sh, _, rfl, ite_b (fun c => ?_) (fun c => ?_)⟩
  · refine ⟨_, rfl, v1, d, rfl, h1, so, nd, dz, sl, _, rfl, v2, d, rfl, h2, so, nd, dz, sl, rfl, ?_⟩
    rw [decide_eq_true rfl]
    exact q
  · rw [SeqAt.eqv_refl d (SeqAt.canLay_of_shaped sh)] at c
    cases c
def ws : List Str := Txt.split (("set ask end nil may must go begin move drop version back call silent same" : Str) ++ (" a b ab ba z" : Str)) " "
theorem ws_len : ws.length = 20 := by decide +kernel
theorem ws_ok : ∀ x ∈ ws, okL x = true ∧ x.length ≤ 30 := by decide +kernel
theorem lt_len : letters.length = 26 := by decide +kernel
theorem lt_ok : okL letters = true := by decide +kernel
theorem ok_law_names : FnOk P w K mg base CX0 2 T.a__law_names T.d__law_names ["_law_bag_here", "_law_many"] spNamesL := by
  have G__law_take := ok_law_take (P := P) (w := w) (base := base) T
  refine T.F__law_names.ok sc__law_names ?_ (fun cdv A outer s H vs Q E hr h => ?_)
  · rintro vs H Q E ⟨b, p, n, rfl, _⟩
    rfl
  obtain ⟨b, p, n, rfl, B, n0, n1, q⟩ := h
  refine ⟨_, 
    (pss_cons (ps_set (i := 2) sc__law_names.nd rfl (Or.inr rfl) pe_str)
    (pss_cons (ps_set (i := 3) sc__law_names.nd rfl (Or.inl rfl) pe_str)
    (pss_cons (ps_set (i := 3) sc__law_names.nd rfl (Or.inl rfl) (pe_bm PySem.F.plainAttrs_str PySem.F.slot_str_split PySem.F.type_str_split mt_split (pe_op op_add_str (pv 3) pe_str) (pa_cons pe_str pa_nil)))
    (pss_cons (ps_asg (pe_tup (pa_cons (pe_call G__law_take (hr.mono (by omega)) (by rfl) T.f__law_take T.F__law_take.kp T.b__law_take .nil pass0 (pa_cons (pv 0) (pa_cons pe_int pa_nil))) (pa_cons (pe_call G__law_take (hr.mono (by omega)) (by rfl) T.f__law_take T.F__law_take.kp T.b__law_take .nil pass0 (pa_cons (pv 0) (pa_cons pe_int pa_nil))) pa_nil))) (pg_tup rfl (pgs_cons (pg_name (i := 4) sc__law_names.nd rfl (Or.inl rfl)) (pgs_cons (pg_name (i := 5) sc__law_names.nd rfl (Or.inr rfl)) pgs_nil))))
    (pss_cons (ps_set (i := 6) sc__law_names.nd rfl (Or.inr rfl) (pe_bm PySem.F.plainAttrs_str PySem.F.slot_str_join PySem.F.type_str_join mt_join pe_str (pa_cons (pe_lc (own := [("_law_k", 8)]) (g := gName 8) (tt := tYes) rfl sc__law_names.nd (pi_range1 (by rfl) T.m_range (pa_cons (pe_op op_add pe_int (pe_call G__law_take (hr.mono (by omega)) (by rfl) T.f__law_take T.F__law_take.kp T.b__law_take .nil pass0 (pa_cons (pv 0) (pa_cons pe_int pa_nil)))) pa_nil)) (blkOk_by (N := N__law_names) (sc := defScope s__law_names) (by decide +kernel)) (fun _ _ _ _ _ => pg_name (i := 8) sc__law_names.nd rfl (Or.inl rfl)) (fun _ _ _ _ _ => pts_nil) (fun _ _ _ _ _ => pe_ix ix_str (pv 2) (pe_call G__law_take (hr.mono (by omega)) (by rfl) T.f__law_take T.F__law_take.kp T.b__law_take .nil pass0 (pa_cons (pv 0) (pa_cons pe_int pa_nil))) (fun _ _ => rfl))) pa_nil)))
    (pss_cons (ps_set (i := 7) sc__law_names.nd rfl (Or.inr rfl) (pe_call G__law_take (hr.mono (by omega)) (by rfl) T.f__law_take T.F__law_take.kp T.b__law_take .nil pass0 (pa_cons (pv 0) (pa_cons (pe_op op_add (pe_callB call_len_str (by rfl) T.m_len (by decide +kernel) (pa_cons (pv 6) pa_nil)) pe_int) pa_nil))))
    (pss_cons (ps_if (pt_cmpR op_eq (pv 4) pe_int (nomark _)) (pss_one (ps_ret (pe_slice sl_list (pe_op op_cat (pe_slice sl_list (pv 3) (po_some (pv 5)) po_none) (pe_slice sl_list (pv 3) po_none (po_some (pv 5)))) po_none (po_some (pv 1))))) pss_nil)
    (pss_cons (ps_if (pt_cmpR op_eq (pv 4) pe_int (nomark _)) (pss_one (ps_ret (pe_lc (own := [("_law_k", 8)]) (g := gName 8) (tt := tYes) rfl sc__law_names.nd (pi_range1 (by rfl) T.m_range (pa_cons (pv 1) pa_nil)) (blkOk_by (N := N__law_names) (sc := defScope s__law_names) (by decide +kernel)) (fun _ _ _ _ _ => pg_name (i := 8) sc__law_names.nd rfl (Or.inl rfl)) (fun _ _ _ _ _ => pts_nil) (fun _ _ _ _ _ => pe_ix ix_str (pv 2) (pe_op op_mod (pe_callTy call_int1 (by rfl) T.m_int (by decide +kernel) (pa_cons (pe_op op_add (pv 5) (pe_op op_mul pe_int (pv 8))) pa_nil)) pe_int) (fun _ _ => rfl))))) pss_nil)
    (pss_one (ps_ret (pe_lc (own := [("_law_k", 8)]) (g := gName 8) (tt := tYes) rfl sc__law_names.nd (pi_range1 (by rfl) T.m_range (pa_cons (pv 1) pa_nil)) (blkOk_by (N := N__law_names) (sc := defScope s__law_names) (by decide +kernel)) (fun _ _ _ _ _ => pg_name (i := 8) sc__law_names.nd rfl (Or.inl rfl)) (fun _ _ _ _ _ => pts_nil) (fun _ _ _ _ _ => pe_op op_add_str (pe_op op_add_str (pe_slice sl_str (pv 6) po_none (po_some (pv 7))) (pe_ix ix_str (pv 2) (pe_op op_mod (pe_callTy call_int1 (by rfl) T.m_int (by decide +kernel) (pa_cons (pe_op op_add (pv 5) (pe_op op_mul pe_int (pv 8))) pa_nil)) pe_int) (fun _ _ => rfl))) (pe_slice sl_str (pv 6) (po_some (pv 7)) po_none))))))))))))), ?_⟩
  refine ⟨_, rfl, _, _, rfl, rfl, (by decide +kernel), rfl, _, _, rfl, rfl, (by decide +kernel), (by decide +kernel), fun p1 hp1 => ?_⟩
  have g1 : Go b p H (upd H p1 (.lst (ws.map V.str))) := (Go.refl B).new hp1
  have w1 : newof H (upd H p1 (.lst (ws.map V.str))) p1 = some (.lst (ws.map V.str)) := newof_of hp1 upd_same
  refine ⟨_, rfl, b, p, 4, rfl, g1.B, by decide, by decide, fun way H2 a0 a1 g2 => ?_⟩
  refine ⟨_, rfl, b, p, 20, rfl, g2.B, by decide, by decide, fun turn H3 b0 b1 g3 => ⟨(by show 2 ≤ sizeLine; decide), fun tp htp => ?_⟩⟩
  have g4 : Go b p (upd H p1 (.lst (ws.map V.str))) (upd H3 tp (.tup [.int way, .int turn])) := (g2.trans g3).new htp
  have w4 := newof_go B g4 _ _ w1
  refine ⟨tp, _, rfl, SqT.of upd_same, rfl, _, _, rfl, _, _, rfl, rfl, ?_⟩
  have g5 := g1.trans g4
  clear g4 g3 g2 w1 htp
  generalize upd H3 tp (.tup [.int way, .int turn]) = H4 at g5 w4
  -- the base
  refine ⟨rfl, _, rfl, b, p, 7, rfl, g5.B, by decide, by decide, fun i7 H5 c0 c1 g6 => ⟨_, _, rfl, rfl, _, rfl, by omega, by omega, fun Dl hD => ?_⟩⟩
  refine lc_bag (fun d => ∃ x, d = .str x ∧ okL x = true ∧ x.length ≤ 1) g6.B hD (by omega) (fun _ => rfl) (fun _ _ _ r => r) ?_ ?_
  · intro i H' R hi g r
    refine ⟨_, rfl, _, rfl, b, p, 26, rfl, g.B, by decide, by decide, fun j H2 d0 d1 g7 => ?_⟩
    obtain ⟨c, e1, e2⟩ := sign_atL (x := letters) d0 (by rw [lt_len]; exact d1)
    have e3 := e2 lt_ok
    exact ⟨_, _, c, rfl, rfl, (by decide +kernel), e1, r _ (.str ⟨#[c]⟩) H2 g7 (.str _ (okL_ok e3)) ⟨_, rfl, e3, Nat.le_refl _⟩⟩
  intro H6 acc ds g7 hl hds hg hn
  obtain ⟨ys, rfl, ok, ln⟩ := dvl_strsL hds hg
  have l8 : ys.length ≤ 7 := by omega
  have sl := sum_len fun y hy => (ok y hy).2
  refine ⟨_, Dl, ys, rfl, rfl, .inl (SqL.of hl), ?_, ?_⟩
  · have z : (("" : String) : Str).length = 0 := rfl
    rw [z]
    omega
  have g8 := g5.trans (g6.trans g7)
  have w8 := newof_go B (g6.trans g7) _ _ w4
  obtain ⟨base, hb1, hb2, hb3⟩ : ∃ base, Txt.join "" ys = base ∧ okL base = true ∧ base.length ≤ 7 :=
    ⟨_, rfl, okL_join fun y hy => (ok y hy).1, Nat.le_trans (len_join fun y hy => (ok y hy).2) l8⟩
  rw [hb1]
  refine ⟨_, rfl, _, rfl, base, rfl, sz (by omega), _, _, rfl, rfl, b, p, _, rfl, g8.B, by omega, by omega, fun at_ H7 f0 f1 g9 => ?_⟩
  have gA := g8.trans g9
  have wA := newof_go B g9 _ _ w8
  obtain ⟨np1, wB⟩ := newof_is wA
  refine ⟨_, rfl, rfl, _, rfl, ite_b (fun h1 => ?_) (fun h1 => ?_)⟩
  · obtain ⟨z1, e1, m1, l1⟩ := cut_strs ws (some turn) none
    obtain ⟨z2, e2, m2, l2⟩ := cut_strs ws none (some turn)
    rw [ws_len, sIx_none, sIx_at b0] at l1 l2
    refine ⟨_, rfl, _, rfl, _, rfl, p1, _, rfl, SqL.of wB, fun q1 hq1 => ?_⟩
    have s1 : Same H7 (upd H7 q1 (.lst (cutV (ws.map V.str) (some turn) none))) := Same.new hq1
    refine ⟨_, rfl, _, rfl, _, rfl, p1, _, rfl, SqL.of (s1 _ _ wB), fun q2 hq2 => ?_⟩
    refine ⟨q1, q2, _, _, rfl, rfl, Same.new hq2 _ _ upd_same, upd_same, ?_, fun q3 hq3 => ?_⟩
    · rw [e1, e2, List.length_map, List.length_map]
      exact sz (by omega)
    rw [e1, e2] at *
    have s2 := s1.trans ((Same.new (o := .lst (z2.map V.str)) hq2).trans (Same.new (o := .lst (z1.map V.str ++ z2.map V.str)) hq3))
    rw [← List.map_append] at *
    obtain ⟨z3, e3, m3, l3⟩ := cut_strs (z1 ++ z2) none (some n)
    rw [List.length_append, sIx_none, sIx_at n0] at l3
    refine ⟨_, rfl, _, rfl, q3, _, rfl, SqL.of upd_same, fun q4 hq4 => ?_⟩
    rw [e3]
    refine q q4 _ z3 ((gA.same s2).new hq4) (newof_of ((gA.same s2).free hq4) upd_same) (by omega) fun x hx => ?_
    rcases List.mem_append.mp (m3 x hx) with h | h
    · exact ws_ok x (m1 x h)
    · exact ws_ok x (m2 x h)
  · refine ⟨_, rfl, rfl, _, rfl, ite_b (fun h2 => ?_) (fun h2 => ?_)⟩
    · refine ⟨_, rfl, n, rfl, by omega, by omega, fun Dl hD => ?_⟩
      refine lc_bag (fun d => ∃ x, d = .str x ∧ okL x = true ∧ x.length ≤ 30) gA.B hD (by omega) (fun _ => rfl) (fun _ _ _ r => r) ?_ ?_
      · intro i H' R hi g r
        obtain ⟨c, e1, e2⟩ := sign_atL (x := letters) (i := (turn + 3 * (i : Int)) % 26) (Int.emod_nonneg _ (by decide)) (by rw [lt_len]; exact Int.emod_lt_of_pos _ (by decide))
        have e3 := e2 lt_ok
        refine ⟨_, rfl, _, rfl, _, rfl, _, _, rfl, rfl, .inl ⟨by decide, by decide⟩, _, _, rfl, rfl, .inl ⟨_, rfl, _, _, rfl, rfl, (by show (0 : Int) < _; decide), _, _, c, rfl, rfl, (by decide +kernel), e1, ?_⟩⟩
        exact r _ (.str ⟨#[c]⟩) H' (.refl g.B) (.str _ (okL_ok e3)) ⟨_, rfl, e3, by show 1 ≤ 30; decide⟩
      · intro H' acc ds g hl hds hg hn
        obtain ⟨ys, rfl, ok, ln⟩ := dvl_strsL hds hg
        exact q Dl H' ys (gA.trans g) (newof_of (gA.free hD) hl) (by omega) ok
    · refine ⟨_, rfl, n, rfl, by omega, by omega, fun Dl hD => ?_⟩
      refine lc_bag (fun d => ∃ x, d = .str x ∧ okL x = true ∧ x.length ≤ 30) gA.B hD (by omega) (fun _ => rfl) (fun _ _ _ r => r) ?_ ?_
      · intro i H' R hi g r
        obtain ⟨c, e1, e2⟩ := sign_atL (x := letters) (i := (turn + 3 * (i : Int)) % 26) (Int.emod_nonneg _ (by decide)) (by rw [lt_len]; exact Int.emod_lt_of_pos _ (by decide))
        have e3 := e2 lt_ok
        have c1 := cut_len_le (x := base) (lo := none) (hi := some at_)
        have c2 := cut_len_le (x := base) (lo := some at_) (hi := none)
        have c3 : (⟨#[c]⟩ : Str).length = 1 := rfl
        have l4 := len_app (cutS base none (some at_)) ⟨#[c]⟩
        have l5 := len_app (cutS base none (some at_) ++ ⟨#[c]⟩) (cutS base (some at_) none)
        refine ⟨_, rfl, _, rfl, _, rfl, base, rfl, sz (by omega), _, rfl, _, rfl, _, rfl, _, _, rfl, rfl, .inl ⟨by decide, by decide⟩, _, _, rfl, rfl, .inl ⟨_, rfl, _, _, rfl, rfl, (by show (0 : Int) < _; decide), _, _, c, rfl, rfl, (by decide +kernel), e1, _, _, rfl, rfl, sz (by omega), ?_⟩⟩
        refine ⟨_, rfl, _, rfl, _, rfl, base, rfl, sz (by omega), _, _, rfl, rfl, sz (by omega), ?_⟩
        have ok := okL_app (okL_app (okL_cut (lo := none) (hi := some at_) hb2) e3) (okL_cut (lo := some at_) (hi := none) hb2)
        exact r _ _ H' (.refl g.B) (.str _ (okL_ok ok)) ⟨_, rfl, ok, by omega⟩
      · intro H' acc ds g hl hds hg hn
        obtain ⟨ys, rfl, ok, ln⟩ := dvl_strsL hds hg
        exact q Dl H' ys (gA.trans g) (newof_of (gA.free hD) hl) (by omega) ok
end
end K13
set_option maxRecDepth 100000
set_option maxHeartbeats 4000000
namespace K13
open PySem L2 Fm
section
variable {P : Program} {w : World} {K : PySem.W.Frag} {mg : Str → Option Value} {base : Heap} (T : Txt K mg)
theorem ok_law_term : ∀ m : Nat, FnOk P w K mg base CX0 (m + 2) T.a__law_term T.d__law_term ["_law_bag_here", "_law_names_here", "_law_many", "_law_deep"] (spTermL m)
  | 0 => ⟨fun _ _ _ _ ⟨_, _, _, _, _, _, _, _, _, _, _, _, _, z, _⟩ => absurd z (Nat.not_lt_zero _), fun _ _ _ _ _ _ _ _ _ _ _ _ _ ⟨_, _, _, _, _, _, _, _, _, _, _, _, _, z, _⟩ => absurd z (Nat.not_lt_zero _)⟩
  | m + 1 => by
    have G__law_term := ok_law_term m
    have G__law_take := ok_law_take (P := P) (w := w) (base := base) T
    refine T.F__law_term.ok sc__law_term ?_ (fun cdv A outer s H vs Q E hr h => ?_)
    · rintro vs H Q E ⟨b, p, nm, xs, many, k, deep, rfl, _⟩
      rfl
    obtain ⟨b, p, nm, xs, many, k, deep, rfl, ed, B, N, m0, m1, km, kh, q⟩ := h
    refine ⟨_, 
    (pss_cons (ps_set (i := 4) sc__law_term.nd rfl (Or.inl rfl) (pe_call G__law_take (hr.mono (by omega)) (by rfl) T.f__law_take T.F__law_take.kp T.b__law_take .nil pass0 (pa_cons (pv 0) (pa_cons pe_int pa_nil))))
    (pss_cons (ps_if (PW.pt (pw_and (pt_cmpR op_gt (pv 2) pe_int (nomark _)) (pw_and1 (PW.pt (pw_or (pt_cmpR op_lt (pv 3) pe_int (nomark _)) (pw_or1 (pt_cmpR op_eq (pv 4) pe_int (nomark _)))))))) (pss_one (ps_ret (pe_call G__law_take (hr.mono (by omega)) (by rfl) T.f__law_take T.F__law_take.kp T.b__law_take .nil pass0 (pa_cons (pv 0) (pa_cons (pv 2) pa_nil))))) pss_nil)
    (pss_cons (ps_par (i := 5) (j := 6) (by rfl) sc__law_term.nd rfl rfl (by decide) rfl rfl (pa_cons (pe_ix ix_list (pv 1) (pe_call G__law_take (hr.mono (by omega)) (by rfl) T.f__law_take T.F__law_take.kp T.b__law_take .nil pass0 (pa_cons (pv 0) (pa_cons (pe_callB call_len_seq (by rfl) T.m_len (by decide +kernel) (pa_cons (pv 1) pa_nil)) pa_nil))) (fun _ _ => rfl)) (pa_cons (pe_call G__law_take (hr.mono (by omega)) (by rfl) T.f__law_take T.F__law_take.kp T.b__law_take .nil pass0 (pa_cons (pv 0) (pa_cons pe_int pa_nil))) pa_nil)) (by rfl))
    (pss_cons (ps_if (PW.pt (pw_or (PW.pt (pw_and (pt_cmpR op_le (pv 3) pe_int (nomark _)) (pw_and1 (pt_cmpR op_eq (pv 2) pe_int (nomark _))))) (pw_or1 (pt_cmpR op_eq (pv 4) pe_int (nomark _))))) (pss_one (ps_ret (pe_tup (pa_cons (pv 5) pa_nil)))) pss_nil)
    (pss_one (ps_ret (pe_op op_catA (pe_tup (pa_cons (pv 5) pa_nil)) (pe_callTy call_tuple_of (by rfl) T.m_tuple (by decide +kernel) (pa_cons (pe_lc (own := [("_law_k", 7)]) (g := gName 7) (tt := tYes) rfl sc__law_term.nd (pi_range1 (by rfl) T.m_range (pa_cons (pv 6) pa_nil)) (blkOk_by (N := N__law_term) (sc := defScope s__law_term) (by decide +kernel)) (fun _ _ _ _ _ => pg_name (i := 7) sc__law_term.nd rfl (Or.inl rfl)) (fun _ _ _ _ _ => pts_nil) (fun _ _ _ _ _ => pe_call G__law_term (hr.mono (by omega)) (by rfl) T.f__law_term T.F__law_term.kp T.b__law_term .nil pass0 (pa_cons (pv 0) (pa_cons (pv 1) (pa_cons (pv 2) (pa_cons (pe_op op_sub (pv 3) pe_int) pa_nil)))))) pa_nil))))))))), ?_⟩
    refine ⟨_, rfl, b, p, 4, rfl, B, by decide, by decide, fun way H1 a0 a1 g1 => ?_⟩
    have one : ∀ (i : Int) (H2 : Hp), 0 ≤ i → i < many → Go b p H H2 → Q (.int i) H2 := fun i H2 i0 i1 g => q _ _ (.int i) g (.int i) (by obtain ⟨n, rfl⟩ := Int.eq_ofNat_of_zero_le i0; exact .int n (by omega)) ⟨Nat.zero_le _, by
      have h4 : 1 ≤ 3 ^ k := Nat.one_le_pow _ _ (by decide)
      simp only [D.size]
      omega⟩ (UnkL.int i0 i1)
    refine ⟨_, rfl, _, _, rfl, rfl, _, rfl, ite_b (fun h1 => ?_) (fun h1 => absurd m0 (of_decide_eq_false h1))⟩
    refine ⟨_, rfl, _, _, rfl, rfl, _, rfl, ite_b (fun h2 => ?_) (fun h2 => ?_)⟩
    · exact iteT ⟨_, rfl, _, rfl, b, p, many, rfl, g1.B, m0, by omega, fun i H2 i0 i1 g2 => one i H2 i0 i1 (g1.trans g2)⟩
    have d1 : 1 ≤ deep := by have := of_decide_eq_false h2; omega
    refine ⟨_, rfl, rfl, _, rfl, ite_b (fun h3 => ?_) (fun h3 => ?_)⟩
    · exact ⟨_, rfl, _, rfl, b, p, many, rfl, g1.B, m0, by omega, fun i H2 i0 i1 g2 => one i H2 i0 i1 (g1.trans g2)⟩
    obtain ⟨j, rfl⟩ : ∃ j, k = j + 1 := ⟨k - 1, by omega⟩
    have N1 := N.go g1
    refine ⟨_, rfl, _, rfl, _, rfl, nm, _, rfl, .inl (SqL.of N1.at_), b, p, _, rfl, g1.B, ?_, ?_, fun at_ H2 b0 b1 g2 => ?_⟩
    · rw [List.length_map]
      have := N.pos
      omega
    · rw [List.length_map]
      have := N.few
      omega
    rw [List.length_map] at b1
    have N2 := N1.go g2
    obtain ⟨x, e1, ox, lx⟩ := N2.get b0 b1
    refine ⟨nm, _, at_, _, rfl, rfl, SqL.of N2.at_, e1, ?_⟩
    refine ⟨_, rfl, b, p, 4, rfl, g2.B, by decide, by decide, fun parts H3 c0 c1 g3 => ⟨_, _, rfl, ?_⟩⟩
    have g4 := (g1.trans g2).trans g3
    have N4 := N2.go g3
    clear g1 g2 g3 N1 N2 e1
    refine ⟨_, rfl, _, _, rfl, rfl, _, rfl, ite_b (fun h4 => ⟨_, rfl, rfl, _, rfl, ite_b (fun h5 => ?_) (fun h5 => ?_)⟩) (fun h4 => iteF ?_)⟩
    · have z := of_decide_eq_true h5
      injection z with z
      omega
    all_goals
      refine ⟨_, rfl, rfl, _, rfl, ite_b (fun h6 => ?_) (fun h6 => ?_)⟩
      · refine ⟨_, rfl, (by show 1 ≤ sizeLine; decide), fun tp htp => ?_⟩
        exact q _ _ (.tup [.str x]) (g4.new htp) (.tup (newof_of (g4.free htp) upd_same) (.cons (.str x (okL_ok ox)) .nil)) (.tup x [] (okL_iff.mp ox) fun _ h => by cases h) (.tup lx (by decide) fun _ h => by cases h) (UnkL.tup (by decide) fun _ h => by cases h)
      · refine ⟨_, rfl, (by show 1 ≤ sizeLine; decide), fun tp htp => ?_⟩
        have g5 := g4.new (o := .tup [.str x]) htp
        refine ⟨_, rfl, parts, rfl, by omega, by omega, fun Dl hD => ?_⟩
        refine lc_bag (fun d => TmL d ∧ Sized j d ∧ UnkL many j d) g5.B hD (by omega) (fun _ => rfl) (fun _ _ _ r => r) ?_ ?_
        · intro i H' R hi g r
          have N5 := (N4.go (.of g4.B (Same.new (o := .tup [.str x]) htp))).go g
          exact ⟨_, rfl, _, rfl, _, rfl, _, rfl, _, _, rfl, rfl, b, p, nm, xs, many, j, _, rfl, by omega, g.B, N5, m0, m1, by omega, by omega, fun v H2 d g2 hv tm szd un => r v d H2 g2 hv ⟨tm, szd, un⟩⟩
        · intro H' acc ds g hl hds hg hn
          refine ⟨Dl, acc, rfl, .inl ⟨SqL.of hl, fun t2 ht2 => ?_⟩⟩
          have g6 := g5.trans g
          have la := hds.len
          have n5 : tp ≠ b := g4.B.b_ne htp
          have e5 : H' tp = some (.tup [.str x]) := g.at n5 upd_same
          have k2 : Same H' (upd H' t2 (.tup acc)) := Same.new ht2
          have l3 : ds.length ≤ 3 := by omega
          refine ⟨tp, t2, _, acc, rfl, rfl, SqT.of (k2 _ _ e5), SqT.of upd_same, sz (by simp only [List.length_cons, List.length_nil]; omega), fun z => (by cases z), fun _ z => ?_, fun _ z t3 ht3 => ?_⟩
          · have g7 := g6.same k2
            refine q _ _ (.tup [.str x]) g7 (.tup (newof_of (g4.free htp) (k2 _ _ e5)) (.cons (.str x (okL_ok ox)) .nil)) (.tup x [] (okL_iff.mp ox) fun _ h => by cases h) (.tup lx (by decide) fun _ h => by cases h) (UnkL.tup (by decide) fun _ h => by cases h)
          · have g7 := g6.same k2
            have k3 : Same H' (upd (upd H' t2 (.tup acc)) t3 (.tup ([.str x] ++ acc))) := k2.trans (Same.new ht3)
            have h8 : DvL (newof H (upd (upd H' t2 (.tup acc)) t3 (.tup ([.str x] ++ acc)))) acc ds := (hds.same (newof_lift fun a ha => g5.free ha) _ _).same (newof_same k3) _ _
            exact q _ _ (.tup (.str x :: ds)) (g7.new ht3) (.tup (newof_of (g7.free ht3) upd_same) (.cons (.str x (okL_ok ox)) h8)) (.tup x ds (okL_iff.mp ox) fun d hd => (hg d hd).1) (.tup lx l3 fun d hd => (hg d hd).2.1) (UnkL.tup l3 fun d hd => (hg d hd).2.2)
end
end K13
set_option maxRecDepth 100000
set_option maxHeartbeats 2000000
namespace K13
open PySem L2 Fm
section
variable {P : Program} {w : World} {K : PySem.W.Frag} {mg : Str → Option Value} {base : Heap} (T : Txt K mg)
theorem ok_law_put : ∀ m : Nat, FnOk P w K mg base CX0 m T.a__law_put T.d__law_put ["_law_term_here", "_law_values_here"] (spLPut K m)
  | 0 => ⟨fun _ _ _ _ ⟨_, _, _, _, _, _, _, _, _, z, _⟩ => absurd z (Nat.not_lt_zero _), fun _ _ _ _ _ _ _ _ _ _ _ _ _ ⟨_, _, _, _, _, _, _, _, _, z, _⟩ => absurd z (Nat.not_lt_zero _)⟩
  | m + 1 => by
    have G__law_put := ok_law_put m
    refine T.F__law_put.ok sc__law_put ?_ (fun cdv A outer s H vs Q E hr h => ?_)
    · rintro vs H Q E ⟨Hb, v, va, d, f, rfl, _⟩
      rfl
    obtain ⟨Hb, v, va, d, f, rfl, hb, hd, htm, hm, hz, hv, q⟩ := h
    refine ⟨_, 
    (pss_cons (ps_if (pt_val (pe_isD (fun _ => kit_I) T.m_isinstance (pv 0) (pe_bltn (v := .ty "int") (u := .type "int") (by rfl) T.m_int (by decide +kernel) rfl) mon_var)) (pss_one (ps_ret (pe_alt (pe_ix ix_seq (pv 1) (pv 0) (fun _ _ => rfl)) (pe_dget (hu1 hr) (pv 1) (pv 0) (fun _ _ => rfl))))) pss_nil)
    (pss_one (ps_ret (pe_op op_catA (pe_slice sl_tupA (pv 0) po_none (po_some pe_int)) (pe_callTy call_tuple_of (by rfl) T.m_tuple (by decide +kernel) (pa_cons (pe_lc (own := [("_law_part", 2)]) (g := gName 2) (tt := tYes) rfl sc__law_put.nd (pi_tup (pe_slice sl_tupA (pv 0) (po_some pe_int) po_none)) (blkOk_by (N := N__law_put) (sc := defScope s__law_put) (by decide +kernel)) (fun _ _ _ _ _ => pg_name (i := 2) sc__law_put.nd rfl (Or.inl rfl)) (fun _ _ _ _ _ => pts_nil) (fun _ _ _ _ _ => pe_call G__law_put (hr.mono (by omega)) (by rfl) T.f__law_put T.F__law_put.kp T.b__law_put .nil pass0 (pa_cons (pv 2) (pa_cons (pv 1) pa_nil)))) pa_nil)))))), ?_⟩
    refine ⟨_, rfl, d, hd.same hb _ _, _, rfl, ite_b (fun c => ?_) (fun c => ?_)⟩
    · obtain ⟨u, rfl⟩ : ∃ u, d = .int u := by
        cases htm with
        | int u => exact ⟨u, rfl⟩
        | tup y rs _ => cases c
      cases hd
      obtain ⟨v, lk, dv⟩ := hv u (by simp [flat])
      have fin := q v H (Same.refl _) (dv.same ovl_base _ _)
      rcases lk with ⟨a, xs, rfl, s1, g⟩ | ⟨a, kvs, rfl, s1, g⟩
      · refine .inl ⟨_, rfl, _, rfl, ?_⟩
        rcases s1 with s1 | s1
        · exact .inl ⟨a, xs, u, v, rfl, rfl, s1, g, fin⟩
        · exact .inr (.inl ⟨a, xs, u, v, rfl, rfl, s1, g, fin⟩)
      · refine .inr ⟨_, rfl, _, rfl, a, v, rfl, ?_, fin⟩
        rw [← g]
        exact L2.DGet.k (k := .inl u) s1
    · cases htm with
      | int u => cases c
      | tup x rs htr =>
      cases hd with
      | @tup a us _ h1 h2 =>
      cases h2 with
      | @cons w0 wr _ _ h3 h4 =>
      have ha := hb _ _ h1
      have lr := h4.len
      have n1 := len_sizes rs
      simp only [D.size, sizes, D.deep, deeps] at hz hm
      refine ⟨_, rfl, _, rfl, first_one ha fun t1 H1 k1 ht1 hn1 => ?_⟩
      refine ⟨_, rfl, _, rfl, tail_one (k1 _ _ ha) fun p hp => ?_⟩
      have k2 : Same H1 (upd H1 p (.tup wr)) := Same.new hp
      refine ⟨p, rfl, ⟨_, SqT.of upd_same⟩, fun Dl hD => ?_⟩
      have hb2 : Same Hb (upd H1 p (.tup wr)) := hb.trans (k1.trans k2)
      refine lc_newD (Hb := Hb) (putD f) (walk_tup (K := K) (a := p) (xs := wr)) (fun H' k => SqT.of (k _ _ upd_same)) h4 hD (by omega) (fun _ => rfl) (fun _ _ _ r => r) (fun y d H' R k3 hm3 hy r => ?_) (fun H' zs k3 hl3 hz3 => ?_)
      · have s1 := size_mem hm3
        have s2 := deep_mem hm3
        refine ⟨_, rfl, _, rfl, Hb, y, va, d, f, rfl, hb2.trans k3, hy, htr d hm3, by omega, by omega, fun u hu => ?_, fun v' H2 k4 hv2 => r v' H2 k4 hv2⟩
        obtain ⟨v, lk, dv⟩ := hv u (mem_flat_part hm3 hu)
        exact ⟨v, lk.same (k1.trans (k2.trans k3)), dv⟩
      · refine ⟨Dl, zs, rfl, .inl ⟨SqL.of hl3, fun t2 ht2 => ?_⟩⟩
        have k4 : Same H' (upd H' t2 (.tup zs)) := Same.new ht2
        have lz := hz3.len
        rw [List.length_map] at lz
        refine cat_one (k4 _ _ (k3 _ _ (k2 _ _ ht1))) upd_same (by omega) fun tt H4 k5 htt hn5 => ?_
        have kall : Same H H4 := k1.trans (k2.trans (k3.trans (k4.trans k5)))
        refine q (.ref tt) H4 kall ?_
        have nH : H tt = none ∨ tt = a := by
          rcases hn5 with rfl | hn5
          · rcases hn1 with rfl | hn1
            · exact .inr rfl
            · exact .inl hn1
          · exact .inl (Same.none (k1.trans (k2.trans (k3.trans k4))) hn5)
        have up : Same (ovl Hb (newof (upd (upd H1 p (.tup wr)) Dl (.lst [])) H')) (ovl Hb (newof H H4)) := ovl_mono fun b o e => by
          obtain ⟨e1, e2⟩ := newof_is (newof_first hD _ _ e)
          exact newof_of (Same.none (k1.trans k2) e1) (k5 _ _ (k4 _ _ e2))
        have hz4 := hz3.same up _ _
        rw [← puts_map] at hz4
        refine .tup ?_ (.cons (h3.same ovl_base _ _) hz4)
        rcases nH with e | rfl
        · have eb : Hb tt = none := by
            cases z : Hb tt with
            | none => rfl
            | some o =>
              rw [hb _ _ z] at e
              cases e
          exact ovl_new eb (newof_of e htt)
        · have e6 := kall _ _ ha
          rw [htt] at e6
          injection e6 with e6
          rw [e6]
          exact ovl_base _ _ h1
end
end K13
set_option maxRecDepth 100000
set_option maxHeartbeats 2000000
namespace K13
open PySem L2 Fm
section
variable {P : Program} {w : World} {K : PySem.W.Frag} {mg : Str → Option Value} {base : Heap} (T : Txt K mg)
theorem ok_law_leaves : ∀ m : Nat, FnOk P w K mg base CX0 m T.a__law_leaves T.d__law_leaves ["_law_terms"] (spLeaves K m)
  | 0 => ⟨fun _ _ _ _ ⟨_, _, _, _, _, _, _, z, _⟩ => absurd z (Nat.not_lt_zero _), fun _ _ _ _ _ _ _ _ _ _ _ _ _ ⟨_, _, _, _, _, _, _, z, _⟩ => absurd z (Nat.not_lt_zero _)⟩
  | m + 1 => by
    have G__law_leaves := ok_law_leaves m
    refine T.F__law_leaves.ok sc__law_leaves ?_ (fun cdv A outer s H vs Q E hr h => ?_)
    · rintro vs H Q E ⟨a, us, ds, rfl, _⟩
      rfl
    obtain ⟨a, us, ds, rfl, hs, hd, htm, hm, hz, q⟩ := h
    refine ⟨_, 
    (pss_cons (ps_set (i := 1) sc__law_leaves.nd rfl (Or.inl rfl) (pe_lst pa_nil))
    (pss_cons (ps_for PassesOwn.never rfl (pi_alt (pi_list (pv 0)) (pi_tup (pv 0))) (pg_name (i := 2) sc__law_leaves.nd rfl (Or.inl rfl)) (pss_one (ps_set (i := 1) sc__law_leaves.nd rfl (Or.inl rfl) (pe_op op_cat (pv 1) (pe_ifExp (pt_val (pe_isD (fun _ => kit_I) T.m_isinstance (pv 2) (pe_bltn (v := .ty "int") (u := .type "int") (by rfl) T.m_int (by decide +kernel) rfl) mon_var)) (pe_lst (pa_cons (pv 2) pa_nil)) (pe_call G__law_leaves (hr.mono (by omega)) (by rfl) T.f__law_leaves T.F__law_leaves.kp T.b__law_leaves .nil pass0 (pa_cons (pe_slice sl_tupA (pv 2) (po_some pe_int) po_none) pa_nil)))))))
    (pss_one (ps_ret (pv 1))))), ?_⟩
    refine ⟨by decide, fun l0 hl0 => ?_⟩
    have k0 : Same H (upd H l0 (.lst [])) := Same.new hl0
    have lw := hd.len
    rcases hs with hs | hs
    · refine .inl ⟨_, rfl, a, rfl, ⟨us, Evl.ex_l k0 hs⟩, ?_⟩
      refine for_it (walk_list (K := K) (a := a) (xs := us)) (fun i σ H' => ∃ l o, σ = [some (.ref a), some (.ref l), o] ∧ Same H H' ∧ H l = none ∧ H' l = some (.lst ((leaves (ds.take i)).map V.int)))
        ⟨l0, none, rfl, k0, hl0, upd_same⟩ (fun i σ H' hi ⟨_, _, _, k, _⟩ => Evl.ex_l k hs) ?_ ?_
      · rintro i x σ H1 H2 hi ⟨l, o, rfl, k, hl, e1⟩ ⟨rfl, hx⟩
        obtain ⟨d, ht, hdt⟩ := hd.get hx
        have tm := htm d (tk ht)
        have sm := size_mem (tk ht)
        have dm := deep_mem (tk ht)
        have tk1 : leaves (ds.take (i + 1)) = leaves (ds.take i) ++ leaf d := by
          rw [take_succ' ht, leaves_app, leaves_one]
        have ln := leaves_len (ds.take (i + 1))
        have ln2 : sizes (ds.take (i + 1)) ≤ sizes ds := by
          have := sizes_app (ds.take (i + 1)) (ds.drop (i + 1))
          rw [List.take_append_drop] at this
          omega
        rw [tk1] at ln
        rw [List.length_append] at ln
        have fin : ∀ (p : Addr) (H3 : Hp), Same H2 H3 → H2 p = none → H3 p = some (.lst ((leaf d).map V.int)) → ∃ l' b xs zs, V.ref l = .ref l' ∧ V.ref p = .ref b ∧ H3 l' = some (.lst xs) ∧ H3 b = some (.lst zs) ∧ xs.length + zs.length ≤ sizeLine ∧ ∀ p', H3 p' = none →
            ∃ l'' o', [some (.ref a), some (V.ref p'), some x] = [some (.ref a), some (.ref l''), o'] ∧ Same H (upd H3 p' (.lst (xs ++ zs))) ∧ H l'' = none ∧ (upd H3 p' (.lst (xs ++ zs))) l'' = some (.lst ((leaves (ds.take (i + 1))).map V.int)) := by
          intro p H3 k3 hp hp3
          refine ⟨l, p, _, _, rfl, rfl, k3 _ _ e1, hp3, ?_, fun p' hp' => ⟨p', _, rfl, (k.trans k3).trans (Same.new hp'), Same.none (k.trans k3) hp', ?_⟩⟩
          · rw [List.length_map, List.length_map]
            exact sz (by omega)
          · rw [tk1, List.map_append]
            exact upd_same
        refine ⟨_, rfl, _, rfl, d, hdt.same k _ _, _, rfl, ite_b (fun c => ?_) (fun c => ?_)⟩
        · obtain ⟨u, rfl⟩ : ∃ u, d = .int u := by
            cases tm with
            | int u => exact ⟨u, rfl⟩
            | tup y rs _ => cases c
          cases hdt
          exact ⟨_, rfl, by (show 1 ≤ sizeLine; decide), fun p hp => fin p _ (Same.new hp) hp upd_same⟩
        · cases tm with
          | int u => cases c
          | tup y rs htr =>
          cases hdt with
          | @tup b us2 _ h1 h2 =>
          cases h2 with
          | @cons w0 wr _ _ h3 h4 =>
          simp only [D.size, sizes, D.deep, deeps] at sm dm
          refine ⟨_, rfl, _, rfl, tail_one (k _ _ h1) fun p hp => ?_⟩
          have k2 : Same H2 (upd H2 p (.tup wr)) := Same.new hp
          exact ⟨p, wr, rs, rfl, .inr (SqT.of upd_same), h4.same (k.trans k2) _ _, htr, by omega, by omega, fun l2 H3 k3 hl2 hl3 => fin l2 H3 (k2.trans k3) (Same.none k2 hl2) hl3⟩
      · rintro σ H1 ⟨l, o, rfl, k, hl, e1⟩
        refine ⟨_, rfl, q l H1 k hl ?_⟩
        rw [e1, lw, List.take_length]
    · refine .inr ⟨_, rfl, a, rfl, ⟨us, Evl.ex_t k0 hs⟩, ?_⟩
      refine for_it (walk_tup (K := K) (a := a) (xs := us)) (fun i σ H' => ∃ l o, σ = [some (.ref a), some (.ref l), o] ∧ Same H H' ∧ H l = none ∧ H' l = some (.lst ((leaves (ds.take i)).map V.int)))
        ⟨l0, none, rfl, k0, hl0, upd_same⟩ (fun i σ H' hi ⟨_, _, _, k, _⟩ => Evl.ex_t k hs) ?_ ?_
      · rintro i x σ H1 H2 hi ⟨l, o, rfl, k, hl, e1⟩ ⟨rfl, hx⟩
        obtain ⟨d, ht, hdt⟩ := hd.get hx
        have tm := htm d (tk ht)
        have sm := size_mem (tk ht)
        have dm := deep_mem (tk ht)
        have tk1 : leaves (ds.take (i + 1)) = leaves (ds.take i) ++ leaf d := by
          rw [take_succ' ht, leaves_app, leaves_one]
        have ln := leaves_len (ds.take (i + 1))
        have ln2 : sizes (ds.take (i + 1)) ≤ sizes ds := by
          have := sizes_app (ds.take (i + 1)) (ds.drop (i + 1))
          rw [List.take_append_drop] at this
          omega
        rw [tk1] at ln
        rw [List.length_append] at ln
        have fin : ∀ (p : Addr) (H3 : Hp), Same H2 H3 → H2 p = none → H3 p = some (.lst ((leaf d).map V.int)) → ∃ l' b xs zs, V.ref l = .ref l' ∧ V.ref p = .ref b ∧ H3 l' = some (.lst xs) ∧ H3 b = some (.lst zs) ∧ xs.length + zs.length ≤ sizeLine ∧ ∀ p', H3 p' = none →
            ∃ l'' o', [some (.ref a), some (V.ref p'), some x] = [some (.ref a), some (.ref l''), o'] ∧ Same H (upd H3 p' (.lst (xs ++ zs))) ∧ H l'' = none ∧ (upd H3 p' (.lst (xs ++ zs))) l'' = some (.lst ((leaves (ds.take (i + 1))).map V.int)) := by
          intro p H3 k3 hp hp3
          refine ⟨l, p, _, _, rfl, rfl, k3 _ _ e1, hp3, ?_, fun p' hp' => ⟨p', _, rfl, (k.trans k3).trans (Same.new hp'), Same.none (k.trans k3) hp', ?_⟩⟩
          · rw [List.length_map, List.length_map]
            exact sz (by omega)
          · rw [tk1, List.map_append]
            exact upd_same
        refine ⟨_, rfl, _, rfl, d, hdt.same k _ _, _, rfl, ite_b (fun c => ?_) (fun c => ?_)⟩
        · obtain ⟨u, rfl⟩ : ∃ u, d = .int u := by
            cases tm with
            | int u => exact ⟨u, rfl⟩
            | tup y rs _ => cases c
          cases hdt
          exact ⟨_, rfl, by (show 1 ≤ sizeLine; decide), fun p hp => fin p _ (Same.new hp) hp upd_same⟩
        · cases tm with
          | int u => cases c
          | tup y rs htr =>
          cases hdt with
          | @tup b us2 _ h1 h2 =>
          cases h2 with
          | @cons w0 wr _ _ h3 h4 =>
          simp only [D.size, sizes, D.deep, deeps] at sm dm
          refine ⟨_, rfl, _, rfl, tail_one (k _ _ h1) fun p hp => ?_⟩
          have k2 : Same H2 (upd H2 p (.tup wr)) := Same.new hp
          exact ⟨p, wr, rs, rfl, .inr (SqT.of upd_same), h4.same (k.trans k2) _ _, htr, by omega, by omega, fun l2 H3 k3 hl2 hl3 => fin l2 H3 (k2.trans k3) (Same.none k2 hl2) hl3⟩
      · rintro σ H1 ⟨l, o, rfl, k, hl, e1⟩
        refine ⟨_, rfl, q l H1 k hl ?_⟩
        rw [e1, lw, List.take_length]
end
end K13
set_option maxRecDepth 100000
set_option maxHeartbeats 4000000
namespace K13
open PySem L2 Fm
section
variable {P : Program} {w : World} {K : PySem.W.Frag} {mg : Str → Option Value} {base : Heap} (T : Txt K mg)
theorem ok_law_built : ∀ m : Nat, FnOk P w K mg base CX0 m T.a__law_built T.d__law_built ["_law_term_here", "_law_values_here", "_law_keep"] (spLBuilt K m)
  | 0 => ⟨fun _ _ _ _ ⟨_, _, _, _, _, _, _, _, _, _, _, _, _, _, _, _, _, _, z, _⟩ => absurd z (Nat.not_lt_zero _), fun _ _ _ _ _ _ _ _ _ _ _ _ _ ⟨_, _, _, _, _, _, _, _, _, _, _, _, _, _, _, _, _, _, z, _⟩ => absurd z (Nat.not_lt_zero _)⟩
  | m + 1 => by
    have G__law_built := ok_law_built m
    refine T.F__law_built.ok sc__law_built ?_ (fun cdv A outer s H vs Q E hr h => ?_)
    · rintro vs H Q E ⟨Hb, v, va, ka, ws, d, es, ks, rfl, _⟩
      rfl
    obtain ⟨Hb, v, va, ka, ws, d, es, ks, rfl, hb, hva, hws, hd, htm, hes, hka, hks, hkl, hm, hdp, hz, hez, q⟩ := h
    refine ⟨_, 
    (pss_cons (ps_for PassesOwn.never rfl (pi_list (pv 2)) (pg_name (i := 3) sc__law_built.nd rfl (Or.inl rfl)) (pss_one (ps_if (pt_cmpR (op_eqD hr.units) (pe_ix ix_list (pv 1) (pv 3) (fun _ _ => rfl)) (pv 0) (nomark _)) (pss_one (ps_ret (pv 3))) pss_nil)))
    (pss_cons (ps_if (pt_val (pe_isD (fun _ => kit_I) T.m_isinstance (pv 0) (pe_bltn (v := .ty "int") (u := .type "int") (by rfl) T.m_int (by decide +kernel) rfl) mon_var)) (pss_one (ps_ret pe_non)) pss_nil)
    (pss_cons (ps_setLc (i := 4) (own := [("_law_part", 5)]) (g := gName 5) (tt := tYes) rfl sc__law_built.nd rfl rfl (sw_true rfl rfl rfl (by decide +kernel)) (pi_tup (pe_slice sl_tupA (pv 0) (po_some pe_int) po_none)) (blkOk_by (N := N__law_built) (sc := defScope s__law_built) (by decide +kernel)) (fun _ _ _ _ _ => pg_name (i := 5) sc__law_built.nd rfl (Or.inl rfl)) (fun _ _ _ _ _ => pts_nil) (fun _ _ _ _ _ => pe_call G__law_built (hr.mono (by omega)) (by rfl) T.f__law_built T.F__law_built.kp T.b__law_built .nil pass0 (pa_cons (pv 5) (pa_cons (pv 1) (pa_cons (pv 2) pa_nil)))))
    (pss_one (ps_ret (pe_ifExp (pt_cmpR (op_inD hr.units) pe_non (pv 4) (by rfl)) pe_non (pe_op op_catA (pe_slice sl_tupA (pv 0) po_none (po_some pe_int)) (pe_callTy call_tuple_of (by rfl) T.m_tuple (by decide +kernel) (pa_cons (pv 4) pa_nil))))))))), ?_⟩
    have dv0 := hd.same hb _ _
    have dvw := hws.same hb _ _
    refine ⟨_, rfl, ka, rfl, ⟨_, SqL.of (hb _ _ hka)⟩, ?_⟩
    refine for_list (xs := ks.map vI) (fun i σ H' => ∃ o3, σ = [some v, some (.ref va), some (.ref ka), o3, none, none] ∧ H' = H ∧ ∀ a ∈ ks.take i, es[a]? ≠ some d) ⟨none, rfl, rfl, fun a ha => by simp at ha⟩ (fun i σ H' _ ⟨_, _, e, _⟩ => by rw [e]; exact SqL.of (hb _ _ hka)) ?_ ?_
    · rintro i x σ H1 hx ⟨o3, rfl, rfl, no⟩
      rw [List.getElem?_map] at hx
      obtain ⟨a, ha, rfl⟩ := Option.map_eq_some_iff.mp hx
      have ham := List.mem_of_getElem? ha
      have lt := hks a ham
      have ea : es[a]? = some es[a] := List.getElem?_eq_getElem lt
      obtain ⟨y, hy, dy⟩ := dvw.getD ea
      have te := hes _ (List.getElem_mem lt)
      obtain ⟨p1, p2⟩ := tm_data (K := K) dy te.noDic (by have := (hez _ (List.getElem_mem lt)).2; omega)
      obtain ⟨p3, p4⟩ := tm_data (K := K) dv0 htm.noDic (by omega)
      refine ⟨_, rfl, _, rfl, va, ws, a, y, rfl, rfl, SqL.of (hb _ _ hva), atI_nat hy, _, rfl, _, _, p1, p3, p2, p4, _, rfl, ite_b (fun c => ?_) (fun c => ?_)⟩
      · have e := (eqv_tm te d htm).mp c
        have f : kAt es ks d = some a := by
          unfold kAt
          rw [List.find?_eq_some_iff_append]
          refine ⟨by rw [ea, e]; simp, ks.take i, ks.drop (i + 1), ?_, fun b hb => by simpa using no b hb⟩
          obtain ⟨hi, e2⟩ := List.getElem?_eq_some_iff.mp ha
          rw [← e2, ← List.drop_eq_getElem_cons hi, List.take_append_drop]
        refine ⟨_, rfl, q _ H1 (Same.refl _) ?_⟩
        rw [blt_some f]
        exact .int _
      · refine ⟨_, rfl, rfl, fun b hb => ?_⟩
        rw [take_succ' ha] at hb
        rcases List.mem_append.mp hb with h | h
        · exact no b h
        · rw [List.mem_singleton.mp h, ea]
          intro z
          rw [(eqv_tm te d htm).mpr (Option.some.inj z)] at c
          cases c
    · rintro σ H1 ⟨o3, rfl, rfl, no⟩
      have kn : kAt es ks d = none := by
        unfold kAt
        rw [List.find?_eq_none]
        intro a ha
        have := no a (by rw [List.length_map, List.take_length]; exact ha)
        simpa using this
      refine ⟨_, rfl, d, dv0, _, rfl, ite_b (fun c => ?_) (fun c => ?_)⟩
      · obtain ⟨u, rfl⟩ : ∃ u, d = .int u := by
          cases htm with
          | int u => exact ⟨u, rfl⟩
          | tup y rs _ => cases c
        refine q .non H1 (Same.refl _) ?_
        rw [blt_int kn]
        exact .non
      · cases htm with
        | int u => cases c
        | tup x rs htr =>
        cases hd with
        | @tup ta us _ h1 h2 =>
        cases h2 with
        | @cons w0 wr _ _ h3 h4 =>
        have ha := hb _ _ h1
        have lr := h4.len
        have n1 := len_sizes rs
        simp only [D.size, sizes, D.deep, deeps] at hz hm hdp
        refine ⟨_, rfl, _, rfl, tail_one ha fun p hp => ?_⟩
        have k2 : Same H1 (upd H1 p (.tup wr)) := Same.new hp
        refine ⟨p, rfl, ⟨_, SqT.of upd_same⟩, fun Dl hD => ?_⟩
        have hb2 : Same Hb (upd H1 p (.tup wr)) := hb.trans k2
        refine lc_newD (Hb := Hb) (blt (kAt es ks)) (walk_tup (K := K) (a := p) (xs := wr)) (fun H' k => SqT.of (k _ _ upd_same)) h4 hD (by omega) (fun _ => rfl) (fun _ _ _ r => r) (fun y d H' R k3 hm3 hy r => ?_) (fun H' zs k3 hl3 hz3 => ?_)
        · have s1 := size_mem hm3
          have s2 := deep_mem hm3
          exact ⟨_, rfl, _, rfl, _, rfl, Hb, y, va, ka, ws, d, es, ks, rfl, hb2.trans k3, hva, hws, hy, htr d hm3, hes, hka, hks, hkl, by omega, by omega, by omega, hez, fun v' H2 k4 hv2 => r v' H2 k4 hv2⟩
        · rw [← blts_map] at hz3
          have hz4 := hz3.same (ovl_sub (hb2.trans k3) newof_sub) _ _
          obtain ⟨x1, x2⟩ := blts_data (K := K) hl3 hz4 htr (by omega)
          have kA : Same H1 H' := k2.trans k3
          have up0 : Same (ovl Hb (newof (upd (upd H1 p (.tup wr)) Dl (.lst [])) H')) (ovl Hb (newof H1 H')) := ovl_mono fun b o e => by
            obtain ⟨e1, e2⟩ := newof_is (newof_first hD _ _ e)
            exact newof_of (Same.none k2 e1) e2
          have dn : min (PyData.depthAll (pdsOf (blts (kAt es ks) rs))) (PyData.depth PyData.none) < 60 := by
            have : PyData.depth PyData.none = 0 := by simp [PyData.depth]
            omega
          refine ⟨_, rfl, PyData.none, pdsOf (blts (kAt es ks) rs), (dp_pd (K := K) .non .non .non rfl).1, x1, x2, rfl, dn, _, rfl, ite_b (fun c => ?_) (fun c => ?_)⟩
          · rw [if_neg (by decide), blts_any htr] at c
            refine q .non H' kA ?_
            rw [blt_tup kn, if_pos c]
            exact .non
          · rw [if_neg (by decide), blts_any htr] at c
            refine ⟨_, rfl, _, rfl, first_one (kA _ _ ha) fun t1 H2 k4 ht1 hn1 => ?_⟩
            refine ⟨_, rfl, Dl, zs, rfl, .inl ⟨SqL.of (k4 _ _ hl3), fun t2 ht2 => ?_⟩⟩
            have k5 : Same H2 (upd H2 t2 (.tup zs)) := Same.new ht2
            have lz := hz3.len
            rw [blts_map, List.length_map] at lz
            refine cat_one (k5 _ _ ht1) upd_same (by omega) fun tt H4 k6 htt hn5 => ?_
            have kall : Same H1 H4 := kA.trans (k4.trans (k5.trans k6))
            refine q (.ref tt) H4 kall ?_
            have nH : H1 tt = none ∨ tt = ta := by
              rcases hn5 with rfl | hn5
              · rcases hn1 with rfl | hn1
                · exact .inr rfl
                · exact .inl (Same.none kA hn1)
              · exact .inl (Same.none (kA.trans (k4.trans k5)) hn5)
            have up : Same (ovl Hb (newof H1 H')) (ovl Hb (newof H1 H4)) := ovl_mono (newof_same (k4.trans (k5.trans k6)))
            have hz5 := hz3.same (up0.trans up) _ _
            rw [blt_tup kn, if_neg (by rw [c]; decide)]
            refine .tup ?_ (.cons (h3.same ovl_base _ _) hz5)
            rcases nH with e | rfl
            · have eb : Hb tt = none := by
                cases z : Hb tt with
                | none => rfl
                | some o =>
                  rw [hb _ _ z] at e
                  cases e
              exact ovl_new eb (newof_of e htt)
            · have e6 := kall _ _ ha
              rw [htt] at e6
              injection e6 with e6
              rw [e6]
              exact ovl_base _ _ h1
end
end K13
set_option maxRecDepth 100000
set_option maxHeartbeats 4000000
namespace K13
open PySem L2 Fm
section
variable {P : Program} {w : World} {K : PySem.W.Frag} {mg : Str → Option Value} {base : Heap} (T : Txt K mg)
theorem ok_built : FnOk P w K mg base CX0 3 T.a_built T.d_built ["term", "values", "keep"] (spBuilt K) := by
  have G_shared := ok_shared (P := P) (w := w) (base := base) T
  refine T.F_built.ok sc_built ?_ (fun cdv A outer s H vs Q E hr h => ?_)
  · rintro vs H Q E ⟨v, va, ka, ws, d, es, ks, rfl, _⟩
    rfl
  obtain ⟨v, va, ka, ws, d, es, ks, rfl, hva, hws, hd, htm, hes, hka, hks, hkl, hz, hez, q⟩ := h
  refine ⟨_, 
    (pss_cons (ps_asg (pe_call G_shared (hr.mono (by omega)) (by rfl) T.f_shared T.F_shared.kp T.b_shared .nil pass0 (pa_cons (pe_op op_cat (pe_lst (pa_cons (pv 0) pa_nil)) (pe_lc (own := [("at", 6)]) (g := gName 6) (tt := tYes) rfl sc_built.nd (pi_list (pv 2)) (blkOk_by (N := N_built) (sc := defScope s_built) (by decide +kernel)) (fun _ _ _ _ _ => pg_name (i := 6) sc_built.nd rfl (Or.inl rfl)) (fun _ _ _ _ _ => pts_nil) (fun _ _ _ _ _ => pe_ix (r := rIx K) ix_seq (pv 1) (pv 6) (fun _ _ => rfl)))) pa_nil)) (pg_tup rfl (pgs_cons (pg_name (i := 3) sc_built.nd rfl (Or.inl rfl)) (pgs_cons (pg_name (i := 4) sc_built.nd rfl (Or.inl rfl)) pgs_nil))))
    (pss_cons (ps_set (i := 5) sc_built.nd rfl (Or.inl rfl) pe_dnewK)
    (pss_cons (ps_for PassesOwn.never rfl (pi_zip (by rfl) T.m_zip (pa_cons (pv 2) (pa_cons (pe_slice sl_list (pv 4) (po_some pe_int) po_none) pa_nil))) (pg_tup rfl (pgs_cons (pg_name (i := 6) sc_built.nd rfl (Or.inl rfl)) (pgs_cons (pg_name (i := 7) sc_built.nd rfl (Or.inl rfl)) pgs_nil))) (pss_one (ps_expr (pe_dsetd (pv 5) (pv 7) (pv 6) ⟨by rfl, by rfl, by rfl, by rfl⟩))))
    (pss_cons (ps_set (i := 8) sc_built.nd rfl (Or.inr rfl) (pe_lst pa_nil))
    (pss_cons (ps_for PassesOwn.never rfl (pi_enum (by rfl) T.m_enumerate (pa_cons (pv 3) pa_nil)) (pg_tup rfl (pgs_cons (pg_name (i := 9) sc_built.nd rfl (Or.inl rfl)) (pgs_cons (pg_name (i := 10) sc_built.nd rfl (Or.inl rfl)) pgs_nil))) (pss_cons (ps_setLc (i := 11) (own := [("part", 12)]) (g := gName 12) (tt := tYes) rfl sc_built.nd rfl rfl (sw_true rfl rfl rfl (by decide +kernel)) (pi_tup (pe_slice sl_tupA (pv 10) (po_some pe_int) po_none)) (blkOk_by (N := N_built) (sc := defScope s_built) (by decide +kernel)) (fun _ _ _ _ _ => pg_name (i := 12) sc_built.nd rfl (Or.inl rfl)) (fun _ _ _ _ _ => pts_nil) (fun _ _ _ _ _ => pe_ix (r := rIxL K) ix_list (pv 8) (pv 12) (fun _ _ => rfl))) (pss_one (ps_if (pt_cmp (pc_din (hu1 hr) (pv 9) (pv 5))) (pss_one (ps_expr (pe_bm PySem.F.plainAttrs_list PySem.F.slot_list_append PySem.F.type_list_append mt_append (pv 8) (pa_cons (pe_dget (hu1 hr) (pv 5) (pv 9) (fun _ _ => rfl)) pa_nil)))) (pss_one (ps_if (PW.pt (pw_and (pt_val (pe_isD (fun _ => kit_S) T.m_isinstance (pe_ix ix_tup (pv 10) pe_int (fun _ _ => rfl)) (pe_bltn (v := .ty "str") (u := .type "str") (by rfl) T.m_str (by decide +kernel) rfl) mon_ixT)) (pw_and1 (pt_val (pe_callB (cr_all rfl) (by rfl) T.m_all (by decide +kernel) (pa_cons (pe_lc (own := [("part", 12)]) (g := gName 12) (tt := tYes) rfl sc_built.nd (pi_list (pv 11)) (blkOk_by (N := N_built) (sc := defScope s_built) (by decide +kernel)) (fun _ _ _ _ _ => pg_name (i := 12) sc_built.nd rfl (Or.inl rfl)) (fun _ _ _ _ _ => pts_nil) (fun _ _ _ _ _ => pe_cmpR op_notN (pv 12) pe_non (nomark _))) pa_nil)))))) (pss_one (ps_expr (pe_bm PySem.F.plainAttrs_list PySem.F.slot_list_append PySem.F.type_list_append mt_append (pv 8) (pa_cons (pe_op op_catA (pe_tup (pa_cons (pe_ix ix_tup (pv 10) pe_int (fun _ _ => rfl)) pa_nil)) (pe_callTy call_tuple_of (by rfl) T.m_tuple (by decide +kernel) (pa_cons (pv 11) pa_nil))) pa_nil)))) (pss_one (ps_expr (pe_bm PySem.F.plainAttrs_list PySem.F.slot_list_append PySem.F.type_list_append mt_append (pv 8) (pa_cons pe_non pa_nil))))))))))
    (pss_one (ps_ret (pe_ix ix_list (pv 8) (pe_ix ix_list (pv 4) pe_int (fun _ _ => rfl)) (fun _ _ => rfl))))))))), ?_⟩
  have sel : DvL H ((ks.map vI).map (atVV ws)) (ks.map fun a => es.getD a (.int 0)) := by
    rw [List.map_map]
    refine DvL.map fun a ha => ?_
    have lt := hks a ha
    obtain ⟨y, hy, dy⟩ := hws.getD (List.getElem?_eq_getElem lt)
    have lw := (List.getElem?_eq_some_iff.mp hy).1
    have e1 := atVV_get lw
    rw [hy] at e1
    injection e1 with e1
    show Dv H (atVV ws (vI a)) _
    rw [← e1, List.getD_eq_getElem?_getD, List.getElem?_eq_getElem lt]
    exact dy
  have sels : ∀ e ∈ (ks.map fun a => es.getD a (.int 0)), e ∈ es := by
    intro e he
    obtain ⟨a, ha, rfl⟩ := List.mem_map.mp he
    have lt := hks a ha
    rw [List.getD_eq_getElem?_getD, List.getElem?_eq_getElem lt]
    exact List.getElem_mem lt
  have lse : (ks.map fun a => es.getD a (.int 0)).length = ks.length := List.length_map _
  generalize hsl : (ks.map fun a => es.getD a (.int 0)) = sl at sel sels lse
  refine ⟨_, rfl, (by show 1 ≤ sizeLine; decide), fun l1 h1 => ?_⟩
  have k1 : Same H (upd H l1 (.lst [v])) := Same.new h1
  refine ⟨_, rfl, ka, rfl, ⟨_, SqL.of (k1 _ _ hka)⟩, fun D1 hD1 => ?_⟩
  refine lc_listF (K := K) (atVV ws) (SqL.of (k1 _ _ hka)) hD1 (by rw [List.length_map]; omega) (fun _ => rfl) (fun _ _ _ r => r) ?_ ?_
  · intro x H' R k hx r
    obtain ⟨a, ha, rfl⟩ := List.mem_map.mp hx
    have lt := hks a ha
    obtain ⟨y, hy, dy⟩ := hws.getD (List.getElem?_eq_getElem lt)
    have lw := (List.getElem?_eq_some_iff.mp hy).1
    have g : atI ws (a : Int) = some (atVV ws (vI a)) := atI_nat (atVV_get lw)
    refine ⟨_, rfl, _, rfl, ?_⟩
    have kk := k1.trans k
    rcases hva with s1 | s1
    · exact .inl ⟨va, ws, a, _, rfl, rfl, Evl.ex_l kk s1, g, r _ (Same.refl _)⟩
    · exact .inr (.inl ⟨va, ws, a, _, rfl, rfl, Evl.ex_t kk s1, g, r _ (Same.refl _)⟩)
  intro H1 k2 hl1
  have k3 := k1.trans k2
  have hl1a := k2 _ _ (upd_same (H := H) (a := l1) (o := .lst [v]))
  refine ⟨l1, D1, _, _, rfl, rfl, hl1a, hl1, sz (by rw [List.length_map, List.length_map]; simp only [List.length_singleton]; omega), fun l3 hl3 => ?_⟩
  have k4 := k3.trans (Same.new (o := .lst ([v] ++ (ks.map vI).map (atVV ws))) hl3)
  have dall : DvL (upd H1 l3 (.lst ([v] ++ (ks.map vI).map (atVV ws)))) ([v] ++ (ks.map vI).map (atVV ws)) (d :: sl) := .cons (hd.same k4 _ _) (sel.same k4 _ _)
  have tall : ∀ e ∈ d :: sl, Tm e := fun e he => by
    rcases List.mem_cons.mp he with rfl | he
    · exact htm
    · exact hes e (sels e he)
  have zall : sizes (d :: sl) ≤ 100000 := by
    have h5 := sizes_le (n := 466) (ds := sl) fun e he => by have := hez e (sels e he); omega
    have h6 : 466 * sl.length ≤ 466 * 100 := Nat.mul_le_mul_left _ (by omega)
    simp only [sizes]
    omega
  refine ⟨l3, _, d :: sl, rfl, .inl (SqL.of upd_same), dall, tall, zall, fun pp n1 n2 H2 bs ts js k5 hp hn hj N at_ lts sub ljs => ?_⟩
  have k6 := k4.trans k5
  cases at_ with
  | @cons j0 _ jr _ a0 ar =>
  have lat := ar.len
  refine ⟨pp, _, rfl, SqT.of hp, rfl, _, _, rfl, _, _, rfl, rfl, ?_⟩
  refine fun kd hkd => ?_
  have k7 : Same H2 (upd H2 kd (.dK [])) := Same.new hkd
  have k8 := k6.trans k7
  obtain ⟨cu1, cu2⟩ := cutV_one ((j0 :: jr).map vI) (by simp)
  refine ⟨_, rfl, _, rfl, _, rfl, n2, _, rfl, SqL.of (k7 _ _ hj), fun sq hsq => ?_⟩
  have cu3 : cutV ((j0 :: jr).map vI) (some 1) none = jr.map vI := cu1
  rw [cu3]
  clear cu1 cu2 cu3
  have k9 : Same (upd H2 kd (.dK [])) (upd (upd H2 kd (.dK [])) sq (.lst (jr.map vI))) := Same.new hsq
  have nks : sq ≠ kd := fun e => by
    rw [e, upd_same] at hsq
    cases hsq
  have kdn : H2 kd = none := hkd
  have knd := N.nd
  refine ⟨ka, sq, ks.map vI, jr.map vI, rfl, SqL.of (k9 _ _ (k8 _ _ hka)), SqL.of upd_same, ?_⟩
  have s0 : Same H2 (upd (upd H2 kd (.dK [])) sq (.lst (jr.map vI))) := k7.trans k9
  refine RZ.for_zipL (by rw [List.length_map, List.length_map]; omega) (fun i σ H' => ∃ o6 o7 kvs, σ = [some v, some (.ref va), some (.ref ka), some (.ref n1), some (.ref n2), some (.ref kd), o6, o7, none, none, none, none, none] ∧ Same H2 H' ∧ H' sq = some (.lst (jr.map vI)) ∧ H' kd = some (.dK kvs) ∧ kvs.length ≤ i ∧ ∀ (n : Nat) (t : D), ts[n]? = some t → valV kvs (kI n) = (kAt es (ks.take i) t).map vI)
    ⟨none, none, [], rfl, s0, upd_same, k9 _ _ upd_same, Nat.le_refl _, fun n t _ => rfl⟩ (fun i σ H' ⟨_, _, _, _, k, h, _⟩ => ⟨SqL.of (k _ _ (k6 _ _ hka)), SqL.of h⟩) ?_ ?_
  · rintro i x y TT σ H3 hx hy ⟨o6, o7, kvs, rfl, kk, hsq3, hd3, hkv, hval⟩ hTT
    rw [List.getElem?_map] at hx hy
    obtain ⟨a, ha, rfl⟩ := Option.map_eq_some_iff.mp hx
    obtain ⟨top, htop, rfl⟩ := Option.map_eq_some_iff.mp hy
    obtain ⟨e, he, htt⟩ := ar.get htop
    have ea : es[a]? = some e := by
      have lt := hks a (List.mem_of_getElem? ha)
      rw [← hsl, List.getElem?_map, ha] at he
      have this : es.getD a (.int 0) = e := Option.some.inj he
      rw [List.getD_eq_getElem?_getD, List.getElem?_eq_getElem lt] at this
      rw [List.getElem?_eq_getElem lt, ← this]
      rfl
    have tk1 : ks.take (i + 1) = ks.take i ++ [a] := take_succ' ha
    have ntd : TT ≠ kd := fun z => by
      rw [z, hd3] at hTT
      cases hTT
    have nts : TT ≠ sq := fun z => by
      rw [z, hsq3] at hTT
      cases hTT
    have kT : Same H3 (upd H3 TT (.tup [vI a, vI top])) := Same.new hTT
    refine ⟨TT, _, rfl, SqT.of upd_same, rfl, _, _, rfl, _, _, rfl, rfl, ?_⟩
    have hd4 := kT _ _ hd3
    have ln : kvs.length < sizeLine := szl (by
      have := (List.getElem?_eq_some_iff.mp ha).1
      omega)
    have uniq : ∀ (n : Nat) (t : D), ts[n]? = some t → (es[a]? = some t ↔ n = top) := by
      intro n t ht
      constructor
      · intro z
        rw [ea] at z
        obtain rfl := Option.some.inj z
        have := Ats.inj knd (.cons ht .nil) (.cons htt .nil)
        injection this
      · rintro rfl
        rw [htt] at ht
        rw [ea, ht]
    refine ⟨_, rfl, kd, rfl, .inl ⟨_, .inl hd4⟩, _, rfl, _, rfl, kvs, kI top, hd4, rfl, ln, fun v1 hv => ?_, fun hn => ?_⟩
    · refine ⟨_, _, kvs, rfl, kk.trans kT, kT _ _ hsq3, hd4, by omega, fun n t ht => ?_⟩
      rw [hval n t ht, tk1, kAt_snoc]
      by_cases z : n = top
      · subst z
        rw [hval n t ht] at hv
        cases c : kAt es (ks.take i) t with
        | none => rw [c] at hv; cases hv
        | some b => rfl
      · rw [if_neg (fun u => z ((uniq n t ht).mp u)), Option.or_none]
    · refine ⟨_, _, putK kvs (kI top) (vI a), rfl, Same.upd (kk.trans kT) kdn, ?_, upd_same, ?_, fun n t ht => ?_⟩
      · rw [upd_ne nks]
        exact kT _ _ hsq3
      · rw [putK_new _ hn]
        simp only [List.length_append, List.length_singleton]
        omega
      · rw [valV_put, hval n t ht, tk1, kAt_snoc]
        by_cases z : n = top
        · subst z
          rw [if_pos rfl, if_pos ((uniq n t ht).mpr rfl)]
          rw [hval n t ht] at hn
          cases c : kAt es (ks.take i) t with
          | none => rfl
          | some b => rw [c] at hn; cases hn
        · have nk : kI n ≠ kI top := fun e => z (by have := Sum.inl.inj e; omega)
          rw [if_neg nk, if_neg (fun u => z ((uniq n t ht).mp u)), Option.or_none]
  · rintro σ H3 ⟨o6, o7, kvs, rfl, kk, hsq3, hd3, hkv, hval⟩
    rw [List.length_map, List.take_length] at hval
    clear hsq3 hkv
    refine ⟨by decide, fun lm hlm => ?_⟩
    have nlm : lm ≠ kd := fun e => by
      rw [e, hd3] at hlm
      cases hlm
    have kL : Same H3 (upd H3 lm (.lst [])) := Same.new hlm
    have kb := kk.trans kL
    have lmn : H2 lm = none := Same.none kk hlm
    have lb := N.len
    refine ⟨_, rfl, n1, bs.map V.ref, rfl, SqL.of (kb _ _ hn), ?_⟩
    refine for_it (walk_enum (K := K) (a := n1) (xs := bs.map V.ref)) (fun i σ H' => ∃ o6 o7 o9 o10 o11 o12 mv, σ = [some v, some (.ref va), some (.ref ka), some (.ref n1), some (.ref n2), some (.ref kd), o6, o7, some (.ref lm), o9, o10, o11, o12] ∧ Same H3 H' ∧ H' lm = some (.lst mv) ∧ DvL (mask lm H') mv ((ts.take i).map (blt (kAt es ks))) ∧ i ≤ ts.length)
      ⟨o6, o7, none, none, none, none, [], rfl, kL, upd_same, .nil, Nat.zero_le _⟩ (fun i σ H' _ ⟨_, _, _, _, _, _, _, _, k, _⟩ => SqL.of (k _ _ (kk _ _ hn))) ?_ ?_
    · rintro i x σ HA HA' hi ⟨p6, p7, o9, o10, o11, o12, mv, rfl, kA, hm, hdm, le⟩ ⟨TT, x1, y1, rfl, hTT, rfl, ex, hy⟩
      injection ex with ex
      subst ex
      have hy : (bs.map V.ref)[i]? = some y1 := hy
      rw [List.getElem?_map] at hy
      obtain ⟨nb, hb, rfl⟩ := Option.map_eq_some_iff.mp hy
      have lt : i < ts.length := by
        have := (List.getElem?_eq_some_iff.mp hb).1
        omega
      have ht : ts[i]? = some ts[i] := List.getElem?_eq_getElem lt
      obtain ⟨key, hk, ky⟩ := N.node i nb _ hb ht
      have lmv := hdm.len
      rw [List.length_map, List.length_take] at lmv
      have tk1 : (ts.take (i + 1)).map (blt (kAt es ks)) = (ts.take i).map (blt (kAt es ks)) ++ [blt (kAt es ks) ts[i]] := by
        rw [take_succ' ht, List.map_append]
        rfl
      have hvi := hval i _ ht
      generalize ts[i] = t at ht ky tk1 hvi
      have kT : Same HA (upd HA TT (.tup [.int (i : Nat), .ref nb])) := Same.new hTT
      have ntm : TT ≠ lm := fun e => by
        rw [e, hm] at hTT
        cases hTT
      obtain ⟨hk0, js, ds, ek, ats, ljz, kind⟩ : ∃ (hk0 : L2.Key) (js : List Nat) (ds : List D), key = hk0 :: js.map kI ∧ Ats (ts.take i) js ds ∧ js.length ≤ 100000 ∧ ((∃ u, hk0 = .inl u ∧ t = .int u) ∨ ∃ x, hk0 = .inr x ∧ PyData.strOk x = true ∧ t = .tup (.str x :: ds)) := by
        cases ky with
        | int u => exact ⟨.inl u, [], [], rfl, .nil, by decide, .inl ⟨u, rfl, rfl⟩⟩
        | tup x js ds ox zd at_ => exact ⟨.inr x, js, ds, rfl, at_, by rw [at_.len]; exact zd, .inr ⟨x, rfl, ox, rfl⟩⟩
      have hbk : (upd HA TT (.tup [.int (i : Nat), .ref nb])) nb = some (.tup (kV hk0 :: js.map vI)) := by
        have h0 := kT _ _ (kA _ _ (kk _ _ hk))
        rw [ek, List.map_cons, kV_kI] at h0
        exact h0
      obtain ⟨u1, u2⟩ := cutV_one (kV hk0 :: js.map vI) (by simp)
      refine ⟨TT, _, rfl, SqT.of upd_same, rfl, _, _, rfl, _, _, rfl, rfl, ?_⟩
      refine ⟨_, rfl, _, rfl, nb, _, rfl, SqT.of hbk, fun z => absurd z u2, fun _ p hp => ?_⟩
      rw [u1]
      have k1p := Same.new (o := .tup (js.map vI)) hp
      refine ⟨p, rfl, ⟨_, SqT.of upd_same⟩, fun Dl hD => ?_⟩
      refine lc_tupD (K := K) (atV mv) (SqT.of upd_same) (dvl_ints js) hD (show (js.map vI).length ≤ 100000 by rw [List.length_map]; exact ljz) (fun _ => rfl) (fun _ _ _ r => r) (fun y d H' R k6 hm6 hy r => ?_) (fun H' k6 hl6 => ?_)
      · obtain ⟨j, hj, rfl⟩ := List.mem_map.mp hm6
        cases hy
        obtain ⟨n, hn⟩ := List.mem_iff_getElem?.mp hj
        obtain ⟨d', _, h2⟩ := ats.get hn
        have lj : j < mv.length := by
          have := (List.getElem?_eq_some_iff.mp h2).1
          rw [List.length_take] at this
          omega
        exact ⟨_, rfl, _, rfl, lm, mv, _, _, rfl, rfl, SqL.of (k6 _ _ (k1p _ _ (kT _ _ hm))), atI_nat (atV_get lj), r _ (Same.refl _)⟩
      · have kC := (kT.trans k1p).trans k6
        have hm6 := kC _ _ hm
        have hd6 := kC _ _ (kA _ _ hd3)
        have hdm6 := hdm.same (mask_same2 kC) _ _
        have szm : mv.length < sizeLine := szl (by omega)
        refine ⟨_, rfl, _, rfl, kd, _, rfl, L2.DGet.k (k := kI i) hd6, ?_⟩
        rw [hvi]
        have h1t := k6 _ _ (k1p _ _ hbk)
        have fin : ∀ (HX : Hp) (y : V), Same H' HX → Dv (mask lm HX) y (blt (kAt es ks) t) → ∃ l' xs' y', V.ref lm = .ref l' ∧ [y] = [y'] ∧ HX l' = some (.lst xs') ∧ xs'.length < sizeLine ∧
            ∃ o6' o7' o9' o10' o11' o12' mv', [some v, some (V.ref va), some (.ref ka), some (.ref n1), some (.ref n2), some (.ref kd), p6, p7, some (.ref lm), some (V.int (i : Nat)), some (V.ref nb), some (V.ref Dl), o12] = [some v, some (V.ref va), some (.ref ka), some (.ref n1), some (.ref n2), some (.ref kd), o6', o7', some (.ref lm), o9', o10', o11', o12'] ∧
              Same H3 (upd HX l' (.lst (xs' ++ [y']))) ∧ (upd HX l' (.lst (xs' ++ [y']))) lm = some (.lst mv') ∧ DvL (mask lm (upd HX l' (.lst (xs' ++ [y'])))) mv' ((ts.take (i + 1)).map (blt (kAt es ks))) ∧ i + 1 ≤ ts.length := by
          intro HX y kX dy
          refine ⟨lm, mv, y, rfl, rfl, kX _ _ hm6, szm, _, _, _, _, _, _, mv ++ [y], rfl, Same.upd ((kA.trans kC).trans kX) hlm, upd_same, ?_, lt⟩
          rw [mask_updb, tk1]
          exact (hdm6.same (mask_same2 kX) _ _).snoc dy
        cases hc : kAt es ks t with
        | some a =>
          rw [hc] at hvi
          refine ⟨_, rfl, iteT ?_⟩
          refine ⟨_, rfl, .inl ⟨rfl, _, SqL.of hm6⟩, _, rfl, _, rfl, kd, vI a, rfl, (by have := L2.DGet.k (k := kI i) hd6; rw [hvi] at this; exact this), ?_⟩
          exact fin H' (vI a) (Same.refl _) (by rw [blt_some hc]; exact .int _)
        | none =>
          rw [hc] at hvi
          refine ⟨_, rfl, iteF ?_⟩
          rcases kind with ⟨u, rfl, rfl⟩ | ⟨x, rfl, ox, rfl⟩
          · refine ⟨_, rfl, nb, _, 0, _, rfl, rfl, SqT.of h1t, atI_nat (j := 0) rfl, .int u, .int u, _, rfl, iteF ?_⟩
            refine ⟨_, rfl, .inl ⟨rfl, _, SqL.of hm6⟩, ?_⟩
            exact fin H' .non (Same.refl _) (by rw [blt_int hc]; exact .non)
          · refine ⟨_, rfl, nb, _, 0, _, rfl, rfl, SqT.of h1t, atI_nat (j := 0) rfl, .str x, .str x ox, _, rfl, iteT ?_⟩
            refine ⟨_, rfl, Dl, rfl, ⟨_, SqL.of hl6⟩, fun D3 hD3 => ?_⟩
            refine lc_listF (K := K) (fun x => .bl (!decide (x = .non))) (SqL.of hl6) hD3 (by rw [List.length_map, List.length_map]; exact ljz) (fun _ => rfl) (fun _ _ _ r => r) ?_ ?_
            · intro x H' R k hx r
              exact ⟨_, rfl, rfl, r _ (Same.refl _)⟩
            intro H7 k7 hl7
            have k7' : Same H' H7 := k7
            have dz := (made_partsG hdm6 ats).same (mask_same2 k7') _ _
            rw [← blts_map] at dz
            have dl := dvl_non dz
            have lz := dz.len
            have lds := ats.len
            rw [List.length_map, List.length_map, blts_map, List.length_map] at lz
            refine ⟨D3, ((js.map fun j : Nat => D.int (j : Int)).map (atV mv)).map fun x => !decide (x = .non), rfl, SqL.of (by rw [hl7]; simp only [List.map_map]; rfl), _, rfl, ?_⟩
            rw [dl]
            refine ite_b (fun c => ?_) (fun c => ?_)
            · have nn : (blts (kAt es ks) ds).any isNon = false := by simpa using c
              refine ⟨_, rfl, .inl ⟨rfl, _, SqL.of (k7' _ _ hm6)⟩, _, rfl, nb, _, 0, _, rfl, rfl, SqT.of (k7' _ _ h1t), atI_nat (j := 0) rfl, by (show 1 ≤ sizeLine; decide), fun t1 ht1 => ?_⟩
              have k8 : Same H7 (upd H7 t1 (.tup [.str x])) := Same.new ht1
              refine ⟨_, rfl, Dl, _, rfl, .inl ⟨SqL.of (k8 _ _ (k7' _ _ hl6)), fun t2 ht2 => ?_⟩⟩
              have k9 := k8.trans (Same.new (o := .tup ((js.map fun j : Nat => D.int (j : Int)).map (atV mv))) ht2)
              refine cat_one ((Same.new ht2) _ _ upd_same) upd_same (by rw [List.length_map, List.length_map]; exact ljz) fun tt H4 k10 htt hn5 => ?_
              have kX := k7'.trans (k9.trans k10)
              have ntt : tt ≠ lm := fun e => by
                rw [e, kX _ _ hm6] at htt
                cases htt
              refine fin H4 (.ref tt) kX ?_
              rw [blt_tup hc, if_neg (by rw [nn]; decide)]
              exact .tup (by rw [mask_ne ntt]; exact htt) (.cons (.str x ox) (dz.same (mask_same2 (k9.trans k10)) _ _))
            · have nn : (blts (kAt es ks) ds).any isNon = true := by simpa using c
              refine ⟨_, rfl, .inl ⟨rfl, _, SqL.of (k7' _ _ hm6)⟩, ?_⟩
              exact fin H7 .non k7' (by rw [blt_tup hc, if_pos nn]; exact .non)
    · rintro σ HA ⟨p6, p7, o9, o10, o11, o12, mv, rfl, kA, hm, hdm, le⟩
      rw [List.length_map, lb, List.take_length] at hdm
      obtain ⟨y, hy, dy⟩ := hdm.getD (show (ts.map (blt (kAt es ks)))[j0]? = some (blt (kAt es ks) d) by rw [List.getElem?_map, a0]; rfl)
      exact ⟨_, rfl, _, rfl, n2, _, 0, _, rfl, rfl, SqL.of (kA _ _ (kk _ _ hj)), atI_nat (j := 0) rfl, lm, mv, _, y, rfl, rfl, SqL.of hm, atI_nat hy, q y HA ((k6.trans kk).trans kA) dy.un⟩
end
end K13
set_option maxRecDepth 100000
set_option maxHeartbeats 4000000
namespace K13
open PySem L2 Fm
section
variable {P : Program} {w : World} {K : PySem.W.Frag} {mg : Str → Option Value} {base : Heap} (T : Txt K mg)
theorem ok_law_mixed : FnOk P w K mg base CX0 2 T.a__law_mixed T.d__law_mixed ["_law_bag_here", "_law_things"] spMixed := by
  have G__law_take := ok_law_take (P := P) (w := w) (base := base) T
  refine T.F__law_mixed.ok sc__law_mixed ?_ (fun cdv A outer s H vs Q E hr h => ?_)
  · rintro vs H Q E ⟨b, p, la, js, rfl, _⟩
    rfl
  obtain ⟨b, p, la, js, rfl, B, na, hla, hj, q⟩ := h
  refine ⟨_, 
    (pss_cons (ps_set (i := 2) sc__law_mixed.nd rfl (Or.inl rfl) (pe_lst pa_nil))
    (pss_cons (ps_for PassesOwn.never rfl (pi_list (pv 1)) (pg_name (i := 3) sc__law_mixed.nd rfl (Or.inl rfl)) (pss_one (ps_expr (pe_bm PySem.F.plainAttrs_list PySem.F.slot_list_insert PySem.F.type_list_insert mt_insert (pv 2) (pa_cons (pe_call G__law_take (hr.mono (by omega)) (by rfl) T.f__law_take T.F__law_take.kp T.b__law_take .nil pass0 (pa_cons (pv 0) (pa_cons (pe_op op_add (pe_callB call_len_seq (by rfl) T.m_len (by decide +kernel) (pa_cons (pv 2) pa_nil)) pe_int) pa_nil))) (pa_cons (pv 3) pa_nil))))))
    (pss_one (ps_ret (pv 2))))), ?_⟩
  refine ⟨by decide, fun l hl => ?_⟩
  have g0 : Go b p H (upd H l (.lst [])) := (Go.refl B).new hl
  have nl : l ≠ b := B.b_ne hl
  refine ⟨_, rfl, la, rfl, ⟨_, SqL.of (g0.at na hla)⟩, ?_⟩
  refine for_list (xs := js.map vI) (fun i σ H' => ∃ o3 zs, σ = [some (.ref b), some (.ref la), some (.ref l), o3] ∧ Go b p H H' ∧ H' l = some (.lst (zs.map vI)) ∧ zs.length = i ∧ ∀ z ∈ zs, z ∈ js)
    ⟨none, [], rfl, g0, upd_same, rfl, fun _ h => by cases h⟩ (fun i σ H' _ ⟨_, _, _, g, _⟩ => SqL.of (g.at na hla)) ?_ ?_
  · rintro i x σ H1 hx ⟨o3, zs, rfl, g, hl1, hn, hz⟩
    rw [List.getElem?_map] at hx
    obtain ⟨j, ej, rfl⟩ := Option.map_eq_some_iff.mp hx
    have li : i < js.length := (List.getElem?_eq_some_iff.mp ej).1
    refine ⟨_, rfl, .inl ⟨rfl, _, SqL.of hl1⟩, _, rfl, _, rfl, l, _, rfl, .inl (SqL.of hl1), _, _, rfl, rfl, b, p, _, rfl, g.B, by rw [List.length_map]; omega, by rw [List.length_map]; omega, fun at_ H2 a0 a1 g2 => ?_⟩
    rw [List.length_map] at a1
    have hl2 := g2.at nl hl1
    refine ⟨_, rfl, l, zs.map vI, at_, vI j, rfl, rfl, hl2, szl (by rw [List.length_map]; omega), a0, by omega, ?_⟩
    refine ⟨_, zs.take at_.toNat ++ [j] ++ zs.drop at_.toNat, rfl, (g.trans g2).mut B hl, ?_, ?_, ?_⟩
    · rw [upd_same]
      simp [List.map_take, List.map_drop]
    · simp only [List.length_append, List.length_take, List.length_drop, List.length_singleton]
      omega
    · intro z hz2
      rcases List.mem_append.mp hz2 with h | h
      · rcases List.mem_append.mp h with h | h
        · exact hz z (List.mem_of_mem_take h)
        · rw [List.mem_singleton.mp h]
          exact List.mem_of_getElem? ej
      · exact hz z (List.mem_of_mem_drop h)
  · rintro σ H1 ⟨o3, zs, rfl, g, hl1, hn, hz⟩
    rw [List.length_map] at hn
    exact ⟨_, rfl, q l H1 zs g (newof_of hl hl1) hz hn⟩
theorem ok_law_parts : ∀ m : Nat, FnOk P w K mg base CX0 m T.a__law_parts T.d__law_parts ["_law_term_here"] (spLParts K m)
  | 0 => ⟨fun _ _ _ _ ⟨_, _, _, _, _, _, _, z, _⟩ => absurd z (Nat.not_lt_zero _), fun _ _ _ _ _ _ _ _ _ _ _ _ _ ⟨_, _, _, _, _, _, _, z, _⟩ => absurd z (Nat.not_lt_zero _)⟩
  | m + 1 => by
    have G__law_parts := ok_law_parts m
    refine T.F__law_parts.ok sc__law_parts ?_ (fun cdv A outer s H vs Q E hr h => ?_)
    · rintro vs H Q E ⟨Hb, v, d, rfl, _⟩
      rfl
    obtain ⟨Hb, v, d, rfl, hb, hd, htm, hm, hz, q⟩ := h
    refine ⟨_, 
    (pss_cons (ps_set (i := 1) sc__law_parts.nd rfl (Or.inl rfl) (pe_lst (pa_cons (pv 0) pa_nil)))
    (Evl.pss_cut (ps_if (pt_not (pt_val (pe_isD (fun _ => kit_I) T.m_isinstance (pv 0) (pe_bltn (v := .ty "int") (u := .type "int") (by rfl) T.m_int (by decide +kernel) rfl) mon_var))) (pss_one (ps_for PassesOwn.never rfl (pi_tup (pe_slice sl_tupA (pv 0) (po_some pe_int) po_none)) (pg_name (i := 2) sc__law_parts.nd rfl (Or.inl rfl)) (pss_one (ps_set (i := 1) sc__law_parts.nd rfl (Or.inl rfl) (pe_op op_cat (pv 1) (pe_call G__law_parts (hr.mono (by omega)) (by rfl) T.f__law_parts T.F__law_parts.kp T.b__law_parts .nil pass0 (pa_cons (pv 2) pa_nil))))))) pss_nil)
    (pss_one (ps_ret (pv 1))))), ?_⟩
    refine ⟨_, rfl, (by show 1 ≤ sizeLine; decide), fun l hl => ?_⟩
    have k0 : Same H (upd H l (.lst [v])) := Same.new hl
    refine ⟨fun σ H' => ∃ l us o2, σ = [some v, some (.ref l), o2] ∧ Same H H' ∧ H l = none ∧ H' l = some (.lst us) ∧ DvL Hb us (flat d), ?_, ?_⟩
    · refine ⟨_, rfl, d, (hd.same hb _ _).same k0 _ _, _, rfl, ite_b (fun c => ?_) (fun c => ?_)⟩
      · cases htm with
        | int u => cases c
        | tup x rs htr =>
        cases hd with
        | @tup ta us0 _ h1 h2 =>
        cases h2 with
        | @cons w0 wr _ _ h3 h4 =>
        have ha := k0 _ _ (hb _ _ h1)
        have lr := h4.len
        have n1 := len_sizes rs
        have efl : flat (.tup (.str x :: rs)) = .tup (.str x :: rs) :: flats rs := by simp [flat, flatT]
        have hdv : Dv Hb (.ref ta) (.tup (.str x :: rs)) := .tup h1 (.cons h3 h4)
        have fz := flats_len rs
        simp only [D.size, sizes, D.deep, deeps] at hz hm
        refine ⟨_, rfl, _, rfl, tail_one ha fun p hp => ?_⟩
        have kp := k0.trans (Same.new (o := .tup wr) hp)
        refine ⟨p, rfl, ⟨_, SqT.of upd_same⟩, ?_⟩
        refine for_it (walk_tup (K := K) (a := p) (xs := wr)) (fun i σ H' => ∃ l us o2, σ = [some (.ref ta), some (.ref l), o2] ∧ Same H H' ∧ H' p = some (.tup wr) ∧ H l = none ∧ H' l = some (.lst us) ∧ DvL Hb us (.tup (.str x :: rs) :: flats (rs.take i)) ∧ i ≤ rs.length)
          ⟨l, [.ref ta], none, rfl, kp, upd_same, hl, Same.new hp _ _ upd_same, .cons hdv .nil, Nat.zero_le _⟩ (fun i σ H' _ ⟨_, _, _, _, _, h, _⟩ => SqT.of h) ?_ ?_
        · rintro i y σ H1 H1' hi ⟨l, us, o2, rfl, k, hp1, hl, hl1, du, le⟩ ⟨rfl, hy⟩
          obtain ⟨d', e1, hd1⟩ := h4.get hy
          have s1 := size_mem (tk e1)
          have s2 := deep_mem (tk e1)
          have tk1 : flats (rs.take (i + 1)) = flats (rs.take i) ++ flat d' := by
            rw [take_succ' e1, flats_app]
            simp [flats]
          have lu := du.len
          have lf1 : (flats (rs.take i) ++ flat d').length ≤ sizes rs := by
            rw [← tk1]
            have h5 := flats_len (rs.take (i + 1))
            have h6 : sizes rs = sizes (rs.take (i + 1)) + sizes (rs.drop (i + 1)) := by rw [← sizes_app, List.take_append_drop]
            omega
          rw [List.length_append] at lf1
          refine ⟨_, rfl, _, rfl, Hb, y, d', rfl, hb.trans k, hd1, htr d' (tk e1), by omega, by omega, fun l2 H2 us2 k2 hn2 hl2 dv2 => ?_⟩
          have lv := dv2.len
          rw [List.length_cons] at lu
          refine ⟨l, l2, _, _, rfl, rfl, k2 _ _ hl1, hl2, sz (by omega), fun l3 hl3 => ?_⟩
          have k3 : Same H2 (upd H2 l3 (.lst (us ++ us2))) := Same.new hl3
          refine ⟨l3, us ++ us2, _, rfl, (k.trans k2).trans k3, k3 _ _ (k2 _ _ hp1), Same.none (k.trans k2) hl3, upd_same, ?_, ?_⟩
          · rw [tk1, ← List.cons_append]
            exact du.app dv2
          · exact (List.getElem?_eq_some_iff.mp e1).1
        · rintro σ H1 ⟨l, us, o2, rfl, k, hp1, hl, hl1, du, le⟩
          refine ⟨l, us, o2, rfl, k, hl, hl1, ?_⟩
          rw [efl]
          have : rs.take wr.length = rs := List.take_of_length_le (by omega)
          rw [this] at du
          exact du
      · cases htm with
        | tup x rs htr => cases c
        | int u =>
          refine ⟨l, [v], _, rfl, k0, hl, upd_same, ?_⟩
          simp only [flat]
          exact .cons hd .nil
    · rintro σ H1 ⟨l, us, o2, rfl, k, hl, hl1, du⟩
      exact ⟨_, rfl, q l H1 us k hl hl1 du⟩
end
end K13
set_option maxRecDepth 100000
set_option maxHeartbeats 4000000
namespace K13
open PySem L2 Fm
section
variable {P : Program} {w : World} {K : PySem.W.Frag} {mg : Str → Option Value} {base : Heap} (T : Txt K mg)
theorem ok_law_values : FnOk P w K mg base CX0 10 T.a__law_values T.d__law_values ["_law_bag_here", "_law_names_here", "_law_terms"] spLValues := by
  have G__law_take := ok_law_take (P := P) (w := w) (base := base) T
  have G__law_term := ok_law_term (P := P) (w := w) (base := base) T 6
  have G__law_parts := ok_law_parts (P := P) (w := w) (base := base) T 6
  refine T.F__law_values.ok sc__law_values ?_ (fun cdv A outer s H vs Q E hr h => ?_)
  · rintro vs H Q E ⟨b, p, nm, la, xs, us, ds, rfl, _⟩
    rfl
  obtain ⟨b, p, nm, la, xs, us, ds, rfl, B, N, na, hla, hd, hds, l1, l3, q⟩ := h
  refine ⟨_, 
    (pss_cons (ps_par (i := 3) (j := 4) (by rfl) sc__law_values.nd rfl rfl (by decide) rfl rfl (pa_cons (pe_lst pa_nil) (pa_cons (pe_lst pa_nil) pa_nil)) (by rfl))
    (pss_cons (ps_for PassesOwn.never rfl (pi_list (pv 2)) (pg_name (i := 5) sc__law_values.nd rfl (Or.inl rfl)) (pss_one (ps_set (i := 3) sc__law_values.nd rfl (Or.inl rfl) (pe_op op_cat (pv 3) (pe_call G__law_parts (hr.mono (by omega)) (by rfl) T.f__law_parts T.F__law_parts.kp T.b__law_parts .nil pass0 (pa_cons (pv 5) pa_nil))))))
    (pss_cons (ps_for PassesOwn.never rfl (pi_range1 (by rfl) T.m_range (pa_cons (pe_call G__law_take (hr.mono (by omega)) (by rfl) T.f__law_take T.F__law_take.kp T.b__law_take .nil pass0 (pa_cons (pv 0) (pa_cons pe_int pa_nil))) pa_nil)) (pg_name (i := 6) sc__law_values.nd rfl (Or.inl rfl)) (pss_cons (ps_set (i := 7) sc__law_values.nd rfl (Or.inl rfl) (pe_lst (pa_cons (pe_ix ix_list (pv 3) (pe_call G__law_take (hr.mono (by omega)) (by rfl) T.f__law_take T.F__law_take.kp T.b__law_take .nil pass0 (pa_cons (pv 0) (pa_cons (pe_callB call_len_seq (by rfl) T.m_len (by decide +kernel) (pa_cons (pv 3) pa_nil)) pa_nil))) (fun _ _ => rfl)) (pa_cons (pe_call G__law_term (hr.mono (by omega)) (by rfl) T.f__law_term T.F__law_term.kp T.b__law_term .nil pass0 (pa_cons (pv 0) (pa_cons (pv 1) (pa_cons pe_int (pa_cons pe_int pa_nil))))) pa_nil)))) (pss_one (ps_expr (pe_bm PySem.F.plainAttrs_list PySem.F.slot_list_append PySem.F.type_list_append mt_append (pv 4) (pa_cons (pe_ix ix_list (pe_op op_cat (pv 7) (pe_slice sl_list (pv 4) (po_some (pe_un un_neg pe_int)) po_none)) (pe_call G__law_take (hr.mono (by omega)) (by rfl) T.f__law_take T.F__law_take.kp T.b__law_take .nil pass0 (pa_cons (pv 0) (pa_cons (pe_op op_add pe_int (pe_callB call_len_seq (by rfl) T.m_len (by decide +kernel) (pa_cons (pe_slice sl_list (pv 4) (po_some (pe_un un_neg pe_int)) po_none) pa_nil))) pa_nil))) (fun _ _ => rfl)) pa_nil))))))
    (pss_one (ps_ret (pv 4)))))), ?_⟩
  refine ⟨by decide, fun a1 ha1 => ⟨by decide, fun a2 ha2 => ⟨_, _, rfl, ?_⟩⟩⟩
  have k1 : Same H (upd H a1 (.lst [])) := Same.new ha1
  have k2 := k1.trans (Same.new (o := .lst []) ha2)
  have g2 : Go b p H _ := Go.of B k2
  have n2 : a2 ≠ b := (B.same k1).b_ne ha2
  have hn2 : H a2 = none := Same.none k1 ha2
  have n12 : a1 ≠ a2 := fun e => by
    rw [← e, upd_same] at ha2
    cases ha2
  have lu := hd.len
  refine ⟨_, rfl, la, rfl, ⟨_, SqL.of (g2.at na hla)⟩, ?_⟩
  refine for_list (xs := us) (fun i σ H' => ∃ o5 l vs, σ = [some (.ref b), some (.ref nm), some (.ref la), some (.ref l), some (.ref a2), o5, none, none] ∧ Same (upd (upd H a1 (.lst [])) a2 (.lst [])) H' ∧ l ≠ b ∧ l ≠ a2 ∧ H' l = some (.lst vs) ∧ DvL (mask b H) vs (flats (ds.take i)))
    ⟨none, a1, [], rfl, Same.refl _, B.b_ne ha1, n12, Same.new ha2 _ _ upd_same, .nil⟩ (fun i σ H' _ ⟨_, _, _, _, k, _⟩ => SqL.of (k _ _ (k2 _ _ hla))) ?_ ?_
  · rintro i x σ H1 hx ⟨o5, l, vs, rfl, k, nl, nla, hl, dv⟩
    obtain ⟨d, e1, d1⟩ := hd.get hx
    have dr := hds d (tk e1)
    have kk := k2.trans k
    have tk1 : flats (ds.take (i + 1)) = flats (ds.take i) ++ flat d := by
      rw [take_succ' e1, flats_app]
      simp [flats]
    have z1 := dr.sz
    have z2 := dr.dp
    refine ⟨_, rfl, _, rfl, mask b H, x, d, rfl, unmask.trans kk, d1, dr.tm.tm, by omega, by omega, fun l2 H2 us2 k3 hn2' hl2 dv2 => ?_⟩
    have lv := dv.len
    have lv2 := dv2.len
    have f1 := flats_len (ds.take i)
    have f2 := flat_len d
    have f3 : sizes (ds.take i) ≤ 3 * 466 := by
      have h5 := sizes_le (n := 466) (ds := ds.take i) fun e he => by have := (hds e (List.mem_of_mem_take he)).sz; omega
      have h6 : (ds.take i).length ≤ 3 := by rw [List.length_take]; omega
      have h7 : 466 * (ds.take i).length ≤ 466 * 3 := Nat.mul_le_mul_left _ h6
      omega
    refine ⟨l, l2, _, _, rfl, rfl, k3 _ _ hl, hl2, sz (by omega), fun l4 hl4 => ?_⟩
    have k4 : Same H2 (upd H2 l4 (.lst (vs ++ us2))) := Same.new hl4
    have kall := (k.trans k3).trans k4
    have e2 := kall _ _ (upd_same (H := upd H a1 (.lst [])) (a := a2) (o := .lst []))
    refine ⟨_, l4, vs ++ us2, rfl, kall, ?_, ?_, upd_same, ?_⟩
    · exact (((B.same k2).same (k.trans k3))).b_ne hl4
    · intro z
      rw [z] at hl4
      have e3 := (k.trans k3) _ _ (upd_same (H := upd H a1 (.lst [])) (a := a2) (o := .lst []))
      rw [e3] at hl4
      cases hl4
    · rw [tk1]
      exact dv.app dv2
  · rintro σ H1 ⟨o5, l, vs, rfl, k, nl, nla, hl, dv⟩
    have : ds.take us.length = ds := List.take_of_length_le (by omega)
    rw [this] at dv
    have g1 := g2.same k
    have ha2' := k _ _ (upd_same (H := upd H a1 (.lst [])) (a := a2) (o := .lst []))
    have lv := dv.len
    have lf := len_flats ds
    have f1 := flats_len ds
    have f3 : sizes ds ≤ 3 * 466 := by
      have h5 := sizes_le (n := 466) (ds := ds) fun e he => by have := (hds e he).sz; omega
      have h7 : 466 * ds.length ≤ 466 * 3 := Nat.mul_le_mul_left _ l3
      omega
    have vpos : 1 ≤ vs.length := by omega
    have vle : vs.length ≤ 2000 := by omega
    clear k2 g2 k
    have B1 := g1.B
    refine ⟨_, rfl, b, p, 7, rfl, B1, by decide, by decide, fun n H2 n0 n7 g3 => ?_⟩
    obtain ⟨kn, rfl⟩ := Int.eq_ofNat_of_zero_le n0
    refine ⟨_, rfl, by omega, by omega, ?_⟩
    have h0q : (upd H a2 (.lst [])) a2 = some (.lst []) := upd_same
    have Bq : Bag b p (upd H a2 (.lst [])) := ((Go.refl B).new hn2).B
    refine for_range (lo := 0) (n := kn) (fun i σ H' => ∃ o6 o7 ws es, σ = [some (.ref b), some (.ref nm), some (.ref la), some (.ref l), some (.ref a2), o5, o6, o7] ∧ Go b p H H' ∧ H' a2 = some (.lst ws) ∧ H' l = some (.lst vs) ∧ DvL (ovl (mask b H) (newof (upd H a2 (.lst [])) H')) ws es ∧ (∀ e ∈ es, Drawn e) ∧ es.length = i)
      ⟨none, none, [], [], rfl, g1.trans g3, g3.at n2 ha2', g3.at nl hl, .nil, fun _ h => (by cases h), rfl⟩ ?_ ?_
    · rintro i σ H3 hi ⟨o6, o7, ws, es, rfl, g, hw, hv, dw, dr, hn⟩
      have N3 := N.go g
      have lw := dw.len
      refine ⟨_, rfl, _, rfl, _, rfl, l, vs, rfl, .inl (SqL.of hv), b, p, _, rfl, g.B, by omega, by omega, fun at_ H4 c0 c1 g4 => ?_⟩
      obtain ⟨j, rfl⟩ := Int.eq_ofNat_of_zero_le c0
      have lj : j < vs.length := by omega
      have ej : vs[j]? = some vs[j] := List.getElem?_eq_getElem lj
      obtain ⟨d1, ed1, dv1⟩ := dv.get ej
      have hd1 : Drawn d1 := by
        obtain ⟨d0, h0, h1⟩ := flats_mem (tk ed1)
        have D0 := hds d0 h0
        have a1 := size_flat h1
        have a2 := deep_flat h1
        have a3 := D0.dp
        have a4 := D0.sz
        exact ⟨tmL_flat D0.tm h1, by omega, by omega⟩
      generalize vs[j] = v1 at ej dv1
      refine ⟨l, vs, j, v1, rfl, rfl, SqL.of (g4.at nl hv), atI_nat ej, ?_⟩
      have N4 := N3.go g4
      refine ⟨_, rfl, _, rfl, b, p, nm, xs, 3, 2, 2, rfl, rfl, g4.B, N4, by decide, by decide, by decide, by decide, fun y H5 d5 g5 hy tm5 sz5 un5 => ?_⟩
      have hd5 : Drawn d5 := ⟨tm5, by have := sz5.1; omega, by have := sz5.2; omega⟩
      refine ⟨(by show 2 ≤ sizeLine; decide), fun s1 hs1 => ?_⟩
      have g45 := g4.trans g5
      have kS : Same H5 (upd H5 s1 (.lst [v1, y])) := Same.new hs1
      have hw6 := kS _ _ (g45.at n2 hw)
      have g6 := (g.trans g45).same kS
      refine ⟨_, rfl, .inl ⟨rfl, _, SqL.of hw6⟩, _, rfl, _, rfl, _, rfl, _, rfl, a2, ws, rfl, SqL.of hw6, fun q1 hq1 => ?_⟩
      have cmem : ∀ v ∈ cutV ws (some (-1)) none, v ∈ ws := fun v hv => by
        unfold cutV at hv
        exact List.mem_of_mem_drop (List.mem_of_mem_take hv)
      have clen : (cutV ws (some (-1)) none).length ≤ ws.length := by
        unfold cutV
        rw [List.length_take, List.length_drop]
        omega
      have clen2 := clen
      generalize ecs : cutV ws (some (-1)) none = cs at cmem clen ⊢
      have kq1 : Same (upd H5 s1 (.lst [v1, y])) (upd (upd H5 s1 (.lst [v1, y])) q1 (.lst cs)) := Same.new hq1
      refine ⟨s1, q1, _, _, rfl, rfl, kq1 _ _ upd_same, upd_same, sz (by simp only [List.length_cons, List.length_nil]; omega), fun q2 hq2 => ?_⟩
      have kq2 := kq1.trans (Same.new (o := .lst ([v1, y] ++ cs)) hq2)
      have g7 := g6.same kq2
      have hw7 := kq2 _ _ hw6
      refine ⟨_, rfl, _, rfl, _, rfl, _, rfl, a2, ws, rfl, SqL.of hw7, fun q3 hq3 => ?_⟩
      have ecs2 : (cutV ws (some (-1)) none).length = cs.length := by rw [ecs]
      generalize hc2 : cutV ws (some (-1)) none = cs2 at hq3 clen2 ecs2
      have kq3 : Same (upd (upd (upd H5 s1 (.lst [v1, y])) q1 (.lst cs)) q2 (.lst ([v1, y] ++ cs))) (upd (upd (upd (upd H5 s1 (.lst [v1, y])) q1 (.lst cs)) q2 (.lst ([v1, y] ++ cs))) q3 (.lst cs2)) := Same.new hq3
      refine ⟨q3, cs2, rfl, .inl (SqL.of upd_same), _, _, rfl, rfl, b, p, _, rfl, (g7.same kq3).B, by omega, by omega, fun at2 H7 f0 f1 g8 => ?_⟩
      have g9 := (g7.same kq3).trans g8
      have nq2 : q2 ≠ b := (g6.same kq1).B.b_ne hq2
      have hq7 := g8.at nq2 (kq3 _ _ upd_same)
      have hw8 := g8.at n2 (kq3 _ _ hw7)
      obtain ⟨j2, rfl⟩ := Int.eq_ofNat_of_zero_le f0
      have lj2 : j2 < ([v1, y] ++ cs).length := by
        simp only [List.length_append, List.length_cons, List.length_nil]
        omega
      have ej2 := List.getElem?_eq_getElem lj2
      have mem2 := List.getElem_mem lj2
      generalize ([v1, y] ++ cs)[j2] = vz at ej2 mem2
      -- what is drawn stands in the base or is new
      have up1 : Same (newof (upd H a2 (.lst [])) H3) (newof (upd H a2 (.lst [])) H7) := newof_go Bq (((g45.same kS).same kq2).same kq3 |>.trans g8)
      have dw7 := dw.same (ovl_mono (Hb := mask b H) up1) _ _
      have hfree : ∀ c, H4 c = none → (upd H a2 (.lst [])) c = none := fun c hc => by
        have n1 : c ≠ a2 := fun z => by
          rw [z, g4.at n2 hw] at hc
          cases hc
        rw [upd_ne n1]
        exact (g.trans g4).free hc
      have B4 := g4.B
      have dy7 : Dv (ovl (mask b H) (newof (upd H a2 (.lst [])) H7)) y d5 := by
        have e1 : Same (newof H4 H5) (newof H4 H7) := newof_go B4 (((Go.refl g5.B).same kS |>.same kq2 |>.same kq3).trans g8)
        have e2 : Same (newof H4 H7) (newof (upd H a2 (.lst [])) H7) := newof_lift hfree
        have e3 : Same (newof (upd H a2 (.lst [])) H7) (ovl (mask b H) (newof (upd H a2 (.lst [])) H7)) := fun c o e => by
          obtain ⟨e4, e5⟩ := newof_is e
          refine ovl_new ?_ e
          by_cases z : c = a2
          · rw [z, upd_same] at e4
            cases e4
          · rw [upd_ne z] at e4
            unfold mask
            split
            · rfl
            · exact e4
        exact hy.same ((e1.trans e2).trans e3) _ _
      have good : ∃ e, Dv (ovl (mask b H) (newof (upd H a2 (.lst [])) H7)) vz e ∧ Drawn e := by
        rcases List.mem_append.mp mem2 with h | h
        · rcases List.mem_cons.mp h with rfl | h
          · exact ⟨d1, dv1.same ovl_base _ _, hd1⟩
          · rw [List.mem_singleton.mp h]
            exact ⟨d5, dy7, hd5⟩
        · obtain ⟨n, hn2⟩ := List.mem_iff_getElem?.mp (cmem _ h)
          obtain ⟨e, he, de⟩ := dw7.get hn2
          exact ⟨e, de, dr e (tk he)⟩
      obtain ⟨ez, dz, drz⟩ := good
      refine ⟨q2, _, j2, vz, rfl, rfl, SqL.of hq7, atI_nat ej2, a2, ws, vz, rfl, rfl, hw8, szl (by omega), ?_⟩
      refine ⟨_, _, ws ++ [vz], es ++ [ez], rfl, g9.mut B hn2, upd_same, ?_, ?_, ?_, ?_⟩
      · rw [upd_ne nla]
        exact g8.at nl (kq3 _ _ (kq2 _ _ (kS _ _ (g45.at nl hv))))
      · rw [newof_upd h0q]
        exact dw7.snoc dz
      · intro e' he'
        rcases List.mem_append.mp he' with h | h
        · exact dr e' h
        · rw [List.mem_singleton.mp h]
          exact drz
      · rw [List.length_append, hn]
        rfl
    · rintro σ H3 ⟨o6, o7, ws, es, rfl, g, hw, hv, dw, dr, hn⟩
      exact ⟨_, rfl, q a2 H3 ws es g n2 hw (dw.same (ovl_sub g.k (newof_mask Bq)) _ _) dr (by omega)⟩
end
end K13
set_option maxRecDepth 100000
set_option maxHeartbeats 4000000
namespace K13
open PySem L2 Fm
section
variable {P : Program} {w : World} {K : PySem.W.Frag} {mg : Str → Option Value} {base : Heap} (T : Txt K mg)
theorem ok_law_can : FnG P w K mg base 8 T.a__law_can T.d__law_can ["_law_terms", "_law_values_here", "_law_keep"] (spCan K) := by
  have G__law_parts := ok_law_parts (P := P) (w := w) (base := base) T 6
  refine fnG T.F__law_can sc__law_can ?_ (fun cdv A outer s H vs Q gd hr h => ?_)
  · rintro vs H Q E ⟨lt, lv, lk, us, ws, ds, es, ks, rfl, _⟩
    rfl
  obtain ⟨lt, lv, lk, us, ws, ds, es, ks, rfl, hlt, hu, hds, lds, hlv, hw, hes, les, hlk, hks, hkl, q⟩ := h
  refine ⟨_, 
    (pss_cons (ps_asg (pe_tup (pa_cons (pe_lc (own := [("_law_at", 8)]) (g := gName 8) (tt := tYes) rfl sc__law_can.nd (pi_list (pv 2)) (blkOk_by (N := N__law_can) (sc := defScope s__law_can) (by decide +kernel)) (fun _ _ _ _ _ => pg_name (i := 8) sc__law_can.nd rfl (Or.inl rfl)) (fun _ _ _ _ _ => pts_nil) (fun _ _ _ _ _ => pe_callB (r := rRepr K) (call_repr hr gd) (by rfl) T.m_repr (by decide +kernel) (pa_cons (pe_ix (r := rIxL K) ix_list (pv 1) (pv 8) (fun _ _ => rfl)) pa_nil))) (pa_cons (pe_un un_neg pe_int) pa_nil))) (pg_tup rfl (pgs_cons (pg_name (i := 3) sc__law_can.nd rfl (Or.inr rfl)) (pgs_cons (pg_name (i := 4) sc__law_can.nd rfl (Or.inl rfl)) pgs_nil))))
    (pss_cons (ps_set (i := 5) sc__law_can.nd rfl (Or.inl rfl) (pe_lst pa_nil))
    (pss_cons (ps_for PassesOwn.never rfl (pi_list (pv 0)) (pg_name (i := 6) sc__law_can.nd rfl (Or.inl rfl)) (pss_one (ps_set (i := 5) sc__law_can.nd rfl (Or.inl rfl) (pe_op op_cat (pv 5) (pe_call G__law_parts (hr.mono (by omega)) (by rfl) T.f__law_parts T.F__law_parts.kp T.b__law_parts .nil pass0 (pa_cons (pv 6) pa_nil))))))
    (pss_cons (ps_while PassesOwn.never (pt_cmpR op_ne (pv 4) (pe_callB call_len_seq (by rfl) T.m_len (by decide +kernel) (pa_cons (pv 3) pa_nil)) (nomark _)) (pss_cons (ps_set (i := 4) sc__law_can.nd rfl (Or.inl rfl) (pe_callB call_len_seq (by rfl) T.m_len (by decide +kernel) (pa_cons (pv 3) pa_nil))) (pss_one (ps_for PassesOwn.never rfl (pi_list (pv 5)) (pg_name (i := 7) sc__law_can.nd rfl (Or.inl rfl)) (pss_one (ps_if (PW.pt (pw_and (pt_not (pt_val (pe_isD (fun _ => kit_I) T.m_isinstance (pv 7) (pe_bltn (v := .ty "int") (u := .type "int") (by rfl) T.m_int (by decide +kernel) rfl) mon_var))) (pw_and1 (pt_cmpR op_notIn_seq (pe_callB (call_repr hr gd) (by rfl) T.m_repr (by decide +kernel) (pa_cons (pv 7) pa_nil)) (pv 3) (by rfl))))) (pss_one (ps_if (pt_val (pe_callB (cr_all rfl) (by rfl) T.m_all (by decide +kernel) (pa_cons (pe_lc (own := [("_law_one", 9)]) (g := gName 9) (tt := tYes) rfl sc__law_can.nd (pi_tup (pe_slice sl_tupA (pv 7) (po_some pe_int) po_none)) (blkOk_by (N := N__law_can) (sc := defScope s__law_can) (by decide +kernel)) (fun _ _ _ _ _ => pg_name (i := 9) sc__law_can.nd rfl (Or.inl rfl)) (fun _ _ _ _ _ => pts_nil) (fun _ _ _ _ _ => pe_cmpR (r := rIn K false) op_in_seq (pe_callB (r := rRepr K) (call_repr hr gd) (by rfl) T.m_repr (by decide +kernel) (pa_cons (pv 9) pa_nil)) (pv 3) (by rfl))) pa_nil))) (pss_one (ps_expr (pe_bm PySem.F.plainAttrs_list PySem.F.slot_list_append PySem.F.type_list_append mt_append (pv 3) (pa_cons (pe_callB (call_repr hr gd) (by rfl) T.m_repr (by decide +kernel) (pa_cons (pv 7) pa_nil)) pa_nil)))) pss_nil)) pss_nil))))))
    (pss_one (ps_ret (pv 3))))))), ?_⟩
  refine ⟨_, rfl, lk, rfl, ⟨_, SqL.of hlk⟩, fun l1 hl1 => ?_⟩
  refine lc_listF (K := K) (shAt es) (SqL.of hlk) hl1 (by rw [List.length_map]; omega) (fun _ => rfl) (fun _ _ _ r => r) ?_ ?_
  · intro x H' R k hx r
    obtain ⟨a, ha, rfl⟩ := List.mem_map.mp hx
    have lt := hks a ha
    obtain ⟨y, hy, dy⟩ := (hw.same k _ _).getD (List.getElem?_eq_getElem lt)
    obtain ⟨w1, w2, w3, w4, w5, w6⟩ := drawn_ok (K := K) (hes _ (List.getElem_mem lt)) dy
    refine ⟨_, rfl, _, rfl, lv, ws, a, y, rfl, rfl, SqL.of (k _ _ hlv), atI_nat hy, _, _, rfl, w1, w3, w4, w5, w6, ?_⟩
    have e : shAt es (vI a) = .str (PyData.shown (pdOf es[a])) := by
      show V.str (sh (es.getD (a : Int).toNat (.int 0))) = _
      rw [Int.toNat_natCast, List.getD_eq_getElem?_getD, List.getElem?_eq_getElem lt]
      rfl
    rw [← e]
    exact r _ (Same.refl _)
  intro H1 k1 hk1
  rw [shAt_map] at hk1
  have kn0 := Kn.first (ds := ds) hes hks
  obtain ⟨kn, ekn⟩ : ∃ kn, (ks.map fun a => sh (es.getD a (.int 0))) = kn := ⟨_, rfl⟩
  rw [ekn] at hk1 kn0
  clear ekn
  refine ⟨_, rfl, (by show 2 ≤ sizeLine; decide), fun tp htp => ?_⟩
  have k2 : Same H1 (upd H1 tp (.tup [.ref l1, .int (-1)])) := Same.new htp
  refine ⟨tp, _, rfl, SqT.of upd_same, rfl, _, _, rfl, _, _, rfl, rfl, ?_⟩
  refine ⟨by decide, fun a5 ha5 => ?_⟩
  have k3 := k2.trans (Same.new (o := .lst []) ha5)
  have kH : Same H H1 := k1
  have lu := hu.len
  have s3 := kH.trans k3
  have hl1n : H l1 = none := hl1
  have e15 : a5 ≠ l1 := fun e => by
    rw [e, k2 _ _ hk1] at ha5
    cases ha5
  have zds := drawn_sizes hds lds
  have fz := flats_len ds
  refine ⟨_, rfl, lt, rfl, ⟨_, SqL.of (s3 _ _ hlt)⟩, ?_⟩
  refine for_list (xs := us) (fun i σ H' => ∃ o6 l5 vs, σ = [some (.ref lt), some (.ref lv), some (.ref lk), some (.ref l1), some (.int (-1)), some (.ref l5), o6, none, none, none] ∧ Same (upd (upd H1 tp (.tup [.ref l1, .int (-1)])) a5 (.lst [])) H' ∧ l5 ≠ l1 ∧ H' l5 = some (.lst vs) ∧ DvL H vs (flats (ds.take i)))
    ⟨none, a5, [], rfl, Same.refl _, e15, upd_same, .nil⟩ (fun i σ H' _ ⟨_, _, _, _, k, _⟩ => SqL.of (k _ _ (s3 _ _ hlt))) ?_ ?_
  · rintro i x σ H2 hx ⟨o6, l5, vs, rfl, k, n5, hl5, dv⟩
    obtain ⟨d, e1, d1⟩ := hu.get hx
    have dr := hds d (tk e1)
    have z1 := dr.sz
    have z2 := dr.dp
    have tk1 : flats (ds.take (i + 1)) = flats (ds.take i) ++ flat d := by
      rw [take_succ' e1, flats_app]
      simp [flats]
    refine ⟨_, rfl, _, rfl, H, x, d, rfl, s3.trans k, d1, dr.tm.tm, by omega, by omega, fun l2 H3 us2 k4 hn2 hl2 dv2 => ?_⟩
    have lv := dv.len
    have lv2 := dv2.len
    have f1 := flats_len (ds.take i)
    have f2 := flat_len d
    have f3 := drawn_sizes (ds := ds.take i) (n := 3) (fun e he => hds e (List.mem_of_mem_take he)) (by rw [List.length_take]; omega)
    refine ⟨l5, l2, _, _, rfl, rfl, k4 _ _ hl5, hl2, sz (by omega), fun l4 hl4 => ?_⟩
    have k5 := (k.trans k4).trans (Same.new (o := .lst (vs ++ us2)) hl4)
    refine ⟨_, l4, vs ++ us2, rfl, k5, fun z => ?_, upd_same, by rw [tk1]; exact dv.app dv2⟩
    rw [z, (k.trans k4) _ _ (k3 _ _ hk1)] at hl4
    cases hl4
  · rintro σ H2 ⟨o6, l5, vs, rfl, k, n5, hl5, dv⟩
    have : ds.take us.length = ds := List.take_of_length_le (by omega)
    rw [this] at dv
    have hk2 := k _ _ (k3 _ _ hk1)
    have sH := s3.trans k
    have hl5n : H2 l5 = some (.lst vs) := hl5
    have lvs := dv.len
    clear k k3 s3 k2 ha5 htp
    refine ⟨fun m σ H' => ∃ (bf : Int) (p6 p7 : Option V) (kn : List Str), σ = [some (.ref lt), some (.ref lv), some (.ref lk), some (.ref l1), some (.int bf), some (.ref l5), p6, p7, none, none] ∧ Same H H' ∧ H' l1 = some (.lst (kn.map V.str)) ∧ H' l5 = some (.lst vs) ∧ Kn es ks ds kn ∧ bf ≤ kn.length ∧ (bf = kn.length → ∀ t ∈ flats ds, Clo kn t) ∧ m = (((ks.length + (flats ds).length : Nat) : Int) + 1 - bf).toNat,
      ⟨_, -1, o6, none, kn, rfl, sH, hk2, hl5, kn0, by omega, fun e => by omega, rfl⟩, ?_⟩
    rintro m σ H3 ⟨bf, p6, p7, kn, rfl, s4, h1, h5, knk, bl, bc, rfl⟩
    have knl := knk.le
    refine ⟨_, rfl, _, rfl, l1, _, rfl, .inl (SqL.of h1), rfl, _, rfl, ite_b (fun c => ?_) (fun c => ?_)⟩
    · rw [List.length_map] at c
      have bne : bf ≠ (kn.length : Int) := by simpa using c
      refine ⟨fun σ' H2 => ∃ m', m' < (((ks.length + (flats ds).length : Nat) : Int) + 1 - bf).toNat ∧ ∃ (bf : Int) (p6 p7 : Option V) (kn : List Str), σ' = [some (.ref lt), some (.ref lv), some (.ref lk), some (.ref l1), some (.int bf), some (.ref l5), p6, p7, none, none] ∧ Same H H2 ∧ H2 l1 = some (.lst (kn.map V.str)) ∧ H2 l5 = some (.lst vs) ∧ Kn es ks ds kn ∧ bf ≤ kn.length ∧ (bf = kn.length → ∀ t ∈ flats ds, Clo kn t) ∧ m' = (((ks.length + (flats ds).length : Nat) : Int) + 1 - bf).toNat, fun _ _ x => x, ?_⟩
      refine ⟨_, rfl, l1, _, rfl, .inl (SqL.of h1), ?_⟩
      rw [List.length_map]
      refine ⟨_, rfl, l5, rfl, ⟨_, SqL.of h5⟩, ?_⟩
      refine for_list (xs := vs) (fun i σ H' => ∃ (q7 : Option V) (kn' : List Str), σ = [some (.ref lt), some (.ref lv), some (.ref lk), some (.ref l1), some (.int (kn.length : Nat)), some (.ref l5), p6, q7, none, none] ∧ Same H H' ∧ H' l1 = some (.lst (kn'.map V.str)) ∧ H' l5 = some (.lst vs) ∧ Kn es ks ds kn' ∧ kn.length ≤ kn'.length ∧ (kn'.length = kn.length → kn' = kn ∧ ∀ t ∈ (flats ds).take i, Clo kn t))
        ⟨p7, kn, rfl, s4, h1, h5, knk, Nat.le_refl _, fun _ => ⟨rfl, fun t ht => by simp at ht⟩⟩ (fun i σ H' _ ⟨_, _, _, _, _, h, _⟩ => SqL.of h) ?_ ?_
      · rintro i x σ H4 hx ⟨q7, kn', rfl, s5, g1, g5, knk', le', cl'⟩
        obtain ⟨t, e1, dt⟩ := dv.get hx
        have drt := drawn_flats hds t (tk e1)
        have tk1 : (flats ds).take (i + 1) = (flats ds).take i ++ [t] := take_succ' e1
        obtain ⟨w1, w2, w3, w4, w5, w6⟩ := drawn_ok (K := K) drt (dt.same s5 _ _)
        have clo : Clo kn' t → (kn'.length = kn.length → kn' = kn ∧ ∀ s ∈ (flats ds).take (i + 1), Clo kn s) := fun ct e => by
          obtain ⟨e1, e2⟩ := cl' e
          refine ⟨e1, fun s hs => ?_⟩
          rw [tk1] at hs
          rcases List.mem_append.mp hs with h | h
          · exact e2 s h
          · rw [List.mem_singleton.mp h, ← e1]
            exact ct
        have mt := tk e1
        have tt := drt.tm
        cases tt with
        | int n hn =>
          refine ⟨_, rfl, _, dt.same s5 _ _, _, rfl, iteF ?_⟩
          exact ⟨_, kn', rfl, s5, g1, g5, knk', le', clo fun x ps e => by cases e⟩
        | tup x ps lx hps =>
          refine ⟨_, rfl, _, dt.same s5 _ _, _, rfl, iteT ?_⟩
          refine ⟨_, rfl, _, _, rfl, w1, w3, w4, w5, w6, _, rfl, l1, _, rfl, .inl (SqL.of g1), rfl, flat_strs kn', _, rfl, ite_b (fun c => ?_) (fun c => ?_)⟩
          · rw [if_pos rfl, inV_strs] at c
            have nin : sh (.tup (.str x :: ps)) ∉ kn' := fun z => by
              have z2 : PyData.shown (pdOf (.tup (.str x :: ps))) ∈ kn' := z
              rw [decide_eq_true z2] at c
              cases c
            cases dt with
            | @tup ta us0 _ h6 h7 =>
            cases h7 with
            | @cons w0 wr _ _ h8 h9 =>
            have ha := s5 _ _ h6
            have lr := h9.len
            refine ⟨_, rfl, _, rfl, tail_one ha fun p hp => ?_⟩
            have kp := s5.trans (Same.new (o := .tup wr) hp)
            have hl1p := Same.new (o := .tup wr) hp _ _ g1
            refine ⟨p, rfl, ⟨_, SqT.of upd_same⟩, fun Dl hD => ?_⟩
            have zps : ps.length ≤ 450 := by
              have n1 := len_sizes ps
              have := drt.sz
              simp only [D.size, sizes] at this
              omega
            refine lc_tupD (K := K) (fun d => .bl (decide (sh d ∈ kn'))) (SqT.of upd_same) (h9.same kp _ _) hD (by omega) (fun _ => rfl) (fun _ _ _ r => r) (fun y d H' R k6 hm6 hy r => ?_) (fun H' k6 hl6 => ?_)
            · have drd : Drawn d := drt.flat (by
                have e : flat (.tup (.str x :: ps)) = .tup (.str x :: ps) :: flats ps := by simp [flat, flatT]
                rw [e]
                exact List.mem_cons_of_mem _ (mem_flats hm6 (by rw [flat_eq]; exact List.mem_cons_self)))
              obtain ⟨v1, v2, v3, v4, v5, v6⟩ := drawn_ok (K := K) drd (hy.same k6 _ _)
              refine ⟨_, rfl, _, _, rfl, v1, v3, v4, v5, v6, _, rfl, l1, _, rfl, .inl (SqL.of (k6 _ _ hl1p)), rfl, flat_strs kn', ?_⟩
              rw [if_neg (by decide), inV_strs]
              exact r _ (Same.refl _)
            · have e7 : ps.map (fun d => V.bl (decide (sh d ∈ kn'))) = (ps.map fun d => decide (sh d ∈ kn')).map V.bl := by
                rw [List.map_map]
                rfl
              rw [e7] at hl6
              refine ⟨Dl, _, rfl, SqL.of hl6, _, rfl, ite_b (fun c2 => ?_) (fun c2 => ?_)⟩
              · have all : ∀ p ∈ ps, sh p ∈ kn' := fun p hp => by
                  have := List.all_eq_true.mp c2 (decide (sh p ∈ kn')) (List.mem_map.mpr ⟨p, hp, rfl⟩)
                  simpa using this
                have s6 := kp.trans k6
                have g1' := k6 _ _ hl1p
                have kle := knk'.le
                obtain ⟨w1', _, w3', w4', w5', w6'⟩ := drawn_ok (K := K) drt (.tup (s6 _ _ h6) (.cons (h8.same s6 _ _) (h9.same s6 _ _)))
                refine ⟨_, rfl, .inl ⟨rfl, _, SqL.of g1'⟩, _, rfl, _, _, rfl, w1', w3', w4', w5', w6', l1, _, _, rfl, rfl, g1', szl (by rw [List.length_map]; omega), ?_⟩
                have e8 : (kn'.map V.str) ++ [V.str (PyData.shown (pdOf (.tup (.str x :: ps))))] = (kn' ++ [sh (.tup (.str x :: ps))]).map V.str := by
                  rw [List.map_append]
                  rfl
                rw [e8]
                refine ⟨_, _, rfl, Same.upd s6 hl1n, upd_same, ?_, knk'.add (.tup x ps lx hps) mt nin all, ?_, fun e => ?_⟩
                · rw [upd_ne n5]
                  exact k6 _ _ (Same.new hp _ _ g5)
                · rw [List.length_append]
                  omega
                · rw [List.length_append, List.length_singleton] at e
                  omega
              · refine ⟨_, kn', rfl, kp.trans k6, k6 _ _ hl1p, k6 _ _ (Same.new hp _ _ g5), knk', le', clo fun y qs e => ?_⟩
                injection e with e
                injection e with _ e
                subst e
                refine .inr ?_
                obtain ⟨bb, hb, e9⟩ := List.all_eq_false.mp c2
                obtain ⟨p, hp, rfl⟩ := List.mem_map.mp hb
                exact ⟨p, hp, by simpa using e9⟩
          · rw [if_pos rfl, inV_strs] at c
            have yin : sh (.tup (.str x :: ps)) ∈ kn' := by
              by_cases z : PyData.shown (pdOf (.tup (.str x :: ps))) ∈ kn'
              · exact z
              · rw [decide_eq_false z] at c
                cases c
            exact ⟨_, kn', rfl, s5, g1, g5, knk', le', clo fun y qs e => .inl yin⟩
      · rintro σ H4 ⟨q7, kn', rfl, s5, g1, g5, knk', le', cl'⟩
        have lk' := knk'.le
        refine ⟨_, ?_, (kn.length : Nat), p6, q7, kn', rfl, s5, g1, g5, knk', by omega, fun e => ?_, rfl⟩
        · omega
        · obtain ⟨e1, e2⟩ := cl' (by omega)
          rw [e1]
          have : (flats ds).take vs.length = flats ds := List.take_of_length_le (by omega)
          rw [this] at e2
          exact e2
    · rw [List.length_map] at c
      have be : bf = (kn.length : Int) := by simpa using c
      exact ⟨_, rfl, q l1 H3 kn s4 hl1n h1 fun d hd => knk.done (bc be) (hds d hd).tm (mem_flats hd (by rw [flat_eq]; exact List.mem_cons_self))⟩
end
end K13
set_option maxRecDepth 100000
set_option maxHeartbeats 4000000
namespace K13
open PySem L2 Fm
section
variable {P : Program} {w : World} {K : PySem.W.Frag} {mg : Str → Option Value} {base : Heap} (T : Txt K mg)
theorem ok_law : FnG P w K mg base 64 T.a_law T.d_law ["_law_script"] (spLaw K) := by
  have G__law_alike := ok_law_alike (P := P) (w := w) (base := base) T
  have G__law_bag := ok_law_bag (P := P) (w := w) (base := base) T
  have G__law_built := ok_law_built (P := P) (w := w) (base := base) T 6
  have G__law_can := ok_law_can (P := P) (w := w) (base := base) T
  have G__law_leaves := ok_law_leaves (P := P) (w := w) (base := base) T 6
  have G__law_mixed := ok_law_mixed (P := P) (w := w) (base := base) T
  have G__law_names := ok_law_names (P := P) (w := w) (base := base) T
  have G__law_put := ok_law_put (P := P) (w := w) (base := base) T 6
  have G__law_take := ok_law_take (P := P) (w := w) (base := base) T
  have G__law_term := ok_law_term (P := P) (w := w) (base := base) T 6
  have G__law_values := ok_law_values (P := P) (w := w) (base := base) T
  have G_built := ok_built (P := P) (w := w) (base := base) T
  refine fnG T.F_law sc_law ?_ (fun cdv A outer s H vs Q gd hr h => ?_)
  · rintro vs H Q E ⟨a, ns, rfl, _⟩
    rfl
  obtain ⟨a, ns, rfl, hs, hl, q⟩ := h
  refine ⟨_, 
    (pss_cons (ps_set (i := 1) sc_law.nd rfl (Or.inr rfl) (pe_call G__law_bag (hr.mono (by omega)) (by rfl) T.f__law_bag T.F__law_bag.kp T.b__law_bag .nil pass0 (pa_cons (pv 0) pa_nil)))
    (pss_cons (ps_set (i := 2) sc_law.nd rfl (Or.inr rfl) (pe_call G__law_names (hr.mono (by omega)) (by rfl) T.f__law_names T.F__law_names.kp T.b__law_names .nil pass0 (pa_cons (pv 1) (pa_cons pe_int pa_nil))))
    (pss_cons (ps_for PassesOwn.never rfl (pi_range1 (by rfl) T.m_range (pa_cons pe_int pa_nil)) (pg_name (i := 3) sc_law.nd rfl (Or.inl rfl)) (pss_cons (ps_setLc (i := 4) (own := [("_law_k", 14)]) (g := gName 14) (tt := tYes) rfl sc_law.nd rfl rfl (sw_true rfl rfl rfl (by decide +kernel)) (pi_range1 (by rfl) T.m_range (pa_cons pe_int pa_nil)) (blkOk_by (N := N_law) (sc := defScope s_law) (by decide +kernel)) (fun _ _ _ _ _ => pg_name (i := 14) sc_law.nd rfl (Or.inl rfl)) (fun _ _ _ _ _ => pts_nil) (fun _ _ _ _ _ => pe_call G__law_term (hr.mono (by omega)) (by rfl) T.f__law_term T.F__law_term.kp T.b__law_term .nil pass0 (pa_cons (pv 1) (pa_cons (pv 2) (pa_cons pe_int (pa_cons (pe_op op_add pe_int (pe_call G__law_take (hr.mono (by omega)) (by rfl) T.f__law_take T.F__law_take.kp T.b__law_take .nil pass0 (pa_cons (pv 1) (pa_cons pe_int pa_nil)))) pa_nil)))))) (pss_cons (ps_set (i := 5) sc_law.nd rfl (Or.inl rfl) (pe_call G__law_values (hr.mono (by omega)) (by rfl) T.f__law_values T.F__law_values.kp T.b__law_values .nil pass0 (pa_cons (pv 1) (pa_cons (pv 2) (pa_cons (pv 4) pa_nil))))) (pss_cons (ps_set (i := 6) sc_law.nd rfl (Or.inr rfl) (pe_callB cr_sortedI (by rfl) T.m_sorted (by decide +kernel) (pa_cons (pe_slice sl_list (pe_call G__law_mixed (hr.mono (by omega)) (by rfl) T.f__law_mixed T.F__law_mixed.kp T.b__law_mixed .nil pass0 (pa_cons (pv 1) (pa_cons (pe_listRg rfl (by rfl) T.m_list (prg_1 (by rfl) T.m_range (pe_callB call_len_seq (by rfl) T.m_len (by decide +kernel) (pa_cons (pv 5) pa_nil)))) pa_nil))) po_none (po_some (pe_call G__law_take (hr.mono (by omega)) (by rfl) T.f__law_take T.F__law_take.kp T.b__law_take .nil pass0 (pa_cons (pv 1) (pa_cons (pe_op op_add (pe_callB call_len_seq (by rfl) T.m_len (by decide +kernel) (pa_cons (pv 5) pa_nil)) pe_int) pa_nil))))) pa_nil))) (pss_cons (ps_set (i := 7) sc_law.nd rfl (Or.inl rfl) (pe_callG G__law_can (hr.mono (by omega)) gd (by rfl) T.f__law_can T.F__law_can.kp T.b__law_can (pa_cons (pv 4) (pa_cons (pv 5) (pa_cons (pv 6) pa_nil))))) (pss_cons (ps_par (i := 8) (j := 9) (by rfl) sc_law.nd rfl rfl (by decide) rfl rfl (pa_cons (pe_ix ix_list (pe_lst (pa_cons (pv 5) (pa_cons (pe_callTy call_tuple_of (by rfl) T.m_tuple (by decide +kernel) (pa_cons (pv 5) pa_nil)) pa_nil))) (pe_call G__law_take (hr.mono (by omega)) (by rfl) T.f__law_take T.F__law_take.kp T.b__law_take .nil pass0 (pa_cons (pv 1) (pa_cons pe_int pa_nil))) (fun _ _ => rfl)) (pa_cons (pe_callB (call_repr hr gd) (by rfl) T.m_repr (by decide +kernel) (pa_cons (pe_lst (pa_cons (pv 5) (pa_cons (pv 6) (pa_cons (pv 4) pa_nil)))) pa_nil)) pa_nil)) (by rfl)) (pss_cons (ps_for PassesOwn.never rfl (pi_list (pv 4)) (pg_name (i := 10) sc_law.nd rfl (Or.inl rfl)) (pss_cons (ps_for PassesOwn.never rfl (pi_range1 (by rfl) T.m_range (pa_cons pe_int pa_nil)) (pg_name (i := 11) sc_law.nd rfl (Or.inl rfl)) (pss_cons (ps_set (i := 12) sc_law.nd rfl (Or.inl rfl) (pe_call G_built (hr.mono (by omega)) (by rfl) T.f_built T.F_built.kp T.b_built .nil pass0 (pa_cons (pv 10) (pa_cons (pv 8) (pa_cons (pv 6) pa_nil))))) (pss_one (ps_if (pt_not (pt_val (pe_callG G__law_alike (hr.mono (by omega)) gd (by rfl) T.f__law_alike T.F__law_alike.kp T.b__law_alike (pa_cons (pv 12) (pa_cons (pe_call G__law_built (hr.mono (by omega)) (by rfl) T.f__law_built T.F__law_built.kp T.b__law_built .nil pass0 (pa_cons (pv 10) (pa_cons (pv 5) (pa_cons (pv 6) pa_nil)))) pa_nil))))) (pss_one (ps_ret pe_bl)) pss_nil)))) (pss_cons (ps_if (pt_cmpR op_eq (pe_cmpR op_isN (pv 12) pe_non (nomark _)) (pe_cmpR op_in_seq (pe_callB (call_repr hr gd) (by rfl) T.m_repr (by decide +kernel) (pa_cons (pv 10) pa_nil)) (pv 7) (by rfl)) (nomark _)) (pss_one (ps_ret pe_bl)) pss_nil) (pss_one (ps_if (pt_cmpR op_notN (pv 12) pe_non (nomark _)) (pss_cons (ps_setLc (i := 13) (own := [("_law_at", 15)]) (g := gName 15) rfl sc_law.nd rfl rfl (sw_true rfl rfl rfl (by decide +kernel)) (pi_list (pe_call G__law_leaves (hr.mono (by omega)) (by rfl) T.f__law_leaves T.F__law_leaves.kp T.b__law_leaves .nil pass0 (pa_cons (pe_lst (pa_cons (pv 12) pa_nil)) pa_nil))) (blkOk_by (N := N_law) (sc := defScope s_law) (by decide +kernel)) (fun _ _ _ _ _ => pg_name (i := 15) sc_law.nd rfl (Or.inl rfl)) (fun _ _ _ _ _ => pts_one (pt_cmpR (r := rIn K true) op_notIn_seq (pv 15) (pv 6) (by rfl))) (fun _ _ _ _ _ => pv 15)) (pss_one (ps_if (PW.pt (pw_or (pt_cmpR (op_neD hr.units) (pv 13) (pe_lst pa_nil) (nomark _)) (pw_or1 (pt_not (pt_val (pe_callG G__law_alike (hr.mono (by omega)) gd (by rfl) T.f__law_alike T.F__law_alike.kp T.b__law_alike (pa_cons (pe_call G__law_put (hr.mono (by omega)) (by rfl) T.f__law_put T.F__law_put.kp T.b__law_put .nil pass0 (pa_cons (pv 12) (pa_cons (pv 5) pa_nil))) (pa_cons (pv 10) pa_nil)))))))) (pss_one (ps_ret pe_bl)) pss_nil))) pss_nil))))) (pss_one (ps_if (pt_cmpR op_ne (pe_callB (call_repr hr gd) (by rfl) T.m_repr (by decide +kernel) (pa_cons (pe_lst (pa_cons (pv 5) (pa_cons (pv 6) (pa_cons (pv 4) pa_nil)))) pa_nil)) (pv 9) (nomark _)) (pss_one (ps_ret pe_bl)) pss_nil)))))))))
    (pss_one (ps_ret pe_bl))))), ?_⟩
  refine ⟨_, rfl, a, ns, rfl, hs, hl, fun b p H1 _ _ B1 => ?_⟩
  refine ⟨_, rfl, b, p, 3, rfl, B1, by decide, by decide, fun nm H2 xs g2 hn ln ok => ?_⟩
  obtain ⟨hn0, hn1⟩ := newof_is hn
  have N2 : NamesL nm b H2 xs := ⟨hn1, B1.b_ne hn0, by omega, by omega, ok⟩
  refine ⟨6, rfl, by decide, by decide, ?_⟩
  refine for_range (lo := 0) (n := 6) (fun i σ H' => ∃ o3 o4 o5 o6 o7 o8 o9 o10 o11 o12 o13, σ = [some (.ref a), some (.ref b), some (.ref nm), o3, o4, o5, o6, o7, o8, o9, o10, o11, o12, o13, none, none] ∧ Go b p H2 H') ⟨none, none, none, none, none, none, none, none, none, none, none, rfl, Go.refl g2.B⟩ ?_ ?_
  · rintro i σ H3 hi ⟨o3, o4, o5, o6, o7, o8, o9, o10, o11, o12, o13, rfl, g3⟩
    have N3 := N2.go g3
    refine ⟨_, rfl, by decide, by decide, fun Dl hD => ?_⟩
    refine lc_bag (n := 3) Drawn g3.B hD (by decide) (fun _ => rfl) (fun _ _ _ r => r) ?_ ?_
    · intro j H' R hj g r
      refine ⟨_, rfl, _, rfl, _, rfl, b, p, 3, rfl, g.B, by decide, by decide, fun e H4 e0 e1 g4 => ?_⟩
      obtain ⟨ke, rfl⟩ := Int.eq_ofNat_of_zero_le e0
      refine ⟨_, _, rfl, rfl, b, p, nm, xs, 3, 1 + ke, _, rfl, by omega, g4.B, (N3.go g).go g4, by decide, by decide, by omega, by omega, fun v H5 d g5 hv tml szd un => ?_⟩
      exact r v d H5 (g4.trans g5) (hv.same (newof_lift fun c hc => g4.free hc) _ _) (drawn_of tml szd (by omega))
    intro H4 acc ds g4 hl hds hgd hnd
    have nD : Dl ≠ b := g3.B.b_ne hD
    have mds : DvL (mask b H4) acc ds := hds.same (newof_mask g3.B) _ _
    have N4 := N3.go g4
    refine ⟨_, rfl, _, rfl, _, rfl, b, p, nm, Dl, xs, acc, ds, rfl, g4.B, N4, nD, hl, mds, hgd, by omega, by omega, fun lv H5 ws es g5 nlv hlv dws hes les => ?_⟩
    have lws := dws.len
    refine ⟨_, rfl, _, rfl, lv, ws, rfl, .inl (SqL.of hlv), _, rfl, RgOk.of_le (by decide) (by omega) (by decide) (by omega), fun lr hlr => ?_⟩
    rw [rgV_vI]
    have g6 := (Go.refl g5.B).new (o := .lst ((List.range ws.length).map vI)) hlr
    refine ⟨b, p, lr, List.range ws.length, rfl, g6.B, g5.B.b_ne hlr, upd_same, by rw [List.length_range]; omega, fun lm H7 zs g7 hlm hzs hzl => ?_⟩
    obtain ⟨hlm0, hlm1⟩ := newof_is hlm
    have nlm : lm ≠ b := g6.B.b_ne hlm0
    have g57 := g6.trans g7
    have hlv7 := g57.at nlv hlv
    refine ⟨_, rfl, _, rfl, lv, ws, rfl, .inl (SqL.of hlv7), _, _, rfl, rfl, b, p, _, rfl, g57.B, by omega, by omega, fun tk0 H8 t0 t1 g8 => ?_⟩
    have hlm8 := g8.at nlm hlm1
    refine ⟨_, rfl, lm, _, rfl, SqL.of hlm8, fun lc hlc => ?_⟩
    obtain ⟨ys, ey, my, ly⟩ := cut_nats zs none (some tk0)
    rw [ey]
    have g9 := (Go.refl g8.B).new (o := .lst (ys.map vI)) hlc
    refine ⟨lc, ys.map fun z : Nat => (z : Int), rfl, SqL.of (by rw [upd_same, vI_ints]), fun ns' lk perm _ hlk => ?_⟩
    obtain ⟨ks, ek, mk, lks⟩ := perm_nats perm
    rw [ek]
    have gA : Go b p H5 (upd (upd H8 lc (.lst (ys.map vI))) lk (.lst (ks.map vI))) := ((g57.trans g8).trans g9).new hlk
    have hks : ∀ a ∈ ks, a < es.length := fun a ha => by
      have := hzs a (my a (mk a ha))
      rw [List.mem_range] at this
      omega
    have hkl : ks.length ≤ 100 := by
      rw [List.length_range] at hzl
      omega
    have hlkA : (upd (upd H8 lc (.lst (ys.map vI))) lk (.lst (ks.map vI))) lk = some (.lst (ks.map vI)) := upd_same
    have nlk : lk ≠ b := g9.B.b_ne hlk
    obtain ⟨HA, eHA⟩ : ∃ HA, HA = (upd (upd H8 lc (.lst (ys.map vI))) lk (.lst (ks.map vI))) := ⟨_, rfl⟩
    rw [← eHA] at gA hlkA ⊢
    clear eHA hlk ek perm hlc ey hlm8 g9 g8 hlv7 g57 hlm1 hlm0 hlm hzs hzl my mk ly lks
    have g5A := g5.trans gA
    have hlA := g5A.at nD hl
    have mdsA := g5A.dvl mds
    have hlvA := gA.at nlv hlv
    have dwsA := gA.dvl dws
    have ddsA := mdsA.un
    have dwA := dwsA.un
    refine ⟨_, rfl, _, rfl, _, rfl, Dl, lv, lk, acc, ws, ds, es, ks, rfl, hlA, ddsA, hgd, by omega, hlvA, dwA, hes, les, hlkA, hks, hkl, fun lkn HB kn kB hkn0 hkn hkn2 => ?_⟩
    have gB : Go b p HA HB := Go.of gA.B kB
    have hlvB := kB _ _ hlvA
    refine ⟨_, rfl, _, rfl, lv, ws, rfl, .inl ⟨SqL.of hlvB, fun t1 ht1 => ⟨(by show 2 ≤ sizeLine; decide), fun l hl2 => ?_⟩⟩⟩
    have kC0 : Same HB (upd HB t1 (.tup ws)) := Same.new ht1
    have kC := kC0.trans (Same.new (o := .lst [.ref lv, .ref t1]) hl2)
    have gC := gB.same kC
    refine ⟨_, rfl, b, p, 2, rfl, gC.B, by decide, by decide, fun ii HD i0 i1 gD => ?_⟩
    have nt1 : t1 ≠ b := gB.B.b_ne ht1
    have nl2 : l ≠ b := (gB.same kC0).B.b_ne hl2
    have gAD := gC.trans gD
    have hlvD := gAD.at nlv hlvA
    have hlkD := gAD.at nlk hlkA
    have hlD := gAD.at nD hlA
    have ht1D := gD.at nt1 (Same.new hl2 _ _ upd_same)
    have hl2D := gD.at nl2 upd_same
    have nkn : lkn ≠ b := gA.B.b_ne hkn0
    have hknD := (Go.of gB.B kC |>.trans gD).at nkn hkn
    have dsD := (gAD.dvl mdsA).un
    have wsD := (gAD.dvl dwsA).un
    obtain ⟨va, e0, sva⟩ : ∃ va : Addr, atI [V.ref lv, .ref t1] ii = some (.ref va) ∧ ∀ H', Same HD H' → SqL K H' va ws ∨ SqT K H' va ws := by
      obtain ⟨kn2, rfl⟩ := Int.eq_ofNat_of_zero_le i0
      rcases (by omega : kn2 = 0 ∨ kn2 = 1) with rfl | rfl
      · exact ⟨_, atI_nat (j := 0) rfl, fun H' k => .inl (SqL.of (k _ _ hlvD))⟩
      · exact ⟨_, atI_nat (j := 1) rfl, fun H' k => .inr (SqT.of (k _ _ ht1D))⟩
    refine ⟨l, _, ii, _, rfl, rfl, SqL.of hl2D, e0, ?_⟩
    refine ⟨_, rfl, _, rfl, _, rfl, (by show 3 ≤ sizeLine; decide), fun l3 hl3 => ?_⟩
    have kE : Same HD (upd HD l3 (.lst [.ref lv, .ref lk, .ref Dl])) := Same.new hl3
    have okD : ∀ (H' : Hp) (q1 : Addr), Same HD H' → H' q1 = some (.lst [.ref lv, .ref lk, .ref Dl]) → _ := fun H' q1 k hq1 =>
      all_ok (K := K) (all_dv hq1 (k _ _ hlvD) (wsD.same k _ _) (k _ _ hlkD) (k _ _ hlD) (dsD.same k _ _)) hes les hgd (by omega) hks hkl
    obtain ⟨r1, r2, r3, r4, r5, r6⟩ := okD _ l3 kE upd_same
    refine ⟨_, _, rfl, r1, r3, r4, r5, r6, _, _, rfl, ?_⟩
    refine ⟨_, rfl, Dl, rfl, ⟨_, SqL.of (kE _ _ hlD)⟩, ?_⟩
    have lacc := dsD.len
    refine for_list (xs := acc) (fun j σ H' => ∃ q10 q11 q12 q13, σ = [some (.ref a), some (.ref b), some (.ref nm), some (.int (0 + i)), some (.ref Dl), some (.ref lv), some (.ref lk), some (.ref lkn), some (.ref va), some (.str (pdOf (allD es ds ks)).shown), q10, q11, q12, q13, none, none] ∧ Same HD H')
      ⟨_, _, _, _, rfl, kE⟩ (fun j σ H' _ ⟨_, _, _, _, _, k⟩ => SqL.of (k _ _ hlD)) ?_ ?_
    · rintro j x σ HF hx ⟨q10, q11, q12, q13, rfl, kF⟩
      obtain ⟨d, ed, dvx⟩ := dsD.get hx
      have drd := hgd d (tk ed)
      have kn_iff := hkn2 d (tk ed)
      have z1 := drd.sz
      have z2 := drd.dp
      refine ⟨2, rfl, by decide, by decide, ?_⟩
      refine for_range (lo := 0) (n := 2) (fun r σ H' => ∃ q11 q12, σ = [some (.ref a), some (.ref b), some (.ref nm), some (.int (0 + i)), some (.ref Dl), some (.ref lv), some (.ref lk), some (.ref lkn), some (.ref va), some (.str (pdOf (allD es ds ks)).shown), some x, q11, q12, q13, none, none] ∧ Same HD H' ∧ (r = 0 ∨ ∃ fv, q12 = some fv ∧ Dv H' fv (blt (kAt es ks) d))) ⟨_, _, rfl, kF, .inl rfl⟩ ?_ ?_
      · rintro r σ HG hr2 ⟨q11, q12, rfl, kG, _⟩
        refine ⟨_, rfl, _, rfl, _, rfl, x, va, lk, ws, d, es, ks, rfl, sva _ kG, wsD.same kG _ _, dvx.same kG _ _, drd.tm.tm, fun e he => (hes e he).tm.tm, kG _ _ hlkD, hks, hkl, by omega, fun e he => (hes e he).sz, fun fv H6 k6 hfv => ?_⟩
        have k06 := kG.trans k6
        refine ⟨_, rfl, _, rfl, _, rfl, _, rfl, H6, x, lv, lk, ws, d, es, ks, rfl, Same.refl _, k06 _ _ hlvD, wsD.same k06 _ _, dvx.same k06 _ _, drd.tm.tm, fun e he => (hes e he).tm.tm, k06 _ _ hlkD, hks, hkl, by omega, by omega, by omega, fun e he => ⟨by have := (hes e he).sz; omega, by have := (hes e he).dp; omega⟩, fun v2 H7 k7 hv2 => ?_⟩
        obtain ⟨w1, w2, w3, w4, w5, w6⟩ := blt_ok (K := K) drd les hks (hfv.same k7 _ _)
        obtain ⟨x1, _⟩ := blt_ok (K := K) drd les hks (hv2.same (ovl_sub k7 newof_sub) _ _)
        exact ⟨fv, v2, _, rfl, w1, x1, w2, w3, w4, w5, w6, _, rfl, iteF ⟨_, _, rfl, k06.trans k7, .inr ⟨fv, rfl, hfv.same k7 _ _⟩⟩⟩
      · rintro σ HG ⟨q11, q12, rfl, kG, h12⟩
        obtain ⟨fv, rfl, hfv⟩ : ∃ fv, q12 = some fv ∧ Dv HG fv (blt (kAt es ks) d) := by
          rcases h12 with h | h
          · cases h
          · exact h
        obtain ⟨u1, u2, u3, u4, u5, u6⟩ := drawn_ok (K := K) drd (dvx.same kG _ _)
        have hknG := kG _ _ hknD
        have fnn := dv_non hfv
        have bn := isNon_iff
        refine ⟨_, rfl, rfl, _, rfl, _, _, rfl, u1, u3, u4, u5, u6, _, rfl, lkn, _, rfl, .inl (SqL.of hknG), rfl, flat_strs kn, rfl, _, rfl, ite_b (fun c => ?_) (fun _ => ?_)⟩
        · exfalso
          rw [if_neg (by decide), inV_strs, fnn] at c
          have c2 : Fm.isNon (blt (kAt es ks) d) = decide (PyData.shown (pdOf d) ∈ kn) := by
            have := of_decide_eq_true c
            injection this
          by_cases z : blt (kAt es ks) d = .non
          · rw [(bn _).mpr z] at c2
            exact kn_iff.mp (of_decide_eq_true c2.symm) z
          · have y : PyData.shown (pdOf d) ∈ kn := kn_iff.mpr z
            rw [decide_eq_true y] at c2
            exact z ((bn _).mp c2)
        refine ⟨_, rfl, rfl, _, rfl, ite_b (fun c => ?_) (fun c => ?_)⟩
        · have nn : blt (kAt es ks) d ≠ .non := fun z => by
            rw [fnn, (bn _).mpr z] at c
            cases c
          have bb := (bltd (es := es) (ks := ks) drd.tm.tm).resolve_left nn
          have b1 := bb.sz
          have b2 := bb.dp
          have kept : ∀ u : Int, D.int u ∈ flat (blt (kAt es ks) d) → ∃ a ∈ ks, u = (a : Int) := fun u hu => bb.at_ u (ints_of_flat bb.tm u hu)
          have tm1 : ∀ e ∈ [blt (kAt es ks) d], Tm e := fun e he => by
            rw [List.mem_singleton.mp he]
            exact bb.tm
          refine ⟨_, rfl, (by show 1 ≤ sizeLine; decide), fun m1 hm1 => ?_⟩
          have k1 : Same HG (upd HG m1 (.lst [fv])) := Same.new hm1
          refine ⟨m1, [fv], [blt (kAt es ks) d], rfl, .inl (SqL.of upd_same), .cons (hfv.same k1 _ _) .nil, tm1, by simp only [deeps]; omega, by simp only [sizes]; omega, fun ll H6 k6 hln hll => ?_⟩
          have k16 := k1.trans k6
          have llen := leaves_len [blt (kAt es ks) d]
          simp only [sizes] at llen
          refine ⟨ll, rfl, ⟨_, SqL.of hll⟩, fun D4 hD4 => ?_⟩
          refine lc_keep (K := K) (Hb := H6) (fun _ => false) (SqL.of hll) (dvl_nums _) hD4 (by rw [List.length_map]; omega) (fun _ => rfl) ?_ (fun _ _ _ r => ⟨_, rfl, r⟩) ?_
          · intro y e H' R k hm hy r
            obtain ⟨u, hu, rfl⟩ := List.mem_map.mp hm
            cases hy
            have hu2 : u ∈ intsIn (blt (kAt es ks) d) := by
              rw [leaves_ints tm1] at hu
              simpa [intsOf] using hu
            obtain ⟨a0, ha0, rfl⟩ := bb.at_ u hu2
            refine ⟨_, rfl, _, rfl, lk, _, rfl, .inl (SqL.of (k _ _ (k16 _ _ (kG _ _ hlkD)))), rfl, by rw [vI_ints]; exact Fm.flat_ints _, _, rfl, ?_⟩
            rw [if_pos rfl, vI_ints, inV_ints, decide_eq_true (List.mem_map.mpr ⟨a0, ha0, rfl⟩)]
            exact r
          · intro H7 zs k7 hz7 dz7
            have ez : (List.map D.int (leaves [blt (kAt es ks) d])).filter (fun _ => false) = [] := List.filter_eq_nil_iff.mpr fun _ _ => by decide
            rw [ez] at dz7
            cases dz7
            have k8 := k16.trans k7
            refine ⟨_, rfl, by decide, fun m9 hm9 => ?_⟩
            have k9 := Same.new (o := .lst []) hm9
            have dA : Dv (upd H7 m9 (.lst [])) (.ref D4) (.lst []) := .lst (k9 _ _ hz7) .nil
            have dB : Dv (upd H7 m9 (.lst [])) (.ref m9) (.lst []) := .lst upd_same .nil
            refine ⟨_, _, (tm_data (K := K) dA rfl (by decide)).1, (tm_data (K := K) dB rfl (by decide)).1, (tm_data (K := K) dA rfl (by decide)).2, (tm_data (K := K) dB rfl (by decide)).2, _, rfl, ite_b (fun c3 => ?_) (fun _ => ?_)⟩
            · exfalso
              revert c3
              decide
            have k10 := k8.trans k9
            have kG10 := kG.trans k10
            refine ⟨_, rfl, _, rfl, _, fv, .ref lv, _, fun u : Int => es.getD u.toNat (.int 0), rfl, Same.refl _, hfv.same k10 _ _, bb.tm, by omega, by omega, fun u hu => ?_, fun v3 H11 k11 hv3 => ?_⟩
            · obtain ⟨a0, ha0, rfl⟩ := kept u hu
              have lt := hks a0 ha0
              obtain ⟨y, hy, dy⟩ := (wsD.same kG10 _ _).getD (List.getElem?_eq_getElem lt)
              refine ⟨y, .inl ⟨lv, ws, rfl, .inl (SqL.of (kG10 _ _ hlvD)), atI_nat hy⟩, ?_⟩
              show Dv _ y (es.getD (a0 : Int).toNat (.int 0))
              rw [Int.toNat_natCast, List.getD_eq_getElem?_getD, List.getElem?_eq_getElem lt]
              exact dy
            · rw [bb.put] at hv3
              obtain ⟨x1, x2, x3, x4, x5, x6⟩ := drawn_ok (K := K) drd (hv3.same (ovl_sub k11 newof_sub) _ _)
              obtain ⟨y1, _⟩ := drawn_ok (K := K) drd (dvx.same (kG10.trans k11) _ _)
              exact ⟨_, rfl, v3, x, _, rfl, x1, y1, x2, x3, x4, x5, x6, _, rfl, iteF ⟨_, _, _, _, rfl, kG10.trans k11⟩⟩
        · exact ⟨_, _, _, _, rfl, kG⟩
    · rintro σ HF ⟨q10, q11, q12, q13, rfl, kF⟩
      refine ⟨_, rfl, _, rfl, _, rfl, (by show 3 ≤ sizeLine; decide), fun l4 hl4 => ?_⟩
      have kH := kF.trans (Same.new (o := .lst [.ref lv, .ref lk, .ref Dl]) hl4)
      obtain ⟨y1, _⟩ := okD _ l4 kH upd_same
      refine ⟨_, _, rfl, y1, r3, r4, r5, r6, _, rfl, rfl, _, rfl, ite_b (fun c => ?_) (fun _ => ?_)⟩
      · rw [decide_eq_true rfl] at c
        cases c
      exact ⟨_, _, _, _, _, _, _, _, _, _, _, rfl, (g3.trans (g4.trans g5)).trans ((gA.trans gAD).same kH)⟩
  · rintro σ H3 ⟨o3, o4, o5, o6, o7, o8, o9, o10, o11, o12, o13, rfl, g3⟩
    exact q _
end
end K13
set_option maxRecDepth 100000
set_option maxHeartbeats 4000000
namespace K13
open PySem L2 Fm
theorem all_mk {P : Program} {w : World} {K : PySem.W.Frag} {h : Heap} {mg : Str → Option Value} {fa : Addr} (X : K.In h) (G : h.Ns mainGlobals mg) (hfa : mg "law" = some (.ref fa))
    {a0 a1 a2 a3 a4 a5 a6 a7 a8 a9 a10 a11 a12 a13 a14 a15 : Addr} {od0 an0 od1 an1 od2 an2 od3 an3 od4 an4 od5 an5 od6 an6 od7 an7 od8 an8 od9 an9 od10 an10 od11 an11 od12 an12 od13 an13 od14 an14 od15 an15 : Option Addr} {sl0 sl1 sl2 sl3 sl4 sl5 sl6 sl7 sl8 sl9 sl10 sl11 sl12 sl13 sl14 sl15 : Array (Option Value)}
    {oc0 kV0 dc0 pm0 cd0 ct0 oc1 kV1 dc1 pm1 cd1 ct1 oc2 kV2 dc2 pm2 cd2 ct2 oc3 kV3 dc3 pm3 cd3 ct3 oc4 kV4 dc4 pm4 cd4 ct4 oc5 kV5 dc5 pm5 cd5 ct5 oc6 kV6 dc6 pm6 cd6 ct6 oc7 kV7 dc7 pm7 cd7 ct7 oc8 kV8 dc8 pm8 cd8 ct8 oc9 kV9 dc9 pm9 cd9 ct9 oc10 kV10 dc10 pm10 cd10 ct10 oc11 kV11 dc11 pm11 cd11 ct11 oc12 kV12 dc12 pm12 cd12 ct12 oc13 kV13 dc13 pm13 cd13 ct13 oc14 kV14 dc14 pm14 cd14 ct14 oc15 kV15 dc15 pm15 cd15 ct15 : Value}
    (n0 : PySem.W.nsIn K mainGlobals "laid_out" = some (some (.ref a0))) (l0 : K.lookup a0 = some ⟨oc0, od0, .func (PySem.W.fnOf "laid_out" "laid_out" (defArgs s_laid_out) (defBody s_laid_out) (defScope s_laid_out) .none kV0 dc0 pm0 an0 cd0 ct0), sl0⟩) (c0 : PySem.W.codeIn K cd0 "laid_out" = true) (k0 : PySem.W.keepIn K (.ref a0) = true)
    (n1 : PySem.W.nsIn K mainGlobals "shared" = some (some (.ref a1))) (l1 : K.lookup a1 = some ⟨oc1, od1, .func (PySem.W.fnOf "shared" "shared" (defArgs s_shared) (defBody s_shared) (defScope s_shared) .none kV1 dc1 pm1 an1 cd1 ct1), sl1⟩) (c1 : PySem.W.codeIn K cd1 "shared" = true) (k1 : PySem.W.keepIn K (.ref a1) = true)
    (n2 : PySem.W.nsIn K mainGlobals "built" = some (some (.ref a2))) (l2 : K.lookup a2 = some ⟨oc2, od2, .func (PySem.W.fnOf "built" "built" (defArgs s_built) (defBody s_built) (defScope s_built) .none kV2 dc2 pm2 an2 cd2 ct2), sl2⟩) (c2 : PySem.W.codeIn K cd2 "built" = true) (k2 : PySem.W.keepIn K (.ref a2) = true)
    (n3 : PySem.W.nsIn K mainGlobals "_law_bag" = some (some (.ref a3))) (l3 : K.lookup a3 = some ⟨oc3, od3, .func (PySem.W.fnOf "_law_bag" "_law_bag" (defArgs s__law_bag) (defBody s__law_bag) (defScope s__law_bag) .none kV3 dc3 pm3 an3 cd3 ct3), sl3⟩) (c3 : PySem.W.codeIn K cd3 "_law_bag" = true) (k3 : PySem.W.keepIn K (.ref a3) = true)
    (n4 : PySem.W.nsIn K mainGlobals "_law_take" = some (some (.ref a4))) (l4 : K.lookup a4 = some ⟨oc4, od4, .func (PySem.W.fnOf "_law_take" "_law_take" (defArgs s__law_take) (defBody s__law_take) (defScope s__law_take) .none kV4 dc4 pm4 an4 cd4 ct4), sl4⟩) (c4 : PySem.W.codeIn K cd4 "_law_take" = true) (k4 : PySem.W.keepIn K (.ref a4) = true)
    (n5 : PySem.W.nsIn K mainGlobals "_law_alike" = some (some (.ref a5))) (l5 : K.lookup a5 = some ⟨oc5, od5, .func (PySem.W.fnOf "_law_alike" "_law_alike" (defArgs s__law_alike) (defBody s__law_alike) (defScope s__law_alike) .none kV5 dc5 pm5 an5 cd5 ct5), sl5⟩) (c5 : PySem.W.codeIn K cd5 "_law_alike" = true) (k5 : PySem.W.keepIn K (.ref a5) = true)
    (n6 : PySem.W.nsIn K mainGlobals "_law_mixed" = some (some (.ref a6))) (l6 : K.lookup a6 = some ⟨oc6, od6, .func (PySem.W.fnOf "_law_mixed" "_law_mixed" (defArgs s__law_mixed) (defBody s__law_mixed) (defScope s__law_mixed) .none kV6 dc6 pm6 an6 cd6 ct6), sl6⟩) (c6 : PySem.W.codeIn K cd6 "_law_mixed" = true) (k6 : PySem.W.keepIn K (.ref a6) = true)
    (n7 : PySem.W.nsIn K mainGlobals "_law_names" = some (some (.ref a7))) (l7 : K.lookup a7 = some ⟨oc7, od7, .func (PySem.W.fnOf "_law_names" "_law_names" (defArgs s__law_names) (defBody s__law_names) (defScope s__law_names) .none kV7 dc7 pm7 an7 cd7 ct7), sl7⟩) (c7 : PySem.W.codeIn K cd7 "_law_names" = true) (k7 : PySem.W.keepIn K (.ref a7) = true)
    (n8 : PySem.W.nsIn K mainGlobals "_law_term" = some (some (.ref a8))) (l8 : K.lookup a8 = some ⟨oc8, od8, .func (PySem.W.fnOf "_law_term" "_law_term" (defArgs s__law_term) (defBody s__law_term) (defScope s__law_term) .none kV8 dc8 pm8 an8 cd8 ct8), sl8⟩) (c8 : PySem.W.codeIn K cd8 "_law_term" = true) (k8 : PySem.W.keepIn K (.ref a8) = true)
    (n9 : PySem.W.nsIn K mainGlobals "_law_put" = some (some (.ref a9))) (l9 : K.lookup a9 = some ⟨oc9, od9, .func (PySem.W.fnOf "_law_put" "_law_put" (defArgs s__law_put) (defBody s__law_put) (defScope s__law_put) .none kV9 dc9 pm9 an9 cd9 ct9), sl9⟩) (c9 : PySem.W.codeIn K cd9 "_law_put" = true) (k9 : PySem.W.keepIn K (.ref a9) = true)
    (n10 : PySem.W.nsIn K mainGlobals "_law_leaves" = some (some (.ref a10))) (l10 : K.lookup a10 = some ⟨oc10, od10, .func (PySem.W.fnOf "_law_leaves" "_law_leaves" (defArgs s__law_leaves) (defBody s__law_leaves) (defScope s__law_leaves) .none kV10 dc10 pm10 an10 cd10 ct10), sl10⟩) (c10 : PySem.W.codeIn K cd10 "_law_leaves" = true) (k10 : PySem.W.keepIn K (.ref a10) = true)
    (n11 : PySem.W.nsIn K mainGlobals "_law_built" = some (some (.ref a11))) (l11 : K.lookup a11 = some ⟨oc11, od11, .func (PySem.W.fnOf "_law_built" "_law_built" (defArgs s__law_built) (defBody s__law_built) (defScope s__law_built) .none kV11 dc11 pm11 an11 cd11 ct11), sl11⟩) (c11 : PySem.W.codeIn K cd11 "_law_built" = true) (k11 : PySem.W.keepIn K (.ref a11) = true)
    (n12 : PySem.W.nsIn K mainGlobals "_law_parts" = some (some (.ref a12))) (l12 : K.lookup a12 = some ⟨oc12, od12, .func (PySem.W.fnOf "_law_parts" "_law_parts" (defArgs s__law_parts) (defBody s__law_parts) (defScope s__law_parts) .none kV12 dc12 pm12 an12 cd12 ct12), sl12⟩) (c12 : PySem.W.codeIn K cd12 "_law_parts" = true) (k12 : PySem.W.keepIn K (.ref a12) = true)
    (n13 : PySem.W.nsIn K mainGlobals "_law_can" = some (some (.ref a13))) (l13 : K.lookup a13 = some ⟨oc13, od13, .func (PySem.W.fnOf "_law_can" "_law_can" (defArgs s__law_can) (defBody s__law_can) (defScope s__law_can) .none kV13 dc13 pm13 an13 cd13 ct13), sl13⟩) (c13 : PySem.W.codeIn K cd13 "_law_can" = true) (k13 : PySem.W.keepIn K (.ref a13) = true)
    (n14 : PySem.W.nsIn K mainGlobals "_law_values" = some (some (.ref a14))) (l14 : K.lookup a14 = some ⟨oc14, od14, .func (PySem.W.fnOf "_law_values" "_law_values" (defArgs s__law_values) (defBody s__law_values) (defScope s__law_values) .none kV14 dc14 pm14 an14 cd14 ct14), sl14⟩) (c14 : PySem.W.codeIn K cd14 "_law_values" = true) (k14 : PySem.W.keepIn K (.ref a14) = true)
    (n15 : PySem.W.nsIn K mainGlobals "law" = some (some (.ref a15))) (l15 : K.lookup a15 = some ⟨oc15, od15, .func (PySem.W.fnOf "law" "law" (defArgs s_law) (defBody s_law) (defScope s_law) .none kV15 dc15 pm15 an15 cd15 ct15), sl15⟩) (c15 : PySem.W.codeIn K cd15 "law" = true) (k15 : PySem.W.keepIn K (.ref a15) = true)
    (z_abs : PySem.W.nsIn K mainGlobals "abs" = some none)
    (z_all : PySem.W.nsIn K mainGlobals "all" = some none)
    (z_enumerate : PySem.W.nsIn K mainGlobals "enumerate" = some none)
    (z_int : PySem.W.nsIn K mainGlobals "int" = some none)
    (z_isinstance : PySem.W.nsIn K mainGlobals "isinstance" = some none)
    (z_len : PySem.W.nsIn K mainGlobals "len" = some none)
    (z_list : PySem.W.nsIn K mainGlobals "list" = some none)
    (z_range : PySem.W.nsIn K mainGlobals "range" = some none)
    (z_repr : PySem.W.nsIn K mainGlobals "repr" = some none)
    (z_reversed : PySem.W.nsIn K mainGlobals "reversed" = some none)
    (z_sorted : PySem.W.nsIn K mainGlobals "sorted" = some none)
    (z_str : PySem.W.nsIn K mainGlobals "str" = some none)
    (z_tuple : PySem.W.nsIn K mainGlobals "tuple" = some none)
    (z_zip : PySem.W.nsIn K mainGlobals "zip" = some none)
    : ∃ fd : FuncData, (∀ (s : Shared) (u : Value), BindsTo s fd ⟨[u], []⟩ [("_law_script", u)]) ∧ ∀ bs : Heap, K.In bs → bs.Ns mainGlobals mg → FnG P w K mg bs 64 fa fd ["_law_script"] (spLaw K) := by
  have e := hfa.symm.trans (PySem.W.mg_of X G n15)
  cases e
  have F0 := fun_mk (st := s_laid_out) l0 c0 k0
  have F1 := fun_mk (st := s_shared) l1 c1 k1
  have F2 := fun_mk (st := s_built) l2 c2 k2
  have F3 := fun_mk (st := s__law_bag) l3 c3 k3
  have F4 := fun_mk (st := s__law_take) l4 c4 k4
  have F5 := fun_mk (st := s__law_alike) l5 c5 k5
  have F6 := fun_mk (st := s__law_mixed) l6 c6 k6
  have F7 := fun_mk (st := s__law_names) l7 c7 k7
  have F8 := fun_mk (st := s__law_term) l8 c8 k8
  have F9 := fun_mk (st := s__law_put) l9 c9 k9
  have F10 := fun_mk (st := s__law_leaves) l10 c10 k10
  have F11 := fun_mk (st := s__law_built) l11 c11 k11
  have F12 := fun_mk (st := s__law_parts) l12 c12 k12
  have F13 := fun_mk (st := s__law_can) l13 c13 k13
  have F14 := fun_mk (st := s__law_values) l14 c14 k14
  have F15 := fun_mk (st := s_law) l15 c15 k15
  exact ⟨_, fun s u => .of_eq rfl, fun bs _ _ => ok_law { a_laid_out := a0, d_laid_out := _, F_laid_out := F0, f_laid_out := PySem.W.mg_of X G n0, b_laid_out := F0.binds (ps := ["terms"]) (fun _ _ _ _ _ _ us hl => match us, hl with | [_], _ => rfl), a_shared := a1, d_shared := _, F_shared := F1, f_shared := PySem.W.mg_of X G n1, b_shared := F1.binds (ps := ["terms"]) (fun _ _ _ _ _ _ us hl => match us, hl with | [_], _ => rfl), a_built := a2, d_built := _, F_built := F2, f_built := PySem.W.mg_of X G n2, b_built := F2.binds (ps := ["term", "values", "keep"]) (fun _ _ _ _ _ _ us hl => match us, hl with | [_, _, _], _ => rfl), a__law_bag := a3, d__law_bag := _, F__law_bag := F3, f__law_bag := PySem.W.mg_of X G n3, b__law_bag := F3.binds (ps := ["_law_script"]) (fun _ _ _ _ _ _ us hl => match us, hl with | [_], _ => rfl), a__law_take := a4, d__law_take := _, F__law_take := F4, f__law_take := PySem.W.mg_of X G n4, b__law_take := F4.binds (ps := ["_law_bag_here", "_law_many"]) (fun _ _ _ _ _ _ us hl => match us, hl with | [_, _], _ => rfl), a__law_alike := a5, d__law_alike := _, F__law_alike := F5, f__law_alike := PySem.W.mg_of X G n5, b__law_alike := F5.binds (ps := ["_law_found", "_law_due"]) (fun _ _ _ _ _ _ us hl => match us, hl with | [_, _], _ => rfl), a__law_mixed := a6, d__law_mixed := _, F__law_mixed := F6, f__law_mixed := PySem.W.mg_of X G n6, b__law_mixed := F6.binds (ps := ["_law_bag_here", "_law_things"]) (fun _ _ _ _ _ _ us hl => match us, hl with | [_, _], _ => rfl), a__law_names := a7, d__law_names := _, F__law_names := F7, f__law_names := PySem.W.mg_of X G n7, b__law_names := F7.binds (ps := ["_law_bag_here", "_law_many"]) (fun _ _ _ _ _ _ us hl => match us, hl with | [_, _], _ => rfl), a__law_term := a8, d__law_term := _, F__law_term := F8, f__law_term := PySem.W.mg_of X G n8, b__law_term := F8.binds (ps := ["_law_bag_here", "_law_names_here", "_law_many", "_law_deep"]) (fun _ _ _ _ _ _ us hl => match us, hl with | [_, _, _, _], _ => rfl), a__law_put := a9, d__law_put := _, F__law_put := F9, f__law_put := PySem.W.mg_of X G n9, b__law_put := F9.binds (ps := ["_law_term_here", "_law_values_here"]) (fun _ _ _ _ _ _ us hl => match us, hl with | [_, _], _ => rfl), a__law_leaves := a10, d__law_leaves := _, F__law_leaves := F10, f__law_leaves := PySem.W.mg_of X G n10, b__law_leaves := F10.binds (ps := ["_law_terms"]) (fun _ _ _ _ _ _ us hl => match us, hl with | [_], _ => rfl), a__law_built := a11, d__law_built := _, F__law_built := F11, f__law_built := PySem.W.mg_of X G n11, b__law_built := F11.binds (ps := ["_law_term_here", "_law_values_here", "_law_keep"]) (fun _ _ _ _ _ _ us hl => match us, hl with | [_, _, _], _ => rfl), a__law_parts := a12, d__law_parts := _, F__law_parts := F12, f__law_parts := PySem.W.mg_of X G n12, b__law_parts := F12.binds (ps := ["_law_term_here"]) (fun _ _ _ _ _ _ us hl => match us, hl with | [_], _ => rfl), a__law_can := a13, d__law_can := _, F__law_can := F13, f__law_can := PySem.W.mg_of X G n13, b__law_can := F13.binds (ps := ["_law_terms", "_law_values_here", "_law_keep"]) (fun _ _ _ _ _ _ us hl => match us, hl with | [_, _, _], _ => rfl), a__law_values := a14, d__law_values := _, F__law_values := F14, f__law_values := PySem.W.mg_of X G n14, b__law_values := F14.binds (ps := ["_law_bag_here", "_law_names_here", "_law_terms"]) (fun _ _ _ _ _ _ us hl => match us, hl with | [_, _, _], _ => rfl), a_law := fa, d_law := _, F_law := F15, f_law := PySem.W.mg_of X G n15, b_law := F15.binds (ps := ["_law_script"]) (fun _ _ _ _ _ _ us hl => match us, hl with | [_], _ => rfl), m_abs := PySem.W.mg_none_of X G z_abs, m_all := PySem.W.mg_none_of X G z_all, m_enumerate := PySem.W.mg_none_of X G z_enumerate, m_int := PySem.W.mg_none_of X G z_int, m_isinstance := PySem.W.mg_none_of X G z_isinstance, m_len := PySem.W.mg_none_of X G z_len, m_list := PySem.W.mg_none_of X G z_list, m_range := PySem.W.mg_none_of X G z_range, m_repr := PySem.W.mg_none_of X G z_repr, m_reversed := PySem.W.mg_none_of X G z_reversed, m_sorted := PySem.W.mg_none_of X G z_sorted, m_str := PySem.W.mg_none_of X G z_str, m_tuple := PySem.W.mg_none_of X G z_tuple, m_zip := PySem.W.mg_none_of X G z_zip }⟩
theorem walk {l : PySem.W.OpenLaw} {q : Program} {loose : List Str} {XP : (Str → Option Value) → Heap → Prop} {YP : World → Heap → Prop} {d : DefRec} {K : Params → PySem.W.Frag} (hn : l.most = some 63) (hdf : d.params.defaults = [])
    (hY : ∀ (w : World) (h : Heap), YP w h → (K w.params).In h)
    (F : ∀ (w : World) (mg : Str → Option Value) (fa : Addr) (h : Heap), (K w.params).In h → h.Ns mainGlobals mg → mg d.name = some (.ref fa) →
      ∃ fd : FuncData, (∀ (s : Shared) (u : Value), BindsTo s fd ⟨[u], []⟩ [("_law_script", u)]) ∧ ∀ bs : Heap, (K w.params).In bs → bs.Ns mainGlobals mg → FnG l.prog w (K w.params) mg bs 64 fa fd ["_law_script"] (spLaw (K w.params))) :
    PySem.W.WalkO q loose XP YP l.row.toRowW d [] (fun f vs => PySem.call f vs) :=
  Fm.walkG (n := 63) (k := 64) (x := "_law_script") (sp := fun w => spLaw (K w.params)) hn (by decide) hdf ⟨rfl, by decide, by decide⟩ hY F fun _ _ a ns hl hS => ⟨a, ns, rfl, hS, hl, fun _ => rfl⟩
end K13
open PySem PySem.W PyProof.Rows in
set_option maxRecDepth 100000 in
set_option maxHeartbeats 0 in
theorem PySem.Challenge.cw_framemoves_k13_whole_terms_built_holds : PySem.Challenge.rw_framemoves_k13_whole_terms_built.Holds := by
  w_on; o_law; k_head; (case hw => w_witness2)
  k_fill
  refine K13.walk (l := PySem.Challenge.rw_framemoves_k13_whole_terms_built) rfl rfl (fun w h Y => PySem.W.kIn_of Y) ?F
  case F =>
    intro w mg fa h KX G hmg
    refine' K13.all_mk KX G hmg ?n0 ?l0 ?c0 ?k0 ?n1 ?l1 ?c1 ?k1 ?n2 ?l2 ?c2 ?k2 ?n3 ?l3 ?c3 ?k3 ?n4 ?l4 ?c4 ?k4 ?n5 ?l5 ?c5 ?k5 ?n6 ?l6 ?c6 ?k6 ?n7 ?l7 ?c7 ?k7 ?n8 ?l8 ?c8 ?k8 ?n9 ?l9 ?c9 ?k9 ?n10 ?l10 ?c10 ?k10 ?n11 ?l11 ?c11 ?k11 ?n12 ?l12 ?c12 ?k12 ?n13 ?l13 ?c13 ?k13 ?n14 ?l14 ?c14 ?k14 ?n15 ?l15 ?c15 ?k15 ?z_abs ?z_all ?z_enumerate ?z_int ?z_isinstance ?z_len ?z_list ?z_range ?z_repr ?z_reversed ?z_sorted ?z_str ?z_tuple ?z_zip
    (case n0 => k_is)
    (case l0 => k_is)
    (case c0 => k_is)
    (case k0 => k_is)
    (case n1 => k_is)
    (case l1 => k_is)
    (case c1 => k_is)
    (case k1 => k_is)
    (case n2 => k_is)
    (case l2 => k_is)
    (case c2 => k_is)
    (case k2 => k_is)
    (case n3 => k_is)
    (case l3 => k_is)
    (case c3 => k_is)
    (case k3 => k_is)
    (case n4 => k_is)
    (case l4 => k_is)
    (case c4 => k_is)
    (case k4 => k_is)
    (case n5 => k_is)
    (case l5 => k_is)
    (case c5 => k_is)
    (case k5 => k_is)
    (case n6 => k_is)
    (case l6 => k_is)
    (case c6 => k_is)
    (case k6 => k_is)
    (case n7 => k_is)
    (case l7 => k_is)
    (case c7 => k_is)
    (case k7 => k_is)
    (case n8 => k_is)
    (case l8 => k_is)
    (case c8 => k_is)
    (case k8 => k_is)
    (case n9 => k_is)
    (case l9 => k_is)
    (case c9 => k_is)
    (case k9 => k_is)
    (case n10 => k_is)
    (case l10 => k_is)
    (case c10 => k_is)
    (case k10 => k_is)
    (case n11 => k_is)
    (case l11 => k_is)
    (case c11 => k_is)
    (case k11 => k_is)
    (case n12 => k_is)
    (case l12 => k_is)
    (case c12 => k_is)
    (case k12 => k_is)
    (case n13 => k_is)
    (case l13 => k_is)
    (case c13 => k_is)
    (case k13 => k_is)
    (case n14 => k_is)
    (case l14 => k_is)
    (case c14 => k_is)
    (case k14 => k_is)
    (case n15 => k_is)
    (case l15 => k_is)
    (case c15 => k_is)
    (case k15 => k_is)
    (case z_abs => k_is)
    (case z_all => k_is)
    (case z_enumerate => k_is)
    (case z_int => k_is)
    (case z_isinstance => k_is)
    (case z_len => k_is)
    (case z_list => k_is)
    (case z_range => k_is)
    (case z_repr => k_is)
    (case z_reversed => k_is)
    (case z_sorted => k_is)
    (case z_str => k_is)
    (case z_tuple => k_is)
    (case z_zip => k_is)
