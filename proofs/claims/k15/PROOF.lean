import PyProof.Rows.All
import Wide.All
import OpenK.AllK
import Wide.FinOn
import HandS.ForMost
import HandS.IsInst
import HandS.Sort
import HandS.More
import HandS.TupAny
import HandS.TupMul
import HandS.Walk
import HandS.Evl
import HandS.Wide
import PyProof.ListMulRoad
import PyProof.FactsAll.tuple_2
import HandS.Style
import HandS.SetKeys
import HandS.Conv
import HandS.Rev
import HandS.Iter
import HandS.DictTup
import PyProof.DictMoreH
import HandS.TupLen
import HandS.WordsDict
import HandS.SetBool
import HandS.Strs
import HandS.ForSpec
import KE.OsGo
import Open.SpecLaws
import HandS.ExcValue
import HandS.ExcIs
import HandS.ExcField
import KE.KExcIs
import HandS.OwnEq
import HandS.DeepEq
import PyProof.ReprLen
import HandS.SetFor
import PyProof.ReprReads
import HandS.DictComp
import HandS.ListItems
import KE.KSortTupAny
import HandS.Property
import KE.GoesEnum
import KE.KItemsList
import HandS.FStr
import HandS.Deep
import HandS.SortRule
import KE.KDictSum
import HandS.Zip
import PySem.Challenge.RW_framemoves_k15_whole_least_patterns
set_option Elab.async false
set_option linter.all false
set_option maxRecDepth 100000
set_option maxHeartbeats 2000000
/-! Fm: defs that are run where nothing is being shown (no guard on the stack), so that repr tells the whole text. -/
namespace Fm
open PySem PySem.Spec PyProof.Rows L2

/-- a def's promise, kept where no guard stands; no exception leaves it -/
structure FnG (P : Program) (w : World) (K : PySem.W.Frag) (mg : Str → Option Value) (bs : Heap) (k : Nat) (f : Addr) (fd : FuncData) (ps : List Str) (sp : Sp) : Prop where
  many : ∀ vs H Q E, sp vs H Q E → vs.length = ps.length
  runs : ∀ (A : Around) (fr : List Env) (s : Shared) (H : Hp) (ar : Args) (us : List Value) (vs : List V) (Q : VK),
    Room k A → A.guards = some [] → Env0 P w K mg bs A fr s H → BindsTo s fd ar (ps.zip us) → Vals vs us → sp vs H Q E0 → codeAny (model P w) A (.call (.ref f) ar) (CR CX0 fr P w H s Q E0) s
section
variable {P : Program} {w : World} {K : PySem.W.Frag} {mg : Str → Option Value} {bs : Heap} {k : Nat}
theorem FnG.of {f : Addr} {fd : FuncData} {ps : List Str} {sp : Sp} (F : FnOk P w K mg bs CX0 k f fd ps sp) : FnG P w K mg bs k f fd ps sp :=
  ⟨F.len, fun A fr s H ar us vs Q r _ e b v h => F.run A fr s H ar us vs Q E0 r e b v h⟩
/-- the rule for such a def -/
theorem fnG {x qual : Str} {st : Stmt} {f : Addr} {fd : FuncData} {N ps : List Str} {sp : Sp} (F : Fun K x qual st f fd) (S : FnScope N ps (defScope st)) (len : ∀ vs H Q E, sp vs H Q E → vs.length = ps.length)
    (body : ∀ (cdv : Value) (A : Around) (fr : List Env) (s : Shared) (H : Hp) (vs : List V) (Q : VK), A.guards = some [] → Room k (A.deeper (envOfC qual (defScope st) s.heap.objs.size f cdv)) → sp vs H Q E0 →
      ∃ t, PSs (cxOf CX0 P w K mg bs N qual (defScope st) f cdv A fr s H E0).nox (defBody st) t ∧ t { nx := fun _ H' => Q .non H', rt := Q } (start N vs) H) : FnG P w K mg bs (k + 1) f fd ps sp := by
  obtain ⟨oc, od, kV, doc, pm, an, cdv, ct, osl, rfl, lk, hcd⟩ := F.ex
  refine ⟨len, ?_⟩
  intro A fr s H ar us vs Q room gd env bound rel hyp
  have nvs := len _ _ _ _ hyp
  have kin : K.In s.heap := env.mod.kin.keeps (fun b o q => (env.bs b o q).1)
  have nl : s.heap.NoLimit := env.mod.nolimit.keeps (fun b o q => (env.bs b o q).1)
  have kinds : ∀ y ∈ ps.zip us, (defScope st).names.lookup y.1 = some .local ∨ ((defScope st).names.lookup y.1 = some .cell ∧
      ((cellsFrom (s.heap.objs.size + 1) (defScope st).names []).lookup y.1).isSome = true) := by
    rintro ⟨n, v⟩ hy
    have hp := S.par n (List.of_mem_zip hy).1
    cases hp with
    | inl q => exact Or.inl q
    | inr q => exact Or.inr ⟨q, PySem.W.cellsFrom_some _ _ _ (Or.inl q)⟩
  refine codeAny_call_function room.depth (kin _ _ lk) rfl S.co S.gen rfl (PySem.W.codeRec_of kin hcd) (bound _ _ _ _ ?_)
  refine wpAny_newFunctionEnv_cells S.kind kinds fun env1 he s1 x1 => ?_
  subst he
  refine ⟨nl.keeps x1.toInCall.keep, codeAny_func ?_⟩
  obtain ⟨t, ht, hq⟩ := body cdv A fr s H vs Q gd (room.deeper _) hyp
  have J := inv_start (CX := CX0) (E := E0) S room.hd env nvs rel x1
  refine wpAny_mono (ht.nox.run [] s1 (start N vs) H _ J hq) (fun fl s' hs => ?_) (fun _ _ z => z)
  cases fl with
  | ret u =>
    obtain ⟨v, σ', H', J2, rv, q⟩ := hs
    exact ⟨v, H', J2.os, J2.bare, J2.base, J2.hok, rv, q⟩
  | next =>
    obtain ⟨σ', H', J2, q⟩ := hs
    exact ⟨V.non, H', J2.os, J2.bare, J2.base, J2.hok, rfl, q⟩
  | brk =>
    obtain ⟨_, _, _, q⟩ := hs
    exact q.elim
  | cont =>
    obtain ⟨_, _, _, q⟩ := hs
    exact q.elim
end
section
variable {X : Cx} {k : Nat} {f : Addr} {fd : FuncData} {ps : List Str} {sp : Sp} {x : Str} {p pos : Pos} {e : Expr} {es : List Expr} {t : TA}
theorem goG {pins : List (Addr × Obj)} {σ : L2.St} {H : Hp} {s : Shared} {Q : VK} {us : List Value} {vs : List V} (F : FnG X.prog X.w X.K X.mg X.base k f fd ps sp) (hr : Room k X.A) (gd : X.A.guards = some []) (hb : Binds X.K fd ps [])
    (I : Inv X pins σ H s) (r : Vals vs us) (h : sp vs H Q E0) : wpAny (model X.prog X.w) X.A (call (.ref f) us) (EP X pins σ Q) X.xe s := by
  have n1 := F.many _ _ _ _ h
  have n2 : (us ++ []).length = ps.length := by rw [List.append_nil, ← r.length, n1]
  have b1 := hb s us I.kIn n2
  rw [List.append_nil] at b1
  refine wpAny_call (codeAny_mono (F.runs X.A X.stack s H ⟨us, []⟩ us vs Q hr gd I.env0 b1 r h) fun res s' hq => ?_)
  cases res with
  | error e => exact False.elim hq
  | ok fl =>
    cases fl with
    | ret u => exact I.after hq
    | next => exact False.elim hq
    | brk => exact False.elim hq
    | cont => exact False.elim hq
/-- f(e, ..) -/
theorem pe_callG (F : FnG X.prog X.w X.K X.mg X.base k f fd ps sp) (hr : Room k X.A) (gd : X.A.guards = some []) (hg : Gl X x) (hm : X.mg x = some (.ref f)) (kp : PySem.W.keepIn X.K (.ref f) = true) (hb : Binds X.K fd ps [])
    (ha : PA X (e :: es) t) (n0 : (x == ("__debug__" : Str)) = false := by decide) (n1 : starEach (e :: es) X.env = (false, eval e X.env) :: starEach es X.env := by rfl) (n2 : (backTo pos (starEach es X.env)).any (·.1) = false := by rfl) :
    PE X (.Call (.Name x p) (e :: es) [] pos) (fun σ H Q => t σ H fun vs H1 => sp vs H1 Q E0) := by
  constructor
  intro pins s σ H Q I h
  refine wpAny_Call_Name_kw (ld_glob I hg hm ?_ n0)
  refine PySem.W.callWith_K (h₀ := X.base) I.ok.mod.kin kp (thn (ha.run pos pins s σ H _ I h) ?_) n1 n2
  rintro us s1 ⟨vs, H1, I1, r, q⟩
  exact ⟨I1.kIn, goG F hr gd hb I1 r q⟩
end

/-! ### the end of a law's row, for a def that is run where no guard stands -/
section
variable {P : Program} {w : World} {K : PySem.W.Frag} {mg mb : Str → Option Value} {k : Nat}
theorem lawG {fa a : Addr} {fd : FuncData} {x : Str} {sp : Sp} {s1 : Shared} {vs : List Value} {ns : List Int}
    (kin : K.In s1.heap) (g0 : s1.heap.Ns mainGlobals mg) (g1 : s1.heap.Ns builtinsNs mb) (g2 : ∀ y : Str, y ≠ "__name__" → mb y = bootBuiltins y) (nl : s1.heap.NoLimit) (gens : s1.gens = #[])
    (obj : s1.heap.get? a = some { cls := .type "list", data := .seq vs.toArray }) (hin : IntsAre vs ns) (len : ns.length ≤ sizeLine) (room : Room k callerA)
    (F : ∀ bs : Heap, K.In bs → bs.Ns mainGlobals mg → FnG P w K mg bs k fa fd [x] sp) (bound : ∀ (s : Shared) (u : Value), BindsTo s fd ⟨[u], []⟩ [(x, u)])
    (hsp : ∀ H : Hp, SqL K H a (ns.map V.int) → sp [.ref a] H (fun v _ => v = .bl true) E0) :
    codeAny (model P w) callerA (.call (.ref fa) ⟨[.ref a], []⟩) (fun r s' => r = .ok (.ret (.bool true)) ∧ OldK s1.heap s'.heap ∧ s'.os = s1.os ∧ AllBare s'.gens) s1 := by
  have rv := vals_ints hin
  have nvs := hin.length
  -- over any abstract heap that tracks at most the script, frozen
  have main : ∀ H : Hp, (∀ b, H b = none ∨ ∃ o xs, H b = some (.frz o (.lst xs))) → SqL K H a (ns.map V.int) → HOk P w H s1.heap → (∀ b, H b ≠ none → b = a) → (H a ≠ none → K.lookup a = none) →
      codeAny (model P w) callerA (.call (.ref fa) ⟨[.ref a], []⟩) (fun r s' => r = .ok (.ret (.bool true)) ∧ OldK s1.heap s'.heap ∧ s'.os = s1.os ∧ AllBare s'.gens) s1 := by
    intro H only hS hok hA hK
    have hid : ∀ {b : Addr} {o : Obj}, s1.heap.get? b = some o → H b = none → (hidT s1.heap H).get? b = some o := fun q n => hidT_get q n
    have dicts : ∀ {b : Addr} {o : Obj} {es : Array DictEntry} {ep : Nat}, s1.heap.get? b = some o → o.data = .dict es ep → H b = none := by
      intro b o es ep q d
      cases z : H b with
      | none => rfl
      | some u =>
        have eb : b = a := hA b (by rw [z]; exact fun y => nomatch y)
        rw [eb, obj] at q
        cases q
        exact nomatch (show Data.seq vs.toArray _ = Data.dict es ep from d)
    have nss : ∀ {b : Addr} {m : Str → Option Value}, s1.heap.Ns b m → (hidT s1.heap H).Ns b m := by
      rintro b m ⟨o, es, ep, q, d, r⟩
      exact ⟨o, es, ep, hid q (dicts q d), d, r⟩
    have kinH : K.In (hidT s1.heap H) := by
      intro b o q
      refine hid (kin b o q) ?_
      cases z : H b with
      | none => rfl
      | some u =>
        have eb : b = a := hA b (by rw [z]; exact fun y => nomatch y)
        subst eb
        rw [hK (by rw [z]; exact fun y => nomatch y)] at q
        cases q
    have hM : Mod K mg (hidT s1.heap H) := by
      obtain ⟨mc, h1, h2⟩ := nl
      exact ⟨kinH, nss g0, ⟨mb, nss g1, g2⟩, ⟨mc, nss h1, h2⟩⟩
    have env : Env0 P w K mg (hidT s1.heap H) callerA [] s1 H :=
      ⟨rfl, hM, fun b o q => of_hidT q, Nat.le_of_eq (hidT_size _ _), trivial, fun b hb => (by simp [frs] at hb), hok, .of_eq gens⟩
    have fin := (F _ kinH (nss g0)).runs callerA [] s1 H ⟨[.ref a], []⟩ [.ref a] [.ref a] _ room rfl env (bound s1 (.ref a)) (.cons rfl .nil) (hsp H hS)
    refine codeAny_mono fin fun r s' h => ?_
    match r, h with
    | .ok (.ret u), h =>
      obtain ⟨v, H', os, bare, un, hok', r', q⟩ := h
      have q' : v = .bl true := q
      subst q'
      obtain rfl : u = Value.bool true := r'
      refine ⟨rfl, OldK.of_keep (fun b o e => ?_), os, bare⟩
      cases z : H b with
      | none => exact un.keep b o e z (by simp [frs]) (by simp)
      | some y =>
        rcases only b with z1 | ⟨ob, xs, z1⟩
        · rw [z] at z1
          cases z1
        · have e1 := (hok b _ z1).1
          have e2 := (hok' b _ (un.frzs b ob _ z1)).1
          rw [e] at e1
          cases e1
          exact e2
  cases hk : K.lookup a with
  | some o =>
    have e := kin a o hk
    rw [obj] at e
    cases e
    refine main (fun _ => none) (fun _ => Or.inl rfl) (Or.inr ⟨_, vs.toArray, _, hk, rfl, rfl, rfl, ?_, ?_⟩) (fun b u z => nomatch z) (fun b z => absurd rfl z) (fun z => absurd rfl z)
    · rw [List.size_toArray, nvs]
      exact len
    · simpa using rv
  | none =>
    refine main (fun b => if b = a then some (.frz { cls := .type "list", data := .seq vs.toArray } (.lst (ns.map V.int))) else none) ?_ ?_ ?_ ?_ (fun _ => hk)
    · intro b
      by_cases hb : b = a
      · exact Or.inr ⟨_, _, if_pos hb⟩
      · exact Or.inl (if_neg hb)
    · exact Or.inl (Or.inr ⟨{ cls := .type "list", data := .seq vs.toArray }, if_pos rfl⟩)
    · intro b u z
      by_cases hb : b = a
      · have z1 := (if_pos hb).symm.trans z
        cases z1
        rw [hb]
        exact ⟨obj, by rw [List.length_map]; exact len, vs, _, rv, obj⟩
      · have z1 := (if_neg hb).symm.trans z
        cases z1
    · intro b z
      by_cases hb : b = a
      · exact hb
      · exact absurd (if_neg hb) z
end
theorem walkG {l : PySem.W.OpenLaw} {n k : Nat} {q : Program} {loose : List Str} {XP : (Str → Option Value) → Heap → Prop} {YP : World → Heap → Prop} {d : DefRec} {K : Params → PySem.W.Frag} {sp : World → Sp} {x : Str}
    (hn : l.most = some n) (n2 : n ≤ sizeLine) (hdf : d.params.defaults = []) (room : Room k callerA) (hY : ∀ (w : World) (h : Heap), YP w h → (K w.params).In h)
    (F : ∀ (w : World) (mg : Str → Option Value) (fa : Addr) (h : Heap), (K w.params).In h → h.Ns mainGlobals mg → mg d.name = some (.ref fa) →
      ∃ fd : FuncData, (∀ (s : Shared) (u : Value), BindsTo s fd ⟨[u], []⟩ [(x, u)]) ∧ ∀ bs : Heap, (K w.params).In bs → bs.Ns mainGlobals mg → FnG l.prog w (K w.params) mg bs k fa fd [x] (sp w))
    (hsp : ∀ (w : World) (H : Hp) (a : Addr) (ns : List Int), ns.length ≤ n → SqL (K w.params) H a (ns.map V.int) → sp w [.ref a] H (fun v _ => v = .bl true) E0) :
    PySem.W.WalkO q loose XP YP l.row.toRowW d [] (fun f vs => PySem.call f vs) := by
  refine Att.attach_call hn hdf ?_
  intro w s0 s1 mg mb fa o pm cd doc a vs ns G Y ho hd hcd hmg hobj hints hlen hg
  obtain ⟨fd, hb, hF⟩ := F w mg fa _ (hY w _ Y) G.T.g hmg
  exact lawG (hY w _ Y) G.T.g G.T.b G.T.builtins G.T.nolimit hg hobj hints (Nat.le_trans hlen n2) room hF hb (fun H hS => hsp w H a ns hlen hS)

/-! ### repr of data -/
section
variable {X : Cx}
def rRepr (K : PySem.W.Frag) : List V → Hp → VK → Prop := fun vs H Q => ∃ v d, vs = [v] ∧ Dp K H v d ∧ d.showable = true ∧ d.hasDict = false ∧ d.depth ≤ 60 ∧ d.shown.length ≤ sizeLine ∧ Q (.str d.shown) H
theorem call_repr {k : Nat} (hr : Room k X.A) (gd : X.A.guards = some []) : CallR X (.builtin "repr") (rRepr X.K) := by
  intro pins s σ H xs us Q I r h
  obtain ⟨v, d, rfl, hd, hs, hn, hz, hl, q⟩ := h
  obtain ⟨u, rfl, ru⟩ := r.one
  obtain ⟨as, rd⟩ := Dp.reads I d v u hd ru
  have hu := hr.units
  have done : ∀ (tk : Tok) (t : Nat), EP X pins σ Q (.str d.shown tk) { s with toks := t } := fun tk t => ⟨.str d.shown, H, I.tok _, ⟨_, rfl⟩, q⟩
  cases hd with
  | non =>
    cases ru
    exact PySem.P.repr_of_none (done _ _)
  | bl b => cases b <;> (cases ru; exact PySem.P.repr_of_bool (done _ _))
  | int i =>
    obtain ⟨t, rfl⟩ := ru
    exact PySem.P.repr_of_int (by simpa [PyData.showable] using hs) (done _ _)
  | str z =>
    obtain ⟨t, rfl⟩ := ru
    exact PySem.P.repr_of_str (done _ _) hl
  | lst a b =>
    cases ru
    refine repr_of_reads' rd hs (PyData.noDict_hsm hn) gd (by omega) (fun _ _ e => e) (fun h' u tk hk => ?_) hl
    exact ⟨.str _, H, I.un (t' := tk) (Un.kept hk) (I.hok.kept hk), ⟨u, rfl⟩, q⟩
  | tup a b =>
    cases ru
    refine repr_of_reads' rd hs (PyData.noDict_hsm hn) gd (by omega) (fun _ _ e => e) (fun h' u tk hk => ?_) hl
    exact ⟨.str _, H, I.un (t' := tk) (Un.kept hk) (I.hok.kept hk), ⟨u, rfl⟩, q⟩
end

/-! ### further rules -/

theorem ext_tup (l : Addr) (xs : Array Value) (n : Nat) (b : Addr) (ys : Array Value) (m : Nat) (dd : Option Addr) (sl : Array (Option Value)) (c0 : ¬ (!xs.isEmpty && Builtin.List.listTooLong (xs.size + ys.size)) = true) (c1 : xs.size ≤ sizeLine)
    (c2 : xs.size + ys.size ≤ sizeLine + 1) :
    Meets (Builtin.«list.extend» ⟨[.ref l, .ref b], []⟩) (fun _ R s => s.heap.get? l = some { cls := .type "list", data := .seq xs n } ∧ s.heap.get? b = some { cls := .type "tuple", dict := dd, data := .seq ys m, slots := sl } ∧
      R (.ok (.ret Value.none)) { s with heap := s.heap.update l (Obj.mapSeq fun z => z ++ ys), toks := s.toks }) :=
  .of_wp fun prog w A R s h => by
    obtain ⟨hp, g, d, tk, os⟩ := s
    obtain ⟨hl, hb, h⟩ := h
    have i1 := AutoSeq1.idx_int
    have i2 := AutoSeq1.sub_tuple_tuple
    have i3 := AutoSeq1.sub_list_list
    have i4 := AutoSeq1.sub_tuple_list
    have i5 := AutoSeq1.sub_list_tuple
    have zz : (xs ++ ys).size ≤ sizeLine + 1 := by
      rw [Array.size_append]
      exact c2
    wp_walk using (wpAny_updateSeq hl rfl (hz := c1) (_hz' := zz)), wpAny_loadPart' hl, wpAny_loadPart' hb
    exact ⟨_, rfl, h⟩
section
variable {X : Cx}
/-- xs.extend(t), t a tuple -/
def rExtT (K : PySem.W.Frag) : V → List V → Hp → VK → Prop := fun x vs H Q => ∃ l b xs zs, x = .ref l ∧ vs = [.ref b] ∧ H l = some (.lst xs) ∧ SqT K H b zs ∧ xs.length + zs.length ≤ sizeLine ∧ Q .non (upd H l (.lst (xs ++ zs)))
theorem mt_extT : MtM X "list.extend" (rExtT X.K) := by
  intro pins s σ H x vs v us Q I rx rv h
  obtain ⟨l, b, xs, zs, rfl, rfl, hH, hB, hz, q⟩ := h
  cases rx
  obtain ⟨u, rfl, ru⟩ := rv.one
  cases ru
  obtain ⟨z, i1, n, r1, l1, e1⟩ := I.lstM hH
  obtain ⟨i2, r2, ⟨⟨cls, dd, data, sl⟩, e2, c2, n2, d2⟩, _⟩ := I.tuple hB
  simp only at c2 d2
  subst c2 d2
  have l2 := r2.length
  have sz : i1.toArray.size + i2.toArray.size ≤ sizeLine := by
    rw [List.size_toArray, List.size_toArray]
    omega
  have long : ¬ (!i1.toArray.isEmpty && Builtin.List.listTooLong (i1.toArray.size + i2.toArray.size)) = true := by
    rw [notLongL sz, Bool.and_false]
    exact Bool.false_ne_true
  refine call_meets F.slot_list_extend ⟨_, e1, rfl⟩ F.entry_list_extend (F.args_list_extend_2 _ _) (ext_tup l i1.toArray n b i2.toArray n2 dd sl long (by rw [List.size_toArray]; omega) (by omega)) ⟨e1, e2, ?_⟩
  refine ⟨.non, _, I.lset (its' := i1 ++ i2) hH e1 (by simp) (r1.append r2) ?_, rfl, q⟩
  rw [List.length_append]
  omega

/-- xs[i] as it is read by xs[i] op= e -/
def gL (K : PySem.W.Frag) : V → V → Hp → VK → Prop := fun x y H Q => ∃ l xs i v, x = .ref l ∧ y = .int i ∧ H l = some (.lst xs) ∧ 0 ≤ i ∧ xs[i.toNat]? = some v ∧ Q v H
theorem pg_list : PGet X (gL X.K) := by
  intro pins s σ H o i ov iv Q I ro ri h
  obtain ⟨l, xs, j, v, rfl, rfl, hH, h0, hv, q⟩ := h
  cases ro
  obtain ⟨t, rfl⟩ := ri
  obtain ⟨z, i1, n, r1, l1, e1⟩ := I.lstM hH
  obtain ⟨u, hu, ru⟩ := r1.get hv
  have lt := (List.getElem?_eq_some_iff.mp hv).1
  have b1 : (2 : Int) ^ 63 = 9223372036854775808 := by decide
  have b2 := sizeLine_eq
  exact wpAny_getItem_list ⟨_, e1, rfl, _, rfl⟩ h0 (by omega) (by simpa using hu) ⟨v, H, I, ru, q⟩

/-- i not in range(a, b) -/
theorem op_ni_rng : OpR X (compareOp .NotIn) (fun x y H Q => ∃ i a lo hi, x = V.int i ∧ y = V.ref a ∧ H a = some (.rng lo hi) ∧ Q (.bl (!decide (lo ≤ i ∧ i < hi))) H) := by
  intro pins s σ H x y v u Q I rx ry h
  obtain ⟨i, a, lo, hi, rfl, rfl, ha, q⟩ := h
  obtain ⟨k, rfl⟩ := rx
  cases (show u = Value.ref a from ry)
  obtain ⟨t1, t2, t3, ho⟩ := I.hok a _ ha
  have e1 : s.TypeIs (.ref a) "range" := ⟨_, ho, rfl⟩
  show wpAny _ _ (do return Value.bool (!(← contains (Value.ref a) (Value.int i k)))) _ _ s
  refine wpAny_bind (wpAny_contains_slot e1 F.slot_range_contains (call_meets F.slot_range_contains e1 F.entry_range_contains (F.args_range_contains_2 _ _) (q_contains a lo hi i t1 t2 t3 k) ⟨ho, wpAny_truthy_bool (wpAny_pure ?_)⟩))
  refine ⟨.bl _, H, I, rfl, ?_⟩
  rw [place1]
  exact q
/-- is not True, is not False, of an int or a bool -/
def rNotB2 : R2 := fun x y H Q => ∃ b : Bool, y = .bl b ∧ ((∃ i, x = .int i) ∨ ∃ a, x = .bl a) ∧ Q (.bl (!decide (x = y))) H
theorem op_notB2 : OpR X (compareOp .IsNot) rNotB2 := by
  intro pins s σ H x y v u Q I rx ry h
  obtain ⟨b, rfl, hx, q⟩ := h
  cases (show u = Value.bool b from ry)
  rcases hx with ⟨i, rfl⟩ | ⟨a, rfl⟩
  · obtain ⟨t, rfl⟩ := rx
    refine wpAny_isNot_other rfl (fun z => nomatch z) ⟨.bl true, H, I, rfl, ?_⟩
    simpa using q
  · cases (show v = Value.bool a from rx)
    by_cases e : a = b
    · subst e
      exact wpAny_isNot_self rfl ⟨.bl false, H, I, rfl, by simpa using q⟩
    · exact wpAny_isNot_other rfl (fun z => e (Value.bool.inj z)) ⟨.bl true, H, I, rfl, by simpa [e] using q⟩
end
end Fm
namespace Fm
open PySem PySem.Spec PyProof.Rows L2
theorem tupN_fill : fillsNumberSlot (.type "tuple") "mul" = pure false :=
  PySem.fillsNumberSlot_seq (id := "tuple.__mul__") (r := some (.builtin "tuple.__rmul__")) PySem.F.slot_tuple_mul.lookup (by decide +kernel)
    PySem.F.slot_tuple_rmul.lookup (by decide +kernel)
theorem tupN_rep : seqRepeat? (.type "tuple") = pure (some (.builtin "tuple.__mul__")) := by
  unfold seqRepeat?
  rw [PySem.seqSlot_of (T := "tuple") (name := "__mul__") (id := "tuple.__mul__") PySem.F.slot_tuple_mul.lookup (by decide +kernel)]
  rw [PySem.seqSlot_of (T := "tuple") (name := "__rmul__") (id := "tuple.__rmul__") PySem.F.slot_tuple_rmul.lookup (by decide +kernel)]
  rfl
theorem tupN_int (i : Int) (u : Tok) (b : Addr) (xs : Array Value) (n : Nat) (dd : Option Addr) (sl : Array (Option Value)) :
    Meets (Builtin.«int.__rmul__» ⟨[.int i u, .ref b], []⟩) (fun _ R s => s.heap.get? b = some { cls := .type "tuple", dict := dd, data := .seq xs n, slots := sl } ∧ R (.ok (.ret Value.notImplemented)) s) :=
  .of_wp fun prog w A R s h => by
    obtain ⟨hp, g, d, tk, os⟩ := s
    obtain ⟨hl, h⟩ := h
    wp_walk using wpAny_loadPart' hl
    exact ⟨_, rfl, h⟩
/-- t * 1 is t -/
theorem tupN_one (b : Addr) (xs : Array Value) (n : Nat) (dd : Option Addr) (sl : Array (Option Value)) (u : Tok) :
    Meets (Builtin.«tuple.__mul__» ⟨[.ref b, .int 1 u], []⟩) (fun _ R s => s.heap.get? b = some { cls := .type "tuple", dict := dd, data := .seq xs n, slots := sl } ∧ R (.ok (.ret (.ref b))) s) :=
  .of_wp fun prog w A R s h => by
    obtain ⟨hp, g, d, tk, os⟩ := s
    obtain ⟨hl, h⟩ := h
    have f1 := AutoSeq1.idx_int
    wp_walk using wpAny_loadPart' hl
    exact ⟨_, rfl, h⟩
/-- t * 0 is a new empty tuple -/
theorem tupN_zero (b : Addr) (xs : Array Value) (n : Nat) (dd : Option Addr) (sl : Array (Option Value)) (u : Tok) (hx : xs.isEmpty = false) :
    Meets (Builtin.«tuple.__mul__» ⟨[.ref b, .int 0 u], []⟩) (fun _ R s => s.heap.get? b = some { cls := .type "tuple", dict := dd, data := .seq xs n, slots := sl } ∧
      R (.ok (.ret (Value.ref s.heap.objs.size))) { s with heap := s.heap.push { cls := Value.type "tuple", data := Data.seq #[] }, toks := s.toks }) :=
  .of_wp fun prog w A R s h => by
    obtain ⟨hp, g, d, tk, os⟩ := s
    obtain ⟨hl, h⟩ := h
    have f1 := AutoSeq1.idx_int
    wp_walk using wpAny_loadPart' hl
    exact ⟨_, rfl, h⟩
section
variable {X : Cx}
/-- t * k, t one item, k 0 or 1 -/
def rRep1 (K : PySem.W.Frag) : R2 := fun x y H Q => ∃ l k v, x = .ref l ∧ y = .int k ∧ SqT K H l [v] ∧ (k = 0 ∨ k = 1) ∧ (k = 0 → ∀ p, H p = none → Q (.ref p) (upd H p (.tup []))) ∧ (k = 1 → Q (.ref l) H)
theorem op_rep1 : OpR X (binaryOp .Mult) (rRep1 X.K) := by
  intro pins s σ H x y v u Q I rx ry h
  obtain ⟨l, k, w1, rfl, rfl, hT, hk, q0, q1⟩ := h
  cases rx
  obtain ⟨t, rfl⟩ := ry
  obtain ⟨its, r, ⟨⟨cls, dd, data, sl⟩, ho, hc, n, hd⟩, hs⟩ := I.tuple hT
  simp only at hc hd
  subst hc hd
  have ne : its.toArray.isEmpty = false := by
    cases r with
    | cons r1 r2 => rfl
  have ty : s.TypeIs (.ref l) "tuple" := ⟨_, ho, rfl⟩
  rcases hk with rfl | rfl
  · refine wpAny_binaryOp_repeat_ref (T := "tuple") (U := "int") (by decide) ty (fun s' => typeIs_int s' 0 t) tupN_fill F.fills_int_mul F.slot_int_rmul tupN_rep F.slot_int_index.lookup
      (call_meets F.slot_int_rmul (typeIs_int s 0 t) F.entry_int_rmul (F.args_int_rmul_2 _ _) (tupN_int 0 t l its.toArray n dd sl) ⟨ho, rfl, ty, ?_⟩)
    refine call_meets F.slot_tuple_mul ty F.entry_tuple_mul (F.args_tuple_mul_2 _ _) (tupN_zero l its.toArray n dd sl t ne) ⟨ho, ?_⟩
    refine ⟨.ref s.heap.objs.size, _, I.laid (t' := s.toks) (o := .tup []) (fun b ob q => Heap.get?_push_of_some _ q) (Nat.le_refl _) ?_, rfl, q0 rfl _ (I.hok.fresh (Nat.le_refl _))⟩
    exact ⟨Nat.zero_le _, [], .nil, IsTup.new _ _⟩
  · refine wpAny_binaryOp_repeat_ref (T := "tuple") (U := "int") (by decide) ty (fun s' => typeIs_int s' 1 t) tupN_fill F.fills_int_mul F.slot_int_rmul tupN_rep F.slot_int_index.lookup
      (call_meets F.slot_int_rmul (typeIs_int s 1 t) F.entry_int_rmul (F.args_int_rmul_2 _ _) (tupN_int 1 t l its.toArray n dd sl) ⟨ho, rfl, ty, ?_⟩)
    exact call_meets F.slot_tuple_mul ty F.entry_tuple_mul (F.args_tuple_mul_2 _ _) (tupN_one l its.toArray n dd sl t) ⟨ho, ⟨.ref l, H, I, rfl, q1 rfl⟩⟩
end
end Fm
set_option maxRecDepth 100000
set_option maxHeartbeats 2000000
/-! Fm: values that a law makes, as trees over the abstract heap. -/
namespace Fm
open PySem PySem.Spec PyProof.Rows L2

inductive D where
  | non | bl (b : Bool) | int (i : Int) | str (x : Str) | tup (xs : List D) | lst (xs : List D) | dic
mutual
inductive Dv (H : Hp) : V → D → Prop
  | non : Dv H .non .non
  | bl (b : Bool) : Dv H (.bl b) (.bl b)
  | int (i : Int) : Dv H (.int i) (.int i)
  | str (x : Str) : PyData.strOk x = true → Dv H (.str x) (.str x)
  | tup {a : Addr} {xs : List V} {ds : List D} : H a = some (.tup xs) → DvL H xs ds → Dv H (.ref a) (.tup ds)
  | lst {a : Addr} {xs : List V} {ds : List D} : H a = some (.lst xs) → DvL H xs ds → Dv H (.ref a) (.lst ds)
  | dic {a : Addr} : H a = some (.dK []) → Dv H (.ref a) .dic
inductive DvL (H : Hp) : List V → List D → Prop
  | nil : DvL H [] []
  | cons {v : V} {vs : List V} {d : D} {ds : List D} : Dv H v d → DvL H vs ds → DvL H (v :: vs) (d :: ds)
end
mutual
theorem Dv.same {H H' : Hp} (k : Same H H') : ∀ (d : D) (v : V), Dv H v d → Dv H' v d
  | .non, _, h => by cases h; exact .non
  | .bl _, _, h => by cases h; exact .bl _
  | .int _, _, h => by cases h; exact .int _
  | .str _, _, h => by
    cases h with
    | str _ o => exact .str _ o
  | .tup ds, _, h => by
    cases h with
    | tup a b => exact .tup (k _ _ a) (DvL.same k ds _ b)
  | .lst ds, _, h => by
    cases h with
    | lst a b => exact .lst (k _ _ a) (DvL.same k ds _ b)
  | .dic, _, h => by
    cases h with
    | dic a => exact .dic (k _ _ a)
theorem DvL.same {H H' : Hp} (k : Same H H') : ∀ (ds : List D) (vs : List V), DvL H vs ds → DvL H' vs ds
  | [], _, h => by cases h; exact .nil
  | d :: ds, _, h => by
    cases h with
    | cons a b => exact .cons (Dv.same k d _ a) (DvL.same k ds _ b)
end
theorem DvL.len {H : Hp} : ∀ {vs : List V} {ds : List D}, DvL H vs ds → vs.length = ds.length
  | _, _, .nil => rfl
  | _, _, .cons _ h => congrArg (· + 1) (DvL.len h)
theorem DvL.app {H : Hp} : ∀ {vs : List V} {ds : List D} {us : List V} {es : List D}, DvL H vs ds → DvL H us es → DvL H (vs ++ us) (ds ++ es)
  | _, _, _, _, .nil, h => h
  | _, _, _, _, .cons a b, h => .cons a (DvL.app b h)
theorem DvL.get {H : Hp} : ∀ {vs : List V} {ds : List D} {i : Nat} {v : V}, DvL H vs ds → vs[i]? = some v → ∃ d, ds[i]? = some d ∧ Dv H v d
  | _, _, _, _, .nil, e => by simp at e
  | _, _, 0, _, .cons a b, e => by simp at e; subst e; exact ⟨_, rfl, a⟩
  | _, _, i + 1, _, .cons a b, e => by
    obtain ⟨d, h1, h2⟩ := DvL.get (i := i) b (by simpa using e)
    exact ⟨d, by simpa using h1, h2⟩
theorem DvL.getD {H : Hp} : ∀ {vs : List V} {ds : List D} {i : Nat} {d : D}, DvL H vs ds → ds[i]? = some d → ∃ v, vs[i]? = some v ∧ Dv H v d
  | _, _, _, _, .nil, e => by simp at e
  | _, _, 0, _, .cons a b, e => by simp at e; subst e; exact ⟨_, rfl, a⟩
  | _, _, i + 1, _, .cons a b, e => by
    obtain ⟨d, h1, h2⟩ := DvL.getD (i := i) b (by simpa using e)
    exact ⟨d, by simpa using h1, h2⟩
theorem DvL.drop {H : Hp} : ∀ {vs : List V} {ds : List D} (n : Nat), DvL H vs ds → DvL H (vs.drop n) (ds.drop n)
  | _, _, 0, h => h
  | _, _, _ + 1, .nil => .nil
  | _, _, n + 1, .cons _ h => DvL.drop n h
theorem DvL.take {H : Hp} : ∀ {vs : List V} {ds : List D} (n : Nat), DvL H vs ds → DvL H (vs.take n) (ds.take n)
  | _, _, 0, _ => .nil
  | _, _, _ + 1, .nil => .nil
  | _, _, n + 1, .cons a h => .cons a (DvL.take n h)
theorem DvL.set {H : Hp} {v : V} {d : D} (a : Dv H v d) : ∀ {vs : List V} {ds : List D} (n : Nat), DvL H vs ds → DvL H (vs.set n v) (ds.set n d)
  | _, _, _, .nil => .nil
  | _, _, 0, .cons _ h => .cons a h
  | _, _, n + 1, .cons b h => .cons b (DvL.set a n h)

/-! ### sizes, depths -/
mutual
def D.size : D → Nat
  | .str x => x.length + 1
  | .tup ds => sizes ds + 1
  | .lst ds => sizes ds + 1
  | _ => 1
def sizes : List D → Nat
  | [] => 0
  | d :: ds => d.size + sizes ds
end
mutual
def D.deep : D → Nat
  | .tup ds => deeps ds + 1
  | .lst ds => deeps ds + 1
  | _ => 0
def deeps : List D → Nat
  | [] => 0
  | d :: ds => max d.deep (deeps ds)
end
theorem sizes_app (a b : List D) : sizes (a ++ b) = sizes a + sizes b := by
  induction a with
  | nil => simp [sizes]
  | cons x r ih => simp only [List.cons_append, sizes, ih]; omega
theorem size_pos (d : D) : 1 ≤ d.size := by cases d <;> simp [D.size]
theorem len_sizes (ds : List D) : ds.length ≤ sizes ds := by
  induction ds with
  | nil => simp [sizes]
  | cons x r ih => have := size_pos x; simp only [List.length_cons, sizes]; omega
theorem sizes_drop (ds : List D) (n : Nat) : sizes (ds.drop n) ≤ sizes ds := by
  induction ds generalizing n with
  | nil => simp
  | cons x r ih =>
    cases n with
    | zero => simp
    | succ n => have := ih n; simp only [List.drop_succ_cons, sizes]; omega
theorem size_mem {d : D} {ds : List D} (h : d ∈ ds) : d.size ≤ sizes ds := by
  induction ds with
  | nil => cases h
  | cons x r ih =>
    simp only [sizes]
    rcases List.mem_cons.mp h with rfl | h
    · omega
    · have := ih h; omega
theorem deep_mem {d : D} {ds : List D} (h : d ∈ ds) : d.deep ≤ deeps ds := by
  induction ds with
  | nil => cases h
  | cons x r ih =>
    simp only [deeps]
    rcases List.mem_cons.mp h with rfl | h
    · omega
    · have := ih h; omega

/-! ### kinds -/
def tyN : D → String
  | .non => "NoneType" | .bl _ => "bool" | .int _ => "int" | .str _ => "str" | .tup _ => "tuple" | .lst _ => "list" | .dic => "dict"
theorem Dv.ty {K : PySem.W.Frag} {H : Hp} {v : V} {d : D} (h : Dv H v d) : TyX K H v (.type (tyN d)) := by
  cases h with
  | non => exact .base .non
  | bl b => exact .base (.bl b)
  | int i => exact .base (.int i)
  | str x _ => exact .base (.str x)
  | tup a _ => exact .base (.tup a)
  | lst a _ => exact .base (.lst a)
  | dic a => exact .base (.dK a)
def isI : D → Bool
  | .int _ => true | .bl _ => true | _ => false
def isB : D → Bool
  | .bl _ => true | _ => false
def isS : D → Bool
  | .str _ => true | _ => false
def isT : D → Bool
  | .tup _ => true | _ => false
def isL : D → Bool
  | .lst _ => true | _ => false
section
variable {K : PySem.W.Frag} (d : D)
theorem kit_I : PySem.W.kitOne K (.type (tyN d)) (.type "int") = some (isI d) := by cases d <;> exact kit_ty (by simp only [tyN, isI]; decide +kernel)
theorem kit_B : PySem.W.kitOne K (.type (tyN d)) (.type "bool") = some (isB d) := by cases d <;> exact kit_ty (by simp only [tyN, isB]; decide +kernel)
theorem kit_S : PySem.W.kitOne K (.type (tyN d)) (.type "str") = some (isS d) := by cases d <;> exact kit_ty (by simp only [tyN, isS]; decide +kernel)
theorem kit_T : PySem.W.kitOne K (.type (tyN d)) (.type "tuple") = some (isT d) := by cases d <;> exact kit_ty (by simp only [tyN, isT]; decide +kernel)
theorem kit_L : PySem.W.kitOne K (.type (tyN d)) (.type "list") = some (isL d) := by cases d <;> exact kit_ty (by simp only [tyN, isL]; decide +kernel)
end
/-- isinstance(x, T) of data, told -/
theorem isi_I {K : PySem.W.Frag} {H : Hp} {v : V} {d : D} {Q : VK} (h : Dv H v d) (q : Q (.bl (isI d)) H) : rIsi K [v, .ty "int"] H Q := ⟨_, _, _, _, _, rfl, .ty _, h.ty, kit_I d, q⟩
theorem isi_B {K : PySem.W.Frag} {H : Hp} {v : V} {d : D} {Q : VK} (h : Dv H v d) (q : Q (.bl (isB d)) H) : rIsi K [v, .ty "bool"] H Q := ⟨_, _, _, _, _, rfl, .ty _, h.ty, kit_B d, q⟩
theorem isi_S {K : PySem.W.Frag} {H : Hp} {v : V} {d : D} {Q : VK} (h : Dv H v d) (q : Q (.bl (isS d)) H) : rIsi K [v, .ty "str"] H Q := ⟨_, _, _, _, _, rfl, .ty _, h.ty, kit_S d, q⟩
theorem isi_T {K : PySem.W.Frag} {H : Hp} {v : V} {d : D} {Q : VK} (h : Dv H v d) (q : Q (.bl (isT d)) H) : rIsi K [v, .ty "tuple"] H Q := ⟨_, _, _, _, _, rfl, .ty _, h.ty, kit_T d, q⟩

/-! ### names, outcomes, terms -/
def letters : Str := "abcdefghijklmnopqrstuvwxyz"
def signOk (x : Str) : Bool := !(Builtin.Str.occurrences letters x 0 letters.length 1).isEmpty
def signs (s : Str) : List Str := s.cps.toList.map fun c => ⟨#[c]⟩
def isNameS (s : Str) : Bool := decide (1 ≤ s.length) && decide (s.length ≤ 8) && (signs s).all signOk
def isName : D → Bool
  | .str s => isNameS s
  | _ => false
def isWhole : D → Bool
  | .int _ => true | _ => false
def cutLast (s : Str) : Str := cutS s none (some (-1))
def isOutS (s : Str) : Bool := isNameS s || (Txt.endswith s "-" && isNameS (cutLast s))
def isOut : D → Bool
  | .str s => isOutS s
  | _ => false
mutual
def isTerm : D → Bool
  | .int i => decide (0 ≤ i)
  | .tup ds => isTermT ds
  | _ => false
def isTermT : List D → Bool
  | [] => false
  | x :: r => decide (r.length ≤ 3) && isName x && areTerms r
def areTerms : List D → Bool
  | [] => true
  | d :: ds => isTerm d && areTerms ds
end
theorem areTerms_app (a b : List D) : areTerms (a ++ b) = (areTerms a && areTerms b) := by
  induction a with
  | nil => simp [areTerms]
  | cons x r ih => simp only [List.cons_append, areTerms, ih, Bool.and_assoc]
theorem areTerms_all (a : List D) : areTerms a = a.all isTerm := by
  induction a with
  | nil => rfl
  | cons x r ih => simp only [areTerms, List.all_cons, ih]
end Fm
set_option maxRecDepth 100000
set_option maxHeartbeats 2000000
/-! Fm: rules in other readings. -/
namespace Fm
open PySem PySem.Spec PyProof.Rows L2
section
variable {X : Cx} {e c : Expr} {t t' te : TE} {p pos : Pos}
theorem peI (h : PE X e t) (k : ∀ σ H Q, t' σ H Q → t σ H Q) : PE X e t' := ⟨fun pins s σ H Q I q => h.run pins s σ H Q I (k σ H Q q)⟩
/-- isinstance(x, T) of data -/
def tIs (f : D → Bool) (te : TE) : TE := fun σ H Q => te σ H fun v H1 => ∃ d, Dv H1 v d ∧ Q (.bl (f d)) H1
/-- how a reading of an expression grows with what is wanted: asked where it is re-read -/
def MonE (te : TE) : Prop := ∀ σ H (Q Q' : VK), (∀ v H1, Q v H1 → Q' v H1) → te σ H Q → te σ H Q'
theorem mon_var {i : Nat} : MonE (tVar i) := fun _ _ _ _ k ⟨v, a, b⟩ => ⟨v, a, k _ _ b⟩
theorem pe_isD {n : String} {f : D → Bool} (hk : ∀ K d, PySem.W.kitOne K (.type (tyN d)) (.type n) = some (f d)) (hm : X.mg "isinstance" = none) (he : PE X e te) (hc : PE X c (tC (.ty n))) (mo : MonE te)
    (hg : Gl X "isinstance" := by rfl) (h1 : starEach [e, c] X.env = (false, eval e X.env) :: starEach [c] X.env := by rfl) (h2 : starEach [c] X.env = (false, eval c X.env) :: starEach [] X.env := by rfl)
    (h3 : (backTo pos (starEach [c] X.env)).any (·.1) = false := by rfl) : PE X (.Call (.Name "isinstance" p) [e, c] [] pos) (tIs f te) := by
  refine peI (pe_callB call_isi hg hm (by decide +kernel) (pa_cons he (pa_cons hc pa_nil h2) h1) (he := h1) (hpl := h3)) ?_
  intro σ H Q h
  refine mo σ H _ _ ?_ h
  rintro v H1 ⟨d, hd, q⟩
  exact ⟨v, .ty n, _, _, f d, rfl, .ty n, hd.ty, hk _ d, q⟩
def isTL : D → Bool
  | .tup _ => true | .lst _ => true | _ => false
/-- isinstance(x, (tuple, list)) -/
def tIs2 (te : TE) : TE := fun σ H Q => te σ H fun v H1 => ∃ d, Dv H1 v d ∧ ∀ p, H1 p = none → Q (.bl (isTL d)) (upd H1 p (.tup [.ty "tuple", .ty "list"]))
theorem pe_isD2 {a b : Expr} {k2} {pt : Pos} (hm : X.mg "isinstance" = none) (he : PE X e te) (ha : PE X a (tC (.ty "tuple"))) (hb : PE X b (tC (.ty "list"))) (mo : MonE te)
    (hg : Gl X "isinstance" := by rfl) (h1 : starEach [e, .Tuple [a, b] k2 pt] X.env = (false, eval e X.env) :: starEach [.Tuple [a, b] k2 pt] X.env := by rfl)
    (h2 : starEach [.Tuple [a, b] k2 pt] X.env = (false, eval (.Tuple [a, b] k2 pt) X.env) :: starEach [] X.env := by rfl) (h3 : (backTo pos (starEach [.Tuple [a, b] k2 pt] X.env)).any (·.1) = false := by rfl)
    (h4 : starEach [a, b] X.env = (false, eval a X.env) :: starEach [b] X.env := by rfl) (h5 : starEach [b] X.env = (false, eval b X.env) :: starEach [] X.env := by rfl) :
    PE X (.Call (.Name "isinstance" p) [e, .Tuple [a, b] k2 pt] [] pos) (tIs2 te) := by
  refine peI (pe_callB call_isiT hg hm (by decide +kernel) (pa_cons he (pa_cons (pe_tup (pa_cons ha (pa_cons hb pa_nil h5) h4)) pa_nil h2) h1) (he := h1) (hpl := h3)) ?_
  intro σ H Q h
  refine mo σ H _ _ ?_ h
  rintro v H1 ⟨d, hd, q⟩
  refine ⟨by decide, fun p hp => ?_⟩
  have hd' : Dv (upd H1 p (.tup [.ty "tuple", .ty "list"])) v d := hd.same (fun a o q => by rw [upd_ne (ne_of_none q hp)]; exact q) _ _
  refine ⟨v, p, _, _, [.type "tuple", .type "list"], isTL d, rfl, upd_same, .cons (.ty _) (.cons (.ty _) .nil), hd'.ty, ?_, q p hp⟩
  refine kitAny_cons (kit_T d) (fun z => kitAny_cons (kit_L d) (fun y => ?_) (fun y => ?_)) (fun z => ?_)
  · have : isTL d = false := by cases d <;> simp_all [isT, isL, isTL]
    rw [this]
    exact kitAny_nil
  · cases d <;> simp_all [isT, isL, isTL]
  · cases d <;> simp_all [isT, isTL]
end
end Fm
namespace Fm
open PySem PySem.Spec PyProof.Rows L2
theorem Same.new {H : Hp} {p : Addr} {o : HO} (h : H p = none) : Same H (upd H p o) := fun a u e => by
  rw [upd_ne (ne_of_none e h)]
  exact e
theorem Same.upd {H H' : Hp} {p : Addr} {o : HO} (k : Same H H') (h : H p = none) : Same H (upd H' p o) := fun a u e => by
  rw [upd_ne (ne_of_none e h)]
  exact k a u e
theorem sz {n : Nat} (h : n ≤ 10000000) : n ≤ sizeLine := Nat.le_trans h (by decide)
theorem szl {n : Nat} (h : n ≤ 10000000) : n < sizeLine := Nat.lt_of_le_of_lt h (by decide)
theorem signs_len (s : Str) : (signs s).length = s.length := by
  unfold signs Str.length
  simp
theorem signs_get {s : Str} {i c : Nat} (h : s.cps[i]? = some c) : (signs s)[i]? = some ⟨#[c]⟩ := by
  unfold signs
  rw [List.getElem?_map]
  have : s.cps.toList[i]? = some c := by simpa using h
  rw [this]
  rfl
theorem take_succ' {α : Type} {l : List α} {i : Nat} {x : α} (h : l[i]? = some x) : l.take (i + 1) = l.take i ++ [x] := by
  rw [List.take_add_one, h]
  rfl
/-- [f(c) for c in s], f read off each sign by its text -/
theorem lc_signs {K : PySem.W.Frag} {te : TE} {tt : TT} {σ : L2.St} {H : Hp} {s : Str} {j : Nat} {vs : List Nat} {Dl : Addr} {Qd : Hp → Prop} (f : Str → V) (keep : Str → Bool) (hD : H Dl = none) (hz : s.length ≤ 100000)
    (hw : ∀ x, wipe ((wipe σ vs).set j (some x)) vs = wipe σ vs)
    (he : ∀ (x : Str) (H' : Hp) (R : Bool → Hp → Prop), Same H H' → R (keep x) H' → tt ((wipe σ vs).set j (some (.str x))) H' R)
    (hv : ∀ (x : Str) (H' : Hp) (R : VK), Same H H' → keep x = true → R (f x) H' → te ((wipe σ vs).set j (some (.str x))) H' R)
    (q : ∀ H', Same H H' → H' Dl = some (.lst (((signs s).filter keep).map f)) → Qd H') :
    ∃ W : Nat → Nat → Hp → Prop, (∃ m, W 0 m (upd H Dl (.lst []))) ∧ ∀ i m H, W i m H → ((Its s).stop i H ∧ Qd H) ∨ ((Its s).go i H ∧ ∃ Nx : Hp → Prop, (∀ H', Nx H' → ∃ m', m' < m ∧ W (i + 1) m' H') ∧
      ∀ x H', (Its s).yld i H x H' → gName j x (wipe σ vs) H' fun σ2 H2 => wipe σ2 vs = wipe σ vs ∧ tt σ2 H2 fun b H3 => if b = true then te σ2 H3 fun y H4 => ∃ acc, H4 Dl = some (.lst acc) ∧ acc.length < sizeLine ∧ Nx (upd H4 Dl (.lst (acc ++ [y]))) else Nx H3) := by
  refine lc_it (walk_str (z := s)) (fun i H' => Same H H' ∧ H' Dl = some (.lst ((((signs s).take i).filter keep).map f))) ⟨Same.new hD, upd_same⟩ (fun _ _ _ _ => trivial) ?_ ?_
  · rintro i x H1 H2 hi ⟨k, hl⟩ ⟨rfl, c, hc, rfl⟩
    refine ⟨hw _, he _ _ _ k ?_⟩
    have e1 := take_succ' (signs_get hc)
    by_cases hk : keep ⟨#[c]⟩ = true
    · rw [hk]
      refine iteT (hv _ _ _ k hk ⟨_, hl, ?_, Same.upd k hD, ?_⟩)
      · rw [List.length_map]
        refine szl (Nat.le_trans (List.length_filter_le _ _) ?_)
        rw [List.length_take, signs_len]
        omega
      · rw [e1, List.filter_append, List.map_append, List.filter_cons, if_pos hk]
        exact upd_same
    · have hf : keep ⟨#[c]⟩ = false := by simpa using hk
      rw [hf]
      refine iteF ⟨k, ?_⟩
      rw [e1, List.filter_append, List.map_append, List.filter_cons, if_neg (by rw [hf]; decide)]
      simpa using hl
  · rintro H' ⟨k, hl⟩
    refine q H' k ?_
    have : (signs s).take s.cps.size = signs s := List.take_of_length_le (by rw [signs_len]; exact Nat.le_refl _)
    rw [this] at hl
    exact hl
end Fm
namespace Fm
open PySem PySem.Spec PyProof.Rows L2
theorem ite_b {c : Bool} {A B : Prop} (h1 : c = true → A) (h0 : c = false → B) : if c = true then A else B := by
  cases c with
  | true => exact iteT (h1 rfl)
  | false => exact iteF (h0 rfl)
theorem cutV_one (us : List V) (h : 1 ≤ us.length) : cutV us (some 1) none = us.drop 1 ∧ ¬ (HT.sIx us.length 0 (some 1) = 0 ∧ HT.sIx us.length us.length none = us.length) := by
  have e : HT.sIx us.length 0 (some 1) = 1 := by
    have := HT.sIx_nat us.length 0 1
    have z : ((1 : Nat) : Int) = 1 := rfl
    rw [z] at this
    rw [this]
    omega
  constructor
  · unfold cutV
    rw [e]
    exact List.take_of_length_le (by rw [List.length_drop]; exact Nat.le_refl _)
  · rintro ⟨a, _⟩
    rw [e] at a
    cases a
theorem last_split {vs : List V} {ds : List D} {H : Hp} (h : DvL H vs ds) (ne : vs ≠ []) : ∃ y d es, vs[vs.length - 1]? = some y ∧ ds = es ++ [d] ∧ DvL H vs.dropLast es ∧ Dv H y d := by
  have n1 : ds ≠ [] := by
    intro e
    have := h.len
    rw [e] at this
    exact ne (List.length_eq_zero_iff.mp this)
  have l := h.len
  have pos : 0 < vs.length := List.length_pos_iff.mpr ne
  have e0 : ds[vs.length - 1]? = some (ds.getLast n1) := by
    rw [List.getLast_eq_getElem, l]
    exact List.getElem?_eq_getElem (by omega)
  obtain ⟨y, hy, hd⟩ := h.getD e0
  refine ⟨y, ds.getLast n1, ds.dropLast, hy, (List.dropLast_concat_getLast n1).symm, ?_, hd⟩
  have t := h.take (vs.length - 1)
  rw [List.dropLast_eq_take, List.dropLast_eq_take, ← l]
  exact t
end Fm
namespace Fm
open PySem PySem.Spec PyProof.Rows L2
theorem filt {α : Type} (l : List α) : l.filter (fun _ => true) = l := List.filter_eq_self.mpr fun _ _ => rfl
theorem len_last {x : Str} : (cutLast x).length ≤ x.length := by
  unfold cutLast cutS Str.length
  simp
  omega
end Fm
namespace Fm
open PySem PySem.Spec PyProof.Rows L2
theorem deeps_app (a b : List D) : deeps (a ++ b) = max (deeps a) (deeps b) := by
  induction a with
  | nil => simp [deeps]
  | cons x r ih => simp only [List.cons_append, deeps, ih]; omega
end Fm
namespace Fm
open PySem PySem.Spec PyProof.Rows L2
theorem dp_strs {K : PySem.W.Frag} {H : Hp} {p : Addr} {xs : List Str} (h : SqL K H p (xs.map V.str)) : Dp K H (.ref p) (.list (xs.map PyData.str)) := by
  refine .lst h ?_
  clear h
  induction xs with
  | nil => exact .nil
  | cons x r ih => exact .cons (.str x) ih
theorem lay_strs {xs : List Str} (h : ∀ x ∈ xs, PyData.strOk x = true) : PyData.canLayAll0 (xs.map PyData.str) = true := by
  induction xs with
  | nil => simp [PyData.canLayAll0]
  | cons x r ih =>
    have h1 := h x List.mem_cons_self
    have h2 := ih fun y hy => h y (List.mem_cons_of_mem _ hy)
    simp [PyData.canLayAll0, PyData.canLay0, h1, h2]
theorem deep_strs (xs : List Str) : PyData.depthAll (xs.map PyData.str) ≤ 1 := by
  induction xs with
  | nil => simp [PyData.depthAll]
  | cons x r ih => simp [PyData.depthAll, PyData.depth]; omega
theorem shaped_strs {xs : List Str} (h : ∀ x ∈ xs, PyData.strOk x = true) : SeqAt.shaped (.list (xs.map PyData.str)) = true := by
  unfold SeqAt.shaped
  have h1 := lay_strs h
  have h2 := deep_strs xs
  simp [PyData.canLay0, PyData.depth, h1]
  omega
theorem ok_signs {x y : Str} (h : PyData.strOk x = true) (hy : y ∈ signs x) : PyData.strOk y = true := by
  unfold signs at hy
  obtain ⟨c, hc, rfl⟩ := List.mem_map.mp hy
  unfold PyData.strOk at h ⊢
  have := (Array.all_eq_true_iff_forall_mem.mp h) c (by simpa using hc)
  simpa using this
theorem ok_part {x y : Str} (h : PyData.strOk x = true) (hy : ∀ c ∈ y.cps.toList, c ∈ x.cps.toList) : PyData.strOk y = true := by
  unfold PyData.strOk at h ⊢
  refine Array.all_eq_true_iff_forall_mem.mpr fun c hc => ?_
  exact (Array.all_eq_true_iff_forall_mem.mp h) c (by simpa using hy c (by simpa using hc))
theorem ok_cut {x : Str} {lo hi : Option Int} (h : PyData.strOk x = true) : PyData.strOk (cutS x lo hi) = true := by
  refine ok_part h fun c hc => ?_
  unfold cutS at hc
  simp only [List.toList_toArray] at hc
  exact List.mem_of_mem_drop (List.mem_of_mem_take hc)
theorem eqv_nil (xs : List PyData) : PyData.eqv (.list xs) (.list []) = xs.isEmpty := by
  cases xs <;> simp [PyData.eqv, PyData.eqvAll]
end Fm
namespace Fm
open PySem PySem.Spec PyProof.Rows L2
theorem last_sign {x : Str} (h : 1 ≤ x.length) : ∃ c, x.cps.toList[x.length - 1]? = some c ∧ Txt.endswith x "-" = decide (V.str ⟨#[c]⟩ = V.str "-") := by
  have l : x.cps.toList.length = x.length := by simp [Str.length]
  have lt : x.length - 1 < x.cps.size := by
    have : x.cps.size = x.length := rfl
    omega
  refine ⟨x.cps[x.length - 1], by rw [List.getElem?_eq_getElem (by omega)]; simp, ?_⟩
  unfold Txt.endswith Builtin.Str.subAt
  have e1 : (("-" : String) : Str).length = 1 := rfl
  have e2 : x.cps.extract (x.length - 1) (x.length - 1 + 1) = #[x.cps[x.length - 1]] := by
    apply Array.ext
    · simp [Array.size_extract]
      have : x.cps.size = x.length := rfl
      omega
    · intro i h1 h2
      simp only [List.size_toArray, List.length_cons, List.length_nil] at h2
      have i0 : i = 0 := by omega
      subst i0
      simp [Array.getElem_extract]
  rw [e1, e2]
  have e3 : decide (0 + 1 ≤ x.length) = true := decide_eq_true (by omega)
  rw [e3, Bool.true_and]
  rw [Bool.eq_iff_iff, beq_iff_eq, decide_eq_true_iff]
  constructor
  · intro q
    rw [q]
  · intro q
    injection q with q
    exact congrArg Str.cps q
end Fm
namespace Fm
open PySem PySem.Spec PyProof.Rows L2
theorem cutLast_len (x : Str) : (cutLast x).length = x.length - 1 := by
  unfold cutLast cutS
  have e1 : HT.sIx x.length 0 none = 0 := rfl
  have e2 : HT.sIx x.length x.length (some (-1)) = x.length - 1 := by
    show (if (-1 : Int) < 0 then ((-1 : Int) + (x.length : Int)).toNat else min (-1 : Int).toNat x.length) = _
    rw [if_pos (by decide)]
    omega
  rw [e1, e2]
  have l : x.cps.toList.length = x.length := by simp [Str.length]
  show (List.toArray _).size = _
  rw [List.size_toArray, List.length_take, List.length_drop]
  omega
end Fm
namespace Fm
open PySem PySem.Spec PyProof.Rows L2
theorem in_1234 (n : Nat) : inV (.int (n : Int)) [.int 1, .int 2, .int 3, .int 4] = decide (1 ≤ n ∧ n ≤ 4) := by
  rw [Bool.eq_iff_iff]
  simp only [inV, List.any_cons, List.any_nil, eqV, Bool.or_false, Bool.or_eq_true, beq_iff_eq, decide_eq_true_iff]
  omega
theorem tk {α : Type} {l : List α} {i : Nat} {x : α} (h : l[i]? = some x) : x ∈ l := List.mem_of_getElem? h
/-- [f(x) for x in xs] over a tuple of data, f a def that leaves what stood -/
theorem lc_tupD {K : PySem.W.Frag} {te : TE} {tt : TT} {σ : L2.St} {H : Hp} {a : Addr} {xs : List V} {ds : List D} {j : Nat} {vs : List Nat} {Dl : Addr} {Qd : Hp → Prop} (f : D → V) (hT : SqT K H a xs) (hd : DvL H xs ds) (hD : H Dl = none) (hz : xs.length ≤ 100000)
    (hw : ∀ x, wipe ((wipe σ vs).set j (some x)) vs = wipe σ vs)
    (he : ∀ σ' H' (R : Bool → Hp → Prop), R true H' → tt σ' H' R)
    (hv : ∀ (x : V) (d : D) (H' : Hp) (R : VK), Same H H' → d ∈ ds → Dv H x d → (∀ H2, Same H' H2 → R (f d) H2) → te ((wipe σ vs).set j (some x)) H' R)
    (q : ∀ H', Same H H' → H' Dl = some (.lst (ds.map f)) → Qd H') :
    ∃ W : Nat → Nat → Hp → Prop, (∃ m, W 0 m (upd H Dl (.lst []))) ∧ ∀ i m H, W i m H → ((Itt K a).stop i H ∧ Qd H) ∨ ((Itt K a).go i H ∧ ∃ Nx : Hp → Prop, (∀ H', Nx H' → ∃ m', m' < m ∧ W (i + 1) m' H') ∧
      ∀ x H', (Itt K a).yld i H x H' → gName j x (wipe σ vs) H' fun σ2 H2 => wipe σ2 vs = wipe σ vs ∧ tt σ2 H2 fun b H3 => if b = true then te σ2 H3 fun y H4 => ∃ acc, H4 Dl = some (.lst acc) ∧ acc.length < sizeLine ∧ Nx (upd H4 Dl (.lst (acc ++ [y]))) else Nx H3) := by
  have hlen := hd.len
  have st : ∀ H', Same H H' → SqT K H' a xs := fun H' k => Evl.ex_t k hT
  refine lc_tup (fun i H' => Same H H' ∧ H' Dl = some (.lst ((ds.take i).map f))) ⟨Same.new hD, upd_same⟩ (fun i H' _ p => st H' p.1) ?_ ?_
  · rintro i x H1 hx ⟨k, hl⟩
    refine ⟨hw _, he _ _ _ ?_⟩
    rw [if_pos rfl]
    obtain ⟨d, e1, hd1⟩ := hd.get hx
    refine hv x d H1 _ k (tk e1) hd1 fun H2 k2 => ⟨_, k2 _ _ hl, ?_, Same.upd (k.trans k2) hD, ?_⟩
    · rw [List.length_map]
      refine szl ?_
      rw [List.length_take]
      omega
    · rw [take_succ' e1, List.map_append]
      exact upd_same
  · rintro H' ⟨k, hl⟩
    refine q H' k ?_
    have : ds.take xs.length = ds := List.take_of_length_le (by omega)
    rw [this] at hl
    exact hl
end Fm
set_option maxRecDepth 100000
set_option maxHeartbeats 2000000
/-! Fm: the bag that a law draws from: a list of three ints and a list of ints; what is drawn is any int below a bound. -/
namespace Fm
open PySem PySem.Spec PyProof.Rows L2
/-- the heap without the bag -/
def mask (b : Addr) (H : Hp) : Hp := fun a => if a = b then none else H a
theorem mask_ne {b a : Addr} {H : Hp} (h : a ≠ b) : mask b H a = H a := if_neg h
theorem unmask {b : Addr} {H : Hp} : Same (mask b H) H := fun a o e => by
  unfold mask at e
  split at e
  · cases e
  · exact e
theorem mask_same {b : Addr} {H H' : Hp} (k : Same H H') : Same (mask b H) (mask b H') := fun a o e => by
  have e' := unmask _ _ e
  have n : a ≠ b := fun z => by
    rw [z] at e
    simp [mask] at e
  rw [mask_ne n]
  exact k _ _ e'
theorem mask_updb {b : Addr} {H : Hp} {o : HO} : mask b (upd H b o) = mask b H := by
  funext a
  unfold mask
  split
  · rfl
  · rename_i n
    exact upd_ne n
structure BagAt (b p : Addr) (H : Hp) (s m k : Int) (cells : List Int) : Prop where
  at_b : H b = some (.lst [.int s, .int m, .int k, .ref p])
  at_p : H p = some (.lst (cells.map V.int))
  ne : p ≠ b
  s0 : 0 ≤ s
  m0 : 0 ≤ m
  m1 : m < 2147483647
  k0 : 0 ≤ k
  c0 : ∀ c ∈ cells, 0 ≤ c
def Bag (b p : Addr) (H : Hp) : Prop := ∃ s m k cells, BagAt b p H s m k cells
theorem Bag.same {b p : Addr} {H H' : Hp} (B : Bag b p H) (k : Same H H') : Bag b p H' := by
  obtain ⟨s, m, n, cells, h1, h2, h3, h4, h5, h6, h7, h8⟩ := B
  exact ⟨s, m, n, cells, k _ _ h1, k _ _ h2, h3, h4, h5, h6, h7, h8⟩
/-- the bag has gone on, all else stands -/
structure Go (b p : Addr) (H H' : Hp) : Prop where
  k : Same (mask b H) (mask b H')
  B : Bag b p H'
section
variable {b p : Addr} {H H' H2 : Hp}
theorem Go.of (B : Bag b p H) (k : Same H H') : Go b p H H' := ⟨mask_same k, B.same k⟩
theorem Go.refl (B : Bag b p H) : Go b p H H := ⟨Same.refl _, B⟩
theorem Go.trans (g : Go b p H H') (g2 : Go b p H' H2) : Go b p H H2 := ⟨g.k.trans g2.k, g2.B⟩
theorem Go.same (g : Go b p H H') (k : Same H' H2) : Go b p H H2 := g.trans (.of g.B k)
theorem Go.new {q : Addr} {o : HO} (g : Go b p H H') (h : H' q = none) : Go b p H (upd H' q o) := g.same (Same.new h)
theorem Bag.b_ne (B : Bag b p H) {l : Addr} (h : H l = none) : l ≠ b := by
  obtain ⟨s, m, n, cells, h1, _⟩ := B
  exact fun z => by
    rw [z, h1] at h
    cases h
theorem Go.free (g : Go b p H H') {l : Addr} (h : H' l = none) : H l = none := by
  have n := g.B.b_ne h
  cases e : H l with
  | none => rfl
  | some o =>
    have e1 := g.k l o (by rw [mask_ne n]; exact e)
    rw [mask_ne n, h] at e1
    cases e1
/-- an object that was not there at the start changes -/
theorem Go.mut {l : Addr} {o : HO} (B : Bag b p H) (g : Go b p H H') (h : H l = none) : Go b p H (upd H' l o) := by
  have nb := B.b_ne h
  obtain ⟨s, m, n, cells, h1, h2, h3, h4, h5, h6, h7, h8⟩ := B
  have np : p ≠ l := fun z => by
    rw [z, h] at h2
    cases h2
  obtain ⟨s', m', n', cells', g1, g2, g3, g4, g5, g6, g7, g8⟩ := g.B
  refine ⟨fun a u e => ?_, s', m', n', cells', ?_, ?_, g3, g4, g5, g6, g7, g8⟩
  · have na : a ≠ b := fun z => by
      rw [z] at e
      simp [mask] at e
    have nl : a ≠ l := fun z => by
      rw [z, mask_ne nb, h] at e
      cases e
    have e1 := g.k a u e
    rw [mask_ne na] at e1 ⊢
    rw [upd_ne nl]
    exact e1
  · rw [upd_ne nb.symm]
    exact g1
  · rw [upd_ne np]
    exact g2
theorem Go.dv {v : V} {d : D} (g : Go b p H H') (h : Dv (mask b H) v d) : Dv (mask b H') v d := h.same g.k _ _
theorem Go.dvl {vs : List V} {ds : List D} (g : Go b p H H') (h : DvL (mask b H) vs ds) : DvL (mask b H') vs ds := h.same g.k _ _
theorem Dv.un {v : V} {d : D} (h : Dv (mask b H) v d) : Dv H v d := h.same unmask _ _
theorem DvL.un {vs : List V} {ds : List D} (h : DvL (mask b H) vs ds) : DvL H vs ds := h.same unmask _ _
theorem Go.at {q : Addr} {o : HO} (g : Go b p H H') (n : q ≠ b) (h : H q = some o) : H' q = some o := by
  have := g.k q o (by rw [mask_ne n]; exact h)
  rw [mask_ne n] at this
  exact this
end
/-- _law_take: an int below n -/
def spTake : Sp := fun vs H Q _ => ∃ b p n, vs = [.ref b, .int n] ∧ Bag b p H ∧ 0 < n ∧ n ≤ 1000000 ∧ ∀ i H', 0 ≤ i → i < n → Go b p H H' → Q (.int i) H'
end Fm
namespace Fm
open PySem PySem.Spec PyProof.Rows L2
/-- what stands in H2 and not yet in H -/
def newof (H H2 : Hp) : Hp := fun a => match H a with
  | none => H2 a
  | some _ => none
section
variable {b p : Addr} {H H1 H2 H3 : Hp}
theorem newof_of {a : Addr} {o : HO} (h : H a = none) (h2 : H2 a = some o) : newof H H2 a = some o := by
  unfold newof
  rw [h]
  exact h2
theorem newof_is {a : Addr} {o : HO} (h : newof H H2 a = some o) : H a = none ∧ H2 a = some o := by
  unfold newof at h
  cases e : H a with
  | none =>
    rw [e] at h
    exact ⟨rfl, h⟩
  | some u =>
    rw [e] at h
    cases h
theorem newof_sub : Same (newof H H2) H2 := fun _ _ h => (newof_is h).2
theorem newof_mask (B : Bag b p H) : Same (newof H H2) (mask b H2) := fun a o h => by
  obtain ⟨h1, h2⟩ := newof_is h
  rw [mask_ne (B.b_ne h1)]
  exact h2
theorem newof_go (B : Bag b p H) (g : Go b p H1 H2) : Same (newof H H1) (newof H H2) := fun a o h => by
  obtain ⟨h1, h2⟩ := newof_is h
  exact newof_of h1 (g.at (B.b_ne h1) h2)
theorem newof_same (k : Same H1 H2) : Same (newof H H1) (newof H H2) := fun a o h => by
  obtain ⟨h1, h2⟩ := newof_is h
  exact newof_of h1 (k _ _ h2)
theorem newof_lift (f : ∀ a, H1 a = none → H a = none) : Same (newof H1 H2) (newof H H2) := fun a o h => by
  obtain ⟨h1, h2⟩ := newof_is h
  exact newof_of (f _ h1) h2
theorem newof_upd {l : Addr} {o u : HO} (h : H l = some u) : newof H (upd H2 l o) = newof H H2 := by
  funext a
  unfold newof
  cases e : H a with
  | none =>
    show upd H2 l o a = H2 a
    exact upd_ne fun z => by
      rw [z, h] at e
      cases e
  | some _ => rfl
end
/-- [e for k in range(n)], each turn draws from the bag and gives new data -/
theorem lc_bagS {te : TE} {tt : TT} {σ : L2.St} {H : Hp} {b p : Addr} {j n : Nat} {vs : List Nat} {Dl : Addr} {Qd : Hp → Prop} (good : D → Prop) (B : Bag b p H) (hD : H Dl = none) (hz : n ≤ 100000)
    (hw : ∀ x, wipe ((wipe σ vs).set j (some x)) vs = wipe σ vs) (he : ∀ σ' H' (R : Bool → Hp → Prop), R true H' → tt σ' H' R)
    (hv : ∀ (i : Nat) (H' : Hp) (R : VK), i < n → Go b p H H' → (∀ y d H2, Go b p H' H2 → Dv (newof H' H2) y d → good d → R y H2) → te ((wipe σ vs).set j (some (.int (i : Int)))) H' R)
    (q : ∀ H' acc ds, Go b p H H' → H' Dl = some (.lst acc) → DvL (newof (upd H Dl (.lst [])) H') acc ds → (∀ d ∈ ds, good d) → ds.length = n → Qd H') :
    ∃ W : Nat → Nat → Hp → Prop, (∃ m, W 0 m (upd H Dl (.lst []))) ∧ ∀ i m H, W i m H → ((Itr 0 n).stop i H ∧ Qd H) ∨ ((Itr 0 n).go i H ∧ ∃ Nx : Hp → Prop, (∀ H', Nx H' → ∃ m', m' < m ∧ W (i + 1) m' H') ∧
      ∀ x H', (Itr 0 n).yld i H x H' → gName j x (wipe σ vs) H' fun σ2 H2 => wipe σ2 vs = wipe σ vs ∧ tt σ2 H2 fun b H3 => if b = true then te σ2 H3 fun y H4 => ∃ acc, H4 Dl = some (.lst acc) ∧ acc.length < sizeLine ∧ Nx (upd H4 Dl (.lst (acc ++ [y]))) else Nx H3) := by
  have nb := B.b_ne hD
  refine lc_range (lo := 0) (fun i H' => Go b p H H' ∧ ∃ acc ds, H' Dl = some (.lst acc) ∧ DvL (newof (upd H Dl (.lst [])) H') acc ds ∧ (∀ d ∈ ds, good d) ∧ ds.length = i)
    ⟨(Go.refl B).new hD, [], [], upd_same, .nil, fun _ h => (by cases h), rfl⟩ ?_ ?_
  · rintro i H1 hi ⟨g, acc, ds, hl, hds, hg, hn⟩
    refine ⟨hw _, he _ _ _ ?_⟩
    rw [if_pos rfl]
    have e0 : (0 : Int) + (i : Int) = (i : Int) := by omega
    rw [e0]
    refine hv i H1 _ hi g fun y d H2 g2 hy gd => ⟨acc, g2.at nb hl, ?_, (g.trans g2).mut B hD, acc ++ [y], ds ++ [d], upd_same, ?_, ?_, ?_⟩
    · have := hds.len
      exact szl (by omega)
    · have hDl : (upd H Dl (.lst [])) Dl = some (.lst []) := upd_same
      rw [newof_upd hDl]
      have B1 : Bag b p (upd H Dl (.lst [])) := ((Go.refl B).new hD).B
      refine (hds.same (newof_go B1 g2) _ _).app (.cons (hy.same (newof_lift fun a ha => ?_) _ _) .nil)
      have n1 : a ≠ Dl := fun z => by
        rw [z, hl] at ha
        cases ha
      rw [upd_ne n1]
      exact g.free ha
    · intro d' hd'
      rcases List.mem_append.mp hd' with h | h
      · exact hg d' h
      · rw [List.mem_singleton.mp h]
        exact gd
    · rw [List.length_append, hn]
      rfl
  · rintro H' ⟨g, acc, ds, hl, hds, hg, hn⟩
    exact q H' acc ds g hl hds hg hn
/-- [e for k in range(n)], each turn draws from the bag and gives new data -/
theorem lc_bag {te : TE} {tt : TT} {σ : L2.St} {H : Hp} {b p : Addr} {j n : Nat} {vs : List Nat} {Dl : Addr} {Qd : Hp → Prop} (good : D → Prop) (B : Bag b p H) (hD : H Dl = none) (hz : n ≤ 100000)
    (hw : ∀ x, wipe ((wipe σ vs).set j (some x)) vs = wipe σ vs) (he : ∀ σ' H' (R : Bool → Hp → Prop), R true H' → tt σ' H' R)
    (hv : ∀ (i : Nat) (H' : Hp) (R : VK), i < n → Go b p H H' → (∀ y d H2, Go b p H' H2 → Dv (newof H' H2) y d → good d → R y H2) → te ((wipe σ vs).set j (some (.int (i : Int)))) H' R)
    (q : ∀ H' acc ds, Go b p H H' → H' Dl = some (.lst acc) → DvL (newof H H') acc ds → (∀ d ∈ ds, good d) → ds.length = n → Qd H') :
    ∃ W : Nat → Nat → Hp → Prop, (∃ m, W 0 m (upd H Dl (.lst []))) ∧ ∀ i m H, W i m H → ((Itr 0 n).stop i H ∧ Qd H) ∨ ((Itr 0 n).go i H ∧ ∃ Nx : Hp → Prop, (∀ H', Nx H' → ∃ m', m' < m ∧ W (i + 1) m' H') ∧
      ∀ x H', (Itr 0 n).yld i H x H' → gName j x (wipe σ vs) H' fun σ2 H2 => wipe σ2 vs = wipe σ vs ∧ tt σ2 H2 fun b H3 => if b = true then te σ2 H3 fun y H4 => ∃ acc, H4 Dl = some (.lst acc) ∧ acc.length < sizeLine ∧ Nx (upd H4 Dl (.lst (acc ++ [y]))) else Nx H3) :=
  lc_bagS good B hD hz hw he hv fun H' acc ds g hl hds hg hn => q H' acc ds g hl (hds.same (newof_lift fun a ha => by
    by_cases z : a = Dl
    · rw [z]
      exact hD
    · rwa [upd_ne z] at ha) _ _) hg hn
/-- [f(x) for x in xs] over a list, f leaves what stands -/
theorem lc_listF {K : PySem.W.Frag} {te : TE} {tt : TT} {σ : L2.St} {H : Hp} {a : Addr} {xs : List V} {j : Nat} {vs : List Nat} {Dl : Addr} {Qd : Hp → Prop} (f : V → V) (hT : SqL K H a xs) (hD : H Dl = none) (hz : xs.length ≤ 100000)
    (hw : ∀ x, wipe ((wipe σ vs).set j (some x)) vs = wipe σ vs) (he : ∀ σ' H' (R : Bool → Hp → Prop), R true H' → tt σ' H' R)
    (hv : ∀ (x : V) (H' : Hp) (R : VK), Same H H' → x ∈ xs → (∀ H2, Same H' H2 → R (f x) H2) → te ((wipe σ vs).set j (some x)) H' R)
    (q : ∀ H', Same H H' → H' Dl = some (.lst (xs.map f)) → Qd H') :
    ∃ W : Nat → Nat → Hp → Prop, (∃ m, W 0 m (upd H Dl (.lst []))) ∧ ∀ i m H, W i m H → ((Itl K a).stop i H ∧ Qd H) ∨ ((Itl K a).go i H ∧ ∃ Nx : Hp → Prop, (∀ H', Nx H' → ∃ m', m' < m ∧ W (i + 1) m' H') ∧
      ∀ x H', (Itl K a).yld i H x H' → gName j x (wipe σ vs) H' fun σ2 H2 => wipe σ2 vs = wipe σ vs ∧ tt σ2 H2 fun b H3 => if b = true then te σ2 H3 fun y H4 => ∃ acc, H4 Dl = some (.lst acc) ∧ acc.length < sizeLine ∧ Nx (upd H4 Dl (.lst (acc ++ [y]))) else Nx H3) := by
  refine lc_list (fun i H' => Same H H' ∧ H' Dl = some (.lst ((xs.take i).map f))) ⟨Same.new hD, upd_same⟩ (fun i H' _ h => Evl.ex_l h.1 hT) ?_ ?_
  · rintro i x H1 hx ⟨k, hl⟩
    refine ⟨hw _, he _ _ _ ?_⟩
    rw [if_pos rfl]
    refine hv x H1 _ k (tk hx) fun H2 k2 => ⟨_, k2 _ _ hl, ?_, Same.upd (k.trans k2) hD, ?_⟩
    · rw [List.length_map]
      refine szl ?_
      rw [List.length_take]
      omega
    · rw [take_succ' hx, List.map_append]
      exact upd_same
  · rintro H' ⟨k, hl⟩
    refine q H' k ?_
    rw [List.take_length] at hl
    exact hl
end Fm
namespace Fm
open PySem PySem.Spec PyProof.Rows L2
theorem ok_app {x y : Str} (hx : PyData.strOk x = true) (hy : PyData.strOk y = true) : PyData.strOk (x ++ y) = true := by
  unfold PyData.strOk at *
  show (x.cps ++ y.cps).all _ = true
  rw [Array.all_append, hx, hy]
  rfl
theorem ok_join {ys : List Str} (h : ∀ y ∈ ys, PyData.strOk y = true) : PyData.strOk (Txt.join "" ys) = true := by
  have e : Txt.join "" ys = Str.join "" ys := StrLaws.glued_eq_join _ _
  rw [e]
  clear e
  induction ys with
  | nil => decide +kernel
  | cons x r ih =>
    cases r with
    | nil => exact h x List.mem_cons_self
    | cons y r => exact ok_app (ok_app (h x List.mem_cons_self) (by decide +kernel)) (ih fun z hz => h z (List.mem_cons_of_mem _ hz))
theorem len_join {ys : List Str} (h : ∀ y ∈ ys, y.length ≤ 1) : (Txt.join "" ys).length ≤ ys.length := by
  have e : Txt.join "" ys = Str.join "" ys := StrLaws.glued_eq_join _ _
  rw [e]
  refine Nat.le_trans (StrLaws.join_length_le _ _) ?_
  have z : (("" : String) : Str).length = 0 := rfl
  rw [z, Nat.mul_zero, Nat.add_zero]
  clear e
  induction ys with
  | nil => simp
  | cons x r ih =>
    have h1 := h x List.mem_cons_self
    have h2 := ih fun y hy => h y (List.mem_cons_of_mem _ hy)
    rw [List.map_cons, List.sum_cons, List.length_cons]
    omega
theorem sum_len {ys : List Str} (h : ∀ y ∈ ys, y.length ≤ 1) : (ys.map (·.length)).sum ≤ ys.length := by
  induction ys with
  | nil => simp
  | cons x r ih =>
    have h1 := h x List.mem_cons_self
    have h2 := ih fun y hy => h y (List.mem_cons_of_mem _ hy)
    rw [List.map_cons, List.sum_cons, List.length_cons]
    omega
/-- strings as data, and back -/
theorem dvl_strs {H : Hp} {m : Nat} : ∀ {acc : List V} {ds : List D}, DvL H acc ds → (∀ d ∈ ds, ∃ x, d = .str x ∧ PyData.strOk x = true ∧ x.length ≤ m) → ∃ ys : List Str, acc = ys.map V.str ∧ (∀ y ∈ ys, PyData.strOk y = true ∧ y.length ≤ m) ∧ ys.length = ds.length
  | _, _, .nil, _ => ⟨[], rfl, fun _ h => (by cases h), rfl⟩
  | _, _, .cons a b, h => by
    obtain ⟨ys, e, f, g⟩ := dvl_strs b fun d hd => h d (List.mem_cons_of_mem _ hd)
    obtain ⟨x, rfl, o, l⟩ := h _ List.mem_cons_self
    cases a
    refine ⟨x :: ys, by rw [e]; rfl, fun y hy => ?_, by simp [g]⟩
    rcases List.mem_cons.mp hy with rfl | hy
    · exact ⟨o, l⟩
    · exact f y hy
/-- a sign of a written text at an int below its length -/
theorem sign_at {x : Str} {i : Int} (h0 : 0 ≤ i) (h1 : i < x.length) : ∃ c, atI x.cps.toList i = some c ∧ (PyData.strOk x = true → PyData.strOk ⟨#[c]⟩ = true) := by
  obtain ⟨k, rfl⟩ := Int.eq_ofNat_of_zero_le h0
  have l : x.cps.toList.length = x.length := by simp [Str.length]
  have lt : k < x.cps.toList.length := by omega
  refine ⟨x.cps.toList[k], atI_nat (List.getElem?_eq_getElem lt), fun o => ok_part o fun c hc => ?_⟩
  simp only [List.mem_singleton] at hc
  rw [hc]
  exact List.getElem_mem lt
theorem cut_len_le {x : Str} {lo hi : Option Int} : (cutS x lo hi).length ≤ x.length := by
  unfold cutS
  show (List.toArray _).size ≤ _
  rw [List.size_toArray, List.length_take, List.length_drop]
  have l : x.cps.toList.length = x.length := by simp [Str.length]
  omega
theorem len_app (x y : Str) : (x ++ y).length = x.length + y.length := by
  show (x.cps ++ y.cps).size = _
  rw [Array.size_append]
  rfl
/-- the law's bag made of the script -/
def spBag (K : PySem.W.Frag) : Sp := fun vs H Q _ => ∃ (a : Addr) (ns : List Int), vs = [.ref a] ∧ SqL K H a (ns.map V.int) ∧ ns.length ≤ 63 ∧ ∀ b p H', H b = none → Same H H' → Bag b p H' → Q (.ref b) H'
/-- some names -/
def spNames : Sp := fun vs H Q _ => ∃ b p n, vs = [.ref b, .int n] ∧ Bag b p H ∧ 0 ≤ n ∧ n ≤ 20 ∧
  ∀ (l : Addr) (H' : Hp) (xs : List Str), Go b p H H' → newof H H' l = some (.lst (xs.map V.str)) → (xs.length : Int) = n → (∀ x ∈ xs, PyData.strOk x = true ∧ x.length ≤ 30) → Q (.ref l) H'
end Fm
namespace Fm
open PySem PySem.Spec PyProof.Rows L2
theorem cut_strs (ws : List Str) (lo hi : Option Int) : ∃ zs : List Str, cutV (ws.map V.str) lo hi = zs.map V.str ∧ (∀ z ∈ zs, z ∈ ws) ∧ zs.length = min (HT.sIx ws.length ws.length hi - HT.sIx ws.length 0 lo) (ws.length - HT.sIx ws.length 0 lo) := by
  unfold cutV
  rw [List.length_map, ← List.map_drop, ← List.map_take]
  refine ⟨_, rfl, fun z hz => List.mem_of_mem_drop (List.mem_of_mem_take hz), ?_⟩
  rw [List.length_take, List.length_drop]
theorem sIx_none (n d : Nat) : HT.sIx n d none = d := rfl
theorem sIx_at {n d : Nat} {i : Int} (h : 0 ≤ i) : HT.sIx n d (some i) = min i.toNat n := by
  show (if i < 0 then (i + (n : Int)).toNat else min i.toNat n) = _
  rw [if_neg (by omega)]
end Fm
namespace Fm
open PySem PySem.Spec PyProof.Rows L2
/-- a term as a law makes it: an int, or a tuple of a text and terms -/
inductive Tm : D → Prop
  | int (i : Int) : Tm (.int i)
  | tup (x : Str) (ds : List D) : (∀ d ∈ ds, Tm d) → Tm (.tup (.str x :: ds))
/-- a list of names that stands in the heap -/
structure Names (nm b : Addr) (H : Hp) (xs : List Str) : Prop where
  at_ : H nm = some (.lst (xs.map V.str))
  ne : nm ≠ b
  pos : 1 ≤ xs.length
  few : xs.length ≤ 20
  ok : ∀ x ∈ xs, PyData.strOk x = true ∧ x.length ≤ 30
theorem Names.go {nm b p : Addr} {H H' : Hp} {xs : List Str} (N : Names nm b H xs) (g : Go b p H H') : Names nm b H' xs := ⟨g.at N.ne N.at_, N.ne, N.pos, N.few, N.ok⟩
theorem Names.get {nm b : Addr} {H : Hp} {xs : List Str} (N : Names nm b H xs) {i : Int} (h0 : 0 ≤ i) (h1 : i < xs.length) : ∃ x, atI (xs.map V.str) i = some (.str x) ∧ PyData.strOk x = true ∧ x.length ≤ 30 := by
  obtain ⟨k, rfl⟩ := Int.eq_ofNat_of_zero_le h0
  have lt : k < xs.length := by omega
  refine ⟨xs[k], atI_nat ?_, N.ok _ (List.getElem_mem lt)⟩
  rw [List.getElem?_map, List.getElem?_eq_getElem lt]
  rfl
/-- how great a term of so many levels may be -/
def Sized (k : Nat) (d : D) : Prop := d.deep ≤ k ∧ d.size + 16 ≤ 17 * 3 ^ k
theorem sizes_le {ds : List D} {n : Nat} (h : ∀ d ∈ ds, d.size + 16 ≤ n) : sizes ds + 16 * ds.length ≤ n * ds.length := by
  induction ds with
  | nil => simp [sizes]
  | cons x r ih =>
    have h1 := h x List.mem_cons_self
    have h2 := ih fun y hy => h y (List.mem_cons_of_mem _ hy)
    simp only [sizes, List.length_cons, Nat.mul_add, Nat.mul_one]
    omega
theorem deeps_le {ds : List D} {n : Nat} (h : ∀ d ∈ ds, d.deep ≤ n) : deeps ds ≤ n := by
  induction ds with
  | nil => simp [deeps]
  | cons x r ih =>
    have h1 := h x List.mem_cons_self
    have h2 := ih fun y hy => h y (List.mem_cons_of_mem _ hy)
    simp only [deeps]
    omega
theorem Sized.tup {k : Nat} {x : Str} {ds : List D} (lx : x.length ≤ 30) (l3 : ds.length ≤ 3) (h : ∀ d ∈ ds, Sized k d) : Sized (k + 1) (.tup (.str x :: ds)) := by
  have h1 := deeps_le fun d hd => (h d hd).1
  have h2 := sizes_le fun d hd => (h d hd).2
  have h3 : 17 * 3 ^ k * ds.length ≤ 17 * 3 ^ k * 3 := Nat.mul_le_mul_left _ l3
  have h4 : 1 ≤ 3 ^ k := Nat.one_le_pow _ _ (by decide)
  refine ⟨?_, ?_⟩
  · simp only [D.deep, deeps]
    omega
  · simp only [D.size, sizes]
    have e : 17 * 3 ^ (k + 1) = 17 * 3 ^ k * 3 := by rw [Nat.pow_succ]; omega
    rw [e]
    -- three parts, or fewer
    rcases (by omega : ds.length = 0 ∨ ds.length = 1 ∨ ds.length = 2 ∨ ds.length = 3) with z | z | z | z <;> rw [z] at h2 <;> omega
/-- _law_term of a bag, names, so many unknowns and k levels, k below m -/
def spTerm (m : Nat) : Sp := fun vs H Q _ => ∃ (b p nm : Addr) (xs : List Str) (many : Int) (k : Nat) (deep : Int), vs = [.ref b, .ref nm, .int many, .int deep] ∧ deep = (k : Int) ∧ Bag b p H ∧ Names nm b H xs ∧ 0 < many ∧ many ≤ 1000 ∧ k < m ∧ k ≤ 100 ∧
  ∀ v H' d, Go b p H H' → Dv (newof H H') v d → Tm d → Sized k d → Q v H'
end Fm
set_option maxRecDepth 100000
set_option maxHeartbeats 2000000
/-! Fm: written data. -/
namespace Fm
open PySem PySem.Spec PyProof.Rows L2
/-- an expression that makes this data anew, all that stood standing -/
def Ed (te : TE) (d : D) : Prop := ∀ σ H (Q : VK), (∀ v H', Same H H' → Dv (newof H H') v d → Q v H') → te σ H Q
def EdA (ta : TA) (ds : List D) : Prop := ∀ σ H (Q : List V → Hp → Prop), (∀ vs H', Same H H' → DvL (newof H H') vs ds → Q vs H') → ta σ H Q
theorem ed_non : Ed (tC .non) .non := fun _ H _ q => q _ _ (Same.refl H) .non
theorem ed_bl {b : Bool} : Ed (tC (.bl b)) (.bl b) := fun _ H _ q => q _ _ (Same.refl H) (.bl b)
theorem ed_int {i : Int} : Ed (tC (.int i)) (.int i) := fun _ H _ q => q _ _ (Same.refl H) (.int i)
theorem ed_str {x : Str} (h : PyData.strOk x = true) : Ed (tC (.str x)) (.str x) := fun _ H _ q => q _ _ (Same.refl H) (.str x h)
theorem ed_neg {i : Int} : Ed (tUn (rU fun i => .int (-i)) (tC (.int i))) (.int (-i)) := fun _ H _ q => ⟨i, rfl, q _ _ (Same.refl H) (.int _)⟩
theorem eda_nil : EdA tNil [] := fun _ H _ q => q _ _ (Same.refl H) .nil
theorem eda_cons {te : TE} {ta : TA} {d : D} {ds : List D} (h : Ed te d) (h2 : EdA ta ds) : EdA (tCons te ta) (d :: ds) := fun σ H Q q =>
  h σ H _ fun v H1 k1 h1 => h2 σ H1 _ fun vs H2 k2 h3 => q _ _ (k1.trans k2) (.cons (h1.same (newof_same k2) _ _) (h3.same (newof_lift fun _ ha => k1.free ha) _ _))
theorem ed_tup {ta : TA} {ds : List D} (h : EdA ta ds) (hl : ds.length ≤ 1000) : Ed (tTup ta) (.tup ds) := fun σ H Q q =>
  h σ H _ fun vs H1 k1 h1 => ⟨sz (by have := h1.len; omega), fun p hp => q _ _ (k1.trans (Same.new hp)) (.tup (newof_of (k1.free hp) upd_same) (h1.same (newof_same (Same.new hp)) _ _))⟩
theorem ed_lst {ta : TA} {ds : List D} (h : EdA ta ds) (hl : ds.length ≤ 1000) : Ed (tLst ta) (.lst ds) := fun σ H Q q =>
  h σ H _ fun vs H1 k1 h1 => ⟨sz (by have := h1.len; omega), fun p hp => q _ _ (k1.trans (Same.new hp)) (.lst (newof_of (k1.free hp) upd_same) (h1.same (newof_same (Same.new hp)) _ _))⟩
theorem ed_asg {te : TE} {d : D} {i : Nat} {D' : Ends} {σ : L2.St} {H : Hp} (h : Ed te d) (k : ∀ v H', Same H H' → Dv (newof H H') v d → D'.nx (σ.set i (some v)) H') : tAsg te (gName i) D' σ H := h σ H _ k
theorem ed_dic : Ed tDNewK .dic := fun _ H _ q p hp => q _ _ (Same.new hp) (.dic (newof_of hp upd_same))
theorem Ed.use {te : TE} {d : D} {σ : L2.St} {H : Hp} {Q : VK} (h : Ed te d) (k : ∀ v H', Same H H' → Dv (newof H H') v d → Q v H') : te σ H Q := h σ H Q k
/-- _law_odd: a small piece of data -/
def spOdd : Sp := fun vs H Q _ => ∃ b p, vs = [.ref b] ∧ Bag b p H ∧ ∀ v H' d, Go b p H H' → Dv (newof H H') v d → d.deep ≤ 3 → d.size ≤ 40 → Q v H'
end Fm
namespace Fm
open PySem PySem.Spec PyProof.Rows L2
theorem split_at {ds : List D} {k : Nat} (h : k < ds.length) : ds = ds.take k ++ (ds[k] :: ds.drop (k + 1)) := by
  have e := List.take_append_drop k ds
  rw [List.drop_eq_getElem_cons h] at e
  exact e.symm
theorem cut_to {us : List V} {k : Nat} (h : k < us.length) : cutV us none (some (k : Int)) = us.take k ∧ ¬ (HT.sIx us.length 0 none = 0 ∧ HT.sIx us.length us.length (some (k : Int)) = us.length) := by
  have e : HT.sIx us.length us.length (some (k : Int)) = k := by
    rw [HT.sIx_nat]
    omega
  have e0 : HT.sIx us.length 0 none = 0 := rfl
  constructor
  · unfold cutV
    rw [e, e0]
    rfl
  · rintro ⟨_, z⟩
    rw [e] at z
    omega
theorem cut_from {us : List V} {k : Nat} (h : 0 < k) (h2 : k ≤ us.length) : cutV us (some (k : Int)) none = us.drop k ∧ ¬ (HT.sIx us.length 0 (some (k : Int)) = 0 ∧ HT.sIx us.length us.length none = us.length) := by
  have e : HT.sIx us.length 0 (some (k : Int)) = k := by
    rw [HT.sIx_nat]
    omega
  constructor
  · unfold cutV
    rw [e]
    exact List.take_of_length_le (by rw [List.length_drop]; exact Nat.le_refl _)
  · rintro ⟨z, _⟩
    rw [e] at z
    omega
/-- _law_spoilt of a bag and a term -/
def spSpoilt (m : Nat) : Sp := fun vs H Q _ => ∃ b p v d, vs = [.ref b, v] ∧ Bag b p H ∧ Dv (mask b H) v d ∧ Tm d ∧ d.deep < m ∧ d.deep ≤ 90 ∧ d.size ≤ 50000 ∧
  ∀ v' H' d', Go b p H H' → Dv (mask b H') v' d' → d'.deep ≤ d.deep + 3 → d'.size ≤ d.size + 40 → Q v' H'
theorem mask_new {b q : Addr} {H : Hp} {o : HO} (n : q ≠ b) : mask b (upd H q o) q = some o := by
  rw [mask_ne n]
  exact upd_same
end Fm
namespace Fm
open PySem PySem.Spec PyProof.Rows L2
theorem ed_pow {i j : Int} (h : CPow i j) : Ed (tOp (rI CPow fun i j => .int (i ^ j.toNat)) (tC (.int i)) (tC (.int j))) (.int (i ^ j.toNat)) := fun _ H _ q => ⟨i, j, rfl, rfl, h, q _ _ (Same.refl H) (.int _)⟩
theorem op_or {X : Cx} {f : Value → Value → Sem Value} {r1 r2 : R2} (h1 : OpR X f r1) (h2 : OpR X f r2) : OpR X f (fun x y H Q => r1 x y H Q ∨ r2 x y H Q) := fun pins s σ H x y v u Q I rx ry h => by
  rcases h with h | h
  · exact h1 pins s σ H x y v u Q I rx ry h
  · exact h2 pins s σ H x y v u Q I rx ry h
/-- one of some written texts -/
theorem text_at {xs : List Str} {i : Int} (h0 : 0 ≤ i) (h1 : i < xs.length) : ∃ x, atI (xs.map V.str) i = some (.str x) ∧ x ∈ xs := by
  obtain ⟨k, rfl⟩ := Int.eq_ofNat_of_zero_le h0
  have lt : k < xs.length := by omega
  refine ⟨xs[k], atI_nat ?_, List.getElem_mem lt⟩
  rw [List.getElem?_map, List.getElem?_eq_getElem lt]
  rfl
mutual
def noDic : D → Bool
  | .tup ds => noDics ds
  | .lst ds => noDics ds
  | .dic => false
  | _ => true
def noDics : List D → Bool
  | [] => true
  | d :: ds => noDic d && noDics ds
end
theorem noDics_of {ds : List D} (h : ∀ d ∈ ds, noDic d = true) : noDics ds = true := by
  induction ds with
  | nil => rfl
  | cons x r ih =>
    simp only [noDics, h x List.mem_cons_self, Bool.true_and]
    exact ih fun y hy => h y (List.mem_cons_of_mem _ hy)
theorem Tm.noDic {d : D} (t : Tm d) : Fm.noDic d = true := by
  induction t with
  | int i => rfl
  | tup x ds _ ih =>
    simp only [Fm.noDic, noDics, Bool.true_and]
    exact noDics_of ih
mutual
theorem dp_of {K : PySem.W.Frag} {H : Hp} : ∀ (d : D) (v : V), Dv H v d → noDic d = true → ∃ pd, Dp K H v pd ∧ pd.canLay0 = true ∧ pd.depth ≤ d.deep + 1
  | .non, _, h, _ => by cases h; exact ⟨_, .non, rfl, by simp [PyData.depth]⟩
  | .bl _, _, h, _ => by cases h; exact ⟨_, .bl _, rfl, by simp [PyData.depth]⟩
  | .int _, _, h, _ => by cases h; exact ⟨_, .int _, rfl, by simp [PyData.depth]⟩
  | .str _, _, h, _ => by
    cases h with
    | str _ o => exact ⟨_, .str _, by simpa [PyData.canLay0] using o, by simp [PyData.depth]⟩
  | .tup ds, _, h, n => by
    cases h with
    | tup a b =>
      obtain ⟨ps, h1, h2, h3⟩ := dps_of ds _ b (by simpa [noDic] using n)
      exact ⟨_, .tup (SqT.of a) h1, by simpa [PyData.canLay0] using h2, by simp only [PyData.depth, D.deep]; omega⟩
  | .lst ds, _, h, n => by
    cases h with
    | lst a b =>
      obtain ⟨ps, h1, h2, h3⟩ := dps_of ds _ b (by simpa [noDic] using n)
      exact ⟨_, .lst (SqL.of a) h1, by simpa [PyData.canLay0] using h2, by simp only [PyData.depth, D.deep]; omega⟩
  | .dic, _, _, n => by simp [noDic] at n
theorem dps_of {K : PySem.W.Frag} {H : Hp} : ∀ (ds : List D) (vs : List V), DvL H vs ds → noDics ds = true → ∃ ps, DpAll K H vs ps ∧ PyData.canLayAll0 ps = true ∧ PyData.depthAll ps ≤ deeps ds + 1
  | [], _, h, _ => by cases h; exact ⟨[], .nil, by simp [PyData.canLayAll0], by simp [PyData.depthAll]⟩
  | d :: ds, _, h, n => by
    cases h with
    | cons a b =>
      have n' : noDic d = true ∧ noDics ds = true := by simpa [noDics] using n
      obtain ⟨p, h1, h2, h3⟩ := dp_of d _ a n'.1
      obtain ⟨ps, h4, h5, h6⟩ := dps_of ds _ b n'.2
      exact ⟨p :: ps, .cons h1 h4, by simp [PyData.canLayAll0, h2, h5], by simp only [PyData.depthAll, deeps]; omega⟩
end
def spText : Sp := fun vs H Q _ => ∃ b p, vs = [.ref b] ∧ Bag b p H ∧ ∀ x H', Go b p H H' → PyData.strOk x = true → x.length ≤ 13 → Q (.str x) H'
/-- a thing to look at -/
def spThing : Sp := fun vs H Q _ => ∃ b p nm xs, vs = [.ref b, .ref nm] ∧ Bag b p H ∧ Names nm b H xs ∧ ∀ v H' d, Go b p H H' → Dv (mask b H') v d → d.deep ≤ 50 → d.size ≤ 50000 → Q v H'
end Fm
namespace Fm
open PySem PySem.Spec PyProof.Rows L2
theorem sizes_set {ds : List D} {d : D} (n : Nat) : sizes (ds.set n d) ≤ sizes ds + d.size := by
  induction ds generalizing n with
  | nil => simp [sizes]
  | cons x r ih =>
    cases n with
    | zero => simp only [List.set_cons_zero, sizes]; omega
    | succ n => have := ih n; simp only [List.set_cons_succ, sizes]; omega
theorem deeps_set {ds : List D} {d : D} (n : Nat) : deeps (ds.set n d) ≤ max (deeps ds) d.deep := by
  induction ds generalizing n with
  | nil => simp [deeps]
  | cons x r ih =>
    cases n with
    | zero => simp only [List.set_cons_zero, deeps]; omega
    | succ n => have := ih n; simp only [List.set_cons_succ, deeps]; omega
theorem ixN_at {n k : Nat} (h : k < n) : ixN n (k : Int) = some k := by
  unfold ixN
  rw [if_pos (by omega), if_pos (by omega)]
  simp
end Fm
namespace Fm
open PySem PySem.Spec PyProof.Rows L2
/-- (v,) * k, k from 0 to 2 -/
def rRep3 : R2 := fun x y H Q => ∃ l k v, x = .ref l ∧ y = .int k ∧ H l = some (.tup [v]) ∧ 0 ≤ k ∧ k ≤ 2 ∧ ∀ r H', Same H H' → H' r = some (.tup (List.replicate k.toNat v)) → Q (.ref r) H'
theorem op_rep3 {X : Cx} : OpR X (binaryOp .Mult) rRep3 := by
  intro pins s σ H x y v u Q I rx ry h
  obtain ⟨l, k, w1, rfl, rfl, hl, k0, k2, q⟩ := h
  refine op_or op_rep1 op_repT pins s σ H _ _ v u Q I rx ry ?_
  rcases (by omega : k = 0 ∨ k = 1 ∨ k = 2) with rfl | rfl | rfl
  · exact .inl ⟨l, 0, w1, rfl, rfl, SqT.of hl, .inl rfl, fun _ p hp => q p _ (Same.new hp) upd_same, fun z => (by cases z)⟩
  · exact .inl ⟨l, 1, w1, rfl, rfl, SqT.of hl, .inr rfl, fun z => (by cases z), fun _ => q l H (Same.refl H) hl⟩
  · exact .inr ⟨l, 2, [w1], rfl, rfl, SqT.of hl, by simp, by decide, by decide, by simp, fun p hp => q p _ (Same.new hp) upd_same⟩
theorem dvl_rep {H : Hp} {v : V} {d : D} (h : Dv H v d) : ∀ n : Nat, DvL H (List.replicate n v) (List.replicate n d)
  | 0 => .nil
  | n + 1 => .cons h (dvl_rep h n)
end Fm
namespace Fm
open PySem PySem.Spec PyProof.Rows L2
theorem areTerms_set {ds : List D} {d : D} (n : Nat) (h : ∀ x ∈ ds, isTerm x = true) (lt : n < ds.length) : areTerms (ds.set n d) = isTerm d := by
  induction ds generalizing n with
  | nil => simp at lt
  | cons x r ih =>
    have hx := h x List.mem_cons_self
    have hr : areTerms r = true := by
      rw [areTerms_all]
      exact List.all_eq_true.mpr fun y hy => h y (List.mem_cons_of_mem _ hy)
    cases n with
    | zero => simp only [List.set_cons_zero, areTerms, hr, Bool.and_true]
    | succ n =>
      simp only [List.set_cons_succ, areTerms, hx, Bool.true_and]
      exact ih n (fun y hy => h y (List.mem_cons_of_mem _ hy)) (by simpa using lt)
/-- the list of bools, as data -/
def bools (bs : List Bool) : PyData := .list (bs.map .bool)
theorem dp_bools {K : PySem.W.Frag} {H : Hp} {l : Addr} {bs : List Bool} (h : H l = some (.lst (bs.map V.bl))) : Dp K H (.ref l) (bools bs) := by
  refine .lst (SqL.of h) ?_
  clear h
  induction bs with
  | nil => exact .nil
  | cons b r ih => exact .cons (.bl b) ih
def spMany : Sp := fun vs H Q _ => ∃ b p, vs = [.ref b] ∧ Bag b p H ∧ ∀ H', Q (.bl true) H'
def spLaw (K : PySem.W.Frag) : Sp := fun vs H Q _ => ∃ (a : Addr) (ns : List Int), vs = [.ref a] ∧ SqL K H a (ns.map V.int) ∧ ns.length ≤ 63 ∧ ∀ H', Q (.bl true) H'
end Fm
namespace Fm
open PySem PySem.Spec PyProof.Rows L2
theorem bools5 : ∀ b1 b2 b3 b4 b5 : Bool, SeqAt.shaped (bools [b1, b2, b3, b4, b5]) = true ∧ (bools [b1, b2, b3, b4, b5]).showable = true ∧ (bools [b1, b2, b3, b4, b5]).hasDict = false ∧ (bools [b1, b2, b3, b4, b5]).depth ≤ 60 ∧
    (bools [b1, b2, b3, b4, b5]).shown.length ≤ sizeLine := by decide +kernel
end Fm
set_option maxRecDepth 100000
set_option maxHeartbeats 2000000
/-! Fm: rules for terms as numbered nodes: setdefault with tuples as keys, t[:0:-1]. -/
namespace Fm
open PySem PySem.Spec PyProof.Rows L2
section
variable {X : Cx}
/-- d.setdefault(t, v), keys are tuples -/
def rSetdT : V → List V → Hp → VK → Prop := fun x vs H Q => ∃ (a : Addr) (kvs : List (List L2.Key × V)) (k : List L2.Key) (b : Addr) (v : V), x = .ref a ∧ vs = [.ref b, v] ∧ H a = some (.dT kvs) ∧ H b = some (.tup (k.map kV)) ∧ kvs.length < sizeLine ∧
  (∀ w, valV kvs k = some w → Q w H) ∧ (valV kvs k = none → Q v (upd H a (.dT (kvs ++ [(k, v)]))))
theorem mt_setdT (hu : X.A.units + 1 < cLine) : MtR X "dict.setdefault" rSetdT := by
  intro pins s σ H x xs v us Q I rx rxs h
  obtain ⟨a, kvs, k, b, d, rfl, rfl, ha, hb, hl, q1, q2⟩ := h
  cases rx
  obtain ⟨u1, u2, rfl, r1, r2⟩ := vals2 rxs
  cases r1
  obtain ⟨z, hd, xs', rel, dd⟩ := dt_of I.hok ha
  have hz : xs'.length ≤ sizeLine := by rw [← Paired.length rel]; exact z
  refine call_setdefault_heap (knd := tupleKind (mixKind X.prog X.w)) (tupleKind_room_in1 hu) (key_of I.hok hb) hd dd (fun p hp => ?_) (fun hn h' dd' hs => ?_) hz
  · have r := rel.val k
    rw [hp] at r
    obtain ⟨v0, ev, rv⟩ : ∃ v0, valV kvs k = some v0 ∧ RelV v0 p.2 := by
      cases ev : valV kvs k with
      | none =>
        rw [ev] at r
        exact (show False from r).elim
      | some v0 =>
        rw [ev] at r
        exact ⟨v0, rfl, r⟩
    exact ⟨v0, H, I.tok _, rv, q1 v0 ev⟩
  · have r := rel.val k
    rw [hn] at r
    have e : valV kvs k = none := by
      cases ev : valV kvs k with
      | none => rfl
      | some v0 =>
        rw [ev] at r
        exact (show False from r).elim
    obtain ⟨q, es, ep, hq, h2, h3, h4, _, h5⟩ := dd'
    have hl2 : (putK kvs k d).length ≤ sizeLine := by have := length_putK kvs k d; omega
    have I2 := d_write (t' := s.toks + (tupleKind (mixKind X.prog X.w)).draws k) (ob := .dT (putK kvs k d)) I (by rw [ha]; exact True.intro) hs ⟨q, hq⟩ ⟨hl2, hd, _, (rel.put k hb r2).keeps fun c ys ec => (by
      rw [upd_ne (ne_of ec ha (fun z => nomatch z))]
      exact ec), q, es, ep, hq, h2, h3, h4, h5⟩
    rw [putK_new d e] at I2
    exact ⟨d, _, I2, r2, q2 e⟩
end
/-! ### t[:0:-1] -/
section
variable {prog : Program} {w : World} {A : Around} {E : Value → Shared → Prop} {s : Shared}
theorem adjust_back (n : Nat) : Builtin.Slice.sliceAdjust none (some 0) (-1) (n : Int) = ((n : Int) - 1, min 0 ((n : Int) - 1)) := by
  unfold Builtin.Slice.sliceAdjust
  simp
theorem places_back {n : Nat} (h : 1 ≤ n) : Builtin.Slice.slicePlaces ((n : Int) - 1) (min 0 ((n : Int) - 1)) (-1) = n - 1 := by
  unfold Builtin.Slice.slicePlaces
  have e : min (0 : Int) ((n : Int) - 1) = 0 := by omega
  rw [e]
  simp only [show ¬ ((-1 : Int) > 0) by decide, if_false, show (-(-1) : Int) = 1 by decide, Int.ediv_one]
  split <;> omega
theorem sliceApplied_back {sl : Addr} {vu vs : Value} {n : Nat} {Q : Int × Int × Nat → Shared → Prop} (hn : 1 ≤ n) (hs : s.heap.IsSliceOf sl .none vu vs) (pu : IsPart vu (some 0)) (ps : IsPart vs (some (-1)))
    (h : Q ((n : Int) - 1, -1, n - 1) s) : wpAny (model prog w) A (Builtin.Slice.sliceApplied (.ref sl) (pure (n : Int))) Q E s := by
  obtain ⟨os, hos, hcs, hds⟩ := id hs
  unfold Builtin.Slice.sliceApplied Builtin.Slice.sliceFields
  refine wpAny_bind (wpAny_bind (wpAny_field hos hds (x := .none) rfl (wpAny_bind (wpAny_field hos hds (x := vu) rfl (wpAny_bind (wpAny_field hos hds (x := vs) rfl (wpAny_pure ?_)))))))
  refine wpAny_bind (HT.slicePart_ ps ?_)
  show wpAny _ _ (if ((-1 : Int) == 0) = true then _ else _) _ _ s
  rw [if_neg (by decide)]
  refine wpAny_bind (HT.slicePart_ .none (wpAny_bind (HT.slicePart_ pu (wpAny_bind (wpAny_pure ?_)))))
  show wpAny _ _ (match Builtin.Slice.sliceAdjust none (some 0) (-1) (n : Int) with | (lo, hi) => pure (lo, (-1 : Int), Builtin.Slice.slicePlaces lo hi (-1))) _ _ s
  rw [adjust_back n]
  show wpAny _ _ (pure ((n : Int) - 1, (-1 : Int), Builtin.Slice.slicePlaces ((n : Int) - 1) (min 0 ((n : Int) - 1)) (-1))) _ _ s
  rw [places_back hn]
  exact wpAny_pure h
theorem fm_map {α β : Type} {f : α → Option β} {g : α → β} {l : List α} (h : ∀ m ∈ l, f m = some (g m)) : l.filterMap f = l.map g := by
  induction l with
  | nil => rfl
  | cons x r ih => rw [List.filterMap_cons, h x List.mem_cons_self, ih fun m hm => h m (List.mem_cons_of_mem _ hm)]; rfl
theorem pick_back (xs : Array Value) (h : 1 ≤ xs.size) : ((List.range (xs.size - 1)).filterMap fun (m : Nat) => xs[(((xs.size : Int) - 1) + (m : Int) * (-1)).toNat]?).toArray = (xs.toList.drop 1).reverse.toArray := by
  congr 1
  apply List.ext_getElem?
  intro i
  have e : (List.range (xs.size - 1)).filterMap (fun (m : Nat) => xs[(((xs.size : Int) - 1) + (m : Int) * (-1)).toNat]?) = (List.range (xs.size - 1)).map fun m => xs[xs.size - 1 - m]! := by
    refine fm_map fun m hm => ?_
    have lm := List.mem_range.mp hm
    have e1 : (((xs.size : Int) - 1) + (m : Int) * (-1)).toNat = xs.size - 1 - m := by omega
    have lt : xs.size - 1 - m < xs.size := by omega
    rw [e1, getElem!_pos xs (xs.size - 1 - m) lt]
    exact Array.getElem?_eq_getElem lt
  rw [e, List.getElem?_map]
  have l : xs.toList.length = xs.size := Array.length_toList
  by_cases hi : i < xs.size - 1
  · have lt : xs.size - 1 - i < xs.size := by omega
    rw [List.getElem?_range hi, List.getElem?_reverse (by rw [List.length_drop]; omega), List.length_drop, List.getElem?_drop, Option.map_some, getElem!_pos xs (xs.size - 1 - i) lt]
    have e2 : 1 + (xs.toList.length - 1 - 1 - i) = xs.size - 1 - i := by omega
    rw [e2, List.getElem?_eq_getElem (by omega)]
    rfl
  · rw [List.getElem?_eq_none (by rw [List.length_range]; omega), List.getElem?_eq_none (by rw [List.length_reverse, List.length_drop]; omega)]
    rfl
theorem getItem_tuple_back {t sl : Addr} {items : Array Value} {vu vs : Value} {Q : Value → Shared → Prop} (ht : IsTup s.heap t items) (hs : s.heap.IsSliceOf sl .none vu vs) (pu : IsPart vu (some 0)) (ps : IsPart vs (some (-1))) (hn : 1 ≤ items.size)
    (h : Q (.ref s.heap.objs.size) { s with heap := s.heap.push { cls := .type "tuple", data := .seq (items.toList.drop 1).reverse.toArray } })
    (hsz : items.size ≤ sizeLine) : wpAny (model prog w) A (getItem (.ref t) (.ref sl)) Q E s := by
  have htake : sizeOk (.seq (items.toList.drop 1).reverse.toArray) := by
    show (items.toList.drop 1).reverse.toArray.size ≤ sizeLine
    rw [List.size_toArray, List.length_reverse, List.length_drop, Array.length_toList]
    omega
  obtain ⟨os, hos, hcs, hds⟩ := id hs
  have hTs : s.TypeIs (.ref sl) "slice" := ⟨os, hos, hcs⟩
  unfold getItem
  try with_reducible refine wpAny_holding ?_
  first | refine wpAny_bind (wpAny_pure ?_) | skip
  refine wpAny_bind (wpAny_sequenceKey ht.typeIs (by decide) ?_)
  refine wpAny_bind (wpAny_callSpecial?_slot (name := Str.ofString "__getitem__") ht.typeIs PyProof.Rows.slot_tuple_getitem
    (wpAny_call_entry PyProof.Rows.slot_tuple_getitem ht.typeIs entry_tuple_getitem ?_ (args_tuple_getitem _ _)))
  show wpAny _ _ (Builtin.Tuple.tupleItemsOf (.ref t) >>= _) _ _ s
  refine wpAny_bind (tupleItemsOf_ ht ?_)
  refine wpAny_bind (wpAny_typeOf hTs ?_)
  rw [if_pos (by decide)]
  refine wpAny_bind (sliceApplied_back hn hs pu ps ?_)
  have hno : ¬ ((((items.size : Int) - 1) == 0 && (-1 : Int) == 1 && (items.size - 1) == items.size) = true) := by
    intro q
    rw [Bool.and_eq_true, Bool.and_eq_true] at q
    exact absurd q.1.2 (by decide)
  show wpAny _ _ (if (((items.size : Int) - 1) == 0 && (-1 : Int) == 1 && (items.size - 1) == items.size) = true then _ else _) _ _ s
  rw [if_neg hno, pick_back items hn]
  first
    | exact wpAny_bind (m := Builtin.Tuple.tupleExact _) (wpAny_newObj_type (wpAny_pure ⟨_, rfl, wpAny_pure h⟩) htake)
    | exact wpAny_bind (m := Builtin.Tuple.tupleExact _) (wpAny_newObj_type (wpAny_bind (wpAny_pure (wpAny_pure ⟨_, rfl, wpAny_pure h⟩))) htake)
    | exact wpAny_bind (wpAny_bind (m := Builtin.Tuple.tupleExact _) (wpAny_newObj_type (wpAny_pure (wpAny_pure ⟨_, rfl, wpAny_pure h⟩)) htake))
    | exact wpAny_bind (wpAny_bind (m := Builtin.Tuple.tupleExact _) (wpAny_newObj_type (wpAny_pure ⟨_, rfl, wpAny_pure h⟩) htake))
end
/-- t[:0:-1] -/
def tBack (K : PySem.W.Frag) (te : TE) : TE := fun σ H Q => te σ H fun x H1 => ∃ a xs, x = .ref a ∧ SqT K H1 a xs ∧ 1 ≤ xs.length ∧ ∀ p, H1 p = none → Q (.ref p) (upd H1 p (.tup (xs.drop 1).reverse))
theorem pe_back {X : Cx} {e : Expr} {te : TE} {k k0 : Nat} {p0 p1 p2 p3 pos : Pos} (he : PE X e te) : PE X (.Subscript e (.Slice none (some (.Constant (.int 0) k0 p0)) (some (.UnaryOp .USub (.Constant (.int 1) k p1) p2)) p3) pos) (tBack X.K te) := by
  refine ⟨fun pins s σ H Q I h => ?_⟩
  refine Subscript_ (thn (he.run pins s σ H _ I h) fun v s1 ⟨x, H1, I1, r1, q1⟩ => ?_)
  obtain ⟨a, xs, ex, hx, hn, q⟩ := q1
  subst ex
  cases r1
  have hup : PO X (some (.Constant (.int 0) k0 p0)) (tPart (tC (.int 0))) := po_some pe_int
  have hst : PO X (some (.UnaryOp .USub (.Constant (.int 1) k p1) p2)) (tPart (tUn (rU fun i => .int (-i)) (tC (.int 1)))) := po_some (pe_un un_neg pe_int)
  refine wpAny_Slice (thn (po_none.run pins s1 σ H1 (fun o H2 => o = none ∧ H2 = H1) I1 ⟨rfl, rfl⟩) fun vl s2 ⟨l, H2, I2, pl, el, e2⟩ => ?_)
  subst el e2
  refine thn (hup.run pins s2 σ H2 (fun o H3 => o = some 0 ∧ H3 = H2) I2 ⟨0, rfl, rfl, rfl⟩) fun vu s3 ⟨u, H3, I3, pu, eu, e3⟩ => ?_
  subst eu e3
  refine thn (hst.run pins s3 σ H3 (fun o H4 => o = some (-1) ∧ H4 = H3) I3 ⟨1, rfl, -1, rfl, rfl, rfl⟩) fun vs s4 ⟨o, H4, I4, ps, eo, e4⟩ => ?_
  subst eo e4
  cases pl
  have I5 : Inv X pins σ H4 { s4 with heap := s4.heap.push { cls := .type "slice", data := .fields #[.none, vu, vs] } } := I4.kept (t' := s4.toks) fun b ob q => Heap.get?_push_of_some _ q
  obtain ⟨its, r, ht, hz⟩ := I5.tuple hx
  have hlen := r.length
  show wpAny (model X.prog X.w) X.A (subscriptTail e (.Slice none (some (.Constant (.int 0) k0 p0)) (some (.UnaryOp .USub (.Constant (.int 1) k p1) p2)) p3) (.ref a) (.ref s4.heap.objs.size)) (EP X pins σ Q) X.xe { s4 with heap := s4.heap.push { cls := .type "slice", data := .fields #[.none, vu, vs] } }
  refine tail_any (ops := [.ref a, .ref s4.heap.objs.size]) ht.typeIs (PyProof.Rows.slot_tuple_getitem.lookup) ?_ (by with_unfolding_all rfl)
  refine getItem_tuple_back ht (Heap.IsSliceOf.new _ .none vu vs) pu ps (by rw [List.size_toArray]; omega) ?_ (by rw [List.size_toArray]; omega)
  refine ⟨.ref _, _, I5.laid (t' := s4.toks) (o := .tup (xs.drop 1).reverse) (fun b ob q => Heap.get?_push_of_some _ q) (Nat.le_refl _) ?_, rfl, q _ (I5.hok.fresh (Nat.le_refl _))⟩
  exact ⟨by rw [List.length_reverse, List.length_drop]; omega, _, (r.drop 1).reverse, IsTup.new _ _⟩
end Fm
set_option maxRecDepth 100000
set_option maxHeartbeats 2000000
/-! Fm: terms and what is in them, as trees. -/
namespace Fm
open PySem PySem.Spec PyProof.Rows L2
mutual
/-- a term and each part in it, from left to right -/
def flat : D → List D
  | .tup ds => .tup ds :: flatT ds
  | d => [d]
def flatT : List D → List D
  | [] => []
  | _ :: r => flats r
def flats : List D → List D
  | [] => []
  | d :: r => flat d ++ flats r
end
theorem flats_app (a b : List D) : flats (a ++ b) = flats a ++ flats b := by
  induction a with
  | nil => simp [flats]
  | cons x r ih => simp only [List.cons_append, flats, ih, List.append_assoc]
mutual
theorem flat_len : ∀ d : D, (flat d).length ≤ d.size
  | .non => by simp [flat, D.size]
  | .bl _ => by simp [flat, D.size]
  | .int _ => by simp [flat, D.size]
  | .str _ => by simp [flat, D.size]
  | .dic => by simp [flat, D.size]
  | .lst _ => by simp [flat, D.size]
  | .tup ds => by
    have := flatT_len ds
    simp only [flat, D.size, List.length_cons]
    omega
theorem flatT_len : ∀ ds : List D, (flatT ds).length ≤ sizes ds
  | [] => by simp [flatT]
  | x :: r => by
    have := flats_len r
    simp only [flatT, sizes]
    omega
theorem flats_len : ∀ ds : List D, (flats ds).length ≤ sizes ds
  | [] => by simp [flats]
  | x :: r => by
    have h1 := flat_len x
    have h2 := flats_len r
    simp only [flats, sizes, List.length_append]
    omega
end
theorem DvL.rev {H : Hp} {vs : List V} {ds : List D} (h : DvL H vs ds) : DvL H vs.reverse ds.reverse := by
  induction vs generalizing ds with
  | nil => cases h; exact .nil
  | cons v r ih =>
    cases h with
    | cons a b =>
      rw [List.reverse_cons, List.reverse_cons]
      exact (ih b).app (.cons a .nil)
theorem sizes_rev (ds : List D) : sizes ds.reverse = sizes ds := by
  induction ds with
  | nil => rfl
  | cons x r ih => rw [List.reverse_cons, sizes_app, ih]; simp only [sizes]; omega
theorem hu1 {k : Nat} {A : Around} (hr : Room k A) : A.units + 1 < cLine := by have := hr.units; omega
theorem hu0 {k : Nat} {A : Around} (hr : Room k A) : A.units < cLine := by have := hr.units; omega
/-- laid_out: what is told stands where the terms stand -/
def spLaid (K : PySem.W.Frag) : Sp := fun vs H Q _ => ∃ Hb a us ds, vs = [.ref a] ∧ Same Hb H ∧ (SqL K H a us ∨ SqT K H a us) ∧ DvL Hb us ds ∧ (∀ d ∈ ds, Tm d) ∧ sizes ds ≤ 100000 ∧
  ∀ l H' ws, Same H H' → H l = none → H' l = some (.lst ws) → DvL Hb ws (flats ds) → Q (.ref l) H'

/-! ### nodes -/
def parts : D → List D
  | .tup (_ :: r) => r
  | _ => []
theorem flat_eq (d : D) : flat d = d :: flats (parts d) := by
  cases d with
  | tup ds => cases ds <;> simp [flat, flatT, parts, flats]
  | _ => simp [flat, parts, flats]
theorem flats_cons (d : D) (ds : List D) : flats (d :: ds) = d :: flats (parts d ++ ds) := by
  rw [flats_app]
  simp only [flats, flat_eq d, List.cons_append]
theorem flats_split {t : D} {suf : List D} : ∀ {pre ds : List D}, flats ds = pre ++ t :: suf → ∃ rest, suf = flats (parts t ++ rest)
  | [], [], h => by simp [flats] at h
  | [], d :: r, h => by
    rw [flats_cons, List.nil_append] at h
    injection h with h1 h2
    subst h1
    exact ⟨r, h2.symm⟩
  | p :: pre, [], h => by simp [flats] at h
  | p :: pre, d :: r, h => by
    rw [flats_cons, List.cons_append] at h
    injection h with h1 h2
    exact flats_split h2
theorem flats_inj : ∀ {es fs : List D}, flats es = flats fs → es = fs
  | [], [], _ => rfl
  | [], f :: fs, h => by rw [flats_cons] at h; simp [flats] at h
  | e :: es, [], h => by rw [flats_cons] at h; simp [flats] at h
  | e :: es, f :: fs, h => by
    rw [flats_cons, flats_cons] at h
    injection h with h1 h2
    subst h1
    rw [flats_app, flats_app] at h2
    rw [flats_inj (List.append_cancel_left h2)]
/-- the terms at these places -/
inductive Ats (ts : List D) : List Nat → List D → Prop
  | nil : Ats ts [] []
  | cons {j : Nat} {d : D} {js : List Nat} {ds : List D} : ts[j]? = some d → Ats ts js ds → Ats ts (j :: js) (d :: ds)
theorem Ats.len {ts : List D} {js : List Nat} {ds : List D} (h : Ats ts js ds) : js.length = ds.length := by
  induction h with
  | nil => rfl
  | cons _ _ ih => simp [ih]
theorem Ats.app {ts : List D} {js ks : List Nat} {ds es : List D} (h : Ats ts js ds) (g : Ats ts ks es) : Ats ts (js ++ ks) (ds ++ es) := by
  induction h with
  | nil => exact g
  | cons a _ ih => exact .cons a ih
theorem Ats.mono {ts us : List D} {js : List Nat} {ds : List D} (h : Ats ts js ds) (k : ∀ (j : Nat) (d : D), ts[j]? = some d → us[j]? = some d) : Ats us js ds := by
  induction h with
  | nil => exact .nil
  | cons a _ ih => exact .cons (k _ _ a) ih
theorem Ats.split {ts : List D} {js : List Nat} {ds es : List D} (h : Ats ts js (ds ++ es)) : Ats ts (js.take ds.length) ds ∧ Ats ts (js.drop ds.length) es := by
  induction ds generalizing js with
  | nil => exact ⟨.nil, h⟩
  | cons d r ih =>
    cases h with
    | cons a b => exact ⟨.cons a (ih b).1, (ih b).2⟩
theorem Ats.same {ts us : List D} {js : List Nat} {ds es : List D} (h : Ats ts js ds) (g : Ats us js es) (k : ∀ (j : Nat) (d : D), ts[j]? = some d → us[j]? = some d) : ds = es := by
  induction h generalizing es with
  | nil => cases g; rfl
  | cons a _ ih =>
    cases g with
    | cons b c =>
      rw [k _ _ a] at b
      injection b with b
      rw [b, ih c]
theorem Ats.inj {ts : List D} (nd : ts.Nodup) {js ks : List Nat} {ds : List D} (h : Ats ts js ds) (g : Ats ts ks ds) : js = ks := by
  induction h generalizing ks with
  | nil => cases g; rfl
  | cons a _ ih =>
    cases g with
    | cons b c =>
      rw [(List.getElem?_inj (List.getElem?_eq_some_iff.mp a).1 nd).mp (a.trans b.symm), ih c]
theorem Ats.get {ts : List D} {js : List Nat} {ds : List D} (h : Ats ts js ds) {i j : Nat} (e : js[i]? = some j) : ∃ d, ds[i]? = some d ∧ ts[j]? = some d := by
  induction h generalizing i with
  | nil => simp at e
  | cons a _ ih =>
    cases i with
    | zero => simp at e; subst e; exact ⟨_, rfl, a⟩
    | succ i =>
      obtain ⟨d, h1, h2⟩ := ih (i := i) (by simpa using e)
      exact ⟨d, by simpa using h1, h2⟩
def kI (j : Nat) : L2.Key := .inl (j : Int)
/-- the key of a term's node -/
inductive KeyOf (ts : List D) : List L2.Key → D → Prop
  | int (u : Int) : KeyOf ts [.inl u] (.int u)
  | tup (x : Str) (js : List Nat) (ds : List D) : PyData.strOk x = true → ds.length ≤ 100000 → Ats ts js ds → KeyOf ts (.inr x :: js.map kI) (.tup (.str x :: ds))
theorem keys_inj {js ks : List Nat} (h : js.map kI = ks.map kI) : js = ks := by
  refine (List.map_inj_right (f := kI) ?_).mp h
  intro a b e
  have := Sum.inl.inj e
  omega
theorem KeyOf.mono {ts us : List D} {k : List L2.Key} {d : D} (h : KeyOf ts k d) (m : ∀ (j : Nat) (d : D), ts[j]? = some d → us[j]? = some d) : KeyOf us k d := by
  cases h with
  | int u => exact .int u
  | tup x js ds o z a => exact .tup x js ds o z (a.mono m)
theorem KeyOf.fn {ts : List D} {k : List L2.Key} {d e : D} (h : KeyOf ts k d) (g : KeyOf ts k e) : d = e := by
  cases h with
  | int u => cases g; rfl
  | tup x js ds _ _ a =>
    generalize hk : ((Sum.inr x : L2.Key) :: js.map kI) = k' at g
    cases g with
    | int u => simp at hk
    | tup y ks es _ _ b =>
      injection hk with h1 h2
      injection h1 with h1
      have h3 := keys_inj h2
      subst h1 h3
      rw [a.same b (fun _ _ e => e)]
theorem KeyOf.inj {ts : List D} (nd : ts.Nodup) {k l : List L2.Key} {d : D} (h : KeyOf ts k d) (g : KeyOf ts l d) : k = l := by
  cases h with
  | int u => cases g; rfl
  | tup x js ds _ _ a =>
    cases g with
    | tup _ ks _ _ _ b => rw [a.inj nd b]
theorem take_get {ts : List D} {n j : Nat} {d : D} (h : (ts.take n)[j]? = some d) : ts[j]? = some d := by
  rw [List.getElem?_take] at h
  split at h
  · exact h
  · cases h
theorem app_get {ts us : List D} {j : Nat} {d : D} (h : ts[j]? = some d) : (ts ++ us)[j]? = some d := by
  rw [List.getElem?_append_left (List.getElem?_eq_some_iff.mp h).1]
  exact h
/-- a dict's entries are the nodes of these terms -/
structure NodesK (kvs : List (List L2.Key × V)) (ts : List D) : Prop where
  len : kvs.length = ts.length
  val : ∀ (n : Nat) (k : List L2.Key) (v : V), kvs[n]? = some (k, v) → v = .int (n : Int)
  key : ∀ (n : Nat) (k : List L2.Key) (v : V) (d : D), kvs[n]? = some (k, v) → ts[n]? = some d → KeyOf (ts.take n) k d
  nd : ts.Nodup
theorem valV_at {kvs : List (List L2.Key × V)} {k : List L2.Key} {v : V} (h : valV kvs k = some v) : ∃ n : Nat, kvs[n]? = some (k, v) := by
  unfold valV at h
  obtain ⟨⟨k', v'⟩, h1, h2⟩ := Option.map_eq_some_iff.mp h
  have h3 := List.find?_some h1
  simp only [decide_eq_true_eq] at h3 h2
  subst h3 h2
  exact List.mem_iff_getElem?.mp (List.mem_of_find?_eq_some h1)
theorem valV_none {kvs : List (List L2.Key × V)} {k : List L2.Key} (h : valV kvs k = none) {n : Nat} {v : V} : kvs[n]? ≠ some (k, v) := by
  intro e
  unfold valV at h
  rw [Option.map_eq_none_iff, List.find?_eq_none] at h
  have := h _ (List.mem_of_getElem? e)
  simp at this
theorem NodesK.nil : NodesK [] [] := ⟨rfl, fun _ _ _ h => by simp at h, fun _ _ _ _ h => by simp at h, List.nodup_nil⟩
theorem NodesK.old {kvs : List (List L2.Key × V)} {ts : List D} {k : List L2.Key} {v : V} {d : D} (N : NodesK kvs ts) (g : KeyOf ts k d) (h : valV kvs k = some v) : ∃ n : Nat, v = .int (n : Int) ∧ ts[n]? = some d := by
  obtain ⟨n, e⟩ := valV_at h
  have lt : n < ts.length := by
    have := (List.getElem?_eq_some_iff.mp e).1
    rw [N.len] at this
    exact this
  refine ⟨n, N.val _ _ _ e, ?_⟩
  have e2 : ts[n]? = some ts[n] := List.getElem?_eq_getElem lt
  have := (N.key _ _ _ _ e e2).mono (fun _ _ => take_get)
  rw [g.fn this]
  exact e2
theorem NodesK.new {kvs : List (List L2.Key × V)} {ts : List D} {k : List L2.Key} {d : D} (N : NodesK kvs ts) (g : KeyOf ts k d) (h : valV kvs k = none) : NodesK (kvs ++ [(k, .int (kvs.length : Int))]) (ts ++ [d]) := by
  have hd : d ∉ ts := by
    intro hm
    obtain ⟨n, e⟩ := List.mem_iff_getElem?.mp hm
    have lt : n < kvs.length := by
      rw [N.len]
      exact (List.getElem?_eq_some_iff.mp e).1
    have e2 : kvs[n]? = some (kvs[n].1, kvs[n].2) := List.getElem?_eq_getElem lt
    have g2 := (N.key _ _ _ _ e2 e).mono (fun _ _ => take_get)
    rw [g.inj N.nd g2] at h
    exact valV_none h e2
  refine ⟨by simp [N.len], ?_, ?_, ?_⟩
  · intro n k' v e
    by_cases lt : n < kvs.length
    · rw [List.getElem?_append_left lt] at e
      exact N.val _ _ _ e
    · rw [List.getElem?_append_right (by omega)] at e
      have : n - kvs.length = 0 := by
        have := (List.getElem?_eq_some_iff.mp e).1
        simp at this
        omega
      rw [this] at e
      simp at e
      rw [← e.2, show n = kvs.length by omega]
  · intro n k' v d' e f
    by_cases lt : n < kvs.length
    · rw [List.getElem?_append_left lt] at e
      rw [List.getElem?_append_left (by rw [← N.len]; exact lt)] at f
      rw [List.take_append_of_le_length (by rw [← N.len]; omega)]
      exact N.key _ _ _ _ e f
    · rw [List.getElem?_append_right (by omega)] at e
      rw [List.getElem?_append_right (by rw [← N.len]; omega)] at f
      have z : n - kvs.length = 0 := by
        have := (List.getElem?_eq_some_iff.mp e).1
        simp at this
        omega
      have z2 : n - ts.length = 0 := by rw [← N.len]; exact z
      rw [z] at e
      rw [z2] at f
      simp at e f
      rw [← e.1, ← f, show n = ts.length by rw [← N.len]; omega, List.take_left]
      exact g
  · rw [List.nodup_append]
    refine ⟨N.nd, by simp, ?_⟩
    intro a ha b hb
    simp at hb
    subst hb
    rintro rfl
    exact hd ha
/-- these tuples are the nodes of these terms -/
structure Nodes (H : Hp) (bs : List Addr) (ts : List D) : Prop where
  len : bs.length = ts.length
  node : ∀ (n : Nat) (b : Addr) (d : D), bs[n]? = some b → ts[n]? = some d → ∃ k, H b = some (.tup (k.map kV)) ∧ KeyOf (ts.take n) k d
  nd : ts.Nodup
theorem Nodes.same {H H' : Hp} {bs : List Addr} {ts : List D} (N : Nodes H bs ts) (k : Same H H') : Nodes H' bs ts :=
  ⟨N.len, fun n b d e f => let ⟨c, h1, h2⟩ := N.node n b d e f; ⟨c, k _ _ h1, h2⟩, N.nd⟩
theorem paired_get {α β : Type} {R : α → β → Prop} : ∀ {xs : List α} {ys : List β}, Paired R xs ys → ∀ (n : Nat) (y : β), ys[n]? = some y → ∃ x, xs[n]? = some x ∧ R x y
  | _, _, .nil, n, y, h => by simp at h
  | _, _, .cons a b, 0, y, h => by simp at h; subst h; exact ⟨_, rfl, a⟩
  | _, _, .cons a b, n + 1, y, h => by
    obtain ⟨x, h1, h2⟩ := paired_get b n y (by simpa using h)
    exact ⟨x, by simpa using h1, h2⟩
theorem NodesK.nodes {H : Hp} {kvs : List (List L2.Key × V)} {ts : List D} {bs : List Addr} (N : NodesK kvs ts) (h : IsKeys H kvs bs) : Nodes H bs ts := by
  refine ⟨by rw [← Paired.length h, N.len], fun n b d e f => ?_, N.nd⟩
  obtain ⟨⟨k, v⟩, h1, h2⟩ := paired_get h n b e
  exact ⟨k, h2, N.key _ _ _ _ h1 f⟩
theorem len_flats (ds : List D) : ds.length ≤ (flats ds).length := by
  induction ds with
  | nil => simp
  | cons d r ih =>
    rw [flats_cons, List.length_cons, List.length_cons, flats_app, List.length_append]
    omega
theorem flats_tm_go : ∀ (n : Nat) (ds : List D), (flats ds).length ≤ n → (∀ d ∈ ds, Tm d) → ∀ d ∈ flats ds, Tm d
  | _, [], _, _, d, h => by simp [flats] at h
  | 0, d :: r, hn, _, _, _ => by rw [flats_cons] at hn; simp at hn
  | n + 1, d :: r, hn, hm, e, he => by
    rw [flats_cons] at hn he
    rw [List.length_cons] at hn
    rcases List.mem_cons.mp he with rfl | he
    · exact hm _ List.mem_cons_self
    · refine flats_tm_go n _ (by omega) (fun f hf => ?_) e he
      rcases List.mem_append.mp hf with h | h
      · have := hm d List.mem_cons_self
        cases this with
        | int i => simp [parts] at h
        | tup x rs hr => exact hr f h
      · exact hm f (List.mem_cons_of_mem _ h)
theorem flats_tm {ds : List D} (h : ∀ d ∈ ds, Tm d) : ∀ d ∈ flats ds, Tm d := flats_tm_go _ ds (Nat.le_refl _) h
def vI (j : Nat) : V := .int (j : Int)
theorem pop_rev {js : List Nat} {j : Nat} (h : j < js.length) : ((js.drop j).reverse.map vI)[((js.drop j).reverse.map vI).length - 1]? = some (vI js[j]) ∧ ((js.drop j).reverse.map vI).dropLast = (js.drop (j + 1)).reverse.map vI := by
  rw [List.drop_eq_getElem_cons h, List.reverse_cons, List.map_append, List.map_singleton]
  refine ⟨?_, List.dropLast_concat⟩
  rw [List.length_append, List.length_singleton, Nat.add_sub_cancel, List.getElem?_append_right (Nat.le_refl _), Nat.sub_self]
  rfl
theorem kV_kI (js : List Nat) : (js.map kI).map kV = js.map vI := by
  rw [List.map_map]
  rfl
/-- shared -/
def spShared (K : PySem.W.Frag) : Sp := fun vs H Q _ => ∃ a us ds, vs = [.ref a] ∧ (SqL K H a us ∨ SqT K H a us) ∧ DvL H us ds ∧ (∀ d ∈ ds, Tm d) ∧ sizes ds ≤ 100000 ∧
  ∀ (p l1 l2 : Addr) (H' : Hp) (bs : List Addr) (ts : List D) (js : List Nat), Same H H' → H' p = some (.tup [.ref l1, .ref l2]) → H' l1 = some (.lst (bs.map V.ref)) → H' l2 = some (.lst (js.map vI)) → Nodes H' bs ts → Ats ts js ds → ts.length ≤ 100000 → (∀ t ∈ ts, t ∈ flats ds) → js.length ≤ 100000 → Q (.ref p) H'

/-! ### values put in -/
mutual
/-- the term in which each unknown is replaced -/
def putD (f : Int → D) : D → D
  | .int u => f u
  | .tup ds => .tup (putT f ds)
  | d => d
def putT (f : Int → D) : List D → List D
  | [] => []
  | x :: r => x :: puts f r
def puts (f : Int → D) : List D → List D
  | [] => []
  | d :: r => putD f d :: puts f r
end
theorem puts_map (f : Int → D) (ds : List D) : puts f ds = ds.map (putD f) := by
  induction ds with
  | nil => rfl
  | cons d r ih => rw [List.map_cons, puts, ih]
/-- values[u] -/
def Look (K : PySem.W.Frag) (H : Hp) (va : V) (u : Int) (v : V) : Prop := (∃ a xs, va = .ref a ∧ (SqL K H a xs ∨ SqT K H a xs) ∧ atI xs u = some v) ∨ ∃ a kvs, va = .ref a ∧ H a = some (.dK kvs) ∧ valV kvs (.inl u) = some v
theorem Look.same {K : PySem.W.Frag} {H H' : Hp} {va v : V} {u : Int} (h : Look K H va u v) (k : Same H H') : Look K H' va u v := by
  rcases h with ⟨a, xs, e, s, g⟩ | ⟨a, kvs, e, s, g⟩
  · exact .inl ⟨a, xs, e, s.imp (Evl.ex_l k) (Evl.ex_t k), g⟩
  · exact .inr ⟨a, kvs, e, k _ _ s, g⟩
section
variable {X : Cx} {e : Expr}
theorem pe_alt {t1 t2 : TE} (h1 : PE X e t1) (h2 : PE X e t2) : PE X e (fun σ H Q => t1 σ H Q ∨ t2 σ H Q) :=
  ⟨fun pins s σ H Q I h => h.elim (h1.run pins s σ H Q I) (h2.run pins s σ H Q I)⟩
end
theorem mon_ixT {K : PySem.W.Frag} {i : Nat} {y : V} : MonE (tOp (rIxT K) (tVar i) (tC y)) := by
  rintro σ H Q Q' k ⟨v, e, p, xs, j, z, h1, h2, h3, h4, q⟩
  exact ⟨v, e, p, xs, j, z, h1, h2, h3, h4, k _ _ q⟩
theorem DvL.map {H : Hp} {α : Type} {f : α → V} {g : α → D} : ∀ {as : List α}, (∀ a ∈ as, Dv H (f a) (g a)) → DvL H (as.map f) (as.map g)
  | [], _ => .nil
  | a :: r, h => .cons (h a List.mem_cons_self) (DvL.map fun b hb => h b (List.mem_cons_of_mem _ hb))
theorem DvL.snoc {H : Hp} {vs : List V} {ds : List D} {v : V} {d : D} (h : DvL H vs ds) (g : Dv H v d) : DvL H (vs ++ [v]) (ds ++ [d]) := h.app (.cons g .nil)
theorem dvl_ints {H : Hp} (js : List Nat) : DvL H (js.map vI) (js.map fun j : Nat => D.int (j : Int)) := DvL.map fun _ _ => .int _
/-- what is made of the terms at these places -/
def atV (mv : List V) : D → V
  | .int j => mv.getD j.toNat .non
  | _ => .non
theorem atV_get {mv : List V} {j : Nat} (h : j < mv.length) : mv[j]? = some (atV mv (.int (j : Int))) := by
  show mv[j]? = some (mv.getD (j : Int).toNat .non)
  rw [Int.toNat_natCast, List.getD_eq_getElem?_getD, List.getElem?_eq_getElem h]
  rfl
theorem made_parts {H : Hp} {ts : List D} {i : Nat} {f : Int → D} {mv : List V} (hm : DvL H mv ((ts.take i).map (putD f))) {js : List Nat} {ds : List D} (h : Ats (ts.take i) js ds) :
    DvL H ((js.map fun j : Nat => D.int (j : Int)).map (atV mv)) (puts f ds) := by
  induction h with
  | nil => exact .nil
  | @cons j d js ds a _ ih =>
    have e : ((ts.take i).map (putD f))[j]? = some (putD f d) := by rw [List.getElem?_map, a]; rfl
    obtain ⟨v, e1, e2⟩ := hm.getD e
    have lt := (List.getElem?_eq_some_iff.mp e1).1
    have e3 := atV_get lt
    rw [e1] at e3
    injection e3 with e3
    refine .cons ?_ ih
    show Dv H (atV mv (.int (j : Int))) (putD f d)
    rw [← e3]
    exact e2
/-- filled -/
def spFilled (K : PySem.W.Frag) : Sp := fun vs H Q _ => ∃ (l : Addr) (va : V) (bs : List Addr) (ts : List D) (f : Int → D), vs = [.ref l, va] ∧ H l = some (.lst (bs.map V.ref)) ∧ Nodes H bs ts ∧ ts.length ≤ 100000 ∧
  (∀ u, D.int u ∈ ts → ∃ v, Look K H va u v ∧ Dv H v (f u)) ∧ ∀ (m : Addr) (H' : Hp) (ws : List V), Same H H' → H' m = some (.lst ws) → DvL H' ws (ts.map (putD f)) → Q (.ref m) H'
theorem same_mask {H H' : Hp} {m : Addr} (k : Same H H') (h : H m = none) : Same H (mask m H') := fun a o e => by
  rw [mask_ne (ne_of_none e h)]
  exact k _ _ e
theorem mask_same2 {H H' : Hp} {m : Addr} (k : Same H H') : Same (mask m H) (mask m H') := fun a o e => by
  by_cases z : a = m
  · rw [z] at e
    simp [mask] at e
  · rw [mask_ne z] at e ⊢
    exact k _ _ e
theorem ats_sub {ts : List D} {js : List Nat} {ds : List D} (h : Ats ts js ds) : ∀ j ∈ js, j < ts.length := by
  induction h with
  | nil => exact fun _ h => by cases h
  | cons a _ ih =>
    intro j hj
    rcases List.mem_cons.mp hj with rfl | hj
    · exact (List.getElem?_eq_some_iff.mp a).1
    · exact ih j hj
/-- put_all -/
def spPutAll (K : PySem.W.Frag) : Sp := fun vs H Q _ => ∃ (a : Addr) (va : V) (us : List V) (ds : List D) (f : Int → D), vs = [.ref a, va] ∧ (SqL K H a us ∨ SqT K H a us) ∧ DvL H us ds ∧ (∀ d ∈ ds, Tm d) ∧ sizes ds ≤ 100000 ∧
  (∀ u, D.int u ∈ flats ds → ∃ v, Look K H va u v ∧ Dv H v (f u)) ∧ ∀ (m : Addr) (H' : Hp) (ws : List V), Same H H' → H m = none → H' m = some (.lst ws) → DvL (mask m H') ws (puts f ds) → Q (.ref m) H'
/-- put -/
def spPut (K : PySem.W.Frag) : Sp := fun vs H Q _ => ∃ (v va : V) (d : D) (f : Int → D), vs = [v, va] ∧ Dv H v d ∧ Tm d ∧ d.size ≤ 100000 ∧
  (∀ u, D.int u ∈ flat d → ∃ v, Look K H va u v ∧ Dv H v (f u)) ∧ ∀ (v' : V) (H' : Hp), Same H H' → Dv H' v' (putD f d) → Q v' H'
/-- how many operations -/
def opsOf (ds : List D) : Nat := ((flats ds).filter isT).length
def spSize (K : PySem.W.Frag) : Sp := fun vs H Q _ => ∃ a us ds, vs = [.ref a] ∧ (SqL K H a us ∨ SqT K H a us) ∧ DvL H us ds ∧ (∀ d ∈ ds, Tm d) ∧ sizes ds ≤ 100000 ∧ ∀ H', Same H H' → Q (.int (opsOf ds : Nat)) H'
def atVV (mv : List V) : V → V
  | .int j => mv.getD j.toNat .non
  | _ => .non
theorem atVV_map (mv : List V) (js : List Nat) : (js.map vI).map (atVV mv) = (js.map fun j : Nat => D.int (j : Int)).map (atV mv) := by
  rw [List.map_map, List.map_map]
  rfl
theorem atVV_get {mv : List V} {j : Nat} (h : j < mv.length) : mv[j]? = some (atVV mv (vI j)) := atV_get h
/-- [x for x in xs if keep(x)] over a list of data -/
theorem lc_keep {K : PySem.W.Frag} {te : TE} {tt : TT} {σ : L2.St} {H Hb : Hp} {a : Addr} {xs : List V} {ds : List D} {j : Nat} {vs : List Nat} {Dl : Addr} {Qd : Hp → Prop} (keep : D → Bool) (hT : SqL K H a xs) (hd : DvL Hb xs ds) (hD : H Dl = none) (hz : xs.length ≤ 100000)
    (hw : ∀ x, wipe ((wipe σ vs).set j (some x)) vs = wipe σ vs)
    (he : ∀ (x : V) (d : D) (H' : Hp) (R : Bool → Hp → Prop), Same H H' → d ∈ ds → Dv Hb x d → R (keep d) H' → tt ((wipe σ vs).set j (some x)) H' R)
    (hv : ∀ (x : V) (H' : Hp) (R : VK), R x H' → te ((wipe σ vs).set j (some x)) H' R)
    (q : ∀ H' zs, Same H H' → H' Dl = some (.lst zs) → DvL Hb zs (ds.filter keep) → Qd H') :
    ∃ W : Nat → Nat → Hp → Prop, (∃ m, W 0 m (upd H Dl (.lst []))) ∧ ∀ i m H, W i m H → ((Itl K a).stop i H ∧ Qd H) ∨ ((Itl K a).go i H ∧ ∃ Nx : Hp → Prop, (∀ H', Nx H' → ∃ m', m' < m ∧ W (i + 1) m' H') ∧
      ∀ x H', (Itl K a).yld i H x H' → gName j x (wipe σ vs) H' fun σ2 H2 => wipe σ2 vs = wipe σ vs ∧ tt σ2 H2 fun b H3 => if b = true then te σ2 H3 fun y H4 => ∃ acc, H4 Dl = some (.lst acc) ∧ acc.length < sizeLine ∧ Nx (upd H4 Dl (.lst (acc ++ [y]))) else Nx H3) := by
  have hlen := hd.len
  refine lc_list (fun i H' => Same H H' ∧ ∃ zs, H' Dl = some (.lst zs) ∧ DvL Hb zs ((ds.take i).filter keep)) ⟨Same.new hD, [], upd_same, .nil⟩ (fun i H' _ h => Evl.ex_l h.1 hT) ?_ ?_
  · rintro i x H1 hx ⟨k, zs, hl, hz2⟩
    obtain ⟨d, e1, hd1⟩ := hd.get hx
    have zl := hz2.len
    have zl2 := List.length_filter_le keep (ds.take i)
    rw [List.length_take] at zl2
    refine ⟨hw _, he x d _ _ k (tk e1) hd1 (ite_b (fun c => ?_) (fun c => ?_))⟩
    · refine hv x H1 _ ⟨zs, hl, szl (by omega), Same.upd k hD, zs ++ [x], upd_same, ?_⟩
      rw [take_succ' e1, List.filter_append, List.filter_cons, if_pos c, List.filter_nil]
      exact hz2.snoc hd1
    · refine ⟨k, zs, hl, ?_⟩
      rw [take_succ' e1, List.filter_append, List.filter_cons, if_neg (by rw [c]; decide), List.filter_nil, List.append_nil]
      exact hz2
  · rintro H' ⟨k, zs, hl, hz2⟩
    have : ds.take xs.length = ds := List.take_of_length_le (by omega)
    rw [this] at hz2
    exact q H' zs k hl hz2

/-! ### unknowns in their order -/
def intOf : D → Option Int
  | .int u => some u
  | _ => none
/-- the unknowns of terms from left to right -/
def leaves (ds : List D) : List Int := (flats ds).filterMap intOf
def addI (us : List Int) (u : Int) : List Int := if u ∈ us then us else us ++ [u]
/-- the different ones, in the order of their first places -/
def firstsOf (ds : List D) : List Int := (leaves ds).foldl addI []
def ordK : List Int → Nat → List (L2.Key × V)
  | [], _ => []
  | u :: r, n => (.inl u, .int (n : Int)) :: ordK r (n + 1)
theorem ordK_len (us : List Int) (n : Nat) : (ordK us n).length = us.length := by
  induction us generalizing n with
  | nil => rfl
  | cons u r ih => simp [ordK, ih]
theorem ordK_app (us : List Int) (u : Int) (n : Nat) : ordK (us ++ [u]) n = ordK us n ++ [(.inl u, .int ((n + us.length : Nat) : Int))] := by
  induction us generalizing n with
  | nil => rfl
  | cons v r ih =>
    simp only [List.cons_append, ordK, ih, List.length_cons]
    congr 3
    simp only [List.cons.injEq, Prod.mk.injEq, true_and, and_true]
    congr 2
    omega
theorem ordK_val (us : List Int) (u : Int) (n : Nat) : valV (ordK us n) (.inl u) = if u ∈ us then some (.int ((n + us.idxOf u : Nat) : Int)) else none := by
  induction us generalizing n with
  | nil => rfl
  | cons v r ih =>
    by_cases e : v = u
    · subst e
      rw [ordK, valV_pos rfl, if_pos List.mem_cons_self, List.idxOf_cons_self]
      rfl
    · have e2 : ¬ ((Sum.inl v : L2.Key) = .inl u) := fun z => e (Sum.inl.inj z)
      rw [ordK, valV_neg e2, ih]
      have e3 : (u ∈ v :: r) ↔ u ∈ r := by simp [Ne.symm e]
      by_cases m : u ∈ r
      · have e4 : (v :: r).idxOf u = r.idxOf u + 1 := by
          rw [List.idxOf_cons, show (v == u) = false from by simpa using e]
          rfl
        rw [if_pos m, if_pos (e3.mpr m), e4]
        congr 3
        omega
      · rw [if_neg m, if_neg (fun z => m (e3.mp z))]
theorem addI_mem {us : List Int} {u v : Int} : v ∈ addI us u ↔ v ∈ us ∨ v = u := by
  unfold addI
  split
  · constructor
    · exact .inl
    · rintro (h | rfl)
      · exact h
      · assumption
  · simp
theorem foldl_addI_mem {ls us : List Int} {v : Int} : v ∈ ls.foldl addI us ↔ v ∈ us ∨ v ∈ ls := by
  induction ls generalizing us with
  | nil => simp
  | cons u r ih =>
    rw [List.foldl_cons, ih, addI_mem, List.mem_cons]
    constructor
    · rintro ((h | h) | h)
      · exact .inl h
      · exact .inr (.inl h)
      · exact .inr (.inr h)
    · rintro (h | h | h)
      · exact .inl (.inl h)
      · exact .inl (.inr h)
      · exact .inr h
theorem firstsOf_mem {ds : List D} {u : Int} : u ∈ firstsOf ds ↔ D.int u ∈ flats ds := by
  unfold firstsOf leaves
  rw [foldl_addI_mem]
  simp only [List.not_mem_nil, false_or, List.mem_filterMap]
  constructor
  · rintro ⟨d, h1, h2⟩
    cases d <;> simp [intOf] at h2
    subst h2
    exact h1
  · exact fun h => ⟨_, h, rfl⟩
theorem addI_len (us : List Int) (u : Int) : (addI us u).length ≤ us.length + 1 := by
  unfold addI
  split <;> simp
theorem foldl_addI_len (ls us : List Int) : (ls.foldl addI us).length ≤ us.length + ls.length := by
  induction ls generalizing us with
  | nil => simp
  | cons u r ih =>
    have h1 := ih (addI us u)
    have h2 := addI_len us u
    rw [List.foldl_cons, List.length_cons]
    omega
/-- the number of an unknown -/
def numF (ds : List D) (u : Int) : D := .int ((firstsOf ds).idxOf u : Nat)
def spNumbered (K : PySem.W.Frag) : Sp := fun vs H Q _ => ∃ (a : Addr) (us : List V) (ds : List D), vs = [.ref a] ∧ (SqL K H a us ∨ SqT K H a us) ∧ DvL H us ds ∧ (∀ d ∈ ds, Tm d) ∧ sizes ds ≤ 100000 ∧
  ∀ (m : Addr) (H' : Hp) (ws : List V), Same H H' → H m = none → H' m = some (.lst ws) → DvL (mask m H') ws (puts (numF ds) ds) → Q (.ref m) H'
end Fm
set_option maxRecDepth 100000
set_option maxHeartbeats 2000000
/-! Fm: set comprehensions over any kind of tracked sets; sets of ints. -/
namespace Fm
open PySem PySem.Spec PyProof.Rows L2 PpSet
/-- what a new set's object is -/
abbrev noSet (w : World) : Obj := { cls := .type "set", dict := none, data := .set #[] 0 (.fresh 0 0 (!w.params.followText "set-order")) }
/-- a kind of tracked sets: states, the empty one, what adding a value makes of a state -/
structure SetK' (P : Program) (w : World) (S : Type) where
  obj : Addr → S → HO
  init : S
  step : S → V → S → Prop
  fresh : ∀ (H : Hp) (h : Heap), ObjOk P w H (h.push (noSet w)) h.objs.size (obj h.objs.size init)
  add : ∀ (X : Cx), X.prog = P → X.w = w → ∀ {pins : List (Addr × Obj)} {σ : L2.St} {H : Hp} {s : Shared} {E : Value → Shared → Prop} {D : Addr} {a b : S} {y : V} {u : Value} {Q : Value → Shared → Prop}, Inv X pins σ H s → H D = some (obj D a) → RelV y u → step a y b →
    (∀ s', Inv X pins σ (upd H D (obj D b)) s' → Q .none s') → wpAny (model X.prog X.w) X.A (call (.builtin "set.add") [.ref D, u]) Q E s
section
variable {X : Cx} {S : Type}
/-- {elt for target in iter if ..}: D the new set, W by the turn and a measure -/
def tSetC (k : SetK' X.prog X.w S) (wi : TI) (g : TG) (tt : TT) (te : TE) (vs : List Nat) : TE := fun σ H Q => wi σ H fun J H1 => ∀ D, H1 D = none → ∃ W : Nat → Nat → Hp → Prop, (∃ m, W 0 m (upd H1 D (k.obj D k.init))) ∧ ∀ i m H, W i m H →
  (J.stop i H ∧ Q (.ref D) H) ∨ (J.go i H ∧ ∃ Nx : Hp → Prop, (∀ H', Nx H' → ∃ m', m' < m ∧ W (i + 1) m' H') ∧ ∀ x H', J.yld i H x H' → g x (wipe σ vs) H' fun σ2 H2 => wipe σ2 vs = wipe σ vs ∧ tt σ2 H2 fun b H3 =>
    if b = true then te σ2 H3 fun y H4 => ∃ a b, H4 D = some (k.obj D a) ∧ k.step a y b ∧ Nx (upd H4 D (k.obj D b)) else Nx H3)
theorem pe_setC (k : SetK' X.prog X.w S) {elt tg iter : Expr} {ifs : List Expr} {scope : Scope} {own : List (PySem.Str × Nat)} {pos : Pos} {wi : TI} {g : TG} {tt : TT} {te : TE} (hc : X.calm = true) (hN : X.N.Nodup) (hi : PI X tg iter wi) (ok : BlkOk X.N X.env.scope scope own)
    (hg : ∀ (s : Shared) (H : Hp) (C : Addr) (cl : List (PySem.Str × Addr)) (fp : List Addr), PG (X.blk s H scope (compEnvC scope cl C X.env) fp) tg g) (ht : ∀ (s : Shared) (H : Hp) (C : Addr) (cl : List (PySem.Str × Addr)) (fp : List Addr), PTs (X.blk s H scope (compEnvC scope cl C X.env) fp) ifs tt)
    (he : ∀ (s : Shared) (H : Hp) (C : Addr) (cl : List (PySem.Str × Addr)) (fp : List Addr), PE (X.blk s H scope (compEnvC scope cl C X.env) fp) elt te) (hs : ∀ x, foldedSetIterable iter X.env x = pure x := by intro _; rfl) :
    PE X (.SetComp elt [⟨tg, iter, ifs, 0⟩] scope pos) (tSetC k wi g tt te (own.map (·.2))) := by
  refine ⟨fun pins s σ H Q I h => ?_⟩
  rw [eval_SetComp]
  have free : ∀ y ∈ scope.names, y.2 = .free → ∃ c, X.env.cells.lookup y.1 = some c := fun y hy e => (ok.free y hy e).elim (fun z => I.ok.has _ (.inl z)) fun z => I.ok.has _ (.inr z)
  refine wpAny_comprehension_free rfl hs (closure_ok free) ok.kind (fun y hy e => by rw [ok.uniq y hy, e]) (thn (hi.run pins s σ H _ I h) fun xv s1 hx => thn hx fun itv s2 ⟨it, fp, tn, J, H2, e, I2, T, st2, f2, q⟩ => ?_)
  subst e
  refine newSet_ok (newEnv_comp ?_)
  -- the new set, at the end of the heap
  generalize hD : s2.heap.objs.size = D
  obtain ⟨W, ⟨m0, w0⟩, turn⟩ := q D (I2.hok.fresh (Nat.le_of_eq hD))
  generalize hs3 : ({ s2 with heap := s2.heap.push (noSet X.w) } : Shared) = s3
  have h3 : s3.heap = s2.heap.push (noSet X.w) := by rw [← hs3]
  have I3 : Inv X pins σ (upd H2 D (k.obj D k.init)) s3 := by
    rw [← hs3, ← hD]
    exact I2.laid (t' := s2.toks) (fun b o e => Heap.get?_push_of_some _ e) (Nat.le_refl _) (k.fresh _ _)
  have up : ∀ b o, s2.heap.get? b = some o → s3.heap.get? b = some o := fun b o e => by rw [h3]; exact Heap.get?_push_of_some _ e
  have f3 : ∀ b ∈ fp, FpOk X pins (upd H2 D (k.obj D k.init)) b ∧ b < s3.heap.objs.size := fun b hb => by
    obtain ⟨o, e, _⟩ := T.obj _ _ st2 b hb
    have lt : b < D := by rw [← hD]; exact Heap.lt_size e
    exact ⟨⟨by rw [upd_ne (Nat.ne_of_lt lt)]; exact (f2 b hb).1, (f2 b hb).2⟩, Heap.lt_size (up b o e)⟩
  have I4 := block_start I3 ok hN f3
  have pg := hg s3 (upd H2 D (k.obj D k.init)) s3.heap.objs.size (cellsFrom (s3.heap.objs.size + 1) scope.names (cloFrom X.env.cells scope.names [])) fp
  have pt := ht s3 (upd H2 D (k.obj D k.init)) s3.heap.objs.size (cellsFrom (s3.heap.objs.size + 1) scope.names (cloFrom X.env.cells scope.names [])) fp
  have pe := he s3 (upd H2 D (k.obj D k.init)) s3.heap.objs.size (cellsFrom (s3.heap.objs.size + 1) scope.names (cloFrom X.env.cells scope.names [])) fp
  have none3 : ∀ b ∈ fp, (upd H2 D (k.obj D k.init)) b = none := fun b hb => (f3 b hb).1.1
  show codeAny _ _ (.compStart (.SetComp elt [⟨tg, iter, ifs, 0⟩] scope pos) 0 (.ref it) (.ref D) (compEnvC scope (cellsFrom (s3.heap.objs.size + 1) scope.names (cloFrom X.env.cells scope.names [])) s3.heap.objs.size X.env)) _ { s3 with heap := pushCells (s3.heap.push { cls := .type "dict", data := .dict #[] }) scope.names }
  generalize hce : compEnvC scope (cellsFrom (s3.heap.objs.size + 1) scope.names (cloFrom X.env.cells scope.names [])) s3.heap.objs.size X.env = ce at I4 pg pt pe ⊢
  have cL : ce.locals = s3.heap.objs.size := by subst hce; rfl
  generalize hH3 : upd H2 D (k.obj D k.init) = H3 at I3 I4 pg pt pe w0 none3 f3
  generalize hs4 : ({ s3 with heap := pushCells (s3.heap.push { cls := .type "dict", data := .dict #[] }) scope.names } : Shared) = s4 at I4 ⊢
  have st4 : tn 0 s4.heap := T.keep _ _ _ (T.keep _ _ _ st2 fun b _ o e => up b o e) fun b _ o e => by rw [← hs4]; exact pushCells_keeps _ _ _ _ (Heap.get?_push_of_some _ e)
  have stat : ∀ {σ' : L2.St} {H' : Hp} {s' : Shared}, Inv (X.blk s3 H3 scope ce fp) [] σ' H' s' → (∀ b ∈ fp, H' b = none) → ∀ b ∈ fp, FpOk (X.blk s3 H3 scope ce fp) [] H' b := fun I' hn b hb =>
    ⟨hn b hb, (I'.ok.exf b hb).1, I'.ok.exfs b hb, .inl hb, fun x c e => (I'.ok.exf b hb).2 x c e, fun p hp => absurd (show p ∈ ([] : List (Addr × Obj)) ++ [] from hp) (by simp)⟩
  refine (fun loop => codeAny_compStart_set loop (T.self X.A 0 _ _ _ st4 loop)) ?_
  refine compLoopS_any (fun n s' => ∃ i H', Inv (X.blk s3 H3 scope ce fp) [] (wipe σ (own.map (·.2))) H' s' ∧ tn i s'.heap ∧ (∀ b ∈ fp, H' b = none) ∧ W i n H') ?_ m0 ⟨0, H3, I4, st4, none3, w0⟩
  rintro n s5 ⟨i, H5, I5, st5, n5, w5⟩
  rcases turn i n H5 w5 with ⟨stop, qq⟩ | ⟨go, Nx, hNx, step⟩
  · refine thnF (T.done (X.blk s3 H3 scope ce fp) rfl rfl rfl hc i [] s5 _ H5 (fun _ _ => False) I5 (stat I5 n5) st5 stop) fun r s6 ⟨hr, I6⟩ => ?_
    subst hr
    have I7 : Inv X pins σ H5 s6 := I3.call' (ch := fp) I6.os I6.base I6.hok I6.bare fun b hb => let z := (f3 b hb).1; ⟨z.2.2.2.1, z.2.1, z.2.2.2.2.1, z.2.2.2.2.2⟩
    have nC : H5 s3.heap.objs.size = none := by rw [← cL]; exact I6.free
    obtain ⟨m, hn, _⟩ := I6.loc
    have hn : s6.heap.Ns s3.heap.objs.size m := by rw [← cL]; exact hn
    refine ⟨m, hn, fun h'' sb => ?_⟩
    obtain ⟨f0, f1, f2', f3', f4, f5⟩ := I3.fpOk (H' := H5) (Nat.le_refl _) nC
    exact ⟨.ref D, H5, I7.turned (t' := s6.toks) (fun b o hb e => (sb.2 b hb).trans e) f0 f1 f3' f4 f5, rfl, qq⟩
  · refine thnF (T.item (X.blk s3 H3 scope ce fp) rfl rfl rfl hc i [] s5 _ H5 (fun _ _ => False) I5 (stat I5 n5) st5 go) fun r s6 ⟨u, hr, h6⟩ => ?_
    subst hr
    refine thnF h6 fun _ s7 ⟨x, H7, I7, r7, y7, st7, n7⟩ => ?_
    refine thnF (pg.run _ s7 _ H7 x u _ (I7.pinned (stat I7 n7) (T.obj _ _ st7)) r7 (step x H7 y7)) fun _ s8 ⟨σ8, H8, I8, hw8, q8⟩ => ?_
    refine thnF (pt.run _ s8 σ8 H8 _ I8 q8) fun b s9 ⟨H9, I9, q9⟩ => ?_
    have fin : ∀ {s' : Shared} {H' : Hp}, Inv (X.blk s3 H3 scope ce fp) ([] ++ pinsAt fp s7.heap) σ8 H' s' → Nx H' → ∃ m, m < n ∧ ∃ i H', Inv (X.blk s3 H3 scope ce fp) [] (wipe σ (own.map (·.2))) H' s' ∧ tn i s'.heap ∧ (∀ b ∈ fp, H' b = none) ∧ W i m H' := fun {s' H'} I' nx => by
      obtain ⟨m', hm, w'⟩ := hNx H' nx
      have pin' : ∀ b ∈ fp, ∀ o, s7.heap.get? b = some o → s'.heap.get? b = some o ∧ H' b = none := fun b hb o e =>
        let z := I'.pin (b, o) (List.mem_append_right _ (List.mem_append_right _ (mem_pinsAt hb e)))
        ⟨z.1, z.2.1⟩
      refine ⟨m', hm, i + 1, H', (I'.unpinned (pins := [])).weak (by rw [← hw8, wipe_length]) (fun j v e => ?_), T.keep _ _ _ st7 fun b hb o e => (pin' b hb o e).1, fun b hb => ?_, w'⟩
      · rw [← hw8] at e
        exact (wipe_some e).1
      · obtain ⟨o, e, _⟩ := T.obj _ _ st7 b hb
        exact (pin' b hb o e).2
    cases b with
    | false =>
      rw [if_neg (by decide)] at q9
      rw [if_neg (by decide)]
      exact fin I9 q9
    | true =>
      rw [if_pos rfl] at q9
      rw [if_pos rfl]
      refine thnF (pe.run _ s9 σ8 H9 _ I9 q9) fun z s10 ⟨yv, H10, I10, r10, a, b, hD10, hst, nx⟩ => ?_
      exact k.add (X.blk s3 H3 scope ce fp) rfl rfl I10 hD10 r10 hst fun s11 I11 => fin I11 nx
/-- sets of ints -/
def intSets (P : Program) (w : World) : SetK' P w ((Int → Bool) × Nat) where
  obj D a := SetO w D a.1 a.2
  init := (fun _ => false, 0)
  step a y b := ∃ c, y = .int c ∧ a.2 + 1 < scanBound ∧ b = (fun j => a.1 j || decide (j = c), if a.1 c = true then a.2 else a.2 + 1)
  fresh H h := setO_new (setR_fresh w)
  add := by
    rintro X rfl rfl pins σ H s E D ⟨S, n⟩ b y u Q I hD r ⟨c, rfl, room, rfl⟩ q
    obtain ⟨t, rfl⟩ := r
    refine setR_add (setO_get I hD) room fun h' sb new => ?_
    have he : ∃ u, h'.get? D = some u := by
      have ⟨o, _, _, _, ho, _⟩ := new
      exact ⟨o, ho⟩
    exact q _ (I.write (e := D) (t' := s.toks + 1) (by rw [hD]; trivial) (.inl rfl) (fun b u hb hu => (sb.2 b hb).trans hu) he (setO_new new))
end
section
variable {J : It} {n : Nat} {G : Hp → Prop} {Y : Nat → Hp → V → Hp → Prop} {P : Program} {w : World} {S : Type}
/-- a set comprehension over a walk -/
theorem setC_it (k : SetK' P w S) (wk : Walk J n G Y) {g : TG} {tt : TT} {te : TE} {vs : List Nat} {σ : L2.St} {H1 : Hp} {D : Addr} {Qd : Hp → Prop} (Pv : Nat → Hp → Prop) (h0 : Pv 0 (upd H1 D (k.obj D k.init))) (hG : ∀ i H, i ≤ n → Pv i H → G H)
    (hs : ∀ i x H H', i < n → Pv i H → Y i H x H' → g x (wipe σ vs) H' fun σ2 H2 => wipe σ2 vs = wipe σ vs ∧ tt σ2 H2 fun b H3 =>
      if b = true then te σ2 H3 fun y H4 => ∃ a b, H4 D = some (k.obj D a) ∧ k.step a y b ∧ Pv (i + 1) (upd H4 D (k.obj D b)) else Pv (i + 1) H3) (hd : ∀ H, Pv n H → Qd H) :
    ∃ W : Nat → Nat → Hp → Prop, (∃ m, W 0 m (upd H1 D (k.obj D k.init))) ∧ ∀ i m H, W i m H →
      (J.stop i H ∧ Qd H) ∨ (J.go i H ∧ ∃ Nx : Hp → Prop, (∀ H', Nx H' → ∃ m', m' < m ∧ W (i + 1) m' H') ∧ ∀ x H', J.yld i H x H' → g x (wipe σ vs) H' fun σ2 H2 => wipe σ2 vs = wipe σ vs ∧ tt σ2 H2 fun b H3 =>
        if b = true then te σ2 H3 fun y H4 => ∃ a b, H4 D = some (k.obj D a) ∧ k.step a y b ∧ Nx (upd H4 D (k.obj D b)) else Nx H3) := by
  refine ⟨fun i m H => m = n - i ∧ i ≤ n ∧ Pv i H, ⟨n, by simp, Nat.zero_le _, h0⟩, ?_⟩
  rintro i m H ⟨rfl, hi, p⟩
  have q := hG i H hi p
  by_cases hlt : i < n
  · exact .inr ⟨wk.goes i H hlt q, Pv (i + 1), fun H' p' => ⟨n - (i + 1), by omega, rfl, hlt, p'⟩, fun x H' y => hs i x H H' hlt p (wk.yields i H x H' hlt q y)⟩
  · have e : i = n := by omega
    subst e
    exact .inl ⟨wk.stops H q, hd H p⟩
end
/-- the state of a set of these ints -/
def setAt (us : List Int) : (Int → Bool) × Nat := (fun j => decide (j ∈ us), us.length)
theorem setAt_step {P : Program} {w : World} {us : List Int} {u : Int} (h : us.length + 1 < scanBound) : (intSets P w).step (setAt us) (.int u) (setAt (addI us u)) := by
  refine ⟨u, rfl, h, ?_⟩
  unfold setAt addI
  by_cases m : u ∈ us
  · rw [if_pos m]
    simp only [m, decide_true, if_true]
    refine Prod.ext ?_ rfl
    funext j
    by_cases e : j = u
    · subst e
      simp [m]
    · simp [e]
  · rw [if_neg m]
    simp only [m, decide_false, Bool.false_eq_true, if_false, List.length_append, List.length_singleton]
    refine Prod.ext ?_ rfl
    funext j
    simp
theorem foldl_addI_mono (ls us : List Int) : us.length ≤ (ls.foldl addI us).length := by
  induction ls generalizing us with
  | nil => exact Nat.le_refl _
  | cons u r ih =>
    refine Nat.le_trans ?_ (ih (addI us u))
    unfold addI
    split <;> simp
theorem firsts_take (ds : List D) (i : Nat) : ((((flats ds).take i).filterMap intOf).foldl addI []).length ≤ (firstsOf ds).length := by
  have e : leaves ds = ((flats ds).take i).filterMap intOf ++ ((flats ds).drop i).filterMap intOf := by
    rw [← List.filterMap_append, List.take_append_drop]
    rfl
  unfold firstsOf
  rw [e, List.foldl_append]
  exact foldl_addI_mono _ _
/-- unknowns -/
def spUnknowns (K : PySem.W.Frag) : Sp := fun vs H Q _ => ∃ (a : Addr) (us : List V) (ds : List D), vs = [.ref a] ∧ (SqL K H a us ∨ SqT K H a us) ∧ DvL H us ds ∧ (∀ d ∈ ds, Tm d) ∧ sizes ds ≤ 100000 ∧ (firstsOf ds).length < 64 ∧
  ∀ (p : Addr) (H' : Hp) (ns : List Int), Same H H' → H p = none → H' p = some (.lst (ns.map V.int)) → ns.Pairwise (· < ·) → (∀ k, k ∈ ns ↔ D.int k ∈ flats ds) → Q (.ref p) H'

/-! ### parts of a tuple -/
section
variable {K : PySem.W.Frag} {H : Hp} {a : Addr} {w0 : V} {wr : List V} {Q : VK}
/-- t[:1] -/
theorem first_one (h : H a = some (.tup (w0 :: wr))) (q : ∀ t1 H1, Same H H1 → H1 t1 = some (.tup [w0]) → (t1 = a ∨ H t1 = none) → Q (.ref t1) H1) : rSlA K (.ref a) none (some 1) H Q := by
  refine ⟨a, _, rfl, SqT.of h, fun z => ?_, fun _ p hp => ?_⟩
  · have z2 := z.2
    have e : HT.sIx (w0 :: wr).length (w0 :: wr).length (some 1) = min 1 (w0 :: wr).length := sIx_at (by decide)
    rw [e] at z2
    simp only [List.length_cons] at z2
    have : wr = [] := List.length_eq_zero_iff.mp (by omega)
    subst this
    exact q a H (Same.refl _) h (.inl rfl)
  · have e : cutV (w0 :: wr) none (some 1) = [w0] := by
      unfold cutV
      rw [sIx_at (by decide), sIx_none]
      simp
    rw [e]
    exact q p _ (Same.new hp) upd_same (.inr hp)
/-- t[1:] -/
theorem tail_one {σ : L2.St} (h : H a = some (.tup (w0 :: wr))) (q : ∀ p, H p = none → Q (.ref p) (upd H p (.tup wr))) : tNoPart σ H fun u H3 => rSlA K (.ref a) (some 1) u H3 Q := by
  show rSlA K (.ref a) (some 1) none H Q
  obtain ⟨u1, u2⟩ := cutV_one (w0 :: wr) (by simp)
  refine ⟨a, _, rfl, SqT.of h, fun z => absurd z u2, fun _ p hp => ?_⟩
  rw [u1]
  exact q p hp
/-- (x,) + t -/
theorem cat_one {t1 t2 : Addr} {ws : List V} (h1 : H t1 = some (.tup [w0])) (h2 : H t2 = some (.tup ws)) (hz : ws.length ≤ 100000) (q : ∀ tt H4, Same H H4 → H4 tt = some (.tup (w0 :: ws)) → (tt = t1 ∨ H tt = none) → Q (.ref tt) H4) : rCatA K (.ref t1) (.ref t2) H Q := by
  refine ⟨t1, t2, _, _, rfl, rfl, SqT.of h1, SqT.of h2, ?_, fun z => (by cases z), fun _ z => ?_, fun _ _ p hp => q p _ (Same.new hp) upd_same (.inr hp)⟩
  · simp only [List.length_cons, List.length_nil]
    exact sz (by omega)
  · subst z
    exact q t1 H (Same.refl _) h1 (.inl rfl)
end
section
variable {X : Cx} {tg e : Expr}
theorem pi_alt {w1 w2 : TI} (h1 : PI X tg e w1) (h2 : PI X tg e w2) : PI X tg e (fun σ H R => w1 σ H R ∨ w2 σ H R) :=
  ⟨fun pins s σ H R I h => h.elim (h1.run pins s σ H R I) (h2.run pins s σ H R I)⟩
end
theorem mem_flat_part {d : D} {x : Str} {rs : List D} {u : Int} (hd : d ∈ rs) (h : D.int u ∈ flat d) : D.int u ∈ flat (.tup (.str x :: rs)) := by
  have e : flat (.tup (.str x :: rs)) = .tup (.str x :: rs) :: flats rs := by simp [flat, flatT]
  rw [e]
  refine List.mem_cons_of_mem _ ?_
  induction rs with
  | nil => cases hd
  | cons c r ih =>
    simp only [flats, List.mem_append]
    rcases List.mem_cons.mp hd with rfl | hd
    · exact .inl h
    · exact .inr (ih hd (by simp [flat, flatT]))
/-- a heap and what is laid over it -/
def ovl (Hb N : Hp) : Hp := fun a => match Hb a with
  | some o => some o
  | none => N a
section
variable {Hb N N' H H' : Hp}
theorem ovl_base : Same Hb (ovl Hb N) := fun a o e => by
  unfold ovl
  rw [e]
theorem ovl_new {a : Addr} {o : HO} (h : Hb a = none) (e : N a = some o) : ovl Hb N a = some o := by
  unfold ovl
  rw [h]
  exact e
theorem ovl_mono (k : Same N N') : Same (ovl Hb N) (ovl Hb N') := fun a o e => by
  unfold ovl at e ⊢
  cases z : Hb a with
  | some u =>
    rw [z] at e
    exact e
  | none =>
    rw [z] at e
    exact k _ _ e
theorem ovl_sub (k : Same Hb H') (k2 : Same N H') : Same (ovl Hb N) H' := fun a o e => by
  unfold ovl at e
  cases z : Hb a with
  | some u =>
    rw [z] at e
    cases e
    exact k _ _ z
  | none =>
    rw [z] at e
    exact k2 _ _ e
end
theorem Same.none {H H' : Hp} {l : Addr} (k : Same H H') (h : H' l = none) : H l = none := by
  cases e : H l with
  | none => rfl
  | some o =>
    rw [k _ _ e] at h
    cases h
/-- _law_put: what is told stands in Hb and in what is new -/
def spLPut (K : PySem.W.Frag) (m : Nat) : Sp := fun vs H Q _ => ∃ (Hb : Hp) (v va : V) (d : D) (f : Int → D), vs = [v, va] ∧ Same Hb H ∧ Dv Hb v d ∧ Tm d ∧ d.deep < m ∧ d.size ≤ 100000 ∧
  (∀ u, D.int u ∈ flat d → ∃ v, Look K H va u v ∧ Dv Hb v (f u)) ∧ ∀ (v' : V) (H' : Hp), Same H H' → Dv (ovl Hb (newof H H')) v' (putD f d) → Q v' H'
/-- [f(x) for x in xs], each turn may leave new things and gives new data -/
theorem lc_newD {J : It} {G : Hp → Prop} {te : TE} {tt : TT} {σ : L2.St} {H Hb : Hp} {xs : List V} {ds : List D} {j : Nat} {vs : List Nat} {Dl : Addr} {Qd : Hp → Prop} (f : D → D) (wk : Walk J xs.length G (YAt xs)) (hG : ∀ H', Same H H' → G H') (hd : DvL Hb xs ds) (hD : H Dl = none) (hz : xs.length ≤ 100000)
    (hw : ∀ x, wipe ((wipe σ vs).set j (some x)) vs = wipe σ vs) (he : ∀ σ' H' (R : Bool → Hp → Prop), R true H' → tt σ' H' R)
    (hv : ∀ (x : V) (d : D) (H' : Hp) (R : VK), Same H H' → d ∈ ds → Dv Hb x d → (∀ y H2, Same H' H2 → Dv (ovl Hb (newof H' H2)) y (f d) → R y H2) → te ((wipe σ vs).set j (some x)) H' R)
    (q : ∀ H' zs, Same H H' → H' Dl = some (.lst zs) → DvL (ovl Hb (newof (upd H Dl (.lst [])) H')) zs (ds.map f) → Qd H') :
    ∃ W : Nat → Nat → Hp → Prop, (∃ m, W 0 m (upd H Dl (.lst []))) ∧ ∀ i m H, W i m H → (J.stop i H ∧ Qd H) ∨ (J.go i H ∧ ∃ Nx : Hp → Prop, (∀ H', Nx H' → ∃ m', m' < m ∧ W (i + 1) m' H') ∧
      ∀ x H', J.yld i H x H' → gName j x (wipe σ vs) H' fun σ2 H2 => wipe σ2 vs = wipe σ vs ∧ tt σ2 H2 fun b H3 => if b = true then te σ2 H3 fun y H4 => ∃ acc, H4 Dl = some (.lst acc) ∧ acc.length < sizeLine ∧ Nx (upd H4 Dl (.lst (acc ++ [y]))) else Nx H3) := by
  have hlen := hd.len
  have h0 : (upd H Dl (.lst [])) Dl = some (.lst []) := upd_same
  refine lc_it wk (fun i H' => Same H H' ∧ ∃ zs, H' Dl = some (.lst zs) ∧ DvL (ovl Hb (newof (upd H Dl (.lst [])) H')) zs ((ds.take i).map f)) ⟨Same.new hD, [], upd_same, .nil⟩ (fun i H' _ h => hG H' h.1) ?_ ?_
  · rintro i x H1 H1' hi ⟨k, zs, hl, hz2⟩ ⟨rfl, hx⟩
    obtain ⟨d, e1, hd1⟩ := hd.get hx
    refine ⟨hw _, he _ _ _ ?_⟩
    rw [if_pos rfl]
    refine hv x d H1' _ k (tk e1) hd1 fun y H2 k2 hy => ⟨zs, k2 _ _ hl, ?_, Same.upd (k.trans k2) hD, zs ++ [y], upd_same, ?_⟩
    · have := hz2.len
      rw [List.length_map, List.length_take] at this
      exact szl (by omega)
    · rw [newof_upd h0, take_succ' e1, List.map_append]
      refine (hz2.same (ovl_mono (newof_same k2)) _ _).snoc (hy.same (ovl_mono (newof_lift fun a ha => ?_)) _ _)
      have n1 : a ≠ Dl := fun z => by
        rw [z, hl] at ha
        cases ha
      rw [upd_ne n1]
      exact Same.none k ha
  · rintro H' ⟨k, zs, hl, hz2⟩
    have : ds.take xs.length = ds := List.take_of_length_le (by omega)
    rw [this] at hz2
    exact q H' zs k hl hz2
theorem newof_first {H H' : Hp} {Dl : Addr} {o : HO} (h : H Dl = none) : Same (newof (upd H Dl o) H') (newof H H') := newof_lift fun a ha => by
  by_cases z : a = Dl
  · rw [z]
    exact h
  · rwa [upd_ne z] at ha
end Fm
set_option maxRecDepth 100000
set_option maxHeartbeats 2000000

namespace PySem
namespace Erplace
open PySem.W PySem.Calls PyProof.Rows PySem.HandSPX
/-! ### the text of __init__ -/
def iA (p1 p2 : Pos) : Arguments := { posonlyargs := [], args := [{ arg := "self", annotation := none, pos := p1 }, { arg := "place", annotation := none, pos := p2 }], vararg := none, kwonlyargs := [], kw_defaults := [], kwarg := none, defaults := [] }
def iB (q1 q2 q3 q4 : Pos) : List Stmt := [.Assign [.Attribute (.Name "self" q1) "place" q2] (.Name "place" q3) q4]
def iS : Scope := { kind := .function, names := [(PySem.Str.ofString "self", .local), (PySem.Str.ofString "place", .local)], isGenerator := false, isCoroutine := false, more := [] }
/-- what the written part says of Low, at C, and of its __init__, at fI -/
structure ErTxt (K : Frag) (mg : Str → Option Value) (cn qn : Str) (C fI : Addr) : Prop where
  gC : mg cn = some (.ref C)
  cls : ∃ nm q N bs bm sn sub ab col dd k0 k1 k2 k3 k5, K.lookup C = some (excClassObj nm q C N bs bm true sn sub ab col dd k0 k1 k2 k3 k5 "ValueError.__new__") ∧ refsVE bm = true
  sa : findIn K (.ref C) "__setattr__" = some (some (.builtin "object.__setattr__"))
  ga : findIn K (.ref C) "__getattribute__" = some (some (.builtin "BaseException.__getattribute__"))
  gg : findIn K (.ref C) "__getattr__" = some none
  noN : findIn K (.ref C) "place" = some none
  iC : findIn K (.ref C) "__init__" = some (some (.ref fI))
  tC : typeIn K (.ref fI) = some (.type "function")
  kC : keepIn K (.ref C) = true
  exC : subIn K (.ref C) (.type "BaseException") = some true
  tyC : typeIn K (.ref C) = some (.type "type")
  hdC : hasDictIn K C = true
  fn : ∃ (oc : Value) (od : Option Addr) (doc pm : Value) (an : Option Addr) (cdv ct : Value) (osl : Array (Option Value)) (p1 p2 q1 q2 q3 q4 : Pos),
    K.lookup fI = some ⟨oc, od, .func (fnOf "__init__" qn (iA p1 p2) (iB q1 q2 q3 q4) iS .none .none doc pm an cdv ct), osl⟩ ∧ codeIn K cdv qn = true
theorem one_size (v : Value) : [v].length ≤ sizeLine := by
  rw [sizeLine_eq]
  exact (by decide : 1 ≤ 16777216)
theorem kept_but {K : Frag} {h h' : Heap} {x : Addr} (X : K.In h) (hx : K.lookup x = none) (k : ∀ b o, b ≠ x → h.get? b = some o → h'.get? b = some o) : K.In h' := fun a o e =>
  k a o (fun z => by rw [z, hx] at e; cases e) (X a o e)
theorem ldC {M : Model} {s : Shared} {name : Str} {scope : Scope} {L a : Addr} {cd : Value} {m : Str → Option Value} {x : Str} {pos : Pos} {v : Value} {Q : Value → Shared → Prop} {A : Around} {E : Value → Shared → Prop} (hn : s.heap.Ns L m) (hv : m x = some v) (h : Q v s)
    (hk : scope.kind = .function := by rfl) (hl : (envOfC name scope L a cd).kindOf x = some .local := by rfl) (hd : (x == ("__debug__" : Str)) = false := by decide) :
    wpAny M A (eval (.Name x pos) (envOfC name scope L a cd)) Q E s := wpAny_Name (wpAny_loadName_local hk hl hn hv h) hd
/-- what __init__ leaves of a fresh exception at x -/
structure InitEnd (h h' : Heap) (x C dx t1 : Addr) (v : Value) : Prop where
  keep : ∀ b o, b ≠ x → h.get? b = some o → h'.get? b = some o
  obj : h'.get? x = some { cls := .ref C, dict := some dx, data := .fields #[.ref t1, .none, .none, .none, .bool false, .none] }
  dbig : h.objs.size ≤ dx
  dne : dx ≠ x
  ns : h'.Ns1 dx (fun y => if y = "place" then some v else none)
/-- a made Low -/
structure OwnMade (h h' : Heap) (e C d : Addr) (v : Value) : Prop where
  keep : ∀ b o, h.get? b = some o → h'.get? b = some o
  new : h.objs.size ≤ e
  obj : ∃ oe vs, h'.get? e = some oe ∧ oe.cls = .ref C ∧ oe.dict = some d ∧ oe.data = .fields vs ∧ vs[1]? = some .none
  dbig : h.objs.size ≤ d
  dne : d ≠ e
  ns : h'.Ns1 d (fun y => if y = "place" then some v else none)
section
variable {prog : Program} {w : World} {A : Around} {E : Value → Shared → Prop} {R : Result → Shared → Prop} {s : Shared} {K : Frag} {mg : Str → Option Value} {cn qn : Str} {C fI : Addr}
theorem low_init (T : ErTxt K mg cn qn C fI) {x t0 : Addr} {v : Value} (X : K.In s.heap) (hlim : s.heap.NoLimit) (hx : s.heap.get? x = some (excO C t0)) (hnx : K.lookup x = none) (hroom : A.depth < recursionLimit)
    (hq : ∀ h' tk dx, InitEnd s.heap h' x C dx t0 v → R (.ok (.ret .none)) { s with heap := h', toks := tk }) :
    codeAny (model prog w) A (.call (.ref fI) ⟨[.ref x, v], []⟩) R s := by
  obtain ⟨oc, od, doc, pm, an, cdv, ct, osl, p1, p2, q1, q2, q3, q4, ho, hcd⟩ := T.fn
  obtain ⟨nm, q, N, bs, bm, sn, sub, ab, col, dd, k0, k1, k2, k3, k5, hC, hbm⟩ := T.cls
  have hcl : clsIn K C = some { name := nm, bases := bs, mro := .ref C :: bm, ns := N, qualname := q, hasDict := true, slotNames := sn, subclasses := sub, abstract := ab, collection := col, hasDel := false } := by unfold clsIn; rw [hC] <;> rfl
  refine Att.call_fn (binds := [("self", .ref x), ("place", v)]) X hlim ho hcd hroom (BindsTo.of_eq (by first | rfl | with_unfolding_all rfl)) (by first | rfl | decide | with_unfolding_all rfl) (fun s₁ IC => ?_) rfl rfl rfl
  obtain ⟨h₁, tk₁, rfl⟩ := IC.toInCall.same
  have k : ∀ b o, s.heap.get? b = some o → h₁.get? b = some o := IC.toInCall.keep
  have hn := IC.toInCall.ns
  have hxL : s.heap.objs.size ≠ x := Nat.ne_of_gt (Heap.lt_size hx)
  have X₁ : K.In h₁ := X.keeps k
  have hx₁ := k _ _ hx
  -- self.by = by
  show wpAny _ _ (execs _ _) _ _ _
  refine wpAny_execs_cons (plainObj_wpAny_Assign_Attribute ?_)
  refine ldC (v := v) hn (by first | rfl | with_unfolding_all rfl | kernel_rfl) (ldC (v := .ref x) hn (by first | rfl | with_unfolding_all rfl | kernel_rfl) ?_)
  refine set_plain X₁ (ox := excO C t0) (od := none) ⟨hx₁, rfl, rfl, trivial⟩ T.sa ?_
  refine exc_osa X₁ hx₁ hcl (show refsVE (.ref C :: bm) = true from hbm) rfl T.noN (fun h₃ tk₃ dx k₃ dn dne hx₃ hn₃ => ?_)
  show wpAny _ _ (execs _ _) _ _ _
  have z : s.heap.objs.size < h₁.objs.size := hn.lt
  exact wpAny_execs_nil (hq h₃ tk₃ dx ⟨fun b o hb e => k₃ b o hb (k b o e), hx₃, Nat.le_of_lt (Nat.lt_of_lt_of_le z dn), dne, hn₃⟩)
theorem low_made (T : ErTxt K mg cn qn C fI) {v : Value} (X : K.In s.heap) (hlim : s.heap.NoLimit) (hroom : A.depth + 1 < recursionLimit)
    (hq : ∀ h' tk e d, OwnMade s.heap h' e C d v → R (.ok (.ret (.ref e))) { s with heap := h', toks := tk }) :
    codeAny (model prog w) A (.call (.ref C) ⟨[v], []⟩) R s := by
  obtain ⟨nm, q, N, bs, bm, sn, sub, ab, col, dd, k0, k1, k2, k3, k5, hC, hbm⟩ := T.cls
  obtain ⟨hp, g, dr, tk, os⟩ := s
  have k : ∀ b o, hp.get? b = some o → ((hp.push (kdv_tup [v])).push (excO C hp.objs.size)).get? b = some o := fun b o e => Heap.get?_push_of_some _ (Heap.get?_push_of_some _ e)
  have hget : ((hp.push (kdv_tup [v])).push (excO C hp.objs.size)).get? (hp.objs.size + 1) = some (excO C hp.objs.size) := by heap_get
  have hnx : K.lookup (hp.objs.size + 1) = none := by
    cases e : K.lookup (hp.objs.size + 1) with
    | none => rfl
    | some o =>
      have z : hp.get? (hp.objs.size + 1) = some o := X _ _ e
      exact absurd (Nat.lt_of_succ_lt (Heap.lt_size z)) (Nat.lt_irrefl _)
  refine call_own F.excBase_ValueError (fun X => refsVE_contains X bm hbm) (X _ _ hC) (looks_findIn X T.iC) (fun self => bind_fn X self T.tC) (one_size v) ?_
  refine low_init (s := ⟨(hp.push (kdv_tup [v])).push (excO C hp.objs.size), g, dr, tk, os⟩) T (X.keeps k) (hlim.keeps k) hget hnx ?_ fun h' tk' dx ⟨k', hx, dn, dne, hns⟩ => ?_
  · show A.depth + 1 < recursionLimit
    exact hroom
  · have old : ∀ b o, hp.get? b = some o → h'.get? b = some o := fun b o e => k' b o (Nat.ne_of_lt (Nat.lt_succ_of_lt (Heap.lt_size e))) (k b o e)
    have z : hp.objs.size + 1 + 1 ≤ dx := by
      first
        | (simpa only [Heap.size_push] using dn)
        | exact dn
        | (have q := dn; rw [Heap.size_push, Heap.size_push] at q; exact q)
    exact ⟨rfl, hq h' tk' (hp.objs.size + 1) dx ⟨old, Nat.le_succ _, ⟨_, _, hx, rfl, rfl, rfl, rfl⟩, Nat.le_trans (Nat.le_trans (Nat.le_succ _) (Nat.le_succ _)) z, dne, hns⟩⟩
end
end Erplace
end PySem
namespace L2
open PySem PySem.Spec PyProof.Rows
theorem relO_low_place {v : V} {v' : Value} (r : RelV v v') (f : Str) : RelO (List.lookup f [(("place" : Str), v)]) (if f = "place" then some v' else none) := by
  by_cases hw : f = "place"
  · subst hw
    rw [if_pos rfl]
    have q : List.lookup ("place" : Str) [(("place" : Str), v)] = some v := by simp [List.lookup]
    rw [q]
    exact r
  · rw [if_neg hw]
    have qw : (f == ("place" : Str)) = false := by simpa using hw
    have q2 : List.lookup f [(("place" : Str), v)] = none := by simp [List.lookup, qw]
    rw [q2]
    trivial
section
variable {X : Cx} {cn qn : Str} {C fI : Addr}
/-- Low(e) -/
def tMkLow_place (C : Addr) (ta : TA) : St → Hp → XK → Prop := fun σ H Q => ta σ H fun vs H1 => ∃ v, vs = [v] ∧ ∀ d, H1 d = none → Q (.ref C) (some d) (upd H1 d (.xd [(("place" : Str), v)]))
theorem pmk_low_place {a : Expr} {ta : TA} {p pos : Pos} {k : Nat} (T : PySem.Erplace.ErTxt X.K X.mg cn qn C fI) (hr : Room k X.A) (ha : PA X [a] ta) (hg : Gl X cn) (hdb : (cn == ("__debug__" : Str)) = false)
    (he : starEach (a :: []) X.env = (false, eval a X.env) :: starEach [] X.env := by rfl) (hpl : (backTo pos (starEach [] X.env)).any (·.1) = false := by rfl) :
    PMk X (.Call (.Name cn p) [a] [] pos) (tMkLow_place C ta) := by
  intro pins s σ H Q I h
  refine wpAny_Call_Name_kw (ld_glob I hg T.gC ?_ hdb)
  refine PySem.W.callWith_K (h₀ := X.base) I.ok.mod.kin T.kC (thn (ha.run pos pins s σ H _ I h) fun us s1 hh => ?_) he hpl
  obtain ⟨vs, H1, I1, r1, v, ev, q1⟩ := hh
  subst ev
  refine ⟨I1.kIn, ?_⟩
  cases r1 with
  | cons rv rn =>
    rename_i v' us'
    cases rn
    show wpAny _ _ (call (.ref C) [v']) _ _ _
    have hlim := I1.nolimit
    obtain ⟨hp, g, dr, tk, os⟩ := s1
    refine wpAny_call (PySem.Erplace.low_made T I1.kIn hlim (by have := hr.dp; omega) fun h' tk' e d M => ?_)
    show MkP X pins σ Q (.ref e) ⟨h', g, dr, tk', os⟩
    obtain ⟨oe, fv, hoe, hc, hd, hdat, h1⟩ := M.obj
    have hns := M.ns
    obtain ⟨G', g1, g2⟩ := restrict h' fun b => decide (b ≠ e)
    have gk : ∀ b, b ≠ e → G'.get? b = h'.get? b := fun b hb => g1 b (decide_eq_true hb)
    have ge : G'.get? e = none := g2 e (by simp)
    have old : ∀ b o, hp.get? b = some o → G'.get? b = some o := fun b o q => (gk b (Nat.ne_of_lt (Nat.lt_of_lt_of_le (Heap.lt_size q) M.new))).trans (M.keep b o q)
    have ob : ObjOk X.prog X.w (upd H1 d (.xd [(("place" : Str), v)])) G' d (.xd [(("place" : Str), v)]) :=
      ⟨_, hns.at (fun o q => (gk d M.dne).trans q), fun f => relO_low_place rv f⟩
    have J : Inv X pins σ (upd H1 d (.xd [(("place" : Str), v)])) ⟨G', g, dr, tk', os⟩ := I1.laid (t' := tk') old M.dbig ob
    refine ⟨e, oe, fv, ⟨G', g, dr, tk', os⟩, _, .ref C, some d, rfl, J, fun b o q => ?_, ge, hoe, ⟨hc, hd⟩, hdat, h1, ?_, rfl, I1.bare, raises_own T.exC T.tyC, q1 d (I1.hok.fresh M.dbig)⟩
    · by_cases hb : b = e
      · have q' : G'.get? b = some o := q
        rw [hb, ge] at q'; cases q'
      · exact (gk b hb).symm.trans q
    · rw [upd_ne (Ne.symm M.dne)]
      exact I1.hok.fresh M.new
/-- raise Low(e) -/
def tRaiseLow_place (C : Addr) (W : WX) (ta : TA) : TS := fun _ σ H => tMkLow_place C ta σ H fun cls d H' => W cls d σ H'
theorem ps_raiseLow_place {a : Expr} {ta : TA} {W : WX} {p pos pos2 : Pos} {k : Nat} (hc : X.calm = true) (T : PySem.Erplace.ErTxt X.K X.mg cn qn C fI) (hr : Room k X.A) (tk : Takes X W) (ha : PA X [a] ta) (hg : Gl X cn) (hdb : (cn == ("__debug__" : Str)) = false)
    (he : starEach (a :: []) X.env = (false, eval a X.env) :: starEach [] X.env := by rfl) (hpl : (backTo pos (starEach [] X.env)).any (·.1) = false := by rfl) :
    PS X (.Raise (some (.Call (.Name cn p) [a] [] pos)) none pos2) (tRaiseLow_place C W ta) := ps_raise hc tk (pmk_low_place T hr ha hg hdb he hpl)
/-- low.by, low the exception that the suite holds (at a; its class cls, its dict d) -/
def tByLow_place (C : Addr) (a : Addr) (cls : Value) (d : Option Addr) (te : TE) : TE := fun σ H Q => te σ H fun x H1 => x = .ref a ∧ cls = .ref C ∧ ∃ (dd : Addr) (v : V), d = some dd ∧ H1 dd = some (.xd [(("place" : Str), v)]) ∧ Q v H1
theorem pe_byLow_place {a : Addr} {oe : Obj} {cls : Value} {d : Option Addr} {pn : List (Addr × Obj)} {e : Expr} {te : TE} {pos : Pos} (T : PySem.Erplace.ErTxt X.K X.mg cn qn C fI) (hz : Zc cls d oe) (hf : ∃ vs, oe.data = .fields vs) (he : PE (X.suite a ((a, oe) :: pn)) e te)
    (hb : attributeBase e "place" X.env (eval e X.env) = eval e X.env := by rfl) :
    PE (X.suite a ((a, oe) :: pn)) (.Attribute e "place" pos) (tByLow_place C a cls d te) := by
  refine ⟨fun pins s σ H Q I h => ?_⟩
  refine attr_of hb (thn (he.run pins s σ H _ I h) fun u s1 hh => ?_)
  obtain ⟨x, H1, I1, rx, ex, ec, dd, v, ed, ea, q⟩ := hh
  subst ex
  obtain rfl : u = Value.ref a := rx
  subst ec
  subst ed
  obtain ⟨ha, _⟩ := I1.pin (a, oe) (List.mem_append_left _ List.mem_cons_self)
  obtain ⟨vs, hd⟩ := hf
  have hx : ObjOk X.prog X.w H1 s1.heap dd (.xd [(("place" : Str), v)]) := I1.hok dd _ ea
  obtain ⟨mA, hns, hr⟩ := hx
  obtain ⟨od, ho, hl⟩ := lookIn_ns hns
  have l : List.lookup ("place" : Str) [(("place" : Str), v)] = some v := by simp [List.lookup]
  obtain ⟨u, hu, ru⟩ := RelO.some_of (v := v) (o := mA "place") (by rw [← l]; exact hr "place")
  have J : PySem.W.InstAt s1.heap a oe C (some od) := ⟨ha, hz.1, by unfold PySem.W.notCls; rw [hd] <;> rfl, by rw [hz.2]; exact ho⟩
  exact HandSPX.exc_get I1.kIn J T.ga T.gg T.exC (PySem.W.findObj_own T.hdC T.noN rfl (by rw [hl, hu])) (handed_of ru) ⟨v, H1, I1.tok _, ru, q⟩
end
end L2


namespace PySem
namespace Ername
open PySem.W PySem.Calls PyProof.Rows PySem.HandSPX
/-! ### the text of __init__ -/
def iA (p1 p2 : Pos) : Arguments := { posonlyargs := [], args := [{ arg := "self", annotation := none, pos := p1 }, { arg := "name", annotation := none, pos := p2 }], vararg := none, kwonlyargs := [], kw_defaults := [], kwarg := none, defaults := [] }
def iB (q1 q2 q3 q4 : Pos) : List Stmt := [.Assign [.Attribute (.Name "self" q1) "name" q2] (.Name "name" q3) q4]
def iS : Scope := { kind := .function, names := [(PySem.Str.ofString "self", .local), (PySem.Str.ofString "name", .local)], isGenerator := false, isCoroutine := false, more := [] }
/-- what the written part says of Low, at C, and of its __init__, at fI -/
structure ErTxt (K : Frag) (mg : Str → Option Value) (cn qn : Str) (C fI : Addr) : Prop where
  gC : mg cn = some (.ref C)
  cls : ∃ nm q N bs bm sn sub ab col dd k0 k1 k2 k3 k5, K.lookup C = some (excClassObj nm q C N bs bm true sn sub ab col dd k0 k1 k2 k3 k5 "ValueError.__new__") ∧ refsVE bm = true
  sa : findIn K (.ref C) "__setattr__" = some (some (.builtin "object.__setattr__"))
  ga : findIn K (.ref C) "__getattribute__" = some (some (.builtin "BaseException.__getattribute__"))
  gg : findIn K (.ref C) "__getattr__" = some none
  noN : findIn K (.ref C) "name" = some none
  iC : findIn K (.ref C) "__init__" = some (some (.ref fI))
  tC : typeIn K (.ref fI) = some (.type "function")
  kC : keepIn K (.ref C) = true
  exC : subIn K (.ref C) (.type "BaseException") = some true
  tyC : typeIn K (.ref C) = some (.type "type")
  hdC : hasDictIn K C = true
  fn : ∃ (oc : Value) (od : Option Addr) (doc pm : Value) (an : Option Addr) (cdv ct : Value) (osl : Array (Option Value)) (p1 p2 q1 q2 q3 q4 : Pos),
    K.lookup fI = some ⟨oc, od, .func (fnOf "__init__" qn (iA p1 p2) (iB q1 q2 q3 q4) iS .none .none doc pm an cdv ct), osl⟩ ∧ codeIn K cdv qn = true
theorem one_size (v : Value) : [v].length ≤ sizeLine := by
  rw [sizeLine_eq]
  exact (by decide : 1 ≤ 16777216)
theorem kept_but {K : Frag} {h h' : Heap} {x : Addr} (X : K.In h) (hx : K.lookup x = none) (k : ∀ b o, b ≠ x → h.get? b = some o → h'.get? b = some o) : K.In h' := fun a o e =>
  k a o (fun z => by rw [z, hx] at e; cases e) (X a o e)
theorem ldC {M : Model} {s : Shared} {name : Str} {scope : Scope} {L a : Addr} {cd : Value} {m : Str → Option Value} {x : Str} {pos : Pos} {v : Value} {Q : Value → Shared → Prop} {A : Around} {E : Value → Shared → Prop} (hn : s.heap.Ns L m) (hv : m x = some v) (h : Q v s)
    (hk : scope.kind = .function := by rfl) (hl : (envOfC name scope L a cd).kindOf x = some .local := by rfl) (hd : (x == ("__debug__" : Str)) = false := by decide) :
    wpAny M A (eval (.Name x pos) (envOfC name scope L a cd)) Q E s := wpAny_Name (wpAny_loadName_local hk hl hn hv h) hd
/-- what __init__ leaves of a fresh exception at x -/
structure InitEnd (h h' : Heap) (x C dx t1 : Addr) (v : Value) : Prop where
  keep : ∀ b o, b ≠ x → h.get? b = some o → h'.get? b = some o
  obj : h'.get? x = some { cls := .ref C, dict := some dx, data := .fields #[.ref t1, .none, .none, .none, .bool false, .none] }
  dbig : h.objs.size ≤ dx
  dne : dx ≠ x
  ns : h'.Ns1 dx (fun y => if y = "name" then some v else none)
/-- a made Low -/
structure OwnMade (h h' : Heap) (e C d : Addr) (v : Value) : Prop where
  keep : ∀ b o, h.get? b = some o → h'.get? b = some o
  new : h.objs.size ≤ e
  obj : ∃ oe vs, h'.get? e = some oe ∧ oe.cls = .ref C ∧ oe.dict = some d ∧ oe.data = .fields vs ∧ vs[1]? = some .none
  dbig : h.objs.size ≤ d
  dne : d ≠ e
  ns : h'.Ns1 d (fun y => if y = "name" then some v else none)
section
variable {prog : Program} {w : World} {A : Around} {E : Value → Shared → Prop} {R : Result → Shared → Prop} {s : Shared} {K : Frag} {mg : Str → Option Value} {cn qn : Str} {C fI : Addr}
theorem low_init (T : ErTxt K mg cn qn C fI) {x t0 : Addr} {v : Value} (X : K.In s.heap) (hlim : s.heap.NoLimit) (hx : s.heap.get? x = some (excO C t0)) (hnx : K.lookup x = none) (hroom : A.depth < recursionLimit)
    (hq : ∀ h' tk dx, InitEnd s.heap h' x C dx t0 v → R (.ok (.ret .none)) { s with heap := h', toks := tk }) :
    codeAny (model prog w) A (.call (.ref fI) ⟨[.ref x, v], []⟩) R s := by
  obtain ⟨oc, od, doc, pm, an, cdv, ct, osl, p1, p2, q1, q2, q3, q4, ho, hcd⟩ := T.fn
  obtain ⟨nm, q, N, bs, bm, sn, sub, ab, col, dd, k0, k1, k2, k3, k5, hC, hbm⟩ := T.cls
  have hcl : clsIn K C = some { name := nm, bases := bs, mro := .ref C :: bm, ns := N, qualname := q, hasDict := true, slotNames := sn, subclasses := sub, abstract := ab, collection := col, hasDel := false } := by unfold clsIn; rw [hC] <;> rfl
  refine Att.call_fn (binds := [("self", .ref x), ("name", v)]) X hlim ho hcd hroom (BindsTo.of_eq (by first | rfl | with_unfolding_all rfl)) (by first | rfl | decide | with_unfolding_all rfl) (fun s₁ IC => ?_) rfl rfl rfl
  obtain ⟨h₁, tk₁, rfl⟩ := IC.toInCall.same
  have k : ∀ b o, s.heap.get? b = some o → h₁.get? b = some o := IC.toInCall.keep
  have hn := IC.toInCall.ns
  have hxL : s.heap.objs.size ≠ x := Nat.ne_of_gt (Heap.lt_size hx)
  have X₁ : K.In h₁ := X.keeps k
  have hx₁ := k _ _ hx
  -- self.by = by
  show wpAny _ _ (execs _ _) _ _ _
  refine wpAny_execs_cons (plainObj_wpAny_Assign_Attribute ?_)
  refine ldC (v := v) hn (by first | rfl | with_unfolding_all rfl | kernel_rfl) (ldC (v := .ref x) hn (by first | rfl | with_unfolding_all rfl | kernel_rfl) ?_)
  refine set_plain X₁ (ox := excO C t0) (od := none) ⟨hx₁, rfl, rfl, trivial⟩ T.sa ?_
  refine exc_osa X₁ hx₁ hcl (show refsVE (.ref C :: bm) = true from hbm) rfl T.noN (fun h₃ tk₃ dx k₃ dn dne hx₃ hn₃ => ?_)
  show wpAny _ _ (execs _ _) _ _ _
  have z : s.heap.objs.size < h₁.objs.size := hn.lt
  exact wpAny_execs_nil (hq h₃ tk₃ dx ⟨fun b o hb e => k₃ b o hb (k b o e), hx₃, Nat.le_of_lt (Nat.lt_of_lt_of_le z dn), dne, hn₃⟩)
theorem low_made (T : ErTxt K mg cn qn C fI) {v : Value} (X : K.In s.heap) (hlim : s.heap.NoLimit) (hroom : A.depth + 1 < recursionLimit)
    (hq : ∀ h' tk e d, OwnMade s.heap h' e C d v → R (.ok (.ret (.ref e))) { s with heap := h', toks := tk }) :
    codeAny (model prog w) A (.call (.ref C) ⟨[v], []⟩) R s := by
  obtain ⟨nm, q, N, bs, bm, sn, sub, ab, col, dd, k0, k1, k2, k3, k5, hC, hbm⟩ := T.cls
  obtain ⟨hp, g, dr, tk, os⟩ := s
  have k : ∀ b o, hp.get? b = some o → ((hp.push (kdv_tup [v])).push (excO C hp.objs.size)).get? b = some o := fun b o e => Heap.get?_push_of_some _ (Heap.get?_push_of_some _ e)
  have hget : ((hp.push (kdv_tup [v])).push (excO C hp.objs.size)).get? (hp.objs.size + 1) = some (excO C hp.objs.size) := by heap_get
  have hnx : K.lookup (hp.objs.size + 1) = none := by
    cases e : K.lookup (hp.objs.size + 1) with
    | none => rfl
    | some o =>
      have z : hp.get? (hp.objs.size + 1) = some o := X _ _ e
      exact absurd (Nat.lt_of_succ_lt (Heap.lt_size z)) (Nat.lt_irrefl _)
  refine call_own F.excBase_ValueError (fun X => refsVE_contains X bm hbm) (X _ _ hC) (looks_findIn X T.iC) (fun self => bind_fn X self T.tC) (one_size v) ?_
  refine low_init (s := ⟨(hp.push (kdv_tup [v])).push (excO C hp.objs.size), g, dr, tk, os⟩) T (X.keeps k) (hlim.keeps k) hget hnx ?_ fun h' tk' dx ⟨k', hx, dn, dne, hns⟩ => ?_
  · show A.depth + 1 < recursionLimit
    exact hroom
  · have old : ∀ b o, hp.get? b = some o → h'.get? b = some o := fun b o e => k' b o (Nat.ne_of_lt (Nat.lt_succ_of_lt (Heap.lt_size e))) (k b o e)
    have z : hp.objs.size + 1 + 1 ≤ dx := by
      first
        | (simpa only [Heap.size_push] using dn)
        | exact dn
        | (have q := dn; rw [Heap.size_push, Heap.size_push] at q; exact q)
    exact ⟨rfl, hq h' tk' (hp.objs.size + 1) dx ⟨old, Nat.le_succ _, ⟨_, _, hx, rfl, rfl, rfl, rfl⟩, Nat.le_trans (Nat.le_trans (Nat.le_succ _) (Nat.le_succ _)) z, dne, hns⟩⟩
end
end Ername
end PySem
namespace L2
open PySem PySem.Spec PyProof.Rows
theorem relO_low_name {v : V} {v' : Value} (r : RelV v v') (f : Str) : RelO (List.lookup f [(("name" : Str), v)]) (if f = "name" then some v' else none) := by
  by_cases hw : f = "name"
  · subst hw
    rw [if_pos rfl]
    have q : List.lookup ("name" : Str) [(("name" : Str), v)] = some v := by simp [List.lookup]
    rw [q]
    exact r
  · rw [if_neg hw]
    have qw : (f == ("name" : Str)) = false := by simpa using hw
    have q2 : List.lookup f [(("name" : Str), v)] = none := by simp [List.lookup, qw]
    rw [q2]
    trivial
section
variable {X : Cx} {cn qn : Str} {C fI : Addr}
/-- Low(e) -/
def tMkLow_name (C : Addr) (ta : TA) : St → Hp → XK → Prop := fun σ H Q => ta σ H fun vs H1 => ∃ v, vs = [v] ∧ ∀ d, H1 d = none → Q (.ref C) (some d) (upd H1 d (.xd [(("name" : Str), v)]))
theorem pmk_low_name {a : Expr} {ta : TA} {p pos : Pos} {k : Nat} (T : PySem.Ername.ErTxt X.K X.mg cn qn C fI) (hr : Room k X.A) (ha : PA X [a] ta) (hg : Gl X cn) (hdb : (cn == ("__debug__" : Str)) = false)
    (he : starEach (a :: []) X.env = (false, eval a X.env) :: starEach [] X.env := by rfl) (hpl : (backTo pos (starEach [] X.env)).any (·.1) = false := by rfl) :
    PMk X (.Call (.Name cn p) [a] [] pos) (tMkLow_name C ta) := by
  intro pins s σ H Q I h
  refine wpAny_Call_Name_kw (ld_glob I hg T.gC ?_ hdb)
  refine PySem.W.callWith_K (h₀ := X.base) I.ok.mod.kin T.kC (thn (ha.run pos pins s σ H _ I h) fun us s1 hh => ?_) he hpl
  obtain ⟨vs, H1, I1, r1, v, ev, q1⟩ := hh
  subst ev
  refine ⟨I1.kIn, ?_⟩
  cases r1 with
  | cons rv rn =>
    rename_i v' us'
    cases rn
    show wpAny _ _ (call (.ref C) [v']) _ _ _
    have hlim := I1.nolimit
    obtain ⟨hp, g, dr, tk, os⟩ := s1
    refine wpAny_call (PySem.Ername.low_made T I1.kIn hlim (by have := hr.dp; omega) fun h' tk' e d M => ?_)
    show MkP X pins σ Q (.ref e) ⟨h', g, dr, tk', os⟩
    obtain ⟨oe, fv, hoe, hc, hd, hdat, h1⟩ := M.obj
    have hns := M.ns
    obtain ⟨G', g1, g2⟩ := restrict h' fun b => decide (b ≠ e)
    have gk : ∀ b, b ≠ e → G'.get? b = h'.get? b := fun b hb => g1 b (decide_eq_true hb)
    have ge : G'.get? e = none := g2 e (by simp)
    have old : ∀ b o, hp.get? b = some o → G'.get? b = some o := fun b o q => (gk b (Nat.ne_of_lt (Nat.lt_of_lt_of_le (Heap.lt_size q) M.new))).trans (M.keep b o q)
    have ob : ObjOk X.prog X.w (upd H1 d (.xd [(("name" : Str), v)])) G' d (.xd [(("name" : Str), v)]) :=
      ⟨_, hns.at (fun o q => (gk d M.dne).trans q), fun f => relO_low_name rv f⟩
    have J : Inv X pins σ (upd H1 d (.xd [(("name" : Str), v)])) ⟨G', g, dr, tk', os⟩ := I1.laid (t' := tk') old M.dbig ob
    refine ⟨e, oe, fv, ⟨G', g, dr, tk', os⟩, _, .ref C, some d, rfl, J, fun b o q => ?_, ge, hoe, ⟨hc, hd⟩, hdat, h1, ?_, rfl, I1.bare, raises_own T.exC T.tyC, q1 d (I1.hok.fresh M.dbig)⟩
    · by_cases hb : b = e
      · have q' : G'.get? b = some o := q
        rw [hb, ge] at q'; cases q'
      · exact (gk b hb).symm.trans q
    · rw [upd_ne (Ne.symm M.dne)]
      exact I1.hok.fresh M.new
/-- raise Low(e) -/
def tRaiseLow_name (C : Addr) (W : WX) (ta : TA) : TS := fun _ σ H => tMkLow_name C ta σ H fun cls d H' => W cls d σ H'
theorem ps_raiseLow_name {a : Expr} {ta : TA} {W : WX} {p pos pos2 : Pos} {k : Nat} (hc : X.calm = true) (T : PySem.Ername.ErTxt X.K X.mg cn qn C fI) (hr : Room k X.A) (tk : Takes X W) (ha : PA X [a] ta) (hg : Gl X cn) (hdb : (cn == ("__debug__" : Str)) = false)
    (he : starEach (a :: []) X.env = (false, eval a X.env) :: starEach [] X.env := by rfl) (hpl : (backTo pos (starEach [] X.env)).any (·.1) = false := by rfl) :
    PS X (.Raise (some (.Call (.Name cn p) [a] [] pos)) none pos2) (tRaiseLow_name C W ta) := ps_raise hc tk (pmk_low_name T hr ha hg hdb he hpl)
/-- low.by, low the exception that the suite holds (at a; its class cls, its dict d) -/
def tByLow_name (C : Addr) (a : Addr) (cls : Value) (d : Option Addr) (te : TE) : TE := fun σ H Q => te σ H fun x H1 => x = .ref a ∧ cls = .ref C ∧ ∃ (dd : Addr) (v : V), d = some dd ∧ H1 dd = some (.xd [(("name" : Str), v)]) ∧ Q v H1
theorem pe_byLow_name {a : Addr} {oe : Obj} {cls : Value} {d : Option Addr} {pn : List (Addr × Obj)} {e : Expr} {te : TE} {pos : Pos} (T : PySem.Ername.ErTxt X.K X.mg cn qn C fI) (hz : Zc cls d oe) (hf : ∃ vs, oe.data = .fields vs) (he : PE (X.suite a ((a, oe) :: pn)) e te)
    (hb : attributeBase e "name" X.env (eval e X.env) = eval e X.env := by rfl) :
    PE (X.suite a ((a, oe) :: pn)) (.Attribute e "name" pos) (tByLow_name C a cls d te) := by
  refine ⟨fun pins s σ H Q I h => ?_⟩
  refine attr_of hb (thn (he.run pins s σ H _ I h) fun u s1 hh => ?_)
  obtain ⟨x, H1, I1, rx, ex, ec, dd, v, ed, ea, q⟩ := hh
  subst ex
  obtain rfl : u = Value.ref a := rx
  subst ec
  subst ed
  obtain ⟨ha, _⟩ := I1.pin (a, oe) (List.mem_append_left _ List.mem_cons_self)
  obtain ⟨vs, hd⟩ := hf
  have hx : ObjOk X.prog X.w H1 s1.heap dd (.xd [(("name" : Str), v)]) := I1.hok dd _ ea
  obtain ⟨mA, hns, hr⟩ := hx
  obtain ⟨od, ho, hl⟩ := lookIn_ns hns
  have l : List.lookup ("name" : Str) [(("name" : Str), v)] = some v := by simp [List.lookup]
  obtain ⟨u, hu, ru⟩ := RelO.some_of (v := v) (o := mA "name") (by rw [← l]; exact hr "name")
  have J : PySem.W.InstAt s1.heap a oe C (some od) := ⟨ha, hz.1, by unfold PySem.W.notCls; rw [hd] <;> rfl, by rw [hz.2]; exact ho⟩
  exact HandSPX.exc_get I1.kIn J T.ga T.gg T.exC (PySem.W.findObj_own T.hdC T.noN rfl (by rw [hl, hu])) (handed_of ru) ⟨v, H1, I1.tok _, ru, q⟩
end
end L2


namespace PySem
namespace Erat
open PySem.W PySem.Calls PyProof.Rows PySem.HandSPX
/-! ### the text of __init__ -/
def iA (p1 p2 : Pos) : Arguments := { posonlyargs := [], args := [{ arg := "self", annotation := none, pos := p1 }, { arg := "at", annotation := none, pos := p2 }], vararg := none, kwonlyargs := [], kw_defaults := [], kwarg := none, defaults := [] }
def iB (q1 q2 q3 q4 : Pos) : List Stmt := [.Assign [.Attribute (.Name "self" q1) "at" q2] (.Name "at" q3) q4]
def iS : Scope := { kind := .function, names := [(PySem.Str.ofString "self", .local), (PySem.Str.ofString "at", .local)], isGenerator := false, isCoroutine := false, more := [] }
/-- what the written part says of Low, at C, and of its __init__, at fI -/
structure ErTxt (K : Frag) (mg : Str → Option Value) (cn qn : Str) (C fI : Addr) : Prop where
  gC : mg cn = some (.ref C)
  cls : ∃ nm q N bs bm sn sub ab col dd k0 k1 k2 k3 k5, K.lookup C = some (excClassObj nm q C N bs bm true sn sub ab col dd k0 k1 k2 k3 k5 "ValueError.__new__") ∧ refsVE bm = true
  sa : findIn K (.ref C) "__setattr__" = some (some (.builtin "object.__setattr__"))
  ga : findIn K (.ref C) "__getattribute__" = some (some (.builtin "BaseException.__getattribute__"))
  gg : findIn K (.ref C) "__getattr__" = some none
  noN : findIn K (.ref C) "at" = some none
  iC : findIn K (.ref C) "__init__" = some (some (.ref fI))
  tC : typeIn K (.ref fI) = some (.type "function")
  kC : keepIn K (.ref C) = true
  exC : subIn K (.ref C) (.type "BaseException") = some true
  tyC : typeIn K (.ref C) = some (.type "type")
  hdC : hasDictIn K C = true
  fn : ∃ (oc : Value) (od : Option Addr) (doc pm : Value) (an : Option Addr) (cdv ct : Value) (osl : Array (Option Value)) (p1 p2 q1 q2 q3 q4 : Pos),
    K.lookup fI = some ⟨oc, od, .func (fnOf "__init__" qn (iA p1 p2) (iB q1 q2 q3 q4) iS .none .none doc pm an cdv ct), osl⟩ ∧ codeIn K cdv qn = true
theorem one_size (v : Value) : [v].length ≤ sizeLine := by
  rw [sizeLine_eq]
  exact (by decide : 1 ≤ 16777216)
theorem kept_but {K : Frag} {h h' : Heap} {x : Addr} (X : K.In h) (hx : K.lookup x = none) (k : ∀ b o, b ≠ x → h.get? b = some o → h'.get? b = some o) : K.In h' := fun a o e =>
  k a o (fun z => by rw [z, hx] at e; cases e) (X a o e)
theorem ldC {M : Model} {s : Shared} {name : Str} {scope : Scope} {L a : Addr} {cd : Value} {m : Str → Option Value} {x : Str} {pos : Pos} {v : Value} {Q : Value → Shared → Prop} {A : Around} {E : Value → Shared → Prop} (hn : s.heap.Ns L m) (hv : m x = some v) (h : Q v s)
    (hk : scope.kind = .function := by rfl) (hl : (envOfC name scope L a cd).kindOf x = some .local := by rfl) (hd : (x == ("__debug__" : Str)) = false := by decide) :
    wpAny M A (eval (.Name x pos) (envOfC name scope L a cd)) Q E s := wpAny_Name (wpAny_loadName_local hk hl hn hv h) hd
/-- what __init__ leaves of a fresh exception at x -/
structure InitEnd (h h' : Heap) (x C dx t1 : Addr) (v : Value) : Prop where
  keep : ∀ b o, b ≠ x → h.get? b = some o → h'.get? b = some o
  obj : h'.get? x = some { cls := .ref C, dict := some dx, data := .fields #[.ref t1, .none, .none, .none, .bool false, .none] }
  dbig : h.objs.size ≤ dx
  dne : dx ≠ x
  ns : h'.Ns1 dx (fun y => if y = "at" then some v else none)
/-- a made Low -/
structure OwnMade (h h' : Heap) (e C d : Addr) (v : Value) : Prop where
  keep : ∀ b o, h.get? b = some o → h'.get? b = some o
  new : h.objs.size ≤ e
  obj : ∃ oe vs, h'.get? e = some oe ∧ oe.cls = .ref C ∧ oe.dict = some d ∧ oe.data = .fields vs ∧ vs[1]? = some .none
  dbig : h.objs.size ≤ d
  dne : d ≠ e
  ns : h'.Ns1 d (fun y => if y = "at" then some v else none)
section
variable {prog : Program} {w : World} {A : Around} {E : Value → Shared → Prop} {R : Result → Shared → Prop} {s : Shared} {K : Frag} {mg : Str → Option Value} {cn qn : Str} {C fI : Addr}
theorem low_init (T : ErTxt K mg cn qn C fI) {x t0 : Addr} {v : Value} (X : K.In s.heap) (hlim : s.heap.NoLimit) (hx : s.heap.get? x = some (excO C t0)) (hnx : K.lookup x = none) (hroom : A.depth < recursionLimit)
    (hq : ∀ h' tk dx, InitEnd s.heap h' x C dx t0 v → R (.ok (.ret .none)) { s with heap := h', toks := tk }) :
    codeAny (model prog w) A (.call (.ref fI) ⟨[.ref x, v], []⟩) R s := by
  obtain ⟨oc, od, doc, pm, an, cdv, ct, osl, p1, p2, q1, q2, q3, q4, ho, hcd⟩ := T.fn
  obtain ⟨nm, q, N, bs, bm, sn, sub, ab, col, dd, k0, k1, k2, k3, k5, hC, hbm⟩ := T.cls
  have hcl : clsIn K C = some { name := nm, bases := bs, mro := .ref C :: bm, ns := N, qualname := q, hasDict := true, slotNames := sn, subclasses := sub, abstract := ab, collection := col, hasDel := false } := by unfold clsIn; rw [hC] <;> rfl
  refine Att.call_fn (binds := [("self", .ref x), ("at", v)]) X hlim ho hcd hroom (BindsTo.of_eq (by first | rfl | with_unfolding_all rfl)) (by first | rfl | decide | with_unfolding_all rfl) (fun s₁ IC => ?_) rfl rfl rfl
  obtain ⟨h₁, tk₁, rfl⟩ := IC.toInCall.same
  have k : ∀ b o, s.heap.get? b = some o → h₁.get? b = some o := IC.toInCall.keep
  have hn := IC.toInCall.ns
  have hxL : s.heap.objs.size ≠ x := Nat.ne_of_gt (Heap.lt_size hx)
  have X₁ : K.In h₁ := X.keeps k
  have hx₁ := k _ _ hx
  -- self.by = by
  show wpAny _ _ (execs _ _) _ _ _
  refine wpAny_execs_cons (plainObj_wpAny_Assign_Attribute ?_)
  refine ldC (v := v) hn (by first | rfl | with_unfolding_all rfl | kernel_rfl) (ldC (v := .ref x) hn (by first | rfl | with_unfolding_all rfl | kernel_rfl) ?_)
  refine set_plain X₁ (ox := excO C t0) (od := none) ⟨hx₁, rfl, rfl, trivial⟩ T.sa ?_
  refine exc_osa X₁ hx₁ hcl (show refsVE (.ref C :: bm) = true from hbm) rfl T.noN (fun h₃ tk₃ dx k₃ dn dne hx₃ hn₃ => ?_)
  show wpAny _ _ (execs _ _) _ _ _
  have z : s.heap.objs.size < h₁.objs.size := hn.lt
  exact wpAny_execs_nil (hq h₃ tk₃ dx ⟨fun b o hb e => k₃ b o hb (k b o e), hx₃, Nat.le_of_lt (Nat.lt_of_lt_of_le z dn), dne, hn₃⟩)
theorem low_made (T : ErTxt K mg cn qn C fI) {v : Value} (X : K.In s.heap) (hlim : s.heap.NoLimit) (hroom : A.depth + 1 < recursionLimit)
    (hq : ∀ h' tk e d, OwnMade s.heap h' e C d v → R (.ok (.ret (.ref e))) { s with heap := h', toks := tk }) :
    codeAny (model prog w) A (.call (.ref C) ⟨[v], []⟩) R s := by
  obtain ⟨nm, q, N, bs, bm, sn, sub, ab, col, dd, k0, k1, k2, k3, k5, hC, hbm⟩ := T.cls
  obtain ⟨hp, g, dr, tk, os⟩ := s
  have k : ∀ b o, hp.get? b = some o → ((hp.push (kdv_tup [v])).push (excO C hp.objs.size)).get? b = some o := fun b o e => Heap.get?_push_of_some _ (Heap.get?_push_of_some _ e)
  have hget : ((hp.push (kdv_tup [v])).push (excO C hp.objs.size)).get? (hp.objs.size + 1) = some (excO C hp.objs.size) := by heap_get
  have hnx : K.lookup (hp.objs.size + 1) = none := by
    cases e : K.lookup (hp.objs.size + 1) with
    | none => rfl
    | some o =>
      have z : hp.get? (hp.objs.size + 1) = some o := X _ _ e
      exact absurd (Nat.lt_of_succ_lt (Heap.lt_size z)) (Nat.lt_irrefl _)
  refine call_own F.excBase_ValueError (fun X => refsVE_contains X bm hbm) (X _ _ hC) (looks_findIn X T.iC) (fun self => bind_fn X self T.tC) (one_size v) ?_
  refine low_init (s := ⟨(hp.push (kdv_tup [v])).push (excO C hp.objs.size), g, dr, tk, os⟩) T (X.keeps k) (hlim.keeps k) hget hnx ?_ fun h' tk' dx ⟨k', hx, dn, dne, hns⟩ => ?_
  · show A.depth + 1 < recursionLimit
    exact hroom
  · have old : ∀ b o, hp.get? b = some o → h'.get? b = some o := fun b o e => k' b o (Nat.ne_of_lt (Nat.lt_succ_of_lt (Heap.lt_size e))) (k b o e)
    have z : hp.objs.size + 1 + 1 ≤ dx := by
      first
        | (simpa only [Heap.size_push] using dn)
        | exact dn
        | (have q := dn; rw [Heap.size_push, Heap.size_push] at q; exact q)
    exact ⟨rfl, hq h' tk' (hp.objs.size + 1) dx ⟨old, Nat.le_succ _, ⟨_, _, hx, rfl, rfl, rfl, rfl⟩, Nat.le_trans (Nat.le_trans (Nat.le_succ _) (Nat.le_succ _)) z, dne, hns⟩⟩
end
end Erat
end PySem
namespace L2
open PySem PySem.Spec PyProof.Rows
theorem relO_low_at {v : V} {v' : Value} (r : RelV v v') (f : Str) : RelO (List.lookup f [(("at" : Str), v)]) (if f = "at" then some v' else none) := by
  by_cases hw : f = "at"
  · subst hw
    rw [if_pos rfl]
    have q : List.lookup ("at" : Str) [(("at" : Str), v)] = some v := by simp [List.lookup]
    rw [q]
    exact r
  · rw [if_neg hw]
    have qw : (f == ("at" : Str)) = false := by simpa using hw
    have q2 : List.lookup f [(("at" : Str), v)] = none := by simp [List.lookup, qw]
    rw [q2]
    trivial
section
variable {X : Cx} {cn qn : Str} {C fI : Addr}
/-- Low(e) -/
def tMkLow_at (C : Addr) (ta : TA) : St → Hp → XK → Prop := fun σ H Q => ta σ H fun vs H1 => ∃ v, vs = [v] ∧ ∀ d, H1 d = none → Q (.ref C) (some d) (upd H1 d (.xd [(("at" : Str), v)]))
theorem pmk_low_at {a : Expr} {ta : TA} {p pos : Pos} {k : Nat} (T : PySem.Erat.ErTxt X.K X.mg cn qn C fI) (hr : Room k X.A) (ha : PA X [a] ta) (hg : Gl X cn) (hdb : (cn == ("__debug__" : Str)) = false)
    (he : starEach (a :: []) X.env = (false, eval a X.env) :: starEach [] X.env := by rfl) (hpl : (backTo pos (starEach [] X.env)).any (·.1) = false := by rfl) :
    PMk X (.Call (.Name cn p) [a] [] pos) (tMkLow_at C ta) := by
  intro pins s σ H Q I h
  refine wpAny_Call_Name_kw (ld_glob I hg T.gC ?_ hdb)
  refine PySem.W.callWith_K (h₀ := X.base) I.ok.mod.kin T.kC (thn (ha.run pos pins s σ H _ I h) fun us s1 hh => ?_) he hpl
  obtain ⟨vs, H1, I1, r1, v, ev, q1⟩ := hh
  subst ev
  refine ⟨I1.kIn, ?_⟩
  cases r1 with
  | cons rv rn =>
    rename_i v' us'
    cases rn
    show wpAny _ _ (call (.ref C) [v']) _ _ _
    have hlim := I1.nolimit
    obtain ⟨hp, g, dr, tk, os⟩ := s1
    refine wpAny_call (PySem.Erat.low_made T I1.kIn hlim (by have := hr.dp; omega) fun h' tk' e d M => ?_)
    show MkP X pins σ Q (.ref e) ⟨h', g, dr, tk', os⟩
    obtain ⟨oe, fv, hoe, hc, hd, hdat, h1⟩ := M.obj
    have hns := M.ns
    obtain ⟨G', g1, g2⟩ := restrict h' fun b => decide (b ≠ e)
    have gk : ∀ b, b ≠ e → G'.get? b = h'.get? b := fun b hb => g1 b (decide_eq_true hb)
    have ge : G'.get? e = none := g2 e (by simp)
    have old : ∀ b o, hp.get? b = some o → G'.get? b = some o := fun b o q => (gk b (Nat.ne_of_lt (Nat.lt_of_lt_of_le (Heap.lt_size q) M.new))).trans (M.keep b o q)
    have ob : ObjOk X.prog X.w (upd H1 d (.xd [(("at" : Str), v)])) G' d (.xd [(("at" : Str), v)]) :=
      ⟨_, hns.at (fun o q => (gk d M.dne).trans q), fun f => relO_low_at rv f⟩
    have J : Inv X pins σ (upd H1 d (.xd [(("at" : Str), v)])) ⟨G', g, dr, tk', os⟩ := I1.laid (t' := tk') old M.dbig ob
    refine ⟨e, oe, fv, ⟨G', g, dr, tk', os⟩, _, .ref C, some d, rfl, J, fun b o q => ?_, ge, hoe, ⟨hc, hd⟩, hdat, h1, ?_, rfl, I1.bare, raises_own T.exC T.tyC, q1 d (I1.hok.fresh M.dbig)⟩
    · by_cases hb : b = e
      · have q' : G'.get? b = some o := q
        rw [hb, ge] at q'; cases q'
      · exact (gk b hb).symm.trans q
    · rw [upd_ne (Ne.symm M.dne)]
      exact I1.hok.fresh M.new
/-- raise Low(e) -/
def tRaiseLow_at (C : Addr) (W : WX) (ta : TA) : TS := fun _ σ H => tMkLow_at C ta σ H fun cls d H' => W cls d σ H'
theorem ps_raiseLow_at {a : Expr} {ta : TA} {W : WX} {p pos pos2 : Pos} {k : Nat} (hc : X.calm = true) (T : PySem.Erat.ErTxt X.K X.mg cn qn C fI) (hr : Room k X.A) (tk : Takes X W) (ha : PA X [a] ta) (hg : Gl X cn) (hdb : (cn == ("__debug__" : Str)) = false)
    (he : starEach (a :: []) X.env = (false, eval a X.env) :: starEach [] X.env := by rfl) (hpl : (backTo pos (starEach [] X.env)).any (·.1) = false := by rfl) :
    PS X (.Raise (some (.Call (.Name cn p) [a] [] pos)) none pos2) (tRaiseLow_at C W ta) := ps_raise hc tk (pmk_low_at T hr ha hg hdb he hpl)
/-- low.by, low the exception that the suite holds (at a; its class cls, its dict d) -/
def tByLow_at (C : Addr) (a : Addr) (cls : Value) (d : Option Addr) (te : TE) : TE := fun σ H Q => te σ H fun x H1 => x = .ref a ∧ cls = .ref C ∧ ∃ (dd : Addr) (v : V), d = some dd ∧ H1 dd = some (.xd [(("at" : Str), v)]) ∧ Q v H1
theorem pe_byLow_at {a : Addr} {oe : Obj} {cls : Value} {d : Option Addr} {pn : List (Addr × Obj)} {e : Expr} {te : TE} {pos : Pos} (T : PySem.Erat.ErTxt X.K X.mg cn qn C fI) (hz : Zc cls d oe) (hf : ∃ vs, oe.data = .fields vs) (he : PE (X.suite a ((a, oe) :: pn)) e te)
    (hb : attributeBase e "at" X.env (eval e X.env) = eval e X.env := by rfl) :
    PE (X.suite a ((a, oe) :: pn)) (.Attribute e "at" pos) (tByLow_at C a cls d te) := by
  refine ⟨fun pins s σ H Q I h => ?_⟩
  refine attr_of hb (thn (he.run pins s σ H _ I h) fun u s1 hh => ?_)
  obtain ⟨x, H1, I1, rx, ex, ec, dd, v, ed, ea, q⟩ := hh
  subst ex
  obtain rfl : u = Value.ref a := rx
  subst ec
  subst ed
  obtain ⟨ha, _⟩ := I1.pin (a, oe) (List.mem_append_left _ List.mem_cons_self)
  obtain ⟨vs, hd⟩ := hf
  have hx : ObjOk X.prog X.w H1 s1.heap dd (.xd [(("at" : Str), v)]) := I1.hok dd _ ea
  obtain ⟨mA, hns, hr⟩ := hx
  obtain ⟨od, ho, hl⟩ := lookIn_ns hns
  have l : List.lookup ("at" : Str) [(("at" : Str), v)] = some v := by simp [List.lookup]
  obtain ⟨u, hu, ru⟩ := RelO.some_of (v := v) (o := mA "at") (by rw [← l]; exact hr "at")
  have J : PySem.W.InstAt s1.heap a oe C (some od) := ⟨ha, hz.1, by unfold PySem.W.notCls; rw [hd] <;> rfl, by rw [hz.2]; exact ho⟩
  exact HandSPX.exc_get I1.kIn J T.ga T.gg T.exC (PySem.W.findObj_own T.hdC T.noN rfl (by rw [hl, hu])) (handed_of ru) ⟨v, H1, I1.tok _, ru, q⟩
end
end L2


namespace PySem
namespace Erlimit
open PySem.W PySem.Calls PyProof.Rows PySem.HandSPX
/-! ### the text of __init__ -/
def iA (p1 p2 : Pos) : Arguments := { posonlyargs := [], args := [{ arg := "self", annotation := none, pos := p1 }, { arg := "limit", annotation := none, pos := p2 }], vararg := none, kwonlyargs := [], kw_defaults := [], kwarg := none, defaults := [] }
def iB (q1 q2 q3 q4 : Pos) : List Stmt := [.Assign [.Attribute (.Name "self" q1) "limit" q2] (.Name "limit" q3) q4]
def iS : Scope := { kind := .function, names := [(PySem.Str.ofString "self", .local), (PySem.Str.ofString "limit", .local)], isGenerator := false, isCoroutine := false, more := [] }
/-- what the written part says of Low, at C, and of its __init__, at fI -/
structure ErTxt (K : Frag) (mg : Str → Option Value) (cn qn : Str) (C fI : Addr) : Prop where
  gC : mg cn = some (.ref C)
  cls : ∃ nm q N bs bm sn sub ab col dd k0 k1 k2 k3 k5, K.lookup C = some (excClassObj nm q C N bs bm true sn sub ab col dd k0 k1 k2 k3 k5 "ValueError.__new__") ∧ refsVE bm = true
  sa : findIn K (.ref C) "__setattr__" = some (some (.builtin "object.__setattr__"))
  ga : findIn K (.ref C) "__getattribute__" = some (some (.builtin "BaseException.__getattribute__"))
  gg : findIn K (.ref C) "__getattr__" = some none
  noN : findIn K (.ref C) "limit" = some none
  iC : findIn K (.ref C) "__init__" = some (some (.ref fI))
  tC : typeIn K (.ref fI) = some (.type "function")
  kC : keepIn K (.ref C) = true
  exC : subIn K (.ref C) (.type "BaseException") = some true
  tyC : typeIn K (.ref C) = some (.type "type")
  hdC : hasDictIn K C = true
  fn : ∃ (oc : Value) (od : Option Addr) (doc pm : Value) (an : Option Addr) (cdv ct : Value) (osl : Array (Option Value)) (p1 p2 q1 q2 q3 q4 : Pos),
    K.lookup fI = some ⟨oc, od, .func (fnOf "__init__" qn (iA p1 p2) (iB q1 q2 q3 q4) iS .none .none doc pm an cdv ct), osl⟩ ∧ codeIn K cdv qn = true
theorem one_size (v : Value) : [v].length ≤ sizeLine := by
  rw [sizeLine_eq]
  exact (by decide : 1 ≤ 16777216)
theorem kept_but {K : Frag} {h h' : Heap} {x : Addr} (X : K.In h) (hx : K.lookup x = none) (k : ∀ b o, b ≠ x → h.get? b = some o → h'.get? b = some o) : K.In h' := fun a o e =>
  k a o (fun z => by rw [z, hx] at e; cases e) (X a o e)
theorem ldC {M : Model} {s : Shared} {name : Str} {scope : Scope} {L a : Addr} {cd : Value} {m : Str → Option Value} {x : Str} {pos : Pos} {v : Value} {Q : Value → Shared → Prop} {A : Around} {E : Value → Shared → Prop} (hn : s.heap.Ns L m) (hv : m x = some v) (h : Q v s)
    (hk : scope.kind = .function := by rfl) (hl : (envOfC name scope L a cd).kindOf x = some .local := by rfl) (hd : (x == ("__debug__" : Str)) = false := by decide) :
    wpAny M A (eval (.Name x pos) (envOfC name scope L a cd)) Q E s := wpAny_Name (wpAny_loadName_local hk hl hn hv h) hd
/-- what __init__ leaves of a fresh exception at x -/
structure InitEnd (h h' : Heap) (x C dx t1 : Addr) (v : Value) : Prop where
  keep : ∀ b o, b ≠ x → h.get? b = some o → h'.get? b = some o
  obj : h'.get? x = some { cls := .ref C, dict := some dx, data := .fields #[.ref t1, .none, .none, .none, .bool false, .none] }
  dbig : h.objs.size ≤ dx
  dne : dx ≠ x
  ns : h'.Ns1 dx (fun y => if y = "limit" then some v else none)
/-- a made Low -/
structure OwnMade (h h' : Heap) (e C d : Addr) (v : Value) : Prop where
  keep : ∀ b o, h.get? b = some o → h'.get? b = some o
  new : h.objs.size ≤ e
  obj : ∃ oe vs, h'.get? e = some oe ∧ oe.cls = .ref C ∧ oe.dict = some d ∧ oe.data = .fields vs ∧ vs[1]? = some .none
  dbig : h.objs.size ≤ d
  dne : d ≠ e
  ns : h'.Ns1 d (fun y => if y = "limit" then some v else none)
section
variable {prog : Program} {w : World} {A : Around} {E : Value → Shared → Prop} {R : Result → Shared → Prop} {s : Shared} {K : Frag} {mg : Str → Option Value} {cn qn : Str} {C fI : Addr}
theorem low_init (T : ErTxt K mg cn qn C fI) {x t0 : Addr} {v : Value} (X : K.In s.heap) (hlim : s.heap.NoLimit) (hx : s.heap.get? x = some (excO C t0)) (hnx : K.lookup x = none) (hroom : A.depth < recursionLimit)
    (hq : ∀ h' tk dx, InitEnd s.heap h' x C dx t0 v → R (.ok (.ret .none)) { s with heap := h', toks := tk }) :
    codeAny (model prog w) A (.call (.ref fI) ⟨[.ref x, v], []⟩) R s := by
  obtain ⟨oc, od, doc, pm, an, cdv, ct, osl, p1, p2, q1, q2, q3, q4, ho, hcd⟩ := T.fn
  obtain ⟨nm, q, N, bs, bm, sn, sub, ab, col, dd, k0, k1, k2, k3, k5, hC, hbm⟩ := T.cls
  have hcl : clsIn K C = some { name := nm, bases := bs, mro := .ref C :: bm, ns := N, qualname := q, hasDict := true, slotNames := sn, subclasses := sub, abstract := ab, collection := col, hasDel := false } := by unfold clsIn; rw [hC] <;> rfl
  refine Att.call_fn (binds := [("self", .ref x), ("limit", v)]) X hlim ho hcd hroom (BindsTo.of_eq (by first | rfl | with_unfolding_all rfl)) (by first | rfl | decide | with_unfolding_all rfl) (fun s₁ IC => ?_) rfl rfl rfl
  obtain ⟨h₁, tk₁, rfl⟩ := IC.toInCall.same
  have k : ∀ b o, s.heap.get? b = some o → h₁.get? b = some o := IC.toInCall.keep
  have hn := IC.toInCall.ns
  have hxL : s.heap.objs.size ≠ x := Nat.ne_of_gt (Heap.lt_size hx)
  have X₁ : K.In h₁ := X.keeps k
  have hx₁ := k _ _ hx
  -- self.by = by
  show wpAny _ _ (execs _ _) _ _ _
  refine wpAny_execs_cons (plainObj_wpAny_Assign_Attribute ?_)
  refine ldC (v := v) hn (by first | rfl | with_unfolding_all rfl | kernel_rfl) (ldC (v := .ref x) hn (by first | rfl | with_unfolding_all rfl | kernel_rfl) ?_)
  refine set_plain X₁ (ox := excO C t0) (od := none) ⟨hx₁, rfl, rfl, trivial⟩ T.sa ?_
  refine exc_osa X₁ hx₁ hcl (show refsVE (.ref C :: bm) = true from hbm) rfl T.noN (fun h₃ tk₃ dx k₃ dn dne hx₃ hn₃ => ?_)
  show wpAny _ _ (execs _ _) _ _ _
  have z : s.heap.objs.size < h₁.objs.size := hn.lt
  exact wpAny_execs_nil (hq h₃ tk₃ dx ⟨fun b o hb e => k₃ b o hb (k b o e), hx₃, Nat.le_of_lt (Nat.lt_of_lt_of_le z dn), dne, hn₃⟩)
theorem low_made (T : ErTxt K mg cn qn C fI) {v : Value} (X : K.In s.heap) (hlim : s.heap.NoLimit) (hroom : A.depth + 1 < recursionLimit)
    (hq : ∀ h' tk e d, OwnMade s.heap h' e C d v → R (.ok (.ret (.ref e))) { s with heap := h', toks := tk }) :
    codeAny (model prog w) A (.call (.ref C) ⟨[v], []⟩) R s := by
  obtain ⟨nm, q, N, bs, bm, sn, sub, ab, col, dd, k0, k1, k2, k3, k5, hC, hbm⟩ := T.cls
  obtain ⟨hp, g, dr, tk, os⟩ := s
  have k : ∀ b o, hp.get? b = some o → ((hp.push (kdv_tup [v])).push (excO C hp.objs.size)).get? b = some o := fun b o e => Heap.get?_push_of_some _ (Heap.get?_push_of_some _ e)
  have hget : ((hp.push (kdv_tup [v])).push (excO C hp.objs.size)).get? (hp.objs.size + 1) = some (excO C hp.objs.size) := by heap_get
  have hnx : K.lookup (hp.objs.size + 1) = none := by
    cases e : K.lookup (hp.objs.size + 1) with
    | none => rfl
    | some o =>
      have z : hp.get? (hp.objs.size + 1) = some o := X _ _ e
      exact absurd (Nat.lt_of_succ_lt (Heap.lt_size z)) (Nat.lt_irrefl _)
  refine call_own F.excBase_ValueError (fun X => refsVE_contains X bm hbm) (X _ _ hC) (looks_findIn X T.iC) (fun self => bind_fn X self T.tC) (one_size v) ?_
  refine low_init (s := ⟨(hp.push (kdv_tup [v])).push (excO C hp.objs.size), g, dr, tk, os⟩) T (X.keeps k) (hlim.keeps k) hget hnx ?_ fun h' tk' dx ⟨k', hx, dn, dne, hns⟩ => ?_
  · show A.depth + 1 < recursionLimit
    exact hroom
  · have old : ∀ b o, hp.get? b = some o → h'.get? b = some o := fun b o e => k' b o (Nat.ne_of_lt (Nat.lt_succ_of_lt (Heap.lt_size e))) (k b o e)
    have z : hp.objs.size + 1 + 1 ≤ dx := by
      first
        | (simpa only [Heap.size_push] using dn)
        | exact dn
        | (have q := dn; rw [Heap.size_push, Heap.size_push] at q; exact q)
    exact ⟨rfl, hq h' tk' (hp.objs.size + 1) dx ⟨old, Nat.le_succ _, ⟨_, _, hx, rfl, rfl, rfl, rfl⟩, Nat.le_trans (Nat.le_trans (Nat.le_succ _) (Nat.le_succ _)) z, dne, hns⟩⟩
end
end Erlimit
end PySem
namespace L2
open PySem PySem.Spec PyProof.Rows
theorem relO_low_limit {v : V} {v' : Value} (r : RelV v v') (f : Str) : RelO (List.lookup f [(("limit" : Str), v)]) (if f = "limit" then some v' else none) := by
  by_cases hw : f = "limit"
  · subst hw
    rw [if_pos rfl]
    have q : List.lookup ("limit" : Str) [(("limit" : Str), v)] = some v := by simp [List.lookup]
    rw [q]
    exact r
  · rw [if_neg hw]
    have qw : (f == ("limit" : Str)) = false := by simpa using hw
    have q2 : List.lookup f [(("limit" : Str), v)] = none := by simp [List.lookup, qw]
    rw [q2]
    trivial
section
variable {X : Cx} {cn qn : Str} {C fI : Addr}
/-- Low(e) -/
def tMkLow_limit (C : Addr) (ta : TA) : St → Hp → XK → Prop := fun σ H Q => ta σ H fun vs H1 => ∃ v, vs = [v] ∧ ∀ d, H1 d = none → Q (.ref C) (some d) (upd H1 d (.xd [(("limit" : Str), v)]))
theorem pmk_low_limit {a : Expr} {ta : TA} {p pos : Pos} {k : Nat} (T : PySem.Erlimit.ErTxt X.K X.mg cn qn C fI) (hr : Room k X.A) (ha : PA X [a] ta) (hg : Gl X cn) (hdb : (cn == ("__debug__" : Str)) = false)
    (he : starEach (a :: []) X.env = (false, eval a X.env) :: starEach [] X.env := by rfl) (hpl : (backTo pos (starEach [] X.env)).any (·.1) = false := by rfl) :
    PMk X (.Call (.Name cn p) [a] [] pos) (tMkLow_limit C ta) := by
  intro pins s σ H Q I h
  refine wpAny_Call_Name_kw (ld_glob I hg T.gC ?_ hdb)
  refine PySem.W.callWith_K (h₀ := X.base) I.ok.mod.kin T.kC (thn (ha.run pos pins s σ H _ I h) fun us s1 hh => ?_) he hpl
  obtain ⟨vs, H1, I1, r1, v, ev, q1⟩ := hh
  subst ev
  refine ⟨I1.kIn, ?_⟩
  cases r1 with
  | cons rv rn =>
    rename_i v' us'
    cases rn
    show wpAny _ _ (call (.ref C) [v']) _ _ _
    have hlim := I1.nolimit
    obtain ⟨hp, g, dr, tk, os⟩ := s1
    refine wpAny_call (PySem.Erlimit.low_made T I1.kIn hlim (by have := hr.dp; omega) fun h' tk' e d M => ?_)
    show MkP X pins σ Q (.ref e) ⟨h', g, dr, tk', os⟩
    obtain ⟨oe, fv, hoe, hc, hd, hdat, h1⟩ := M.obj
    have hns := M.ns
    obtain ⟨G', g1, g2⟩ := restrict h' fun b => decide (b ≠ e)
    have gk : ∀ b, b ≠ e → G'.get? b = h'.get? b := fun b hb => g1 b (decide_eq_true hb)
    have ge : G'.get? e = none := g2 e (by simp)
    have old : ∀ b o, hp.get? b = some o → G'.get? b = some o := fun b o q => (gk b (Nat.ne_of_lt (Nat.lt_of_lt_of_le (Heap.lt_size q) M.new))).trans (M.keep b o q)
    have ob : ObjOk X.prog X.w (upd H1 d (.xd [(("limit" : Str), v)])) G' d (.xd [(("limit" : Str), v)]) :=
      ⟨_, hns.at (fun o q => (gk d M.dne).trans q), fun f => relO_low_limit rv f⟩
    have J : Inv X pins σ (upd H1 d (.xd [(("limit" : Str), v)])) ⟨G', g, dr, tk', os⟩ := I1.laid (t' := tk') old M.dbig ob
    refine ⟨e, oe, fv, ⟨G', g, dr, tk', os⟩, _, .ref C, some d, rfl, J, fun b o q => ?_, ge, hoe, ⟨hc, hd⟩, hdat, h1, ?_, rfl, I1.bare, raises_own T.exC T.tyC, q1 d (I1.hok.fresh M.dbig)⟩
    · by_cases hb : b = e
      · have q' : G'.get? b = some o := q
        rw [hb, ge] at q'; cases q'
      · exact (gk b hb).symm.trans q
    · rw [upd_ne (Ne.symm M.dne)]
      exact I1.hok.fresh M.new
/-- raise Low(e) -/
def tRaiseLow_limit (C : Addr) (W : WX) (ta : TA) : TS := fun _ σ H => tMkLow_limit C ta σ H fun cls d H' => W cls d σ H'
theorem ps_raiseLow_limit {a : Expr} {ta : TA} {W : WX} {p pos pos2 : Pos} {k : Nat} (hc : X.calm = true) (T : PySem.Erlimit.ErTxt X.K X.mg cn qn C fI) (hr : Room k X.A) (tk : Takes X W) (ha : PA X [a] ta) (hg : Gl X cn) (hdb : (cn == ("__debug__" : Str)) = false)
    (he : starEach (a :: []) X.env = (false, eval a X.env) :: starEach [] X.env := by rfl) (hpl : (backTo pos (starEach [] X.env)).any (·.1) = false := by rfl) :
    PS X (.Raise (some (.Call (.Name cn p) [a] [] pos)) none pos2) (tRaiseLow_limit C W ta) := ps_raise hc tk (pmk_low_limit T hr ha hg hdb he hpl)
/-- low.by, low the exception that the suite holds (at a; its class cls, its dict d) -/
def tByLow_limit (C : Addr) (a : Addr) (cls : Value) (d : Option Addr) (te : TE) : TE := fun σ H Q => te σ H fun x H1 => x = .ref a ∧ cls = .ref C ∧ ∃ (dd : Addr) (v : V), d = some dd ∧ H1 dd = some (.xd [(("limit" : Str), v)]) ∧ Q v H1
theorem pe_byLow_limit {a : Addr} {oe : Obj} {cls : Value} {d : Option Addr} {pn : List (Addr × Obj)} {e : Expr} {te : TE} {pos : Pos} (T : PySem.Erlimit.ErTxt X.K X.mg cn qn C fI) (hz : Zc cls d oe) (hf : ∃ vs, oe.data = .fields vs) (he : PE (X.suite a ((a, oe) :: pn)) e te)
    (hb : attributeBase e "limit" X.env (eval e X.env) = eval e X.env := by rfl) :
    PE (X.suite a ((a, oe) :: pn)) (.Attribute e "limit" pos) (tByLow_limit C a cls d te) := by
  refine ⟨fun pins s σ H Q I h => ?_⟩
  refine attr_of hb (thn (he.run pins s σ H _ I h) fun u s1 hh => ?_)
  obtain ⟨x, H1, I1, rx, ex, ec, dd, v, ed, ea, q⟩ := hh
  subst ex
  obtain rfl : u = Value.ref a := rx
  subst ec
  subst ed
  obtain ⟨ha, _⟩ := I1.pin (a, oe) (List.mem_append_left _ List.mem_cons_self)
  obtain ⟨vs, hd⟩ := hf
  have hx : ObjOk X.prog X.w H1 s1.heap dd (.xd [(("limit" : Str), v)]) := I1.hok dd _ ea
  obtain ⟨mA, hns, hr⟩ := hx
  obtain ⟨od, ho, hl⟩ := lookIn_ns hns
  have l : List.lookup ("limit" : Str) [(("limit" : Str), v)] = some v := by simp [List.lookup]
  obtain ⟨u, hu, ru⟩ := RelO.some_of (v := v) (o := mA "limit") (by rw [← l]; exact hr "limit")
  have J : PySem.W.InstAt s1.heap a oe C (some od) := ⟨ha, hz.1, by unfold PySem.W.notCls; rw [hd] <;> rfl, by rw [hz.2]; exact ho⟩
  exact HandSPX.exc_get I1.kIn J T.ga T.gg T.exC (PySem.W.findObj_own T.hdC T.noN rfl (by rw [hl, hu])) (handed_of ru) ⟨v, H1, I1.tok _, ru, q⟩
end
end L2


namespace PySem
namespace Ernumber
open PySem.W PySem.Calls PyProof.Rows PySem.HandSPX
/-! ### the text of __init__ -/
def iA (p1 p2 : Pos) : Arguments := { posonlyargs := [], args := [{ arg := "self", annotation := none, pos := p1 }, { arg := "number", annotation := none, pos := p2 }], vararg := none, kwonlyargs := [], kw_defaults := [], kwarg := none, defaults := [] }
def iB (q1 q2 q3 q4 : Pos) : List Stmt := [.Assign [.Attribute (.Name "self" q1) "number" q2] (.Name "number" q3) q4]
def iS : Scope := { kind := .function, names := [(PySem.Str.ofString "self", .local), (PySem.Str.ofString "number", .local)], isGenerator := false, isCoroutine := false, more := [] }
/-- what the written part says of Low, at C, and of its __init__, at fI -/
structure ErTxt (K : Frag) (mg : Str → Option Value) (cn qn : Str) (C fI : Addr) : Prop where
  gC : mg cn = some (.ref C)
  cls : ∃ nm q N bs bm sn sub ab col dd k0 k1 k2 k3 k5, K.lookup C = some (excClassObj nm q C N bs bm true sn sub ab col dd k0 k1 k2 k3 k5 "ValueError.__new__") ∧ refsVE bm = true
  sa : findIn K (.ref C) "__setattr__" = some (some (.builtin "object.__setattr__"))
  ga : findIn K (.ref C) "__getattribute__" = some (some (.builtin "BaseException.__getattribute__"))
  gg : findIn K (.ref C) "__getattr__" = some none
  noN : findIn K (.ref C) "number" = some none
  iC : findIn K (.ref C) "__init__" = some (some (.ref fI))
  tC : typeIn K (.ref fI) = some (.type "function")
  kC : keepIn K (.ref C) = true
  exC : subIn K (.ref C) (.type "BaseException") = some true
  tyC : typeIn K (.ref C) = some (.type "type")
  hdC : hasDictIn K C = true
  fn : ∃ (oc : Value) (od : Option Addr) (doc pm : Value) (an : Option Addr) (cdv ct : Value) (osl : Array (Option Value)) (p1 p2 q1 q2 q3 q4 : Pos),
    K.lookup fI = some ⟨oc, od, .func (fnOf "__init__" qn (iA p1 p2) (iB q1 q2 q3 q4) iS .none .none doc pm an cdv ct), osl⟩ ∧ codeIn K cdv qn = true
theorem one_size (v : Value) : [v].length ≤ sizeLine := by
  rw [sizeLine_eq]
  exact (by decide : 1 ≤ 16777216)
theorem kept_but {K : Frag} {h h' : Heap} {x : Addr} (X : K.In h) (hx : K.lookup x = none) (k : ∀ b o, b ≠ x → h.get? b = some o → h'.get? b = some o) : K.In h' := fun a o e =>
  k a o (fun z => by rw [z, hx] at e; cases e) (X a o e)
theorem ldC {M : Model} {s : Shared} {name : Str} {scope : Scope} {L a : Addr} {cd : Value} {m : Str → Option Value} {x : Str} {pos : Pos} {v : Value} {Q : Value → Shared → Prop} {A : Around} {E : Value → Shared → Prop} (hn : s.heap.Ns L m) (hv : m x = some v) (h : Q v s)
    (hk : scope.kind = .function := by rfl) (hl : (envOfC name scope L a cd).kindOf x = some .local := by rfl) (hd : (x == ("__debug__" : Str)) = false := by decide) :
    wpAny M A (eval (.Name x pos) (envOfC name scope L a cd)) Q E s := wpAny_Name (wpAny_loadName_local hk hl hn hv h) hd
/-- what __init__ leaves of a fresh exception at x -/
structure InitEnd (h h' : Heap) (x C dx t1 : Addr) (v : Value) : Prop where
  keep : ∀ b o, b ≠ x → h.get? b = some o → h'.get? b = some o
  obj : h'.get? x = some { cls := .ref C, dict := some dx, data := .fields #[.ref t1, .none, .none, .none, .bool false, .none] }
  dbig : h.objs.size ≤ dx
  dne : dx ≠ x
  ns : h'.Ns1 dx (fun y => if y = "number" then some v else none)
/-- a made Low -/
structure OwnMade (h h' : Heap) (e C d : Addr) (v : Value) : Prop where
  keep : ∀ b o, h.get? b = some o → h'.get? b = some o
  new : h.objs.size ≤ e
  obj : ∃ oe vs, h'.get? e = some oe ∧ oe.cls = .ref C ∧ oe.dict = some d ∧ oe.data = .fields vs ∧ vs[1]? = some .none
  dbig : h.objs.size ≤ d
  dne : d ≠ e
  ns : h'.Ns1 d (fun y => if y = "number" then some v else none)
section
variable {prog : Program} {w : World} {A : Around} {E : Value → Shared → Prop} {R : Result → Shared → Prop} {s : Shared} {K : Frag} {mg : Str → Option Value} {cn qn : Str} {C fI : Addr}
theorem low_init (T : ErTxt K mg cn qn C fI) {x t0 : Addr} {v : Value} (X : K.In s.heap) (hlim : s.heap.NoLimit) (hx : s.heap.get? x = some (excO C t0)) (hnx : K.lookup x = none) (hroom : A.depth < recursionLimit)
    (hq : ∀ h' tk dx, InitEnd s.heap h' x C dx t0 v → R (.ok (.ret .none)) { s with heap := h', toks := tk }) :
    codeAny (model prog w) A (.call (.ref fI) ⟨[.ref x, v], []⟩) R s := by
  obtain ⟨oc, od, doc, pm, an, cdv, ct, osl, p1, p2, q1, q2, q3, q4, ho, hcd⟩ := T.fn
  obtain ⟨nm, q, N, bs, bm, sn, sub, ab, col, dd, k0, k1, k2, k3, k5, hC, hbm⟩ := T.cls
  have hcl : clsIn K C = some { name := nm, bases := bs, mro := .ref C :: bm, ns := N, qualname := q, hasDict := true, slotNames := sn, subclasses := sub, abstract := ab, collection := col, hasDel := false } := by unfold clsIn; rw [hC] <;> rfl
  refine Att.call_fn (binds := [("self", .ref x), ("number", v)]) X hlim ho hcd hroom (BindsTo.of_eq (by first | rfl | with_unfolding_all rfl)) (by first | rfl | decide | with_unfolding_all rfl) (fun s₁ IC => ?_) rfl rfl rfl
  obtain ⟨h₁, tk₁, rfl⟩ := IC.toInCall.same
  have k : ∀ b o, s.heap.get? b = some o → h₁.get? b = some o := IC.toInCall.keep
  have hn := IC.toInCall.ns
  have hxL : s.heap.objs.size ≠ x := Nat.ne_of_gt (Heap.lt_size hx)
  have X₁ : K.In h₁ := X.keeps k
  have hx₁ := k _ _ hx
  -- self.by = by
  show wpAny _ _ (execs _ _) _ _ _
  refine wpAny_execs_cons (plainObj_wpAny_Assign_Attribute ?_)
  refine ldC (v := v) hn (by first | rfl | with_unfolding_all rfl | kernel_rfl) (ldC (v := .ref x) hn (by first | rfl | with_unfolding_all rfl | kernel_rfl) ?_)
  refine set_plain X₁ (ox := excO C t0) (od := none) ⟨hx₁, rfl, rfl, trivial⟩ T.sa ?_
  refine exc_osa X₁ hx₁ hcl (show refsVE (.ref C :: bm) = true from hbm) rfl T.noN (fun h₃ tk₃ dx k₃ dn dne hx₃ hn₃ => ?_)
  show wpAny _ _ (execs _ _) _ _ _
  have z : s.heap.objs.size < h₁.objs.size := hn.lt
  exact wpAny_execs_nil (hq h₃ tk₃ dx ⟨fun b o hb e => k₃ b o hb (k b o e), hx₃, Nat.le_of_lt (Nat.lt_of_lt_of_le z dn), dne, hn₃⟩)
theorem low_made (T : ErTxt K mg cn qn C fI) {v : Value} (X : K.In s.heap) (hlim : s.heap.NoLimit) (hroom : A.depth + 1 < recursionLimit)
    (hq : ∀ h' tk e d, OwnMade s.heap h' e C d v → R (.ok (.ret (.ref e))) { s with heap := h', toks := tk }) :
    codeAny (model prog w) A (.call (.ref C) ⟨[v], []⟩) R s := by
  obtain ⟨nm, q, N, bs, bm, sn, sub, ab, col, dd, k0, k1, k2, k3, k5, hC, hbm⟩ := T.cls
  obtain ⟨hp, g, dr, tk, os⟩ := s
  have k : ∀ b o, hp.get? b = some o → ((hp.push (kdv_tup [v])).push (excO C hp.objs.size)).get? b = some o := fun b o e => Heap.get?_push_of_some _ (Heap.get?_push_of_some _ e)
  have hget : ((hp.push (kdv_tup [v])).push (excO C hp.objs.size)).get? (hp.objs.size + 1) = some (excO C hp.objs.size) := by heap_get
  have hnx : K.lookup (hp.objs.size + 1) = none := by
    cases e : K.lookup (hp.objs.size + 1) with
    | none => rfl
    | some o =>
      have z : hp.get? (hp.objs.size + 1) = some o := X _ _ e
      exact absurd (Nat.lt_of_succ_lt (Heap.lt_size z)) (Nat.lt_irrefl _)
  refine call_own F.excBase_ValueError (fun X => refsVE_contains X bm hbm) (X _ _ hC) (looks_findIn X T.iC) (fun self => bind_fn X self T.tC) (one_size v) ?_
  refine low_init (s := ⟨(hp.push (kdv_tup [v])).push (excO C hp.objs.size), g, dr, tk, os⟩) T (X.keeps k) (hlim.keeps k) hget hnx ?_ fun h' tk' dx ⟨k', hx, dn, dne, hns⟩ => ?_
  · show A.depth + 1 < recursionLimit
    exact hroom
  · have old : ∀ b o, hp.get? b = some o → h'.get? b = some o := fun b o e => k' b o (Nat.ne_of_lt (Nat.lt_succ_of_lt (Heap.lt_size e))) (k b o e)
    have z : hp.objs.size + 1 + 1 ≤ dx := by
      first
        | (simpa only [Heap.size_push] using dn)
        | exact dn
        | (have q := dn; rw [Heap.size_push, Heap.size_push] at q; exact q)
    exact ⟨rfl, hq h' tk' (hp.objs.size + 1) dx ⟨old, Nat.le_succ _, ⟨_, _, hx, rfl, rfl, rfl, rfl⟩, Nat.le_trans (Nat.le_trans (Nat.le_succ _) (Nat.le_succ _)) z, dne, hns⟩⟩
end
end Ernumber
end PySem
namespace L2
open PySem PySem.Spec PyProof.Rows
theorem relO_low_number {v : V} {v' : Value} (r : RelV v v') (f : Str) : RelO (List.lookup f [(("number" : Str), v)]) (if f = "number" then some v' else none) := by
  by_cases hw : f = "number"
  · subst hw
    rw [if_pos rfl]
    have q : List.lookup ("number" : Str) [(("number" : Str), v)] = some v := by simp [List.lookup]
    rw [q]
    exact r
  · rw [if_neg hw]
    have qw : (f == ("number" : Str)) = false := by simpa using hw
    have q2 : List.lookup f [(("number" : Str), v)] = none := by simp [List.lookup, qw]
    rw [q2]
    trivial
section
variable {X : Cx} {cn qn : Str} {C fI : Addr}
/-- Low(e) -/
def tMkLow_number (C : Addr) (ta : TA) : St → Hp → XK → Prop := fun σ H Q => ta σ H fun vs H1 => ∃ v, vs = [v] ∧ ∀ d, H1 d = none → Q (.ref C) (some d) (upd H1 d (.xd [(("number" : Str), v)]))
theorem pmk_low_number {a : Expr} {ta : TA} {p pos : Pos} {k : Nat} (T : PySem.Ernumber.ErTxt X.K X.mg cn qn C fI) (hr : Room k X.A) (ha : PA X [a] ta) (hg : Gl X cn) (hdb : (cn == ("__debug__" : Str)) = false)
    (he : starEach (a :: []) X.env = (false, eval a X.env) :: starEach [] X.env := by rfl) (hpl : (backTo pos (starEach [] X.env)).any (·.1) = false := by rfl) :
    PMk X (.Call (.Name cn p) [a] [] pos) (tMkLow_number C ta) := by
  intro pins s σ H Q I h
  refine wpAny_Call_Name_kw (ld_glob I hg T.gC ?_ hdb)
  refine PySem.W.callWith_K (h₀ := X.base) I.ok.mod.kin T.kC (thn (ha.run pos pins s σ H _ I h) fun us s1 hh => ?_) he hpl
  obtain ⟨vs, H1, I1, r1, v, ev, q1⟩ := hh
  subst ev
  refine ⟨I1.kIn, ?_⟩
  cases r1 with
  | cons rv rn =>
    rename_i v' us'
    cases rn
    show wpAny _ _ (call (.ref C) [v']) _ _ _
    have hlim := I1.nolimit
    obtain ⟨hp, g, dr, tk, os⟩ := s1
    refine wpAny_call (PySem.Ernumber.low_made T I1.kIn hlim (by have := hr.dp; omega) fun h' tk' e d M => ?_)
    show MkP X pins σ Q (.ref e) ⟨h', g, dr, tk', os⟩
    obtain ⟨oe, fv, hoe, hc, hd, hdat, h1⟩ := M.obj
    have hns := M.ns
    obtain ⟨G', g1, g2⟩ := restrict h' fun b => decide (b ≠ e)
    have gk : ∀ b, b ≠ e → G'.get? b = h'.get? b := fun b hb => g1 b (decide_eq_true hb)
    have ge : G'.get? e = none := g2 e (by simp)
    have old : ∀ b o, hp.get? b = some o → G'.get? b = some o := fun b o q => (gk b (Nat.ne_of_lt (Nat.lt_of_lt_of_le (Heap.lt_size q) M.new))).trans (M.keep b o q)
    have ob : ObjOk X.prog X.w (upd H1 d (.xd [(("number" : Str), v)])) G' d (.xd [(("number" : Str), v)]) :=
      ⟨_, hns.at (fun o q => (gk d M.dne).trans q), fun f => relO_low_number rv f⟩
    have J : Inv X pins σ (upd H1 d (.xd [(("number" : Str), v)])) ⟨G', g, dr, tk', os⟩ := I1.laid (t' := tk') old M.dbig ob
    refine ⟨e, oe, fv, ⟨G', g, dr, tk', os⟩, _, .ref C, some d, rfl, J, fun b o q => ?_, ge, hoe, ⟨hc, hd⟩, hdat, h1, ?_, rfl, I1.bare, raises_own T.exC T.tyC, q1 d (I1.hok.fresh M.dbig)⟩
    · by_cases hb : b = e
      · have q' : G'.get? b = some o := q
        rw [hb, ge] at q'; cases q'
      · exact (gk b hb).symm.trans q
    · rw [upd_ne (Ne.symm M.dne)]
      exact I1.hok.fresh M.new
/-- raise Low(e) -/
def tRaiseLow_number (C : Addr) (W : WX) (ta : TA) : TS := fun _ σ H => tMkLow_number C ta σ H fun cls d H' => W cls d σ H'
theorem ps_raiseLow_number {a : Expr} {ta : TA} {W : WX} {p pos pos2 : Pos} {k : Nat} (hc : X.calm = true) (T : PySem.Ernumber.ErTxt X.K X.mg cn qn C fI) (hr : Room k X.A) (tk : Takes X W) (ha : PA X [a] ta) (hg : Gl X cn) (hdb : (cn == ("__debug__" : Str)) = false)
    (he : starEach (a :: []) X.env = (false, eval a X.env) :: starEach [] X.env := by rfl) (hpl : (backTo pos (starEach [] X.env)).any (·.1) = false := by rfl) :
    PS X (.Raise (some (.Call (.Name cn p) [a] [] pos)) none pos2) (tRaiseLow_number C W ta) := ps_raise hc tk (pmk_low_number T hr ha hg hdb he hpl)
/-- low.by, low the exception that the suite holds (at a; its class cls, its dict d) -/
def tByLow_number (C : Addr) (a : Addr) (cls : Value) (d : Option Addr) (te : TE) : TE := fun σ H Q => te σ H fun x H1 => x = .ref a ∧ cls = .ref C ∧ ∃ (dd : Addr) (v : V), d = some dd ∧ H1 dd = some (.xd [(("number" : Str), v)]) ∧ Q v H1
theorem pe_byLow_number {a : Addr} {oe : Obj} {cls : Value} {d : Option Addr} {pn : List (Addr × Obj)} {e : Expr} {te : TE} {pos : Pos} (T : PySem.Ernumber.ErTxt X.K X.mg cn qn C fI) (hz : Zc cls d oe) (hf : ∃ vs, oe.data = .fields vs) (he : PE (X.suite a ((a, oe) :: pn)) e te)
    (hb : attributeBase e "number" X.env (eval e X.env) = eval e X.env := by rfl) :
    PE (X.suite a ((a, oe) :: pn)) (.Attribute e "number" pos) (tByLow_number C a cls d te) := by
  refine ⟨fun pins s σ H Q I h => ?_⟩
  refine attr_of hb (thn (he.run pins s σ H _ I h) fun u s1 hh => ?_)
  obtain ⟨x, H1, I1, rx, ex, ec, dd, v, ed, ea, q⟩ := hh
  subst ex
  obtain rfl : u = Value.ref a := rx
  subst ec
  subst ed
  obtain ⟨ha, _⟩ := I1.pin (a, oe) (List.mem_append_left _ List.mem_cons_self)
  obtain ⟨vs, hd⟩ := hf
  have hx : ObjOk X.prog X.w H1 s1.heap dd (.xd [(("number" : Str), v)]) := I1.hok dd _ ea
  obtain ⟨mA, hns, hr⟩ := hx
  obtain ⟨od, ho, hl⟩ := lookIn_ns hns
  have l : List.lookup ("number" : Str) [(("number" : Str), v)] = some v := by simp [List.lookup]
  obtain ⟨u, hu, ru⟩ := RelO.some_of (v := v) (o := mA "number") (by rw [← l]; exact hr "number")
  have J : PySem.W.InstAt s1.heap a oe C (some od) := ⟨ha, hz.1, by unfold PySem.W.notCls; rw [hd] <;> rfl, by rw [hz.2]; exact ho⟩
  exact HandSPX.exc_get I1.kIn J T.ga T.gg T.exC (PySem.W.findObj_own T.hdC T.noN rfl (by rw [hl, hu])) (handed_of ru) ⟨v, H1, I1.tok _, ru, q⟩
end
end L2


namespace PySem
namespace Ermany
open PySem.W PySem.Calls PyProof.Rows PySem.HandSPX
/-! ### the text of __init__ -/
def iA (p1 p2 : Pos) : Arguments := { posonlyargs := [], args := [{ arg := "self", annotation := none, pos := p1 }, { arg := "many", annotation := none, pos := p2 }], vararg := none, kwonlyargs := [], kw_defaults := [], kwarg := none, defaults := [] }
def iB (q1 q2 q3 q4 : Pos) : List Stmt := [.Assign [.Attribute (.Name "self" q1) "many" q2] (.Name "many" q3) q4]
def iS : Scope := { kind := .function, names := [(PySem.Str.ofString "self", .local), (PySem.Str.ofString "many", .local)], isGenerator := false, isCoroutine := false, more := [] }
/-- what the written part says of Low, at C, and of its __init__, at fI -/
structure ErTxt (K : Frag) (mg : Str → Option Value) (cn qn : Str) (C fI : Addr) : Prop where
  gC : mg cn = some (.ref C)
  cls : ∃ nm q N bs bm sn sub ab col dd k0 k1 k2 k3 k5, K.lookup C = some (excClassObj nm q C N bs bm true sn sub ab col dd k0 k1 k2 k3 k5 "ValueError.__new__") ∧ refsVE bm = true
  sa : findIn K (.ref C) "__setattr__" = some (some (.builtin "object.__setattr__"))
  ga : findIn K (.ref C) "__getattribute__" = some (some (.builtin "BaseException.__getattribute__"))
  gg : findIn K (.ref C) "__getattr__" = some none
  noN : findIn K (.ref C) "many" = some none
  iC : findIn K (.ref C) "__init__" = some (some (.ref fI))
  tC : typeIn K (.ref fI) = some (.type "function")
  kC : keepIn K (.ref C) = true
  exC : subIn K (.ref C) (.type "BaseException") = some true
  tyC : typeIn K (.ref C) = some (.type "type")
  hdC : hasDictIn K C = true
  fn : ∃ (oc : Value) (od : Option Addr) (doc pm : Value) (an : Option Addr) (cdv ct : Value) (osl : Array (Option Value)) (p1 p2 q1 q2 q3 q4 : Pos),
    K.lookup fI = some ⟨oc, od, .func (fnOf "__init__" qn (iA p1 p2) (iB q1 q2 q3 q4) iS .none .none doc pm an cdv ct), osl⟩ ∧ codeIn K cdv qn = true
theorem one_size (v : Value) : [v].length ≤ sizeLine := by
  rw [sizeLine_eq]
  exact (by decide : 1 ≤ 16777216)
theorem kept_but {K : Frag} {h h' : Heap} {x : Addr} (X : K.In h) (hx : K.lookup x = none) (k : ∀ b o, b ≠ x → h.get? b = some o → h'.get? b = some o) : K.In h' := fun a o e =>
  k a o (fun z => by rw [z, hx] at e; cases e) (X a o e)
theorem ldC {M : Model} {s : Shared} {name : Str} {scope : Scope} {L a : Addr} {cd : Value} {m : Str → Option Value} {x : Str} {pos : Pos} {v : Value} {Q : Value → Shared → Prop} {A : Around} {E : Value → Shared → Prop} (hn : s.heap.Ns L m) (hv : m x = some v) (h : Q v s)
    (hk : scope.kind = .function := by rfl) (hl : (envOfC name scope L a cd).kindOf x = some .local := by rfl) (hd : (x == ("__debug__" : Str)) = false := by decide) :
    wpAny M A (eval (.Name x pos) (envOfC name scope L a cd)) Q E s := wpAny_Name (wpAny_loadName_local hk hl hn hv h) hd
/-- what __init__ leaves of a fresh exception at x -/
structure InitEnd (h h' : Heap) (x C dx t1 : Addr) (v : Value) : Prop where
  keep : ∀ b o, b ≠ x → h.get? b = some o → h'.get? b = some o
  obj : h'.get? x = some { cls := .ref C, dict := some dx, data := .fields #[.ref t1, .none, .none, .none, .bool false, .none] }
  dbig : h.objs.size ≤ dx
  dne : dx ≠ x
  ns : h'.Ns1 dx (fun y => if y = "many" then some v else none)
/-- a made Low -/
structure OwnMade (h h' : Heap) (e C d : Addr) (v : Value) : Prop where
  keep : ∀ b o, h.get? b = some o → h'.get? b = some o
  new : h.objs.size ≤ e
  obj : ∃ oe vs, h'.get? e = some oe ∧ oe.cls = .ref C ∧ oe.dict = some d ∧ oe.data = .fields vs ∧ vs[1]? = some .none
  dbig : h.objs.size ≤ d
  dne : d ≠ e
  ns : h'.Ns1 d (fun y => if y = "many" then some v else none)
section
variable {prog : Program} {w : World} {A : Around} {E : Value → Shared → Prop} {R : Result → Shared → Prop} {s : Shared} {K : Frag} {mg : Str → Option Value} {cn qn : Str} {C fI : Addr}
theorem low_init (T : ErTxt K mg cn qn C fI) {x t0 : Addr} {v : Value} (X : K.In s.heap) (hlim : s.heap.NoLimit) (hx : s.heap.get? x = some (excO C t0)) (hnx : K.lookup x = none) (hroom : A.depth < recursionLimit)
    (hq : ∀ h' tk dx, InitEnd s.heap h' x C dx t0 v → R (.ok (.ret .none)) { s with heap := h', toks := tk }) :
    codeAny (model prog w) A (.call (.ref fI) ⟨[.ref x, v], []⟩) R s := by
  obtain ⟨oc, od, doc, pm, an, cdv, ct, osl, p1, p2, q1, q2, q3, q4, ho, hcd⟩ := T.fn
  obtain ⟨nm, q, N, bs, bm, sn, sub, ab, col, dd, k0, k1, k2, k3, k5, hC, hbm⟩ := T.cls
  have hcl : clsIn K C = some { name := nm, bases := bs, mro := .ref C :: bm, ns := N, qualname := q, hasDict := true, slotNames := sn, subclasses := sub, abstract := ab, collection := col, hasDel := false } := by unfold clsIn; rw [hC] <;> rfl
  refine Att.call_fn (binds := [("self", .ref x), ("many", v)]) X hlim ho hcd hroom (BindsTo.of_eq (by first | rfl | with_unfolding_all rfl)) (by first | rfl | decide | with_unfolding_all rfl) (fun s₁ IC => ?_) rfl rfl rfl
  obtain ⟨h₁, tk₁, rfl⟩ := IC.toInCall.same
  have k : ∀ b o, s.heap.get? b = some o → h₁.get? b = some o := IC.toInCall.keep
  have hn := IC.toInCall.ns
  have hxL : s.heap.objs.size ≠ x := Nat.ne_of_gt (Heap.lt_size hx)
  have X₁ : K.In h₁ := X.keeps k
  have hx₁ := k _ _ hx
  -- self.by = by
  show wpAny _ _ (execs _ _) _ _ _
  refine wpAny_execs_cons (plainObj_wpAny_Assign_Attribute ?_)
  refine ldC (v := v) hn (by first | rfl | with_unfolding_all rfl | kernel_rfl) (ldC (v := .ref x) hn (by first | rfl | with_unfolding_all rfl | kernel_rfl) ?_)
  refine set_plain X₁ (ox := excO C t0) (od := none) ⟨hx₁, rfl, rfl, trivial⟩ T.sa ?_
  refine exc_osa X₁ hx₁ hcl (show refsVE (.ref C :: bm) = true from hbm) rfl T.noN (fun h₃ tk₃ dx k₃ dn dne hx₃ hn₃ => ?_)
  show wpAny _ _ (execs _ _) _ _ _
  have z : s.heap.objs.size < h₁.objs.size := hn.lt
  exact wpAny_execs_nil (hq h₃ tk₃ dx ⟨fun b o hb e => k₃ b o hb (k b o e), hx₃, Nat.le_of_lt (Nat.lt_of_lt_of_le z dn), dne, hn₃⟩)
theorem low_made (T : ErTxt K mg cn qn C fI) {v : Value} (X : K.In s.heap) (hlim : s.heap.NoLimit) (hroom : A.depth + 1 < recursionLimit)
    (hq : ∀ h' tk e d, OwnMade s.heap h' e C d v → R (.ok (.ret (.ref e))) { s with heap := h', toks := tk }) :
    codeAny (model prog w) A (.call (.ref C) ⟨[v], []⟩) R s := by
  obtain ⟨nm, q, N, bs, bm, sn, sub, ab, col, dd, k0, k1, k2, k3, k5, hC, hbm⟩ := T.cls
  obtain ⟨hp, g, dr, tk, os⟩ := s
  have k : ∀ b o, hp.get? b = some o → ((hp.push (kdv_tup [v])).push (excO C hp.objs.size)).get? b = some o := fun b o e => Heap.get?_push_of_some _ (Heap.get?_push_of_some _ e)
  have hget : ((hp.push (kdv_tup [v])).push (excO C hp.objs.size)).get? (hp.objs.size + 1) = some (excO C hp.objs.size) := by heap_get
  have hnx : K.lookup (hp.objs.size + 1) = none := by
    cases e : K.lookup (hp.objs.size + 1) with
    | none => rfl
    | some o =>
      have z : hp.get? (hp.objs.size + 1) = some o := X _ _ e
      exact absurd (Nat.lt_of_succ_lt (Heap.lt_size z)) (Nat.lt_irrefl _)
  refine call_own F.excBase_ValueError (fun X => refsVE_contains X bm hbm) (X _ _ hC) (looks_findIn X T.iC) (fun self => bind_fn X self T.tC) (one_size v) ?_
  refine low_init (s := ⟨(hp.push (kdv_tup [v])).push (excO C hp.objs.size), g, dr, tk, os⟩) T (X.keeps k) (hlim.keeps k) hget hnx ?_ fun h' tk' dx ⟨k', hx, dn, dne, hns⟩ => ?_
  · show A.depth + 1 < recursionLimit
    exact hroom
  · have old : ∀ b o, hp.get? b = some o → h'.get? b = some o := fun b o e => k' b o (Nat.ne_of_lt (Nat.lt_succ_of_lt (Heap.lt_size e))) (k b o e)
    have z : hp.objs.size + 1 + 1 ≤ dx := by
      first
        | (simpa only [Heap.size_push] using dn)
        | exact dn
        | (have q := dn; rw [Heap.size_push, Heap.size_push] at q; exact q)
    exact ⟨rfl, hq h' tk' (hp.objs.size + 1) dx ⟨old, Nat.le_succ _, ⟨_, _, hx, rfl, rfl, rfl, rfl⟩, Nat.le_trans (Nat.le_trans (Nat.le_succ _) (Nat.le_succ _)) z, dne, hns⟩⟩
end
end Ermany
end PySem
namespace L2
open PySem PySem.Spec PyProof.Rows
theorem relO_low_many {v : V} {v' : Value} (r : RelV v v') (f : Str) : RelO (List.lookup f [(("many" : Str), v)]) (if f = "many" then some v' else none) := by
  by_cases hw : f = "many"
  · subst hw
    rw [if_pos rfl]
    have q : List.lookup ("many" : Str) [(("many" : Str), v)] = some v := by simp [List.lookup]
    rw [q]
    exact r
  · rw [if_neg hw]
    have qw : (f == ("many" : Str)) = false := by simpa using hw
    have q2 : List.lookup f [(("many" : Str), v)] = none := by simp [List.lookup, qw]
    rw [q2]
    trivial
section
variable {X : Cx} {cn qn : Str} {C fI : Addr}
/-- Low(e) -/
def tMkLow_many (C : Addr) (ta : TA) : St → Hp → XK → Prop := fun σ H Q => ta σ H fun vs H1 => ∃ v, vs = [v] ∧ ∀ d, H1 d = none → Q (.ref C) (some d) (upd H1 d (.xd [(("many" : Str), v)]))
theorem pmk_low_many {a : Expr} {ta : TA} {p pos : Pos} {k : Nat} (T : PySem.Ermany.ErTxt X.K X.mg cn qn C fI) (hr : Room k X.A) (ha : PA X [a] ta) (hg : Gl X cn) (hdb : (cn == ("__debug__" : Str)) = false)
    (he : starEach (a :: []) X.env = (false, eval a X.env) :: starEach [] X.env := by rfl) (hpl : (backTo pos (starEach [] X.env)).any (·.1) = false := by rfl) :
    PMk X (.Call (.Name cn p) [a] [] pos) (tMkLow_many C ta) := by
  intro pins s σ H Q I h
  refine wpAny_Call_Name_kw (ld_glob I hg T.gC ?_ hdb)
  refine PySem.W.callWith_K (h₀ := X.base) I.ok.mod.kin T.kC (thn (ha.run pos pins s σ H _ I h) fun us s1 hh => ?_) he hpl
  obtain ⟨vs, H1, I1, r1, v, ev, q1⟩ := hh
  subst ev
  refine ⟨I1.kIn, ?_⟩
  cases r1 with
  | cons rv rn =>
    rename_i v' us'
    cases rn
    show wpAny _ _ (call (.ref C) [v']) _ _ _
    have hlim := I1.nolimit
    obtain ⟨hp, g, dr, tk, os⟩ := s1
    refine wpAny_call (PySem.Ermany.low_made T I1.kIn hlim (by have := hr.dp; omega) fun h' tk' e d M => ?_)
    show MkP X pins σ Q (.ref e) ⟨h', g, dr, tk', os⟩
    obtain ⟨oe, fv, hoe, hc, hd, hdat, h1⟩ := M.obj
    have hns := M.ns
    obtain ⟨G', g1, g2⟩ := restrict h' fun b => decide (b ≠ e)
    have gk : ∀ b, b ≠ e → G'.get? b = h'.get? b := fun b hb => g1 b (decide_eq_true hb)
    have ge : G'.get? e = none := g2 e (by simp)
    have old : ∀ b o, hp.get? b = some o → G'.get? b = some o := fun b o q => (gk b (Nat.ne_of_lt (Nat.lt_of_lt_of_le (Heap.lt_size q) M.new))).trans (M.keep b o q)
    have ob : ObjOk X.prog X.w (upd H1 d (.xd [(("many" : Str), v)])) G' d (.xd [(("many" : Str), v)]) :=
      ⟨_, hns.at (fun o q => (gk d M.dne).trans q), fun f => relO_low_many rv f⟩
    have J : Inv X pins σ (upd H1 d (.xd [(("many" : Str), v)])) ⟨G', g, dr, tk', os⟩ := I1.laid (t' := tk') old M.dbig ob
    refine ⟨e, oe, fv, ⟨G', g, dr, tk', os⟩, _, .ref C, some d, rfl, J, fun b o q => ?_, ge, hoe, ⟨hc, hd⟩, hdat, h1, ?_, rfl, I1.bare, raises_own T.exC T.tyC, q1 d (I1.hok.fresh M.dbig)⟩
    · by_cases hb : b = e
      · have q' : G'.get? b = some o := q
        rw [hb, ge] at q'; cases q'
      · exact (gk b hb).symm.trans q
    · rw [upd_ne (Ne.symm M.dne)]
      exact I1.hok.fresh M.new
/-- raise Low(e) -/
def tRaiseLow_many (C : Addr) (W : WX) (ta : TA) : TS := fun _ σ H => tMkLow_many C ta σ H fun cls d H' => W cls d σ H'
theorem ps_raiseLow_many {a : Expr} {ta : TA} {W : WX} {p pos pos2 : Pos} {k : Nat} (hc : X.calm = true) (T : PySem.Ermany.ErTxt X.K X.mg cn qn C fI) (hr : Room k X.A) (tk : Takes X W) (ha : PA X [a] ta) (hg : Gl X cn) (hdb : (cn == ("__debug__" : Str)) = false)
    (he : starEach (a :: []) X.env = (false, eval a X.env) :: starEach [] X.env := by rfl) (hpl : (backTo pos (starEach [] X.env)).any (·.1) = false := by rfl) :
    PS X (.Raise (some (.Call (.Name cn p) [a] [] pos)) none pos2) (tRaiseLow_many C W ta) := ps_raise hc tk (pmk_low_many T hr ha hg hdb he hpl)
/-- low.by, low the exception that the suite holds (at a; its class cls, its dict d) -/
def tByLow_many (C : Addr) (a : Addr) (cls : Value) (d : Option Addr) (te : TE) : TE := fun σ H Q => te σ H fun x H1 => x = .ref a ∧ cls = .ref C ∧ ∃ (dd : Addr) (v : V), d = some dd ∧ H1 dd = some (.xd [(("many" : Str), v)]) ∧ Q v H1
theorem pe_byLow_many {a : Addr} {oe : Obj} {cls : Value} {d : Option Addr} {pn : List (Addr × Obj)} {e : Expr} {te : TE} {pos : Pos} (T : PySem.Ermany.ErTxt X.K X.mg cn qn C fI) (hz : Zc cls d oe) (hf : ∃ vs, oe.data = .fields vs) (he : PE (X.suite a ((a, oe) :: pn)) e te)
    (hb : attributeBase e "many" X.env (eval e X.env) = eval e X.env := by rfl) :
    PE (X.suite a ((a, oe) :: pn)) (.Attribute e "many" pos) (tByLow_many C a cls d te) := by
  refine ⟨fun pins s σ H Q I h => ?_⟩
  refine attr_of hb (thn (he.run pins s σ H _ I h) fun u s1 hh => ?_)
  obtain ⟨x, H1, I1, rx, ex, ec, dd, v, ed, ea, q⟩ := hh
  subst ex
  obtain rfl : u = Value.ref a := rx
  subst ec
  subst ed
  obtain ⟨ha, _⟩ := I1.pin (a, oe) (List.mem_append_left _ List.mem_cons_self)
  obtain ⟨vs, hd⟩ := hf
  have hx : ObjOk X.prog X.w H1 s1.heap dd (.xd [(("many" : Str), v)]) := I1.hok dd _ ea
  obtain ⟨mA, hns, hr⟩ := hx
  obtain ⟨od, ho, hl⟩ := lookIn_ns hns
  have l : List.lookup ("many" : Str) [(("many" : Str), v)] = some v := by simp [List.lookup]
  obtain ⟨u, hu, ru⟩ := RelO.some_of (v := v) (o := mA "many") (by rw [← l]; exact hr "many")
  have J : PySem.W.InstAt s1.heap a oe C (some od) := ⟨ha, hz.1, by unfold PySem.W.notCls; rw [hd] <;> rfl, by rw [hz.2]; exact ho⟩
  exact HandSPX.exc_get I1.kIn J T.ga T.gg T.exC (PySem.W.findObj_own T.hdC T.noN rfl (by rw [hl, hu])) (handed_of ru) ⟨v, H1, I1.tok _, ru, q⟩
end
end L2
set_option maxRecDepth 100000
set_option maxHeartbeats 2000000
/-! own errors without a field: def __init__(self): pass -/
namespace PySem
namespace Er0
open PySem.W PySem.Calls PyProof.Rows PySem.HandSPX
def iA (p1 : Pos) : Arguments := { posonlyargs := [], args := [{ arg := "self", annotation := none, pos := p1 }], vararg := none, kwonlyargs := [], kw_defaults := [], kwarg := none, defaults := [] }
def iB (q1 : Pos) : List Stmt := [.Pass q1]
def iS : Scope := { kind := .function, names := [(PySem.Str.ofString "self", .local)], isGenerator := false, isCoroutine := false, more := [] }
structure ErTxt (K : Frag) (mg : Str → Option Value) (cn qn : Str) (C fI : Addr) : Prop where
  gC : mg cn = some (.ref C)
  cls : ∃ nm q N bs bm sn sub ab col dd k0 k1 k2 k3 k5, K.lookup C = some (excClassObj nm q C N bs bm true sn sub ab col dd k0 k1 k2 k3 k5 "ValueError.__new__") ∧ refsVE bm = true
  iC : findIn K (.ref C) "__init__" = some (some (.ref fI))
  tC : typeIn K (.ref fI) = some (.type "function")
  kC : keepIn K (.ref C) = true
  exC : subIn K (.ref C) (.type "BaseException") = some true
  tyC : typeIn K (.ref C) = some (.type "type")
  hdC : hasDictIn K C = true
  fn : ∃ (oc : Value) (od : Option Addr) (doc pm : Value) (an : Option Addr) (cdv ct : Value) (osl : Array (Option Value)) (p1 q1 : Pos),
    K.lookup fI = some ⟨oc, od, .func (fnOf "__init__" qn (iA p1) (iB q1) iS .none .none doc pm an cdv ct), osl⟩ ∧ codeIn K cdv qn = true
section
variable {prog : Program} {w : World} {A : Around} {R : Result → Shared → Prop} {s : Shared} {K : Frag} {mg : Str → Option Value} {cn qn : Str} {C fI : Addr}
theorem init0 (T : ErTxt K mg cn qn C fI) {x : Addr} (X : K.In s.heap) (hlim : s.heap.NoLimit) (hroom : A.depth < recursionLimit)
    (hq : ∀ h' tk, (∀ b o, s.heap.get? b = some o → h'.get? b = some o) → R (.ok (.ret .none)) { s with heap := h', toks := tk }) :
    codeAny (model prog w) A (.call (.ref fI) ⟨[.ref x], []⟩) R s := by
  obtain ⟨oc, od, doc, pm, an, cdv, ct, osl, p1, q1, ho, hcd⟩ := T.fn
  refine Att.call_fn (binds := [("self", .ref x)]) X hlim ho hcd hroom (BindsTo.of_eq (by first | rfl | with_unfolding_all rfl)) (by first | rfl | decide | with_unfolding_all rfl) (fun s₁ IC => ?_) rfl rfl rfl
  obtain ⟨h₁, tk₁, rfl⟩ := IC.toInCall.same
  show wpAny _ _ (execs _ _) _ _ _
  refine wpAny_execs_cons (wpAny_Pass ?_)
  exact wpAny_execs_nil (hq h₁ tk₁ IC.toInCall.keep)
/-- a made one -/
structure Made0 (h h' : Heap) (e C : Addr) : Prop where
  keep : ∀ b o, h.get? b = some o → h'.get? b = some o
  new : h.objs.size ≤ e
  obj : ∃ oe vs, h'.get? e = some oe ∧ oe.cls = .ref C ∧ oe.dict = none ∧ oe.data = .fields vs ∧ vs[1]? = some .none
theorem made0 (T : ErTxt K mg cn qn C fI) (X : K.In s.heap) (hlim : s.heap.NoLimit) (hroom : A.depth + 1 < recursionLimit)
    (hq : ∀ h' tk e, Made0 s.heap h' e C → R (.ok (.ret (.ref e))) { s with heap := h', toks := tk }) :
    codeAny (model prog w) A (.call (.ref C) ⟨[], []⟩) R s := by
  obtain ⟨nm, q, N, bs, bm, sn, sub, ab, col, dd, k0, k1, k2, k3, k5, hC, hbm⟩ := T.cls
  obtain ⟨hp, g, dr, tk, os⟩ := s
  have k : ∀ b o, hp.get? b = some o → ((hp.push (kdv_tup [])).push (excO C hp.objs.size)).get? b = some o := fun b o e => Heap.get?_push_of_some _ (Heap.get?_push_of_some _ e)
  have hget : ((hp.push (kdv_tup [])).push (excO C hp.objs.size)).get? (hp.objs.size + 1) = some (excO C hp.objs.size) := by heap_get
  refine call_own F.excBase_ValueError (fun X => refsVE_contains X bm hbm) (X _ _ hC) (looks_findIn X T.iC) (fun self => bind_fn X self T.tC) (Nat.zero_le _) ?_
  refine init0 (s := ⟨(hp.push (kdv_tup [])).push (excO C hp.objs.size), g, dr, tk, os⟩) T (X.keeps k) (hlim.keeps k) ?_ fun h' tk' k' => ?_
  · show A.depth + 1 < recursionLimit
    exact hroom
  · exact ⟨rfl, hq h' tk' (hp.objs.size + 1) ⟨fun b o e => k' b o (k b o e), Nat.le_succ _, ⟨_, _, k' _ _ hget, rfl, rfl, rfl, rfl⟩⟩⟩
end
end Er0
end PySem
namespace L2
open PySem PySem.Spec PyProof.Rows
section
variable {X : Cx} {cn qn : Str} {C fI : Addr}
/-- C() -/
def tMk0 (C : Addr) : St → Hp → XK → Prop := fun _ H Q => Q (.ref C) none H
theorem pmk_0 {p pos : Pos} {k : Nat} (T : PySem.Er0.ErTxt X.K X.mg cn qn C fI) (hr : Room k X.A) (hg : Gl X cn) (hdb : (cn == ("__debug__" : Str)) = false)
    (hpl : (backTo pos (starEach [] X.env)).any (·.1) = false := by rfl) :
    PMk X (.Call (.Name cn p) [] [] pos) (tMk0 C) := by
  intro pins s σ H Q I h
  have hlim := I.nolimit
  have kin := I.kIn
  obtain ⟨hp, g, dr, tk, os⟩ := s
  refine wpAny_Call_Name_kw (ld_glob I hg T.gC ?_ hdb)
  refine PySem.W.callWith_K0 I.kIn T.kC (wpAny_call (PySem.Er0.made0 T kin hlim (by have := hr.dp; omega) fun h' tk' e M => ?_))
  show MkP X pins σ Q (.ref e) ⟨h', g, dr, tk', os⟩
  obtain ⟨oe, fv, hoe, hc, hd, hdat, h1⟩ := M.obj
  obtain ⟨G', g1, g2⟩ := restrict h' fun b => decide (b ≠ e)
  have gk : ∀ b, b ≠ e → G'.get? b = h'.get? b := fun b hb => g1 b (decide_eq_true hb)
  have ge : G'.get? e = none := g2 e (by simp)
  have old : ∀ b o, hp.get? b = some o → G'.get? b = some o := fun b o q => (gk b (Nat.ne_of_lt (Nat.lt_of_lt_of_le (Heap.lt_size q) M.new))).trans (M.keep b o q)
  have J : Inv X pins σ H ⟨G', g, dr, tk', os⟩ := I.kept (t' := tk') old
  refine ⟨e, oe, fv, ⟨G', g, dr, tk', os⟩, H, .ref C, none, rfl, J, fun b o q => ?_, ge, hoe, ⟨hc, hd⟩, hdat, h1, I.hok.fresh M.new, rfl, I.bare, raises_own T.exC T.tyC, h⟩
  by_cases hb : b = e
  · have q' : G'.get? b = some o := q
    rw [hb, ge] at q'
    cases q'
  · exact (gk b hb).symm.trans q
/-- raise C() -/
def tRaise0 (C : Addr) (W : WX) : TS := fun _ σ H => tMk0 C σ H fun cls d H' => W cls d σ H'
theorem ps_raise0 {W : WX} {p pos pos2 : Pos} {k : Nat} (hc : X.calm = true) (T : PySem.Er0.ErTxt X.K X.mg cn qn C fI) (hr : Room k X.A) (tk : Takes X W) (hg : Gl X cn) (hdb : (cn == ("__debug__" : Str)) = false)
    (hpl : (backTo pos (starEach [] X.env)).any (·.1) = false := by rfl) :
    PS X (.Raise (some (.Call (.Name cn p) [] [] pos)) none pos2) (tRaise0 C W) := ps_raise hc tk (pmk_0 T hr hg hdb hpl)
end
end L2
set_option maxRecDepth 100000
set_option maxHeartbeats 2000000
/-! an exception that is caught and given back: try: .. except X as n: return n -/
namespace L2
open PySem PySem.Spec PyProof.Rows
/-- an exception object of a class, with its dict, at an address -/
def XH (cls : Value) (d : Option Addr) (a : Addr) : HO := .ext fun h => ∃ (oe : Obj) (vs : Array Value), h.get? a = some oe ∧ Zc cls d oe ∧ oe.data = .fields vs
theorem xh_ok {P : Program} {w : World} {H : Hp} {h : Heap} {a : Addr} {cls : Value} {d : Option Addr} {oe : Obj} {vs : Array Value} (e : h.get? a = some oe) (z : Zc cls d oe) (q : oe.data = .fields vs) : ObjOk P w H h a (XH cls d a) :=
  ⟨⟨oe, vs, e, z, q⟩, ⟨oe, e⟩, fun _ _ ⟨o, v, y, r⟩ k => ⟨o, v, k o y, r⟩⟩
/-- what such a try wishes of an exception of its body -/
def wRet (K : PySem.W.Frag) (c : Value) (D : Ends) : WX := fun cls d σ H => PySem.W.exmOne K cls c = some true ∧ ∀ a, H a = none → D.rt (.ref a) (upd H a (XH cls d a))
section
variable {X : Cx} {pins : List (Addr × Obj)} {σ : St} {H : Hp} {s : Shared}
/-- an object that stands and is not tracked yet, and was not there at the entry, is tracked -/
theorem Inv.track {a : Addr} {cls : Value} {d : Option Addr} {oe : Obj} {vs : Array Value} (I : Inv X pins σ H s) (ha : s.heap.get? a = some oe) (z : Zc cls d oe) (q : oe.data = .fields vs) (hn : H a = none) (h0 : X.s_0.heap.get? a = none)
    (nl : a ≠ X.env.locals) (np : ∀ p ∈ X.pn ++ pins, p.1 ≠ a) : Inv X pins σ (upd H a (XH cls d a)) s := by
  have B := I.base
  refine ⟨I.ok, I.os, I.bare, ⟨B.keep, B.slot, fun b o e n hx => ?_, B.there, fun b xs e => ?_, fun b o u e => ?_, fun b ps e => ?_⟩, I.loc, I.cell, ?_, fun x c e => ?_, fun p hp => ?_, HOk.laidN I.hok (fun _ _ e => e) hn (xh_ok ha z q), I.len⟩
  · have nb : b ≠ a := fun y => by
      rw [y, h0] at e
      cases e
    rw [upd_ne nb]
    exact B.free b o e n hx
  · have y := B.tups b xs e
    rw [upd_ne (ne_of_none y hn)]
    exact y
  · have y := B.frzs b o u e
    rw [upd_ne (ne_of_none y hn)]
    exact y
  · obtain ⟨more, y⟩ := B.tbls b ps e
    refine ⟨more, ?_⟩
    rw [upd_ne (ne_of_none y hn)]
    exact y
  · rw [upd_ne (Ne.symm nl)]
    exact I.free
  · obtain ⟨v, w⟩ := I.cell x c e
    have nc : c ≠ a := fun y => by
      obtain ⟨oc, w1, w2⟩ := w
      rw [y, ha] at w1
      have w3 := Option.some.inj w1
      rw [← w3, q] at w2
      cases w2
    rw [upd_ne nc]
    exact I.freeC x c e
  · obtain ⟨e, n, r⟩ := I.pin p hp
    refine ⟨e, ?_, r⟩
    rw [upd_ne (np p hp)]
    exact n
end
section
variable {X : Cx} {x n : Str} {c : Value} {i : Nat} {body : List Stmt} {ep rp rpos pos pos' : Pos} {tb : WX → TS}
theorem ps_try_ret (hs : X.stack = X.env :: X.outer) (hf : X.env.frame = some X.env.locals) (hex : X.ex = []) (hN : X.N.Nodup) (hi : X.N[i]? = some n) (hln : X.env.kindOf n = some .local) (hc : Names X x c) (hd0 : (n == ("__debug__" : Str)) = false) (hd1 : (n == ("__classdict__" : Str)) = false)
    (hb : ∀ (W : WX) (pn : List (Addr × Obj)) (xe : Value → Shared → Prop), Takes (X.tr pn xe) W → PassesOwn (model X.prog X.w) X.A X.env xe → PSs (X.tr pn xe) body (tb W)) :
    PS X (.Try body [.ExceptHandler (some (.Name x ep)) (some n) [.Return (some (.Name n rp)) rpos] pos'] [] [] pos) (fun D σ H => tb (wRet X.K c D) D σ H) := by
  refine ⟨fun pins s σ H D I h => ?_⟩
  have fr : X.A.frames = some (X.env :: X.outer) := by
    rw [I.ok.frames, hs]
  have run := (hb (wRet X.K c D) (X.pn ++ pins) (fun e s₁ => wpAny (model X.prog X.w) X.A (noteFrame e X.env) (fun _ s₂ => wpAny (model X.prog X.w) X.A (setFlight e none)
    (fun _ s₃ => wpAny (model X.prog X.w) X.A (handleBy e X.env [.ExceptHandler (some (.Name x ep)) (some n) [.Return (some (.Name n rp)) rpos] pos']) (SP X pins D) X.xe s₃) X.xe s₂) X.xe s₁)
    (fun u s' caught => ?_) PassesOwn.looking).run [] s σ H D (I.toTry _) h
  · refine wpAny_Try_except (wpAny_mono run (fun f s1 sp => ?_) fun _ _ y => y)
    cases f with
    | next =>
      obtain ⟨σ', H', J, y⟩ := sp
      exact wpAny_execs_nil ⟨σ', H', J.ofTry I.ok, y⟩
    | brk =>
      obtain ⟨σ', H', J, y⟩ := sp
      exact ⟨σ', H', J.ofTry I.ok, y⟩
    | cont =>
      obtain ⟨σ', H', J, y⟩ := sp
      exact ⟨σ', H', J.ofTry I.ok, y⟩
    | ret u =>
      obtain ⟨v, σ', H', J, r, y⟩ := sp
      exact ⟨v, σ', H', J.ofTry I.ok, r, y⟩
  · obtain ⟨a, B, sI, pins', σ', H', cls, d, rfl, J', nb, up, sky, na, os, ag, hm, hw⟩ := caught
    have ok := I.ok
    have J : Inv X pins σ' H' sI := J'.ofTry ok
    have sky2 : Sky B (X.env :: X.outer) a (Zc cls d) X.env.locals s'.heap := hs ▸ sky
    show wpAny (model X.prog X.w) X.A (noteFrame (.ref a) X.env) _ _ _
    refine Sky.land Zc.steady fr hf sky2 fun h3 fly up3 => ?_
    have K3 : Inv X pins σ' H' { s' with heap := h3 } := J.landed nb fly.1 (up.trans up3) os ag
    obtain ⟨oe3, vs3, he3, hz3, hd3⟩ := fly.there
    -- it is none of the frames, and was not there before
    have out : a ∉ frs (X.env :: X.outer) := fun m => by
      obtain ⟨_, o', e', no⟩ := fly.2.2.1.mem m
      rw [he3] at e'
      cases e'
      exact no _ hd3
    have nl : a ≠ X.env.locals := fun y => out (List.mem_filterMap.mpr ⟨X.env, List.mem_cons_self, by rw [hf, y]⟩)
    have nF : a ∉ X.fs := fun m => by
      obtain ⟨e, he, y⟩ := List.mem_filterMap.mp m
      exact out (List.mem_filterMap.mpr ⟨e, List.mem_cons_of_mem _ he, y⟩)
    have newI : sI.heap.get? a = none := by
      cases e : sI.heap.get? a with
      | none => rfl
      | some o =>
        have y := nb a o e (show a ∉ frs X.stack by rw [hs]; exact out)
        rw [fly.2.1] at y
        cases y
    have new0 : X.s_0.heap.get? a = none := by
      cases e : X.s_0.heap.get? a with
      | none => rfl
      | some o =>
        obtain ⟨o', y⟩ := J.base.there a o e (by rw [hex]; simp)
        rw [newI] at y
        cases y
    have np : ∀ p ∈ X.pn ++ pins, p.1 ≠ a := fun p hp y => by
      have z := (J.pin p hp).1
      rw [y, newI] at z
      cases z
    have S3 := K3.suite he3 hd3 na nl nF
    refine wpAny_handleBy_cons (codeAny_handlers_test ?_) (by intro y; cases y)
    have LT : PySem.W.Looks (model X.prog X.w) h3 (typeOf (.ref a)) cls := fun A Q E s k y => wpAny_typeOf_ref (k _ _ he3) (by rw [hz3.1]; exact y)
    have LM := PySem.W.exm_one (M := model X.prog X.w) (K3.kIn) LT hm
    have test : ∀ {Q : Value → Shared → Prop} {E : Value → Shared → Prop}, Q c { s' with heap := h3 } → wpAny (model X.prog X.w) (X.A.mark (some (.ref a))) (eval (.Name x ep) X.env) Q E { s' with heap := h3 } := fun {Q E} y => by
      obtain ⟨g1, g2, g3 | ⟨g3, g4, g5⟩⟩ := hc
      · exact ld_glob (X := X.suite a ((a, oe3) :: (X.pn ++ pins))) S3 g1 g3 y g2
      · exact ld_blt (X := X.suite a ((a, oe3) :: (X.pn ++ pins))) S3 g1 g3 g4 y g5 g2
    refine test (LM.here (codeAny_handlers_suite_as ?_))
    refine HandSPX.lands_againZ fly fun h4 fly4 up4 => ?_
    have K4 : Inv X pins σ' H' { s' with heap := h4 } := J.landed nb fly4.1 ((up.trans up3).trans up4) os ag
    obtain ⟨oe4, vs4, he4, hz4, hd4⟩ := fly4.there
    have S4 := K4.suite he4 hd4 na nl nF
    refine store_ok (X := X.suite a ((a, oe4) :: (X.pn ++ pins))) (v := .ref a) S4 hN hi (.inl hln) rfl (fun s5 S5 => ?_) (.inr hln)
    have li : i < σ'.length := by
      rw [J.len]
      exact (List.getElem?_eq_some_iff.mp hi).1
    have row : PSs (X.suite a ((a, oe4) :: (X.pn ++ pins))) [.Return (some (.Name n rp)) rpos] (tRet (tVar i)) := pss_one (ps_ret (pe_var (X := X.suite a ((a, oe4) :: (X.pn ++ pins))) hi (.inl hln) hd0 hd1))
    refine wpAny_mono (row.run [] s5 _ H' ⟨fun _ _ => False, fun v H2 => v = .ref a ∧ H2 = H', fun _ _ => False, fun _ _ => False⟩ S5 ⟨_, by rw [List.getElem?_set_self li], rfl, rfl⟩) (fun f s6 sp => ?_) (fun _ _ y => False.elim y)
    cases f with
    | next =>
      obtain ⟨_, _, _, y⟩ := sp
      exact False.elim y
    | brk =>
      obtain ⟨_, _, _, y⟩ := sp
      exact False.elim y
    | cont =>
      obtain ⟨_, _, _, y⟩ := sp
      exact False.elim y
    | ret u =>
      obtain ⟨v6, σ6, H6, S6, r6, e1, e2⟩ := sp
      subst e1 e2
      obtain rfl : u = Value.ref a := r6
      refine gone_ok (X := X.suite a ((a, oe4) :: (X.pn ++ pins))) S6 hN hi hln fun s7 S7 => ?_
      obtain ⟨at7, _⟩ := S7.pin (a, oe4) (List.mem_append_left _ List.mem_cons_self)
      exact ⟨.ref a, _, _, (S7.unsuite ok).track at7 hz4 hd4 na new0 nl np, rfl, hw a na⟩
end
end L2
set_option maxRecDepth 100000
set_option maxHeartbeats 2000000
/-! exceptions that are held as values: isinstance, fields, made -/
namespace L2
open PySem PySem.Spec PyProof.Rows
/-- a value's type, an exception's too -/
inductive TyE (K : PySem.W.Frag) (H : Hp) : V → Value → Prop where
  | base {x : V} {t : Value} (h : TyX K H x t) : TyE K H x t
  | bare {a D : Addr} (e : H a = some (XH (.ref D) none a)) (c : ExcC K D) : TyE K H (.ref a) (.ref D)
  | full {a D dd : Addr} {fs : List (Str × V)} (e : H a = some (XH (.ref D) (some dd) a)) (ed : H dd = some (.xd fs)) (c : ExcC K D) : TyE K H (.ref a) (.ref D)
section
variable {X : Cx} {pins : List (Addr × Obj)} {σ : St} {H : Hp} {s : Shared}
theorem xh_at {a : Addr} {cls : Value} {d : Option Addr} (I : Inv X pins σ H s) (e : H a = some (XH cls d a)) : ∃ (oe : Obj) (vs : Array Value), s.heap.get? a = some oe ∧ Zc cls d oe ∧ oe.data = .fields vs := by
  have y : ObjOk X.prog X.w H s.heap a (XH cls d a) := I.hok a _ e
  exact y.1
theorem kitx_held {a D : Addr} {oe : Obj} {od : Option Obj} (c : ExcC X.K D) : PySem.W.KitX X.K (.ref a) (.ref D) (fun h => PySem.W.InstAt h a oe D od) := by
  refine PySem.W.kitx_exc ?_ c.hg c.hk c.hs c.ha c.hn c.ht c.hm
  have y := c.hd
  unfold PySem.W.hasDictIn at y
  cases z : PySem.W.clsIn X.K D with
  | none => rw [z] at y; cases y
  | some cd => rfl
theorem kit_ofE {x : V} {u t : Value} (I : Inv X pins σ H s) (rx : RelV x u) (ty : TyE X.K H x t) : ∃ P : Heap → Prop, PySem.W.KitX X.K u t P ∧ P s.heap ∧ u ≠ .builtin "__main__.__loader__#opaque" := by
  cases ty with
  | base h => exact kit_of I rx h
  | @bare a D e c =>
    cases (show u = Value.ref a from rx)
    obtain ⟨oe, vs, h1, h2, h3⟩ := xh_at I e
    exact ⟨_, kitx_held (od := none) c, ⟨h1, h2.1, by unfold PySem.W.notCls; rw [h3] <;> rfl, by rw [h2.2]; exact True.intro⟩, fun z => nomatch z⟩
  | @full a D dd fs e ed c =>
    cases (show u = Value.ref a from rx)
    obtain ⟨oe, vs, h1, h2, h3⟩ := xh_at I e
    obtain ⟨mA, hns, _⟩ := (show ObjOk X.prog X.w H s.heap dd (.xd fs) from I.hok dd _ ed)
    obtain ⟨od, ho, _⟩ := lookIn_ns hns
    exact ⟨_, kitx_held (od := some od) c, ⟨h1, h2.1, by unfold PySem.W.notCls; rw [h3] <;> rfl, by rw [h2.2]; exact ho⟩, fun z => nomatch z⟩
end
/-- isinstance(x, c), one class, x an exception perhaps -/
def rIsiE (K : PySem.W.Frag) : List V → Hp → VK → Prop := fun xs H Q => ∃ (x c : V) (t u : Value) (b : Bool), xs = [x, c] ∧ ClsV c u ∧ TyE K H x t ∧ PySem.W.kitOne K t u = some b ∧ Q (.bl b) H
section
variable {X : Cx}
theorem call_isiE : CallR X (.builtin "isinstance") (rIsiE X.K) := by
  intro pins s σ H xs us Q I r h
  obtain ⟨x, c, t, u, b, rfl, k, ty, e, q⟩ := h
  obtain ⟨u1, u2, rfl, r1, r2⟩ := vals2 r
  obtain rfl := k.eq r2
  obtain ⟨P, Z, p, hx⟩ := kit_ofE I r1 ty
  exact PySem.W.kia_one Z I.kIn p e hx fun tk => ⟨.bl b, H, I.tok tk, rfl, q⟩
/-- e.f, e an exception that is held -/
def tXh (K : PySem.W.Frag) (f : Str) (te : TE) : TE := fun σ H Q => te σ H fun x H1 => ∃ (a C dd : Addr) (fs : List (Str × V)) (v : V), x = .ref a ∧ XfC K C ∧ PySem.W.findIn K (.ref C) f = some none ∧ H1 a = some (XH (.ref C) (some dd) a) ∧ H1 dd = some (.xd fs) ∧ fs.lookup f = some v ∧ Q v H1
theorem pe_xh {e : Expr} {te : TE} {pos : Pos} {f : Str} (he : PE X e te) (hb : attributeBase e f X.env (eval e X.env) = eval e X.env := by rfl) : PE X (.Attribute e f pos) (tXh X.K f te) := by
  refine ⟨fun pins s σ H Q I h => ?_⟩
  refine attr_of hb (thn (he.run pins s σ H _ I h) fun u s1 hh => ?_)
  obtain ⟨x, H1, I1, rx, a, C, dd, fs, v, rfl, T, hno, ea, ed, l, q⟩ := hh
  cases (show u = Value.ref a from rx)
  obtain ⟨oe, vs, h1, h2, h3⟩ := xh_at I1 ea
  obtain ⟨mA, hns, hr⟩ := (show ObjOk X.prog X.w H1 s1.heap dd (.xd fs) from I1.hok dd _ ed)
  obtain ⟨od, ho, hl⟩ := lookIn_ns hns
  obtain ⟨w, hw, rw'⟩ := RelO.some_of (v := v) (o := mA f) (by rw [← l]; exact hr f)
  have J : PySem.W.InstAt s1.heap a oe C (some od) := ⟨h1, h2.1, by unfold PySem.W.notCls; rw [h3] <;> rfl, by rw [h2.2]; exact ho⟩
  exact HandSPX.exc_get I1.kIn J T.ga T.gg T.exC (PySem.W.findObj_own T.hdC hno rfl (by rw [hl, hw])) (handed_of rw') ⟨v, H1, I1.tok _, rw', q⟩
/-- C(), an error without a field, as a value -/
def tErr0 (C : Addr) : TE := fun _ H Q => ∀ e, H e = none → Q (.ref e) (upd H e (XH (.ref C) none e))
theorem pe_err0 {cn qn : Str} {C fI : Addr} {p pos : Pos} {k : Nat} (T : PySem.Er0.ErTxt X.K X.mg cn qn C fI) (hr : Room k X.A) (hg : Gl X cn) (hdb : (cn == ("__debug__" : Str)) = false) : PE X (.Call (.Name cn p) [] [] pos) (tErr0 C) := by
  refine ⟨fun pins s σ H Q I h => ?_⟩
  have hlim := I.nolimit
  have kin := I.kIn
  obtain ⟨hp, g, dr, tk, os⟩ := s
  refine wpAny_Call_Name_kw (ld_glob I hg T.gC ?_ hdb)
  refine PySem.W.callWith_K0 I.kIn T.kC (wpAny_call (PySem.Er0.made0 T kin hlim (by have := hr.dp; omega) fun h' tk' e M => ?_))
  obtain ⟨oe, fv, hoe, hc, hd, hdat, h1⟩ := M.obj
  exact ⟨.ref e, _, I.laid (t' := tk') M.keep M.new (xh_ok hoe ⟨hc, hd⟩ hdat), rfl, h e (I.hok.fresh M.new)⟩
end
end L2
set_option maxRecDepth 100000
set_option maxHeartbeats 2000000
/-! repr of {"a": [n]}; a new list that is surely not the table of modules -/
namespace L2
open PySem PySem.Spec PyProof.Rows Fm
/-- [e, ..]; the new list is told to stand behind the table of modules -/
def tLstB (t : TA) : TE := fun σ H Q => t σ H fun xs H1 => xs.length ≤ sizeLine ∧ ∀ p, H1 p = none → p ≠ sysModules → Q (.ref p) (upd H1 p (.lst xs))
section
variable {X : Cx} {es : List Expr} {t : TA} {pos : Pos}
theorem pe_lstB (h : PA X es t) : PE X (.List es pos) (tLstB t) := by
  refine ⟨fun pins s σ H Q I hq => ?_⟩
  refine wpAny_List_spliced (thn (h.run pos pins s σ H _ I hq) fun us s1 hh => ?_)
  obtain ⟨xs, H1, I1, r, z, q⟩ := hh
  refine ⟨by rw [← r.length]; exact z, ?_⟩
  have big := I1.big
  refine ⟨.ref s1.heap.objs.size, _, I1.laid (o := .lst xs) (t' := s1.toks) (fun b u e => Heap.get?_push_of_some _ e) (Nat.le_refl _) ⟨z, us, 0, r, Heap.get?_push_size _ rfl⟩, rfl, q _ (I1.hok.fresh (Nat.le_refl _)) fun y => ?_⟩
  rw [y] at big
  exact absurd big (Nat.lt_irrefl _)
/-- repr({x: [n]}) -/
def rReprD : List V → Hp → VK → Prop := fun vs H Q => ∃ (a l : Addr) (x : Str) (n : Int), vs = [.ref a] ∧ H a = some (.dK [(.inr x, .ref l)]) ∧ H l = some (.lst [.int n]) ∧ l ≠ sysModules ∧ (PyData.dict [(.str x, .list [.int n])]).showable = true ∧ (PyData.dict [(.str x, .list [.int n])]).shown.length ≤ sizeLine ∧
  Q (.str (PyData.dict [(.str x, .list [.int n])]).shown) H
theorem call_reprD {k : Nat} (hr : Room k X.A) (gd : X.A.guards = some []) : CallR X (.builtin "repr") rReprD := by
  intro pins s σ H xs us Q I r h
  obtain ⟨a, l, x, n, rfl, ha, hl, nl, hs, hz, q⟩ := h
  obtain ⟨u, rfl, ru⟩ := r.one
  cases (show u = Value.ref a from ru)
  obtain ⟨_, nS, vs, rel, o, es, ep, h1, h2, h3, h4, h5, h6⟩ := dk_of I.hok ha
  obtain ⟨its, nn, r2, h7, _⟩ := I.lst hl
  have hu := hr.units
  cases rel with
  | @cons p q ps qs h8 h9 =>
  cases h9
  obtain ⟨k1, v1⟩ := q
  obtain ⟨e1, e2⟩ := h8
  cases (show Sum.inr x = k1 from e1)
  cases (show v1 = Value.ref l from e2)
  obtain ⟨eo, hes, hkey, hval⟩ : ∃ e, es.toList = [e] ∧ keyIs (.inr x) e.key = true ∧ e.val = .ref l := by
    generalize es.toList = ls at h5
    cases h5 with
    | @cons e kv es kvs y1 y2 y3 =>
      cases y3
      exact ⟨e, rfl, y1, y2⟩
  obtain ⟨i0, t0, z, _⟩ | ⟨y, t0, z, ek⟩ := keyIs_shape hkey
  · cases z
  cases z
  obtain ⟨it, rfl, ri⟩ := vals1 r2
  obtain ⟨t1, rfl⟩ := ri
  have r3 : Reads s.heap (.ref l) (.list [.int n]) (l :: ([] ++ [])) := .list h7 rfl rfl (.cons (.int n t1) .nil)
  have r4 : Reads s.heap (.ref a) (.dict [(.str x, .list [.int n])]) (a :: ([] ++ []) ++ ((l :: ([] ++ [])) ++ [])) := by
    refine .dict h1 h2.1 h3 ?_ ?_
    · rw [hes]
      show ReadsAll s.heap [eo.key] [.str x] ([] ++ [])
      rw [ek]
      exact .cons (.str x t0) .nil
    · rw [hes]
      show ReadsAll s.heap [eo.val] [.list [.int n]] ((l :: ([] ++ [])) ++ [])
      rw [hval]
      exact .cons r3 .nil
  have na : sysModules ≠ a := fun y => by
    rw [← y] at nS
    simp at nS
  have dz : (PyData.dict [(PyData.str x, PyData.list [PyData.int n])]).depth ≤ 5 := by simp [PyData.depth, PyData.depthKv, PyData.depthAll]
  refine repr_of_reads' r4 hs (fun _ m => ?_) gd (by omega) (fun _ _ e => e) (fun h' u tk hk => ?_) hz
  · simp only [List.append_nil, List.cons_append, List.nil_append, List.mem_cons, List.not_mem_nil, or_false] at m
    rcases m with y | y
    · exact na y
    · exact nl y.symm
  · exact ⟨.str _, H, I.un (t' := tk) (Un.kept hk) (I.hok.kept hk), ⟨u, rfl⟩, q⟩
/-- repr of data, or of such a dict -/
theorem call_reprA {k : Nat} (hr : Room k X.A) (gd : X.A.guards = some []) : CallR X (.builtin "repr") (fun vs H Q => rRepr X.K vs H Q ∨ rReprD vs H Q) := (call_repr hr gd).or (call_reprD hr gd)
end
end L2
set_option maxRecDepth 100000
set_option maxHeartbeats 2000000
/-! == and != by an own __eq__, both answers -/
namespace L2
open PySem PySem.Spec PyProof.Rows
/-- x == y, x an instance of C with an own __eq__ that promises sp -/
def rOwnEq (K : PySem.W.Frag) (C : Addr) (sp : Sp) (E : XK) : R2 := fun x y H Q => ∃ a dx fs t, x = .ref a ∧ H a = some (.ins C dx fs) ∧ TyE K H y t ∧ PySem.W.notFirst K C t = true ∧ sp [x, y] H (fun v H' => ∃ c, v = .bl c ∧ Q v H') E
section
variable {X : Cx}
theorem op_eqOwn {CX : CXT} {C f : Addr} {fd : FuncData} {ps : List Str} {sp : Sp} {E : XK} {n : Nat} (F : FnOk X.prog X.w X.K X.mg X.base CX n f fd ps sp)
    (hs : PySem.W.findIn X.K (.ref C) "__eq__" = some (some (.ref f))) (hf : PySem.W.isFn X.K (.ref f) = true) (hb : Binds X.K fd ps []) (hx : Passes CX X E) (hr : Room n X.A) : OpR X (compareOp .Eq) (rOwnEq X.K C sp E) := by
  intro pins s σ H x y v u Q I rx ry hq
  obtain ⟨a, dx, fs, t, rfl, ha, ty, nf, hsp⟩ := hq
  cases (show v = Value.ref a from rx)
  obtain ⟨mA, J, _⟩ := ins_get I.hok ha
  obtain ⟨od, J, _⟩ := J.look
  obtain ⟨m, hF⟩ := I.fr
  obtain ⟨P, Z, p, _⟩ := kit_ofE I ry ty
  show wpAny (model X.prog X.w) X.A (richCompare .Eq (.ref a) u) (EP X pins σ Q) X.xe s
  refine PySem.W.cmp_K (op := .Eq) (tb := t) hr.units0 hF I.ok.mod.kin J (Z.ty _ _ I.kIn p) nf hs hf ?_
  have hl := F.len _ _ _ _ hsp
  have r2 : Vals [V.ref a, y] [Value.ref a, u] := .cons rfl (.cons ry .nil)
  refine wpAny_call (codeAny_mono (F.run X.A X.stack s H ⟨[.ref a, u], []⟩ [.ref a, u] [.ref a, y] _ E hr I.env0 (by
    have := hb s [.ref a, u] I.kIn (by simpa using hl)
    simpa using this) r2 hsp) fun r s' hq => ?_)
  cases r with
  | error e => exact hx pins σ H s e s' I hq
  | ok fl =>
    cases fl with
    | ret w =>
      obtain ⟨z, H', I', rz, c, ez, q⟩ := I.after hq
      subst ez
      cases rz
      exact ⟨.bl c, H', I', rfl, q⟩
    | next => exact False.elim hq
    | brk => exact False.elim hq
    | cont => exact False.elim hq
end
end L2
set_option maxRecDepth 100000
set_option maxHeartbeats 2000000
/-! != by an own __eq__ without a __ne__ -/
namespace L2
open PySem PySem.Spec PyProof.Rows PySem.W
theorem ne_bind (self : Value) : bindSpecial (.builtin "object.__ne__") self = pure (.builtin "object.__ne__", [self]) :=
  (Slot.of (T := "object") (name := "__ne__") (owner := "object") (n := "__ne__") (by rw [typeLookup_type, builtinLookup_eq_fast]; kernel_rfl) (by decide +kernel) (by decide +kernel) (by decide +kernel)
    (.inl (by decide +kernel)) (by rw [isSubtype_type]; kernel_rfl)).bind self
section
variable {prog : Program} {w : World} {A A₀ : Around} {E : Value → Shared → Prop} {s : Shared} {K : Frag} {x C L f : Addr} {h₀ : Heap} {m : Str → Option Value} {ox : Obj} {od : Option Obj} {b tb : Value}
theorem ne_body {Q : Fin → Shared → Prop} (hu : A.units < cLine) (X : K.In s.heap) (I : InstAt s.heap x ox C od) (hs : findIn K (.ref C) "__eq__" = some (some (.ref f))) (hf : isFn K (.ref f) = true)
    (h : wpAny (model prog w) A (call (.ref f) [.ref x, b]) (fun v s' => ∃ c, v = .bool c ∧ Q (.done (.ret (.bool (!c)))) s') E s) : wpAny (model prog w) A (Builtin.«object.__ne__» ⟨[.ref x, b], []⟩) Q E s := by
  unfold Builtin.«object.__ne__»
  refine wpAny_bind (wpAny_pure ?_)
  refine wpAny_bind (wpAny_cRoomFor hu ?_)
  refine wpAny_bind (ifBound_K X I hs hf (wpAny_mono h (fun v s' hv => ?_) fun _ _ e => e))
  obtain ⟨c, rfl, q⟩ := hv
  refine wpAny_bind (wpAny_truthy_bool ?_)
  exact wpAny_pure q
theorem cmp_neK {Q : Value → Shared → Prop} (hu : A.units + 1 < cLine) (F : Fr h₀ L s.heap m) (X₀ : K.In h₀) (I : InstAt s.heap x ox C od) (hb : Looks (model prog w) s.heap (typeOf b) tb) (hn : notFirst K C tb = true)
    (hne : findIn K (.ref C) "__ne__" = some (some (.builtin "object.__ne__"))) (hob : subIn K (.ref C) (.type "object") = some true) (hs : findIn K (.ref C) "__eq__" = some (some (.ref f))) (hf : isFn K (.ref f) = true)
    (h : wpAny (model prog w) A.in1 (call (.ref f) [.ref x, b]) (fun v s' => ∃ c, v = .bool c ∧ Q (.bool (!c)) s') E s) : wpAny (model prog w) A (richCompare .NotEq (.ref x) b) Q E s := by
  have X := X₀.keeps F.keep
  have one : wpAny (model prog w) A (tryCompare (.ref x) "__ne__" b) (fun r s' => ∃ v, r = some v ∧ Q v s') E s := by
    unfold tryCompare
    have t2 : Looks (model prog w) s.heap (isInstance (.ref x) (.type "object")) true := I.type.andThen (looks_subIn X hob)
    have body := ne_body (prog := prog) (w := w) (E := E) (A := A.in1) (b := b) (Q := fun fin s' => ∃ v, fin = .done (.ret v) ∧ ∃ c, v = .bool c ∧ Q v s') (by show A.units + 1 < cLine; exact hu) X I hs hf
      (wpAny_mono h (fun v s' hv => by obtain ⟨c, rfl, q⟩ := hv; exact ⟨c, rfl, _, rfl, _, rfl, q⟩) fun _ _ e => e)
    have run : wpAny (model prog w) A (callSpecialIfBound? (.ref x) "__ne__" [b]) (fun r s' => ∃ c, r = some (.bool c) ∧ Q (.bool c) s') E s := by
      simp only [callSpecialIfBound?, bindSpecialIfBound?]
      refine wpAny_holding (wpAny_bind (wpAny_bind (wpAny_bind (I.type.here ((looks_findIn X hne).here ?_)))))
      refine wpAny_bind (wpAny_askSetting (wpAny_ite ?_))
      have fin : wpAny (model prog w) A (call (.builtin "object.__ne__") ([.ref x] ++ [b]) >>= fun v => pure (some v)) (fun r s' => ∃ c, r = some (.bool c) ∧ Q (.bool c) s') E s := by
        refine wpAny_bind (wpAny_call (codeAny_call_builtin (by decide +kernel) PySem.F.cmpEntry_ne (@check_slot (model prog w) _ _ s "object.__ne__" "object" "__ne__" (.ref x) [b] [] _ PySem.F.cmpKind_ne PySem.F.cmpSplit_ne t2 (PySem.F.cmpArgs_ne _ _) ?_)))
        refine wpAny_mono body (fun fin s' hv => ?_) fun _ _ e => e
        obtain ⟨v, rfl, c, rfl, q⟩ := hv
        exact wpAny_pure ⟨c, rfl, q⟩
      split
      · exact wpAny_bind ((Looks.of_pure (ne_bind (.ref x))).here (wpAny_pure (by exact fin)))
      · exact wpAny_tryCatch (wpAny_bind ((Looks.of_pure (ne_bind (.ref x))).here (wpAny_pure (by exact fin))))
    refine wpAny_bind (wpAny_mono run (fun r s' hr => ?_) fun _ _ e => e)
    obtain ⟨c, rfl, q⟩ := hr
    exact wpAny_pure ⟨_, rfl, q⟩
  unfold richCompare
  simp only [oneThing_ref]
  refine wpAny_holding (wpAny_bind (wpAny_cRoomFor (by omega) ?_))
  refine wpAny_bind (I.type.here (wpAny_bind (hb.here ?_)))
  split
  · rename_i q
    have e : subIn K tb (.ref C) = some false := by
      rcases Bool.or_eq_true_iff.mp hn with e | e
      · rw [beq_iff_eq.mp e] at q; simp at q
      · exact beq_iff_eq.mp e
    refine wpAny_bind ((looks_subIn X e).here ?_)
    simp only [Bool.false_eq_true, if_false]
    refine wpAny_bind (wpAny_mono one (fun r s' z => ?_) fun _ _ e => e)
    obtain ⟨v, rfl, hq⟩ := z
    exact wpAny_pure hq
  · refine wpAny_bind (wpAny_pure ?_)
    simp only [Bool.false_eq_true, if_false]
    refine wpAny_bind (wpAny_mono one (fun r s' z => ?_) fun _ _ e => e)
    obtain ⟨v, rfl, hq⟩ := z
    exact wpAny_pure hq
end
/-- x != y, x an instance of C with an own __eq__ that promises sp, and no own __ne__ -/
def rOwnNe (K : PySem.W.Frag) (C : Addr) (sp : Sp) (E : XK) : R2 := fun x y H Q => ∃ a dx fs t, x = .ref a ∧ H a = some (.ins C dx fs) ∧ TyE K H y t ∧ PySem.W.notFirst K C t = true ∧ sp [x, y] H (fun v H' => ∃ c, v = .bl c ∧ Q (.bl (!c)) H') E
section
variable {X : Cx}
theorem op_neOwn {CX : CXT} {C f : Addr} {fd : FuncData} {ps : List Str} {sp : Sp} {E : XK} {n : Nat} (F : FnOk X.prog X.w X.K X.mg X.base CX n f fd ps sp)
    (hne : findIn X.K (.ref C) "__ne__" = some (some (.builtin "object.__ne__"))) (hob : subIn X.K (.ref C) (.type "object") = some true)
    (hs : PySem.W.findIn X.K (.ref C) "__eq__" = some (some (.ref f))) (hf : PySem.W.isFn X.K (.ref f) = true) (hb : Binds X.K fd ps []) (hx : Passes CX X E) (hr : Room (n + 1) X.A) : OpR X (compareOp .NotEq) (rOwnNe X.K C sp E) := by
  intro pins s σ H x y v u Q I rx ry hq
  obtain ⟨a, dx, fs, t, rfl, ha, ty, nf, hsp⟩ := hq
  cases (show v = Value.ref a from rx)
  obtain ⟨mA, J, _⟩ := ins_get I.hok ha
  obtain ⟨od, J, _⟩ := J.look
  obtain ⟨m, hF⟩ := I.fr
  obtain ⟨P, Z, p, _⟩ := kit_ofE I ry ty
  show wpAny (model X.prog X.w) X.A (richCompare .NotEq (.ref a) u) (EP X pins σ Q) X.xe s
  refine cmp_neK (tb := t) (by have := hr.un; omega) hF I.ok.mod.kin J (Z.ty _ _ I.kIn p) nf hne hob hs hf ?_
  have hl := F.len _ _ _ _ hsp
  have r2 : Vals [V.ref a, y] [Value.ref a, u] := .cons rfl (.cons ry .nil)
  have e0 : Env0 X.prog X.w X.K X.mg X.base X.A.in1 X.stack s H := by
    have e := I.env0
    exact ⟨e.frames, e.mod, e.bs, e.bsz, e.funs, e.frf, e.hok, e.bare⟩
  refine wpAny_call (codeAny_mono (F.run X.A.in1 X.stack s H ⟨[.ref a, u], []⟩ [.ref a, u] [.ref a, y] _ E hr.in1 e0 (by
    have := hb s [.ref a, u] I.kIn (by simpa using hl)
    simpa using this) r2 hsp) fun r s' hq => ?_)
  cases r with
  | error e => exact hx pins σ H s e s' I hq
  | ok fl =>
    cases fl with
    | ret w =>
      obtain ⟨z, H', I', rz, c, ez, q⟩ := I.after hq
      subst ez
      cases rz
      exact ⟨c, rfl, .bl (!c), H', I', rfl, q⟩
    | next => exact False.elim hq
    | brk => exact False.elim hq
    | cont => exact False.elim hq
end
end L2
set_option maxRecDepth 100000
set_option maxHeartbeats 2000000
/-! in, len, repr and | by an own class's methods -/
namespace L2
open PySem PySem.Spec PyProof.Rows PySem.W
section
variable {X : Cx}
/-- an own method called -/
theorem own_run {pins : List (Addr × Obj)} {σ : St} {H : Hp} {s : Shared} {A : Around} {CX : CXT} {f : Addr} {fd : FuncData} {ps : List Str} {sp : Sp} {E : XK} {n : Nat} {us : List Value} {vs : List V} {Q : VK} (F : FnOk X.prog X.w X.K X.mg X.base CX n f fd ps sp)
    (hb : Binds X.K fd ps []) (hx : Passes CX X E) (hr : Room n A) (I : Inv X pins σ H s) (e0 : Env0 X.prog X.w X.K X.mg X.base A X.stack s H) (r2 : Vals vs us) (hsp : sp vs H Q E) : wpAny (model X.prog X.w) A (call (.ref f) us) (EP X pins σ Q) X.xe s := by
  have hl := F.len _ _ _ _ hsp
  refine wpAny_call (codeAny_mono (F.run A X.stack s H ⟨us, []⟩ us vs _ E hr e0 (by
    have := hb s us I.kIn (by simpa [← hl] using r2.length.symm)
    simpa using this) r2 hsp) fun r s' hq => ?_)
  cases r with
  | error e => exact hx pins σ H s e s' I hq
  | ok fl =>
    cases fl with
    | ret w =>
      obtain ⟨z, H', I', rz, q⟩ := I.after hq
      exact ⟨z, H', I', rz, q⟩
    | next => exact False.elim hq
    | brk => exact False.elim hq
    | cont => exact False.elim hq
theorem env0_in1 {pins : List (Addr × Obj)} {σ : St} {H : Hp} {s : Shared} (I : Inv X pins σ H s) : Env0 X.prog X.w X.K X.mg X.base X.A.in1 X.stack s H := by
  have e := I.env0
  exact ⟨e.frames, e.mod, e.bs, e.bsz, e.funs, e.frf, e.hok, e.bare⟩
/-- x in y, y an instance of C -/
def rOwnIn (C : Addr) (sp : Sp) (E : XK) (neg : Bool) : R2 := fun x y H Q => ∃ a dx fs, y = .ref a ∧ H a = some (.ins C dx fs) ∧ sp [y, x] H (fun v H' => ∃ c, v = .bl c ∧ Q (.bl (if neg then !c else c)) H') E
variable {CX : CXT} {C f : Addr} {fd : FuncData} {ps : List Str} {sp : Sp} {E : XK} {n : Nat}
theorem op_inOwn (F : FnOk X.prog X.w X.K X.mg X.base CX n f fd ps sp) (hs : findIn X.K (.ref C) "__contains__" = some (some (.ref f))) (hf : isFn X.K (.ref f) = true) (hb : Binds X.K fd ps []) (hx : Passes CX X E) (hr : Room n X.A) : OpR X (compareOp .In) (rOwnIn C sp E false) := by
  intro pins s σ H x y v u Q I rx ry hq
  obtain ⟨a, dx, fs, rfl, ha, hsp⟩ := hq
  cases (show u = Value.ref a from ry)
  obtain ⟨mA, J, _⟩ := ins_get I.hok ha
  obtain ⟨od, J, _⟩ := J.look
  obtain ⟨m, hF⟩ := I.fr
  have r2 : Vals [V.ref a, x] [Value.ref a, v] := .cons rfl (.cons rx .nil)
  refine in_K hF I.ok.mod.kin J hs hf (wpAny_mono (own_run F hb hx hr I I.env0 r2 hsp) (fun w s' hw => ?_) fun _ _ e => e)
  obtain ⟨z, H', I', rz, c, rfl, q⟩ := hw
  cases rz
  exact wpAny_truthy_bool ⟨.bl c, H', I', rfl, q⟩
theorem op_niOwn (F : FnOk X.prog X.w X.K X.mg X.base CX n f fd ps sp) (hs : findIn X.K (.ref C) "__contains__" = some (some (.ref f))) (hf : isFn X.K (.ref f) = true) (hb : Binds X.K fd ps []) (hx : Passes CX X E) (hr : Room n X.A) : OpR X (compareOp .NotIn) (rOwnIn C sp E true) := by
  intro pins s σ H x y v u Q I rx ry hq
  obtain ⟨a, dx, fs, rfl, ha, hsp⟩ := hq
  cases (show u = Value.ref a from ry)
  obtain ⟨mA, J, _⟩ := ins_get I.hok ha
  obtain ⟨od, J, _⟩ := J.look
  obtain ⟨m, hF⟩ := I.fr
  have r2 : Vals [V.ref a, x] [Value.ref a, v] := .cons rfl (.cons rx .nil)
  refine notIn_K hF I.ok.mod.kin J hs hf (wpAny_mono (own_run F hb hx hr I I.env0 r2 hsp) (fun w s' hw => ?_) fun _ _ e => e)
  obtain ⟨z, H', I', rz, c, rfl, q⟩ := hw
  cases rz
  exact wpAny_truthy_bool ⟨.bl (!c), H', I', rfl, q⟩
/-- len(x) -/
def rOwnLen (C : Addr) (sp : Sp) (E : XK) : List V → Hp → VK → Prop := fun vs H Q => ∃ a dx fs, vs = [.ref a] ∧ H a = some (.ins C dx fs) ∧ sp vs H (fun v H' => ∃ c : Int, v = .int c ∧ 0 ≤ c ∧ c < 2 ^ 63 ∧ Q (.int c) H') E
theorem call_lenOwn (F : FnOk X.prog X.w X.K X.mg X.base CX n f fd ps sp) (hs : findIn X.K (.ref C) "__len__" = some (some (.ref f))) (hf : isFn X.K (.ref f) = true) (hb : Binds X.K fd ps []) (hx : Passes CX X E) (hr : Room (n + 1) X.A) : CallR X (.builtin "len") (rOwnLen C sp E) := by
  intro pins s σ H xs us Q I r hq
  obtain ⟨a, dx, fs, rfl, ha, hsp⟩ := hq
  obtain rfl := Vals.ref1 r
  obtain ⟨mA, J, _⟩ := ins_get I.hok ha
  obtain ⟨od, J, _⟩ := J.look
  obtain ⟨m, hF⟩ := I.fr
  have r2 : Vals [V.ref a] [Value.ref a] := .cons rfl .nil
  refine len_K hF I.ok.mod.kin J hs hf (wpAny_mono (own_run F hb hx hr.in1 I (env0_in1 I) r2 hsp) (fun w s' hw => ?_) fun _ _ e => e)
  obtain ⟨z, H', I', rz, c, rfl, c0, c1, q⟩ := hw
  obtain ⟨t, rfl⟩ := rz
  exact ⟨⟨c0, c1⟩, .int c, H', I'.tok _, ⟨_, rfl⟩, q⟩
/-- repr(x) -/
def rOwnRepr (C : Addr) (sp : Sp) (E : XK) : List V → Hp → VK → Prop := fun vs H Q => ∃ a dx fs, vs = [.ref a] ∧ H a = some (.ins C dx fs) ∧ sp vs H (fun v H' => ∃ x, v = .str x ∧ Q (.str x) H') E
theorem call_reprOwn (F : FnOk X.prog X.w X.K X.mg X.base CX n f fd ps sp) (hs : findIn X.K (.ref C) "__repr__" = some (some (.ref f))) (hf : isFn X.K (.ref f) = true) (hb : Binds X.K fd ps []) (hx : Passes CX X E) (hr : Room (n + 1) X.A) : CallR X (.builtin "repr") (rOwnRepr C sp E) := by
  intro pins s σ H xs us Q I r hq
  obtain ⟨a, dx, fs, rfl, ha, hsp⟩ := hq
  obtain rfl := Vals.ref1 r
  obtain ⟨mA, J, _⟩ := ins_get I.hok ha
  obtain ⟨od, J, _⟩ := J.look
  obtain ⟨m, hF⟩ := I.fr
  have r2 : Vals [V.ref a] [Value.ref a] := .cons rfl .nil
  refine repr_K (by have := hr.un; show X.A.units + 1 < cLine; omega) hF I.ok.mod.kin J hs hf (wpAny_mono (own_run F hb hx hr.in1 I (env0_in1 I) r2 hsp) (fun w s' hw => ?_) fun _ _ e => e)
  obtain ⟨z, H', I', rz, x, rfl, q⟩ := hw
  obtain ⟨t, rfl⟩ := rz
  exact ⟨.str x, H', I', ⟨_, rfl⟩, q⟩
/-- x | y of two instances of C -/
def rOwnOr (C : Addr) (sp : Sp) (E : XK) : R2 := fun x y H Q => ∃ a dx fs b dy gs, x = .ref a ∧ y = .ref b ∧ H a = some (.ins C dx fs) ∧ H b = some (.ins C dy gs) ∧ sp [x, y] H Q E
theorem op_orOwn (F : FnOk X.prog X.w X.K X.mg X.base CX n f fd ps sp) (hc : selfFirst X.K C = true) (hs : findIn X.K (.ref C) "__or__" = some (some (.ref f))) (hf : isFn X.K (.ref f) = true) (hb : Binds X.K fd ps []) (hx : Passes CX X E) (hr : Room n X.A) : OpR X (binaryOp .BitOr) (rOwnOr C sp E) := by
  intro pins s σ H x y v u Q I rx ry hq
  obtain ⟨a, dx, fs, b, dy, gs, rfl, rfl, ha, hb', hsp⟩ := hq
  cases (show v = Value.ref a from rx)
  cases (show u = Value.ref b from ry)
  obtain ⟨mA, J, _⟩ := ins_get I.hok ha
  obtain ⟨od, J, _⟩ := J.look
  obtain ⟨mB, J', _⟩ := ins_get I.hok hb'
  obtain ⟨od', J', _⟩ := J'.look
  obtain ⟨m, hF⟩ := I.fr
  have r2 : Vals [V.ref a, V.ref b] [Value.ref a, Value.ref b] := .cons rfl (.cons rfl .nil)
  refine binop_K hF I.ok.mod.kin J J'.type hc hs hf (wpAny_mono (own_run F hb hx hr I I.env0 r2 hsp) (fun w s' hw => ?_) fun _ _ e => e)
  obtain ⟨z, H', I', rz, q⟩ := hw
  have e : EP X pins σ Q w s' := ⟨z, H', I', rz, q⟩
  cases w <;> first | exact e | skip
  · cases z <;> first | exact (nomatch rz) | (obtain ⟨_, h⟩ := rz; cases h) | cases rz
end
end L2
set_option maxRecDepth 100000
set_option maxHeartbeats 4000000
/-! == of two tuples of one length within one model, both answers -/
namespace GQ
open PySem PySem.SeqAt
open AutoSeq1 (wpAny_loadPart')
open MeetsSeq MeetsSeq2 MeetsSeq3 SeqRoads2
section
variable {prog : Program} {w : World} {A : Around} {R : Result → Shared → Prop}
theorem tuple_eqP (l b : Addr) (items items2 : Array Value) (n n2 : Nat) (dd dd2 : Option Addr) (sl sl2 : Array (Option Value)) (hsz : items.size = items2.size) (e : Nat → Bool) {s : Shared}
    (he : ∀ i (h1 : i < items.size) (h2 : i < items2.size), EqP prog w A.in1 s items[i] items2[i] (e i))
    (fin : R (.ok (.ret (.bool ((List.range items.size).all e)))) s) (hl1 : s.heap.get? l = some { cls := .type "tuple", dict := dd, data := .seq items n, slots := sl }) (hb1 : s.heap.get? b = some { cls := .type "tuple", dict := dd2, data := .seq items2 n2, slots := sl2 }) :
    wpAny (model prog w) A.in1 (Builtin.«tuple.__eq__» ⟨[.ref l, .ref b], []⟩) (FinOf prog w A R) (fun e s' => R (.error e) s') s := by
  have f2 := AutoSeq1.sub_tuple_tuple
  have hZ : (items.toList.zip items2.toList).length = items.size := by simp [hsz]
  have no : ∀ i, i < items.size → e i = false → (List.range items.size).all e = false := fun i hi hf => by
    rw [List.all_eq_false]
    exact ⟨i, List.mem_range.mpr hi, by rw [hf]; exact fun c => nomatch c⟩
  have s0 : s = s := rfl
  generalize hs : s = t at he fin hl1 hb1 ⊢
  have hst : s = t := hs
  obtain ⟨hp, g, d, tk, os⟩ := t
  wp_walk using wpAny_loadPart' hl1, wpAny_loadPart' hb1, wpAny_forIn_list _ (fun rest b s' => b.1 = none ∧ ∃ i, rest = (items.toList.zip items2.toList).drop i ∧ i ≤ items.size ∧ (∀ j, j < i → e j = true) ∧ s' = ⟨hp, g, d, tk, os⟩) _
  case turn =>
    rintro ⟨y, x⟩ rest b s' ⟨hb', i, hz, hi, hI, rfl⟩
    have hlt : i < (items.toList.zip items2.toList).length := by
      rcases Nat.lt_or_ge i (items.toList.zip items2.toList).length with h' | h'
      · exact h'
      · rw [List.drop_of_length_le h'] at hz; cases hz
    have h1 : i < items.size := hZ ▸ hlt
    have h2 : i < items2.size := hsz ▸ h1
    rw [List.drop_eq_getElem_cons hlt] at hz
    injection hz with hyx hrest
    have hy : y = items[i] := by have := congrArg Prod.fst hyx; simpa using this
    have hx : x = items2[i] := by have := congrArg Prod.snd hyx; simpa using this
    subst hy hx
    refine wpAny_bind (he i h1 h2 _ _ ?_)
    cases hei : e i with
    | true =>
      wp_walk
      refine ⟨rfl, i + 1, hrest, h1, fun j hj => ?_, rfl⟩
      by_cases c : j = i
      · rw [c]; exact hei
      · exact hI j (by omega)
    | false =>
      have hR := fin
      rw [no i h1 hei] at hR
      wp_walk
      exact hR
  case fin =>
    rintro ⟨b1, b2⟩ s' ⟨hb', i, hz, hi, hI, rfl⟩
    simp only at hb'
    subst hb'
    have hge : items.size ≤ i := by
      rcases Nat.lt_or_ge i (items.toList.zip items2.toList).length with h' | h'
      · rw [List.drop_eq_getElem_cons h'] at hz; cases hz
      · exact hZ ▸ h'
    have hi' : i = items.size := by omega
    have hall : (List.range items.size).all e = true := List.all_eq_true.mpr fun j hj => hI j (by have := List.mem_range.mp hj; omega)
    rw [hall] at fin
    wp_walk
    simpa [Builtin.Tuple.tupleCompareSizes, hsz] using fin
  case h =>
    exact ⟨rfl, 0, rfl, Nat.zero_le _, fun j hj => absurd hj (Nat.not_lt_zero j), rfl⟩
theorem rcP_tuples {A : Around} {s : Shared} {l b : Addr} {items items2 : Array Value} {e : Nat → Bool} (hl : s.heap.IsTuple l items) (hb : s.heap.IsTuple b items2) (hsz : items.size = items2.size) (hu : A.units < cLine)
    (he : ∀ j (h1 : j < items.size) (h2 : j < items2.size), EqP prog w A.in1 s items[j] items2[j] (e j)) (E Q : Value → Shared → Prop) (h : Q (.bool ((List.range items.size).all e)) s) : wpAny (model prog w) A (richCompare .Eq (.ref l) (.ref b)) Q E s := by
  obtain ⟨⟨cls, dd, data, sl⟩, ho, hc, n, hd⟩ := id hl
  obtain ⟨⟨cls2, dd2, data2, sl2⟩, ho2, hc2, n2, hd2⟩ := id hb
  simp only at hc hd hc2 hd2
  subst hc hd hc2 hd2
  refine wpAny_richCompare_same_room (op := .Eq) ⟨_, ho, rfl⟩ ⟨_, ho2, rfl⟩ F.slot_tuple_eq (call_here F.slot_tuple_eq ⟨_, ho, rfl⟩ F.entry_tuple_eq (F.args_tuple_eq_2 _ _) ?_) hu
  exact tuple_eqP (R := wants (fun v s' => v ≠ .notImplemented ∧ Q v s') E) l b items items2 n n2 dd dd2 sl sl2 hsz e he ⟨(fun x => nomatch x), h⟩ ho ho2
end
end GQ
set_option maxRecDepth 100000
set_option maxHeartbeats 2000000
/-! == of nested dicts and tuples, both answers -/
namespace L2
open PySem PySem.Spec PyProof.Rows
/-- the pairs of one dict looked up in the other -/
inductive HitsB (F : V → V → Bool → Prop) (ls : List (Key × V)) : List (Key × V) → Bool → Prop
  | nil : HitsB F ls [] true
  | miss {k : Key} {v : V} {r : List (Key × V)} : valV ls k = none → HitsB F ls ((k, v) :: r) false
  | hit {k : Key} {v u : V} {r : List (Key × V)} {e b : Bool} : valV ls k = some u → F v u e → HitsB F ls r b → HitsB F ls ((k, v) :: r) (e && b)
/-- items side by side -/
inductive PrsB (F : V → V → Bool → Prop) : List V → List V → List Bool → Prop
  | nil : PrsB F [] [] []
  | cons {x y : V} {xs ys : List V} {b : Bool} {bs : List Bool} : F x y b → PrsB F xs ys bs → PrsB F (x :: xs) (y :: ys) (b :: bs)
/-- two tuples of one length, or two dicts -/
def EqRB (K : PySem.W.Frag) (H : Hp) (F : V → V → Bool → Prop) (x y : V) (b : Bool) : Prop :=
  (∃ a c xs ys bs, x = .ref a ∧ y = .ref c ∧ SqT K H a xs ∧ SqT K H c ys ∧ PrsB F xs ys bs ∧ b = bs.all id) ∨
    ∃ a c ks ls r, x = .ref a ∧ y = .ref c ∧ H a = some (.dK ks) ∧ H c = some (.dK ls) ∧ (ks.length = ls.length → HitsB F ls ks r) ∧ b = (ks.length == ls.length && r)
/-- of nesting below n -/
def EqVB (K : PySem.W.Frag) (H : Hp) : Nat → V → V → Bool → Prop
  | 0 => fun _ _ _ => False
  | n + 1 => fun x y b => (flatV x = true ∧ flatV y = true ∧ b = eqV x y) ∨ (∃ a, x = .ref a ∧ y = .ref a ∧ b = true) ∨ ((∀ a, x = .ref a → y = .ref a → b = true) ∧ EqRB K H (EqVB K H n) x y b)
theorem PrsB.run {P : Program} {w : World} {A : Around} {s : Shared} {F : V → V → Bool → Prop} (ih : ∀ x y b v u, F x y b → RelV x v → RelV y u → SeqAt.EqP P w A s v u b) {xs ys : List V} {bs : List Bool} (hp : PrsB F xs ys bs) :
    ∀ {us ws : List Value}, Vals xs us → Vals ys ws → us.length = ws.length ∧ bs.length = us.length ∧ ∀ j (h1 : j < us.length) (h2 : j < ws.length), SeqAt.EqP P w A s us[j] ws[j] (bs.getD j true) := by
  induction hp with
  | nil =>
    intro us ws r1 r2
    cases r1
    cases r2
    exact ⟨rfl, rfl, fun j h1 h2 => absurd h1 (Nat.not_lt_zero j)⟩
  | cons h _ k =>
    intro us ws r1 r2
    cases r1 with
    | cons a1 b1 =>
      cases r2 with
      | cons a2 b2 =>
        obtain ⟨e1, e2, k⟩ := k b1 b2
        refine ⟨congrArg (· + 1) e1, congrArg (· + 1) e2, fun j h1 h2 => ?_⟩
        cases j with
        | zero => exact ih _ _ _ _ _ h a1 a2
        | succ j => exact k j (Nat.lt_of_succ_lt_succ h1) (Nat.lt_of_succ_lt_succ h2)
theorem HitsB.run {P : Program} {w : World} {A : Around} {s : Shared} {F : V → V → Bool → Prop} (ih : ∀ x y b v u, F x y b → RelV x v → RelV y u → SeqAt.EqP P w A s v u b) {ls : List (Key × V)} {vb : List (Key × Value)} (rb : KV ls vb) {ks : List (Key × V)} {b : Bool}
    (hp : HitsB F ls ks b) : ∀ {va : List (Key × Value)}, KV ks va → PySem.W.KeqHitsP P w A s vb va b := by
  induction hp with
  | nil =>
    intro va ra
    cases ra
    exact .nil
  | @miss k v r hn =>
    intro va ra
    cases ra with
    | @cons p q ps qs h t =>
      obtain ⟨h1, h2⟩ := h
      obtain ⟨key, w'⟩ := q
      have h1' : k = key := h1
      have rr : RelO none (valueAt vb k) := by rw [← hn]; exact rb.val k
      rw [h1'] at rr
      exact .miss (RelO.none_of rr)
  | @hit k v u r e b hu hf _ kk =>
    intro va ra
    cases ra with
    | @cons p q ps qs h t =>
      obtain ⟨h1, h2⟩ := h
      obtain ⟨key, w'⟩ := q
      have h1' : k = key := h1
      have rr : RelO (some u) (valueAt vb k) := by rw [← hu]; exact rb.val k
      obtain ⟨y, hy, ry⟩ := rr.some_of
      rw [h1'] at hy
      exact .hit hy (ih _ _ _ _ _ hf h2 ry) (kk t)
section
variable {X : Cx} {pins : List (Addr × Obj)} {σ : St} {H : Hp} {s : Shared}
theorem all_getD (bs : List Bool) : (List.range bs.length).all (fun j => bs.getD j true) = bs.all id := by
  induction bs with
  | nil => rfl
  | cons b bs ih =>
    rw [List.length_cons, List.range_succ_eq_map, List.all_cons, List.all_map]
    show (b && (List.range bs.length).all _) = (b && bs.all id)
    rw [← ih]
    rfl
theorem eqRB_run (I : Inv X pins σ H s) {A : Around} {F : V → V → Bool → Prop} (hu : A.units < cLine) (ih : ∀ x y b v u, F x y b → RelV x v → RelV y u → SeqAt.EqP X.prog X.w A.in1 s v u b) {x y : V} {b : Bool} {v u : Value} (h : EqRB X.K H F x y b) (rx : RelV x v) (ry : RelV y u)
    (E Q : Value → Shared → Prop) (q : Q (.bool b) s) : wpAny (model X.prog X.w) A (richCompare .Eq v u) Q E s := by
  rcases h with ⟨a, c, xs, ys, bs, rfl, rfl, ha, hb, hp, rfl⟩ | ⟨a, c, ks, ls, r, rfl, rfl, ha, hb, hp, rfl⟩
  · cases (show v = Value.ref a from rx)
    cases (show u = Value.ref c from ry)
    obtain ⟨us, r1, p1, _⟩ := I.tuple ha
    obtain ⟨ws, r2, p2, _⟩ := I.tuple hb
    obtain ⟨e1, e2, k⟩ := hp.run ih r1 r2
    refine GQ.rcP_tuples (e := fun j => bs.getD j true) p1 p2 (by simpa using e1) hu (fun j h1 h2 => ?_) E Q ?_
    · have := k j (by simpa using h1) (by simpa using h2)
      simpa using this
    · rw [List.size_toArray, ← e2, all_getD]
      exact q
  · cases (show v = Value.ref a from rx)
    cases (show u = Value.ref c from ry)
    obtain ⟨_, ya, va, ra, da⟩ := (show ObjOk X.prog X.w H s.heap a (.dK ks) from I.hok a _ ha)
    obtain ⟨_, yb, vb, rb, db⟩ := (show ObjOk X.prog X.w H s.heap c (.dK ls) from I.hok c _ hb)
    refine PySem.W.rcP_dicts (knd := mixKind X.prog X.w) (r := r) ya yb da db hu (fun e => (hp (by rw [ra.length, rb.length]; exact e)).run ih rb ra) E Q ?_
    have e1 := ra.length
    have e2 := rb.length
    rw [← e1, ← e2]
    exact q
theorem eqVB_run (I : Inv X pins σ H s) : ∀ (n : Nat) (A : Around), A.units + n < cLine → ∀ (x y : V) (b : Bool) (v u : Value), EqVB X.K H n x y b → RelV x v → RelV y u → SeqAt.EqP X.prog X.w A s v u b
  | 0, _, _, _, _, _, _, _, h, _, _ => (show False from h).elim
  | n + 1, A, hu, x, y, b, v, u, h, rx, ry => by
    rcases h with ⟨f1, f2, rfl⟩ | ⟨a, rfl, rfl, rfl⟩ | ⟨same, h⟩
    · exact (eqAt_V rx ry f1 f2).eqP
    · cases (show v = Value.ref a from rx)
      cases (show u = Value.ref a from ry)
      exact (SeqAt.EqAt.same _).eqP
    · have step := eqRB_run I (A := A) (by omega) (eqVB_run I n A.in1 (by show A.units + 1 + n < cLine; omega)) h rx ry
      obtain ⟨a, c, rfl, rfl⟩ : ∃ a c, x = .ref a ∧ y = .ref c := by
        rcases h with ⟨a, c, _, _, _, e1, e2, _⟩ | ⟨a, c, _, _, _, e1, e2, _⟩
        · exact ⟨a, c, e1, e2⟩
        · exact ⟨a, c, e1, e2⟩
      cases (show v = Value.ref a from rx)
      cases (show u = Value.ref c from ry)
      by_cases e : a = c
      · subst e
        rw [same a rfl rfl]
        exact (SeqAt.EqAt.same _).eqP
      · exact SeqAt.eqP_refs e step
end
section
variable {X : Cx}
/-- a == b, dicts or tuples of one length -/
def rEqVB (K : PySem.W.Frag) : R2 := fun x y H Q => ∃ n b, n ≤ 60 ∧ EqRB K H (EqVB K H n) x y b ∧ Q (.bl b) H
theorem op_eqVB (hu : X.A.units + 64 < cLine) : OpR X (compareOp .Eq) (rEqVB X.K) := by
  intro pins s σ H x y v u Q I rx ry h
  obtain ⟨n, b, hn, h, q⟩ := h
  exact eqRB_run I (A := X.A) (by omega) (eqVB_run I n X.A.in1 (by show X.A.units + 1 + n < cLine; omega)) h rx ry _ _ ⟨.bl b, H, I, rfl, q⟩
end
end L2
set_option maxRecDepth 100000
set_option maxHeartbeats 2000000
namespace Fm
open PySem PySem.Spec PyProof.Rows L2
def leaf : D → List Int
  | .int u => [u]
  | .tup (_ :: r) => leaves r
  | _ => []
theorem leaves_app (a b : List D) : leaves (a ++ b) = leaves a ++ leaves b := by
  unfold leaves
  rw [flats_app, List.filterMap_append]
theorem leaves_one (d : D) : leaves [d] = leaf d := by
  unfold leaves
  simp only [flats, List.append_nil]
  rw [flat_eq]
  cases d with
  | int u => rfl
  | tup ds => cases ds <;> rfl
  | _ => rfl
theorem leaves_len (ds : List D) : (leaves ds).length ≤ sizes ds := by
  have h1 := List.length_filterMap_le intOf (flats ds)
  have h2 := flats_len ds
  unfold leaves
  omega
def opOf : D → Nat
  | .tup (_ :: r) => 1 + opsOf r
  | .tup [] => 1
  | _ => 0
theorem ops_app (a b : List D) : opsOf (a ++ b) = opsOf a + opsOf b := by
  unfold opsOf
  rw [flats_app, List.filter_append, List.length_append]
theorem ops_one (d : D) : opsOf [d] = opOf d := by
  unfold opsOf
  simp only [flats, List.append_nil]
  rw [flat_eq]
  cases d with
  | tup ds =>
    cases ds with
    | nil => rfl
    | cons x r =>
      simp only [parts, List.filter_cons, isT, if_true, List.length_cons, opOf, opsOf]
      omega
  | _ => rfl
theorem ops_sum (ds : List D) : ((ds.map fun d => (opOf d : Int))).sum = (opsOf ds : Int) := by
  induction ds with
  | nil => rfl
  | cons d r ih =>
    have e : opsOf (d :: r) = opOf d + opsOf r := by
      rw [← ops_one, ← ops_app]
      rfl
    rw [List.map_cons, List.sum_cons, ih, e]
    omega
theorem dvl_intsOf {H : Hp} : ∀ {ns : List Int} {zs : List V}, DvL H zs (ns.map D.int) → zs = ns.map V.int
  | [], _, h => by cases h; rfl
  | n :: r, _, h => by
    cases h with
    | cons a b =>
      cases a
      rw [dvl_intsOf b]
      rfl
/-- _law_leaves -/
def spLeaves (K : PySem.W.Frag) (m : Nat) : Sp := fun vs H Q _ => ∃ a us ds, vs = [.ref a] ∧ (SqL K H a us ∨ SqT K H a us) ∧ DvL H us ds ∧ (∀ d ∈ ds, Tm d) ∧ deeps ds < m ∧ sizes ds ≤ 100000 ∧
  ∀ l H', Same H H' → H l = none → H' l = some (.lst ((leaves ds).map V.int)) → Q (.ref l) H'
/-- _law_size -/
def spLSize (K : PySem.W.Frag) (m : Nat) : Sp := fun vs H Q _ => ∃ a us ds, vs = [.ref a] ∧ (SqL K H a us ∨ SqT K H a us) ∧ DvL H us ds ∧ (∀ d ∈ ds, Tm d) ∧ deeps ds < m ∧ sizes ds ≤ 100000 ∧ ∀ H', Same H H' → Q (.int (opsOf ds : Nat)) H'
theorem inV_ints (u : Int) (us : List Int) : inV (.int u) (us.map V.int) = decide (u ∈ us) := by
  induction us with
  | nil => rfl
  | cons v r ih =>
    have e : inV (.int u) ((v :: r).map V.int) = ((v == u) || inV (.int u) (r.map V.int)) := rfl
    rw [e, ih, Bool.eq_iff_iff]
    simp only [Bool.or_eq_true, beq_iff_eq, decide_eq_true_iff, List.mem_cons]
    constructor
    · rintro (h | h)
      · exact .inl h.symm
      · exact .inr h
    · rintro (h | h)
      · exact .inl h.symm
      · exact .inr h
theorem flat_ints (us : List Int) : (us.map V.int).all flatV = true := by
  induction us with
  | nil => rfl
  | cons v r ih => rw [List.map_cons, List.all_cons, ih]; rfl
theorem addI_nodup {us : List Int} {u : Int} (h : us.Nodup) : (addI us u).Nodup := by
  unfold addI
  split
  · exact h
  · rename_i m
    rw [List.nodup_append]
    refine ⟨h, by simp, ?_⟩
    intro a ha b hb
    simp at hb
    subst hb
    rintro rfl
    exact m ha
theorem foldl_addI_nodup (ls : List Int) : ∀ {us : List Int}, us.Nodup → (ls.foldl addI us).Nodup := by
  induction ls with
  | nil => exact fun h => h
  | cons u r ih => exact fun h => ih (addI_nodup h)
theorem firstsOf_nodup (ds : List D) : (firstsOf ds).Nodup := foldl_addI_nodup _ List.nodup_nil
theorem merge_ord : ∀ (us pre : List Int), (pre ++ us).Nodup → mergeK (ordK pre 0) (ordK us pre.length) = ordK (pre ++ us) 0
  | [], pre, _ => by rw [List.append_nil]; rfl
  | u :: r, pre, h => by
    have nu : u ∉ pre := fun m => by
      rw [List.nodup_append] at h
      exact h.2.2 u m u List.mem_cons_self rfl
    have e1 : valV (ordK pre 0) (.inl u) = none := by rw [ordK_val, if_neg nu]
    have e2 : mergeK (ordK pre 0) (ordK (u :: r) pre.length) = mergeK (putK (ordK pre 0) (.inl u) (.int (pre.length : Int))) (ordK r (pre.length + 1)) := rfl
    have e3 : ordK pre 0 ++ [(.inl u, .int (pre.length : Int))] = ordK (pre ++ [u]) 0 := by rw [ordK_app, Nat.zero_add]
    have e4 : pre.length + 1 = (pre ++ [u]).length := by simp
    rw [e2, putK_new _ e1, e3, e4, merge_ord r (pre ++ [u]) (by rw [List.append_assoc]; exact h), List.append_assoc]
    rfl
theorem walk_rangeA {n : Nat} : Walk (Itr 0 n) ((List.range n).map fun i : Nat => V.int (i : Int)).length (fun _ => True) (YAt ((List.range n).map fun i : Nat => V.int (i : Int))) := by
  rw [List.length_map, List.length_range]
  refine walk_range.mono (fun _ h => h) fun i H x H' hi _ ⟨e, y⟩ => ⟨e, ?_⟩
  rw [List.getElem?_map, List.getElem?_range hi, y]
  show some (V.int (i : Int)) = some (.int (0 + (i : Int)))
  rw [Int.zero_add]
/-- a list of pairs as a dict's entries -/
theorem dvl_pairs {K : PySem.W.Frag} {H : Hp} : ∀ {us : List Int} {n : Nat} {zs : List V}, DvL H zs ((us.zipIdx n).map fun p => D.tup [.int p.1, .int (p.2 : Int)]) → ∃ ps : List Addr, zs = ps.map V.ref ∧ Paired (fun p kv => SqT K H p [kV kv.1, kv.2]) ps (ordK us n)
  | [], n, zs, h => by cases h; exact ⟨[], rfl, .nil⟩
  | u :: r, n, zs, h => by
    rw [List.zipIdx_cons, List.map_cons] at h
    cases h with
    | cons a b =>
      obtain ⟨ps, rfl, h2⟩ := dvl_pairs b
      cases a with
      | @tup p xs _ h3 h4 =>
      cases h4 with
      | cons a1 b1 =>
      cases b1 with
      | cons a2 b2 =>
      cases a1
      cases a2
      cases b2
      exact ⟨p :: ps, rfl, .cons (SqT.of h3) h2⟩
def pairAt (us : List Int) (d : D) : D := .tup [.int (us.getD (match d with | .int i => i.toNat | _ => 0) 0), d]
theorem pairs_eq (us : List Int) : ((List.range us.length).map fun i : Nat => D.int (i : Int)).map (pairAt us) = (us.zipIdx 0).map fun p => D.tup [.int p.1, .int (p.2 : Int)] := by
  apply List.ext_getElem?
  intro i
  rw [List.getElem?_map, List.getElem?_map, List.getElem?_map, List.getElem?_zipIdx]
  by_cases h : i < us.length
  · rw [List.getElem?_range h, List.getElem?_eq_getElem h]
    simp only [Option.map_some, pairAt, Int.toNat_natCast, Nat.zero_add]
    rw [List.getD_eq_getElem?_getD, List.getElem?_eq_getElem h]
    rfl
  · rw [List.getElem?_eq_none (by rw [List.length_range]; omega), List.getElem?_eq_none (by omega)]
    rfl
theorem pairAt_get {us : List Int} {i : Nat} (h : i < us.length) : pairAt us (.int (i : Int)) = .tup [.int us[i], .int (i : Int)] := by
  simp only [pairAt, Int.toNat_natCast]
  rw [List.getD_eq_getElem?_getD, List.getElem?_eq_getElem h]
  rfl
theorem mem_flats {d e : D} {ds : List D} (hd : d ∈ ds) (h : e ∈ flat d) : e ∈ flats ds := by
  induction ds with
  | nil => cases hd
  | cons c r ih =>
    simp only [flats, List.mem_append]
    rcases List.mem_cons.mp hd with rfl | hd
    · exact .inl h
    · exact .inr (ih hd)
/-- _law_numbered -/
def spLNum (K : PySem.W.Frag) (m : Nat) : Sp := fun vs H Q _ => ∃ a us ds, vs = [.ref a] ∧ SqL K H a us ∧ DvL H us ds ∧ (∀ d ∈ ds, Tm d) ∧ deeps ds < m ∧ sizes ds ≤ 100000 ∧
  ∀ l H' ws, Same H H' → H l = none → H' l = some (.lst ws) → DvL H' ws (puts (numF ds) ds) → Q (.ref l) H'
/-- unknowns from 0 on, below n -/
def Unk (n : Int) (d : D) : Prop := ∀ u, D.int u ∈ flat d → 0 ≤ u ∧ u < n
theorem Unk.int {n i : Int} (h0 : 0 ≤ i) (h1 : i < n) : Unk n (.int i) := fun u hu => by
  simp [flat] at hu
  subst hu
  exact ⟨h0, h1⟩
theorem flats_mem {e : D} {ds : List D} (h : e ∈ flats ds) : ∃ d ∈ ds, e ∈ flat d := by
  induction ds with
  | nil => simp [flats] at h
  | cons c r ih =>
    simp only [flats, List.mem_append] at h
    rcases h with h | h
    · exact ⟨c, List.mem_cons_self, h⟩
    · obtain ⟨d, h1, h2⟩ := ih h
      exact ⟨d, List.mem_cons_of_mem _ h1, h2⟩
theorem Unk.tup {n : Int} {x : Str} {ds : List D} (h : ∀ d ∈ ds, Unk n d) : Unk n (.tup (.str x :: ds)) := fun u hu => by
  have e : flat (.tup (.str x :: ds)) = .tup (.str x :: ds) :: flats ds := by simp [flat, flatT]
  rw [e] at hu
  rcases List.mem_cons.mp hu with z | hu
  · cases z
  · obtain ⟨d, h1, h2⟩ := flats_mem hu
    exact h d h1 u h2
theorem Unk.mono {n m : Int} {d : D} (h : Unk n d) (k : n ≤ m) : Unk m d := fun u hu => let ⟨a, b⟩ := h u hu; ⟨a, by omega⟩
def spTermU (m : Nat) : Sp := fun vs H Q _ => ∃ (b p nm : Addr) (xs : List Str) (many : Int) (k : Nat) (deep : Int), vs = [.ref b, .ref nm, .int many, .int deep] ∧ deep = (k : Int) ∧ Bag b p H ∧ Names nm b H xs ∧ 0 < many ∧ many ≤ 1000 ∧ k < m ∧ k ≤ 100 ∧
  ∀ v H' d, Go b p H H' → Dv (newof H H') v d → Tm d → Sized k d → Unk many d → Q v H'
/-- _law_great -/
def spGreat : Sp := fun vs H Q _ => ∃ (b p nm : Addr) (xs : List Str), vs = [.ref b, .ref nm] ∧ Bag b p H ∧ Names nm b H xs ∧
  ∀ v H' d, Go b p H H' → Dv (newof H H') v d → Tm d → d.deep ≤ 30 → d.size ≤ 3000 → Unk 5 d → Q v H'
end Fm
set_option maxRecDepth 100000
set_option maxHeartbeats 2000000
/-! Fm: what data are as Python's values, and how long they are shown. -/
namespace Fm
open PySem PySem.Spec PyProof.Rows L2
mutual
def pdOf : D → PyData
  | .non => .none
  | .bl b => .bool b
  | .int i => .int i
  | .str x => .str x
  | .tup ds => .tuple (pdsOf ds)
  | .lst ds => .list (pdsOf ds)
  | .dic => .none
def pdsOf : List D → List PyData
  | [] => []
  | d :: r => pdOf d :: pdsOf r
end
mutual
theorem dp_pd {K : PySem.W.Frag} {H : Hp} : ∀ (d : D) (v : V), Dv H v d → noDic d = true → Dp K H v (pdOf d) ∧ (pdOf d).canLay0 = true
  | .non, _, h, _ => by cases h; exact ⟨.non, rfl⟩
  | .bl _, _, h, _ => by cases h; exact ⟨.bl _, rfl⟩
  | .int _, _, h, _ => by cases h; exact ⟨.int _, rfl⟩
  | .str _, _, h, _ => by
    cases h with
    | str _ o => exact ⟨.str _, by simpa [pdOf, PyData.canLay0] using o⟩
  | .tup ds, _, h, n => by
    cases h with
    | tup a b =>
      obtain ⟨h1, h2⟩ := dps_pd ds _ b (by simpa [noDic] using n)
      exact ⟨.tup (SqT.of a) h1, by simpa [pdOf, PyData.canLay0] using h2⟩
  | .lst ds, _, h, n => by
    cases h with
    | lst a b =>
      obtain ⟨h1, h2⟩ := dps_pd ds _ b (by simpa [noDic] using n)
      exact ⟨.lst (SqL.of a) h1, by simpa [pdOf, PyData.canLay0] using h2⟩
  | .dic, _, _, n => by simp [noDic] at n
theorem dps_pd {K : PySem.W.Frag} {H : Hp} : ∀ (ds : List D) (vs : List V), DvL H vs ds → noDics ds = true → DpAll K H vs (pdsOf ds) ∧ PyData.canLayAll0 (pdsOf ds) = true
  | [], _, h, _ => by cases h; exact ⟨.nil, by simp [pdsOf, PyData.canLayAll0]⟩
  | d :: ds, _, h, n => by
    cases h with
    | cons a b =>
      have n' : noDic d = true ∧ noDics ds = true := by simpa [noDics] using n
      obtain ⟨h1, h2⟩ := dp_pd d _ a n'.1
      obtain ⟨h4, h5⟩ := dps_pd ds _ b n'.2
      exact ⟨.cons h1 h4, by simp [pdsOf, PyData.canLayAll0, h2, h5]⟩
end
mutual
theorem pd_depth : ∀ d : D, (pdOf d).depth ≤ d.deep + 1
  | .non => by simp [pdOf, PyData.depth]
  | .bl _ => by simp [pdOf, PyData.depth]
  | .int _ => by simp [pdOf, PyData.depth]
  | .str _ => by simp [pdOf, PyData.depth]
  | .dic => by simp [pdOf, PyData.depth]
  | .tup ds => by
    have := pds_depth ds
    simp only [pdOf, PyData.depth, D.deep]
    omega
  | .lst ds => by
    have := pds_depth ds
    simp only [pdOf, PyData.depth, D.deep]
    omega
theorem pds_depth : ∀ ds : List D, PyData.depthAll (pdsOf ds) ≤ deeps ds + 1
  | [] => by simp [pdsOf, PyData.depthAll]
  | d :: r => by
    have h1 := pd_depth d
    have h2 := pds_depth r
    simp only [pdsOf, PyData.depthAll, deeps]
    omega
end
mutual
/-- the ints in data -/
def intsIn : D → List Int
  | .int i => [i]
  | .tup ds => intsOf ds
  | .lst ds => intsOf ds
  | _ => []
def intsOf : List D → List Int
  | [] => []
  | d :: r => intsIn d ++ intsOf r
end
/-- ints of at most so many bits, and no longer shown than B -/
def Short (B bits : Nat) (i : Int) : Prop := i.natAbs.log2 + 1 ≤ bits ∧ bits ≤ 1900 ∧ (PyData.shown (.int i)).length ≤ B
mutual
theorem pd_short {B bits : Nat} : ∀ d : D, (∀ i ∈ intsIn d, Short B bits i) → (pdOf d).intsShort B = true ∧ (pdOf d).showable = true ∧ (pdOf d).weight + 1 ≤ 2 * d.size + bits * (intsIn d).length
  | .non, _ => by
    simp [pdOf, PyData.intsShort, PyData.showable, PyData.weight, D.size]
    omega
  | .bl _, _ => by
    simp [pdOf, PyData.intsShort, PyData.showable, PyData.weight, D.size]
    omega
  | .dic, _ => by
    simp [pdOf, PyData.intsShort, PyData.showable, PyData.weight, D.size]
    omega
  | .str x, _ => by
    refine ⟨by simp [pdOf, PyData.intsShort], by simp [pdOf, PyData.showable], ?_⟩
    simp only [pdOf, PyData.weight, D.size]
    have : x.cps.size = x.length := rfl
    omega
  | .int i, h => by
    have := h i (by simp [intsIn])
    obtain ⟨h1, h2, h3⟩ := this
    refine ⟨by simpa only [pdOf, PyData.intsShort, decide_eq_true_eq] using h3, ?_, ?_⟩
    · simp only [pdOf, PyData.showable, decide_eq_true_eq]
      omega
    · simp only [pdOf, PyData.weight, D.size, intsIn, List.length_singleton]
      split <;> omega
  | .tup ds, h => by
    obtain ⟨h1, h2, h3⟩ := pds_short ds (by simpa [intsIn] using h)
    refine ⟨by simpa only [pdOf, PyData.intsShort] using h1, by simpa only [pdOf, PyData.showable] using h2, ?_⟩
    have h4 : PyData.weight (pdOf (.tup ds)) = PyData.weightAll (pdsOf ds) := rfl
    have h5 : intsIn (.tup ds) = intsOf ds := by simp [intsIn]
    rw [h4, h5]
    simp only [D.size]
    omega
  | .lst ds, h => by
    obtain ⟨h1, h2, h3⟩ := pds_short ds (by simpa [intsIn] using h)
    refine ⟨by simpa only [pdOf, PyData.intsShort] using h1, by simpa only [pdOf, PyData.showable] using h2, ?_⟩
    have h4 : PyData.weight (pdOf (.lst ds)) = PyData.weightAll (pdsOf ds) := rfl
    have h5 : intsIn (.lst ds) = intsOf ds := by simp [intsIn]
    rw [h4, h5]
    simp only [D.size]
    omega
theorem pds_short {B bits : Nat} : ∀ ds : List D, (∀ i ∈ intsOf ds, Short B bits i) → PyData.intsShortAll B (pdsOf ds) = true ∧ PyData.showableAll (pdsOf ds) = true ∧ PyData.weightAll (pdsOf ds) ≤ 2 * sizes ds + bits * (intsOf ds).length
  | [], _ => by simp [pdsOf, PyData.intsShortAll, PyData.showableAll, PyData.weightAll]
  | d :: r, h => by
    obtain ⟨a1, a2, a3⟩ := pd_short d fun i hi => h i (by simp [intsOf, hi])
    obtain ⟨b1, b2, b3⟩ := pds_short r fun i hi => h i (by simp [intsOf, hi])
    refine ⟨by simp [pdsOf, PyData.intsShortAll, a1, b1], by simp [pdsOf, PyData.showableAll, a2, b2], ?_⟩
    have := size_pos d
    simp only [pdsOf, PyData.weightAll, sizes, intsOf, List.length_append, Nat.mul_add]
    omega
end
/-- what is asked of data that are compared and shown -/
theorem pd_ok {B bits : Nat} (hB : 8 ≤ B) {d : D} {K : PySem.W.Frag} {H : Hp} {v : V} (h : Dv H v d) (hs : ∀ i ∈ intsIn d, Short B bits i) (nd : noDic d = true) (dz : d.deep ≤ 58) (hz : (B + 2) * (2 * d.size + bits * (intsIn d).length) + B ≤ 16000000) :
    Dp K H v (pdOf d) ∧ SeqAt.shaped (pdOf d) = true ∧ (pdOf d).showable = true ∧ (pdOf d).hasDict = false ∧ (pdOf d).depth ≤ 60 ∧ (pdOf d).shown.length ≤ sizeLine := by
  obtain ⟨h1, h2⟩ := dp_pd (K := K) d v h nd
  obtain ⟨a1, a2, a3⟩ := pd_short d hs
  have dd := pd_depth d
  refine ⟨h1, ?_, a2, PyData.hasDict_of_canLay _ h2, by omega, ?_⟩
  · unfold SeqAt.shaped
    simp [h2]
    omega
  · have e := PyData.shown_le B hB (pdOf d) (PyData.leavesShort_of_canLay0 B _ h2 a1)
    have e2 : (B + 2) * (pdOf d).weight ≤ (B + 2) * (2 * d.size + bits * (intsIn d).length) := Nat.mul_le_mul_left _ (by omega)
    have e3 : sizeLine = 16777216 := by decide
    omega
theorem short_small {i : Int} (h0 : 0 ≤ i) (h1 : i < 1000000) : Short 13 20 i := by
  have e12 : (10 : Nat) ^ 12 = 1000000000000 := by decide
  refine ⟨?_, by decide, PyData.shown_int_le (by omega)⟩
  have : i.natAbs.log2 < 20 := by
    by_cases z : i.natAbs = 0
    · rw [z]; decide
    · rw [Nat.log2_lt z]
      have : (2 : Nat) ^ 20 = 1048576 := by decide
      omega
  omega
theorem short_far : Short 41 130 (10 ^ 39) := by
  refine ⟨by decide +kernel, by decide, by decide +kernel⟩
theorem Short.wide {B bits B' bits' : Nat} {i : Int} (h : Short B bits i) (h1 : B ≤ B') (h2 : bits ≤ bits') (h3 : bits' ≤ 1900) : Short B' bits' i := ⟨Nat.le_trans h.1 h2, h3, Nat.le_trans h.2.2 h1⟩
/-- unknowns below n, of at most so many places -/
def UnkL (n : Int) (k : Nat) (d : D) : Prop := Unk n d ∧ (intsIn d).length ≤ 3 ^ k
theorem UnkL.int {n i : Int} {k : Nat} (h0 : 0 ≤ i) (h1 : i < n) : UnkL n k (.int i) := ⟨Unk.int h0 h1, by
  have : 1 ≤ 3 ^ k := Nat.one_le_pow _ _ (by decide)
  simpa [intsIn] using this⟩
theorem intsOf_len {ds : List D} {m : Nat} (h : ∀ d ∈ ds, (intsIn d).length ≤ m) : (intsOf ds).length ≤ ds.length * m := by
  induction ds with
  | nil => simp [intsOf]
  | cons d r ih =>
    have h1 := h d List.mem_cons_self
    have h2 := ih fun e he => h e (List.mem_cons_of_mem _ he)
    simp only [intsOf, List.length_append, List.length_cons, Nat.add_mul, Nat.one_mul]
    omega
theorem UnkL.tup {n : Int} {k : Nat} {x : Str} {ds : List D} (l : ds.length ≤ 3) (h : ∀ d ∈ ds, UnkL n k d) : UnkL n (k + 1) (.tup (.str x :: ds)) := by
  refine ⟨Unk.tup fun d hd => (h d hd).1, ?_⟩
  have h1 := intsOf_len fun d hd => (h d hd).2
  have h2 : ds.length * 3 ^ k ≤ 3 * 3 ^ k := Nat.mul_le_mul_right _ l
  have e : intsIn (.tup (.str x :: ds)) = intsOf ds := by simp [intsIn, intsOf]
  rw [e, Nat.pow_succ]
  omega
def spTermV (m : Nat) : Sp := fun vs H Q _ => ∃ (b p nm : Addr) (xs : List Str) (many : Int) (k : Nat) (deep : Int), vs = [.ref b, .ref nm, .int many, .int deep] ∧ deep = (k : Int) ∧ Bag b p H ∧ Names nm b H xs ∧ 0 < many ∧ many ≤ 1000 ∧ k < m ∧ k ≤ 100 ∧
  ∀ v H' d, Go b p H H' → Dv (newof H H') v d → Tm d → Sized k d → UnkL many k d → Q v H'
/-- a term as _law_great makes it -/
structure Grt (d : D) : Prop where
  tm : Tm d
  dp : d.deep ≤ 20
  sz : d.size ≤ 1400
  un : Unk 5 d
  few : (intsIn d).length ≤ 81
def spGreatV : Sp := fun vs H Q _ => ∃ (b p nm : Addr) (xs : List Str), vs = [.ref b, .ref nm] ∧ Bag b p H ∧ Names nm b H xs ∧
  ∀ v H' d, Go b p H H' → Dv (newof H H') v d → Grt d → Q v H'
def FarI (z : Int) : Prop := z = 0 ∨ z = 5 ∨ z = 7 ∨ z = 10 ^ 39
/-- a term with far unknowns -/
structure Far (d : D) : Prop where
  tm : Tm d
  dp : d.deep ≤ 30
  sz : d.size ≤ 1400
  un : ∀ i ∈ intsIn d, FarI i
  few : (intsIn d).length ≤ 81
structure Kept (f : Int → D) (d : D) : Prop where
  tm : Tm (putD f d)
  dp : (putD f d).deep = d.deep
  sz : (putD f d).size = d.size
  len : (intsIn (putD f d)).length = (intsIn d).length
theorem kept_list {f : Int → D} {ds : List D} (h : ∀ d ∈ ds, Kept f d) : deeps (puts f ds) = deeps ds ∧ sizes (puts f ds) = sizes ds ∧ (intsOf (puts f ds)).length = (intsOf ds).length := by
  induction ds with
  | nil => exact ⟨rfl, rfl, rfl⟩
  | cons d r ih =>
    obtain ⟨a, b, c⟩ := ih fun e he => h e (List.mem_cons_of_mem _ he)
    have hd := h d List.mem_cons_self
    simp only [puts, deeps, sizes, intsOf, List.length_append, a, b, c, hd.dp, hd.sz, hd.len, and_self]
theorem kept_of {f : Int → D} (hf : ∀ u, ∃ z, f u = .int z) {d : D} (t : Tm d) : Kept f d := by
  induction t with
  | int u =>
    obtain ⟨z, hz⟩ := hf u
    have e : putD f (.int u) = .int z := hz
    exact ⟨by rw [e]; exact .int z, by rw [e]; rfl, by rw [e]; rfl, by rw [e]; rfl⟩
  | tup x ds _ ih =>
    obtain ⟨a, b, c⟩ := kept_list ih
    have e : putD f (.tup (.str x :: ds)) = .tup (.str x :: puts f ds) := rfl
    refine ⟨?_, ?_, ?_, ?_⟩
    · rw [e]
      refine .tup x _ fun d hd => ?_
      rw [puts_map] at hd
      obtain ⟨d', h1, rfl⟩ := List.mem_map.mp hd
      exact (ih d' h1).tm
    · rw [e]
      simp only [D.deep, deeps, a]
    · rw [e]
      simp only [D.size, sizes, b]
    · rw [e]
      simp only [intsIn, intsOf, List.nil_append, c]
theorem ints_put {f : Int → D} {Pz : Int → Prop} (hf : ∀ u, ∃ z, f u = .int z ∧ Pz z) {d : D} (t : Tm d) : ∀ i ∈ intsIn (putD f d), Pz i := by
  induction t with
  | int u =>
    obtain ⟨z, hz, pz⟩ := hf u
    have e : putD f (.int u) = .int z := hz
    rw [e]
    intro i hi
    simp [intsIn] at hi
    subst hi
    exact pz
  | tup x ds _ ih =>
    have e : intsIn (putD f (.tup (.str x :: ds))) = intsOf (puts f ds) := by
      show intsIn (.tup (.str x :: puts f ds)) = _
      simp [intsIn, intsOf]
    rw [e]
    clear e
    induction ds with
    | nil => intro i hi; simp [puts, intsOf] at hi
    | cons d r ih2 =>
      intro i hi
      simp only [puts, intsOf, List.mem_append] at hi
      rcases hi with hi | hi
      · exact ih d List.mem_cons_self i hi
      · exact ih2 (fun c hc => by rename_i hall; exact hall c (List.mem_cons_of_mem _ hc)) (fun c hc => ih c (List.mem_cons_of_mem _ hc)) i hi
/-- _law_far -/
def spFar : Sp := fun vs H Q _ => ∃ (Hb : Hp) (b p : Addr) (v : V) (d : D), vs = [.ref b, v] ∧ Bag b p H ∧ Same Hb (mask b H) ∧ Dv Hb v d ∧ Grt d ∧
  ∀ v' H' d', Go b p H H' → Dv (ovl Hb (newof H H')) v' d' → Far d' → Q v' H'
theorem ints_flat {d : D} (t : Tm d) : ∀ i ∈ intsIn d, D.int i ∈ flat d := by
  induction t with
  | int u => intro i hi; simp [intsIn] at hi; subst hi; simp [flat]
  | tup x ds _ ih =>
    have e : intsIn (.tup (.str x :: ds)) = intsOf ds := by simp [intsIn, intsOf]
    have e2 : flat (.tup (.str x :: ds)) = .tup (.str x :: ds) :: flats ds := by simp [flat, flatT]
    rw [e, e2]
    intro i hi
    refine List.mem_cons_of_mem _ ?_
    clear e e2
    have go : ∀ cs : List D, (∀ c ∈ cs, c ∈ ds) → i ∈ intsOf cs → D.int i ∈ flats cs := by
      intro cs
      induction cs with
      | nil => intro _ h; simp [intsOf] at h
      | cons c r ih2 =>
        intro hc h
        simp only [intsOf, List.mem_append] at h
        simp only [flats, List.mem_append]
        rcases h with h | h
        · exact .inl (ih c (hc c List.mem_cons_self) i h)
        · exact .inr (ih2 (fun z hz => hc z (List.mem_cons_of_mem _ hz)) h)
    exact go ds (fun _ h => h) hi
theorem Grt.short {d : D} (g : Grt d) : ∀ i ∈ intsIn d, Short 13 20 i := fun i hi => by
  obtain ⟨a, b⟩ := g.un i (ints_flat g.tm i hi)
  exact short_small a (by omega)
/-- what putting values in makes of sizes -/
structure PutOk (f : Int → D) (d : D) : Prop where
  tm : Tm (putD f d)
  dp : (putD f d).deep ≤ d.deep + 20
  sz : (putD f d).size ≤ d.size + (intsIn d).length * 1400
  len : (intsIn (putD f d)).length ≤ (intsIn d).length * 81
  sh : ∀ i ∈ intsIn (putD f d), Short 13 20 i
theorem putOk_list {f : Int → D} {ds : List D} (h : ∀ d ∈ ds, PutOk f d) : deeps (puts f ds) ≤ deeps ds + 20 ∧ sizes (puts f ds) ≤ sizes ds + (intsOf ds).length * 1400 ∧ (intsOf (puts f ds)).length ≤ (intsOf ds).length * 81 ∧ ∀ i ∈ intsOf (puts f ds), Short 13 20 i := by
  induction ds with
  | nil => exact ⟨Nat.zero_le _, Nat.le_refl _, Nat.le_refl _, fun i hi => by simp [puts, intsOf] at hi⟩
  | cons d r ih =>
    obtain ⟨a, b, c, e⟩ := ih fun x hx => h x (List.mem_cons_of_mem _ hx)
    have hd := h d List.mem_cons_self
    have h1 := hd.dp
    have h2 := hd.sz
    have h3 := hd.len
    simp only [puts, deeps, sizes, intsOf, List.length_append, Nat.add_mul]
    refine ⟨by omega, by omega, by omega, fun i hi => ?_⟩
    rcases List.mem_append.mp hi with hi | hi
    · exact hd.sh i hi
    · exact e i hi
theorem putOk_of {f : Int → D} (hf : ∀ u, Grt (f u)) {d : D} (t : Tm d) : PutOk f d := by
  induction t with
  | int u =>
    have g := hf u
    have e : putD f (.int u) = f u := rfl
    have h1 := g.dp
    have h2 := g.sz
    have h3 := g.few
    refine ⟨by rw [e]; exact g.tm, by rw [e]; omega, ?_, ?_, by rw [e]; exact g.short⟩
    · rw [e]
      simp only [intsIn, List.length_singleton]
      omega
    · rw [e]
      simp only [intsIn, List.length_singleton]
      omega
  | tup x ds _ ih =>
    obtain ⟨a, b, c, e5⟩ := putOk_list ih
    have e : putD f (.tup (.str x :: ds)) = .tup (.str x :: puts f ds) := rfl
    have e2 : intsIn (.tup (.str x :: ds)) = intsOf ds := by simp [intsIn, intsOf]
    have e3 : intsIn (.tup (.str x :: puts f ds)) = intsOf (puts f ds) := by simp [intsIn, intsOf]
    refine ⟨?_, ?_, ?_, ?_, ?_⟩
    · rw [e]
      refine .tup x _ fun d hd => ?_
      rw [puts_map] at hd
      obtain ⟨d', h1, rfl⟩ := List.mem_map.mp hd
      exact (ih d' h1).tm
    · rw [e]
      simp only [D.deep, deeps]
      omega
    · rw [e, e2]
      simp only [D.size, sizes]
      omega
    · rw [e, e2, e3]
      exact c
    · rw [e, e3]
      exact e5
theorem intsOf_mem {i : Int} {ds : List D} (h : i ∈ intsOf ds) : ∃ d ∈ ds, i ∈ intsIn d := by
  induction ds with
  | nil => simp [intsOf] at h
  | cons c r ih =>
    simp only [intsOf, List.mem_append] at h
    rcases h with h | h
    · exact ⟨c, List.mem_cons_self, h⟩
    · obtain ⟨d, h1, h2⟩ := ih h
      exact ⟨d, List.mem_cons_of_mem _ h1, h2⟩
structure Grts (ds : List D) (n : Nat) : Prop where
  sz : sizes ds ≤ n * 1400
  dp : deeps ds ≤ 20
  few : (intsOf ds).length ≤ n * 81
  sh : ∀ i ∈ intsOf ds, Short 13 20 i
  nd : noDics ds = true
theorem grts_of {ds : List D} {n : Nat} (h : ∀ d ∈ ds, Grt d) (hn : ds.length ≤ n) : Grts ds n := by
  have h1 := sizes_le (n := 1416) fun d hd => by have := (h d hd).sz; omega
  have h2 := deeps_le fun d hd => (h d hd).dp
  have h3 := intsOf_len fun d hd => (h d hd).few
  have h4 : 1416 * ds.length ≤ 1416 * n := Nat.mul_le_mul_left _ hn
  have h5 : ds.length * 81 ≤ n * 81 := Nat.mul_le_mul_right _ hn
  refine ⟨?_, h2, by omega, fun i hi => ?_, noDics_of fun d hd => (h d hd).tm.noDic⟩
  · have : sizes ds ≤ 1400 * ds.length := by omega
    have : 1400 * ds.length ≤ 1400 * n := Nat.mul_le_mul_left _ hn
    omega
  · obtain ⟨d, h6, h7⟩ := intsOf_mem hi
    exact (h d h6).short i h7
/-- _law_put_right -/
def spPutRight : Sp := fun vs H Q _ => ∃ (b p nm : Addr) (xs : List Str) (la : Addr) (us : List V) (ds : List D), vs = [.ref b, .ref nm, .ref la] ∧ Bag b p H ∧ Names nm b H xs ∧ la ≠ b ∧ H la = some (.lst us) ∧ DvL (mask b H) us ds ∧ (∀ d ∈ ds, Grt d) ∧ ds.length ≤ 4 ∧
  ∀ H', Go b p H H' → Q (.bl true) H'
end Fm
set_option maxRecDepth 100000
set_option maxHeartbeats 3200000
/-! Fm: set(xs), xs a list of ints. -/
namespace Fm
open PySem PySem.Spec PyProof.Rows L2
section
variable {P : Program} {w : World} {A : Around} {E : Value → Shared → Prop} {s : Shared}
/-- set(x): what the new set's init does of x, in the heap with the new set -/
theorem set_of {a : Value} {Q : Value → Shared → Prop} (Z : Shared → Prop)
    (hi : wpAny (model P w) A.in1.in1 (Builtin.«set.__init__» ⟨[.ref s.heap.objs.size, a], []⟩) (fun fin s' => match fin with
        | Fin.done f => wants (fun r s₂ => r = .none ∧ Z s₂) E (.ok f) s'
        | Fin.again c' => c'.quiet = true ∧ codeAny (model P w) A.in1 c' (wants (fun r s₂ => r = .none ∧ Z s₂) E) s') (fun e s' => wants (fun r s₂ => r = .none ∧ Z s₂) E (.error e) s') { s with heap := s.heap.push (noSet w) })
    (h : ∀ s', Z s' → Q (.ref s.heap.objs.size) s') : wpAny (model P w) A (call (.type "set") [a]) Q E s := by
  have c := F.called_set
  obtain ⟨c0, tl, hmro⟩ := c.mro
  have hmade := c.made
  have hsub := c.sub
  have h1 := c.notType
  have h2 := c.canCreate
  have hct := F.typeCall_set_1 a
  refine wpAny_call (codeAny_of_tree ?_)
  show wpAny _ _ (callAny (.type "set") _) _ _ _
  refine wpAny_pure ⟨Code.quiet_builtin _ (by decide +kernel), codeAny_builtin F.entry_type_call ?_⟩
  rw [Around.under_plain (weight_type_call_type "set" [a] []) rfl]
  repeat (any_goals (first | assumption | wp_step))
  refine codeAny_mono (code_set_led1 a (E := E) (Q₁ := fun obj s₁ => obj = .ref s.heap.objs.size ∧ s₁ = { s with heap := s.heap.push (noSet w) }) ⟨rfl, rfl⟩) fun r s₁ hr => ?_
  cases r with
  | error e => exact hr
  | ok fl =>
    cases fl with
    | ret obj =>
      obtain ⟨rfl, rfl⟩ := hr
      have hS : (s.heap.push (noSet w)).get? s.heap.objs.size = some (noSet w) := Heap.get?_push_size _ rfl
      have hT : Shared.TypeIs { s with heap := s.heap.push (noSet w) } (.ref s.heap.objs.size) "set" := ⟨_, hS, rfl⟩
      have hli := F.called_set.init.lookup
      have hbi := F.called_set.init.bind (.ref s.heap.objs.size)
      repeat (any_goals (first | assumption | wp_step))
      refine codeAny_mono (codeAny_call_builtin (R := wants (fun r s₂ => r = .none ∧ Z s₂) E) F.called_set.init.plain F.entry_set_init (check_set_init_1 hT ?_)) fun r₂ s₂ hr₂ => ?_
      · exact hi
      · cases r₂ with
        | error e => exact hr₂
        | ok fl₂ =>
          cases fl₂ with
          | ret r =>
            obtain ⟨rfl, z⟩ := hr₂
            have hq := h _ z
            repeat (any_goals (first | assumption | wp_step))
          | _ => exact hr₂.elim
    | _ => exact hr.elim
/-- set(xs) of a list of ints: its members, at most as many as the ints -/
theorem set_ints {l : Addr} {items : Array Value} (ns : List Int) {Q : Value → Shared → Prop} (hh : A.handled = none) (hl : s.heap.IsList l items) (hit : IntsAre items.toList ns) (hb : ns.length + 1 < scanBound)
    (h : ∀ (h' : Heap) (tk c : Nat), SetR w h' s.heap.objs.size (fun j => decide (j ∈ ns)) c → c ≤ ns.length → (∀ b o, s.heap.get? b = some o → h'.get? b = some o) → Q (.ref s.heap.objs.size) { s with heap := h', toks := tk }) :
    wpAny (model P w) A (call (.type "set") [.ref l]) Q E s := by
  have hn : items.size = ns.length := by rw [← IntsAre.length hit, Array.length_toList]
  refine set_of (fun s' => ∃ h' tk c, s' = { s with heap := h', toks := tk } ∧ SetR w h' s.heap.objs.size (fun j => decide (j ∈ ns)) c ∧ c ≤ ns.length ∧ ∀ b o, s.heap.get? b = some o → h'.get? b = some o) ?_ ?_
  · have l1 : (s.heap.push (noSet w)).IsList l items := by
      obtain ⟨o, e, c1, c2, c3⟩ := hl
      exact ⟨o, Heap.get?_push_of_some _ e, c1, c2, c3⟩
    have lt : l < s.heap.objs.size := by
      obtain ⟨o, e, _⟩ := hl
      exact Heap.lt_size e
    have new : (s.heap.push (noSet w)).get? s.heap.objs.size = some (noSet w) := Heap.get?_push_size _ rfl
    have n1 : (s.heap.push (noSet w)).objs.size = s.heap.objs.size + 1 := Heap.size_push ..
    obtain ⟨⟨ocls, odict, odata, oslots⟩, e, c1, nl, c3⟩ := id l1
    simp only at c1 c3
    subst c1 c3
    have t1 := F.sub_list_set
    have t2 := F.sub_list_frozenset
    have t3 : (Value.type "list" == Value.type "dict") = false := by decide
    unfold Builtin.«set.__init__» noKeywords Builtin.Frozenset.updateFrom
    generalize hPI : pyIter = PI
    wp_walk
    subst hPI
    refine wpAny_pyIter_list l1 ?_
    refine wpAny_bind (wpAny_runValue ?_)
    have n2 : l ≠ (s.heap.push (noSet w)).objs.size := by
      rw [n1]
      exact Nat.ne_of_lt (Nat.lt_succ_of_lt lt)
    have n3 : s.heap.objs.size ∉ [(s.heap.push (noSet w)).objs.size, l] := by
      rw [n1]
      simp only [List.mem_cons, List.not_mem_nil, or_false, not_or]
      exact ⟨Nat.ne_of_lt (Nat.lt_succ_self _), Nat.ne_of_gt lt⟩
    have val : ∀ (i : Nat) (v : Value), items[i]? = some v → ∃ k t, ns[i]? = some k ∧ v = .int k t := fun i v hv => by
      have hi : i < ns.length := by rw [← hn]; exact (Array.getElem?_eq_some_iff.mp hv).1
      obtain ⟨t, e⟩ := PyProof.Rows.IntsAre.int_at hit i v (by rw [Array.getElem?_toList]; exact hv)
      refine ⟨ns[i], t, List.getElem?_eq_getElem hi, ?_⟩
      rw [e, List.getD_eq_getElem?_getD, List.getElem?_eq_getElem hi]
      rfl
    have hh3 : A.in1.in1.in1.handled = none := by simp [hh]
    refine set_update_ints ((Walks.list hh3 _ l n2 items).toS) s.heap.objs.size n3 ns hn hb val (items.size - 0) 0 _ (by omega) (Nat.zero_le _) ⟨⟨_, Heap.get?_push_size _ rfl, rfl, rfl⟩, l1.push _⟩ ⟨0, Nat.le_refl 0, setR_new_at (Heap.get?_push_of_some _ new)⟩ ?_
    intro s' c' hm hc' hS'
    obtain ⟨h', g2, d', tk', os'⟩ := s'
    have eg : g2 = s.gens := hm.gens
    have ed : d' = s.drawn := hm.drawn
    have eo : os' = s.os := hm.os
    subst eg ed eo
    rw [hn] at hc'
    refine wpAny_pure (wpAny_pure ⟨rfl, h', tk', c', rfl, hS', hc', fun b o eb => ?_⟩)
    have lb := Heap.lt_size eb
    refine hm.heap b o ?_ (Heap.get?_push_of_some _ (Heap.get?_push_of_some _ eb))
    simp only [List.mem_cons, List.not_mem_nil, or_false, not_or]
    exact ⟨Nat.ne_of_lt lb, by rw [n1]; exact Nat.ne_of_lt (Nat.lt_succ_of_lt lb)⟩
  · rintro s' ⟨h', tk, c, rfl, h1, h2, h3⟩
    exact h h' tk c h1 h2 h3
end
theorem nodup_len : ∀ {xs ys : List Int}, xs.Nodup → (∀ x ∈ xs, x ∈ ys) → xs.length ≤ ys.length
  | [], _, _, _ => Nat.zero_le _
  | x :: r, ys, h, k => by
    rw [List.nodup_cons] at h
    have hx := k x List.mem_cons_self
    have ih := nodup_len (xs := r) (ys := ys.erase x) h.2 fun y hy => by
      have ne : y ≠ x := fun e => h.1 (e ▸ hy)
      exact (List.mem_erase_of_ne ne).mpr (k y (List.mem_cons_of_mem _ hy))
    rw [List.length_erase_of_mem hx] at ih
    have pos : 0 < ys.length := List.length_pos_of_mem hx
    simp only [List.length_cons]
    omega
theorem setR_few {w : World} {h : Heap} {a : Addr} {ns : List Int} {c : Nat} (R : SetR w h a (fun j => decide (j ∈ ns)) c) : c ≤ (ns.foldl addI []).length := by
  obtain ⟨o, es, ep, t, _, _, _, _, nd, hm, _, _, hn, _⟩ := R
  have := nodup_len nd (ys := ns.foldl addI []) fun x hx => by
    have h1 := (hm x).mpr hx
    have h2 := of_decide_eq_true h1
    exact foldl_addI_mem.mpr (.inr h2)
  rw [List.length_map, Array.length_toList, hn] at this
  exact this
/-- two ascending lists with the same members are one -/
theorem asc_eq : ∀ {xs ys : List Int}, xs.Pairwise (· < ·) → ys.Pairwise (· < ·) → (∀ k, k ∈ xs ↔ k ∈ ys) → xs = ys
  | [], [], _, _, _ => rfl
  | [], y :: r, _, _, h => by have := (h y).mpr List.mem_cons_self; cases this
  | x :: r, [], _, _, h => by have := (h x).mp List.mem_cons_self; cases this
  | x :: r, y :: t, hx, hy, h => by
    rw [List.pairwise_cons] at hx hy
    have e : x = y := by
      have h1 := (h x).mp List.mem_cons_self
      have h2 := (h y).mpr List.mem_cons_self
      rcases List.mem_cons.mp h1 with e | h1
      · exact e
      · rcases List.mem_cons.mp h2 with e | h2
        · exact e.symm
        · have := hx.1 y h2
          have := hy.1 x h1
          omega
    subst e
    rw [asc_eq hx.2 hy.2 fun k => ?_]
    constructor
    · intro hk
      rcases List.mem_cons.mp ((h k).mp (List.mem_cons_of_mem _ hk)) with e | z
      · have := hx.1 k hk
        omega
      · exact z
    · intro hk
      rcases List.mem_cons.mp ((h k).mpr (List.mem_cons_of_mem _ hk)) with e | z
      · have := hy.1 k hk
        omega
      · exact z
section
variable {X : Cx}
/-- set(xs), a list of ints -/
def rSetI (K : PySem.W.Frag) (w : World) : List V → Hp → VK → Prop := fun xs H Q => ∃ (a : Addr) (ns : List Int), xs = [.ref a] ∧ SqL K H a (ns.map V.int) ∧ ns.length + 1 < scanBound ∧
  ∀ (p : Addr) (c : Nat), H p = none → c ≤ (ns.foldl addI []).length → Q (.ref p) (upd H p (SetO w p (fun j => decide (j ∈ ns)) c))
theorem cr_setI (hc : X.calm = true) : CallR X (.type "set") (rSetI X.K X.w) := by
  intro pins s σ H xs us Q I r h
  obtain ⟨a, ns, rfl, hs, hb, q⟩ := h
  rw [Vals.ref1 r]
  obtain ⟨its, rv, hl, hz⟩ := I.list hs
  have fresh : H s.heap.objs.size = none := I.hok.fresh (Nat.le_refl _)
  refine set_ints ns (I.ok.hd hc) hl.isList (by simpa using ints_of_vals rv) hb fun h' tk c R lc k => ?_
  exact ⟨.ref _, upd H s.heap.objs.size (SetO X.w s.heap.objs.size (fun j => decide (j ∈ ns)) c), I.laid (t' := tk) k (Nat.le_refl _) (setO_new R), rfl, q _ c fresh (setR_few R)⟩
end
/-- [f(bag, x) for x in xs]: each turn draws from the bag and gives new data over a base -/
theorem lc_bagN {K : PySem.W.Frag} {te : TE} {tt : TT} {σ : L2.St} {H Hb : Hp} {a b p : Addr} {xs : List V} {ds : List D} {j : Nat} {vs : List Nat} {Dl : Addr} {Qd : Hp → Prop} (good : D → Prop) (B : Bag b p H) (na : a ≠ b) (hT : H a = some (.lst xs)) (hd : DvL Hb xs ds) (hD : H Dl = none) (hz : xs.length ≤ 100000)
    (hw : ∀ x, wipe ((wipe σ vs).set j (some x)) vs = wipe σ vs) (he : ∀ σ' H' (R : Bool → Hp → Prop), R true H' → tt σ' H' R)
    (hv : ∀ (x : V) (d : D) (H' : Hp) (R : VK), Go b p H H' → d ∈ ds → Dv Hb x d → (∀ y H2 e, Go b p H' H2 → Dv (ovl Hb (newof H' H2)) y e → good e → R y H2) → te ((wipe σ vs).set j (some x)) H' R)
    (q : ∀ H' zs es, Go b p H H' → H' Dl = some (.lst zs) → DvL (ovl Hb (newof (upd H Dl (.lst [])) H')) zs es → (∀ e ∈ es, good e) → es.length = ds.length → Qd H') :
    ∃ W : Nat → Nat → Hp → Prop, (∃ m, W 0 m (upd H Dl (.lst []))) ∧ ∀ i m H, W i m H → ((Itl K a).stop i H ∧ Qd H) ∨ ((Itl K a).go i H ∧ ∃ Nx : Hp → Prop, (∀ H', Nx H' → ∃ m', m' < m ∧ W (i + 1) m' H') ∧
      ∀ x H', (Itl K a).yld i H x H' → gName j x (wipe σ vs) H' fun σ2 H2 => wipe σ2 vs = wipe σ vs ∧ tt σ2 H2 fun b H3 => if b = true then te σ2 H3 fun y H4 => ∃ acc, H4 Dl = some (.lst acc) ∧ acc.length < sizeLine ∧ Nx (upd H4 Dl (.lst (acc ++ [y]))) else Nx H3) := by
  have hlen := hd.len
  have nb := B.b_ne hD
  have h0 : (upd H Dl (.lst [])) Dl = some (.lst []) := upd_same
  have B1 : Bag b p (upd H Dl (.lst [])) := ((Go.refl B).new hD).B
  refine lc_it (walk_list (K := K) (a := a) (xs := xs)) (fun i H' => Go b p H H' ∧ ∃ zs es, H' Dl = some (.lst zs) ∧ DvL (ovl Hb (newof (upd H Dl (.lst [])) H')) zs es ∧ (∀ e ∈ es, good e) ∧ es.length = i)
    ⟨(Go.refl B).new hD, [], [], upd_same, .nil, fun _ h => (by cases h), rfl⟩ (fun i H' _ h => SqL.of (h.1.at na hT)) ?_ ?_
  · rintro i x H1 H1' hi ⟨g, zs, es, hl, hz2, hg, hn⟩ ⟨rfl, hx⟩
    obtain ⟨d, e1, hd1⟩ := hd.get hx
    refine ⟨hw _, he _ _ _ ?_⟩
    rw [if_pos rfl]
    refine hv x d H1' _ g (tk e1) hd1 fun y H2 e g2 hy ge => ⟨zs, g2.at nb hl, ?_, (g.trans g2).mut B hD, zs ++ [y], es ++ [e], upd_same, ?_, ?_, ?_⟩
    · have := hz2.len
      exact szl (by omega)
    · rw [newof_upd h0]
      refine (hz2.same (ovl_mono (newof_go B1 g2)) _ _).snoc (hy.same (ovl_mono (newof_lift fun c hc => ?_)) _ _)
      have n1 : c ≠ Dl := fun z => by
        rw [z, hl] at hc
        cases hc
      rw [upd_ne n1]
      exact g.free hc
    · intro e' he'
      rcases List.mem_append.mp he' with h | h
      · exact hg e' h
      · rw [List.mem_singleton.mp h]
        exact ge
    · rw [List.length_append, hn]
      rfl
  · rintro H' ⟨g, zs, es, hl, hz2, hg, hn⟩
    exact q H' zs es g hl hz2 hg (by omega)
end Fm
set_option maxRecDepth 100000
set_option maxHeartbeats 2000000
namespace Fm
open PySem PySem.Spec PyProof.Rows L2
theorem ints_of_flat {d : D} (t : Tm d) : ∀ i, D.int i ∈ flat d → i ∈ intsIn d := by
  induction t with
  | int u => intro i hi; simp [flat] at hi; subst hi; simp [intsIn]
  | tup x ds _ ih =>
    have e : intsIn (.tup (.str x :: ds)) = intsOf ds := by simp [intsIn, intsOf]
    have e2 : flat (.tup (.str x :: ds)) = .tup (.str x :: ds) :: flats ds := by simp [flat, flatT]
    rw [e, e2]
    intro i hi
    rcases List.mem_cons.mp hi with h | h
    · cases h
    clear e e2 hi
    induction ds with
    | nil => simp [flats] at h
    | cons c r ih2 =>
      simp only [flats, List.mem_append] at h
      simp only [intsOf, List.mem_append]
      rcases h with h | h
      · exact .inl (ih c List.mem_cons_self i h)
      · exact .inr (ih2 (fun c hc => by rename_i hall; exact hall c (List.mem_cons_of_mem _ hc)) (fun c hc => ih c (List.mem_cons_of_mem _ hc)) h)
theorem intsOf_in {i : Int} {d : D} : ∀ {ds : List D}, d ∈ ds → i ∈ intsIn d → i ∈ intsOf ds
  | [], h, _ => by cases h
  | x :: r, h, k => by
    simp only [intsOf, List.mem_append]
    rcases List.mem_cons.mp h with rfl | h
    · exact .inl k
    · exact .inr (intsOf_in h k)
/-- a list of terms whose told things can be shown -/
structure CaseOk (ds : List D) : Prop where
  tm : ∀ d ∈ ds, Tm d
  dp : deeps ds ≤ 30
  sz : sizes ds ≤ 5700
  few : (intsOf ds).length ≤ 324
  sh : ∀ i ∈ intsOf ds, Short 41 130 i
  nd : noDics ds = true
  un : (firstsOf ds).length ≤ 5
  len : ds.length ≤ 4
theorem caseOk_grt {ds : List D} (h : ∀ d ∈ ds, Grt d) (hn : ds.length ≤ 4) : CaseOk ds := by
  have g := grts_of h hn
  have h1 := g.sz
  have h2 := g.dp
  have h3 := g.few
  refine ⟨fun d hd => (h d hd).tm, by omega, by omega, by omega, fun i hi => (g.sh i hi).wide (by decide) (by decide) (by decide), g.nd, ?_, hn⟩
  have := nodup_len (firstsOf_nodup ds) (ys := [0, 1, 2, 3, 4]) fun u hu => by
    obtain ⟨d, hd, hf⟩ := flats_mem (firstsOf_mem.mp hu)
    obtain ⟨a, b⟩ := (h d hd).un u hf
    have : u = 0 ∨ u = 1 ∨ u = 2 ∨ u = 3 ∨ u = 4 := by omega
    simpa using this
  simpa using this
theorem caseOk_far {ds : List D} (h : ∀ d ∈ ds, Far d) (hn : ds.length ≤ 4) : CaseOk ds := by
  have h1 := sizes_le (n := 1416) fun d hd => by have := (h d hd).sz; omega
  have h2 := deeps_le fun d hd => (h d hd).dp
  have h3 := intsOf_len fun d hd => (h d hd).few
  have h4 : 1416 * ds.length ≤ 1416 * 4 := Nat.mul_le_mul_left _ hn
  have h5 : ds.length * 81 ≤ 4 * 81 := Nat.mul_le_mul_right _ hn
  refine ⟨fun d hd => (h d hd).tm, h2, by omega, by omega, fun i hi => ?_, noDics_of fun d hd => (h d hd).tm.noDic, ?_, hn⟩
  · obtain ⟨d, h6, h7⟩ := intsOf_mem hi
    rcases (h d h6).un i h7 with e | e | e | e
    · rw [e]; exact (short_small (by decide) (by decide)).wide (by decide) (by decide) (by decide)
    · rw [e]; exact (short_small (by decide) (by decide)).wide (by decide) (by decide) (by decide)
    · rw [e]; exact (short_small (by decide) (by decide)).wide (by decide) (by decide) (by decide)
    · rw [e]; exact short_far
  · have := nodup_len (firstsOf_nodup ds) (ys := [0, 5, 7, 10 ^ 39]) fun u hu => by
      obtain ⟨d, hd, hf⟩ := flats_mem (firstsOf_mem.mp hu)
      have : u = 0 ∨ u = 5 ∨ u = 7 ∨ u = 10 ^ 39 := (h d hd).un u (ints_of_flat (h d hd).tm u hf)
      simp only [List.mem_cons, List.not_mem_nil, or_false]
      exact this
    simp only [List.length_cons, List.length_nil] at this
    omega
theorem ops_len (ds : List D) : opsOf ds ≤ sizes ds := by
  have h1 := List.length_filter_le isT (flats ds)
  have h2 := flats_len ds
  unfold opsOf
  omega
theorem leaves_ints : ∀ {ds : List D}, (∀ d ∈ ds, Tm d) → leaves ds = intsOf ds := by
  have one : ∀ d, Tm d → leaf d = intsIn d := by
    intro d t
    induction t with
    | int u => simp [leaf, intsIn]
    | tup x ds _ ih =>
      have e : intsIn (.tup (.str x :: ds)) = intsOf ds := by simp [intsIn, intsOf]
      rw [e]
      show leaves ds = _
      clear e
      induction ds with
      | nil => rfl
      | cons c r ih2 =>
        have e3 : leaves (c :: r) = leaf c ++ leaves r := by rw [← leaves_one, ← leaves_app]; rfl
        rw [e3, ih c List.mem_cons_self, ih2 (fun c hc => by rename_i hall; exact hall c (List.mem_cons_of_mem _ hc)) (fun c hc => ih c (List.mem_cons_of_mem _ hc))]
        rfl
  intro ds
  induction ds with
  | nil => intro _; rfl
  | cons c r ih =>
    intro h
    have e3 : leaves (c :: r) = leaf c ++ leaves r := by rw [← leaves_one, ← leaves_app]; rfl
    rw [e3, one c (h c List.mem_cons_self), ih fun d hd => h d (List.mem_cons_of_mem _ hd)]
    rfl
theorem dvl_nums {H : Hp} : ∀ ns : List Int, DvL H (ns.map V.int) (ns.map D.int)
  | [] => .nil
  | n :: r => .cons (.int n) (dvl_nums r)
/-- what is told of terms -/
def dueD (ds : List D) (ns : List Int) : D := .lst [.int (opsOf ds : Nat), .lst (ns.map D.int), .lst (puts (numF ds) ds)]
theorem ints_facts : ∀ ns : List Int, sizes (ns.map D.int) = ns.length ∧ deeps (ns.map D.int) ≤ 1 ∧ intsOf (ns.map D.int) = ns ∧ noDics (ns.map D.int) = true
  | [] => ⟨rfl, Nat.zero_le _, rfl, rfl⟩
  | n :: r => by
    obtain ⟨a, b, c, e⟩ := ints_facts r
    refine ⟨?_, ?_, ?_, ?_⟩
    · simp only [List.map_cons, sizes, D.size, a, List.length_cons]; omega
    · simp only [List.map_cons, deeps, D.deep]; omega
    · simp only [List.map_cons, intsOf, intsIn, c]; rfl
    · simp only [List.map_cons, noDics, noDic, e]; rfl
theorem due_ok {ds : List D} {ns : List Int} {K : PySem.W.Frag} {H : Hp} {v : V} (c : CaseOk ds) (hn : ns.length ≤ 5) (hs : ∀ k ∈ ns, D.int k ∈ flats ds) (h : Dv H v (dueD ds ns)) :
    Dp K H v (pdOf (dueD ds ns)) ∧ SeqAt.shaped (pdOf (dueD ds ns)) = true ∧ (pdOf (dueD ds ns)).showable = true ∧ (pdOf (dueD ds ns)).hasDict = false ∧ (pdOf (dueD ds ns)).depth ≤ 60 ∧ (pdOf (dueD ds ns)).shown.length ≤ sizeLine := by
  obtain ⟨a1, a2, a3, a4⟩ := ints_facts ns
  have kf : ∀ u : Int, ∃ z : Int, numF ds u = .int z ∧ Short 13 20 z := fun u => ⟨_, rfl, short_small (by omega) (by
    have : (firstsOf ds).idxOf u ≤ (firstsOf ds).length := List.idxOf_le_length
    have := c.un
    omega)⟩
  have kf2 : ∀ u : Int, ∃ z : Int, numF ds u = .int z := fun u => ⟨_, rfl⟩
  obtain ⟨b1, b2, b3⟩ := kept_list fun d hd => kept_of kf2 (c.tm d hd)
  have b4 : noDics (puts (numF ds) ds) = true := noDics_of fun e he => by
    rw [puts_map] at he
    obtain ⟨d, hd, rfl⟩ := List.mem_map.mp he
    exact (kept_of kf2 (c.tm d hd)).tm.noDic
  have b5 : ∀ i ∈ intsOf (puts (numF ds) ds), Short 41 130 i := fun i hi => by
    obtain ⟨e, he, hi2⟩ := intsOf_mem hi
    rw [puts_map] at he
    obtain ⟨d, hd, rfl⟩ := List.mem_map.mp he
    exact (ints_put kf (c.tm d hd) i hi2).wide (by decide) (by decide) (by decide)
  have fi : intsIn (dueD ds ns) = (opsOf ds : Int) :: (ns ++ intsOf (puts (numF ds) ds)) := by
    simp [dueD, intsIn, intsOf, a3]
  have c1 := c.dp
  have c2 := c.sz
  have c3 := c.few
  have c4 := ops_len ds
  refine pd_ok (B := 41) (bits := 130) (by decide) h ?_ ?_ ?_ ?_
  · rw [fi]
    intro i hi
    rcases List.mem_cons.mp hi with rfl | hi
    · exact (short_small (by omega) (by omega)).wide (by decide) (by decide) (by decide)
    · rcases List.mem_append.mp hi with hi | hi
      · obtain ⟨d, hd, hf⟩ := flats_mem (hs i hi)
        refine c.sh i ?_
        have := ints_of_flat (c.tm d hd) i hf
        exact intsOf_in hd this
      · exact b5 i hi
  · simp [dueD, noDic, noDics, a4, b4]
  · simp only [dueD, D.deep, deeps, b1]
    omega
  · rw [fi]
    simp only [dueD, D.size, sizes, b2, a1, List.length_cons, List.length_append, b3]
    omega
theorem kept_ok {ds : List D} {K : PySem.W.Frag} {H : Hp} {v : V} (c : CaseOk ds) (h : Dv H v (.lst ds)) :
    Dp K H v (pdOf (.lst ds)) ∧ SeqAt.shaped (pdOf (.lst ds)) = true ∧ (pdOf (.lst ds)).showable = true ∧ (pdOf (.lst ds)).hasDict = false ∧ (pdOf (.lst ds)).depth ≤ 60 ∧ (pdOf (.lst ds)).shown.length ≤ sizeLine := by
  have c1 := c.dp
  have c2 := c.sz
  have c3 := c.few
  have fi : intsIn (.lst ds) = intsOf ds := by simp [intsIn]
  refine pd_ok (B := 41) (bits := 130) (by decide) h ?_ ?_ ?_ ?_
  · rw [fi]; exact c.sh
  · simp [noDic, c.nd]
  · simp only [D.deep]; omega
  · rw [fi]
    simp only [D.size]
    omega
end Fm
set_option maxRecDepth 100000
set_option maxHeartbeats 2000000
namespace Fm
open PySem PySem.Spec PyProof.Rows L2
open PySem.Builtin PySem.Builtin.Str
/-- a text of small letters -/
def Low (x : Str) : Prop := ∀ c ∈ x.cps.toList, 97 ≤ c ∧ c ≤ 122
/-- terms of names of small letters and of small unknowns -/
inductive TmL : D → Prop
  | int (i : Nat) : i < 10 → TmL (.int (i : Int))
  | tup (x : Str) (ds : List D) : Low x → (∀ d ∈ ds, TmL d) → TmL (.tup (.str x :: ds))
theorem low_prints : ∀ k, k < 26 → Unicode.isPrintable (97 + k) = true := by decide +kernel
theorem reprChar_low {c : Nat} (h : 97 ≤ c ∧ c ≤ 122) : reprChar 39 c = [c] := by
  have hp : Unicode.isPrintable c = true := by
    have := low_prints (c - 97) (by omega)
    rwa [show 97 + (c - 97) = c by omega] at this
  unfold reprChar
  rw [if_neg (by simp; omega), if_neg (by simp; omega), if_neg (by simp; omega), if_neg (by simp; omega), if_pos hp]
theorem fold_low : ∀ (l : List Nat) (acc : Array Nat), (∀ c ∈ l, 97 ≤ c ∧ c ≤ 122) → (l.foldl (fun out c => out ++ (reprChar 39 c).toArray) acc).toList = acc.toList ++ l
  | [], acc, _ => by simp
  | c :: r, acc, h => by
    rw [List.foldl_cons, fold_low r _ fun d hd => h d (List.mem_cons_of_mem _ hd), reprChar_low (h c List.mem_cons_self)]
    simp
theorem reprText_low {x : Str} (h : Low x) : (reprText x).cps.toList = 39 :: (x.cps.toList ++ [39]) := by
  have q : reprQuote x = 39 := by
    unfold reprQuote
    have : x.cps.contains 39 = false := by
      rw [Bool.eq_false_iff]
      intro e
      rw [Array.contains_iff_mem] at e
      have := h 39 (Array.mem_toList_iff.mpr e)
      omega
    rw [this]
    rfl
  unfold reprText
  rw [q]
  show (Array.push _ 39).toList = _
  rw [Array.toList_push, ← Array.foldl_toList, fold_low _ _ h]
  simp
mutual
def rt : D → List Nat
  | .int i => [48 + i.toNat]
  | .tup (.str x :: []) => 40 :: 39 :: (x.cps.toList ++ [39, 44, 41])
  | .tup (.str x :: d :: r) => 40 :: 39 :: (x.cps.toList ++ 39 :: (44 :: 32 :: rt d ++ rts r ++ [41]))
  | _ => []
def rts : List D → List Nat
  | [] => []
  | d :: r => 44 :: 32 :: rt d ++ rts r
end
def tails (ds : List D) : List Nat := match ds with
  | [] => [44, 41]
  | d :: r => rts (d :: r) ++ [41]
theorem rt_tup (x : Str) (ds : List D) : rt (.tup (.str x :: ds)) = 40 :: 39 :: (x.cps.toList ++ 39 :: tails ds) := by
  cases ds with
  | nil => simp [rt, tails]
  | cons d r => simp [rt, rts, tails]
theorem low_split : ∀ {xs ys : List Nat} {s t : List Nat}, (∀ c ∈ xs, 97 ≤ c ∧ c ≤ 122) → (∀ c ∈ ys, 97 ≤ c ∧ c ≤ 122) → xs ++ 39 :: s = ys ++ 39 :: t → xs = ys ∧ s = t
  | [], [], _, _, _, _, h => by simpa using h
  | [], y :: r, _, _, _, hy, h => by
    have := hy y List.mem_cons_self
    simp at h
    omega
  | x :: r, [], _, _, hx, _, h => by
    have := hx x List.mem_cons_self
    simp at h
    omega
  | x :: r, y :: r2, _, _, hx, hy, h => by
    simp only [List.cons_append, List.cons.injEq] at h
    obtain ⟨rfl, h⟩ := h
    obtain ⟨e, k⟩ := low_split (fun c hc => hx c (List.mem_cons_of_mem _ hc)) (fun c hc => hy c (List.mem_cons_of_mem _ hc)) h
    exact ⟨by rw [e], k⟩
/-- what one term's text and what stands behind it say -/
def Tells (a : D) : Prop := ∀ (b : D) (s t : List Nat), TmL b → rt a ++ s = rt b ++ t → a = b ∧ s = t
theorem rts_tell : ∀ {ds es : List D} {s t : List Nat}, (∀ d ∈ ds, Tells d) → (∀ e ∈ es, TmL e) → rts ds ++ 41 :: s = rts es ++ 41 :: t → ds = es ∧ s = t
  | [], [], _, _, _, _, h => by simpa [rts] using h
  | [], e :: r, _, _, _, _, h => by simp [rts] at h
  | d :: r, [], _, _, _, _, h => by simp [rts] at h
  | d :: r, e :: r2, s, t, hd, he, h => by
    simp only [rts, List.cons_append, List.append_assoc, List.cons.injEq, true_and] at h
    obtain ⟨rfl, k⟩ := hd d List.mem_cons_self e _ _ (he e List.mem_cons_self) h
    obtain ⟨rfl, k2⟩ := rts_tell (fun x hx => hd x (List.mem_cons_of_mem _ hx)) (fun x hx => he x (List.mem_cons_of_mem _ hx)) k
    exact ⟨rfl, k2⟩
theorem str_ext {x y : Str} (h : x.cps.toList = y.cps.toList) : x = y := by
  cases x
  cases y
  simp only [Str.mk.injEq]
  exact Array.toList_inj.mp h
theorem rt_tells {a : D} (h : TmL a) : Tells a := by
  induction h with
  | int i hi =>
    intro b s t hb e
    cases hb with
    | int j hj =>
      simp only [rt, List.cons_append, List.nil_append, List.cons.injEq, Int.toNat_natCast] at e
      obtain ⟨e, k⟩ := e
      exact ⟨by rw [show i = j by omega], k⟩
    | tup y es hy hes =>
      rw [rt_tup] at e
      simp only [rt, List.cons_append, List.nil_append, List.cons.injEq, Int.toNat_natCast] at e
      omega
  | tup x ds hx _ ih =>
    intro b s t hb e
    cases hb with
    | int j hj =>
      rw [rt_tup] at e
      simp only [rt, List.cons_append, List.nil_append, List.cons.injEq, Int.toNat_natCast] at e
      omega
    | tup y es hy hes =>
      rw [rt_tup, rt_tup] at e
      simp only [List.cons_append, List.append_assoc, List.cons.injEq, true_and] at e
      obtain ⟨e1, e2⟩ := low_split hx hy e
      cases str_ext e1
      cases ds with
      | nil =>
        cases es with
        | nil => simpa [tails] using e2
        | cons f r => simp [tails, rts] at e2
      | cons d r =>
        cases es with
        | nil => simp [tails, rts] at e2
        | cons f r2 =>
          simp only [tails, List.append_assoc, List.singleton_append] at e2
          obtain ⟨e3, e4⟩ := rts_tell ih hes e2
          exact ⟨by rw [e3], e4⟩
theorem cps_app (x y : Str) : (x ++ y).cps.toList = x.cps.toList ++ y.cps.toList := Array.toList_append
theorem join_rts : ∀ (ds : List D) (y : Str), (∀ d ∈ ds, (PyData.shown (pdOf d)).cps.toList = rt d) → (Str.join ", " (y :: PyData.shownAll (pdsOf ds))).cps.toList = y.cps.toList ++ rts ds
  | [], y, _ => by simp [PyData.shownAll, pdsOf, Str.join, rts]
  | d :: r, y, h => by
    have e : Str.join ", " (y :: PyData.shownAll (pdsOf (d :: r))) = y ++ ", " ++ Str.join ", " (PyData.shown (pdOf d) :: PyData.shownAll (pdsOf r)) := rfl
    rw [e, cps_app, cps_app, join_rts r _ fun x hx => h x (List.mem_cons_of_mem _ hx), h d List.mem_cons_self]
    have c : ((", " : String) : Str).cps.toList = [44, 32] := by decide
    rw [c]
    simp [rts]
theorem digit_text : ∀ i : Nat, i < 10 → (PyData.shown (.int (i : Int))).cps.toList = [48 + i] := by decide
theorem shown_rt {a : D} (h : TmL a) : (PyData.shown (pdOf a)).cps.toList = rt a := by
  induction h with
  | int i hi =>
    show (PyData.shown (.int (i : Int))).cps.toList = _
    rw [digit_text i hi]
    simp [rt]
  | tup x ds hx _ ih =>
    rw [rt_tup]
    have e : PyData.shown (pdOf (.tup (.str x :: ds))) = ("(" : Str) ++ Str.join ", " (reprText x :: PyData.shownAll (pdsOf ds)) ++ (if (reprText x :: PyData.shownAll (pdsOf ds)).length == 1 then ",)" else ")" : String) := rfl
    rw [e, cps_app, cps_app, join_rts ds _ ih, reprText_low hx]
    have c1 : ((("(" : String) : Str)).cps.toList = [40] := by decide
    have c2 : (((",)" : String) : Str)).cps.toList = [44, 41] := by decide
    have c3 : (((")" : String) : Str)).cps.toList = [41] := by decide
    rw [c1]
    cases ds with
    | nil =>
      have : ((reprText x :: PyData.shownAll (pdsOf [])).length == 1) = true := rfl
      rw [if_pos this, c2]
      simp [rts, tails]
    | cons d r =>
      have : ¬ ((reprText x :: PyData.shownAll (pdsOf (d :: r))).length == 1) = true := by
        simp [pdsOf, PyData.shownAll]
      rw [if_neg this, c3]
      simp [rts, tails]
/-- what is shown of terms tells them -/
theorem shown_inj {a b : D} (ha : TmL a) (hb : TmL b) (h : PyData.shown (pdOf a) = PyData.shown (pdOf b)) : a = b := by
  have e : rt a ++ [] = rt b ++ [] := by rw [← shown_rt ha, ← shown_rt hb, h]
  exact (rt_tells ha b [] [] hb e).1
end Fm
set_option maxRecDepth 100000
set_option maxHeartbeats 2000000
namespace Fm
open PySem PySem.Spec PyProof.Rows L2
def okL (x : Str) : Bool := x.cps.all fun c => decide (97 ≤ c) && decide (c ≤ 122)
theorem okL_iff {x : Str} : okL x = true ↔ Low x := by
  unfold okL Low
  rw [Array.all_eq_true_iff_forall_mem]
  constructor
  · intro h c hc
    have := h c (Array.mem_toList_iff.mp hc)
    simpa using this
  · intro h c hc
    simpa using h c (Array.mem_toList_iff.mpr hc)
theorem okL_ok {x : Str} (h : okL x = true) : PyData.strOk x = true := by
  have l := okL_iff.mp h
  unfold PyData.strOk
  rw [Array.all_eq_true_iff_forall_mem]
  intro c hc
  have := l c (Array.mem_toList_iff.mpr hc)
  simp
  omega
theorem okL_part {x y : Str} (h : okL x = true) (k : ∀ c ∈ y.cps.toList, c ∈ x.cps.toList) : okL y = true :=
  okL_iff.mpr fun c hc => okL_iff.mp h c (k c hc)
theorem okL_app {x y : Str} (hx : okL x = true) (hy : okL y = true) : okL (x ++ y) = true := by
  refine okL_iff.mpr fun c hc => ?_
  rw [cps_app] at hc
  rcases List.mem_append.mp hc with h | h
  · exact okL_iff.mp hx c h
  · exact okL_iff.mp hy c h
theorem okL_join {ys : List Str} (h : ∀ y ∈ ys, okL y = true) : okL (Txt.join "" ys) = true := by
  have e : Txt.join "" ys = Str.join "" ys := StrLaws.glued_eq_join _ _
  rw [e]
  clear e
  induction ys with
  | nil => decide +kernel
  | cons x r ih =>
    cases r with
    | nil => exact h x List.mem_cons_self
    | cons y r => exact okL_app (okL_app (h x List.mem_cons_self) (by decide +kernel)) (ih fun z hz => h z (List.mem_cons_of_mem _ hz))
theorem okL_cut {x : Str} {lo hi : Option Int} (h : okL x = true) : okL (cutS x lo hi) = true := by
  refine okL_part h fun c hc => ?_
  have e : (cutS x lo hi).cps.toList = (x.cps.toList.drop (HT.sIx x.cps.toList.length 0 lo)).take (HT.sIx x.cps.toList.length x.cps.toList.length hi - HT.sIx x.cps.toList.length 0 lo) := by
    first | rfl | simp [cutS]
  rw [e] at hc
  exact List.mem_of_mem_drop (List.mem_of_mem_take hc)
theorem dvl_strsL {H : Hp} {m : Nat} : ∀ {acc : List V} {ds : List D}, DvL H acc ds → (∀ d ∈ ds, ∃ x, d = .str x ∧ okL x = true ∧ x.length ≤ m) → ∃ ys : List Str, acc = ys.map V.str ∧ (∀ y ∈ ys, okL y = true ∧ y.length ≤ m) ∧ ys.length = ds.length
  | _, _, .nil, _ => ⟨[], rfl, fun _ h => (by cases h), rfl⟩
  | _, _, .cons a b, h => by
    obtain ⟨ys, e, f, g⟩ := dvl_strsL b fun d hd => h d (List.mem_cons_of_mem _ hd)
    obtain ⟨x, rfl, o, l⟩ := h _ List.mem_cons_self
    cases a
    refine ⟨x :: ys, by rw [e]; rfl, fun y hy => ?_, by simp [g]⟩
    rcases List.mem_cons.mp hy with rfl | hy
    · exact ⟨o, l⟩
    · exact f y hy
theorem sign_atL {x : Str} {i : Int} (h0 : 0 ≤ i) (h1 : i < x.length) : ∃ c, atI x.cps.toList i = some c ∧ (okL x = true → okL ⟨#[c]⟩ = true) := by
  obtain ⟨k, rfl⟩ := Int.eq_ofNat_of_zero_le h0
  have l : x.cps.toList.length = x.length := by simp [Str.length]
  have lt : k < x.cps.toList.length := by omega
  refine ⟨x.cps.toList[k], atI_nat (List.getElem?_eq_getElem lt), fun o => okL_part o fun c hc => ?_⟩
  simp only [List.mem_singleton] at hc
  rw [hc]
  exact List.getElem_mem lt
/-- some names of small letters -/
def spNamesL : Sp := fun vs H Q _ => ∃ b p n, vs = [.ref b, .int n] ∧ Bag b p H ∧ 0 ≤ n ∧ n ≤ 20 ∧
  ∀ (l : Addr) (H' : Hp) (xs : List Str), Go b p H H' → newof H H' l = some (.lst (xs.map V.str)) → (xs.length : Int) = n → (∀ x ∈ xs, okL x = true ∧ x.length ≤ 30) → Q (.ref l) H'
structure NamesL (nm b : Addr) (H : Hp) (xs : List Str) : Prop where
  at_ : H nm = some (.lst (xs.map V.str))
  ne : nm ≠ b
  pos : 1 ≤ xs.length
  few : xs.length ≤ 20
  ok : ∀ x ∈ xs, okL x = true ∧ x.length ≤ 30
theorem NamesL.go {nm b p : Addr} {H H' : Hp} {xs : List Str} (N : NamesL nm b H xs) (g : Go b p H H') : NamesL nm b H' xs := ⟨g.at N.ne N.at_, N.ne, N.pos, N.few, N.ok⟩
theorem NamesL.get {nm b : Addr} {H : Hp} {xs : List Str} (N : NamesL nm b H xs) {i : Int} (h0 : 0 ≤ i) (h1 : i < xs.length) : ∃ x, atI (xs.map V.str) i = some (.str x) ∧ okL x = true ∧ x.length ≤ 30 := by
  obtain ⟨k, rfl⟩ := Int.eq_ofNat_of_zero_le h0
  have lt : k < xs.length := by omega
  refine ⟨xs[k], atI_nat ?_, N.ok _ (List.getElem_mem lt)⟩
  rw [List.getElem?_map, List.getElem?_eq_getElem lt]
  rfl
def spTermL (m : Nat) : Sp := fun vs H Q _ => ∃ (b p nm : Addr) (xs : List Str) (many : Int) (k : Nat) (deep : Int), vs = [.ref b, .ref nm, .int many, .int deep] ∧ deep = (k : Int) ∧ Bag b p H ∧ NamesL nm b H xs ∧ 0 < many ∧ many ≤ 10 ∧ k < m ∧ k ≤ 100 ∧
  ∀ v H' d, Go b p H H' → Dv (newof H H') v d → TmL d → Sized k d → UnkL many k d → Q v H'
theorem TmL.tm {d : D} (h : TmL d) : Tm d := by
  induction h with
  | int i _ => exact .int _
  | tup x ds _ _ ih => exact .tup x ds ih
section
variable {X : Cx}
/-- x in a list of data -/
def rInD (K : PySem.W.Frag) (neg : Bool) : R2 := fun x y H Q => ∃ (d : PyData) (ds : List PyData), Dp K H x d ∧ Dp K H y (.list ds) ∧ PyData.canLayAll0 ds = true ∧ d.canLay0 = true ∧ min (PyData.depthAll ds) d.depth < 60 ∧
  Q (.bl (if neg then !(ds.any fun e => PyData.eqv e d) else ds.any fun e => PyData.eqv e d)) H
theorem op_inD (hu : X.A.units + 64 < cLine) : OpR X (compareOp .In) (rInD X.K false) := by
  intro pins s σ H x y v u Q I rx ry h
  obtain ⟨d, ds, hd, he, sd, se, dz, q⟩ := h
  obtain ⟨as, r1⟩ := Dp.reads I d x v hd rx
  obtain ⟨bs, r2⟩ := Dp.reads I _ y u he ry
  exact SeqAt.in_list_reads r2 r1 sd se (by omega) ⟨.bl _, H, I, rfl, q⟩
theorem op_niD (hu : X.A.units + 64 < cLine) : OpR X (compareOp .NotIn) (rInD X.K true) := by
  intro pins s σ H x y v u Q I rx ry h
  obtain ⟨d, ds, hd, he, sd, se, dz, q⟩ := h
  obtain ⟨as, r1⟩ := Dp.reads I d x v hd rx
  obtain ⟨bs, r2⟩ := Dp.reads I _ y u he ry
  exact SeqAt.notIn_list_reads r2 r1 sd se (by omega) ⟨.bl _, H, I, rfl, q⟩
end
end Fm
set_option maxRecDepth 100000
set_option maxHeartbeats 2000000
/-! worlds: what the law's dicts are -/
namespace Fm
open PySem PySem.Spec PyProof.Rows L2
abbrev Outs := List (Str × Int)
abbrev Acts := List (Str × (Int × Outs))
/-- the names of an association list differ -/
def Nds {α : Type} (l : List (Str × α)) : Prop := (l.map (·.1)).Nodup
structure OutsOk (o : Outs) : Prop where
  nd : Nds o
  lo : 1 ≤ o.length
  hi : o.length ≤ 6
  ok : ∀ p ∈ o, isOutS p.1 = true ∧ PyData.strOk p.1 = true ∧ p.1.length ≤ 20 ∧ 0 ≤ p.2 ∧ p.2 < 3
structure ActsOk (l : Acts) : Prop where
  nd : Nds l
  hi : l.length ≤ 20
  ok : ∀ p ∈ l, isNameS p.1 = true ∧ PyData.strOk p.1 = true ∧ p.1.length ≤ 20 ∧ 0 ≤ p.2.1 ∧ p.2.1 < 3 ∧ OutsOk p.2.2
def kO (o : Outs) : List (Key × V) := o.map fun p => (.inr p.1, V.int p.2)
/-- a dict of outcomes -/
def OutsAt (H : Hp) (d : Addr) (o : Outs) : Prop := H d = some (.dK (kO o))
/-- an act: a pair of a number and such a dict -/
def ActAt (H : Hp) (v : V) (a : Int × Outs) : Prop := ∃ t d, v = .ref t ∧ H t = some (.tup [.int a.1, .ref d]) ∧ OutsAt H d a.2
inductive ActsL (H : Hp) : List (Key × V) → Acts → Prop
  | nil : ActsL H [] []
  | cons {n : Str} {v : V} {a : Int × Outs} {ks : List (Key × V)} {l : Acts} : ActAt H v a → ActsL H ks l → ActsL H ((.inr n, v) :: ks) ((n, a) :: l)
/-- a dict of acts -/
def ActsAt (H : Hp) (p : Addr) (l : Acts) : Prop := ∃ ks, H p = some (.dK ks) ∧ ActsL H ks l
theorem OutsAt.same {H H' : Hp} {d : Addr} {o : Outs} (h : OutsAt H d o) (k : Same H H') : OutsAt H' d o := k _ _ h
theorem ActAt.same {H H' : Hp} {v : V} {a : Int × Outs} (h : ActAt H v a) (k : Same H H') : ActAt H' v a := by
  obtain ⟨t, d, e, h1, h2⟩ := h
  exact ⟨t, d, e, k _ _ h1, h2.same k⟩
theorem ActsL.same {H H' : Hp} {ks : List (Key × V)} {l : Acts} (h : ActsL H ks l) (k : Same H H') : ActsL H' ks l := by
  induction h with
  | nil => exact .nil
  | cons a _ ih => exact .cons (a.same k) ih
theorem ActsAt.same {H H' : Hp} {p : Addr} {l : Acts} (h : ActsAt H p l) (k : Same H H') : ActsAt H' p l := by
  obtain ⟨ks, h1, h2⟩ := h
  exact ⟨ks, k _ _ h1, h2.same k⟩
theorem ActsL.keys {H : Hp} {ks : List (Key × V)} {l : Acts} (h : ActsL H ks l) : ks.map (·.1) = (l.map (·.1)).map Sum.inr := by
  induction h with
  | nil => rfl
  | cons a _ ih => simp only [List.map_cons, ih]
theorem ActsL.len {H : Hp} {ks : List (Key × V)} {l : Acts} (h : ActsL H ks l) : ks.length = l.length := by
  have := congrArg List.length h.keys
  simpa using this
/-- what stands at the i-th place -/
theorem ActsL.get {H : Hp} {ks : List (Key × V)} {l : Acts} (h : ActsL H ks l) : ∀ {i : Nat} {k : Key} {v : V}, ks[i]? = some (k, v) → ∃ n a, l[i]? = some (n, a) ∧ k = .inr n ∧ ActAt H v a := by
  induction h with
  | nil => intro i k v e; simp at e
  | cons a _ ih =>
    intro i k v e
    cases i with
    | zero =>
      cases e
      exact ⟨_, _, rfl, rfl, a⟩
    | succ i => exact ih e
/-- looked up by name -/
theorem ActsL.look {H : Hp} {ks : List (Key × V)} {l : Acts} (h : ActsL H ks l) (n : Str) : (valV ks (.inr n) = none ∧ l.lookup n = none) ∨ ∃ v a, valV ks (.inr n) = some v ∧ l.lookup n = some a ∧ ActAt H v a := by
  induction h with
  | nil => exact .inl ⟨rfl, rfl⟩
  | @cons m v a ks l ha _ ih =>
    by_cases c : n = m
    · subst c
      refine .inr ⟨v, a, ?_, ?_, ha⟩
      · simp [valV]
      · simp [List.lookup]
    · have e1 : valV ((.inr m, v) :: ks) (.inr n : Key) = valV ks (.inr n) := by
        simp [valV, Ne.symm c]
      have e2 : List.lookup n ((m, a) :: l) = List.lookup n l := by
        rw [List.lookup_cons]
        have : (n == m) = false := by simpa using c
        rw [this]
      rw [e1, e2]
      exact ih
/-- a comprehension whose turns give f 0, f 1, .. and leave what stood -/
theorem lc_itF {J : It} {n : Nat} {G : Hp → Prop} {Y : Nat → Hp → V → Hp → Prop} (w : Walk J n G Y) {g : TG} {tt : TT} {te : TE} {vs : List Nat} {σ : L2.St} {H : Hp} {Dl : Addr} {Qd : Hp → Prop} (f : Nat → V) (hD : H Dl = none) (hz : n ≤ 100000)
    (hG : ∀ H', Same H H' → G H')
    (hv : ∀ (i : Nat) (x : V) (H' H2 : Hp) (R : VK) (Nx : Hp → Prop), i < n → Same H H' → Y i H' x H2 → (∀ H3, Same H' H3 → R (f i) H3) → g x (wipe σ vs) H2 fun σ2 H3 => wipe σ2 vs = wipe σ vs ∧ tt σ2 H3 fun b H4 => if b = true then te σ2 H4 R else Nx H4)
    (q : ∀ H', Same H H' → H' Dl = some (.lst ((List.range n).map f)) → Qd H') :
    ∃ W : Nat → Nat → Hp → Prop, (∃ m, W 0 m (upd H Dl (.lst []))) ∧ ∀ i m H, W i m H →
      (J.stop i H ∧ Qd H) ∨ (J.go i H ∧ ∃ Nx : Hp → Prop, (∀ H', Nx H' → ∃ m', m' < m ∧ W (i + 1) m' H') ∧ ∀ x H', J.yld i H x H' → g x (wipe σ vs) H' fun σ2 H2 => wipe σ2 vs = wipe σ vs ∧ tt σ2 H2 fun b H3 =>
        if b = true then te σ2 H3 fun y H4 => ∃ acc, H4 Dl = some (.lst acc) ∧ acc.length < sizeLine ∧ Nx (upd H4 Dl (.lst (acc ++ [y]))) else Nx H3) := by
  refine lc_it w (fun i H' => Same H H' ∧ H' Dl = some (.lst ((List.range i).map f))) ⟨Same.new hD, upd_same⟩ (fun i H' _ h => hG H' h.1) ?_ (fun H' h => q H' h.1 h.2)
  rintro i x H1 H2 hi ⟨k, hl⟩ y
  refine hv i x H1 H2 _ _ hi k y fun H3 k3 => ⟨_, k3 _ _ hl, ?_, Same.upd (k.trans k3) hD, ?_⟩
  · rw [List.length_map, List.length_range]
    exact szl (by omega)
  · rw [List.range_succ, List.map_append]
    exact upd_same
/-- behind a locked dict: what stood stands -/
theorem lock_back {H H' : Hp} {d : Addr} {u : HO} {od : Obj} (hu : H d = some u) (k : Same (upd H d (.frz od u)) H') : Same H (upd H' d u) := fun a o e => by
  by_cases c : a = d
  · rw [c] at e ⊢
    rw [upd_same, ← e]
    exact hu.symm
  · rw [upd_ne c]
    exact k a o (by rw [upd_ne c]; exact e)
theorem acts_mem {l : Acts} {n : Str} {a : Int × Outs} (h : l.lookup n = some a) : (n, a) ∈ l := by
  induction l with
  | nil => cases h
  | cons p l ih =>
    obtain ⟨m, b⟩ := p
    rw [List.lookup_cons] at h
    by_cases c : n = m
    · subst c
      simp only [beq_self_eq_true] at h
      cases h
      exact List.mem_cons_self
    · have : (n == m) = false := by simpa using c
      rw [this] at h
      exact List.mem_cons_of_mem _ (ih h)
theorem acts_look {l : Acts} {n : Str} (h : n ∈ l.map (·.1)) : ∃ a, l.lookup n = some a := by
  induction l with
  | nil => cases h
  | cons p l ih =>
    obtain ⟨m, b⟩ := p
    rw [List.lookup_cons]
    by_cases c : n = m
    · subst c
      simp
    · have : (n == m) = false := by simpa using c
      rw [this]
      rcases List.mem_cons.mp h with h | h
      · exact absurd h c
      · exact ih h
/-- a dict comprehension over what is walked -/
theorem dc_it {J : It} {n : Nat} {G : Hp → Prop} {Y : Nat → Hp → V → Hp → Prop} (w : Walk J n G Y) {g : TG} {tt : TT} {tk tv : TE} {vs : List Nat} {σ : L2.St} {H1 : Hp} {D : Addr} {Qd : Hp → Prop} (Pv : Nat → Hp → Prop) (h0 : Pv 0 (upd H1 D (.dK []))) (hG : ∀ i H, i ≤ n → Pv i H → G H)
    (hs : ∀ i x H H', i < n → Pv i H → Y i H x H' → g x (wipe σ vs) H' fun σ2 H2 => wipe σ2 vs = wipe σ vs ∧ tt σ2 H2 fun b H3 =>
      if b = true then tk σ2 H3 fun y H4 => tv σ2 H4 fun z H5 => ∃ kvs k, y = kV k ∧ H5 D = some (.dK kvs) ∧ kvs.length < sizeLine ∧ Pv (i + 1) (upd H5 D (.dK (putK kvs k z))) else Pv (i + 1) H3) (hd : ∀ H, Pv n H → Qd H) :
    ∃ W : Nat → Nat → Hp → Prop, (∃ m, W 0 m (upd H1 D (.dK []))) ∧ ∀ i m H, W i m H →
      (J.stop i H ∧ Qd H) ∨ (J.go i H ∧ ∃ Nx : Hp → Prop, (∀ H', Nx H' → ∃ m', m' < m ∧ W (i + 1) m' H') ∧ ∀ x H', J.yld i H x H' → g x (wipe σ vs) H' fun σ2 H2 => wipe σ2 vs = wipe σ vs ∧ tt σ2 H2 fun b H3 =>
        if b = true then tk σ2 H3 fun y H4 => tv σ2 H4 fun z H5 => ∃ kvs k, y = kV k ∧ H5 D = some (.dK kvs) ∧ kvs.length < sizeLine ∧ Nx (upd H5 D (.dK (putK kvs k z))) else Nx H3) := by
  refine ⟨fun i m H => m = n - i ∧ i ≤ n ∧ Pv i H, ⟨n, rfl, Nat.zero_le _, h0⟩, fun i m H y => ?_⟩
  obtain ⟨rfl, hi, p⟩ := y
  have gg := hG i H hi p
  rcases Nat.lt_or_ge i n with lt | ge
  · exact .inr ⟨w.goes i H lt gg, Pv (i + 1), fun H' p' => ⟨n - (i + 1), by omega, rfl, lt, p'⟩, fun x H' y => hs i x H H' lt p (w.yields i H x H' lt gg y)⟩
  · have e : i = n := by omega
    subst e
    exact .inl ⟨w.stops H gg, hd H p⟩
theorem valV_no {kvs : List (Key × V)} {k : Key} (h : ∀ p ∈ kvs, p.1 ≠ k) : valV kvs k = none := by
  induction kvs with
  | nil => rfl
  | cons p r ih =>
    rw [valV_neg (h p List.mem_cons_self)]
    exact ih fun q hq => h q (List.mem_cons_of_mem _ hq)
theorem nds_take {α : Type} {l : List (Str × α)} (nd : Nds l) {i : Nat} {n : Str} {a : α} (h : l[i]? = some (n, a)) : ∀ p ∈ l.take i, p.1 ≠ n := by
  intro p hp e
  obtain ⟨j, hj, hpj⟩ := List.mem_iff_getElem.mp hp
  have lj : j < i := by rw [List.length_take] at hj; omega
  have pw := List.pairwise_iff_getElem.mp nd
  obtain ⟨hi, hv⟩ := List.getElem?_eq_some_iff.mp h
  have q := pw j i (by rw [List.length_map]; omega) (by rw [List.length_map]; exact hi) lj
  rw [List.getElem_map, List.getElem_map, hv] at q
  rw [List.getElem_take] at hpj
  rw [hpj] at q
  exact q e
theorem look_get {l : Acts} (nd : Nds l) {i : Nat} {n : Str} {a : Int × Outs} (h : l[i]? = some (n, a)) : l.lookup n = some a := by
  induction l generalizing i with
  | nil => simp at h
  | cons p l ih =>
    obtain ⟨m, b⟩ := p
    rw [List.lookup_cons]
    obtain ⟨n1, n2⟩ := List.nodup_cons.mp nd
    cases i with
    | zero =>
      cases h
      simp
    | succ i =>
      have h' : l[i]? = some (n, a) := h
      have mem : n ∈ l.map (·.1) := List.mem_map.mpr ⟨_, List.mem_of_getElem? h', rfl⟩
      have ne : (n == m) = false := by
        rw [beq_eq_false_iff_ne]
        intro e
        rw [e] at mem
        exact n1 mem
      rw [ne]
      exact ih n2 h'
/-- the numbers of the acts -/
def kA (l : Acts) : List (Key × V) := l.map fun p => (.inr p.1, V.int p.2.1)
theorem kA_step {l : Acts} (nd : Nds l) {i : Nat} {n : Str} {a : Int × Outs} (h : l[i]? = some (n, a)) : putK ((kA l).take i) (.inr n) (.int a.1) = (kA l).take (i + 1) := by
  have e1 : (kA l)[i]? = some (.inr n, .int a.1) := by
    unfold kA
    rw [List.getElem?_map, h]
    rfl
  rw [putK_new _ (valV_no ?_), List.take_add_one, e1]
  · rfl
  · intro p hp e
    unfold kA at hp
    rw [← List.map_take] at hp
    obtain ⟨q, hq, rfl⟩ := List.mem_map.mp hp
    exact nds_take nd h q hq (Sum.inr.inj e)
/-- the dict of what the acts bring: each act's outcomes in a dict of their own -/
inductive BringsL (H : Hp) : List (Key × V) → Acts → Prop
  | nil : BringsL H [] []
  | cons {n : Str} {d : Addr} {a : Int × Outs} {ks : List (Key × V)} {l : Acts} : OutsAt H d a.2 → BringsL H ks l → BringsL H ((.inr n, .ref d) :: ks) ((n, a) :: l)
theorem BringsL.same {H H' : Hp} {ks : List (Key × V)} {l : Acts} (h : BringsL H ks l) (k : Same H H') : BringsL H' ks l := by
  induction h with
  | nil => exact .nil
  | cons a _ ih => exact .cons (a.same k) ih
theorem BringsL.keys {H : Hp} {ks : List (Key × V)} {l : Acts} (h : BringsL H ks l) : ks.map (·.1) = (l.map (·.1)).map Sum.inr := by
  induction h with
  | nil => rfl
  | cons a _ ih => simp only [List.map_cons, ih]
theorem BringsL.len {H : Hp} {ks : List (Key × V)} {l : Acts} (h : BringsL H ks l) : ks.length = l.length := by
  have := congrArg List.length h.keys
  simpa using this
theorem BringsL.snoc {H : Hp} {ks : List (Key × V)} {l : Acts} (h : BringsL H ks l) {n : Str} {d : Addr} {a : Int × Outs} (o : OutsAt H d a.2) : BringsL H (ks ++ [(.inr n, .ref d)]) (l ++ [(n, a)]) := by
  induction h with
  | nil => exact .cons o .nil
  | cons b _ ih => exact .cons b ih
theorem BringsL.step {H : Hp} {ks : List (Key × V)} {l : Acts} (nd : Nds l) {i : Nat} (h : BringsL H ks (l.take i)) {n : Str} {d : Addr} {a : Int × Outs} (e : l[i]? = some (n, a)) (o : OutsAt H d a.2) : BringsL H (putK ks (.inr n) (.ref d)) (l.take (i + 1)) := by
  rw [putK_new _ (valV_no ?_), List.take_add_one, e]
  · exact h.snoc o
  · intro p hp e2
    have m : p.1 ∈ ks.map (·.1) := List.mem_map.mpr ⟨p, hp, rfl⟩
    rw [h.keys] at m
    obtain ⟨x, hx, hx2⟩ := List.mem_map.mp m
    obtain ⟨q, hq, rfl⟩ := List.mem_map.mp hx
    rw [← hx2] at e2
    exact nds_take nd e q hq (Sum.inr.inj e2)
theorem BringsL.mono {H H' : Hp} {ks : List (Key × V)} {l : Acts} (h : BringsL H ks l) (f : ∀ d o, OutsAt H d o → OutsAt H' d o) : BringsL H' ks l := by
  induction h with
  | nil => exact .nil
  | cons a _ ih => exact .cons (f _ _ a) ih
end Fm
set_option maxRecDepth 100000
set_option maxHeartbeats 2000000
/-! names that the document calls names -/
namespace Fm
open PySem PySem.Spec PyProof.Rows L2
theorem sign_low : ∀ k, k < 26 → signOk ⟨#[97 + k]⟩ = true := by decide +kernel
theorem isNameS_low {x : Str} (h : okL x = true) (h1 : 1 ≤ x.length) (h8 : x.length ≤ 8) : isNameS x = true := by
  unfold isNameS
  rw [decide_eq_true h1, decide_eq_true h8, Bool.true_and, Bool.true_and, List.all_eq_true]
  intro y hy
  unfold signs at hy
  obtain ⟨c, hc, rfl⟩ := List.mem_map.mp hy
  obtain ⟨l1, l2⟩ := okL_iff.mp h c hc
  obtain ⟨k, rfl⟩ : ∃ k, c = 97 + k := ⟨c - 97, by omega⟩
  exact sign_low k (by omega)
theorem cut_len {x : Str} {lo hi : Option Int} : (cutS x lo hi).length = min (HT.sIx x.length x.length hi - HT.sIx x.length 0 lo) (x.length - HT.sIx x.length 0 lo) := by
  have l : x.cps.toList.length = x.length := by simp [Str.length]
  unfold cutS
  show (List.toArray _).size = _
  rw [List.size_toArray, List.length_take, List.length_drop, l]
theorem cut_two {x : Str} {a : Int} (h0 : 0 ≤ a) : (cutS x none (some a)).length + (cutS x (some a) none).length = x.length := by
  rw [cut_len, cut_len, sIx_none, sIx_none, sIx_at h0, sIx_at h0]
  omega
theorem dvl_strsK {H : Hp} : ∀ {acc : List V} {ds : List D}, DvL H acc ds → (∀ d ∈ ds, ∃ x, d = .str x ∧ okL x = true ∧ 1 ≤ x.length ∧ x.length ≤ 8) → ∃ ys : List Str, acc = ys.map V.str ∧ (∀ y ∈ ys, okL y = true ∧ 1 ≤ y.length ∧ y.length ≤ 8) ∧ ys.length = ds.length
  | _, _, .nil, _ => ⟨[], rfl, fun _ h => (by cases h), rfl⟩
  | _, _, .cons a b, h => by
    obtain ⟨ys, e, f, g⟩ := dvl_strsK b fun d hd => h d (List.mem_cons_of_mem _ hd)
    obtain ⟨x, rfl, o, l⟩ := h _ List.mem_cons_self
    cases a
    refine ⟨x :: ys, by rw [e]; rfl, fun y hy => ?_, by simp [g]⟩
    rcases List.mem_cons.mp hy with rfl | hy
    · exact ⟨o, l⟩
    · exact f y hy
/-- some names of one to eight small letters -/
def spNamesK : Sp := fun vs H Q _ => ∃ b p n, vs = [.ref b, .int n] ∧ Bag b p H ∧ 0 ≤ n ∧ n ≤ 20 ∧
  ∀ (l : Addr) (H' : Hp) (xs : List Str), Go b p H H' → newof H H' l = some (.lst (xs.map V.str)) → (xs.length : Int) = n → (∀ x ∈ xs, okL x = true ∧ 1 ≤ x.length ∧ x.length ≤ 8) → Q (.ref l) H'
/-- stored under a name -/
def putS {α : Type} (l : List (Str × α)) (n : Str) (a : α) : List (Str × α) := if (l.any fun p => decide (p.1 = n)) = true then l.map (fun p => if p.1 = n then (p.1, a) else p) else l ++ [(n, a)]
section
variable {α : Type} {l : List (Str × α)} {n : Str} {a : α}
theorem mem_putS {p : Str × α} (h : p ∈ putS l n a) : p ∈ l ∨ p = (n, a) := by
  unfold putS at h
  split at h
  · obtain ⟨q, hq, rfl⟩ := List.mem_map.mp h
    by_cases c : q.1 = n
    · rw [if_pos c, c]; exact .inr rfl
    · rw [if_neg c]; exact .inl hq
  · rcases List.mem_append.mp h with h | h
    · exact .inl h
    · exact .inr (List.mem_singleton.mp h)
theorem len_putS : (putS l n a).length ≤ l.length + 1 ∧ 1 ≤ (putS l n a).length := by
  unfold putS
  split
  · rename_i h
    rw [List.length_map]
    refine ⟨Nat.le_succ _, ?_⟩
    cases l with
    | nil => simp at h
    | cons _ _ => simp
  · rw [List.length_append]
    exact ⟨Nat.le_refl _, Nat.le_add_left _ _⟩
theorem nds_putS (nd : Nds l) : Nds (putS l n a) := by
  unfold putS Nds
  split
  · have e : (l.map fun p => if p.1 = n then (p.1, a) else p).map (·.1) = l.map (·.1) := by
      rw [List.map_map]
      refine List.map_congr_left fun p _ => ?_
      show (if p.1 = n then (p.1, a) else p).1 = p.1
      split <;> rfl
    rw [e]
    exact nd
  · rename_i h
    rw [List.map_append]
    refine List.nodup_append.mpr ⟨nd, by simp, fun x hx y hy => ?_⟩
    obtain ⟨p, hp, rfl⟩ := List.mem_map.mp hx
    simp only [List.map_cons, List.map_nil, List.mem_singleton] at hy
    subst hy
    intro e
    exact h (List.any_eq_true.mpr ⟨p, hp, decide_eq_true e⟩)
end
theorem any_keys {α : Type} {l : List (Str × α)} {ks : List (Key × V)} (h : ks.map (·.1) = (l.map (·.1)).map Sum.inr) (n : Str) : (ks.any fun kv => decide (kv.1 = (.inr n : Key))) = l.any fun p => decide (p.1 = n) := by
  induction ks generalizing l with
  | nil =>
    cases l with
    | nil => rfl
    | cons p l => simp at h
  | cons k ks ih =>
    cases l with
    | nil => simp at h
    | cons p l =>
      simp only [List.map_cons, List.cons.injEq] at h
      rw [List.any_cons, List.any_cons, ih h.2, h.1]
      congr 1
      rw [Bool.eq_iff_iff, decide_eq_true_iff, decide_eq_true_iff]
      exact ⟨fun e => Sum.inr.inj e, fun e => congrArg Sum.inr e⟩
theorem kO_put (o : Outs) (n : Str) (i : Int) : putK (kO o) (.inr n) (.int i) = kO (putS o n i) := by
  have e := any_keys (l := o) (ks := kO o) (by unfold kO; rw [List.map_map, List.map_map]; rfl) n
  unfold putK putS
  rw [e]
  split
  · unfold kO
    rw [List.map_map, List.map_map]
    refine List.map_congr_left fun p _ => ?_
    show (if (Sum.inr p.1 : Key) = Sum.inr n then ((Sum.inr p.1 : Key), V.int i) else (Sum.inr p.1, V.int p.2)) = (Sum.inr (if p.1 = n then (p.1, i) else p).1, V.int (if p.1 = n then (p.1, i) else p).2)
    by_cases c : p.1 = n
    · rw [if_pos c, if_pos (congrArg Sum.inr c)]
    · rw [if_neg c, if_neg (fun z => c (Sum.inr.inj z))]
  · unfold kO
    rw [List.map_append]
    rfl
theorem ActsL.app {H : Hp} {ks : List (Key × V)} {l : Acts} (h : ActsL H ks l) {n : Str} {v : V} {a : Int × Outs} (o : ActAt H v a) : ActsL H (ks ++ [(.inr n, v)]) (l ++ [(n, a)]) := by
  induction h with
  | nil => exact .cons o .nil
  | cons b _ ih => exact .cons b ih
theorem ActsL.map {H : Hp} {ks : List (Key × V)} {l : Acts} (h : ActsL H ks l) {n : Str} {v : V} {a : Int × Outs} (o : ActAt H v a) :
    ActsL H (ks.map fun kv => if kv.1 = (.inr n : Key) then (kv.1, v) else kv) (l.map fun p => if p.1 = n then (p.1, a) else p) := by
  induction h with
  | nil => exact .nil
  | @cons m w b ks l hb _ ih =>
    rw [List.map_cons, List.map_cons]
    by_cases c : m = n
    · rw [if_pos (congrArg Sum.inr c), if_pos c]
      exact .cons o ih
    · rw [if_neg (fun z => c (Sum.inr.inj z)), if_neg c]
      exact .cons hb ih
theorem ActsL.put {H : Hp} {ks : List (Key × V)} {l : Acts} (h : ActsL H ks l) {n : Str} {v : V} {a : Int × Outs} (o : ActAt H v a) : ActsL H (putK ks (.inr n) v) (putS l n a) := by
  unfold putK putS
  rw [any_keys h.keys n]
  split
  · exact h.map o
  · exact h.app o
/-- a name of the law -/
def NmOk (x : Str) : Prop := okL x = true ∧ 1 ≤ x.length ∧ x.length ≤ 8
structure OutsSm (o : Outs) : Prop where
  nd : Nds o
  lo : 1 ≤ o.length
  hi : o.length ≤ 3
  ok : ∀ p ∈ o, NmOk p.1 ∧ 0 ≤ p.2 ∧ p.2 < 3
structure ActsSm (k : Nat) (l : Acts) : Prop where
  nd : Nds l
  hi : l.length ≤ k
  ok : ∀ p ∈ l, NmOk p.1 ∧ 0 ≤ p.2.1 ∧ p.2.1 < 3 ∧ OutsSm p.2.2
theorem newof_updn {H H2 : Hp} {l : Addr} {o : HO} (h : H l = none) : newof H (upd H2 l o) = upd (newof H H2) l o := by
  funext a
  unfold newof
  by_cases c : a = l
  · rw [c, h, upd_same, upd_same]
  · rw [upd_ne c, upd_ne c]
end Fm
set_option maxRecDepth 100000
set_option maxHeartbeats 2000000
/-! sorted(d.items()): pairs of a text and an int -/
namespace Fm
open PySem PySem.Spec PyProof.Rows L2
section
variable {prog : Program} {w : World} {A : Around} {E : Value → Shared → Prop} {s : Shared}
/-- v is a tuple of a text and an int in the heap -/
def IsSI (h : Heap) (v : Value) (x : Str) (y : Int) : Prop := ∃ a o t u n, v = .ref a ∧ h.get? a = some o ∧ o.cls = .type "tuple" ∧ o.data = .seq #[.str x t, .int y u] n
theorem IsSI.keeps {h h' : Heap} {v : Value} {x : Str} {y : Int} (p : IsSI h v x y) (k : ∀ b o, h.get? b = some o → o.cls = .type "tuple" → h'.get? b = some o) : IsSI h' v x y := by
  obtain ⟨a, o, t, u, n, e, ho, hc, hd⟩ := p
  exact ⟨a, o, t, u, n, e, k _ _ ho hc, hc, hd⟩
theorem si_tot {vs : List Value} (hp : ∀ v ∈ vs, ∃ x y, IsSI s.heap v x y) : Srt.Tot prog w A s (tuples' true) (fun p => p.1 ∈ vs) := by
  intro p q hm hm'
  obtain ⟨x, y, a, o, t, u, n, e, ho, hc, hd⟩ := hp _ hm
  obtain ⟨x', y', a', o', t', u', n', e', ho', hc', hd'⟩ := hp _ hm'
  rw [e, e']
  refine ⟨if x = x' then (if y = y' then false else decide (y < y')) else decide (x.cps.toList < x'.cps.toList), ?_⟩
  refine PySem.W.kat_lt ho hd ho' hd' ?_
  show PySem.W.KatLex prog w A true (decide (2 < 2)) _ [(.str x t, .str x' t'), (.int y u, .int y' u')] 0 s
  refine PySem.W.kat_cons (SeqAt.EqAt.str_str x t x' t' prog w _ _ ?_)
  refine PySem.W.kat_go (fun e1 => ?_) (fun e1 => ?_)
  · have ex : x = x' := by simpa using e1
    refine PySem.W.kat_yes (PySem.W.kat_cons (SeqAt.EqAt.int_int y u y' u' prog w _ _ ?_))
    refine PySem.W.kat_go (fun e2 => ?_) (fun e2 => ?_)
    · have ey : y = y' := by simpa using e2
      have e3 : (if x = x' then (if y = y' then false else decide (y < y')) else decide (x.cps.toList < x'.cps.toList)) = false := by rw [if_pos ex, if_pos ey]
      exact PySem.W.kat_yes (PySem.W.kat_nil ⟨rfl, e3.symm⟩)
    · have ey : ¬ y = y' := by simpa using e2
      have e3 : (if x = x' then (if y = y' then false else decide (y < y')) else decide (x.cps.toList < x'.cps.toList)) = decide (y < y') := by rw [if_pos ex, if_neg ey]
      refine PySem.W.kat_no (PySem.W.kat_one _ _ (PyProof.Rows.lt_int ?_))
      exact (show s = s ∧ decide (y < y') = (if x = x' then (if y = y' then false else decide (y < y')) else decide (x.cps.toList < x'.cps.toList)) from ⟨rfl, e3.symm⟩)
  · have ex : ¬ x = x' := by simpa using e1
    have e3 : (if x = x' then (if y = y' then false else decide (y < y')) else decide (x.cps.toList < x'.cps.toList)) = decide (x.cps.toList < x'.cps.toList) := by rw [if_neg ex]
    exact PySem.W.kat_no (oneLt_any_str ⟨rfl, e3.symm⟩)
theorem si_firsts {h : Heap} : ∀ {vs : List Value}, (∀ v ∈ vs, ∃ x y, IsSI h v x y) → ∃ fs : List Value, PySem.W.KatTups h vs fs ∧ fs.length = vs.length ∧ ∀ f ∈ fs, ∃ x t, f = Value.str x t
  | [], _ => ⟨[], PySem.W.KatTups.nil, rfl, fun _ hm => by simp at hm⟩
  | v :: vs, hp => by
    obtain ⟨fs, h1, h2, h3⟩ := si_firsts (vs := vs) fun v' hm => hp v' (List.mem_cons_of_mem _ hm)
    obtain ⟨x, y, a, o, t, u, n, e, ho, hc, hd⟩ := hp v (List.mem_cons_self ..)
    subst e
    refine ⟨.str x t :: fs, PySem.W.KatTups.cons ho hc hd rfl h1, by rw [List.length_cons, List.length_cons, h2], fun f hm => ?_⟩
    rcases List.mem_cons.mp hm with rfl | hm
    · exact ⟨x, t, rfl⟩
    · exact h3 f hm
theorem si_sortable {a : Addr} {vs : List Value} (h0 : 0 < vs.length) (hp : ∀ v ∈ vs, ∃ x y, IsSI s.heap v x y) (ha : ∀ o, s.heap.get? a = some o → o.cls ≠ .type "tuple") : Srt.Sortable prog w A s a vs := by
  intro h' keep
  have hp' : ∀ v ∈ vs, ∃ x y, IsSI h' v x y := fun v hm => by
    obtain ⟨x, y, p⟩ := hp v hm
    exact ⟨x, y, p.keeps fun b o e c => keep b o (fun z => by subst z; exact ha o e c) e⟩
  obtain ⟨fs, h1, h2, h3⟩ := si_firsts hp'
  refine ⟨tuples' true, fun Q E hq => ?_, si_tot hp'⟩
  refine PySem.W.kat_kind (T := .type "str") h1 (by omega) (fun f hm => ?_) (by rfl) ?_
  · obtain ⟨x, t, rfl⟩ := h3 f hm
    exact PySem.W.Looks.now
  · have e : (Value.type "str" != Value.type "tuple") = true := by first | decide +kernel | rfl | decide
    rw [e]
    exact hq
end
section
variable {X : Cx}
/-- d.items() of a dict of names -/
def rItemsK : V → List V → Hp → VK → Prop := fun x xs H Q => ∃ (a : Addr) (kvs : List (Key × V)), x = .ref a ∧ xs = [] ∧ H a = some (.dK kvs) ∧ ∀ p, H p = none → Q (.ref p) (upd H p (L2.DX.itemsO p a))
theorem mt_itemsK : MtR X "dict.items" rItemsK := by
  intro pins s σ H x xs v us Q I rx rxs h
  obtain ⟨a, kvs, rfl, rfl, ha, q⟩ := h
  cases rx
  cases rxs
  obtain ⟨hz, hs0, vs, kv, hdo⟩ := I.hok a _ ha
  have hf : H s.heap.objs.size = none := I.hok.fresh (Nat.le_refl _)
  refine call_meetsIn PySem.F.slot_dict_items hdo.typeIs PySem.F.entry_dict_items (PySem.F.args_dict_items_1 _) (meets_dict_items (mixKind X.prog X.w) a hs0) ⟨⟨vs, hdo⟩, ?_⟩
  exact ⟨.ref s.heap.objs.size, upd H s.heap.objs.size (L2.DX.itemsO s.heap.objs.size a), I.laid (t' := s.toks) (fun b u e => Heap.get?_push_of_some _ e) (Nat.le_refl _) (L2.DX.itemsO_ok (Heap.get?_push_size _ rfl)), rfl, q _ hf⟩
/-- sorted(d.items()): the same pairs in some order -/
def rSortIK : List V → Hp → VK → Prop := fun vs H Q => ∃ (p a : Addr) (ks : Outs), vs = [.ref p] ∧ H p = some (L2.DX.itemsO p a) ∧ H a = some (.dK (kO ks)) ∧ 1 ≤ ks.length ∧ ks.length < 64 ∧
  ∀ (H' : Hp) (l : Addr) (zs : List (Addr × (Str × Int))), Same H H' → H l = none → (zs.map (·.2)).Perm ks → H' l = some (.lst (zs.map fun z => V.ref z.1)) → (∀ z ∈ zs, H' z.1 = some (.tup [.str z.2.1, .int z.2.2])) → Q (.ref l) H'
theorem cr_sortIK (hc : X.calm = true) : CallR X (.builtin "sorted") rSortIK := by
  intro pins s σ H xs us Q I r h
  obtain ⟨p, a, ks, rfl, hp, ha, h1k, h64, q⟩ := h
  obtain rfl := Vals.ref1 r
  have view : s.heap.IsItemsView p a := (show ObjOk X.prog X.w H s.heap p (L2.DX.itemsO p a) from I.hok p _ hp).1
  obtain ⟨hz, hs0, vs, kv, hdo⟩ := I.hok a _ ha
  obtain ⟨ep, hat⟩ := hdo.dictAt
  have lk : (kO ks).length = vs.length := Paired.length kv
  have lks : ks.length = vs.length := by rw [← lk]; unfold kO; rw [List.length_map]
  have hh : X.A.handled = none := I.ok.hd hc
  refine Calls.call_function_entry kind_sorted plain_sorted entry_sorted (args_sorted1 _) ?_
  unfold Builtin.«sorted»
  refine wpAny_bind (m := checkCount "sorted" 1 1 _) (wpAny_pure ?_)
  refine wpAny_bind (PySem.W.kdx_collect (A := X.A.in1) (knd := mixKind X.prog X.w) (kvs := vs) (ep := ep) hh view hat (by omega) fun h' tk as hk hl hG => ?_)
  have lak : as.length = ks.length := by omega
  have nd : as.Nodup := List.Pairwise.imp (fun {a b} (h : a < b) => Nat.ne_of_lt h) hG.rise
  refine wpAny_bind (wpAny_newList ?_ (by rw [List.length_map, sizeLine_eq]; omega))
  -- the pairs that were made
  have pr : ∀ (j : Nat) (b : Addr), as[j]? = some b → ∃ (e : Str × Int) (t u : Tok), ks[j]? = some e ∧ h'.get? b = some { cls := .type "tuple", data := .seq #[Value.str e.1 t, Value.int e.2 u] } := by
    intro j b hj
    obtain ⟨key, k, x, f1, f2, f3⟩ := hG.pairs j b hj
    obtain ⟨e0, g1, g2, g3⟩ := L2.DX.pget kv f1
    unfold kO at g1
    rw [List.getElem?_map] at g1
    cases hkj : ks[j]? with
    | none => rw [hkj] at g1; exact nomatch (show (none : Option (Key × V)) = some e0 from g1)
    | some e =>
      rw [hkj] at g1
      have ee : ((.inr e.1 : Key), V.int e.2) = e0 := Option.some.inj g1
      rw [← ee] at g2 g3
      have g2' : (.inr e.1 : Key) = k := g2
      have rk : RelV (kV (.inr e.1)) key := by
        rw [g2']
        exact relV_key (show keyIs k key = true from f2)
      obtain ⟨t, rfl⟩ := rk
      obtain ⟨u, rfl⟩ := g3
      exact ⟨e, t, u, rfl, f3⟩
  have hob : (h'.push { cls := .type "list", data := .seq (as.map Value.ref).toArray }).get? h'.objs.size = some (seqObj "list" (as.map Value.ref).toArray 0) := Heap.get?_push_size _ rfl
  have kb : ∀ b o, s.heap.get? b = some o → (h'.push { cls := .type "list", data := .seq (as.map Value.ref).toArray }).get? b = some o := fun b o e => Heap.get?_push_of_some _ (hk b o e)
  have ne0 : ∀ b o, h'.get? b = some o → b ≠ h'.objs.size := fun b o e => Nat.ne_of_lt (Heap.lt_size e)
  have hle : s.heap.objs.size ≤ h'.objs.size := by
    obtain ⟨b, hb⟩ : ∃ b, b ∈ as := by
      cases as with
      | nil => simp at lak; omega
      | cons b _ => exact ⟨b, List.mem_cons_self⟩
    exact Nat.le_of_lt (Nat.lt_trans (hG.above b hb) (hG.there hb))
  generalize hh2 : h'.push { cls := .type "list", data := .seq (as.map Value.ref).toArray } = h2 at hob kb ⊢
  have ka : ∀ b o, h'.get? b = some o → h2.get? b = some o := fun b o e => by rw [← hh2]; exact Heap.get?_push_of_some _ e
  refine wpAny_bind (wpAny_holding (wpAny_call_entry slot_list_sort ⟨_, hob, rfl⟩ entry_list_sort (Srt.list_sort_any (s := { s with heap := h2, toks := tk }) hob (by rw [List.length_map, sizeLine_eq]; omega) (fun h2' => ?_) fun out hp2 => ⟨_, rfl, ?_⟩) (args_list_sort _)))
  · refine si_sortable (s := { s with heap := h2, toks := tk }) (by omega) (fun v hv => ?_) fun o e c => ?_
    · obtain ⟨b, hb, rfl⟩ := List.mem_map.mp hv
      obtain ⟨j, hj⟩ := List.mem_iff_getElem?.mp hb
      obtain ⟨e, t, u, _, hg⟩ := pr j b hj
      exact ⟨e.1, e.2, b, _, t, u, 0, rfl, ka _ _ hg, rfl, rfl⟩
    · have e' : some o = some (seqObj "list" (as.map Value.ref).toArray 0) := e.symm.trans hob
      cases e'
      exact absurd (Value.type.inj c) (by decide)
  · refine wpAny_pure ⟨_, rfl, ?_⟩
    show EP X pins σ Q (.ref h'.objs.size) { s with heap := sortedHeap h2 h'.objs.size (as.map Value.ref) out.toArray, toks := tk }
    -- the order of the pairs
    obtain ⟨zs, pz, ez⟩ := perm_lift (fun z : Addr × Str × Int => Value.ref z.1) hp2 (as.zip ks) (by
      have : (as.zip ks).map (fun z : Addr × Str × Int => Value.ref z.1) = ((as.zip ks).map (·.1)).map Value.ref := by rw [List.map_map]; rfl
      rw [this, List.map_fst_zip (by rw [lak]; exact Nat.le_refl _)])
    have idx : ∀ z ∈ zs, ∃ j : Nat, as[j]? = some z.1 ∧ ks[j]? = some z.2 := by
      intro z' hz'
      obtain ⟨j, hj⟩ := List.mem_iff_getElem?.mp (pz.mem_iff.mp hz')
      exact ⟨j, List.getElem?_zip_eq_some.mp hj⟩
    have hperm : (zs.map (·.2)).Perm ks := by
      have e := pz.map (·.2)
      have m2 : (as.zip ks).map (·.2) = ks := List.map_snd_zip (by rw [lak]; exact Nat.le_refl _)
      rw [m2] at e
      exact e
    have kF : ∀ b o, b ≠ h'.objs.size → h2.get? b = some o → (sortedHeap h2 h'.objs.size (as.map Value.ref) out.toArray).get? b = some o := fun b o hb e => (PyProof.Rows.sortedHeap_old hb (Heap.lt_size e)).trans e
    have kS : ∀ b o, s.heap.get? b = some o → (sortedHeap h2 h'.objs.size (as.map Value.ref) out.toArray).get? b = some o := fun b o e => kF b o (ne0 _ _ (hk b o e)) (kb b o e)
    obtain ⟨eF, heF⟩ := PyProof.Rows.sortedHeap_at (vs := as.map Value.ref) (out := out.toArray) hob
    have I1 : Inv X pins σ H { s with heap := sortedHeap h2 h'.objs.size (as.map Value.ref) out.toArray, toks := tk } := I.kept (t' := tk) kS
    have hn0 : H h'.objs.size = none := I.hok.fresh hle
    have hlen : (zs.map fun z => V.ref z.1).length ≤ sizeLine := by
      have e := hperm.length_eq
      rw [List.length_map] at e
      rw [List.length_map, sizeLine_eq]
      omega
    have rv : Vals (zs.map fun z => V.ref z.1) out := by
      rw [← ez]
      exact vals_maps (fun z : Addr × Str × Int => V.ref z.1) (fun z => Value.ref z.1) zs fun _ _ => rfl
    have I2 : Inv X pins σ (upd H h'.objs.size (.lst (zs.map fun z => V.ref z.1))) { s with heap := sortedHeap h2 h'.objs.size (as.map Value.ref) out.toArray, toks := tk } :=
      I1.take (h' := sortedHeap h2 h'.objs.size (as.map Value.ref) out.toArray) (t' := tk) (fun b ob _ e => e) (I.fpOk hle hn0) ⟨hlen, out, eF, rv, heF⟩
    obtain ⟨H2, I3, g, qt⟩ := L2.DX.takeT (P := fun b vs => ∃ (j : Nat) (e : Str × Int), as[j]? = some b ∧ ks[j]? = some e ∧ vs = [.str e.1, .int e.2]) I as _ I2 nd fun b hb => by
      obtain ⟨j, hj⟩ := List.mem_iff_getElem?.mp hb
      obtain ⟨e, t, u, he, hg⟩ := pr j b hj
      have hbl : s.heap.objs.size ≤ b := Nat.le_of_lt (hG.above b hb)
      refine ⟨hbl, ?_, [.str e.1, .int e.2], ⟨j, e, hj, he, rfl⟩, fun H3 => ⟨(by rw [sizeLine_eq]; show 2 ≤ 16777216; omega), [Value.str e.1 t, Value.int e.2 u], .cons ⟨t, rfl⟩ (.cons ⟨u, rfl⟩ .nil), ⟨_, kF _ _ (ne0 _ _ hg) (ka _ _ hg), rfl, 0, rfl⟩⟩⟩
      rw [upd_ne (ne0 _ _ hg)]
      exact I.hok.fresh hbl
    have gr : ∀ b o, H b = some o → H2 b = some o := fun b o e => g b o (by rw [upd_ne (ne_of_none e hn0)]; exact e)
    refine ⟨.ref h'.objs.size, H2, I3, rfl, q H2 h'.objs.size zs gr hn0 hperm (g _ _ upd_same) fun z' hz' => ?_⟩
    obtain ⟨i, i1, i2⟩ := idx z' hz'
    obtain ⟨vs, ⟨j, e, j1, j2, ev⟩, hH⟩ := qt z'.1 (List.mem_of_getElem? i1)
    have eij : i = j := (List.getElem?_inj (List.getElem?_eq_some_iff.mp i1).1 nd).mp (i1.trans j1.symm)
    subst eij
    have ee : e = z'.2 := Option.some.inj (j2.symm.trans i2)
    rw [ev, ee] at hH
    exact hH
theorem pe_itemsK {K : PySem.W.Frag} {o : Expr} {to : TE} {apos cpos : Pos} (hK : X.K = K) (ho : PE X o to) (hbase : attributeBase o "items" X.env (eval o X.env) = eval o X.env := by rfl) (hline : (apos.endLine == cpos.line) = true := by rfl) :
    PE X (.Call (.Attribute o "items" apos) [] [] cpos) (tBM0 K "dict" rItemsK to) := by
  subst hK
  exact pe_bm0 PySem.F.plainAttrs_dict PySem.F.slot_dict_items PySem.F.type_dict_items mt_itemsK ho hbase hline
/-- dict(l) of pairs -/
def rDictP (K : PySem.W.Frag) : List V → Hp → VK → Prop := fun xs H Q => ∃ (a : Addr) (ps : List Addr) (kvs : List (Key × V)), xs = [.ref a] ∧ SqL K H a (ps.map V.ref) ∧ Paired (fun (p : Addr) (kv : Key × V) => SqT K H p [kV kv.1, kv.2]) ps kvs ∧ ∀ p, H p = none → Q (.ref p) (upd H p (.dK (mergeK [] kvs)))
end
end Fm
set_option maxRecDepth 100000
set_option maxHeartbeats 2000000
namespace K15
open PySem PySem.Spec PyProof.Rows L2 Fm
/-- the i-th statement of the text -/
def top (i : Nat) : Stmt := PySem.Challenge.pw_framemoves_k15_whole_least_patterns.main.body.getD i (.Pass ⟨0, 0, 0, 0⟩)
abbrev s_is_integer : Stmt := top 6
abbrev N_is_integer : List Str := ["thing"]
theorem sc_is_integer : FnScope N_is_integer ["thing"] (defScope s_is_integer) := ⟨rfl, rfl, rfl, by decide +kernel, rfl, by decide +kernel, by decide +kernel⟩
abbrev s_is_name : Stmt := top 7
abbrev N_is_name : List Str := ["thing", "letter"]
theorem sc_is_name : FnScope N_is_name ["thing"] (defScope s_is_name) := ⟨rfl, rfl, rfl, by decide +kernel, rfl, by decide +kernel, by decide +kernel⟩
abbrev s_are_terms : Stmt := top 8
abbrev N_are_terms : List Str := ["things", "ahead", "thing"]
theorem sc_are_terms : FnScope N_are_terms ["things"] (defScope s_are_terms) := ⟨rfl, rfl, rfl, by decide +kernel, rfl, by decide +kernel, by decide +kernel⟩
abbrev s_are_values : Stmt := top 9
abbrev N_are_values : List Str := ["many", "thing"]
theorem sc_are_values : FnScope N_are_values ["many", "thing"] (defScope s_are_values) := ⟨rfl, rfl, rfl, by decide +kernel, rfl, by decide +kernel, by decide +kernel⟩
abbrev s_laid_out : Stmt := top 11
abbrev N_laid_out : List Str := ["terms", "found", "ahead", "term"]
theorem sc_laid_out : FnScope N_laid_out ["terms"] (defScope s_laid_out) := ⟨rfl, rfl, rfl, by decide +kernel, rfl, by decide +kernel, by decide +kernel⟩
abbrev s_shared : Stmt := top 12
abbrev N_shared : List Str := ["terms", "numbers", "waiting", "term", "parts", "_", "key"]
theorem sc_shared : FnScope N_shared ["terms"] (defScope s_shared) := ⟨rfl, rfl, rfl, by decide +kernel, rfl, by decide +kernel, by decide +kernel⟩
abbrev s_filled : Stmt := top 13
abbrev N_filled : List Str := ["nodes", "values", "made", "node", "part"]
theorem sc_filled : FnScope N_filled ["nodes", "values"] (defScope s_filled) := ⟨rfl, rfl, rfl, by decide +kernel, rfl, by decide +kernel, by decide +kernel⟩
abbrev s_fits : Stmt := top 14
abbrev N_fits : List Str := ["pairs", "nodes", "known", "found", "ahead", "term", "number", "node"]
theorem sc_fits : FnScope N_fits ["pairs", "nodes", "known"] (defScope s_fits) := ⟨rfl, rfl, rfl, by decide +kernel, rfl, by decide +kernel, by decide +kernel⟩
abbrev s_put_all : Stmt := top 16
abbrev N_put_all : List Str := ["terms", "values", "nodes", "tops", "made", "top"]
theorem sc_put_all : FnScope N_put_all ["terms", "values"] (defScope s_put_all) := ⟨rfl, rfl, rfl, by decide +kernel, rfl, by decide +kernel, by decide +kernel⟩
abbrev s_numbered : Stmt := top 17
abbrev N_numbered : List Str := ["terms", "order", "term"]
theorem sc_numbered : FnScope N_numbered ["terms"] (defScope s_numbered) := ⟨rfl, rfl, rfl, by decide +kernel, rfl, by decide +kernel, by decide +kernel⟩
abbrev s_are_equal_heads : Stmt := top 19
abbrev N_are_equal_heads : List Str := ["node", "other"]
theorem sc_are_equal_heads : FnScope N_are_equal_heads ["node", "other"] (defScope s_are_equal_heads) := ⟨rfl, rfl, rfl, by decide +kernel, rfl, by decide +kernel, by decide +kernel⟩
abbrev s_pairs_within : Stmt := top 20
abbrev N_pairs_within : List Str := ["nodes", "others", "pairs", "found", "ahead", "one", "other"]
theorem sc_pairs_within : FnScope N_pairs_within ["nodes", "others", "pairs"] (defScope s_pairs_within) := ⟨rfl, rfl, rfl, by decide +kernel, rfl, by decide +kernel, by decide +kernel⟩
abbrev s_least_terms : Stmt := top 21
abbrev N_least_terms : List Str := ["terms", "others", "nodes", "tops", "more", "ends", "made", "one", "other", "parts", "pair"]
theorem sc_least_terms : FnScope N_least_terms ["terms", "others"] (defScope s_least_terms) := ⟨rfl, rfl, rfl, by decide +kernel, rfl, by decide +kernel, by decide +kernel⟩
abbrev s_Pattern_init : Stmt := inClass (top 22) 0
abbrev N_Pattern_init : List Str := ["self", "terms"]
theorem sc_Pattern_init : FnScope N_Pattern_init ["self", "terms"] (defScope s_Pattern_init) := ⟨rfl, rfl, rfl, by decide +kernel, rfl, by decide +kernel, by decide +kernel⟩
abbrev s_Pattern_terms : Stmt := inClass (top 22) 1
abbrev N_Pattern_terms : List Str := ["self"]
theorem sc_Pattern_terms : FnScope N_Pattern_terms ["self"] (defScope s_Pattern_terms) := ⟨rfl, rfl, rfl, by decide +kernel, rfl, by decide +kernel, by decide +kernel⟩
abbrev s_Pattern_contains : Stmt := inClass (top 22) 2
abbrev N_Pattern_contains : List Str := ["self", "values", "nodes", "tops"]
theorem sc_Pattern_contains : FnScope N_Pattern_contains ["self", "values"] (defScope s_Pattern_contains) := ⟨rfl, rfl, rfl, by decide +kernel, rfl, by decide +kernel, by decide +kernel⟩
abbrev s_Pattern_eq : Stmt := inClass (top 22) 3
abbrev N_Pattern_eq : List Str := ["self", "other"]
theorem sc_Pattern_eq : FnScope N_Pattern_eq ["self", "other"] (defScope s_Pattern_eq) := ⟨rfl, rfl, rfl, by decide +kernel, rfl, by decide +kernel, by decide +kernel⟩
abbrev s_Pattern_len : Stmt := inClass (top 22) 4
abbrev N_Pattern_len : List Str := ["self"]
theorem sc_Pattern_len : FnScope N_Pattern_len ["self"] (defScope s_Pattern_len) := ⟨rfl, rfl, rfl, by decide +kernel, rfl, by decide +kernel, by decide +kernel⟩
abbrev s_Pattern_repr : Stmt := inClass (top 22) 5
abbrev N_Pattern_repr : List Str := ["self"]
theorem sc_Pattern_repr : FnScope N_Pattern_repr ["self"] (defScope s_Pattern_repr) := ⟨rfl, rfl, rfl, by decide +kernel, rfl, by decide +kernel, by decide +kernel⟩
abbrev s_Pattern_or : Stmt := inClass (top 22) 6
abbrev N_Pattern_or : List Str := ["self", "other"]
theorem sc_Pattern_or : FnScope N_Pattern_or ["self", "other"] (defScope s_Pattern_or) := ⟨rfl, rfl, rfl, by decide +kernel, rfl, by decide +kernel, by decide +kernel⟩
abbrev s__law_bag : Stmt := top 24
abbrev N__law_bag : List Str := ["_law_script", "_law_cell"]
theorem sc__law_bag : FnScope N__law_bag ["_law_script"] (defScope s__law_bag) := ⟨rfl, rfl, rfl, by decide +kernel, rfl, by decide +kernel, by decide +kernel⟩
abbrev s__law_take : Stmt := top 25
abbrev N__law_take : List Str := ["_law_bag_here", "_law_many", "_law_cell", "_law_mixed_here", "_law_value", "_law_begin", "_law_second"]
theorem sc__law_take : FnScope N__law_take ["_law_bag_here", "_law_many"] (defScope s__law_take) := ⟨rfl, rfl, rfl, by decide +kernel, rfl, by decide +kernel, by decide +kernel⟩
abbrev s__law_alike : Stmt := top 26
abbrev N__law_alike : List Str := ["_law_found", "_law_due"]
theorem sc__law_alike : FnScope N__law_alike ["_law_found", "_law_due"] (defScope s__law_alike) := ⟨rfl, rfl, rfl, by decide +kernel, rfl, by decide +kernel, by decide +kernel⟩
abbrev s__law_mixed : Stmt := top 27
abbrev N__law_mixed : List Str := ["_law_bag_here", "_law_things", "_law_found", "_law_thing"]
theorem sc__law_mixed : FnScope N__law_mixed ["_law_bag_here", "_law_things"] (defScope s__law_mixed) := ⟨rfl, rfl, rfl, by decide +kernel, rfl, by decide +kernel, by decide +kernel⟩
abbrev s__law_names : Stmt := top 28
abbrev N__law_names : List Str := ["_law_bag_here", "_law_many", "_law_letters", "_law_words", "_law_way", "_law_turn", "_law_base", "_law_at", "_law_k"]
theorem sc__law_names : FnScope N__law_names ["_law_bag_here", "_law_many"] (defScope s__law_names) := ⟨rfl, rfl, rfl, by decide +kernel, rfl, by decide +kernel, by decide +kernel⟩
abbrev s__law_term : Stmt := top 29
abbrev N__law_term : List Str := ["_law_bag_here", "_law_names_here", "_law_many", "_law_deep", "_law_way", "_law_name", "_law_parts", "_law_k"]
theorem sc__law_term : FnScope N__law_term ["_law_bag_here", "_law_names_here", "_law_many", "_law_deep"] (defScope s__law_term) := ⟨rfl, rfl, rfl, by decide +kernel, rfl, by decide +kernel, by decide +kernel⟩
abbrev s__law_put : Stmt := top 30
abbrev N__law_put : List Str := ["_law_term_here", "_law_values", "_law_part"]
theorem sc__law_put : FnScope N__law_put ["_law_term_here", "_law_values"] (defScope s__law_put) := ⟨rfl, rfl, rfl, by decide +kernel, rfl, by decide +kernel, by decide +kernel⟩
abbrev s__law_column : Stmt := top 31
abbrev N__law_column : List Str := ["_law_column_here", "_law_known", "_law_heads", "_law_parts", "_law_term_here", "_law_at", "_law_part"]
theorem sc__law_column : FnScope N__law_column ["_law_column_here", "_law_known"] (defScope s__law_column) := ⟨rfl, rfl, rfl, by decide +kernel, rfl, by decide +kernel, by decide +kernel⟩
abbrev s__law_general : Stmt := top 32
abbrev N__law_general : List Str := ["_law_lists", "_law_known", "_law_at", "_law_some"]
theorem sc__law_general : FnScope N__law_general ["_law_lists"] (defScope s__law_general) := ⟨rfl, rfl, rfl, by decide +kernel, rfl, by decide +kernel, by decide +kernel⟩
abbrev s__law_rows : Stmt := top 33
abbrev N__law_rows : List Str := ["_law_bag_here", "_law_names_here", "_law_wide", "_law_first", "_law_rows_here", "_law_k", "_law_own", "_law_row", "_law_j", "_law_term_here"]
theorem sc__law_rows : FnScope N__law_rows ["_law_bag_here", "_law_names_here"] (defScope s__law_rows) := ⟨rfl, rfl, rfl, by decide +kernel, rfl, by decide +kernel, by decide +kernel⟩
abbrev s__law_unlike : Stmt := top 34
abbrev N__law_unlike : List Str := ["_law_one", "_law_other", "_law_found", "e"]
theorem sc__law_unlike : FnScope N__law_unlike ["_law_one", "_law_other"] (defScope s__law_unlike) := ⟨rfl, rfl, rfl, by decide +kernel, rfl, by decide +kernel, by decide +kernel⟩
abbrev s_law : Stmt := top 35
abbrev N_law : List Str := ["_law_script", "_law_bag_here", "_law_names_here", "_law_turn", "_law_rows_here", "_law_patterns", "_law_due", "_law_again", "_law_found", "_law_pattern", "_law_two", "_law_others", "_law_row"]
theorem sc_law : FnScope N_law ["_law_script"] (defScope s_law) := ⟨rfl, rfl, rfl, by decide +kernel, rfl, by decide +kernel, by decide +kernel⟩
/-- what the top has written: where each def stands, what names are still the built-in ones -/
structure Txt (K : PySem.W.Frag) (mg : Str → Option Value) where
  a_is_integer : Addr
  d_is_integer : FuncData
  F_is_integer : Fun K "is_integer" "is_integer" s_is_integer a_is_integer d_is_integer
  f_is_integer : mg "is_integer" = some (.ref a_is_integer)
  b_is_integer : Binds K d_is_integer ["thing"] []
  a_is_name : Addr
  d_is_name : FuncData
  F_is_name : Fun K "is_name" "is_name" s_is_name a_is_name d_is_name
  f_is_name : mg "is_name" = some (.ref a_is_name)
  b_is_name : Binds K d_is_name ["thing"] []
  a_are_terms : Addr
  d_are_terms : FuncData
  F_are_terms : Fun K "are_terms" "are_terms" s_are_terms a_are_terms d_are_terms
  f_are_terms : mg "are_terms" = some (.ref a_are_terms)
  b_are_terms : Binds K d_are_terms ["things"] []
  a_are_values : Addr
  d_are_values : FuncData
  F_are_values : Fun K "are_values" "are_values" s_are_values a_are_values d_are_values
  f_are_values : mg "are_values" = some (.ref a_are_values)
  b_are_values : Binds K d_are_values ["many", "thing"] []
  a_laid_out : Addr
  d_laid_out : FuncData
  F_laid_out : Fun K "laid_out" "laid_out" s_laid_out a_laid_out d_laid_out
  f_laid_out : mg "laid_out" = some (.ref a_laid_out)
  b_laid_out : Binds K d_laid_out ["terms"] []
  a_shared : Addr
  d_shared : FuncData
  F_shared : Fun K "shared" "shared" s_shared a_shared d_shared
  f_shared : mg "shared" = some (.ref a_shared)
  b_shared : Binds K d_shared ["terms"] []
  a_filled : Addr
  d_filled : FuncData
  F_filled : Fun K "filled" "filled" s_filled a_filled d_filled
  f_filled : mg "filled" = some (.ref a_filled)
  b_filled : Binds K d_filled ["nodes", "values"] []
  a_fits : Addr
  d_fits : FuncData
  F_fits : Fun K "fits" "fits" s_fits a_fits d_fits
  f_fits : mg "fits" = some (.ref a_fits)
  b_fits : Binds K d_fits ["pairs", "nodes", "known"] []
  a_put_all : Addr
  d_put_all : FuncData
  F_put_all : Fun K "put_all" "put_all" s_put_all a_put_all d_put_all
  f_put_all : mg "put_all" = some (.ref a_put_all)
  b_put_all : Binds K d_put_all ["terms", "values"] []
  a_numbered : Addr
  d_numbered : FuncData
  F_numbered : Fun K "numbered" "numbered" s_numbered a_numbered d_numbered
  f_numbered : mg "numbered" = some (.ref a_numbered)
  b_numbered : Binds K d_numbered ["terms"] []
  a_are_equal_heads : Addr
  d_are_equal_heads : FuncData
  F_are_equal_heads : Fun K "are_equal_heads" "are_equal_heads" s_are_equal_heads a_are_equal_heads d_are_equal_heads
  f_are_equal_heads : mg "are_equal_heads" = some (.ref a_are_equal_heads)
  b_are_equal_heads : Binds K d_are_equal_heads ["node", "other"] []
  a_pairs_within : Addr
  d_pairs_within : FuncData
  F_pairs_within : Fun K "pairs_within" "pairs_within" s_pairs_within a_pairs_within d_pairs_within
  f_pairs_within : mg "pairs_within" = some (.ref a_pairs_within)
  b_pairs_within : Binds K d_pairs_within ["nodes", "others", "pairs"] []
  a_least_terms : Addr
  d_least_terms : FuncData
  F_least_terms : Fun K "least_terms" "least_terms" s_least_terms a_least_terms d_least_terms
  f_least_terms : mg "least_terms" = some (.ref a_least_terms)
  b_least_terms : Binds K d_least_terms ["terms", "others"] []
  a_Pattern_init : Addr
  d_Pattern_init : FuncData
  F_Pattern_init : Fun K "__init__" "Pattern.__init__" s_Pattern_init a_Pattern_init d_Pattern_init
  b_Pattern_init : Binds K d_Pattern_init ["self", "terms"] []
  a_Pattern_terms : Addr
  d_Pattern_terms : FuncData
  F_Pattern_terms : Fun K "terms" "Pattern.terms" s_Pattern_terms a_Pattern_terms d_Pattern_terms
  b_Pattern_terms : Binds K d_Pattern_terms ["self"] []
  a_Pattern_contains : Addr
  d_Pattern_contains : FuncData
  F_Pattern_contains : Fun K "__contains__" "Pattern.__contains__" s_Pattern_contains a_Pattern_contains d_Pattern_contains
  b_Pattern_contains : Binds K d_Pattern_contains ["self", "values"] []
  a_Pattern_eq : Addr
  d_Pattern_eq : FuncData
  F_Pattern_eq : Fun K "__eq__" "Pattern.__eq__" s_Pattern_eq a_Pattern_eq d_Pattern_eq
  b_Pattern_eq : Binds K d_Pattern_eq ["self", "other"] []
  a_Pattern_len : Addr
  d_Pattern_len : FuncData
  F_Pattern_len : Fun K "__len__" "Pattern.__len__" s_Pattern_len a_Pattern_len d_Pattern_len
  b_Pattern_len : Binds K d_Pattern_len ["self"] []
  a_Pattern_repr : Addr
  d_Pattern_repr : FuncData
  F_Pattern_repr : Fun K "__repr__" "Pattern.__repr__" s_Pattern_repr a_Pattern_repr d_Pattern_repr
  b_Pattern_repr : Binds K d_Pattern_repr ["self"] []
  a_Pattern_or : Addr
  d_Pattern_or : FuncData
  F_Pattern_or : Fun K "__or__" "Pattern.__or__" s_Pattern_or a_Pattern_or d_Pattern_or
  b_Pattern_or : Binds K d_Pattern_or ["self", "other"] []
  a__law_bag : Addr
  d__law_bag : FuncData
  F__law_bag : Fun K "_law_bag" "_law_bag" s__law_bag a__law_bag d__law_bag
  f__law_bag : mg "_law_bag" = some (.ref a__law_bag)
  b__law_bag : Binds K d__law_bag ["_law_script"] []
  a__law_take : Addr
  d__law_take : FuncData
  F__law_take : Fun K "_law_take" "_law_take" s__law_take a__law_take d__law_take
  f__law_take : mg "_law_take" = some (.ref a__law_take)
  b__law_take : Binds K d__law_take ["_law_bag_here", "_law_many"] []
  a__law_alike : Addr
  d__law_alike : FuncData
  F__law_alike : Fun K "_law_alike" "_law_alike" s__law_alike a__law_alike d__law_alike
  f__law_alike : mg "_law_alike" = some (.ref a__law_alike)
  b__law_alike : Binds K d__law_alike ["_law_found", "_law_due"] []
  a__law_mixed : Addr
  d__law_mixed : FuncData
  F__law_mixed : Fun K "_law_mixed" "_law_mixed" s__law_mixed a__law_mixed d__law_mixed
  f__law_mixed : mg "_law_mixed" = some (.ref a__law_mixed)
  b__law_mixed : Binds K d__law_mixed ["_law_bag_here", "_law_things"] []
  a__law_names : Addr
  d__law_names : FuncData
  F__law_names : Fun K "_law_names" "_law_names" s__law_names a__law_names d__law_names
  f__law_names : mg "_law_names" = some (.ref a__law_names)
  b__law_names : Binds K d__law_names ["_law_bag_here", "_law_many"] []
  a__law_term : Addr
  d__law_term : FuncData
  F__law_term : Fun K "_law_term" "_law_term" s__law_term a__law_term d__law_term
  f__law_term : mg "_law_term" = some (.ref a__law_term)
  b__law_term : Binds K d__law_term ["_law_bag_here", "_law_names_here", "_law_many", "_law_deep"] []
  a__law_put : Addr
  d__law_put : FuncData
  F__law_put : Fun K "_law_put" "_law_put" s__law_put a__law_put d__law_put
  f__law_put : mg "_law_put" = some (.ref a__law_put)
  b__law_put : Binds K d__law_put ["_law_term_here", "_law_values"] []
  a__law_column : Addr
  d__law_column : FuncData
  F__law_column : Fun K "_law_column" "_law_column" s__law_column a__law_column d__law_column
  f__law_column : mg "_law_column" = some (.ref a__law_column)
  b__law_column : Binds K d__law_column ["_law_column_here", "_law_known"] []
  a__law_general : Addr
  d__law_general : FuncData
  F__law_general : Fun K "_law_general" "_law_general" s__law_general a__law_general d__law_general
  f__law_general : mg "_law_general" = some (.ref a__law_general)
  b__law_general : Binds K d__law_general ["_law_lists"] []
  a__law_rows : Addr
  d__law_rows : FuncData
  F__law_rows : Fun K "_law_rows" "_law_rows" s__law_rows a__law_rows d__law_rows
  f__law_rows : mg "_law_rows" = some (.ref a__law_rows)
  b__law_rows : Binds K d__law_rows ["_law_bag_here", "_law_names_here"] []
  a__law_unlike : Addr
  d__law_unlike : FuncData
  F__law_unlike : Fun K "_law_unlike" "_law_unlike" s__law_unlike a__law_unlike d__law_unlike
  f__law_unlike : mg "_law_unlike" = some (.ref a__law_unlike)
  b__law_unlike : Binds K d__law_unlike ["_law_one", "_law_other"] []
  a_law : Addr
  d_law : FuncData
  F_law : Fun K "law" "law" s_law a_law d_law
  f_law : mg "law" = some (.ref a_law)
  b_law : Binds K d_law ["_law_script"] []
  C_Pattern : Addr
  g_Pattern : mg "Pattern" = some (.ref C_Pattern)
  cl_Pattern : Cls K C_Pattern
  mk_Pattern : Mk K C_Pattern a_Pattern_init
  p_Pattern_terms : Addr
  pr_Pattern_terms : PropOf K C_Pattern "terms" p_Pattern_terms a_Pattern_terms
  sp_Pattern_contains : PySem.W.findIn K (.ref C_Pattern) "__contains__" = some (some (.ref a_Pattern_contains))
  fn_Pattern_contains : PySem.W.isFn K (.ref a_Pattern_contains) = true
  sp_Pattern_eq : PySem.W.findIn K (.ref C_Pattern) "__eq__" = some (some (.ref a_Pattern_eq))
  fn_Pattern_eq : PySem.W.isFn K (.ref a_Pattern_eq) = true
  sp_Pattern_len : PySem.W.findIn K (.ref C_Pattern) "__len__" = some (some (.ref a_Pattern_len))
  fn_Pattern_len : PySem.W.isFn K (.ref a_Pattern_len) = true
  sp_Pattern_repr : PySem.W.findIn K (.ref C_Pattern) "__repr__" = some (some (.ref a_Pattern_repr))
  fn_Pattern_repr : PySem.W.isFn K (.ref a_Pattern_repr) = true
  sp_Pattern_or : PySem.W.findIn K (.ref C_Pattern) "__or__" = some (some (.ref a_Pattern_or))
  fn_Pattern_or : PySem.W.isFn K (.ref a_Pattern_or) = true
  sf_Pattern : PySem.W.selfFirst K C_Pattern = true
  na_Pattern__terms : NoAttr K C_Pattern "_terms"
  ne_Pattern : PySem.W.findIn K (.ref C_Pattern) "__ne__" = some (some (.builtin "object.__ne__"))
  C_MoveError : Addr
  g_MoveError : mg "MoveError" = some (.ref C_MoveError)
  C_Wrong : Addr
  g_Wrong : mg "Wrong" = some (.ref C_Wrong)
  fI_Wrong : Addr
  e_Wrong : PySem.Erplace.ErTxt K mg "Wrong" "Wrong.__init__" C_Wrong fI_Wrong
  x_Wrong : ExcC K C_Wrong
  m_Wrong : PySem.W.exmOne K (.ref C_Wrong) (.ref C_MoveError) = some true
  C_Unlike : Addr
  g_Unlike : mg "Unlike" = some (.ref C_Unlike)
  fI_Unlike : Addr
  e_Unlike : PySem.Er0.ErTxt K mg "Unlike" "Unlike.__init__" C_Unlike fI_Unlike
  x_Unlike : ExcC K C_Unlike
  m_Unlike : PySem.W.exmOne K (.ref C_Unlike) (.ref C_MoveError) = some true
  m_abs : mg "abs" = none
  m_all : mg "all" = none
  m_bool : mg "bool" = none
  m_dict : mg "dict" = none
  m_int : mg "int" = none
  m_isinstance : mg "isinstance" = none
  m_len : mg "len" = none
  m_list : mg "list" = none
  m_range : mg "range" = none
  m_repr : mg "repr" = none
  m_reversed : mg "reversed" = none
  m_sorted : mg "sorted" = none
  m_str : mg "str" = none
  m_tuple : mg "tuple" = none
  m_zip : mg "zip" = none
  t_LETTERS : Tok
  g_LETTERS : mg "LETTERS" = some (.str "abcdefghijklmnopqrstuvwxyz" t_LETTERS)
end K15
set_option maxRecDepth 100000
set_option maxHeartbeats 2000000
namespace K15
open PySem L2 Fm
section
variable {P : Program} {w : World} {K : PySem.W.Frag} {mg : Str → Option Value} {base : Heap} (T : Txt K mg)
/-- a def over one value of data that hands back a bool and leaves what stood -/
def sp1 (f : D → Bool) (n m : Nat) : Sp := fun vs H Q _ => ∃ v d, vs = [v] ∧ Dv H v d ∧ d.size ≤ n ∧ d.deep ≤ m ∧ ∀ H', Same H H' → Q (.bl (f d)) H'
theorem sp1_len {f : D → Bool} {n m : Nat} : ∀ vs H Q E, sp1 f n m vs H Q E → vs.length = 1 := by
  rintro vs H Q E ⟨v, d, rfl, _⟩
  rfl
theorem ok_is_integer : FnOk P w K mg base CX0 1 T.a_is_integer T.d_is_integer ["thing"] (sp1 isWhole 1000000 100) := by
  refine T.F_is_integer.ok sc_is_integer sp1_len (fun cdv A outer s H vs Q E hr h => ?_)
  obtain ⟨v, d, rfl, hd, hz, hm, q⟩ := h
  refine ⟨_, 
    (pss_one (ps_ret (pe_and (pe_isD (fun _ => kit_I) T.m_isinstance (pv 0) (pe_bltn (v := .ty "int") (u := .type "int") (by rfl) T.m_int (by decide +kernel) rfl) mon_var) (pe_one (pe_not (pe_isD (fun _ => kit_B) T.m_isinstance (pv 0) (pe_bltn (v := .ty "bool") (u := .type "bool") (by rfl) T.m_bool (by decide +kernel) rfl) mon_var)))))), ?_⟩
  refine ⟨_, rfl, d, hd, _, rfl, ite_b (fun hI => ?_) (fun hI => ?_)⟩
  · refine ⟨_, rfl, d, hd, _, rfl, ?_⟩
    have : isWhole d = !isB d := by cases d <;> simp_all [isI, isWhole, isB]
    rw [← this]
    exact q _ (Same.refl _)
  · have : isWhole d = false := by cases d <;> simp_all [isI, isWhole]
    rw [← this]
    exact q _ (Same.refl _)
theorem ok_is_name : FnOk P w K mg base CX0 1 T.a_is_name T.d_is_name ["thing"] (sp1 isName 1000000 100) := by
  refine T.F_is_name.ok sc_is_name sp1_len (fun cdv A outer s H vs Q E hr h => ?_)
  obtain ⟨v, d, rfl, hd, hz, hm, q⟩ := h
  refine ⟨_, 
    (pss_one (ps_ret (pe_and (pe_isD (fun _ => kit_S) T.m_isinstance (pv 0) (pe_bltn (v := .ty "str") (u := .type "str") (by rfl) T.m_str (by decide +kernel) rfl) mon_var) (pe_and (pe_chain op_le op_le pe_int (pe_callB call_len_str (by rfl) T.m_len (by decide +kernel) (pa_cons (pv 0) pa_nil)) pe_int) (pe_one (pe_callB (cr_all rfl) (by rfl) T.m_all (by decide +kernel) (pa_cons (pe_lc (own := [("letter", 1)]) (g := gName 1) (tt := tYes) rfl sc_is_name.nd (pi_str (pv 0)) (blkOk_by (N := N_is_name) (sc := defScope s_is_name) (by decide +kernel)) (fun _ _ _ _ _ => pg_name (i := 1) sc_is_name.nd rfl (Or.inl rfl)) (fun _ _ _ _ _ => pts_nil) (fun _ _ _ _ _ => pe_cmpR op_in_str (pv 1) (pe_glob (v := .str "abcdefghijklmnopqrstuvwxyz") rfl T.g_LETTERS ⟨_, rfl⟩) (by rfl))) pa_nil))))))), ?_⟩
  refine ⟨_, rfl, d, hd, _, rfl, ite_b (fun hS => ?_) (fun hS => ?_)⟩
  · obtain ⟨x, rfl⟩ : ∃ x, d = .str x := by cases d <;> simp_all [isS]
    cases hd
    have lx : x.length ≤ 1000000 := by simp only [D.size] at hz; omega
    refine ⟨_, rfl, x, rfl, sz (by omega), _, _, rfl, rfl, _, rfl, ite_b (fun h1 => ?_) (fun h1 => ?_)⟩
    · refine ⟨_, _, rfl, rfl, _, rfl, ite_b (fun h2 => ?_) (fun h2 => ?_)⟩
      · have l8 : x.length ≤ 8 := by have := of_decide_eq_true h2; omega
        refine ⟨_, rfl, x, rfl, ?_⟩
        intro Dl hD
        refine lc_signs (K := K) (fun y => .bl (signOk y)) (fun _ => true) hD (by omega) (fun _ => rfl) (fun _ _ _ _ r => r) (fun y H' R _ _ r => ⟨_, rfl, _, _, rfl, rfl, r⟩) (fun H' k hl => ?_)
        refine ⟨Dl, (signs x).map signOk, rfl, SqL.of ?_, ?_⟩
        · rw [hl]
          rw [filt]
          simp [List.map_map, Function.comp_def]
        · have e : isName (.str x) = ((signs x).map signOk).all id := by
            have a1 : 1 ≤ x.length := by have := of_decide_eq_true h1; omega
            simp [isName, isNameS, a1, l8, List.all_map, Function.comp_def]
          rw [← e]
          exact q _ k
      · have e : isName (.str x) = false := by
          have : ¬ x.length ≤ 8 := by have := of_decide_eq_false h2; omega
          simp [isName, isNameS, this]
        rw [← e]
        exact q _ (Same.refl _)
    · have e : isName (.str x) = false := by
        have : ¬ 1 ≤ x.length := by have := of_decide_eq_false h1; omega
        simp only [isName, isNameS, decide_eq_false this, Bool.false_and]
      refine ⟨_, rfl, iteF ?_⟩
      rw [← e]
      exact q _ (Same.refl _)
  · have : isName d = false := by cases d <;> simp_all [isS, isName]
    rw [← this]
    exact q _ (Same.refl _)
/-- are_terms of a list or a tuple of data -/
def spTerms (K : PySem.W.Frag) : Sp := fun vs H Q _ => ∃ a us ds, vs = [.ref a] ∧ (SqL K H a us ∨ SqT K H a us) ∧ DvL H us ds ∧ sizes ds ≤ 100000 ∧ deeps ds ≤ 100 ∧ ∀ H', Same H H' → Q (.bl (areTerms ds)) H'
theorem ok_are_terms : FnOk P w K mg base CX0 2 T.a_are_terms T.d_are_terms ["things"] (spTerms K) := by
  have G_is_name := ok_is_name (P := P) (w := w) (base := base) T
  have G_is_integer := ok_is_integer (P := P) (w := w) (base := base) T
  refine T.F_are_terms.ok sc_are_terms ?_ (fun cdv A outer s H vs Q E hr h => ?_)
  · rintro vs H Q E ⟨a, us, ds, rfl, _⟩
    rfl
  obtain ⟨a, us, ds, rfl, hs, hd, hz, hm, q⟩ := h
  refine ⟨_, 
    (pss_cons (ps_set (i := 1) sc_are_terms.nd rfl (Or.inl rfl) (pe_callTy call_list_of (by rfl) T.m_list (by decide +kernel) (pa_cons (pv 0) pa_nil)))
    (pss_cons (ps_while PassesOwn.never (pt_truth (pv 1) (by intro _; rfl)) (pss_cons (ps_set (i := 2) sc_are_terms.nd rfl (Or.inl rfl) (pe_bm0 PySem.F.plainAttrs_list PySem.F.slot_list_pop PySem.F.type_list_pop mt_pop (pv 1))) (pss_one (ps_if (pt_val (pe_isD (fun _ => kit_T) T.m_isinstance (pv 2) (pe_bltn (v := .ty "tuple") (u := .type "tuple") (by rfl) T.m_tuple (by decide +kernel) rfl) mon_var)) (pss_cons (ps_if (pt_not (PW.pt (pw_and (pt_chain op_le op_le pe_int (pe_callB call_len_seq (by rfl) T.m_len (by decide +kernel) (pa_cons (pv 2) pa_nil)) pe_int) (pw_and1 (pt_val (pe_call G_is_name (hr.mono (by omega)) (by rfl) T.f_is_name T.F_is_name.kp T.b_is_name .nil pass0 (pa_cons (pe_ix ix_tup (pv 2) pe_int (fun _ _ => rfl)) pa_nil))))))) (pss_one (ps_ret pe_bl)) pss_nil) (pss_one (ps_expr (pe_bm PySem.F.plainAttrs_list PySem.F.slot_list_extend PySem.F.type_list_extend mt_extT (pv 1) (pa_cons (pe_slice sl_tupA (pv 2) (po_some pe_int) po_none) pa_nil))))) (pss_one (ps_if (pt_not (PW.pt (pw_and (pt_val (pe_call G_is_integer (hr.mono (by omega)) (by rfl) T.f_is_integer T.F_is_integer.kp T.b_is_integer .nil pass0 (pa_cons (pv 2) pa_nil))) (pw_and1 (pt_cmpR op_ge (pv 2) pe_int (nomark _)))))) (pss_one (ps_ret pe_bl)) pss_nil))))))
    (pss_one (ps_ret pe_bl)))), ?_⟩
  refine ⟨_, rfl, a, us, rfl, hs, fun l hl => ?_⟩
  refine ⟨fun m σ H' => ∃ vs es o, σ = [some (.ref a), some (.ref l), o] ∧ Same H H' ∧ H' l = some (.lst vs) ∧ DvL H vs es ∧ m = sizes es ∧ sizes es ≤ 100000 ∧ deeps es ≤ 100 ∧ areTerms es = areTerms ds,
    ⟨_, us, ds, none, rfl, Same.new hl, upd_same, hd, rfl, hz, hm, rfl⟩, ?_⟩
  rintro m σ H' ⟨vs, es, o, rfl, k, h1, h2, rfl, z1, z2, e1⟩
  refine ⟨_, rfl, !vs.isEmpty, .inl ⟨vs, SqL.of h1, rfl⟩, ite_b (fun c => ?_) (fun c => ?_)⟩
  · have ne : vs ≠ [] := by
      rintro rfl
      simp at c
    obtain ⟨y, d, es0, hy, rfl, h3, h4⟩ := last_split h2 ne
    refine ⟨fun σ' H2 => ∃ m', m' < sizes (es0 ++ [d]) ∧ ∃ vs es o, σ' = [some (.ref a), some (.ref l), o] ∧ Same H H2 ∧ H2 l = some (.lst vs) ∧ DvL H vs es ∧ m' = sizes es ∧ sizes es ≤ 100000 ∧ deeps es ≤ 100 ∧ areTerms es = areTerms ds, fun _ _ x => x, ?_⟩
    have k1 : Same H (upd H' l (.lst vs.dropLast)) := Same.upd k hl
    have zs := sizes_app es0 [d]
    simp only [sizes] at zs
    have pd := size_pos d
    have dd : d.deep ≤ 100 := Nat.le_trans (deep_mem (by simp)) z2
    have z3 : deeps es0 ≤ 100 := by
      have := deeps_app es0 [d]
      omega
    have e2 : areTerms (es0 ++ [d]) = (areTerms es0 && isTerm d) := by
      rw [areTerms_app]
      simp [areTerms]
    refine ⟨_, rfl, .inl ⟨rfl, _, SqL.of h1⟩, l, vs, y, rfl, rfl, h1, hy, ?_⟩
    refine ⟨_, rfl, d, h4.same k1 _ _, _, rfl, ite_b (fun ct => ?_) (fun ct => ?_)⟩
    · obtain ⟨fs, rfl⟩ : ∃ fs, d = .tup fs := by cases d <;> simp_all [isT]
      cases h4 with
      | @tup b ws _ h5 h6 =>
      have lw := h6.len
      have n1 := len_sizes fs
      simp only [D.size, D.deep] at *
      refine ⟨_, rfl, b, ws, rfl, .inr (SqT.of (k1 _ _ h5)), _, _, rfl, rfl, _, rfl, ite_b (fun c1 => ?_) (fun c1 => ?_)⟩
      · have l1 : 1 ≤ ws.length := by have := of_decide_eq_true c1; omega
        refine ⟨_, _, rfl, rfl, _, rfl, ite_b (fun c2 => ?_) (fun c2 => ?_)⟩
        · have l4 : ws.length ≤ 4 := by have := of_decide_eq_true c2; omega
          cases h6 with
          | nil => simp at l1
          | @cons w0 wr f0 fr g0 g1 =>
          have lr := g1.len
          simp only [List.length_cons] at l4 lw
          simp only [sizes, deeps] at *
          refine ⟨_, rfl, b, _, 0, w0, rfl, rfl, SqT.of (k1 _ _ h5), atI_nat (j := 0) rfl, _, f0, rfl, g0.same k1 _ _, by omega, by omega, fun H2 k2 => ⟨_, rfl, ite_b (fun c3 => ?_) (fun c3 => ?_)⟩⟩
          · have e3 : areTerms ds = false := by
              rw [← e1, e2]
              simp [isTerm, isTermT, show isName f0 = false by simpa using c3]
            have q2 := q _ (k1.trans k2)
            rw [e3] at q2
            exact q2
          · have c4 : isName f0 = true := by simpa using c3
            obtain ⟨u1, u2⟩ := cutV_one (w0 :: wr) l1
            have k3 := k1.trans k2
            have h7 : H2 l = some (.lst vs.dropLast) := k2 _ _ upd_same
            refine ⟨_, rfl, .inl ⟨rfl, _, SqL.of h7⟩, _, rfl, _, rfl, b, _, rfl, SqT.of (k3 _ _ h5), fun z => absurd z u2, fun _ p hp => ?_⟩
            rw [u1]
            have k4 : Same H2 (upd H2 p (.tup wr)) := Same.new hp
            refine ⟨l, p, vs.dropLast, wr, rfl, rfl, k4 _ _ h7, SqT.of upd_same, ?_, ?_⟩
            · have := h3.len
              have := len_sizes es0
              exact sz (by omega)
            · refine ⟨sizes (es0 ++ fr), ?_, _, es0 ++ fr, _, rfl, Same.upd (k3.trans k4) hl, upd_same, h3.app g1, rfl, ?_, ?_, ?_⟩
              · rw [sizes_app, zs]
                have := size_pos f0
                omega
              · rw [sizes_app]
                omega
              · rw [deeps_app]
                omega
              · rw [← e1, e2, areTerms_app]
                have : decide (fr.length ≤ 3) = true := decide_eq_true (by omega)
                simp [isTerm, isTermT, c4, this]
        · have e3 : areTerms ds = false := by
            rw [← e1, e2]
            have l4 : ¬ ws.length ≤ 4 := by have := of_decide_eq_false c2; omega
            cases h6 with
            | nil => simp at l1
            | @cons w0 wr f0 fr g0 g1 =>
            have lr := g1.len
            simp only [List.length_cons] at l4
            have : decide (fr.length ≤ 3) = false := decide_eq_false (by omega)
            simp [isTerm, isTermT, this]
          have q2 := q _ k1
          rw [e3] at q2
          exact q2
      · have e3 : areTerms ds = false := by
          rw [← e1, e2]
          have l4 : ¬ 1 ≤ ws.length := by have := of_decide_eq_false c1; omega
          cases h6 with
          | nil => simp [isTerm, isTermT]
          | cons g0 g1 => simp at l4
        have q2 := q _ k1
        rw [e3] at q2
        exact ⟨_, rfl, iteF q2⟩
    · refine ⟨_, rfl, _, d, rfl, h4.same k1 _ _, by omega, dd, fun H2 k2 => ⟨_, rfl, ite_b (fun c1 => ?_) (fun c1 => ?_)⟩⟩
      · obtain ⟨i, rfl⟩ : ∃ i, d = .int i := by cases d <;> simp_all [isWhole]
        cases h4
        refine ⟨_, rfl, _, _, rfl, rfl, _, rfl, ite_b (fun c2 => ?_) (fun c2 => ?_)⟩
        · have e3 : areTerms ds = false := by
            rw [← e1, e2]
            have : ¬ 0 ≤ i := by simpa using c2
            simp [isTerm, this]
          have q2 := q _ (k1.trans k2)
          rw [e3] at q2
          exact q2
        · have i0 : 0 ≤ i := by simpa using c2
          refine ⟨sizes es0, by omega, _, es0, _, rfl, k1.trans k2, k2 _ _ upd_same, h3, rfl, by omega, z3, ?_⟩
          rw [← e1, e2]
          simp [isTerm, i0]
      · have e3 : areTerms ds = false := by
          rw [← e1, e2]
          cases d <;> simp_all [isTerm, isWhole, isT]
        have q2 := q _ (k1.trans k2)
        rw [e3] at q2
        exact q2
  · have e0 : vs = [] := by simpa using c
    subst e0
    cases h2
    have e3 : areTerms ds = true := by
      rw [← e1]
      rfl
    have q2 := q _ k
    rw [e3] at q2
    exact q2
def areValues (n : Int) : D → Bool
  | .tup ds => decide ((ds.length : Int) = n) && areTerms ds
  | _ => false
/-- are_values of a number and of data -/
def spVals : Sp := fun vs H Q _ => ∃ n v d, vs = [.int n, v] ∧ Dv H v d ∧ d.size ≤ 100000 ∧ d.deep ≤ 100 ∧ ∀ H', Same H H' → Q (.bl (areValues n d)) H'
theorem ok_are_values : FnOk P w K mg base CX0 3 T.a_are_values T.d_are_values ["many", "thing"] spVals := by
  have G_are_terms := ok_are_terms (P := P) (w := w) (base := base) T
  refine T.F_are_values.ok sc_are_values ?_ (fun cdv A outer s H vs Q E hr h => ?_)
  · rintro vs H Q E ⟨n, v, d, rfl, _⟩
    rfl
  obtain ⟨n, v, d, rfl, hd, hz, hm, q⟩ := h
  refine ⟨_, 
    (pss_one (ps_ret (pe_and (pe_isD (fun _ => kit_T) T.m_isinstance (pv 1) (pe_bltn (v := .ty "tuple") (u := .type "tuple") (by rfl) T.m_tuple (by decide +kernel) rfl) mon_var) (pe_and (pe_cmpR op_eq (pe_callB call_len_seq (by rfl) T.m_len (by decide +kernel) (pa_cons (pv 1) pa_nil)) (pv 0) (nomark _)) (pe_one (pe_call G_are_terms (hr.mono (by omega)) (by rfl) T.f_are_terms T.F_are_terms.kp T.b_are_terms .nil pass0 (pa_cons (pv 1) pa_nil))))))), ?_⟩
  refine ⟨_, rfl, d, hd, _, rfl, ite_b (fun hS => ?_) (fun hS => ?_)⟩
  · obtain ⟨ds, rfl⟩ : ∃ ds, d = .tup ds := by cases d <;> simp_all [isT]
    cases hd with
    | @tup b ws _ h5 h6 =>
    simp only [D.size, D.deep] at hz hm
    have lw := h6.len
    refine ⟨_, rfl, b, ws, rfl, .inr (SqT.of h5), _, rfl, rfl, _, rfl, ite_b (fun c1 => ?_) (fun c1 => ?_)⟩
    · refine ⟨_, rfl, b, ws, ds, rfl, .inr (SqT.of h5), h6, by omega, by omega, fun H' k => ?_⟩
      have q2 := q _ k
      have e1 : ((ds.length : Nat) : Int) = n := by
        have := of_decide_eq_true c1
        injection this with z
        omega
      simp only [areValues, e1, decide_true, Bool.true_and] at q2
      exact q2
    · have q2 := q _ (Same.refl _)
      have e1 : ¬ ((ds.length : Nat) : Int) = n := by
        intro z
        refine of_decide_eq_false c1 ?_
        rw [lw, z]
      simp only [areValues, decide_eq_false e1, Bool.false_and] at q2
      exact q2
  · have : areValues n d = false := by cases d <;> simp_all [isT, areValues]
    have q2 := q _ (Same.refl _)
    rw [this] at q2
    exact q2
end
end K15
set_option maxRecDepth 100000
set_option maxHeartbeats 2000000
namespace K15
open PySem L2 Fm
section
variable {P : Program} {w : World} {K : PySem.W.Frag} {mg : Str → Option Value} {base : Heap} (T : Txt K mg)
theorem ok_laid_out : FnOk P w K mg base CX0 1 T.a_laid_out T.d_laid_out ["terms"] (spLaid K) := by
  refine T.F_laid_out.ok sc_laid_out ?_ (fun cdv A outer s H vs Q E hr h => ?_)
  · rintro vs H Q E ⟨Hb, a, us, ds, rfl, _⟩
    rfl
  obtain ⟨Hb, a, us, ds, rfl, hb, hs, hd, htm, hz, q⟩ := h
  refine ⟨_, 
    (pss_cons (ps_set (i := 1) sc_laid_out.nd rfl (Or.inl rfl) (pe_lst pa_nil))
    (pss_cons (ps_set (i := 2) sc_laid_out.nd rfl (Or.inl rfl) (pe_revL (pe_callTy call_list_of (by rfl) T.m_list (by decide +kernel) (pa_cons (pv 0) pa_nil))))
    (pss_cons (ps_while PassesOwn.never (pt_truth (pv 2) (by intro _; rfl)) (pss_cons (ps_set (i := 3) sc_laid_out.nd rfl (Or.inl rfl) (pe_bm0 PySem.F.plainAttrs_list PySem.F.slot_list_pop PySem.F.type_list_pop mt_pop (pv 2))) (pss_cons (ps_expr (pe_bm PySem.F.plainAttrs_list PySem.F.slot_list_append PySem.F.type_list_append mt_append (pv 1) (pa_cons (pv 3) pa_nil))) (pss_one (ps_if (pt_val (pe_isD (fun _ => kit_T) T.m_isinstance (pv 3) (pe_bltn (v := .ty "tuple") (u := .type "tuple") (by rfl) T.m_tuple (by decide +kernel) rfl) mon_var)) (pss_one (ps_expr (pe_bm PySem.F.plainAttrs_list PySem.F.slot_list_extend PySem.F.type_list_extend mt_extT (pv 2) (pa_cons (pe_back (pv 3)) pa_nil)))) pss_nil)))))
    (pss_one (ps_ret (pv 1)))))), ?_⟩
  refine ⟨by decide, fun lf hf => ?_⟩
  have k0 : Same H (upd H lf (.lst [])) := Same.new hf
  have hs0 : SqL K (upd H lf (.lst [])) a us ∨ SqT K (upd H lf (.lst [])) a us := hs.imp (Evl.ex_l k0) (Evl.ex_t k0)
  refine ⟨_, rfl, a, us, rfl, hs0, fun l1 hl1 => ?_⟩
  refine ⟨l1, us, rfl, SqL.of upd_same, fun l hl => ?_⟩
  have k1 : Same H (upd (upd H lf (.lst [])) l1 (.lst us)) := Same.upd k0 (by
    have := hl1
    by_cases e : l1 = lf
    · rw [e, upd_same] at this; cases this
    · rwa [upd_ne e] at this)
  have nlf : lf ≠ l := fun e => by
    rw [← e] at hl
    by_cases e1 : lf = l1
    · rw [e1, upd_same] at hl; cases hl
    · rw [upd_ne e1, upd_same] at hl; cases hl
  have nlf1 : lf ≠ l1 := fun e => by
    rw [← e, upd_same] at hl1
    cases hl1
  have hlH : H l = none := by
    cases e : H l with
    | none => rfl
    | some o =>
      have := k1 l o e
      rw [hl] at this
      cases this
  refine ⟨fun m σ H' => ∃ ws fs vs es o, σ = [some (.ref a), some (.ref lf), some (.ref l), o] ∧ Same H H' ∧ H' lf = some (.lst ws) ∧ DvL Hb ws fs ∧ H' l = some (.lst vs) ∧ DvL Hb vs es ∧ m = sizes es ∧ sizes es ≤ 100000 ∧ (∀ d ∈ es, Tm d) ∧ fs ++ flats es.reverse = flats ds,
    ⟨_, [], [], us.reverse, ds.reverse, none, rfl, Same.upd k1 hlH, ?_, .nil, upd_same, hd.rev, rfl, by rw [sizes_rev]; exact hz, fun d h => htm d (List.mem_reverse.mp h), by rw [List.reverse_reverse]; rfl⟩, ?_⟩
  · rw [upd_ne nlf, upd_ne nlf1]
    exact upd_same
  rintro m σ H' ⟨ws, fs, vs, es, o, rfl, k, h1, h2, h3, h4, rfl, z1, t1, e1⟩
  refine ⟨_, rfl, !vs.isEmpty, .inl ⟨vs, SqL.of h3, rfl⟩, ite_b (fun c => ?_) (fun c => ?_)⟩
  · have ne : vs ≠ [] := by
      rintro rfl
      simp at c
    obtain ⟨y, d, es0, hy, rfl, h5, h6⟩ := last_split h4 ne
    refine ⟨fun σ' H2 => ∃ m', m' < sizes (es0 ++ [d]) ∧ ∃ ws fs vs es o, σ' = [some (.ref a), some (.ref lf), some (.ref l), o] ∧ Same H H2 ∧ H2 lf = some (.lst ws) ∧ DvL Hb ws fs ∧ H2 l = some (.lst vs) ∧ DvL Hb vs es ∧ m' = sizes es ∧ sizes es ≤ 100000 ∧ (∀ d ∈ es, Tm d) ∧ fs ++ flats es.reverse = flats ds, fun _ _ x => x, ?_⟩
    have zs := sizes_app es0 [d]
    simp only [sizes] at zs
    have pd := size_pos d
    have k2 : Same H (upd H' l (.lst vs.dropLast)) := Same.upd k hlH
    have lw := h2.len
    have lz := flats_len ds
    have lfs : fs.length ≤ 100000 := by
      have := congrArg List.length e1
      rw [List.length_append] at this
      omega
    have h1' : (upd H' l (.lst vs.dropLast)) lf = some (.lst ws) := by rw [upd_ne nlf]; exact h1
    refine ⟨_, rfl, .inl ⟨rfl, _, SqL.of h3⟩, l, vs, y, rfl, rfl, h3, hy, ?_⟩
    refine ⟨_, rfl, .inl ⟨rfl, _, SqL.of h1'⟩, _, rfl, lf, ws, y, rfl, rfl, h1', szl (by omega), ?_⟩
    have k3 : Same H (upd (upd H' l (.lst vs.dropLast)) lf (.lst (ws ++ [y]))) := Same.upd k2 hf
    have e2 : flats (es0 ++ [d]).reverse = flat d ++ flats es0.reverse := by
      rw [List.reverse_append]
      rfl
    rw [e2] at e1
    have td := t1 d (by simp)
    refine ⟨_, rfl, d, h6.same (hb.trans k3) _ _, _, rfl, ite_b (fun ct => ?_) (fun ct => ?_)⟩
    · obtain ⟨gs, rfl⟩ : ∃ gs, d = .tup gs := by cases d <;> simp_all [isT]
      cases h6 with
      | @tup b us2 _ g1 g2 =>
      cases td with
      | tup x rs htr =>
      cases g2 with
      | @cons w0 wr _ _ g3 g4 =>
      have lr := g4.len
      have h3' : (upd (upd H' l (.lst vs.dropLast)) lf (.lst (ws ++ [.ref b]))) l = some (.lst vs.dropLast) := by rw [upd_ne (Ne.symm nlf)]; exact upd_same
      refine ⟨_, rfl, .inl ⟨rfl, _, SqL.of h3'⟩, _, rfl, b, _, rfl, SqT.of (k3 _ _ (hb _ _ g1)), by simp, fun p hp => ?_⟩
      have n1 := len_sizes rs
      have lv := h5.len
      have n2 := len_sizes es0
      simp only [D.size, sizes] at zs z1
      have np1 : l ≠ p := fun e => by rw [← e, h3'] at hp; cases hp
      refine ⟨l, p, vs.dropLast, wr.reverse, rfl, rfl, by rw [upd_ne np1]; exact h3', SqT.of upd_same, ?_, ?_⟩
      · rw [List.length_reverse]
        exact sz (by omega)
      · have k4 : Same H (upd (upd (upd H' l (.lst vs.dropLast)) lf (.lst (ws ++ [.ref b]))) p (.tup wr.reverse)) := fun a' o' e => Same.new hp a' o' (k3 a' o' e)
        refine ⟨sizes (es0 ++ rs.reverse), ?_, ws ++ [.ref b], fs ++ [.tup (.str x :: rs)], _, es0 ++ rs.reverse, _, rfl, Same.upd k4 hlH, ?_, ?_, upd_same, h5.app g4.rev, rfl, ?_, ?_, ?_⟩
        · rw [sizes_app, sizes_rev]
          simp only [D.size, sizes, sizes_app] at *
          omega
        · have np2 : lf ≠ p := fun e => by rw [← e, upd_same] at hp; cases hp
          rw [upd_ne nlf, upd_ne np2]
          exact upd_same
        · exact h2.app (.cons (.tup g1 (.cons g3 g4)) .nil)
        · rw [sizes_app, sizes_rev]
          omega
        · intro d' hd'
          rcases List.mem_append.mp hd' with h | h
          · exact t1 d' (by simp [h])
          · exact htr d' (List.mem_reverse.mp h)
        · rw [← e1, List.reverse_append, List.reverse_reverse, flats_app]
          simp [flat, flatT]
    · refine ⟨sizes es0, ?_, ws ++ [y], fs ++ [d], _, es0, _, rfl, k3, upd_same, h2.app (.cons h6 .nil), ?_, h5, rfl, ?_, ?_, ?_⟩
      · omega
      · rw [upd_ne (Ne.symm nlf)]
        exact upd_same
      · omega
      · exact fun d' h => t1 d' (by simp [h])
      · rw [← e1, List.append_assoc]
        have : flat d = [d] := by
          cases d <;> first | rfl | simp_all [isT]
        rw [this]
  · have e : vs = [] := by simpa using c
    subst e
    cases h4
    refine ⟨_, rfl, q lf _ ws k hf h1 ?_⟩
    have : fs = flats ds := by
      rw [← e1]
      simp [flats]
    rw [← this]
    exact h2
/-- what of the dict stands behind a turn -/
theorem ok_shared : FnOk P w K mg base CX0 2 T.a_shared T.d_shared ["terms"] (spShared K) := by
  have G_laid_out := ok_laid_out (P := P) (w := w) (base := base) T
  refine T.F_shared.ok sc_shared ?_ (fun cdv A outer s H vs Q E hr h => ?_)
  · rintro vs H Q E ⟨a, us, ds, rfl, _⟩
    rfl
  obtain ⟨a, us, ds, rfl, hs, hd, htm, hz, q⟩ := h
  refine ⟨_, 
    (pss_cons (ps_set (i := 1) sc_shared.nd rfl (Or.inl rfl) pe_dnewT)
    (pss_cons (ps_set (i := 2) sc_shared.nd rfl (Or.inl rfl) (pe_lst pa_nil))
    (pss_cons (ps_for PassesOwn.never rfl (pi_reversed (by rfl) T.m_reversed (pa_cons (pe_call G_laid_out (hr.mono (by omega)) (by rfl) T.f_laid_out T.F_laid_out.kp T.b_laid_out .nil pass0 (pa_cons (pv 0) pa_nil)) pa_nil)) (pg_name (i := 3) sc_shared.nd rfl (Or.inl rfl)) (Evl.pss_cut (ps_if (pt_val (pe_isD (fun _ => kit_T) T.m_isinstance (pv 3) (pe_bltn (v := .ty "tuple") (u := .type "tuple") (by rfl) T.m_tuple (by decide +kernel) rfl) mon_var)) (pss_cons (ps_set (i := 4) sc_shared.nd rfl (Or.inl rfl) (pe_lst pa_nil)) (pss_cons (ps_for PassesOwn.never rfl (pi_tup (pe_slice sl_tupA (pv 3) (po_some pe_int) po_none)) (pg_name (i := 5) sc_shared.nd rfl (Or.inl rfl)) (pss_one (ps_expr (pe_bm PySem.F.plainAttrs_list PySem.F.slot_list_append PySem.F.type_list_append mt_append (pv 4) (pa_cons (pe_bm0 PySem.F.plainAttrs_list PySem.F.slot_list_pop PySem.F.type_list_pop mt_pop (pv 2)) pa_nil))))) (pss_one (ps_set (i := 6) sc_shared.nd rfl (Or.inl rfl) (pe_op op_catA (pe_tup (pa_cons (pe_ix ix_tup (pv 3) pe_int (fun _ _ => rfl)) pa_nil)) (pe_callTy call_tuple_of (by rfl) T.m_tuple (by decide +kernel) (pa_cons (pv 4) pa_nil))))))) (pss_one (ps_set (i := 6) sc_shared.nd rfl (Or.inl rfl) (pe_tup (pa_cons (pv 3) pa_nil))))) (pss_one (ps_expr (pe_bm PySem.F.plainAttrs_list PySem.F.slot_list_append PySem.F.type_list_append mt_append (pv 2) (pa_cons (pe_bm PySem.F.plainAttrs_dict PySem.F.slot_dict_setdefault PySem.F.type_dict_setdefault (mt_setdT (hu1 hr)) (pv 1) (pa_cons (pv 6) (pa_cons (pe_callB call_len_dT (by rfl) T.m_len (by decide +kernel) (pa_cons (pv 1) pa_nil)) pa_nil))) pa_nil))))))
    (pss_one (ps_ret (pe_tup (pa_cons (pe_callTy (call_list_dT rfl) (by rfl) T.m_list (by decide +kernel) (pa_cons (pv 1) pa_nil)) (pa_cons (pe_revL (pv 2)) pa_nil)))))))), ?_⟩
  show ∀ nd : Addr, H nd = none → _
  intro nd hnd
  have k0 : Same H (upd H nd (.dT [])) := Same.new hnd
  refine ⟨by decide, fun lw hlw => ?_⟩
  have k1 : Same H (upd (upd H nd (.dT [])) lw (.lst [])) := k0.trans (Same.new hlw)
  have n1 : nd ≠ lw := fun e => by
    rw [← e, upd_same] at hlw
    cases hlw
  have hlwH : H lw = none := by
    rw [upd_ne (Ne.symm n1)] at hlw
    exact hlw
  refine ⟨_, rfl, H, a, us, ds, rfl, k1, hs.imp (Evl.ex_l k1) (Evl.ex_t k1), hd, htm, hz, fun l H1 ws k hl hl2 hw => ?_⟩
  have n2 : l ≠ nd := fun e => by
    rw [e, upd_ne n1, upd_same] at hl
    cases hl
  have n3 : l ≠ lw := fun e => by
    rw [e, upd_same] at hl
    cases hl
  have lw1 := hw.len
  have lz := flats_len ds
  refine ⟨l, ws, rfl, SqL.of hl2, ?_⟩
  refine for_it walk_rev (fun i σ H' => ∃ o3 o4 o5 o6 kvs ts js es, σ = [some (.ref a), some (.ref nd), some (.ref lw), o3, o4, o5, o6] ∧ Same H H' ∧ H' l = some (.lst ws) ∧ H' nd = some (.dT kvs) ∧ H' lw = some (.lst (js.reverse.map vI)) ∧
    NodesK kvs ts ∧ Ats ts js es ∧ flats es = (flats ds).drop (ws.length - i) ∧ kvs.length ≤ i ∧ ∀ t ∈ ts, t ∈ flats ds)
    ⟨none, none, none, none, [], [], [], [], rfl, k1.trans k, hl2, ?_, ?_, .nil, .nil, ?_, Nat.zero_le _, fun _ h => by cases h⟩ (fun i σ H' hi ⟨_, _, _, _, _, _, _, _, _, _, e, _⟩ => SqL.of e) ?_ ?_
  · exact k _ _ (by rw [upd_ne n1]; exact upd_same)
  · exact k _ _ upd_same
  · rw [List.drop_of_length_le (by omega)]
    rfl
  · rintro i x σ H' H2 hi ⟨o3, o4, o5, o6, kvs, ts, js, es, rfl, e1, e2, e3, e4, N, At, ef, hk, sub⟩ ⟨rfl, hx⟩
    obtain ⟨t, ht, hdt⟩ := hw.get hx
    have sd : (flats ds).drop (ws.length - 1 - i) = t :: (flats ds).drop (ws.length - i) := by
      have lt := (List.getElem?_eq_some_iff.mp ht).1
      rw [List.drop_eq_getElem_cons lt, (List.getElem?_eq_some_iff.mp ht).2]
      congr 2
      omega
    have sp : flats ds = (flats ds).take (ws.length - 1 - i) ++ t :: (flats ds).drop (ws.length - i) := by
      have h1 := (List.take_append_drop (ws.length - 1 - i) (flats ds)).symm
      rw [sd] at h1
      exact h1
    obtain ⟨rest, er⟩ := flats_split sp
    rw [er] at ef
    have ee := flats_inj ef
    subst ee
    have ljs := At.len
    have les : (parts t ++ rest).length ≤ 100000 := by
      have h1 := len_flats (parts t ++ rest)
      have h2 := congrArg List.length er
      rw [List.length_drop] at h2
      omega
    have tm : Tm t := flats_tm htm t (List.mem_of_getElem? ht)
    refine ⟨fun σ' H3 => ∃ o4 o5 kb k js2, σ' = [some (.ref a), some (.ref nd), some (.ref lw), some x, o4, o5, some (.ref kb)] ∧ Same H H3 ∧ H3 l = some (.lst ws) ∧ H3 nd = some (.dT kvs) ∧ H3 lw = some (.lst (js2.reverse.map vI)) ∧
      H3 kb = some (.tup (k.map kV)) ∧ KeyOf ts k t ∧ Ats ts js2 rest, ⟨_, rfl, t, hdt.same e1 _ _, _, rfl, ite_b (fun ct => ?_) (fun ct => ?_)⟩, ?_⟩
    · obtain ⟨gs, rfl⟩ : ∃ gs, t = .tup gs := by
        cases t with
        | tup gs => exact ⟨gs, rfl⟩
        | _ => cases ct
      cases tm with
      | tup y rs htr =>
      cases hdt with
      | @tup b us2 _ g1 g2 =>
      cases g2 with
      | @cons w0 wr _ _ g3 g4 =>
      cases g3 with
      | str _ oy =>
      have lr := g4.len
      simp only [parts] at At ljs les er
      rw [List.length_append] at ljs les
      refine ⟨by decide, fun lp hlp => ?_⟩
      have k2 : Same H2 (upd H2 lp (.lst [])) := Same.new hlp
      obtain ⟨u1, u2⟩ := cutV_one (.str y :: wr) (by simp)
      refine ⟨_, rfl, _, rfl, b, _, rfl, SqT.of (k2 _ _ (e1 _ _ g1)), fun z => absurd z u2, fun _ tl htl => ?_⟩
      rw [u1]
      have k3 : Same H2 (upd (upd H2 lp (.lst [])) tl (.tup wr)) := k2.trans (Same.new htl)
      have m1 : lp ≠ tl := fun e => by
        rw [← e, upd_same] at htl
        cases htl
      have m2 : lw ≠ lp := fun e => by rw [← e, e4] at hlp; cases hlp
      have m3 : nd ≠ lp := fun e => by rw [← e, e3] at hlp; cases hlp
      have m4 : l ≠ lp := fun e => by rw [← e, e2] at hlp; cases hlp
      have m5 : lw ≠ tl := fun e => by
        rw [← e, upd_ne m2, e4] at htl
        cases htl
      have hlpH : H lp = none := by
        cases e : H lp with
        | none => rfl
        | some o =>
          rw [e1 _ _ e] at hlp
          cases hlp
      have mb1 : b ≠ lp := fun e => by rw [← e, e1 _ _ g1] at hlp; cases hlp
      refine ⟨tl, rfl, ⟨wr, SqT.of upd_same⟩, ?_⟩
      refine for_tup (xs := wr) (fun j σ H3 => ∃ o5 o6, σ = [some (.ref a), some (.ref nd), some (.ref lw), some (.ref b), some (.ref lp), o5, o6] ∧ Same H H3 ∧ H3 l = some (.lst ws) ∧ H3 nd = some (.dT kvs) ∧ H3 lw = some (.lst ((js.drop j).reverse.map vI)) ∧
        H3 lp = some (.lst ((js.take j).map vI)) ∧ H3 tl = some (.tup wr)) ⟨o5, o6, rfl, e1.trans k3, k3 _ _ e2, k3 _ _ e3, k3 _ _ e4, ?_, upd_same⟩ (fun j σ H3 hj ⟨_, _, _, _, _, _, _, _, z⟩ => SqT.of z) ?_ ?_
      · rw [upd_ne m1]
        exact upd_same
      · rintro j x σ H3 hj ⟨o5, o6, rfl, f1, f2, f3, f4, f5, f6⟩
        have lj : j < js.length := by
          have := (List.getElem?_eq_some_iff.mp hj).1
          omega
        obtain ⟨v1, v2⟩ := pop_rev lj
        refine ⟨_, rfl, .inl ⟨rfl, _, SqL.of f5⟩, _, rfl, .inl ⟨rfl, _, SqL.of f4⟩, lw, _, _, rfl, rfl, f4, v1, ?_⟩
        rw [v2]
        have f5' : (upd H3 lw (.lst ((js.drop (j + 1)).reverse.map vI))) lp = some (.lst ((js.take j).map vI)) := by rw [upd_ne (Ne.symm m2)]; exact f5
        refine ⟨lp, _, _, rfl, rfl, f5', ?_, _, _, rfl, Same.upd (Same.upd f1 hlwH) hlpH, ?_, ?_, ?_, ?_, ?_⟩
        · rw [List.length_map, List.length_take]
          exact szl (by omega)
        · rw [upd_ne m4, upd_ne n3]
          exact f2
        · rw [upd_ne m3, upd_ne n1]
          exact f3
        · rw [upd_ne m2]
          exact upd_same
        · have : (js.take (j + 1)).map vI = (js.take j).map vI ++ [vI js[j]] := by
            rw [take_succ' (List.getElem?_eq_getElem lj), List.map_append]
            rfl
          rw [this]
          exact upd_same
        · rw [upd_ne (Ne.symm m1), upd_ne (Ne.symm m5)]
          exact f6
      · rintro σ H3 ⟨o5, o6, rfl, f1, f2, f3, f4, f5, f6⟩
        rw [lr] at f4 f5
        obtain ⟨At1, At2⟩ := At.split
        refine ⟨_, rfl, b, _, 0, _, rfl, rfl, SqT.of (f1 _ _ g1), atI_nat (j := 0) rfl, by (show 1 ≤ sizeLine; decide), fun t1 ht1 => ?_⟩
        have k4 : Same H3 (upd H3 t1 (.tup [.str y])) := Same.new ht1
        refine ⟨_, rfl, lp, _, rfl, .inl ⟨SqL.of (k4 _ _ f5), fun t2 ht2 => ?_⟩⟩
        have k5 : Same H3 (upd (upd H3 t1 (.tup [.str y])) t2 (.tup ((js.take rs.length).map vI))) := k4.trans (Same.new ht2)
        have fin : ∀ (kb : Addr) (H4 : Hp), Same H3 H4 → H4 kb = some (.tup (.str y :: (js.take rs.length).map vI)) → ∃ o4 o5' kb' k js2, [some (.ref a), some (.ref nd), some (.ref lw), some (V.ref b), some (.ref lp), o5, some (.ref kb)] = [some (.ref a), some (.ref nd), some (.ref lw), some (.ref b), o4, o5', some (.ref kb')] ∧ Same H H4 ∧ H4 l = some (.lst ws) ∧ H4 nd = some (.dT kvs) ∧ H4 lw = some (.lst (js2.reverse.map vI)) ∧
            H4 kb' = some (.tup (k.map kV)) ∧ KeyOf ts k (.tup (.str y :: rs)) ∧ Ats ts js2 rest := by
          intro kb H4 kk hkb
          refine ⟨_, _, kb, .inr y :: (js.take rs.length).map kI, js.drop rs.length, rfl, f1.trans kk, kk _ _ f2, kk _ _ f3, kk _ _ f4, ?_, .tup y _ _ oy (by omega) At1, At2⟩
          rw [List.map_cons, kV_kI]
          exact hkb
        refine ⟨t1, t2, _, _, rfl, rfl, SqT.of (Same.new ht2 _ _ upd_same), SqT.of upd_same, ?_, fun z => (by cases z), fun _ z => ?_, fun _ _ t3 ht3 => ?_⟩
        · rw [List.length_map, List.length_take]
          simp only [List.length_cons, List.length_nil]
          exact sz (by omega)
        · refine fin t1 _ k5 ?_
          rw [z]
          exact Same.new ht2 _ _ upd_same
        · exact fin t3 _ (k5.trans (Same.new ht3)) upd_same
    · obtain ⟨u, rfl⟩ : ∃ u, t = .int u := by
        cases tm with
        | int u => exact ⟨u, rfl⟩
        | tup y rs _ => cases ct
      cases hdt
      refine ⟨_, rfl, by (show 1 ≤ sizeLine; decide), fun kb hkb => ?_⟩
      have k2 : Same H2 (upd H2 kb (.tup [.int u])) := Same.new hkb
      exact ⟨_, _, kb, [.inl u], js, rfl, e1.trans k2, k2 _ _ e2, k2 _ _ e3, k2 _ _ e4, upd_same, .int u, by simpa [parts] using At⟩
    · rintro σ H3 ⟨o4, o5, kb, k, js2, rfl, f1, f2, f3, f4, f5, ky, At2⟩
      have lj2 := At2.len
      rw [List.length_append] at les
      have lk : kvs.length < sizeLine := szl (by omega)
      refine ⟨_, rfl, .inl ⟨rfl, _, SqL.of f4⟩, _, rfl, .inr (.inr (.inl ⟨rfl, .inr ⟨_, f3⟩⟩)), _, rfl, _, rfl, nd, kvs, rfl, f3, nd, kvs, k, kb, _, rfl, rfl, f3, f5, lk, fun v hv => ?_, fun hn => ?_⟩
      · obtain ⟨n, rfl, hn⟩ := N.old ky hv
        refine ⟨lw, _, _, rfl, rfl, f4, ?_, _, _, _, _, kvs, ts, n :: js2, t :: rest, rfl, Same.upd f1 hlwH, ?_, ?_, ?_, N, .cons hn At2, ?_, by omega, sub⟩
        · rw [List.length_map, List.length_reverse]
          exact szl (by omega)
        · rw [upd_ne n3]
          exact f2
        · rw [upd_ne n1]
          exact f3
        · rw [List.reverse_cons, List.map_append]
          exact upd_same
        · rw [flats_cons, ← er, ← sd]
          congr 1
          omega
      · have N2 := N.new ky hn
        have f4' : (upd H3 nd (.dT (kvs ++ [(k, V.int (kvs.length : Int))]))) lw = some (.lst (js2.reverse.map vI)) := by rw [upd_ne (Ne.symm n1)]; exact f4
        refine ⟨lw, _, _, rfl, rfl, f4', ?_, _, _, _, _, kvs ++ [(k, V.int (kvs.length : Int))], ts ++ [t], kvs.length :: js2, t :: rest, rfl, Same.upd (Same.upd f1 hnd) hlwH, ?_, ?_, ?_, N2, .cons ?_ (At2.mono fun _ _ => app_get), ?_, ?_, fun t' h => ?_⟩
        · rw [List.length_map, List.length_reverse]
          exact szl (by omega)
        · rw [upd_ne n3, upd_ne n2]
          exact f2
        · rw [upd_ne n1]
          exact upd_same
        · rw [List.reverse_cons, List.map_append]
          exact upd_same
        · rw [N.len, List.getElem?_append_right (Nat.le_refl _), Nat.sub_self]
          rfl
        · rw [flats_cons, ← er, ← sd]
          congr 1
          omega
        · rw [List.length_append, List.length_singleton]
          omega
        · rcases List.mem_append.mp h with h | h
          · exact sub _ h
          · rw [List.mem_singleton.mp h]
            exact List.mem_of_getElem? ht
  · rintro σ H3 ⟨o3, o4, o5, o6, kvs, ts, js, es, rfl, e1, e2, e3, e4, N, At, ef, hk, sub⟩
    rw [Nat.sub_self, List.drop_zero] at ef
    have ee := flats_inj ef
    subst ee
    refine ⟨_, rfl, nd, kvs, rfl, .inl e3, fun l1 bs hl1 hks => ?_⟩
    have k2 : Same H3 (upd H3 l1 (.lst (bs.map V.ref))) := Same.new hl1
    refine ⟨_, rfl, lw, _, rfl, SqL.of (k2 _ _ e4), fun l2 hl2' => ?_⟩
    have k3 := k2.trans (Same.new (o := .lst (js.reverse.map vI).reverse) hl2')
    refine ⟨by (show 2 ≤ sizeLine; decide), fun p hp => ?_⟩
    have k4 := k3.trans (Same.new (o := .tup [.ref l1, .ref l2]) hp)
    refine q p l1 l2 _ bs ts js (e1.trans k4) upd_same ?_ ?_ ((N.nodes hks).same k4) At ?_ sub ?_
    · exact Same.new hp _ _ (Same.new hl2' _ _ upd_same)
    · have : js.map vI = (js.reverse.map vI).reverse := by rw [← List.map_reverse, List.reverse_reverse]
      rw [this]
      exact Same.new hp _ _ upd_same
    · rw [← N.len]
      omega
    · rw [At.len]
      have := len_flats es
      omega
end
end K15
set_option maxRecDepth 100000
set_option maxHeartbeats 2000000
namespace K15
open PySem L2 Fm
section
variable {P : Program} {w : World} {K : PySem.W.Frag} {mg : Str → Option Value} {base : Heap} (T : Txt K mg)
theorem ok_filled : FnOk P w K mg base CX0 1 T.a_filled T.d_filled ["nodes", "values"] (spFilled K) := by
  refine T.F_filled.ok sc_filled ?_ (fun cdv A outer s H vs Q E hr h => ?_)
  · rintro vs H Q E ⟨l, va, bs, ts, f, rfl, _⟩
    rfl
  obtain ⟨l, va, bs, ts, f, rfl, hl, N, hz, hv, q⟩ := h
  refine ⟨_, 
    (pss_cons (ps_set (i := 2) sc_filled.nd rfl (Or.inr rfl) (pe_lst pa_nil))
    (pss_cons (ps_for PassesOwn.never rfl (pi_list (pv 0)) (pg_name (i := 3) sc_filled.nd rfl (Or.inl rfl)) (pss_one (ps_if (pt_val (pe_isD (fun _ => kit_S) T.m_isinstance (pe_ix ix_tup (pv 3) pe_int (fun _ _ => rfl)) (pe_bltn (v := .ty "str") (u := .type "str") (by rfl) T.m_str (by decide +kernel) rfl) mon_ixT)) (pss_one (ps_expr (pe_bm PySem.F.plainAttrs_list PySem.F.slot_list_append PySem.F.type_list_append mt_append (pv 2) (pa_cons (pe_op op_catA (pe_tup (pa_cons (pe_ix ix_tup (pv 3) pe_int (fun _ _ => rfl)) pa_nil)) (pe_callTy call_tuple_of (by rfl) T.m_tuple (by decide +kernel) (pa_cons (pe_lc (own := [("part", 4)]) (g := gName 4) (tt := tYes) rfl sc_filled.nd (pi_tup (pe_slice sl_tupA (pv 3) (po_some pe_int) po_none)) (blkOk_by (N := N_filled) (sc := defScope s_filled) (by decide +kernel)) (fun _ _ _ _ _ => pg_name (i := 4) sc_filled.nd rfl (Or.inl rfl)) (fun _ _ _ _ _ => pts_nil) (fun _ _ _ _ _ => pe_ix (r := rIxL K) ix_list (pv 2) (pv 4) (fun _ _ => rfl))) pa_nil))) pa_nil)))) (pss_one (ps_expr (pe_bm PySem.F.plainAttrs_list PySem.F.slot_list_append PySem.F.type_list_append mt_append (pv 2) (pa_cons (pe_alt (pe_ix ix_seq (pv 1) (pe_ix ix_tup (pv 3) pe_int (fun _ _ => rfl)) (fun _ _ => rfl)) (pe_dget (hu1 hr) (pv 1) (pe_ix ix_tup (pv 3) pe_int (fun _ _ => rfl)) (fun _ _ => rfl))) pa_nil)))))))
    (pss_one (ps_ret (pv 2))))), ?_⟩
  refine ⟨by decide, fun lm hlm => ?_⟩
  have k0 : Same H (upd H lm (.lst [])) := Same.new hlm
  have lb := N.len
  refine ⟨_, rfl, l, rfl, ⟨_, SqL.of (k0 _ _ hl)⟩, ?_⟩
  refine for_list (xs := bs.map V.ref) (fun i σ H' => ∃ o3 o4 mv, σ = [some (.ref l), some va, some (.ref lm), o3, o4] ∧ Same H H' ∧ H' lm = some (.lst mv) ∧ DvL (mask lm H') mv ((ts.take i).map (putD f)) ∧ i ≤ ts.length)
    ⟨none, none, [], rfl, k0, upd_same, .nil, Nat.zero_le _⟩ (fun i σ H' _ ⟨_, _, _, _, k, _⟩ => SqL.of (k _ _ hl)) ?_ ?_
  · rintro i x σ H1 hx ⟨o3, o4, mv, rfl, k, hm, hd, hi⟩
    rw [List.getElem?_map] at hx
    obtain ⟨b, hb, rfl⟩ := Option.map_eq_some_iff.mp hx
    have lt : i < ts.length := by
      have := (List.getElem?_eq_some_iff.mp hb).1
      omega
    have ht : ts[i]? = some ts[i] := List.getElem?_eq_getElem lt
    obtain ⟨key, hk, ky⟩ := N.node i b _ hb ht
    have lmv := hd.len
    rw [List.length_map, List.length_take] at lmv
    have tk1 : (ts.take (i + 1)).map (putD f) = (ts.take i).map (putD f) ++ [putD f ts[i]] := by
      rw [take_succ' ht, List.map_append]
      rfl
    generalize ts[i] = t at ht ky tk1
    cases ky with
    | int u =>
      have hbk := k _ _ hk
      refine ⟨_, rfl, b, _, 0, _, rfl, rfl, SqT.of hbk, atI_nat (j := 0) rfl, .int u, .int u, _, rfl, iteF ?_⟩
      obtain ⟨v, lk, dv⟩ := hv u (List.mem_of_getElem? ht)
      have lk1 := lk.same k
      have sz1 : mv.length < sizeLine := szl (by omega)
      have fin : DvL (mask lm (upd H1 lm (.lst (mv ++ [v])))) (mv ++ [v]) ((ts.take (i + 1)).map (putD f)) := by
        rw [mask_updb, tk1]
        exact hd.snoc (dv.same (same_mask k hlm) _ _)
      refine ⟨_, rfl, .inl ⟨rfl, _, SqL.of hm⟩, ?_⟩
      rcases lk1 with ⟨a, xs, rfl, s1, g⟩ | ⟨a, kvs, rfl, s1, g⟩
      · refine .inl ⟨_, rfl, _, rfl, b, _, 0, _, rfl, rfl, SqT.of hbk, atI_nat (j := 0) rfl, ?_⟩
        rcases s1 with s1 | s1
        · exact .inl ⟨a, xs, u, v, rfl, rfl, s1, g, lm, mv, v, rfl, rfl, hm, sz1, _, _, _, rfl, Same.upd k hlm, upd_same, fin, lt⟩
        · exact .inr (.inl ⟨a, xs, u, v, rfl, rfl, s1, g, lm, mv, v, rfl, rfl, hm, sz1, _, _, _, rfl, Same.upd k hlm, upd_same, fin, lt⟩)
      · refine .inr ⟨_, rfl, _, rfl, b, _, 0, _, rfl, rfl, SqT.of hbk, atI_nat (j := 0) rfl, a, v, rfl, ?_, lm, mv, v, rfl, rfl, hm, sz1, _, _, _, rfl, Same.upd k hlm, upd_same, fin, lt⟩
        rw [← g]
        exact L2.DGet.k s1
    | tup x js ds ox zd at_ =>
      have hbk : H1 b = some (.tup (V.str x :: js.map vI)) := by
        have h0 := k _ _ hk
        rw [List.map_cons, kV_kI] at h0
        exact h0
      obtain ⟨u1, u2⟩ := cutV_one (V.str x :: js.map vI) (by simp)
      have ljs := at_.len
      refine ⟨_, rfl, b, _, 0, _, rfl, rfl, SqT.of hbk, atI_nat (j := 0) rfl, .str x, .str x ox, _, rfl, iteT ?_⟩
      refine ⟨_, rfl, .inl ⟨rfl, _, SqL.of hm⟩, _, rfl, b, _, 0, _, rfl, rfl, SqT.of hbk, atI_nat (j := 0) rfl, by (show 1 ≤ sizeLine; decide), fun t1 ht1 => ?_⟩
      have k1 : Same H1 (upd H1 t1 (.tup [.str x])) := Same.new ht1
      refine ⟨_, rfl, _, rfl, b, _, rfl, SqT.of (k1 _ _ hbk), fun z => absurd z u2, fun _ p hp => ?_⟩
      rw [u1]
      have k2 : Same H1 (upd (upd H1 t1 (.tup [.str x])) p (.tup (js.map vI))) := k1.trans (Same.new hp)
      refine ⟨p, rfl, ⟨_, SqT.of upd_same⟩, fun Dl hD => ?_⟩
      refine lc_tupD (K := K) (atV mv) (SqT.of upd_same) (dvl_ints js) hD (show (js.map vI).length ≤ 100000 by rw [List.length_map]; omega) (fun _ => rfl) (fun _ _ _ r => r) (fun y d H' R k6 hm6 hy r => ?_) (fun H' k6 hl6 => ?_)
      · obtain ⟨j, hj, rfl⟩ := List.mem_map.mp hm6
        cases hy
        obtain ⟨n, hn⟩ := List.mem_iff_getElem?.mp hj
        obtain ⟨d', _, h2⟩ := at_.get hn
        have lj : j < mv.length := by
          have := (List.getElem?_eq_some_iff.mp h2).1
          rw [List.length_take] at this
          omega
        exact ⟨_, rfl, _, rfl, lm, mv, _, _, rfl, rfl, SqL.of (k6 _ _ (k2 _ _ hm)), atI_nat (atV_get lj), r _ (Same.refl _)⟩
      · have k7 := k2.trans k6
        have fin : ∀ (tt : Addr) (H4 : Hp), Same H' H4 → H4 tt = some (.tup (.str x :: (js.map fun j : Nat => D.int (j : Int)).map (atV mv))) → ∃ l' xs' y', V.ref lm = .ref l' ∧ [V.ref tt] = [y'] ∧ H4 l' = some (.lst xs') ∧ xs'.length < sizeLine ∧
            ∃ o3' o4' mv', [some (.ref l), some va, some (.ref lm), some (V.ref b), o4] = [some (.ref l), some va, some (.ref lm), o3', o4'] ∧ Same H (upd H4 l' (.lst (xs' ++ [y']))) ∧ (upd H4 l' (.lst (xs' ++ [y']))) lm = some (.lst mv') ∧ DvL (mask lm (upd H4 l' (.lst (xs' ++ [y'])))) mv' ((ts.take (i + 1)).map (putD f)) ∧ i + 1 ≤ ts.length := by
          intro tt H4 k8 htt
          have k9 := k7.trans k8
          have hm4 := k9 _ _ hm
          have ntt : tt ≠ lm := fun e => by
            rw [e, hm4] at htt
            cases htt
          refine ⟨lm, mv, _, rfl, rfl, hm4, szl (by omega), _, _, _, rfl, Same.upd (k.trans k9) hlm, upd_same, ?_, lt⟩
          rw [mask_updb, tk1]
          have hd4 := hd.same (mask_same2 k9) _ _
          exact hd4.snoc (.tup (by rw [mask_ne ntt]; exact htt) (.cons (.str x ox) (made_parts hd4 at_)))
        refine ⟨Dl, _, rfl, .inl ⟨SqL.of hl6, fun t2 ht2 => ?_⟩⟩
        have k8 : Same H' (upd H' t2 (.tup ((js.map fun j : Nat => D.int (j : Int)).map (atV mv)))) := Same.new ht2
        have ht1' := k8 _ _ (k6 _ _ (Same.new hp _ _ (upd_same (H := H1) (a := t1) (o := .tup [.str x]))))
        refine ⟨t1, t2, _, _, rfl, rfl, SqT.of ht1', SqT.of upd_same, ?_, fun z => (by cases z), fun _ z => ?_, fun _ _ t3 ht3 => ?_⟩
        · rw [List.length_map, List.length_map]
          simp only [List.length_cons, List.length_nil]
          exact sz (by omega)
        · refine fin t1 _ k8 ?_
          rw [z] at ht1' ⊢
          exact ht1'
        · exact fin t3 _ (k8.trans (Same.new ht3)) upd_same
  · rintro σ H1 ⟨o3, o4, mv, rfl, k, hm, hd, hi⟩
    refine ⟨_, rfl, q lm H1 mv k hm ?_⟩
    rw [List.length_map, lb, List.take_length] at hd
    exact hd.un
end
end K15
set_option maxRecDepth 100000
set_option maxHeartbeats 2000000
namespace K15
open PySem L2 Fm
section
variable {P : Program} {w : World} {K : PySem.W.Frag} {mg : Str → Option Value} {base : Heap} (T : Txt K mg)
theorem ok_put_all : FnOk P w K mg base CX0 3 T.a_put_all T.d_put_all ["terms", "values"] (spPutAll K) := by
  have G_shared := ok_shared (P := P) (w := w) (base := base) T
  have G_filled := ok_filled (P := P) (w := w) (base := base) T
  refine T.F_put_all.ok sc_put_all ?_ (fun cdv A outer s H vs Q E hr h => ?_)
  · rintro vs H Q E ⟨a, va, us, ds, f, rfl, _⟩
    rfl
  obtain ⟨a, va, us, ds, f, rfl, hs, hd, htm, hz, hv, q⟩ := h
  refine ⟨_, 
    (pss_cons (ps_asg (pe_call G_shared (hr.mono (by omega)) (by rfl) T.f_shared T.F_shared.kp T.b_shared .nil pass0 (pa_cons (pv 0) pa_nil)) (pg_tup rfl (pgs_cons (pg_name (i := 2) sc_put_all.nd rfl (Or.inl rfl)) (pgs_cons (pg_name (i := 3) sc_put_all.nd rfl (Or.inl rfl)) pgs_nil))))
    (pss_cons (ps_set (i := 4) sc_put_all.nd rfl (Or.inr rfl) (pe_call G_filled (hr.mono (by omega)) (by rfl) T.f_filled T.F_filled.kp T.b_filled .nil pass0 (pa_cons (pv 2) (pa_cons (pv 1) pa_nil))))
    (pss_one (ps_ret (pe_lc (own := [("top", 5)]) (g := gName 5) (tt := tYes) rfl sc_put_all.nd (pi_list (pv 3)) (blkOk_by (N := N_put_all) (sc := defScope s_put_all) (by decide +kernel)) (fun _ _ _ _ _ => pg_name (i := 5) sc_put_all.nd rfl (Or.inl rfl)) (fun _ _ _ _ _ => pts_nil) (fun _ _ _ _ _ => pe_ix (r := rIxL K) ix_list (pv 4) (pv 5) (fun _ _ => rfl))))))), ?_⟩
  refine ⟨_, rfl, a, us, ds, rfl, hs, hd, htm, hz, fun p l1 l2 H1 bs ts js k hp h1 h2 N At hts sub hjs => ?_⟩
  refine ⟨p, _, rfl, SqT.of hp, rfl, _, _, rfl, _, _, rfl, rfl, ?_⟩
  refine ⟨_, rfl, _, rfl, l1, va, bs, ts, f, rfl, h1, N, hts, fun u hu => ?_, fun m H2 mv k2 hm hd2 => ?_⟩
  · obtain ⟨v, lk, dv⟩ := hv u (sub _ hu)
    exact ⟨v, lk.same k, dv.same k _ _⟩
  refine ⟨_, rfl, l2, rfl, ⟨_, SqL.of (k2 _ _ h2)⟩, fun Dl hD => ?_⟩
  have lmv := hd2.len
  rw [List.length_map] at lmv
  refine lc_listF (K := K) (atVV mv) (SqL.of (k2 _ _ h2)) hD (by rw [List.length_map]; exact hjs) (fun _ => rfl) (fun _ _ _ r => r) (fun y H' R k6 hy r => ?_) (fun H' k6 hl => ?_)
  · obtain ⟨j, hj, rfl⟩ := List.mem_map.mp hy
    have lj := ats_sub At j hj
    exact ⟨_, rfl, _, rfl, m, mv, _, _, rfl, rfl, SqL.of (k6 _ _ hm), atI_nat (atVV_get (by omega)), r _ (Same.refl _)⟩
  · have hDH : H Dl = none := by
      cases e : H Dl with
      | none => rfl
      | some o =>
        rw [k2 _ _ (k _ _ e)] at hD
        cases hD
    refine q Dl H' _ (k.trans (k2.trans k6)) hDH hl ?_
    rw [atVV_map]
    have At' : Ats (ts.take ts.length) js ds := by rw [List.take_length]; exact At
    have hd3 : DvL H2 mv ((ts.take ts.length).map (putD f)) := by rw [List.take_length]; exact hd2
    exact (made_parts hd3 At').same (same_mask k6 hD) _ _
theorem ok_numbered : FnOk P w K mg base CX0 4 T.a_numbered T.d_numbered ["terms"] (spNumbered K) := by
  have G_laid_out := ok_laid_out (P := P) (w := w) (base := base) T
  have G_put_all := ok_put_all (P := P) (w := w) (base := base) T
  refine T.F_numbered.ok sc_numbered ?_ (fun cdv A outer s H vs Q E hr h => ?_)
  · rintro vs H Q E ⟨a, us, ds, rfl, _⟩
    rfl
  obtain ⟨a, us, ds, rfl, hs, hd, htm, hz, q⟩ := h
  refine ⟨_, 
    (pss_cons (ps_set (i := 1) sc_numbered.nd rfl (Or.inl rfl) pe_dnewK)
    (pss_cons (ps_for PassesOwn.never rfl (pi_list (pe_call G_laid_out (hr.mono (by omega)) (by rfl) T.f_laid_out T.F_laid_out.kp T.b_laid_out .nil pass0 (pa_cons (pv 0) pa_nil))) (pg_name (i := 2) sc_numbered.nd rfl (Or.inl rfl)) (pss_one (ps_if (pt_not (pt_val (pe_isD (fun _ => kit_T) T.m_isinstance (pv 2) (pe_bltn (v := .ty "tuple") (u := .type "tuple") (by rfl) T.m_tuple (by decide +kernel) rfl) mon_var))) (pss_one (ps_expr (pe_dsetd (pv 1) (pv 2) (pe_callB call_lenD (by rfl) T.m_len (by decide +kernel) (pa_cons (pv 1) pa_nil)) ⟨by rfl, by rfl, by rfl, by rfl⟩))) pss_nil)))
    (pss_one (ps_ret (pe_call G_put_all (hr.mono (by omega)) (by rfl) T.f_put_all T.F_put_all.kp T.b_put_all .nil pass0 (pa_cons (pv 0) (pa_cons (pv 1) pa_nil))))))), ?_⟩
  show ∀ nd : Addr, H nd = none → _
  intro nd hnd
  have k0 : Same H (upd H nd (.dK [])) := Same.new hnd
  refine ⟨_, rfl, H, a, us, ds, rfl, k0, hs.imp (Evl.ex_l k0) (Evl.ex_t k0), hd, htm, hz, fun l H1 ws k hl hl2 hw => ?_⟩
  have n2 : l ≠ nd := fun e => by
    rw [e, upd_same] at hl
    cases hl
  have lw := hw.len
  have lz := flats_len ds
  refine ⟨l, rfl, ⟨_, SqL.of hl2⟩, ?_⟩
  refine for_list (xs := ws) (fun i σ H' => ∃ o, σ = [some (.ref a), some (.ref nd), o] ∧ Same H H' ∧ H' l = some (.lst ws) ∧ H' nd = some (.dK (ordK ((((flats ds).take i).filterMap intOf).foldl addI []) 0)))
    ⟨none, rfl, k0.trans k, hl2, k _ _ upd_same⟩ (fun i σ H' _ ⟨_, _, _, e, _⟩ => SqL.of e) ?_ ?_
  · rintro i x σ H2 hx ⟨o, rfl, k1, e1, e2⟩
    obtain ⟨d, ht, hdt⟩ := hw.get hx
    have tm : Tm d := flats_tm htm d (List.mem_of_getElem? ht)
    have lt := (List.getElem?_eq_some_iff.mp hx).1
    have lu := foldl_addI_len (((flats ds).take i).filterMap intOf) []
    have lu2 := List.length_filterMap_le intOf ((flats ds).take i)
    rw [List.length_take] at lu2
    simp only [List.length_nil, Nat.zero_add] at lu
    have tk1 : ((flats ds).take (i + 1)).filterMap intOf = ((flats ds).take i).filterMap intOf ++ (intOf d).toList := by
      rw [take_succ' ht, List.filterMap_append]
      cases d <;> rfl
    rw [tk1, List.foldl_append]
    generalize ((((flats ds).take i).filterMap intOf).foldl addI []) = os at e2 lu ⊢
    refine ⟨_, rfl, d, hdt.same k1 _ _, _, rfl, ite_b (fun c => ?_) (fun c => ?_)⟩
    · obtain ⟨u, rfl⟩ : ∃ u, d = .int u := by
        cases tm with
        | int u => exact ⟨u, rfl⟩
        | tup y rs _ => cases c
      cases hdt
      refine ⟨_, rfl, nd, rfl, .inl ⟨_, .inl e2⟩, _, rfl, _, rfl, nd, _, rfl, e2, _, .inl u, e2, rfl, by rw [ordK_len]; exact szl (by omega), fun v hv => ?_, fun hn => ?_⟩
      · rw [ordK_val] at hv
        by_cases m : u ∈ os
        · refine ⟨_, rfl, k1, e1, ?_⟩
          show H2 nd = some (.dK (ordK (addI os u) 0))
          unfold addI
          rw [if_pos m]
          exact e2
        · rw [if_neg m] at hv
          cases hv
      · have hn' := hn
        rw [ordK_val] at hn'
        by_cases m : u ∈ os
        · rw [if_pos m] at hn'
          cases hn'
        · refine ⟨_, rfl, Same.upd k1 hnd, by rw [upd_ne n2]; exact e1, ?_⟩
          show (upd H2 nd _) nd = some (.dK (ordK (addI os u) 0))
          unfold addI
          rw [if_neg m, ordK_app, upd_same, putK_new _ hn, ordK_len, Nat.zero_add]
    · refine ⟨_, rfl, k1, e1, ?_⟩
      have : intOf d = none := by
        cases d <;> first | rfl | (cases c)
      rw [this]
      exact e2
  · rintro σ H2 ⟨o, rfl, k1, e1, e2⟩
    have e3 : ((flats ds).take ws.length) = flats ds := List.take_of_length_le (by omega)
    rw [e3] at e2
    refine ⟨_, rfl, _, rfl, a, _, us, ds, numF ds, rfl, hs.imp (Evl.ex_l k1) (Evl.ex_t k1), hd.same k1 _ _, htm, hz, fun u hu => ?_, fun m H3 ws3 k3 hm0 hm hws => ?_⟩
    · refine ⟨_, .inr ⟨nd, _, rfl, e2, ?_⟩, .int _⟩
      have mm : u ∈ firstsOf ds := firstsOf_mem.mpr hu
      have := ordK_val (firstsOf ds) u 0
      rw [if_pos mm, Nat.zero_add] at this
      exact this
    · refine q m H3 ws3 (k1.trans k3) ?_ hm hws
      cases e : H m with
      | none => rfl
      | some o =>
        rw [k1 _ _ e] at hm0
        cases hm0
end
end K15
set_option maxRecDepth 100000
set_option maxHeartbeats 4000000
namespace K15
open PySem L2 Fm
section
variable {P : Program} {w : World} {K : PySem.W.Frag} {mg : Str → Option Value} {base : Heap} (T : Txt K mg)
theorem ok_law_take : FnOk P w K mg base CX0 1 T.a__law_take T.d__law_take ["_law_bag_here", "_law_many"] spTake := by
  refine T.F__law_take.ok sc__law_take ?_ (fun cdv A outer s H vs Q E hr h => ?_)
  · rintro vs H Q E ⟨b, p, n, rfl, _⟩
    rfl
  obtain ⟨b, p, n, rfl, B0, n0, n1, q⟩ := h
  refine ⟨_, 
    (Evl.pss_cut (ps_if (pt_cmpR op_eq (pe_ix ix_list (pv 0) pe_int (fun _ _ => rfl)) pe_int (nomark _)) (pss_cons (ps_set (i := 2) sc__law_take.nd rfl (Or.inl rfl) pe_int) (Evl.pss_cut (ps_if (pt_cmpR op_lt (pe_ix ix_list (pv 0) pe_int (fun _ _ => rfl)) (pe_callB call_len_seq (by rfl) T.m_len (by decide +kernel) (pa_cons (pe_ix ix_list (pv 0) pe_int (fun _ _ => rfl)) pa_nil)) (nomark _)) (pss_one (ps_set (i := 2) sc__law_take.nd rfl (Or.inl rfl) (pe_ix ix_list (pe_ix ix_list (pv 0) pe_int (fun _ _ => rfl)) (pe_ix ix_list (pv 0) pe_int (fun _ _ => rfl)) (fun _ _ => rfl)))) pss_nil) (pss_cons (ps_augS (pv 0) pe_int pg_list pe_int ip_add set_list) (Evl.pss_cut (ps_if (pt_cmpR op_ge (pv 2) pe_int (nomark _)) (pss_one (ps_asg (pv 2) (pg_sub (pv 0) pe_int set_list))) pss_nil) (pss_cons (ps_set (i := 3) sc__law_take.nd rfl (Or.inl rfl) (pe_op op_add (pe_op op_add (pe_op op_mul (pe_ix ix_list (pv 0) pe_int (fun _ _ => rfl)) pe_int) (pe_op op_mod (pe_callTy call_int1 (by rfl) T.m_int (by decide +kernel) (pa_cons (pv 2) pa_nil)) pe_int)) (pe_op op_mul pe_int (pe_ix ix_list (pv 0) pe_int (fun _ _ => rfl))))) (pss_one (ps_asg (pe_op op_mod (pe_callTy call_int1 (by rfl) T.m_int (by decide +kernel) (pa_cons (pv 3) pa_nil)) pe_int) (pg_sub (pv 0) pe_int set_list)))))))) pss_nil)
    (pss_cons (ps_if (pt_cmpR op_gt (pe_ix ix_list (pv 0) pe_int (fun _ _ => rfl)) pe_int (nomark _)) (pss_cons (ps_set (i := 4) sc__law_take.nd rfl (Or.inl rfl) (pe_op op_mod (pe_callTy call_int1 (by rfl) T.m_int (by decide +kernel) (pa_cons (pe_ix ix_list (pv 0) pe_int (fun _ _ => rfl)) pa_nil)) (pv 1))) (pss_cons (ps_asg (pe_op op_fdiv (pe_ix ix_list (pv 0) pe_int (fun _ _ => rfl)) (pv 1)) (pg_sub (pv 0) pe_int set_list)) (pss_one (ps_ret (pv 4))))) pss_nil)
    (pss_cons (ps_set (i := 5) sc__law_take.nd rfl (Or.inl rfl) (pe_op op_mod (pe_callTy call_int1 (by rfl) T.m_int (by decide +kernel) (pa_cons (pe_op op_mul (pe_op op_add (pe_ix ix_list (pv 0) pe_int (fun _ _ => rfl)) pe_int) pe_int) pa_nil)) pe_int))
    (pss_cons (ps_set (i := 6) sc__law_take.nd rfl (Or.inl rfl) (pe_op op_mod (pe_callTy call_int1 (by rfl) T.m_int (by decide +kernel) (pa_cons (pe_op op_mul (pe_op op_mod (pe_callTy call_int1 (by rfl) T.m_int (by decide +kernel) (pa_cons (pe_op op_mul (pv 5) (pv 5)) pa_nil)) pe_int) pe_int) pa_nil)) pe_int))
    (pss_cons (ps_if (pt_cmpR op_gt (pv 1) pe_int (nomark _)) (pss_one (ps_ret (pe_op op_mod (pe_callTy call_int1 (by rfl) T.m_int (by decide +kernel) (pa_cons (pe_op op_add (pe_op op_mul (pv 6) pe_int) (pv 5)) pa_nil)) (pv 1)))) pss_nil)
    (pss_one (ps_ret (pe_op op_mod (pe_callTy call_int1 (by rfl) T.m_int (by decide +kernel) (pa_cons (pe_op op_fdiv (pv 6) pe_int) pa_nil)) (pv 1))))))))), ?_⟩
  -- the first if: the state behind it
  refine ⟨fun σ H' => ∃ c mx, σ = [some (.ref b), some (.int n), c, mx, none, none, none] ∧ Go b p H H', ?_, ?_⟩
  · obtain ⟨st, m, k, cells, hb, hp, ne, s0, m0, m1, k0, c0⟩ := id B0
    obtain ⟨kn, rfl⟩ := Int.eq_ofNat_of_zero_le k0
    refine ⟨_, rfl, b, _, 0, _, rfl, rfl, SqL.of hb, atI_nat (j := 0) rfl, rfl, _, rfl, ite_b (fun h1 => ?_) (fun h1 => ?_)⟩
    · refine ⟨fun σ H' => ∃ c, σ = [some (.ref b), some (.int n), some (.int c), none, none, none, none] ∧ H' = H ∧ 0 ≤ c, ?_, ?_⟩
      · refine ⟨_, rfl, b, _, 2, _, rfl, rfl, SqL.of hb, atI_nat (j := 2) rfl, _, rfl, b, _, 3, _, rfl, rfl, SqL.of hb, atI_nat (j := 3) rfl, p, cells.map V.int, rfl, .inl (SqL.of hp), _, _, rfl, rfl, _, rfl, ite_b (fun h2 => ?_) (fun h2 => ?_)⟩
        · have lt : kn < cells.length := by
            have := of_decide_eq_true h2
            rw [List.length_map] at this
            omega
          have ga : (cells.map V.int)[kn]? = some (.int cells[kn]) := by
            rw [List.getElem?_map]
            simp [lt]
          refine ⟨_, rfl, b, _, 3, _, rfl, rfl, SqL.of hb, atI_nat (j := 3) rfl, _, rfl, b, _, 2, _, rfl, rfl, SqL.of hb, atI_nat (j := 2) rfl, p, cells.map V.int, kn, _, rfl, rfl, SqL.of hp, atI_nat ga, ?_⟩
          exact ⟨_, rfl, rfl, c0 _ (List.getElem_mem lt)⟩
        · exact ⟨0, rfl, rfl, Int.le_refl _⟩
      · rintro σ H' ⟨c, rfl, rfl, c1⟩
        refine ⟨_, rfl, b, _, 2, _, rfl, rfl, hb, by decide, rfl, _, _, rfl, rfl, b, _, 2, 2, rfl, rfl, hb, rfl, ?_⟩
        refine ⟨fun σ H2 => σ = [some (.ref b), some (.int n), some (.int c), none, none, none, none] ∧ ∃ s1, H2 = upd H' b (.lst [.int s1, .int m, .int ((kn : Int) + 1), .ref p]) ∧ 0 ≤ s1, ?_, ?_⟩
        · refine ⟨_, rfl, _, _, rfl, rfl, _, rfl, ite_b (fun h2 => ?_) (fun h2 => ?_)⟩
          · refine ⟨_, rfl, _, rfl, b, _, 0, 0, rfl, rfl, upd_same, rfl, ?_⟩
            exact ⟨rfl, c, upd_upd, c1⟩
          · exact ⟨rfl, st, rfl, s0⟩
        · rintro σ H2 ⟨rfl, s1, rfl, s2⟩
          have e1 : (upd H' b (.lst [.int s1, .int m, .int ((kn : Int) + 1), .ref p])) b = some (.lst [.int s1, .int m, .int ((kn : Int) + 1), .ref p]) := upd_same
          refine ⟨_, rfl, b, _, 1, _, rfl, rfl, SqL.of e1, atI_nat (j := 1) rfl, _, _, rfl, rfl, .inl ⟨by omega, by omega⟩, _, rfl, .inl ⟨_, rfl, _, _, rfl, rfl, (by show (0 : Int) < _; decide), _, _, rfl, rfl, _, rfl, b, _, 2, _, rfl, rfl, SqL.of e1, atI_nat (j := 2) rfl, _, _, rfl, rfl, .inl ⟨by decide, by decide⟩, _, _, rfl, rfl, ?_⟩⟩
          refine ⟨_, rfl, .inl ⟨_, rfl, _, _, rfl, rfl, (by show (0 : Int) < _; decide), _, rfl, b, _, 1, 1, rfl, rfl, e1, rfl, ?_⟩⟩
          refine ⟨_, _, rfl, ?_, s1, _, (kn : Int) + 1, cells, upd_same, ?_, ne, s2, Int.emod_nonneg _ (by decide), Int.emod_lt_of_pos _ (by decide), by omega, c0⟩
          · rw [upd_upd, mask_updb]
            exact Same.refl _
          · rw [upd_ne ne, upd_ne ne]
            exact hp
    · exact ⟨none, none, rfl, .refl B0⟩
  · rintro σ H' ⟨c, mx, rfl, g⟩
    obtain ⟨st, m, k, cells, hb, hp, ne, s0, m0, m1, k0, c0⟩ := g.B
    refine ⟨_, rfl, b, _, 0, _, rfl, rfl, SqL.of hb, atI_nat (j := 0) rfl, _, _, rfl, rfl, _, rfl, ite_b (fun h1 => ?_) (fun h1 => ?_)⟩
    · refine ⟨_, rfl, b, _, 0, _, rfl, rfl, SqL.of hb, atI_nat (j := 0) rfl, .inl ⟨_, rfl, _, rfl, _, _, rfl, rfl, n0, ?_⟩⟩
      refine ⟨_, rfl, b, _, 0, _, rfl, rfl, SqL.of hb, atI_nat (j := 0) rfl, _, rfl, _, _, rfl, rfl, ⟨n0, by omega⟩, _, rfl, b, _, 0, 0, rfl, rfl, hb, rfl, ?_⟩
      refine ⟨_, rfl, q _ _ (Int.emod_nonneg _ (by omega)) (Int.emod_lt_of_pos _ n0) ⟨?_, st / n, m, k, cells, upd_same, ?_, ne, Int.ediv_nonneg s0 (by omega), m0, m1, k0, c0⟩⟩
      · rw [mask_updb]
        exact g.k
      · rw [upd_ne ne]
        exact hp
    · refine ⟨_, rfl, b, _, 1, _, rfl, rfl, SqL.of hb, atI_nat (j := 1) rfl, _, _, rfl, rfl, _, _, rfl, rfl, .inl ⟨by omega, by omega⟩, .inl ⟨_, rfl, _, _, rfl, rfl, (by show (0 : Int) < _; decide), ?_⟩⟩
      refine ⟨_, rfl, _, rfl, _, _, rfl, rfl, .inl ⟨?_, ?_⟩, .inl ⟨_, rfl, _, _, rfl, rfl, (by show (0 : Int) < _; decide), _, _, rfl, rfl, .inl ⟨?_, ?_⟩, .inl ⟨_, rfl, _, _, rfl, rfl, (by show (0 : Int) < _; decide), ?_⟩⟩⟩
      · have := Int.emod_nonneg ((m + 1) * 39373) (show (1000000007 : Int) ≠ 0 by decide)
        omega
      · have := Int.emod_lt_of_pos ((m + 1) * 39373) (show (0 : Int) < 1000000007 by decide)
        omega
      · have := Int.emod_nonneg ((m + 1) * 39373 % 1000000007 * ((m + 1) * 39373 % 1000000007)) (show (998244353 : Int) ≠ 0 by decide)
        omega
      · have := Int.emod_lt_of_pos ((m + 1) * 39373 % 1000000007 * ((m + 1) * 39373 % 1000000007)) (show (0 : Int) < 998244353 by decide)
        omega
      · refine ⟨_, rfl, _, _, rfl, rfl, _, rfl, ite_b (fun h2 => ?_) (fun h2 => ?_)⟩
        · have := of_decide_eq_true h2
          omega
        · refine ⟨_, rfl, _, _, rfl, rfl, ⟨by decide, by decide⟩, .inl ⟨_, rfl, _, rfl, _, _, rfl, rfl, n0, ?_⟩⟩
          exact q _ _ (Int.emod_nonneg _ (by omega)) (Int.emod_lt_of_pos _ n0) g
end
end K15
namespace K15
open PySem L2 Fm
section
variable {P : Program} {w : World} {K : PySem.W.Frag} {mg : Str → Option Value} {base : Heap} (T : Txt K mg)
theorem ok_law_bag : FnOk P w K mg base CX0 1 T.a__law_bag T.d__law_bag ["_law_script"] (spBag K) := by
  refine T.F__law_bag.ok sc__law_bag ?_ (fun cdv A outer s H vs Q E hr h => ?_)
  · rintro vs H Q E ⟨a, ns, rfl, _⟩
    rfl
  obtain ⟨a, ns, rfl, hs, hl, q⟩ := h
  refine ⟨_, 
    (pss_one (ps_ret (pe_lst (pa_cons pe_int (pa_cons pe_int (pa_cons pe_int (pa_cons (pe_lc (own := [("_law_cell", 1)]) (g := gName 1) (tt := tYes) rfl sc__law_bag.nd (pi_list (pe_slice sl_list (pv 0) po_none (po_some pe_int))) (blkOk_by (N := N__law_bag) (sc := defScope s__law_bag) (by decide +kernel)) (fun _ _ _ _ _ => pg_name (i := 1) sc__law_bag.nd rfl (Or.inl rfl)) (fun _ _ _ _ _ => pts_nil) (fun _ _ _ _ _ => pe_callB call_abs (by rfl) T.m_abs (by decide +kernel) (pa_cons (pv 1) pa_nil))) pa_nil))))))), ?_⟩
  refine ⟨_, rfl, _, rfl, a, _, rfl, hs, fun c hc => ⟨c, rfl, ⟨_, SqL.of upd_same⟩, fun Dl hD => ?_⟩⟩
  obtain ⟨ms, em, lm⟩ : ∃ ms : List Int, cutV (ns.map V.int) none (some 63) = ms.map V.int ∧ ms.length ≤ 63 := by
    unfold cutV
    rw [← List.map_drop, ← List.map_take]
    refine ⟨_, rfl, ?_⟩
    rw [List.length_take, List.length_drop]
    omega
  have k1 : Same H (upd H c (.lst (cutV (ns.map V.int) none (some 63)))) := Same.new hc
  rw [em] at hD k1 ⊢
  refine lc_listF (K := K) (fun v => match v with | .int i => .int (if i < 0 then -i else i) | v => v) (SqL.of upd_same) hD (by rw [List.length_map]; omega) (fun _ => rfl) (fun _ _ _ r => r) ?_ ?_
  · intro x H' R k hx r
    obtain ⟨i, _, rfl⟩ := List.mem_map.mp hx
    exact ⟨_, rfl, i, rfl, r _ (Same.refl _)⟩
  · intro H' k hl2
    refine ⟨(by show 4 ≤ sizeLine; decide), fun b hb => ?_⟩
    have k2 := k1.trans k
    have k3 : Same H' (upd H' b (.lst [.int 0, .int 1234567891, .int 0, .ref Dl])) := Same.new hb
    refine q b Dl _ (Same.free k2 hb) (k2.trans k3) ⟨0, 1234567891, 0, ms.map fun i => if i < 0 then -i else i, upd_same, k3 _ _ ?_, ne_of_none hl2 hb, by decide, by decide, by decide, by decide, ?_⟩
    · rw [hl2]
      simp [List.map_map, Function.comp_def]
    · intro z hz
      obtain ⟨i, _, rfl⟩ := List.mem_map.mp hz
      by_cases hi : i < 0
      · rw [if_pos hi]
        omega
      · rw [if_neg hi]
        omega
/-- two values that are the same data -/
def spAlike (K : PySem.W.Frag) : Sp := fun vs H Q _ => ∃ v1 v2 d, vs = [v1, v2] ∧ Dp K H v1 d ∧ Dp K H v2 d ∧ SeqAt.shaped d = true ∧ d.showable = true ∧ d.hasDict = false ∧ d.depth ≤ 60 ∧ d.shown.length ≤ sizeLine ∧ Q (.bl true) H
theorem ok_law_alike : FnG P w K mg base 1 T.a__law_alike T.d__law_alike ["_law_found", "_law_due"] (spAlike K) := by
  refine fnG T.F__law_alike sc__law_alike ?_ (fun cdv A outer s H vs Q gd hr h => ?_)
  · rintro vs H Q E ⟨v1, v2, d, rfl, _⟩
    rfl
  obtain ⟨v1, v2, d, rfl, h1, h2, sh, so, nd, dz, sl, q⟩ := h
  refine ⟨_, 
    (pss_one (ps_ret (pe_and (pe_cmpR (op_eqD hr.units) (pv 0) (pv 1) (nomark _)) (pe_one (pe_cmpR op_eq (pe_callB (call_repr hr gd) (by rfl) T.m_repr (by decide +kernel) (pa_cons (pv 0) pa_nil)) (pe_callB (call_repr hr gd) (by rfl) T.m_repr (by decide +kernel) (pa_cons (pv 1) pa_nil)) (nomark _)))))), ?_⟩
  refine ⟨_, rfl, _, rfl, d, d, h1, h2, sh, sh, _, rfl, ite_b (fun c => ?_) (fun c => ?_)⟩
  · refine ⟨_, rfl, v1, d, rfl, h1, so, nd, dz, sl, _, rfl, v2, d, rfl, h2, so, nd, dz, sl, rfl, ?_⟩
    rw [decide_eq_true rfl]
    exact q
  · rw [SeqAt.eqv_refl d (SeqAt.canLay_of_shaped sh)] at c
    cases c
def ws : List Str := Txt.split (("set ask end nil may must go begin move drop version back call silent same" : Str) ++ (" a b ab ba z" : Str)) " "
theorem ws_len : ws.length = 20 := by decide +kernel
theorem ws_ok : ∀ x ∈ ws, PyData.strOk x = true ∧ x.length ≤ 30 := by decide +kernel
theorem lt_len : letters.length = 26 := by decide +kernel
theorem lt_ok : PyData.strOk letters = true := by decide +kernel
theorem ok_law_names : FnOk P w K mg base CX0 2 T.a__law_names T.d__law_names ["_law_bag_here", "_law_many"] spNames := by
  have G__law_take := ok_law_take (P := P) (w := w) (base := base) T
  refine T.F__law_names.ok sc__law_names ?_ (fun cdv A outer s H vs Q E hr h => ?_)
  · rintro vs H Q E ⟨b, p, n, rfl, _⟩
    rfl
  obtain ⟨b, p, n, rfl, B, n0, n1, q⟩ := h
  refine ⟨_, 
    (pss_cons (ps_set (i := 2) sc__law_names.nd rfl (Or.inr rfl) pe_str)
    (pss_cons (ps_set (i := 3) sc__law_names.nd rfl (Or.inl rfl) pe_str)
    (pss_cons (ps_set (i := 3) sc__law_names.nd rfl (Or.inl rfl) (pe_bm PySem.F.plainAttrs_str PySem.F.slot_str_split PySem.F.type_str_split mt_split (pe_op op_add_str (pv 3) pe_str) (pa_cons pe_str pa_nil)))
    (pss_cons (ps_asg (pe_tup (pa_cons (pe_call G__law_take (hr.mono (by omega)) (by rfl) T.f__law_take T.F__law_take.kp T.b__law_take .nil pass0 (pa_cons (pv 0) (pa_cons pe_int pa_nil))) (pa_cons (pe_call G__law_take (hr.mono (by omega)) (by rfl) T.f__law_take T.F__law_take.kp T.b__law_take .nil pass0 (pa_cons (pv 0) (pa_cons pe_int pa_nil))) pa_nil))) (pg_tup rfl (pgs_cons (pg_name (i := 4) sc__law_names.nd rfl (Or.inl rfl)) (pgs_cons (pg_name (i := 5) sc__law_names.nd rfl (Or.inr rfl)) pgs_nil))))
    (pss_cons (ps_set (i := 6) sc__law_names.nd rfl (Or.inr rfl) (pe_bm PySem.F.plainAttrs_str PySem.F.slot_str_join PySem.F.type_str_join mt_join pe_str (pa_cons (pe_lc (own := [("_law_k", 8)]) (g := gName 8) (tt := tYes) rfl sc__law_names.nd (pi_range1 (by rfl) T.m_range (pa_cons (pe_op op_add pe_int (pe_call G__law_take (hr.mono (by omega)) (by rfl) T.f__law_take T.F__law_take.kp T.b__law_take .nil pass0 (pa_cons (pv 0) (pa_cons pe_int pa_nil)))) pa_nil)) (blkOk_by (N := N__law_names) (sc := defScope s__law_names) (by decide +kernel)) (fun _ _ _ _ _ => pg_name (i := 8) sc__law_names.nd rfl (Or.inl rfl)) (fun _ _ _ _ _ => pts_nil) (fun _ _ _ _ _ => pe_ix ix_str (pv 2) (pe_call G__law_take (hr.mono (by omega)) (by rfl) T.f__law_take T.F__law_take.kp T.b__law_take .nil pass0 (pa_cons (pv 0) (pa_cons pe_int pa_nil))) (fun _ _ => rfl))) pa_nil)))
    (pss_cons (ps_set (i := 7) sc__law_names.nd rfl (Or.inr rfl) (pe_call G__law_take (hr.mono (by omega)) (by rfl) T.f__law_take T.F__law_take.kp T.b__law_take .nil pass0 (pa_cons (pv 0) (pa_cons (pe_op op_add (pe_callB call_len_str (by rfl) T.m_len (by decide +kernel) (pa_cons (pv 6) pa_nil)) pe_int) pa_nil))))
    (pss_cons (ps_if (pt_cmpR op_eq (pv 4) pe_int (nomark _)) (pss_one (ps_ret (pe_slice sl_list (pe_op op_cat (pe_slice sl_list (pv 3) (po_some (pv 5)) po_none) (pe_slice sl_list (pv 3) po_none (po_some (pv 5)))) po_none (po_some (pv 1))))) pss_nil)
    (pss_cons (ps_if (pt_cmpR op_eq (pv 4) pe_int (nomark _)) (pss_one (ps_ret (pe_lc (own := [("_law_k", 8)]) (g := gName 8) (tt := tYes) rfl sc__law_names.nd (pi_range1 (by rfl) T.m_range (pa_cons (pv 1) pa_nil)) (blkOk_by (N := N__law_names) (sc := defScope s__law_names) (by decide +kernel)) (fun _ _ _ _ _ => pg_name (i := 8) sc__law_names.nd rfl (Or.inl rfl)) (fun _ _ _ _ _ => pts_nil) (fun _ _ _ _ _ => pe_ix ix_str (pv 2) (pe_op op_mod (pe_callTy call_int1 (by rfl) T.m_int (by decide +kernel) (pa_cons (pe_op op_add (pv 5) (pe_op op_mul pe_int (pv 8))) pa_nil)) pe_int) (fun _ _ => rfl))))) pss_nil)
    (pss_one (ps_ret (pe_lc (own := [("_law_k", 8)]) (g := gName 8) (tt := tYes) rfl sc__law_names.nd (pi_range1 (by rfl) T.m_range (pa_cons (pv 1) pa_nil)) (blkOk_by (N := N__law_names) (sc := defScope s__law_names) (by decide +kernel)) (fun _ _ _ _ _ => pg_name (i := 8) sc__law_names.nd rfl (Or.inl rfl)) (fun _ _ _ _ _ => pts_nil) (fun _ _ _ _ _ => pe_op op_add_str (pe_op op_add_str (pe_slice sl_str (pv 6) po_none (po_some (pv 7))) (pe_ix ix_str (pv 2) (pe_op op_mod (pe_callTy call_int1 (by rfl) T.m_int (by decide +kernel) (pa_cons (pe_op op_add (pv 5) (pe_op op_mul pe_int (pv 8))) pa_nil)) pe_int) (fun _ _ => rfl))) (pe_slice sl_str (pv 6) (po_some (pv 7)) po_none))))))))))))), ?_⟩
  refine ⟨_, rfl, _, _, rfl, rfl, (by decide +kernel), rfl, _, _, rfl, rfl, (by decide +kernel), (by decide +kernel), fun p1 hp1 => ?_⟩
  have g1 : Go b p H (upd H p1 (.lst (ws.map V.str))) := (Go.refl B).new hp1
  have w1 : newof H (upd H p1 (.lst (ws.map V.str))) p1 = some (.lst (ws.map V.str)) := newof_of hp1 upd_same
  refine ⟨_, rfl, b, p, 4, rfl, g1.B, by decide, by decide, fun way H2 a0 a1 g2 => ?_⟩
  refine ⟨_, rfl, b, p, 20, rfl, g2.B, by decide, by decide, fun turn H3 b0 b1 g3 => ⟨(by show 2 ≤ sizeLine; decide), fun tp htp => ?_⟩⟩
  have g4 : Go b p (upd H p1 (.lst (ws.map V.str))) (upd H3 tp (.tup [.int way, .int turn])) := (g2.trans g3).new htp
  have w4 := newof_go B g4 _ _ w1
  refine ⟨tp, _, rfl, SqT.of upd_same, rfl, _, _, rfl, _, _, rfl, rfl, ?_⟩
  have g5 := g1.trans g4
  clear g4 g3 g2 w1 htp
  generalize upd H3 tp (.tup [.int way, .int turn]) = H4 at g5 w4
  -- the base
  refine ⟨rfl, _, rfl, b, p, 7, rfl, g5.B, by decide, by decide, fun i7 H5 c0 c1 g6 => ⟨_, _, rfl, rfl, _, rfl, by omega, by omega, fun Dl hD => ?_⟩⟩
  refine lc_bag (fun d => ∃ x, d = .str x ∧ PyData.strOk x = true ∧ x.length ≤ 1) g6.B hD (by omega) (fun _ => rfl) (fun _ _ _ r => r) ?_ ?_
  · intro i H' R hi g r
    refine ⟨_, rfl, _, rfl, b, p, 26, rfl, g.B, by decide, by decide, fun j H2 d0 d1 g7 => ?_⟩
    obtain ⟨c, e1, e2⟩ := sign_at (x := letters) d0 (by rw [lt_len]; exact d1)
    have e3 := e2 lt_ok
    exact ⟨_, _, c, rfl, rfl, (by decide +kernel), e1, r _ (.str ⟨#[c]⟩) H2 g7 (.str _ e3) ⟨_, rfl, e3, Nat.le_refl _⟩⟩
  intro H6 acc ds g7 hl hds hg hn
  obtain ⟨ys, rfl, ok, ln⟩ := dvl_strs hds hg
  have l8 : ys.length ≤ 7 := by omega
  have sl := sum_len fun y hy => (ok y hy).2
  refine ⟨_, Dl, ys, rfl, rfl, .inl (SqL.of hl), ?_, ?_⟩
  · have z : (("" : String) : Str).length = 0 := rfl
    rw [z]
    omega
  have g8 := g5.trans (g6.trans g7)
  have w8 := newof_go B (g6.trans g7) _ _ w4
  obtain ⟨base, hb1, hb2, hb3⟩ : ∃ base, Txt.join "" ys = base ∧ PyData.strOk base = true ∧ base.length ≤ 7 :=
    ⟨_, rfl, ok_join fun y hy => (ok y hy).1, Nat.le_trans (len_join fun y hy => (ok y hy).2) l8⟩
  rw [hb1]
  refine ⟨_, rfl, _, rfl, base, rfl, sz (by omega), _, _, rfl, rfl, b, p, _, rfl, g8.B, by omega, by omega, fun at_ H7 f0 f1 g9 => ?_⟩
  have gA := g8.trans g9
  have wA := newof_go B g9 _ _ w8
  obtain ⟨np1, wB⟩ := newof_is wA
  refine ⟨_, rfl, rfl, _, rfl, ite_b (fun h1 => ?_) (fun h1 => ?_)⟩
  · obtain ⟨z1, e1, m1, l1⟩ := cut_strs ws (some turn) none
    obtain ⟨z2, e2, m2, l2⟩ := cut_strs ws none (some turn)
    rw [ws_len, sIx_none, sIx_at b0] at l1 l2
    refine ⟨_, rfl, _, rfl, _, rfl, p1, _, rfl, SqL.of wB, fun q1 hq1 => ?_⟩
    have s1 : Same H7 (upd H7 q1 (.lst (cutV (ws.map V.str) (some turn) none))) := Same.new hq1
    refine ⟨_, rfl, _, rfl, _, rfl, p1, _, rfl, SqL.of (s1 _ _ wB), fun q2 hq2 => ?_⟩
    refine ⟨q1, q2, _, _, rfl, rfl, Same.new hq2 _ _ upd_same, upd_same, ?_, fun q3 hq3 => ?_⟩
    · rw [e1, e2, List.length_map, List.length_map]
      exact sz (by omega)
    rw [e1, e2] at *
    have s2 := s1.trans ((Same.new (o := .lst (z2.map V.str)) hq2).trans (Same.new (o := .lst (z1.map V.str ++ z2.map V.str)) hq3))
    rw [← List.map_append] at *
    obtain ⟨z3, e3, m3, l3⟩ := cut_strs (z1 ++ z2) none (some n)
    rw [List.length_append, sIx_none, sIx_at n0] at l3
    refine ⟨_, rfl, _, rfl, q3, _, rfl, SqL.of upd_same, fun q4 hq4 => ?_⟩
    rw [e3]
    refine q q4 _ z3 ((gA.same s2).new hq4) (newof_of ((gA.same s2).free hq4) upd_same) (by omega) fun x hx => ?_
    rcases List.mem_append.mp (m3 x hx) with h | h
    · exact ws_ok x (m1 x h)
    · exact ws_ok x (m2 x h)
  · refine ⟨_, rfl, rfl, _, rfl, ite_b (fun h2 => ?_) (fun h2 => ?_)⟩
    · refine ⟨_, rfl, n, rfl, by omega, by omega, fun Dl hD => ?_⟩
      refine lc_bag (fun d => ∃ x, d = .str x ∧ PyData.strOk x = true ∧ x.length ≤ 30) gA.B hD (by omega) (fun _ => rfl) (fun _ _ _ r => r) ?_ ?_
      · intro i H' R hi g r
        obtain ⟨c, e1, e2⟩ := sign_at (x := letters) (i := (turn + 3 * (i : Int)) % 26) (Int.emod_nonneg _ (by decide)) (by rw [lt_len]; exact Int.emod_lt_of_pos _ (by decide))
        have e3 := e2 lt_ok
        refine ⟨_, rfl, _, rfl, _, rfl, _, _, rfl, rfl, .inl ⟨by decide, by decide⟩, _, _, rfl, rfl, .inl ⟨_, rfl, _, _, rfl, rfl, (by show (0 : Int) < _; decide), _, _, c, rfl, rfl, (by decide +kernel), e1, ?_⟩⟩
        exact r _ (.str ⟨#[c]⟩) H' (.refl g.B) (.str _ e3) ⟨_, rfl, e3, by show 1 ≤ 30; decide⟩
      · intro H' acc ds g hl hds hg hn
        obtain ⟨ys, rfl, ok, ln⟩ := dvl_strs hds hg
        exact q Dl H' ys (gA.trans g) (newof_of (gA.free hD) hl) (by omega) ok
    · refine ⟨_, rfl, n, rfl, by omega, by omega, fun Dl hD => ?_⟩
      refine lc_bag (fun d => ∃ x, d = .str x ∧ PyData.strOk x = true ∧ x.length ≤ 30) gA.B hD (by omega) (fun _ => rfl) (fun _ _ _ r => r) ?_ ?_
      · intro i H' R hi g r
        obtain ⟨c, e1, e2⟩ := sign_at (x := letters) (i := (turn + 3 * (i : Int)) % 26) (Int.emod_nonneg _ (by decide)) (by rw [lt_len]; exact Int.emod_lt_of_pos _ (by decide))
        have e3 := e2 lt_ok
        have c1 := cut_len_le (x := base) (lo := none) (hi := some at_)
        have c2 := cut_len_le (x := base) (lo := some at_) (hi := none)
        have c3 : (⟨#[c]⟩ : Str).length = 1 := rfl
        have l4 := len_app (cutS base none (some at_)) ⟨#[c]⟩
        have l5 := len_app (cutS base none (some at_) ++ ⟨#[c]⟩) (cutS base (some at_) none)
        refine ⟨_, rfl, _, rfl, _, rfl, base, rfl, sz (by omega), _, rfl, _, rfl, _, rfl, _, _, rfl, rfl, .inl ⟨by decide, by decide⟩, _, _, rfl, rfl, .inl ⟨_, rfl, _, _, rfl, rfl, (by show (0 : Int) < _; decide), _, _, c, rfl, rfl, (by decide +kernel), e1, _, _, rfl, rfl, sz (by omega), ?_⟩⟩
        refine ⟨_, rfl, _, rfl, _, rfl, base, rfl, sz (by omega), _, _, rfl, rfl, sz (by omega), ?_⟩
        have ok := ok_app (ok_app (ok_cut (lo := none) (hi := some at_) hb2) e3) (ok_cut (lo := some at_) (hi := none) hb2)
        exact r _ _ H' (.refl g.B) (.str _ ok) ⟨_, rfl, ok, by omega⟩
      · intro H' acc ds g hl hds hg hn
        obtain ⟨ys, rfl, ok, ln⟩ := dvl_strs hds hg
        exact q Dl H' ys (gA.trans g) (newof_of (gA.free hD) hl) (by omega) ok
end
end K15
set_option maxRecDepth 100000
set_option maxHeartbeats 2000000
namespace K15
open PySem L2 Fm
section
variable {P : Program} {w : World} {K : PySem.W.Frag} {mg : Str → Option Value} {base : Heap} (T : Txt K mg)
theorem ok_law_put : ∀ m : Nat, FnOk P w K mg base CX0 m T.a__law_put T.d__law_put ["_law_term_here", "_law_values"] (spLPut K m)
  | 0 => ⟨fun _ _ _ _ ⟨_, _, _, _, _, _, _, _, _, z, _⟩ => absurd z (Nat.not_lt_zero _), fun _ _ _ _ _ _ _ _ _ _ _ _ _ ⟨_, _, _, _, _, _, _, _, _, z, _⟩ => absurd z (Nat.not_lt_zero _)⟩
  | m + 1 => by
    have G__law_put := ok_law_put m
    refine T.F__law_put.ok sc__law_put ?_ (fun cdv A outer s H vs Q E hr h => ?_)
    · rintro vs H Q E ⟨Hb, v, va, d, f, rfl, _⟩
      rfl
    obtain ⟨Hb, v, va, d, f, rfl, hb, hd, htm, hm, hz, hv, q⟩ := h
    refine ⟨_, 
    (pss_cons (ps_if (pt_val (pe_isD (fun _ => kit_I) T.m_isinstance (pv 0) (pe_bltn (v := .ty "int") (u := .type "int") (by rfl) T.m_int (by decide +kernel) rfl) mon_var)) (pss_one (ps_ret (pe_alt (pe_ix ix_seq (pv 1) (pv 0) (fun _ _ => rfl)) (pe_dget (hu1 hr) (pv 1) (pv 0) (fun _ _ => rfl))))) pss_nil)
    (pss_one (ps_ret (pe_op op_catA (pe_slice sl_tupA (pv 0) po_none (po_some pe_int)) (pe_callTy call_tuple_of (by rfl) T.m_tuple (by decide +kernel) (pa_cons (pe_lc (own := [("_law_part", 2)]) (g := gName 2) (tt := tYes) rfl sc__law_put.nd (pi_tup (pe_slice sl_tupA (pv 0) (po_some pe_int) po_none)) (blkOk_by (N := N__law_put) (sc := defScope s__law_put) (by decide +kernel)) (fun _ _ _ _ _ => pg_name (i := 2) sc__law_put.nd rfl (Or.inl rfl)) (fun _ _ _ _ _ => pts_nil) (fun _ _ _ _ _ => pe_call G__law_put (hr.mono (by omega)) (by rfl) T.f__law_put T.F__law_put.kp T.b__law_put .nil pass0 (pa_cons (pv 2) (pa_cons (pv 1) pa_nil)))) pa_nil)))))), ?_⟩
    refine ⟨_, rfl, d, hd.same hb _ _, _, rfl, ite_b (fun c => ?_) (fun c => ?_)⟩
    · obtain ⟨u, rfl⟩ : ∃ u, d = .int u := by
        cases htm with
        | int u => exact ⟨u, rfl⟩
        | tup y rs _ => cases c
      cases hd
      obtain ⟨v, lk, dv⟩ := hv u (by simp [flat])
      have fin := q v H (Same.refl _) (dv.same ovl_base _ _)
      rcases lk with ⟨a, xs, rfl, s1, g⟩ | ⟨a, kvs, rfl, s1, g⟩
      · refine .inl ⟨_, rfl, _, rfl, ?_⟩
        rcases s1 with s1 | s1
        · exact .inl ⟨a, xs, u, v, rfl, rfl, s1, g, fin⟩
        · exact .inr (.inl ⟨a, xs, u, v, rfl, rfl, s1, g, fin⟩)
      · refine .inr ⟨_, rfl, _, rfl, a, v, rfl, ?_, fin⟩
        rw [← g]
        exact L2.DGet.k (k := .inl u) s1
    · cases htm with
      | int u => cases c
      | tup x rs htr =>
      cases hd with
      | @tup a us _ h1 h2 =>
      cases h2 with
      | @cons w0 wr _ _ h3 h4 =>
      have ha := hb _ _ h1
      have lr := h4.len
      have n1 := len_sizes rs
      simp only [D.size, sizes, D.deep, deeps] at hz hm
      refine ⟨_, rfl, _, rfl, first_one ha fun t1 H1 k1 ht1 hn1 => ?_⟩
      refine ⟨_, rfl, _, rfl, tail_one (k1 _ _ ha) fun p hp => ?_⟩
      have k2 : Same H1 (upd H1 p (.tup wr)) := Same.new hp
      refine ⟨p, rfl, ⟨_, SqT.of upd_same⟩, fun Dl hD => ?_⟩
      have hb2 : Same Hb (upd H1 p (.tup wr)) := hb.trans (k1.trans k2)
      refine lc_newD (Hb := Hb) (putD f) (walk_tup (K := K) (a := p) (xs := wr)) (fun H' k => SqT.of (k _ _ upd_same)) h4 hD (by omega) (fun _ => rfl) (fun _ _ _ r => r) (fun y d H' R k3 hm3 hy r => ?_) (fun H' zs k3 hl3 hz3 => ?_)
      · have s1 := size_mem hm3
        have s2 := deep_mem hm3
        refine ⟨_, rfl, _, rfl, Hb, y, va, d, f, rfl, hb2.trans k3, hy, htr d hm3, by omega, by omega, fun u hu => ?_, fun v' H2 k4 hv2 => r v' H2 k4 hv2⟩
        obtain ⟨v, lk, dv⟩ := hv u (mem_flat_part hm3 hu)
        exact ⟨v, lk.same (k1.trans (k2.trans k3)), dv⟩
      · refine ⟨Dl, zs, rfl, .inl ⟨SqL.of hl3, fun t2 ht2 => ?_⟩⟩
        have k4 : Same H' (upd H' t2 (.tup zs)) := Same.new ht2
        have lz := hz3.len
        rw [List.length_map] at lz
        refine cat_one (k4 _ _ (k3 _ _ (k2 _ _ ht1))) upd_same (by omega) fun tt H4 k5 htt hn5 => ?_
        have kall : Same H H4 := k1.trans (k2.trans (k3.trans (k4.trans k5)))
        refine q (.ref tt) H4 kall ?_
        have nH : H tt = none ∨ tt = a := by
          rcases hn5 with rfl | hn5
          · rcases hn1 with rfl | hn1
            · exact .inr rfl
            · exact .inl hn1
          · exact .inl (Same.none (k1.trans (k2.trans (k3.trans k4))) hn5)
        have up : Same (ovl Hb (newof (upd (upd H1 p (.tup wr)) Dl (.lst [])) H')) (ovl Hb (newof H H4)) := ovl_mono fun b o e => by
          obtain ⟨e1, e2⟩ := newof_is (newof_first hD _ _ e)
          exact newof_of (Same.none (k1.trans k2) e1) (k5 _ _ (k4 _ _ e2))
        have hz4 := hz3.same up _ _
        rw [← puts_map] at hz4
        refine .tup ?_ (.cons (h3.same ovl_base _ _) hz4)
        rcases nH with e | rfl
        · have eb : Hb tt = none := by
            cases z : Hb tt with
            | none => rfl
            | some o =>
              rw [hb _ _ z] at e
              cases e
          exact ovl_new eb (newof_of e htt)
        · have e6 := kall _ _ ha
          rw [htt] at e6
          injection e6 with e6
          rw [e6]
          exact ovl_base _ _ h1
end
end K15
set_option maxRecDepth 100000
set_option maxHeartbeats 4000000
namespace K15
open PySem L2 Fm
section
variable {P : Program} {w : World} {K : PySem.W.Frag} {mg : Str → Option Value} {base : Heap} (T : Txt K mg)
theorem ok_law_term : ∀ m : Nat, FnOk P w K mg base CX0 (m + 2) T.a__law_term T.d__law_term ["_law_bag_here", "_law_names_here", "_law_many", "_law_deep"] (spTermV m)
  | 0 => ⟨fun _ _ _ _ ⟨_, _, _, _, _, _, _, _, _, _, _, _, _, z, _⟩ => absurd z (Nat.not_lt_zero _), fun _ _ _ _ _ _ _ _ _ _ _ _ _ ⟨_, _, _, _, _, _, _, _, _, _, _, _, _, z, _⟩ => absurd z (Nat.not_lt_zero _)⟩
  | m + 1 => by
    have G__law_term := ok_law_term m
    have G__law_take := ok_law_take (P := P) (w := w) (base := base) T
    refine T.F__law_term.ok sc__law_term ?_ (fun cdv A outer s H vs Q E hr h => ?_)
    · rintro vs H Q E ⟨b, p, nm, xs, many, k, deep, rfl, _⟩
      rfl
    obtain ⟨b, p, nm, xs, many, k, deep, rfl, ed, B, N, m0, m1, km, kh, q⟩ := h
    refine ⟨_, 
    (pss_cons (ps_set (i := 4) sc__law_term.nd rfl (Or.inl rfl) (pe_call G__law_take (hr.mono (by omega)) (by rfl) T.f__law_take T.F__law_take.kp T.b__law_take .nil pass0 (pa_cons (pv 0) (pa_cons pe_int pa_nil))))
    (pss_cons (ps_if (PW.pt (pw_and (pt_cmpR op_gt (pv 2) pe_int (nomark _)) (pw_and1 (PW.pt (pw_or (pt_cmpR op_lt (pv 3) pe_int (nomark _)) (pw_or1 (pt_cmpR op_eq (pv 4) pe_int (nomark _)))))))) (pss_one (ps_ret (pe_call G__law_take (hr.mono (by omega)) (by rfl) T.f__law_take T.F__law_take.kp T.b__law_take .nil pass0 (pa_cons (pv 0) (pa_cons (pv 2) pa_nil))))) pss_nil)
    (pss_cons (ps_par (i := 5) (j := 6) (by rfl) sc__law_term.nd rfl rfl (by decide) rfl rfl (pa_cons (pe_ix ix_list (pv 1) (pe_call G__law_take (hr.mono (by omega)) (by rfl) T.f__law_take T.F__law_take.kp T.b__law_take .nil pass0 (pa_cons (pv 0) (pa_cons (pe_callB call_len_seq (by rfl) T.m_len (by decide +kernel) (pa_cons (pv 1) pa_nil)) pa_nil))) (fun _ _ => rfl)) (pa_cons (pe_call G__law_take (hr.mono (by omega)) (by rfl) T.f__law_take T.F__law_take.kp T.b__law_take .nil pass0 (pa_cons (pv 0) (pa_cons pe_int pa_nil))) pa_nil)) (by rfl))
    (pss_cons (ps_if (PW.pt (pw_or (PW.pt (pw_and (pt_cmpR op_le (pv 3) pe_int (nomark _)) (pw_and1 (pt_cmpR op_eq (pv 2) pe_int (nomark _))))) (pw_or1 (pt_cmpR op_eq (pv 4) pe_int (nomark _))))) (pss_one (ps_ret (pe_tup (pa_cons (pv 5) pa_nil)))) pss_nil)
    (pss_one (ps_ret (pe_op op_catA (pe_tup (pa_cons (pv 5) pa_nil)) (pe_callTy call_tuple_of (by rfl) T.m_tuple (by decide +kernel) (pa_cons (pe_lc (own := [("_law_k", 7)]) (g := gName 7) (tt := tYes) rfl sc__law_term.nd (pi_range1 (by rfl) T.m_range (pa_cons (pv 6) pa_nil)) (blkOk_by (N := N__law_term) (sc := defScope s__law_term) (by decide +kernel)) (fun _ _ _ _ _ => pg_name (i := 7) sc__law_term.nd rfl (Or.inl rfl)) (fun _ _ _ _ _ => pts_nil) (fun _ _ _ _ _ => pe_call G__law_term (hr.mono (by omega)) (by rfl) T.f__law_term T.F__law_term.kp T.b__law_term .nil pass0 (pa_cons (pv 0) (pa_cons (pv 1) (pa_cons (pv 2) (pa_cons (pe_op op_sub (pv 3) pe_int) pa_nil)))))) pa_nil))))))))), ?_⟩
    refine ⟨_, rfl, b, p, 4, rfl, B, by decide, by decide, fun way H1 a0 a1 g1 => ?_⟩
    have one : ∀ (i : Int) (H2 : Hp), 0 ≤ i → i < many → Go b p H H2 → Q (.int i) H2 := fun i H2 i0 i1 g => q _ _ (.int i) g (.int i) (.int i) ⟨Nat.zero_le _, by
      have h4 : 1 ≤ 3 ^ k := Nat.one_le_pow _ _ (by decide)
      simp only [D.size]
      omega⟩ (UnkL.int i0 i1)
    refine ⟨_, rfl, _, _, rfl, rfl, _, rfl, ite_b (fun h1 => ?_) (fun h1 => absurd m0 (of_decide_eq_false h1))⟩
    refine ⟨_, rfl, _, _, rfl, rfl, _, rfl, ite_b (fun h2 => ?_) (fun h2 => ?_)⟩
    · exact iteT ⟨_, rfl, _, rfl, b, p, many, rfl, g1.B, m0, by omega, fun i H2 i0 i1 g2 => one i H2 i0 i1 (g1.trans g2)⟩
    have d1 : 1 ≤ deep := by have := of_decide_eq_false h2; omega
    refine ⟨_, rfl, rfl, _, rfl, ite_b (fun h3 => ?_) (fun h3 => ?_)⟩
    · exact ⟨_, rfl, _, rfl, b, p, many, rfl, g1.B, m0, by omega, fun i H2 i0 i1 g2 => one i H2 i0 i1 (g1.trans g2)⟩
    obtain ⟨j, rfl⟩ : ∃ j, k = j + 1 := ⟨k - 1, by omega⟩
    have N1 := N.go g1
    refine ⟨_, rfl, _, rfl, _, rfl, nm, _, rfl, .inl (SqL.of N1.at_), b, p, _, rfl, g1.B, ?_, ?_, fun at_ H2 b0 b1 g2 => ?_⟩
    · rw [List.length_map]
      have := N.pos
      omega
    · rw [List.length_map]
      have := N.few
      omega
    rw [List.length_map] at b1
    have N2 := N1.go g2
    obtain ⟨x, e1, ox, lx⟩ := N2.get b0 b1
    refine ⟨nm, _, at_, _, rfl, rfl, SqL.of N2.at_, e1, ?_⟩
    refine ⟨_, rfl, b, p, 4, rfl, g2.B, by decide, by decide, fun parts H3 c0 c1 g3 => ⟨_, _, rfl, ?_⟩⟩
    have g4 := (g1.trans g2).trans g3
    have N4 := N2.go g3
    clear g1 g2 g3 N1 N2 e1
    refine ⟨_, rfl, _, _, rfl, rfl, _, rfl, ite_b (fun h4 => ⟨_, rfl, rfl, _, rfl, ite_b (fun h5 => ?_) (fun h5 => ?_)⟩) (fun h4 => iteF ?_)⟩
    · have z := of_decide_eq_true h5
      injection z with z
      omega
    all_goals
      refine ⟨_, rfl, rfl, _, rfl, ite_b (fun h6 => ?_) (fun h6 => ?_)⟩
      · refine ⟨_, rfl, (by show 1 ≤ sizeLine; decide), fun tp htp => ?_⟩
        exact q _ _ (.tup [.str x]) (g4.new htp) (.tup (newof_of (g4.free htp) upd_same) (.cons (.str x ox) .nil)) (.tup x [] fun _ h => by cases h) (.tup lx (by decide) fun _ h => by cases h) (UnkL.tup (by decide) fun _ h => by cases h)
      · refine ⟨_, rfl, (by show 1 ≤ sizeLine; decide), fun tp htp => ?_⟩
        have g5 := g4.new (o := .tup [.str x]) htp
        refine ⟨_, rfl, parts, rfl, by omega, by omega, fun Dl hD => ?_⟩
        refine lc_bag (fun d => Tm d ∧ Sized j d ∧ UnkL many j d) g5.B hD (by omega) (fun _ => rfl) (fun _ _ _ r => r) ?_ ?_
        · intro i H' R hi g r
          have N5 := (N4.go (.of g4.B (Same.new (o := .tup [.str x]) htp))).go g
          exact ⟨_, rfl, _, rfl, _, rfl, _, rfl, _, _, rfl, rfl, b, p, nm, xs, many, j, _, rfl, by omega, g.B, N5, m0, m1, by omega, by omega, fun v H2 d g2 hv tm szd un => r v d H2 g2 hv ⟨tm, szd, un⟩⟩
        · intro H' acc ds g hl hds hg hn
          refine ⟨Dl, acc, rfl, .inl ⟨SqL.of hl, fun t2 ht2 => ?_⟩⟩
          have g6 := g5.trans g
          have la := hds.len
          have n5 : tp ≠ b := g4.B.b_ne htp
          have e5 : H' tp = some (.tup [.str x]) := g.at n5 upd_same
          have k2 : Same H' (upd H' t2 (.tup acc)) := Same.new ht2
          have l3 : ds.length ≤ 3 := by omega
          refine ⟨tp, t2, _, acc, rfl, rfl, SqT.of (k2 _ _ e5), SqT.of upd_same, sz (by simp only [List.length_cons, List.length_nil]; omega), fun z => (by cases z), fun _ z => ?_, fun _ z t3 ht3 => ?_⟩
          · have g7 := g6.same k2
            refine q _ _ (.tup [.str x]) g7 (.tup (newof_of (g4.free htp) (k2 _ _ e5)) (.cons (.str x ox) .nil)) (.tup x [] fun _ h => by cases h) (.tup lx (by decide) fun _ h => by cases h) (UnkL.tup (by decide) fun _ h => by cases h)
          · have g7 := g6.same k2
            have k3 : Same H' (upd (upd H' t2 (.tup acc)) t3 (.tup ([.str x] ++ acc))) := k2.trans (Same.new ht3)
            have h8 : DvL (newof H (upd (upd H' t2 (.tup acc)) t3 (.tup ([.str x] ++ acc)))) acc ds := (hds.same (newof_lift fun a ha => g5.free ha) _ _).same (newof_same k3) _ _
            exact q _ _ (.tup (.str x :: ds)) (g7.new ht3) (.tup (newof_of (g7.free ht3) upd_same) (.cons (.str x ox) h8)) (.tup x ds fun d hd => (hg d hd).1) (.tup lx l3 fun d hd => (hg d hd).2.1) (UnkL.tup l3 fun d hd => (hg d hd).2.2)
end
end K15
set_option maxRecDepth 100000
set_option maxHeartbeats 2000000
/-! list(zip(a, b)): the pairs are kept, so that the iterator's own one is never free again -/
namespace ZpL
open PySem PySem.Spec PyProof.Rows PySem.W
open Sem (wp)
def ZipOut (h : Heap) (z TI TO T : Addr) (f : Bool) : Prop := h.get? z = some { cls := .type "zip", dict := none, data := .fields #[rawInt T, .bool f, .bool false, .ref TI, .ref TO], slots := #[] }
section
variable {prog : Program} {w : World} {A : Around} {E : Value → Shared → Prop} {s : Shared} {z TI TO i1 i2 T : Addr} {fp1 fp2 : List Addr} {n1 n2 i : Nat} {P1 P2 : Nat → Value → Prop} {St1 St2 : Nat → Heap → Prop} {f : Bool} {oa : Obj}
theorem out_free {Q : Bool → Shared → Prop} (hz : ZipOut s.heap z TI TO T f) (ha : s.heap.get? T = some oa) (h : ∀ h₁, ZipOut h₁ z TI TO T true → Heap.SameBut z s.heap h₁ → Q false { s with heap := h₁ }) : wpAny (model prog w) A (Builtin.SmallTypes.ownedTupleIsFree (.ref z)) Q E s := by
  unfold Builtin.SmallTypes.ownedTupleIsFree
  refine wpAny_bind (wpAny_field hz rfl (x := rawInt T) rfl ?_)
  show wpAny _ _ (loadIfAlive ((T : Int).toNat) >>= _) _ _ _
  rw [Int.toNat_natCast]
  refine wpAny_bind (kdx_alive ha ?_)
  simp only [Option.isNone_some, Bool.false_eq_true, if_false]
  refine wpAny_bind (wpAny_field hz rfl (x := .bool f) rfl ?_)
  cases f with
  | true =>
    rw [if_neg (show ¬ ((Value.bool true != Value.bool true) = true) from Bool.false_ne_true)]
    exact wpAny_pure (h _ hz (Heap.SameBut.refl _ _))
  | false =>
    rw [if_pos (show (Value.bool false != Value.bool true) = true from rfl)]
    refine wpAny_bind (wpAny_setField_rec hz (by simp) fun h₃ he₃ hs₃ => ?_)
    exact wpAny_pure (h h₃ he₃ hs₃)
theorem out_item {Q : Value → Shared → Prop} (S : ZipSep2 z TI TO i1 i2 fp1 fp2) (D1 : Draws prog w A i1 fp1 n1 P1 St1) (D2 : Draws prog w A i2 fp2 n2 P2 St2)
    (hz : ZipOut s.heap z TI TO T f) (hTI : IsTupOf2 s.heap TI (.ref i1) (.ref i2)) (ha : s.heap.get? T = some oa) (st1 : St1 i s.heap) (st2 : St2 i s.heap) (hlt1 : i < n1) (hlt2 : i < n2)
    (hQ : ∀ x1 x2 h' tk, P1 i x1 → P2 i x2 → ZipOut h' z TI TO T true → St1 (i + 1) h' → St2 (i + 1) h' → IsTupOf2 h' s.heap.objs.size x1 x2 → h'.objs.size = s.heap.objs.size + 1 →
      (∀ c o, c ≠ z → c ≠ i1 → c ≠ i2 → s.heap.get? c = some o → h'.get? c = some o) → Q (.ref s.heap.objs.size) { s with heap := h', toks := tk }) :
    wpAny (model prog w) A (Builtin.«zip.__next__» ⟨[.ref z], []⟩) (fun fin s' => ∃ v, fin = .done (.ret v) ∧ Q v s') E s := by
  obtain ⟨hp, g, d, tk0, os⟩ := s
  show wpAny _ _ (field (.ref z) 2 >>= _) _ _ _
  refine wpAny_bind (wpAny_field hz rfl (x := .bool false) rfl ?_)
  show wpAny _ _ (field (.ref z) 3 >>= _) _ _ _
  refine wpAny_bind (wpAny_field hz rfl (x := .ref TI) rfl ?_)
  refine wpAny_bind (wpAny_seqItems hTI rfl ?_)
  show wpAny _ _ (Builtin.SmallTypes.ownedTupleIsFree (.ref z) >>= _) _ _ _
  refine wpAny_bind (out_free hz ha fun h₁ hz₁ hs => ?_)
  replace hs : Heap.SameBut z hp h₁ := hs
  simp only [Bool.false_eq_true, if_false, List.forIn_toArray, List.forIn_cons, List.forIn_nil]
  refine wpAny_bind (wpAny_bind (wpAny_bind (wpAny_holding ?_)))
  show wpAny _ _ (Builtin.SmallTypes.nextOf (.ref i1) >>= _) _ _ ⟨h₁, g, d, tk0, os⟩
  refine wpAny_bind (D1.item i ⟨h₁, g, d, tk0, os⟩ _ _ hlt1 (D1.over st1 hs S.zf1) fun x1 h₂ tk₂ p1 st1' hs₂ => wpAny_pure ?_)
  replace hs₂ : Heap.SameBut i1 h₁ h₂ := hs₂
  refine wpAny_pure ?_
  have st2' : St2 i h₂ := D2.over (D2.over st2 hs S.zf2) hs₂ S.sep1_2
  refine wpAny_bind (wpAny_bind (wpAny_holding ?_))
  show wpAny _ _ (Builtin.SmallTypes.nextOf (.ref i2) >>= _) _ _ ⟨h₂, g, d, tk₂, os⟩
  refine wpAny_bind (D2.item i ⟨h₂, g, d, tk₂, os⟩ _ _ hlt2 st2' fun x2 h₃ tk₃ p2 st2'' hs₃ => wpAny_pure ?_)
  replace hs₃ : Heap.SameBut i2 h₂ h₃ := hs₃
  refine wpAny_pure (wpAny_pure ?_)
  have sz : h₃.objs.size = hp.objs.size := by rw [hs₃.1, hs₂.1, hs.1]
  have hz₃ : ZipOut h₃ z TI TO T true := hs₃.extBut _ _ S.zi2 (hs₂.extBut _ _ S.zi1 hz₁)
  have st1'' : St1 (i + 1) h₃ := D1.over st1' hs₃ S.sep2_1
  refine wpAny_bind (wpAny_newTuple ?_ (by show 2 ≤ sizeLine; decide))
  refine wpAny_pure ⟨_, rfl, ?_⟩
  show Q (.ref h₃.objs.size) _
  rw [sz]
  refine hQ x1 x2 _ _ p1 p2 (Heap.get?_push_of_some _ hz₃) (D1.frame _ _ _ st1'' fun b _ o e => Heap.get?_push_of_some _ e) (D2.frame _ _ _ st2'' fun b _ o e => Heap.get?_push_of_some _ e) ?_ (by rw [Heap.size_push, sz]) fun c o c1 c2 c3 e => Heap.get?_push_of_some _ (hs₃.extBut _ _ c3 (hs₂.extBut _ _ c2 (hs.extBut _ _ c1 e)))
  show Heap.get? _ hp.objs.size = _
  rw [← sz]
  exact Heap.get?_push_size _ rfl
theorem out_end {Q : PySem.Fin → Shared → Prop} (S : ZipSep2 z TI TO i1 i2 fp1 fp2) (D1 : Draws prog w A i1 fp1 n1 P1 St1) (D2 : Draws prog w A i2 fp2 n2 P2 St2)
    (hz : ZipOut s.heap z TI TO T f) (hTI : IsTupOf2 s.heap TI (.ref i1) (.ref i2)) (ha : s.heap.get? T = some oa) (st1 : St1 i s.heap) (st2 : St2 i s.heap) (hle1 : i ≤ n1) (hle2 : i ≤ n2) (hend : i = n1 ∨ i = n2)
    (hE : ∀ h' tk e, (∀ c o, c ≠ z → c ≠ i1 → c ≠ i2 → s.heap.get? c = some o → h'.get? c = some o) → (∃ o, h'.get? e = some o ∧ o.cls = .type "StopIteration") → E (.ref e) { s with heap := h', toks := tk }) :
    wpAny (model prog w) A (Builtin.«zip.__next__» ⟨[.ref z], []⟩) Q E s := by
  obtain ⟨hp, g, d, tk0, os⟩ := s
  show wpAny _ _ (field (.ref z) 2 >>= _) _ _ _
  refine wpAny_bind (wpAny_field hz rfl (x := .bool false) rfl ?_)
  show wpAny _ _ (field (.ref z) 3 >>= _) _ _ _
  refine wpAny_bind (wpAny_field hz rfl (x := .ref TI) rfl ?_)
  refine wpAny_bind (wpAny_seqItems hTI rfl ?_)
  show wpAny _ _ (Builtin.SmallTypes.ownedTupleIsFree (.ref z) >>= _) _ _ _
  refine wpAny_bind (out_free hz ha fun h₁ hz₁ hs => ?_)
  replace hs : Heap.SameBut z hp h₁ := hs
  simp only [Bool.false_eq_true, if_false, List.forIn_toArray, List.forIn_cons, List.forIn_nil]
  refine wpAny_bind (wpAny_bind (wpAny_bind (wpAny_holding ?_)))
  show wpAny _ _ (Builtin.SmallTypes.nextOf (.ref i1) >>= _) _ _ ⟨h₁, g, d, tk0, os⟩
  rcases Nat.lt_or_ge i n1 with lt1 | ge1
  · have e2 : i = n2 := by omega
    refine wpAny_bind (D1.item i ⟨h₁, g, d, tk0, os⟩ _ _ lt1 (D1.over st1 hs S.zf1) fun x1 h₂ tk₂ p1 st1' hs₂ => wpAny_pure ?_)
    replace hs₂ : Heap.SameBut i1 h₁ h₂ := hs₂
    refine wpAny_pure ?_
    have st2' : St2 i h₂ := D2.over (D2.over st2 hs S.zf2) hs₂ S.sep1_2
    rw [e2] at st2'
    refine wpAny_bind (wpAny_bind (wpAny_holding ?_))
    show wpAny _ _ (Builtin.SmallTypes.nextOf (.ref i2) >>= _) _ _ ⟨h₂, g, d, tk₂, os⟩
    refine wpAny_bind (D2.done ⟨h₂, g, d, tk₂, os⟩ _ _ st2' fun h₃ e hs₃ he => ?_)
    exact hE h₃ tk₂ e (fun c o c1 c2 c3 x => hs₃ _ _ c3 (hs₂.extBut _ _ c2 (hs.extBut _ _ c1 x))) he
  · have e1 : i = n1 := by omega
    have st1' := D1.over st1 hs S.zf1
    rw [e1] at st1'
    refine wpAny_bind (D1.done ⟨h₁, g, d, tk0, os⟩ _ _ st1' fun h₂ e hs₂ he => ?_)
    exact hE h₂ tk0 e (fun c o c1 c2 c3 x => hs₂ _ _ c2 (hs.extBut _ _ c1 x)) he
end
end ZpL
set_option maxRecDepth 100000
set_option maxHeartbeats 2000000
namespace ZpL
open PySem PySem.Spec PyProof.Rows PySem.W
open Sem (wp)
section
variable {prog : Program} {w : World} {A : Around} {E : Value → Shared → Prop} {s : Shared} {z TI TO i1 i2 T : Addr} {fp1 fp2 : List Addr} {n1 n2 i : Nat} {P1 P2 : Nat → Value → Prop} {St1 St2 : Nat → Heap → Prop} {f : Bool} {oa : Obj}
/-- a zip at the i-th pair: its own pair is free at first, and out from then on -/
def ZSt (h : Heap) (z TI TO L : Addr) (i : Nat) : Prop :=
  (i = 0 ∧ IsZip h z TI TO .none ∧ ∃ a b, IsTupOf2 h TO a b) ∨ ∃ T f oa, ZipOut h z TI TO T f ∧ h.get? T = some oa ∧ L < T
theorem ZSt.type {L : Addr} (x : ZSt s.heap z TI TO L i) : s.TypeIs (.ref z) "zip" := by
  rcases x with ⟨_, hz, _⟩ | ⟨T, f, oa, hz, _⟩
  · exact ⟨_, hz, rfl⟩
  · exact ⟨_, hz, rfl⟩
/-- what is known of the cells -/
structure Cells (z TI TO i1 i2 L : Addr) (fp1 fp2 : List Addr) : Prop where
  sep : ZipSep2 z TI TO i1 i2 fp1 fp2
  zL : z < L
  TOL : TO < L
  TIL : TI < L
  f1 : ∀ b ∈ fp1, b < L
  f2 : ∀ b ∈ fp2, b < L
theorem st_item {L : Addr} {Q : Option Value → Shared → Prop} (C : Cells z TI TO i1 i2 L fp1 fp2) (D1 : Draws prog w A.in1 i1 fp1 n1 P1 St1) (D2 : Draws prog w A.in1 i2 fp2 n2 P2 St2)
    (hz : ZSt s.heap z TI TO L i) (hTI : IsTupOf2 s.heap TI (.ref i1) (.ref i2)) (hL : L < s.heap.objs.size) (st1 : St1 i s.heap) (st2 : St2 i s.heap) (hlt1 : i < n1) (hlt2 : i < n2)
    (hQ : ∀ x1 x2 h' tk, P1 i x1 → P2 i x2 → ZSt h' z TI TO L (i + 1) → IsTupOf2 h' TI (.ref i1) (.ref i2) → St1 (i + 1) h' → St2 (i + 1) h' → IsTupOf2 h' s.heap.objs.size x1 x2 → h'.objs.size = s.heap.objs.size + 1 →
      (∀ c o, c ≠ z → c ≠ TO → c ≠ i1 → c ≠ i2 → s.heap.get? c = some o → h'.get? c = some o) → Q (some (.ref s.heap.objs.size)) { s with heap := h', toks := tk }) : wpAny (model prog w) A (pyNext (.ref z)) Q E s := by
  have S := C.sep
  rcases hz with ⟨rfl, hz, a, b, hTO⟩ | ⟨T, f, oa, hz, ha, hT⟩
  · refine wpAny_pyNext_zipD2_item S D1 D2 hz hTI hTO st1 st2 hlt1 hlt2 fun x1 x2 h' tk y1 y2 b1 b2 d1 d2 b5 b6 b7 => hQ x1 x2 h' tk y1 y2 (.inr ⟨s.heap.objs.size, false, _, b1, b5, hL⟩) (b7 TI _ S.TIz S.TITO S.TIi1 S.TIi2 hTI) d1 d2 b5 b6 b7
  · have hTy : s.TypeIs (.ref z) "zip" := ⟨_, hz, rfl⟩
    have nz : T ≠ z := Nat.ne_of_gt (Nat.lt_trans C.zL hT)
    have m1 : T ≠ i1 := Nat.ne_of_gt (Nat.lt_trans (C.f1 i1 S.mem1) hT)
    have m2 : T ≠ i2 := Nat.ne_of_gt (Nat.lt_trans (C.f2 i2 S.mem2) hT)
    unfold pyNext
    exact wpAny_bind (wpAny_attempt (wpAny_callSpecial?_slot (name := Str.ofString "__next__") hTy F.slot_zip_next
      (wpAny_call_entry F.slot_zip_next hTy F.entry_zip_next
        (out_item S D1 D2 hz hTI ha st1 st2 hlt1 hlt2 fun x1 x2 h' tk y1 y2 b1 d1 d2 b5 b6 b7 => wpAny_pure (hQ x1 x2 h' tk y1 y2 (.inr ⟨T, true, oa, b1, b7 T _ nz m1 m2 ha, hT⟩) (b7 TI _ S.TIz S.TIi1 S.TIi2 hTI) d1 d2 b5 b6 fun c o c1 _ c3 c4 e => b7 c o c1 c3 c4 e)) (F.args_zip_next_1 _))))
theorem st_end {L : Addr} {Q : Option Value → Shared → Prop} (C : Cells z TI TO i1 i2 L fp1 fp2) (D1 : Draws prog w A.in1 i1 fp1 n1 P1 St1) (D2 : Draws prog w A.in1 i2 fp2 n2 P2 St2)
    (hz : ZSt s.heap z TI TO L i) (hTI : IsTupOf2 s.heap TI (.ref i1) (.ref i2)) (st1 : St1 i s.heap) (st2 : St2 i s.heap) (hle1 : i ≤ n1) (hle2 : i ≤ n2) (hend : i = n1 ∨ i = n2)
    (hQ : ∀ h' tk, (∀ c o, c ≠ z → c ≠ TO → c ≠ i1 → c ≠ i2 → s.heap.get? c = some o → h'.get? c = some o) → Q none { s with heap := h', toks := tk }) : wpAny (model prog w) A (pyNext (.ref z)) Q E s := by
  have S := C.sep
  rcases hz with ⟨rfl, hz, a, b, hTO⟩ | ⟨T, f, oa, hz, ha, hT⟩
  · exact wpAny_pyNext_zipD2_end S D1 D2 hz hTI hTO st1 st2 hle1 hle2 hend hQ
  · have hTy : s.TypeIs (.ref z) "zip" := ⟨_, hz, rfl⟩
    unfold pyNext
    refine wpAny_bind (wpAny_attempt (wpAny_callSpecial?_slot (name := Str.ofString "__next__") hTy F.slot_zip_next
      (wpAny_call_entry F.slot_zip_next hTy F.entry_zip_next (out_end S D1 D2 hz hTI ha st1 st2 hle1 hle2 hend fun h' tk e hk he => ?_) (F.args_zip_next_1 _))))
    obtain ⟨o, ho, hc⟩ := he
    refine wpAny_bind (wpAny_isInstance (T := "StopIteration") (b := true) ⟨o, ho, hc⟩ isSubtype_stop ?_)
    exact wpAny_pure (hQ _ _ fun c o c1 _ c3 c4 e => hk c o c1 c3 c4 e)
/-- the pairs that stand already -/
structure Prs (P1 P2 : Nat → Value → Prop) (lo : Addr) (h : Heap) (as : List Addr) : Prop where
  rise : as.Pairwise (· < ·)
  above : ∀ a ∈ as, lo < a
  pairs : ∀ (j : Nat) (a : Addr), as[j]? = some a → ∃ x1 x2, P1 j x1 ∧ P2 j x2 ∧ IsTupOf2 h a x1 x2
theorem Prs.keep {lo : Addr} {h h' : Heap} {as : List Addr} (g : Prs P1 P2 lo h as) (k : ∀ b o, lo < b → h.get? b = some o → h'.get? b = some o) : Prs P1 P2 lo h' as :=
  ⟨g.rise, g.above, fun j a hj => by
    obtain ⟨x1, x2, e1, e2, e3⟩ := g.pairs j a hj
    exact ⟨x1, x2, e1, e2, k _ _ (g.above a (List.mem_of_getElem? hj)) e3⟩⟩
theorem Prs.there {lo : Addr} {h : Heap} {as : List Addr} (g : Prs P1 P2 lo h as) {a : Addr} (ha : a ∈ as) : a < h.objs.size := by
  obtain ⟨j, hj⟩ := List.mem_iff_getElem?.mp ha
  obtain ⟨_, _, _, _, e⟩ := g.pairs j a hj
  exact Heap.lt_size e
theorem Prs.snoc {lo : Addr} {h h' : Heap} {as : List Addr} {x1 x2 : Value} (g : Prs P1 P2 lo h as) (hl : as.length = i) (p1 : P1 i x1) (p2 : P2 i x2) (k : ∀ b o, lo < b → h.get? b = some o → h'.get? b = some o) (hlo : lo < h.objs.size) (ht : IsTupOf2 h' h.objs.size x1 x2) : Prs P1 P2 lo h' (as ++ [h.objs.size]) := by
  refine ⟨List.pairwise_append.mpr ⟨g.rise, List.pairwise_singleton _ _, fun a ha b hb => by rw [List.mem_singleton.mp hb]; exact g.there ha⟩, fun a ha => ?_, fun j a hj => ?_⟩
  · rcases List.mem_append.mp ha with ha | ha
    · exact g.above a ha
    · rw [List.mem_singleton.mp ha]; exact hlo
  · rcases Nat.lt_trichotomy j as.length with c | c | c
    · rw [List.getElem?_append_left c] at hj
      exact (g.keep k).pairs j a hj
    · subst c
      have e : h.objs.size = a := by simpa using hj
      rw [← e, hl]
      exact ⟨x1, x2, p1, p2, ht⟩
    · rw [List.getElem?_eq_none (by rw [List.length_append, List.length_singleton]; omega)] at hj
      cases hj
theorem zl_loop {L : Addr} {R : Result → Shared → Prop} {lo : Addr} (C : Cells z TI TO i1 i2 L fp1 fp2) (D1 : Draws prog w A.in1.in1 i1 fp1 n1 P1 St1) (D2 : Draws prog w A.in1.in1 i2 fp2 n2 P2 St2) (hn : min n1 n2 ≤ sizeLine) (res : Value) {h₁ : Heap}
    (hR : ∀ h' tk acc c as, (∀ b o, b ≠ L → b ≠ z → b ≠ TO → b ≠ i1 → b ≠ i2 → h₁.get? b = some o → h'.get? b = some o) → h'.get? L = some { cls := .type "list", dict := none, data := .seq acc c, slots := #[] } → as.length = min n1 n2 → Prs P1 P2 L h' as →
      acc.toList = as.map Value.ref → R (.ok (.ret res)) { s with heap := h', toks := tk }) :
    ∀ (k i : Nat) (h : Heap) (tk c : Nat) (acc : Array Value) (as : List Addr), min n1 n2 - i = k → i ≤ min n1 n2 → ZSt h z TI TO L i → IsTupOf2 h TI (.ref i1) (.ref i2) → St1 i h → St2 i h → (∀ b o, b ≠ L → b ≠ z → b ≠ TO → b ≠ i1 → b ≠ i2 → h₁.get? b = some o → h.get? b = some o) →
      h.get? L = some { cls := .type "list", dict := none, data := .seq acc c, slots := #[] } → acc.toList = as.map Value.ref → as.length = i → Prs P1 P2 L h as →
      codeAny (model prog w) A (.builtin "list.extend.loop" ⟨[.ref L, .ref z, res], []⟩) R { s with heap := h, toks := tk } := by
  have S := C.sep
  have nzL : L ≠ z := Nat.ne_of_gt C.zL
  have nTL : L ≠ TO := Nat.ne_of_gt C.TOL
  have nIL : L ≠ TI := Nat.ne_of_gt C.TIL
  have n1L : L ≠ i1 := Nat.ne_of_gt (C.f1 _ S.mem1)
  have n2L : L ≠ i2 := Nat.ne_of_gt (C.f2 _ S.mem2)
  have big : ∀ b, L < b → b ≠ L ∧ b ≠ z ∧ b ≠ TO ∧ b ≠ i1 ∧ b ≠ i2 := fun b hb =>
    ⟨Nat.ne_of_gt hb, Nat.ne_of_gt (Nat.lt_trans C.zL hb), Nat.ne_of_gt (Nat.lt_trans C.TOL hb), Nat.ne_of_gt (Nat.lt_trans (C.f1 _ S.mem1) hb), Nat.ne_of_gt (Nat.lt_trans (C.f2 _ S.mem2) hb)⟩
  intro k
  induction k with
  | zero =>
    intro i h tk c acc as hk hi hst hTI st1 st2 hkeep hS hacc hal hG
    have hin : i = min n1 n2 := by omega
    refine codeAny_builtin PySem.F.entry_extend_loop ?_
    rw [Around.under_plainId PySem.F.plain_extend_loop _]
    show wpAny _ A.in1 (pyNext (.ref z) >>= _) _ _ _
    refine wpAny_bind (st_end (s := { s with heap := h, toks := tk }) (A := A.in1) C D1 D2 hst hTI st1 st2 (by omega) (by omega) (by omega) fun h' tk' he => ?_)
    refine wpAny_pure (hR h' tk' acc c as (fun b o b0 b1 b2 b3 b4 e => he b o b1 b2 b3 b4 (hkeep b o b0 b1 b2 b3 b4 e)) (he L _ nzL nTL n1L n2L hS) (by omega) (hG.keep fun b o hb e => ?_) hacc)
    obtain ⟨_, c1, c2, c3, c4⟩ := big b hb
    exact he b o c1 c2 c3 c4 e
  | succ k ih =>
    intro i h tk c acc as hk hi hst hTI st1 st2 hkeep hS hacc hal hG
    have hsz : acc.size = i := by rw [← Array.length_toList, hacc, List.length_map, hal]
    have hLs : L < h.objs.size := Heap.lt_size hS
    refine codeAny_builtin PySem.F.entry_extend_loop ?_
    rw [Around.under_plainId PySem.F.plain_extend_loop _]
    show wpAny _ A.in1 (pyNext (.ref z) >>= _) _ _ _
    refine wpAny_bind (st_item (s := { s with heap := h, toks := tk }) (A := A.in1) C D1 D2 hst hTI hLs st1 st2 (by omega) (by omega) fun x1 x2 h' tk' p1 p2 hst' hTI' st1' st2' ht hz hkp => ?_)
    dsimp only at ht hz hkp ⊢
    have hS' := hkp L _ nzL nTL n1L n2L hS
    have up : ∀ b o, b ≠ L → h'.get? b = some o → (h'.update L (Obj.mapSeq (·.push (Value.ref h.objs.size)))).get? b = some o := fun b o hb e => (Heap.get?_update_other _ _ (Ne.symm hb)).trans e
    show wpAny _ A.in1 (updateSeq L (·.push (Value.ref h.objs.size)) >>= _) _ _ _
    refine wpAny_bind ?_
    refine wpAny_updateSeq hS' rfl (wpAny_pure ⟨plainId_quiet PySem.F.plain_extend_loop _, ih (i + 1) _ tk' _ (acc.push (Value.ref h.objs.size)) (as ++ [h.objs.size]) (by omega) (by omega) ?_ (up TI _ (Ne.symm nIL) hTI')
      (D1.frame _ _ _ st1' fun b hb o e => up b o (Nat.ne_of_lt (C.f1 b hb)) e) (D2.frame _ _ _ st2' fun b hb o e => up b o (Nat.ne_of_lt (C.f2 b hb)) e)
      (fun b o b0 b1 b2 b3 b4 e => up b o b0 (hkp b o b1 b2 b3 b4 (hkeep b o b0 b1 b2 b3 b4 e))) (Heap.get?_update_self _ hS' rfl) (by rw [Array.toList_push, hacc, List.map_append]; rfl) (by rw [List.length_append, hal]; rfl) ?_⟩) (by rw [hsz]; omega) (by show (acc.push (Value.ref h.objs.size)).size ≤ sizeLine + 1; rw [Array.size_push, hsz]; omega)
    · rcases hst' with ⟨e, _⟩ | ⟨T, f, oa, hz', ha', hT⟩
      · exact absurd e (Nat.succ_ne_zero _)
      · exact .inr ⟨T, f, oa, up z _ (Ne.symm nzL) hz', up T _ (Nat.ne_of_gt hT) ha', hT⟩
    · refine hG.snoc hal p1 p2 (fun b o hb e => ?_) hLs (up _ _ (Nat.ne_of_gt hLs) ht)
      obtain ⟨c0, c1, c2, c3, c4⟩ := big b hb
      exact up b o c0 (hkp b o c1 c2 c3 c4 e)
end
end ZpL
set_option maxRecDepth 100000
set_option maxHeartbeats 2000000
namespace ZpL
open PySem PySem.Spec PyProof.Rows PySem.W
open Sem (wp)
theorem nolen_zip : typeLookup (.type "zip") "__len__" = pure none := by rw [typeLookup_type, builtinLookup_eq_fast]; kernel_rfl
theorem nohint_zip : typeLookup (.type "zip") "__length_hint__" = pure none := by rw [typeLookup_type, builtinLookup_eq_fast]; kernel_rfl
section
variable {prog : Program} {w : World} {A : Around} {E : Value → Shared → Prop} {s : Shared} {z TI TO i1 i2 T : Addr} {fp1 fp2 : List Addr} {n1 n2 i : Nat} {P1 P2 : Nat → Value → Prop} {St1 St2 : Nat → Heap → Prop}
/-- what a zip is at first -/
structure At0 (St1 St2 : Nat → Heap → Prop) (z TI TO i1 i2 : Addr) (h : Heap) : Prop where
  z : IsZip h z TI TO .none
  TO : ∃ a b, IsTupOf2 h TO a b
  TI : IsTupOf2 h TI (.ref i1) (.ref i2)
  s1 : St1 0 h
  s2 : St2 0 h
theorem At0.keep {h h' : Heap} {L : Addr} (a : At0 St1 St2 z TI TO i1 i2 h) (C : Cells z TI TO i1 i2 L fp1 fp2) (D1 : Draws prog w A i1 fp1 n1 P1 St1) (D2 : Draws prog w A i2 fp2 n2 P2 St2) (k : ∀ b o, b ≠ L → h.get? b = some o → h'.get? b = some o) : At0 St1 St2 z TI TO i1 i2 h' := by
  obtain ⟨hz, ⟨x, y, hTO⟩, hTI, s1, s2⟩ := a
  exact ⟨k _ _ (Nat.ne_of_lt C.zL) hz, ⟨x, y, k _ _ (Nat.ne_of_lt C.TOL) hTO⟩, k _ _ (Nat.ne_of_lt C.TIL) hTI, D1.frame _ _ _ s1 fun b hb o e => k b o (Nat.ne_of_lt (C.f1 b hb)) e, D2.frame _ _ _ s2 fun b hb o e => k b o (Nat.ne_of_lt (C.f2 b hb)) e⟩
theorem zl_extend {L : Addr} {R : Result → Shared → Prop} (C : Cells z TI TO i1 i2 L fp1 fp2) (D1 : Draws prog w A.in1.in1 i1 fp1 n1 P1 St1) (D2 : Draws prog w A.in1.in1 i2 fp2 n2 P2 St2) (hn : min n1 n2 ≤ sizeLine) (a0 : At0 St1 St2 z TI TO i1 i2 s.heap) (res : Value) (c₀ : Nat) (hS : s.heap.get? L = some { cls := .type "list", data := .seq #[] c₀ })
    (hR : ∀ h' tk acc c as, (∀ b o, b ≠ L → b ≠ z → b ≠ TO → b ≠ i1 → b ≠ i2 → s.heap.get? b = some o → h'.get? b = some o) → h'.get? L = some { cls := .type "list", dict := none, data := .seq acc c, slots := #[] } → as.length = min n1 n2 → Prs P1 P2 L h' as →
      acc.toList = as.map Value.ref → R (.ok (.ret res)) { s with heap := h', toks := tk }) :
    wpAny (model prog w) A.in1 (Builtin.List.listExtendWith (.ref L) (.ref z) res)
      (fun fin s' => match fin with | .done f => R (.ok f) s' | .again c' => c'.quiet = true ∧ codeAny (model prog w) A c' R s') (fun e s' => R (.error e) s') s := by
  have hT : s.TypeIs (.ref z) "zip" := ⟨_, a0.z, rfl⟩
  have nL : L ≠ z := Nat.ne_of_gt C.zL
  have key : ∀ (h : Heap) (c₁ tk : Nat), (∀ b o, b ≠ L → s.heap.get? b = some o → h.get? b = some o) → h.get? L = some { cls := .type "list", data := .seq #[] c₁ } → codeAny (model prog w) A (.builtin "list.extend.loop" ⟨[.ref L, .ref z, res], []⟩) R { s with heap := h, toks := tk } := by
    intro h c₁ tk hk hS₁
    have a1 := a0.keep C D1 D2 hk
    refine zl_loop (s := s) (lo := L) (h₁ := s.heap) C D1 D2 hn res hR (min n1 n2) 0 h tk c₁ #[] [] (Nat.sub_zero _) (Nat.zero_le _) (.inl ⟨rfl, a1.z, a1.TO⟩) a1.TI a1.s1 a1.s2 (fun b o b0 _ _ _ _ e => hk b o b0 e) hS₁ rfl rfl
      ⟨List.Pairwise.nil, (fun _ ha => nomatch ha), (fun j a hj => by simp at hj)⟩
  unfold Builtin.List.listExtendWith
  refine wpAny_bind (wpAny_typeOf (T := "zip") hT ?_)
  have h1 : Builtin.List.listSameRef (.ref L) (.ref z) = false := by simp [Builtin.List.listSameRef, nL]
  have h2 : (Value.type "zip" == Value.type "list") = false := by decide
  have h3 : (Value.type "zip" == Value.type "tuple") = false := by decide
  simp only [h1, h2, h3, Bool.or_false, Bool.false_eq_true, if_false]
  refine wpAny_bind (wpAny_pyIter_zip a0.z ?_)
  refine wpAny_bind (wpAny_holding ?_)
  unfold Builtin.List.listLengthHint
  refine wpAny_bind (wpAny_specialOf hT nolen_zip ?_)
  show wpAny _ _ (specialOf (Value.ref z) (Str.ofString "__length_hint__") >>= _) _ _ _
  refine wpAny_bind (wpAny_specialOf hT nohint_zip ?_)
  refine wpAny_pure ?_
  refine wpAny_bind (wpAny_rule ?_)
  refine wpAny_bind ?_
  show wpAny _ _ (updateSeq L (·.push .none) >>= fun _ => updateSeq L (·.pop)) _ _ _
  refine wpAny_bind (wpAny_updateSeq hS rfl ?_)
  have hS₂ := Heap.get?_update_self (Obj.mapSeq (·.push Value.none)) hS rfl
  refine wpAny_updateSeq (hz := by seq_fits) hS₂ rfl ?_
  have hS₃ := Heap.get?_update_self (Obj.mapSeq (·.pop)) hS₂ rfl
  refine wpAny_pure ⟨plainId_quiet PySem.F.plain_extend_loop _, key _ _ _ (fun b o hb e => ?_) hS₃⟩
  exact (Heap.get?_update_other _ _ (Ne.symm hb)).trans ((Heap.get?_update_other _ _ (Ne.symm hb)).trans e)
theorem zl_init {L : Addr} {R : Result → Shared → Prop} (C : Cells z TI TO i1 i2 L fp1 fp2) (D1 : Draws prog w A.in1.in1 i1 fp1 n1 P1 St1) (D2 : Draws prog w A.in1.in1 i2 fp2 n2 P2 St2) (hn : min n1 n2 ≤ sizeLine) (a0 : At0 St1 St2 z TI TO i1 i2 s.heap) (hS : s.heap.get? L = some { cls := .type "list", data := .seq #[] })
    (hR : ∀ h' tk acc c as, (∀ b o, b ≠ L → b ≠ z → b ≠ TO → b ≠ i1 → b ≠ i2 → s.heap.get? b = some o → h'.get? b = some o) → h'.get? L = some { cls := .type "list", dict := none, data := .seq acc c, slots := #[] } → as.length = min n1 n2 → Prs P1 P2 L h' as →
      acc.toList = as.map Value.ref → R (.ok (.ret .none)) { s with heap := h', toks := tk }) :
    wpAny (model prog w) A.in1 (Builtin.«list.__init__» ⟨[.ref L, .ref z], []⟩)
      (fun fin s' => match fin with | .done f => R (.ok f) s' | .again c' => c'.quiet = true ∧ codeAny (model prog w) A c' R s') (fun e s' => R (.error e) s') s := by
  show wpAny _ _ (do let old ← Builtin.List.listItems (.ref L); Builtin.List.listUpdate (.ref L) (fun _ => #[]); letGo old.toList.reverse; Builtin.List.listExtendWith (.ref L) (.ref z) .none) _ _ s
  refine wpAny_bind ?_
  unfold Builtin.List.listItems
  refine wpAny_bind (wpAny_seqItems hS rfl (wpAny_pure ?_))
  show wpAny _ _ (updateSeq L (fun _ => #[]) >>= fun _ => letGo (#[] : Array Value).toList.reverse >>= fun _ => Builtin.List.listExtendWith (.ref L) (.ref z) .none) _ _ s
  refine wpAny_bind (wpAny_updateSeq hS rfl ?_)
  have hS₂ := Heap.get?_update_self (Obj.mapSeq (fun _ => (#[] : Array Value))) hS rfl
  have oth : ∀ b o, b ≠ L → s.heap.get? b = some o → (s.heap.update L (Obj.mapSeq (fun _ => (#[] : Array Value)))).get? b = some o :=
    fun b o hb e => (Heap.get?_update_other _ _ (Ne.symm hb)).trans e
  refine wpAny_bind (wpAny_letGo ?_)
  refine zl_extend C D1 D2 hn (a0.keep C D1 D2 oth) .none _ hS₂ (fun h' tk acc c as hk hS' hl hG hacc => ?_)
  exact hR h' tk acc c as (fun b o b0 b1 b2 b3 b4 e => hk b o b0 b1 b2 b3 b4 (oth b o b0 e)) hS' hl hG hacc
theorem zl_call {Q : Value → Shared → Prop} (C : Cells z TI TO i1 i2 s.heap.objs.size fp1 fp2) (D1 : Draws prog w A.in1.in1.in1 i1 fp1 n1 P1 St1) (D2 : Draws prog w A.in1.in1.in1 i2 fp2 n2 P2 St2) (hn : min n1 n2 ≤ sizeLine) (a0 : At0 St1 St2 z TI TO i1 i2 s.heap)
    (hQ : ∀ h' tk acc c as, (∀ b o, b ≠ z → b ≠ TO → b ≠ i1 → b ≠ i2 → s.heap.get? b = some o → h'.get? b = some o) → h'.get? s.heap.objs.size = some { cls := .type "list", dict := none, data := .seq acc c, slots := #[] } → as.length = min n1 n2 → Prs P1 P2 s.heap.objs.size h' as →
      acc.toList = as.map Value.ref → Q (.ref s.heap.objs.size) { s with heap := h', toks := tk }) :
    wpAny (model prog w) A (call (.type "list") [.ref z]) Q E s := by
  refine callType_codes (Q₁ := fun obj s₁ => obj = .ref s.heap.objs.size ∧ s₁ = { s with heap := s.heap.push { cls := .type "list", data := .seq #[] } }) PySem.F.called_list (PySem.F.typeCall_list_1 _) PySem.F.entry_list_init
    (code_list_new _ ⟨rfl, rfl⟩) fun obj s₁ h₁ => ?_
  obtain ⟨rfl, rfl⟩ := h₁
  have hS : (s.heap.push { cls := .type "list", data := .seq #[] }).get? s.heap.objs.size = some { cls := .type "list", data := .seq #[] } := Heap.get?_push_size _ rfl
  refine ⟨⟨_, hS, rfl⟩, PySem.F.args_list_init_2 _ _, zl_init (A := A.in1) C D1 D2 hn (a0.keep C D1 D2 fun b o _ e => Heap.get?_push_of_some _ e) hS (fun h' tk acc c as hk hS' hl hG hacc => ?_)⟩
  exact ⟨rfl, hQ h' tk acc c as (fun b o b1 b2 b3 b4 e => hk b o (Nat.ne_of_lt (Heap.lt_size e)) b1 b2 b3 b4 (Heap.get?_push_of_some _ e)) hS' hl hG hacc⟩
end
end ZpL
set_option maxRecDepth 100000
set_option maxHeartbeats 2000000
/-! list(zip(a, b)): the rule -/
namespace ZpL
open PySem PySem.Spec PyProof.Rows PySem.W L2
/-- a list or a tuple -/
def SqA (K : PySem.W.Frag) (H : Hp) (a : Addr) (xs : List V) : Prop := SqL K H a xs ∨ SqT K H a xs
theorem vals_back {xs : List V} {us : List Value} {i : Nat} {u : Value} (r : Vals xs us) (h : us[i]? = some u) : ∃ x, xs[i]? = some x ∧ RelV x u := by
  obtain ⟨hi, _⟩ := List.getElem?_eq_some_iff.mp h
  have hl : i < xs.length := by rw [r.length]; exact hi
  have hx : xs[i]? = some xs[i] := List.getElem?_eq_getElem hl
  obtain ⟨u', e, q⟩ := r.get hx
  rw [h] at e
  exact ⟨_, hx, by rw [Option.some.inj e]; exact q⟩
theorem paired_of_get {α β : Type} {R : α → β → Prop} : ∀ {as : List α} {bs : List β}, as.length = bs.length → (∀ (j : Nat) (a : α) (b : β), as[j]? = some a → bs[j]? = some b → R a b) → Paired R as bs
  | [], [], _, _ => .nil
  | a :: as, b :: bs, hl, h => .cons (h 0 a b rfl rfl) (paired_of_get (Nat.succ.inj hl) fun j x y hx hy => h (j + 1) x y hx hy)
  | [], _ :: _, hl, _ => nomatch hl
  | _ :: _, [], hl, _ => nomatch hl
/-- what iter(a) is, and what it draws -/
def Side (prog : Program) (w : World) (h : Heap) (a : Addr) (its : Array Value) : Prop :=
  ∃ (o : Obj) (Hh : Heap → Prop) (St : Addr → Nat → Heap → Prop), Begins (.ref a) o Hh ∧ Hh h ∧ a < h.objs.size ∧ (∀ A it, A.handled = none → a ≠ it → Draws prog w A it [it, a] its.size (fun i v => its[i]? = some v) (St it)) ∧
    ∀ it h', h'.get? it = some o → (∀ b o, h.get? b = some o → h'.get? b = some o) → St it 0 h'
section
variable {X : Cx} {pins : List (Addr × Obj)} {σ : L2.St} {H : Hp} {s : Shared} {a : Addr} {xs : List V}
theorem side (I : Inv X pins σ H s) (h : SqA X.K H a xs) : ∃ its : List Value, Vals xs its ∧ Side X.prog X.w s.heap a its.toArray ∧ xs.length ≤ sizeLine := by
  rcases h with h | h
  · obtain ⟨its, rv, p, hz⟩ := I.list h
    refine ⟨its, rv, ⟨_, _, fun it i h => h.IsListIter it a i ∧ h.IsList a its.toArray, begins_list a its.toArray, p.isList, p.lt, fun A it hh hne => Draws.list hh it a hne its.toArray, fun it h' ho hk => ⟨⟨{ cls := .type "list_iterator", data := .fields #[.ref a, .int 0 0] }, ho, rfl, rfl⟩, p.isList.at fun o e => hk a o e⟩⟩, hz⟩
  · obtain ⟨its, rv, p, hz⟩ := I.tuple h
    obtain ⟨o1, ho1, _⟩ := id p
    refine ⟨its, rv, ⟨_, _, fun it i h => h.IsTupleIter it a i ∧ h.IsTuple a its.toArray, begins_tuple a its.toArray, (show s.heap.IsTuple a its.toArray from p), Heap.lt_size ho1, fun A it hh hne => Draws.tuple hh it a hne its.toArray, fun it h' ho hk => ⟨⟨{ cls := .type "tuple_iterator", data := .fields #[.ref a, .int 0 0] }, ho, rfl, rfl⟩, (show s.heap.IsTuple a its.toArray from p).at fun o e => hk a o e⟩⟩, hz⟩
end
/-- the pairs at as are those of zs -/
def PairsAt (H : Hp) (as : List Addr) (zs : List (V × V)) : Prop := Paired (fun (t : Addr) (q : V × V) => H t = some (.tup [q.1, q.2])) as zs
def tListZip (K : PySem.W.Frag) (ta : TA) : TE := fun σ H Q => ta σ H fun vs H1 => ∃ (a b : Addr) (xs ys : List V), vs = [.ref a, .ref b] ∧ SqA K H1 a xs ∧ SqA K H1 b ys ∧
  ∀ (H' : Hp) (l : Addr) (as : List Addr), (∀ b o, H1 b = some o → H' b = some o) → H1 l = none → (∀ t ∈ as, H1 t = none) → l ∉ as → as.Nodup → H' l = some (.lst (as.map V.ref)) → PairsAt H' as (xs.zip ys) → Q (.ref l) H'
section
variable {X : Cx} {ta : TA} {e e2 : Expr} {p p2 zpos pos : Pos}
theorem pe_listZip (hc : X.calm = true) (ha : PA X [e, e2] ta) (hg : Gl X "list") (hm : X.mg "list" = none) (hg2 : Gl X "zip") (hm2 : X.mg "zip" = none) (hv : bootBuiltins "list" = some (.type "list"))
    (hs : starEach [e, e2] X.env = (false, eval e X.env) :: starEach [e2] X.env := by rfl) (hpl : (backTo zpos (starEach [e2] X.env)).any (·.1) = false := by rfl)
    (hs1 : starEach [.Call (.Name "zip" p2) [e, e2] [] zpos] X.env = (false, eval (.Call (.Name "zip" p2) [e, e2] [] zpos) X.env) :: starEach [] X.env := by rfl) :
    PE X (.Call (.Name "list" p) [.Call (.Name "zip" p2) [e, e2] [] zpos] [] pos) (tListZip X.K ta) := by
  refine ⟨fun pins s σ H Q I hq => ?_⟩
  refine wpAny_Call_Name_kw (ld_blt I hg hm hv ?_)
  refine PyProof.Rows.callWith_type1 ?_ hs1 rfl
  rw [hs1]
  show wpAny _ _ (spliced ((false, eval (.Call (.Name "zip" p2) [e, e2] [] zpos) X.env) :: backTo pos (starEach [] X.env))) _ _ s
  refine Calls.spliced_cons ?_
  refine Call_ (ld_blt I hg2 hm2 PyProof.Rows.boot_zip (PyProof.Rows.callWith_type1 (thn (ha.run zpos pins s σ H _ I hq) fun us s1 ⟨vs, H1, I1, r1, q1⟩ => ?_) hs hpl))
  obtain ⟨a, b, xs, ys, rfl, hqx, hqy, q⟩ := q1
  obtain rfl : us = [.ref a, .ref b] := by
    cases r1 with
    | cons r rr =>
      cases rr with
      | cons r' rr =>
        cases rr
        cases r
        cases r'
        rfl
  obtain ⟨its, rv, ⟨o1, Hh1, St1, B1, z1, lt1, D1, S1⟩, hz1⟩ := side I1 hqx
  obtain ⟨its2, rv2, ⟨o2, Hh2, St2, B2, z2, lt2, D2, S2⟩, hz2⟩ := side I1 hqy
  have hh : X.A.handled = none := I1.ok.hd hc
  refine zip_begins2 B1 B2 z1 z2 fun h' hz hTI hTO h1 h2 hsz hk => ?_
  refine Calls.spliced_nil ?_
  have fl1 : ∀ c ∈ [s1.heap.objs.size, a], c < s1.heap.objs.size + 5 := fun c hcm => by
    rcases List.mem_cons.mp hcm with z | z
    · rw [z]; exact Nat.lt_add_of_pos_right (by decide)
    · rw [List.mem_singleton.mp z]; exact Nat.lt_of_lt_of_le lt1 (Nat.le_add_right _ _)
  have fl2 : ∀ c ∈ [s1.heap.objs.size + 1, b], c < s1.heap.objs.size + 5 := fun c hcm => by
    rcases List.mem_cons.mp hcm with z | z
    · rw [z]; exact Nat.add_lt_add_left (by decide) _
    · rw [List.mem_singleton.mp z]; exact Nat.lt_of_lt_of_le lt2 (Nat.le_add_right _ _)
  have C : Cells (s1.heap.objs.size + 4) (s1.heap.objs.size + 2) (s1.heap.objs.size + 3) s1.heap.objs.size (s1.heap.objs.size + 1) h'.objs.size [s1.heap.objs.size, a] [s1.heap.objs.size + 1, b] := by
    refine ⟨zip_sep2 (fun c hcm => by rw [List.mem_singleton.mp hcm]; exact lt1) (fun c hcm => by rw [List.mem_singleton.mp hcm]; exact lt2), ?_, ?_, ?_, fun c hcm => ?_, fun c hcm => ?_⟩
    · rw [hsz]; exact Nat.add_lt_add_left (by decide) _
    · rw [hsz]; exact Nat.add_lt_add_left (by decide) _
    · rw [hsz]; exact Nat.add_lt_add_left (by decide) _
    · rw [hsz]; exact fl1 c hcm
    · rw [hsz]; exact fl2 c hcm
  have l1 : its.toArray.size = xs.length := by rw [List.size_toArray, ← rv.length]
  have l2 : its2.toArray.size = ys.length := by rw [List.size_toArray, ← rv2.length]
  have lz : (xs.zip ys).length = min its.toArray.size its2.toArray.size := by rw [List.length_zip, l1, l2]
  have hne2 : b ≠ s1.heap.objs.size + 1 := Nat.ne_of_lt (Nat.lt_of_lt_of_le lt2 (Nat.le_add_right _ _))
  refine zl_call (s := { s1 with heap := h' }) C (D1 _ _ hh (Nat.ne_of_lt lt1)) (D2 _ _ hh hne2) (by omega) ⟨hz, ⟨_, _, hTO⟩, hTI, S1 _ _ h1 hk, S2 _ _ h2 hk⟩ (fun h2' tk acc c as hk2 hS hl hG hacc => ?_)
  dsimp only at hk2 hS hG ⊢
  have low : ∀ b o, s1.heap.get? b = some o → h2'.get? b = some o := fun b o e => by
    have hb : b < s1.heap.objs.size := Heap.lt_size e
    refine hk2 b o ?_ ?_ ?_ ?_ (hk b o e)
    · exact Nat.ne_of_lt (Nat.lt_of_lt_of_le hb (Nat.le_add_right _ _))
    · exact Nat.ne_of_lt (Nat.lt_of_lt_of_le hb (Nat.le_add_right _ _))
    · exact Nat.ne_of_lt hb
    · exact Nat.ne_of_lt (Nat.lt_of_lt_of_le hb (Nat.le_add_right _ _))
  have hle : s1.heap.objs.size ≤ h'.objs.size := by rw [hsz]; exact Nat.le_add_right _ _
  have hn0 : H1 h'.objs.size = none := I1.hok.fresh hle
  have nd : as.Nodup := List.Pairwise.imp (fun {a b} (h : a < b) => Nat.ne_of_lt h) hG.rise
  have fr : ∀ t ∈ as, H1 t = none := fun t ht => I1.hok.fresh (Nat.le_trans hle (Nat.le_of_lt (hG.above t ht)))
  have hln : h'.objs.size ∉ as := fun z => Nat.lt_irrefl _ (hG.above _ z)
  have I2 : Inv X pins σ H1 { s1 with heap := h2', toks := tk } := I1.kept (t' := tk) low
  have hlen : (as.map V.ref).length ≤ sizeLine := by rw [List.length_map]; omega
  have I3 : Inv X pins σ (upd H1 h'.objs.size (.lst (as.map V.ref))) { s1 with heap := h2', toks := tk } :=
    I2.take (h' := h2') (t' := tk) (fun b ob _ e => e) (I1.fpOk hle hn0) ⟨hlen, acc.toList, c, by rw [hacc]; exact vals_maps (fun z : Addr => V.ref z) (fun z => Value.ref z) as (fun _ _ => rfl), by rw [Array.toArray_toList]; exact hS⟩
  have pr : ∀ (j : Nat) (t : Addr), as[j]? = some t → ∃ x y u1 u2, xs[j]? = some x ∧ ys[j]? = some y ∧ RelV x u1 ∧ RelV y u2 ∧ h2'.get? t = some { cls := .type "tuple", data := .seq #[u1, u2] } := by
    intro j t hj
    obtain ⟨u1, u2, e1, e2, e3⟩ := hG.pairs j t hj
    have e1' : its[j]? = some u1 := by simpa using e1
    have e2' : its2[j]? = some u2 := by simpa using e2
    obtain ⟨x, hx, rx⟩ := vals_back rv e1'
    obtain ⟨y, hy, ry⟩ := vals_back rv2 e2'
    exact ⟨x, y, u1, u2, hx, hy, rx, ry, e3⟩
  obtain ⟨H2, I4, g, qt⟩ := L2.DX.takeT (P := fun t vs => ∃ (j : Nat) (x y : V), as[j]? = some t ∧ xs[j]? = some x ∧ ys[j]? = some y ∧ vs = [x, y]) I1 as _ I3 nd fun t ht => by
    obtain ⟨j, hj⟩ := List.mem_iff_getElem?.mp ht
    obtain ⟨x, y, u1, u2, hx, hy, rx, ry, hg⟩ := pr j t hj
    refine ⟨Nat.le_trans hle (Nat.le_of_lt (hG.above t ht)), ?_, [x, y], ⟨j, x, y, hj, hx, hy, rfl⟩, fun H3 => ⟨(by rw [sizeLine_eq]; show 2 ≤ 16777216; omega), [u1, u2], .cons rx (.cons ry .nil), ⟨_, hg, rfl, 0, rfl⟩⟩⟩
    rw [upd_ne (fun z : t = h'.objs.size => hln (by rw [← z]; exact ht))]
    exact fr t ht
  have gr : ∀ b o, H1 b = some o → H2 b = some o := fun b o e => g b o (by rw [upd_ne (L2.ne_of_none e hn0)]; exact e)
  refine ⟨.ref h'.objs.size, H2, I4, rfl, q H2 h'.objs.size as gr hn0 fr hln nd (g _ _ upd_same) (paired_of_get (by omega) fun j t zp hj hzp => ?_)⟩
  obtain ⟨vs, ⟨i, x, y, i1, i2, i3, ev⟩, hH⟩ := qt t (List.mem_of_getElem? hj)
  have eij : j = i := (List.getElem?_inj (List.getElem?_eq_some_iff.mp hj).1 nd).mp (hj.trans i1.symm)
  subst eij
  obtain ⟨k1, k2⟩ := List.getElem?_zip_eq_some.mp hzp
  obtain rfl : x = zp.1 := Option.some.inj (i2.symm.trans k1)
  obtain rfl : y = zp.2 := Option.some.inj (i3.symm.trans k2)
  rw [hH, ev]
end
end ZpL
set_option maxRecDepth 100000
set_option maxHeartbeats 2000000
/-! fits: whether values can be put in so that terms come to nodes -/
namespace Fm
open PySem PySem.Spec PyProof.Rows L2
/-- what stands for the unknowns found so far can be told further so that each term of st comes to its node -/
def Fits (ts : List D) (kvs : List (Key × V)) (st : List (D × Nat)) : Prop :=
  ∃ f : Int → D, (∀ u v, valV kvs (.inl u) = some v → ∃ n : Nat, v = vI n ∧ ts[n]? = some (f u)) ∧ ∀ q ∈ st, ts[q.2]? = some (putD f q.1)
/-- what is found are numbers of nodes -/
def FoundOk (ts : List D) (kvs : List (Key × V)) : Prop := ∀ u v, valV kvs (.inl u) = some v → ∃ n : Nat, v = vI n ∧ n < ts.length
theorem vI_inj {m n : Nat} (h : vI m = vI n) : m = n := by
  have := V.int.inj h
  omega
theorem nodup_at {ts : List D} (nd : ts.Nodup) {m n : Nat} {d : D} (h1 : ts[m]? = some d) (h2 : ts[n]? = some d) : m = n :=
  (List.getElem?_inj (List.getElem?_eq_some_iff.mp h1).1 nd).mp (h1.trans h2.symm)
theorem fits_nil {ts : List D} {kvs : List (Key × V)} (h : FoundOk ts kvs) : Fits ts kvs [] := by
  refine ⟨fun u => match valV kvs (.inl u) with | some (.int i) => ts.getD i.toNat .non | _ => .non, fun u v e => ?_, fun _ h => by cases h⟩
  obtain ⟨n, rfl, lt⟩ := h u v e
  refine ⟨n, rfl, ?_⟩
  have e2 : valV kvs (.inl u) = some (.int (n : Int)) := e
  simp only [e2]
  rw [Int.toNat_natCast, List.getD_eq_getElem?_getD, List.getElem?_eq_getElem lt]
  rfl
theorem fits_same {ts : List D} {kvs : List (Key × V)} {st : List (D × Nat)} {u : Int} {n : Nat} (h : valV kvs (.inl u) = some (vI n)) : Fits ts kvs (st ++ [(.int u, n)]) ↔ Fits ts kvs st := by
  constructor
  · rintro ⟨f, h1, h2⟩
    exact ⟨f, h1, fun q hq => h2 q (List.mem_append_left _ hq)⟩
  · rintro ⟨f, h1, h2⟩
    refine ⟨f, h1, fun q hq => ?_⟩
    rcases List.mem_append.mp hq with hq | hq
    · exact h2 q hq
    · rw [List.mem_singleton.mp hq]
      obtain ⟨m, e, g⟩ := h1 u _ h
      rw [vI_inj e]
      exact g
theorem fits_other {ts : List D} {kvs : List (Key × V)} {st : List (D × Nat)} {u : Int} {m n : Nat} (nd : ts.Nodup) (h : valV kvs (.inl u) = some (vI m)) (ne : m ≠ n) : ¬ Fits ts kvs (st ++ [(.int u, n)]) := by
  rintro ⟨f, h1, h2⟩
  obtain ⟨m', e, g⟩ := h1 u _ h
  have e' := vI_inj e
  subst e'
  exact ne (nodup_at nd g (h2 (.int u, n) (List.mem_append_right _ List.mem_cons_self)))
theorem fits_new {ts : List D} {kvs : List (Key × V)} {st : List (D × Nat)} {u : Int} {n : Nat} (h : valV kvs (.inl u) = none) : Fits ts kvs (st ++ [(.int u, n)]) ↔ Fits ts (putK kvs (.inl u) (vI n)) st := by
  constructor
  · rintro ⟨f, h1, h2⟩
    refine ⟨f, fun u' v e => ?_, fun q hq => h2 q (List.mem_append_left _ hq)⟩
    rw [valV_put] at e
    split at e
    · rename_i z
      have z' := Sum.inl.inj z
      subst z'
      exact ⟨n, (Option.some.inj e).symm, h2 (.int u', n) (List.mem_append_right _ List.mem_cons_self)⟩
    · exact h1 u' v e
  · rintro ⟨f, h1, h2⟩
    refine ⟨f, fun u' v e => ?_, fun q hq => ?_⟩
    · refine h1 u' v ?_
      rw [valV_put, if_neg (fun z => ?_)]
      · exact e
      · rw [z, h] at e
        cases e
    · rcases List.mem_append.mp hq with hq | hq
      · exact h2 q hq
      · rw [List.mem_singleton.mp hq]
        obtain ⟨m, e, g⟩ := h1 u (vI n) (by rw [valV_put, if_pos rfl])
        rw [vI_inj e]
        exact g
theorem foundOk_new {ts : List D} {kvs : List (Key × V)} {u : Int} {n : Nat} (h : FoundOk ts kvs) (lt : n < ts.length) : FoundOk ts (putK kvs (.inl u) (vI n)) := by
  intro u' v e
  rw [valV_put] at e
  split at e
  · exact ⟨n, (Option.some.inj e).symm, lt⟩
  · exact h u' v e
theorem puts_len (f : Int → D) (ds : List D) : (puts f ds).length = ds.length := by rw [puts_map, List.length_map]
theorem fits_int {ts : List D} {kvs : List (Key × V)} {st : List (D × Nat)} {x : Str} {ds : List D} {u : Int} {n : Nat} (h : ts[n]? = some (.int u)) : ¬ Fits ts kvs (st ++ [(.tup (.str x :: ds), n)]) := by
  rintro ⟨f, h1, h2⟩
  have e := h2 (.tup (.str x :: ds), n) (List.mem_append_right _ List.mem_cons_self)
  simp only [h, putD] at e
  cases e
theorem fits_head {ts : List D} {kvs : List (Key × V)} {st : List (D × Nat)} {x y : Str} {ds es : List D} {n : Nat} (h : ts[n]? = some (.tup (.str y :: es))) (ne : y ≠ x ∨ es.length ≠ ds.length) : ¬ Fits ts kvs (st ++ [(.tup (.str x :: ds), n)]) := by
  rintro ⟨f, h1, h2⟩
  have e := h2 (.tup (.str x :: ds), n) (List.mem_append_right _ List.mem_cons_self)
  simp only [h, putD, putT] at e
  injection e with e
  injection e with e
  injection e with e1 e2
  rcases ne with ne | ne
  · injection e1 with e1
    exact ne e1
  · rw [e2, puts_len] at ne
    exact ne rfl
theorem ats_puts {ts : List D} {f : Int → D} : ∀ {js : List Nat} {es ds : List D}, Ats ts js es → ds.length = es.length → (puts f ds = es ↔ ∀ q ∈ ds.zip js, ts[q.2]? = some (putD f q.1))
  | _, _, [], .nil, _ => ⟨fun _ q h => (by cases h), fun _ => rfl⟩
  | j :: js, e :: es, d :: ds, .cons a at_, hl => by
    have ih := ats_puts (f := f) at_ (ds := ds) (Nat.succ.inj hl)
    rw [List.zip_cons_cons, puts]
    constructor
    · intro h q hq
      injection h with h1 h2
      rcases List.mem_cons.mp hq with rfl | hq
      · simp only [a, h1]
      · exact ih.mp h2 q hq
    · intro h
      have h1 := h (d, j) List.mem_cons_self
      simp only [a] at h1
      rw [ih.mpr fun q hq => h q (List.mem_cons_of_mem _ hq), ← Option.some.inj h1]
  | _, [], _ :: _, .nil, hl => nomatch hl
  | _ :: _, _ :: _, [], .cons _ _, hl => nomatch hl
theorem fits_tup {ts : List D} {kvs : List (Key × V)} {st : List (D × Nat)} {x : Str} {js : List Nat} {ds es : List D} {n : Nat} (h : ts[n]? = some (.tup (.str x :: es))) (at_ : Ats ts js es) (hl : ds.length = es.length) :
    Fits ts kvs (st ++ [(.tup (.str x :: ds), n)]) ↔ Fits ts kvs (st ++ ds.zip js) := by
  constructor
  · rintro ⟨f, h1, h2⟩
    refine ⟨f, h1, fun q hq => ?_⟩
    rcases List.mem_append.mp hq with hq | hq
    · exact h2 q (List.mem_append_left _ hq)
    · have e := h2 (.tup (.str x :: ds), n) (List.mem_append_right _ List.mem_cons_self)
      simp only [h, putD, putT] at e
      injection e with e
      injection e with e
      injection e with e1 e2
      exact (ats_puts at_ hl).mp e2.symm q hq
  · rintro ⟨f, h1, h2⟩
    refine ⟨f, h1, fun q hq => ?_⟩
    rcases List.mem_append.mp hq with hq | hq
    · exact h2 q (List.mem_append_left _ hq)
    · rw [List.mem_singleton.mp hq]
      have e := (ats_puts (f := f) at_ hl).mpr fun q hq => h2 q (List.mem_append_right _ hq)
      simp only [h, putD, putT, e]
theorem fits_start {ts : List D} {js : List Nat} {ds es : List D} (at_ : Ats ts js es) (hl : ds.length = es.length) : Fits ts [] (ds.zip js) ↔ ∃ f, puts f ds = es := by
  constructor
  · rintro ⟨f, h1, h2⟩
    exact ⟨f, (ats_puts at_ hl).mpr h2⟩
  · rintro ⟨f, h⟩
    exact ⟨f, fun u v e => (by cases e), (ats_puts at_ hl).mp h⟩
/-- all sizes of what is ahead -/
def aheadSize (st : List (D × Nat)) : Nat := sizes (st.map (·.1))
theorem aheadSize_app (a b : List (D × Nat)) : aheadSize (a ++ b) = aheadSize a + aheadSize b := by
  unfold aheadSize
  rw [List.map_append, sizes_app]
theorem aheadSize_one (d : D) (n : Nat) : aheadSize [(d, n)] = d.size := by
  unfold aheadSize
  simp [sizes]
theorem aheadSize_zip {ds : List D} {js : List Nat} (h : ds.length = js.length) : aheadSize (ds.zip js) = sizes ds := by
  unfold aheadSize
  rw [List.map_fst_zip (by omega)]
theorem aheadSize_len (st : List (D × Nat)) : st.length ≤ aheadSize st := by
  unfold aheadSize
  have := len_sizes (st.map (·.1))
  rw [List.length_map] at this
  exact this
/-- these places hold the pairs of a term and a number -/
def AheadAt (H0 H : Hp) (as : List Addr) (st : List (D × Nat)) : Prop := Paired (fun (t : Addr) (q : D × Nat) => ∃ v, H t = some (.tup [v, vI q.2]) ∧ Dv H0 v q.1) as st
theorem AheadAt.keep {H0 H H' : Hp} {as : List Addr} {st : List (D × Nat)} (h : AheadAt H0 H as st) (k : ∀ t xs, H t = some (.tup xs) → H' t = some (.tup xs)) : AheadAt H0 H' as st :=
  Paired.mapP h fun t q ⟨v, e, g⟩ => ⟨v, k _ _ e, g⟩
theorem paired_app {α β : Type} {F : α → β → Prop} : ∀ {as : List α} {bs : List β} {cs : List α} {ds : List β}, Paired F as bs → Paired F cs ds → Paired F (as ++ cs) (bs ++ ds)
  | _, _, _, _, .nil, h => h
  | _, _, _, _, .cons a b, h => .cons a (paired_app b h)
theorem paired_last {α β : Type} {F : α → β → Prop} {as : List α} {bs : List β} (h : Paired F as bs) (ne : as ≠ []) : ∃ a0 t b0 q, as = a0 ++ [t] ∧ bs = b0 ++ [q] ∧ Paired F a0 b0 ∧ F t q := by
  induction h with
  | nil => exact absurd rfl ne
  | @cons t q as bs a hb ih =>
    cases hb with
    | nil => exact ⟨[], t, [], q, rfl, rfl, .nil, a⟩
    | cons c d =>
      obtain ⟨a0, t', b0, q', e1, e2, e3, e4⟩ := ih (by simp)
      exact ⟨t :: a0, t', q :: b0, q', by rw [e1]; rfl, by rw [e2]; rfl, .cons a e3, e4⟩
theorem aheadAt_zip {H0 H : Hp} : ∀ {as : List Addr} {vs : List V} {ds : List D} {js : List Nat}, DvL H0 vs ds → ZpL.PairsAt H as (vs.zip (js.map vI)) → AheadAt H0 H as (ds.zip js)
  | as, _, _, _, .nil, h => by
    rw [List.zip_nil_left] at h ⊢
    cases h
    exact .nil
  | as, _ :: _, _ :: _, [], .cons _ _, h => by
    rw [List.map_nil, List.zip_nil_right] at h
    rw [List.zip_nil_right]
    cases h
    exact .nil
  | as, v :: vs, d :: ds, j :: js, .cons a b, h => by
    rw [List.map_cons, List.zip_cons_cons] at h
    rw [List.zip_cons_cons]
    cases h with
    | cons e r => exact .cons ⟨v, e, a⟩ (aheadAt_zip b r)
/-- fits, of terms and the numbers of nodes -/
def spFits (K : PySem.W.Frag) : Sp := fun vs H Q _ => ∃ (l nl kn : Addr) (as : List Addr) (st : List (D × Nat)) (bs : List Addr) (ts : List D), vs = [.ref l, .ref nl, .ref kn] ∧ H l = some (.lst (as.map V.ref)) ∧ AheadAt H H as st ∧ (∀ q ∈ st, Tm q.1 ∧ q.2 < ts.length) ∧ aheadSize st ≤ 100000 ∧
  H nl = some (.lst (bs.map V.ref)) ∧ Nodes H bs ts ∧ H kn = some (.dK []) ∧ ∀ (H' : Hp) (b : Bool), Same H H' → (b = true ↔ Fits ts [] st) → Q (.bl b) H'
end Fm
set_option maxRecDepth 100000
set_option maxHeartbeats 4000000
namespace K15
open PySem L2 Fm
section
variable {P : Program} {w : World} {K : PySem.W.Frag} {mg : Str → Option Value} {base : Heap} (T : Txt K mg)
theorem ok_fits : FnOk P w K mg base CX0 1 T.a_fits T.d_fits ["pairs", "nodes", "known"] (spFits K) := by
  refine T.F_fits.ok sc_fits ?_ (fun cdv A outer s H vs Q E hr h => ?_)
  · rintro vs H Q E ⟨l, nl, kn, as, st, bs, ts, rfl, _⟩
    rfl
  obtain ⟨l, nl, kn, as, st, bs, ts, rfl, hl, ha, hst, hz, hnl, N, hkn, q⟩ := h
  refine ⟨_, 
    (pss_cons (ps_set (i := 3) sc_fits.nd rfl (Or.inl rfl) (pe_callTy call_dictD (by rfl) T.m_dict (by decide +kernel) (pa_cons (pv 2) pa_nil)))
    (pss_cons (ps_set (i := 4) sc_fits.nd rfl (Or.inl rfl) (pe_callTy call_list_of (by rfl) T.m_list (by decide +kernel) (pa_cons (pv 0) pa_nil)))
    (pss_cons (ps_while PassesOwn.never (pt_truth (pv 4) (by intro _; rfl)) (pss_cons (ps_asg (pe_bm0 PySem.F.plainAttrs_list PySem.F.slot_list_pop PySem.F.type_list_pop mt_pop (pv 4)) (pg_tup rfl (pgs_cons (pg_name (i := 5) sc_fits.nd rfl (Or.inl rfl)) (pgs_cons (pg_name (i := 6) sc_fits.nd rfl (Or.inl rfl)) pgs_nil)))) (pss_one (ps_if (pt_val (pe_isD (fun _ => kit_T) T.m_isinstance (pv 5) (pe_bltn (v := .ty "tuple") (u := .type "tuple") (by rfl) T.m_tuple (by decide +kernel) rfl) mon_var)) (pss_cons (ps_set (i := 7) sc_fits.nd rfl (Or.inl rfl) (pe_ix ix_list (pv 1) (pv 6) (fun _ _ => rfl))) (pss_cons (ps_if (PW.pt (pw_or (pt_cmpR op_ne (pe_ix ix_tup (pv 7) pe_int (fun _ _ => rfl)) (pe_ix ix_tup (pv 5) pe_int (fun _ _ => rfl)) (nomark _)) (pw_or1 (pt_cmpR op_ne (pe_callB call_len_seq (by rfl) T.m_len (by decide +kernel) (pa_cons (pv 7) pa_nil)) (pe_callB call_len_seq (by rfl) T.m_len (by decide +kernel) (pa_cons (pv 5) pa_nil)) (nomark _))))) (pss_one (ps_ret pe_bl)) pss_nil) (pss_one (ps_expr (pe_bm PySem.F.plainAttrs_list PySem.F.slot_list_extend PySem.F.type_list_extend mt_extend (pv 4) (pa_cons (ZpL.pe_listZip rfl (pa_cons (pe_slice sl_tupA (pv 5) (po_some pe_int) po_none) (pa_cons (pe_slice sl_tupA (pv 7) (po_some pe_int) po_none) pa_nil)) (by rfl) T.m_list (by rfl) T.m_zip (by decide +kernel)) pa_nil)))))) (pss_one (ps_if (pt_cmpR op_ne (pe_dsetd (pv 3) (pv 5) (pv 6) ⟨by rfl, by rfl, by rfl, by rfl⟩) (pv 6) (nomark _)) (pss_one (ps_ret pe_bl)) pss_nil))))))
    (pss_one (ps_ret pe_bl))))), ?_⟩
  refine ⟨_, rfl, kn, [], rfl, .inl hkn, fun nf hnf => ?_⟩
  have k0 : Same H (upd H nf (.dK [])) := Same.new hnf
  refine ⟨_, rfl, l, _, rfl, .inl (SqL.of (k0 _ _ hl)), fun la hla => ?_⟩
  have n1 : nf ≠ la := fun e => by
    rw [← e, upd_same] at hla
    cases hla
  have hlaH : H la = none := by
    rw [upd_ne (Ne.symm n1)] at hla
    exact hla
  have k1 : Same H (upd (upd H nf (.dK [])) la (.lst (as.map V.ref))) := k0.trans (Same.new hla)
  have lb := N.len
  refine ⟨fun m σ H' => ∃ as' st' kvs o5 o6 o7, σ = [some (.ref l), some (.ref nl), some (.ref kn), some (.ref nf), some (.ref la), o5, o6, o7] ∧ Same H H' ∧ H' la = some (.lst (as'.map V.ref)) ∧ H' nf = some (.dK kvs) ∧ AheadAt H H' as' st' ∧
      (∀ q ∈ st', Tm q.1 ∧ q.2 < ts.length) ∧ FoundOk ts kvs ∧ m = aheadSize st' ∧ kvs.length + m ≤ 100000 ∧ (Fits ts kvs st' ↔ Fits ts [] st),
    ⟨_, as, st, [], none, none, none, rfl, k1, upd_same, by rw [upd_ne n1]; exact upd_same, ha.keep fun t xs e => k1 _ _ e, hst, fun _ _ e => (by cases e), rfl, by simpa using hz, Iff.rfl⟩, ?_⟩
  rintro m σ H' ⟨as', st', kvs, o5, o6, o7, rfl, k, h1, h2, h3, h4, h5, rfl, h6, h7⟩
  refine ⟨_, rfl, !as'.isEmpty, .inl ⟨as'.map V.ref, SqL.of h1, by simp⟩, ite_b (fun c => ?_) (fun c => ?_)⟩
  · have ne : as' ≠ [] := by
      rintro rfl
      simp at c
    obtain ⟨a0, t, st0, ⟨d, n⟩, rfl, rfl, h8, v, ht, hv⟩ := paired_last h3 ne
    have hv : Dv H v d := hv
    have ht : H' t = some (.tup [v, vI n]) := ht
    obtain ⟨tm, ln⟩ := h4 (d, n) (List.mem_append_right _ List.mem_cons_self)
    have tm : Tm d := tm
    have ln : n < ts.length := ln
    have h9 : ∀ q ∈ st0, Tm q.1 ∧ q.2 < ts.length := fun q hq => h4 q (List.mem_append_left _ hq)
    have zs := aheadSize_app st0 [(d, n)]
    rw [aheadSize_one] at zs
    have pd := size_pos d
    refine ⟨fun σ' H2 => ∃ m', m' < aheadSize (st0 ++ [(d, n)]) ∧ ∃ as' st' kvs o5 o6 o7, σ' = [some (.ref l), some (.ref nl), some (.ref kn), some (.ref nf), some (.ref la), o5, o6, o7] ∧ Same H H2 ∧ H2 la = some (.lst (as'.map V.ref)) ∧ H2 nf = some (.dK kvs) ∧ AheadAt H H2 as' st' ∧
      (∀ q ∈ st', Tm q.1 ∧ q.2 < ts.length) ∧ FoundOk ts kvs ∧ m' = aheadSize st' ∧ kvs.length + m' ≤ 100000 ∧ (Fits ts kvs st' ↔ Fits ts [] st), fun _ _ x => x, ?_⟩
    have la1 : (a0 ++ [t]).map V.ref = a0.map V.ref ++ [V.ref t] := by rw [List.map_append]; rfl
    rw [la1] at h1
    have k2 : Same H (upd H' la (.lst (a0.map V.ref))) := Same.upd k hlaH
    have nt : t ≠ la := fun e => by
      rw [e, h1] at ht
      cases ht
    have nfl : nf ≠ la := n1
    refine ⟨_, rfl, .inl ⟨rfl, _, SqL.of h1⟩, la, _, V.ref t, rfl, rfl, h1, ?_, ?_⟩
    · simp
    rw [List.dropLast_concat]
    have hla2 : (upd H' la (.lst (a0.map V.ref))) la = some (.lst (a0.map V.ref)) := upd_same
    have hnf2 : (upd H' la (.lst (a0.map V.ref))) nf = some (.dK kvs) := by rw [upd_ne nfl]; exact h2
    have ht2 : (upd H' la (.lst (a0.map V.ref))) t = some (.tup [v, vI n]) := by rw [upd_ne nt]; exact ht
    have h82 : AheadAt H (upd H' la (.lst (a0.map V.ref))) a0 st0 := AheadAt.keep (H := H') h8 fun t' xs e => by
      rw [upd_ne (fun z => by rw [z, h1] at e; cases e)]
      exact e
    generalize upd H' la (.lst (a0.map V.ref)) = H2 at k2 hla2 hnf2 ht2 h82 ⊢
    refine ⟨t, _, rfl, SqT.of ht2, rfl, _, _, rfl, _, _, rfl, rfl, ?_⟩
    refine ⟨_, rfl, d, hv.same k2 _ _, _, rfl, ite_b (fun ct => ?_) (fun ct => ?_)⟩
    · obtain ⟨x, rs, rfl⟩ : ∃ x rs, d = .tup (.str x :: rs) := by
        cases tm with
        | int u => cases ct
        | tup x rs _ => exact ⟨x, rs, rfl⟩
      cases hv with
      | @tup b us _ hb hus =>
      cases hus with
      | @cons w0 wr _ _ hw0 hwr =>
      cases hw0 with
      | str _ ox =>
      have lwr := hwr.len
      have hbn : bs[n]? = some bs[n] := List.getElem?_eq_getElem (by omega)
      have htn : ts[n]? = some ts[n] := List.getElem?_eq_getElem ln
      obtain ⟨key, hk, ky⟩ := N.node n _ _ hbn htn
      have hbn' : (bs.map V.ref)[n]? = some (V.ref bs[n]) := by rw [List.getElem?_map, hbn]; rfl
      refine ⟨_, rfl, _, rfl, nl, _, _, _, rfl, rfl, SqL.of (k2 _ _ hnl), atI_nat hbn', ?_⟩
      generalize bs[n] = bn at hk hbn hbn' ⊢
      generalize ts[n] = tn at htn ky
      have hb2 := k2 _ _ hb
      have hk2 := k2 _ _ hk
      have no : ¬ Fits ts [] st → Q (.bl false) H2 := fun z => q H2 false k2 ⟨fun e => (by cases e), fun e => absurd e z⟩
      cases ky with
      | int u =>
        refine ⟨_, rfl, bn, _, 0, _, rfl, rfl, SqT.of hk2, atI_nat (j := 0) rfl, _, rfl, b, _, 0, _, rfl, rfl, SqT.of hb2, atI_nat (j := 0) rfl, rfl, ?_⟩
        refine ⟨_, rfl, ite_b (fun c1 => iteT (no fun z => fits_int htn (h7.mpr z))) (fun c1 => ?_)⟩
        have c2 : (!decide ((V.int u : V) = V.str x)) = false := c1
        have c3 : (V.int u : V) = V.str x := by simpa using c2
        cases c3
      | tup y js es oy zd at_ =>
        have hk3 : H2 bn = some (.tup (V.str y :: js.map vI)) := by
          have h0 := hk2
          rw [List.map_cons, kV_kI] at h0
          exact h0
        refine ⟨_, rfl, bn, _, 0, _, rfl, rfl, SqT.of hk3, atI_nat (j := 0) rfl, _, rfl, b, _, 0, _, rfl, rfl, SqT.of hb2, atI_nat (j := 0) rfl, rfl, ?_⟩
        have ljs := at_.len
        have la2 := (at_.mono (us := ts) fun _ _ => take_get)
        refine ⟨_, rfl, ite_b (fun c1 => iteT (no fun z => ?_)) (fun c1 => ?_)⟩
        · have ne : y ≠ x := fun e => by
            rw [e] at c1
            simp at c1
          exact fits_head htn (.inl ne) (h7.mpr z)
        have exy : y = x := by
          have : (V.str y : V) = V.str x := by simpa using c1
          injection this
        subst exy
        refine ⟨_, rfl, bn, _, rfl, .inr (SqT.of hk3), _, rfl, b, _, rfl, .inr (SqT.of hb2), rfl, ?_⟩
        refine ⟨_, rfl, ite_b (fun c2 => no fun z => ?_) (fun c2 => ?_)⟩
        · have ne : es.length ≠ rs.length := fun e => by
            simp only [List.length_cons, List.length_map, ljs, e, lwr] at c2
            simp at c2
          exact fits_head htn (.inr ne) (h7.mpr z)
        have el : rs.length = es.length := by
          have : (V.int (((V.str y :: js.map vI).length : Nat) : Int)) = V.int (((V.str y :: wr).length : Nat) : Int) := by simpa using c2
          injection this with this
          simp only [List.length_cons, List.length_map, ljs, lwr] at this
          omega
        obtain ⟨u1, u2⟩ := cutV_one (V.str y :: wr) (by simp)
        obtain ⟨u3, u4⟩ := cutV_one (V.str y :: js.map vI) (by simp)
        refine ⟨_, rfl, .inl ⟨rfl, _, SqL.of hla2⟩, _, rfl, _, rfl, b, _, rfl, SqT.of hb2, fun z => absurd z u2, fun _ p hp => ?_⟩
        rw [u1]
        have k3 : Same H2 (upd H2 p (.tup wr)) := Same.new hp
        refine ⟨_, rfl, _, rfl, bn, _, rfl, SqT.of (k3 _ _ hk3), fun z => absurd z u4, fun _ p2 hp2 => ?_⟩
        rw [u3]
        have k4 : Same H2 (upd (upd H2 p (.tup wr)) p2 (.tup (js.map vI))) := k3.trans (Same.new hp2)
        refine ⟨p, p2, _, _, rfl, .inr (SqT.of (Same.new hp2 _ _ upd_same)), .inr (SqT.of upd_same), fun H3 lz zl kk hz0 hzs hnl2 ndz hlz hpr => ?_⟩
        have hpr : ZpL.PairsAt H3 zl (wr.zip (js.map vI)) := hpr
        have k5 : Same H2 H3 := k4.trans kk
        have hla3 := k5 _ _ hla2
        have lzs : zl.length = (rs.zip js).length := by
          have := Paired.length hpr
          rw [this, List.length_zip, List.length_zip, List.length_map, lwr]
        have la0 := Paired.length h82
        have lst0 := aheadSize_len st0
        have lrj := aheadSize_zip (ds := rs) (js := js) (by omega)
        have lrj2 := aheadSize_len (rs.zip js)
        simp only [D.size, sizes] at zs pd
        have app := aheadSize_app st0 (rs.zip js)
        refine ⟨la, lz, _, _, rfl, rfl, hla3, hlz, ?_, aheadSize (st0 ++ rs.zip js), ?_, a0 ++ zl, st0 ++ rs.zip js, kvs, _, _, _, rfl, Same.upd (k2.trans k5) hlaH, ?_, ?_, ?_, ?_, h5, rfl, ?_, ?_⟩
        · rw [List.length_map, List.length_map]
          exact sz (by omega)
        · omega
        · rw [List.map_append]
          exact upd_same
        · rw [upd_ne nfl]
          exact k5 _ _ hnf2
        · refine paired_app (AheadAt.keep (H := H2) h82 fun t' xs e => ?_) (AheadAt.keep (H := H3) (aheadAt_zip hwr hpr) fun t' xs e => ?_)
          · rw [upd_ne (fun z => by rw [z, hla2] at e; cases e)]
            exact k5 _ _ e
          · rw [upd_ne (fun z => by rw [z, hla3] at e; cases e)]
            exact e
        · intro q' hq'
          rcases List.mem_append.mp hq' with hq' | hq'
          · exact h9 q' hq'
          · obtain ⟨m1, m2⟩ := List.of_mem_zip hq'
            cases tm with
            | tup _ _ htm => exact ⟨htm _ m1, ats_sub la2 _ m2⟩
        · omega
        · rw [← h7]
          exact (fits_tup htn la2 el).symm
    · obtain ⟨u, rfl⟩ : ∃ u, d = .int u := by
        cases tm with
        | int u => exact ⟨u, rfl⟩
        | tup x rs _ => cases ct
      cases hv
      refine ⟨_, rfl, nf, rfl, .inl ⟨_, .inl hnf2⟩, _, rfl, _, rfl, kvs, .inl u, hnf2, rfl, ?_, fun v0 hv0 => ?_, fun hv0 => ?_⟩
      · exact szl (by omega)
      · obtain ⟨m, rfl, lm⟩ := h5 u v0 hv0
        refine ⟨_, rfl, rfl, _, rfl, ite_b (fun c1 => ?_) (fun c1 => ?_)⟩
        · have ne : m ≠ n := fun e => by
            rw [e] at c1
            simp at c1
          exact q H2 false k2 ⟨fun e => (by cases e), fun e => absurd (h7.mpr e) (fits_other N.nd hv0 ne)⟩
        · have e : m = n := vI_inj (by simpa using c1)
          subst e
          simp only [D.size] at zs
          exact ⟨aheadSize st0, by omega, a0, st0, kvs, _, _, _, rfl, k2, hla2, hnf2, h82, h9, h5, rfl, by omega, (fits_same hv0).symm.trans h7⟩
      · refine ⟨_, rfl, rfl, _, rfl, ite_b (fun c1 => ?_) (fun c1 => ?_)⟩
        · simp at c1
        · simp only [D.size] at zs
          have lp := length_putK kvs (.inl u) (vI n)
          refine ⟨aheadSize st0, by omega, a0, st0, _, _, _, _, rfl, Same.upd k2 hnf, ?_, upd_same, ?_, h9, foundOk_new h5 ln, rfl, by omega, (fits_new hv0).symm.trans h7⟩
          · rw [upd_ne (Ne.symm nfl)]
            exact hla2
          · refine AheadAt.keep (H := H2) h82 fun t' xs e => ?_
            rw [upd_ne (fun z => by rw [z, hnf2] at e; cases e)]
            exact e
  · have e0 : as' = [] := by simpa using c
    subst e0
    cases h3
    exact q _ true k ⟨fun _ => h7.mp (fits_nil h5), fun _ => rfl⟩
end
end K15
set_option maxRecDepth 100000
set_option maxHeartbeats 4000000
namespace K15
open PySem L2 Fm
section
variable {P : Program} {w : World} {K : PySem.W.Frag} {mg : Str → Option Value} {base : Heap} (T : Txt K mg)
/-- a Pattern of these terms -/
def PatAt (C : Addr) (H : Hp) (x : Addr) (ds : List D) : Prop := ∃ dx p us, H x = some (.ins C dx (putF "_terms" (.ref p) [])) ∧ H p = some (.tup us) ∧ DvL H us ds
mutual
theorem Dv.keepT {H H' : Hp} (k : ∀ b xs, H b = some (.tup xs) → H' b = some (.tup xs)) : ∀ (d : D) (v : V), Tm d → Dv H v d → Dv H' v d
  | .non, _, _, h => by cases h; exact .non
  | .bl _, _, _, h => by cases h; exact .bl _
  | .int _, _, _, h => by cases h; exact .int _
  | .str _, _, _, h => by
    cases h with
    | str _ o => exact .str _ o
  | .tup ds, _, t, h => by
    cases h with
    | tup a b =>
      refine .tup (k _ _ a) ?_
      cases t with
      | tup x rs htm =>
      cases b with
      | cons b1 b2 =>
      cases b1 with
      | str _ o => exact .cons (.str _ o) (DvL.keepT k rs _ htm b2)
  | .lst _, _, t, _ => by cases t
  | .dic, _, t, _ => by cases t
theorem DvL.keepT {H H' : Hp} (k : ∀ b xs, H b = some (.tup xs) → H' b = some (.tup xs)) : ∀ (ds : List D) (vs : List V), (∀ d ∈ ds, Tm d) → DvL H vs ds → DvL H' vs ds
  | [], _, _, h => by cases h; exact .nil
  | d :: ds, _, t, h => by
    cases h with
    | cons a b => exact .cons (Dv.keepT k d _ (t _ List.mem_cons_self) a) (DvL.keepT k ds _ (fun e he => t e (List.mem_cons_of_mem _ he)) b)
end
mutual
theorem tm_putD {f : Int → D} (hf : ∀ u, Tm (f u)) : ∀ d : D, Tm d → Tm (putD f d)
  | .int u, _ => hf u
  | .tup [], t => by cases t
  | .tup (x :: rs), t => by
    cases t with
    | tup y _ h => exact .tup y _ (tm_puts hf rs h)
  | .non, t => by cases t
  | .bl _, t => by cases t
  | .str _, t => by cases t
  | .lst _, t => by cases t
  | .dic, t => by cases t
theorem tm_puts {f : Int → D} (hf : ∀ u, Tm (f u)) : ∀ ds : List D, (∀ d ∈ ds, Tm d) → ∀ e ∈ puts f ds, Tm e
  | [], _, e, h => by cases h
  | d :: ds, t, e, h => by
    rw [puts] at h
    rcases List.mem_cons.mp h with z | h
    · rw [z]
      exact tm_putD hf d (t _ List.mem_cons_self)
    · exact tm_puts hf ds (fun x hx => t x (List.mem_cons_of_mem _ hx)) e h
end
theorem tm_num (ds : List D) (u : Int) : Tm (numF ds u) := .int _
mutual
theorem tm_of_isTerm : ∀ d : D, isTerm d = true → Tm d
  | .int i, _ => .int i
  | .tup [], h => by simp [isTerm, isTermT] at h
  | .tup (x :: rs), h => by
    simp only [isTerm, isTermT, Bool.and_eq_true] at h
    obtain ⟨⟨_, h1⟩, h2⟩ := h
    cases x with
    | str y => exact .tup y rs (tms_of_are rs h2)
    | _ => simp [isName] at h1
  | .non, h => by simp [isTerm] at h
  | .bl _, h => by simp [isTerm] at h
  | .str _, h => by simp [isTerm] at h
  | .lst _, h => by simp [isTerm] at h
  | .dic, h => by simp [isTerm] at h
theorem tms_of_are : ∀ ds : List D, areTerms ds = true → ∀ d ∈ ds, Tm d
  | [], _, d, h => by cases h
  | x :: ds, h, d, hd => by
    simp only [areTerms, Bool.and_eq_true] at h
    rcases List.mem_cons.mp hd with e | hd
    · rw [e]
      exact tm_of_isTerm x h.1
    · exact tms_of_are ds h.2 d hd
end
/-- Wrong(0) -/
def Wrong0 (C : Addr) (H : Hp) (E : XK) : Prop := ∀ d H', Same H H' → H d = none → H' d = some (.xd [(("place" : Str), V.int 0)]) → E (.ref C) (some d) H'
theorem tyx_same {H H' : Hp} (k : Same H H') {v : V} {t : Value} (h : TyX K H v t) : TyX K H' v t := by
  cases h with
  | base b =>
    cases b with
    | non => exact .base .non
    | bl y => exact .base (.bl y)
    | int i => exact .base (.int i)
    | str y => exact .base (.str y)
    | flt y => exact .base (.flt y)
    | lst e => exact .base (.lst (k _ _ e))
    | frz e => exact .base (.frz (k _ _ e))
    | tup e => exact .base (.tup (k _ _ e))
    | dK e => exact .base (.dK (k _ _ e))
    | dT e => exact .base (.dT (k _ _ e))
    | ins e a b c d f => exact .base (.ins (k _ _ e) a b c d f)
  | byt y => exact .byt y
  | set e => exact .set (k _ _ e)
  | kList e c => exact .kList e c
  | kTuple e c => exact .kTuple e c
  | kDict e c => exact .kDict e c
  | fTuple e => exact .fTuple (k _ _ e)
  | fDict e => exact .fDict (k _ _ e)
def spInit : Sp := fun vs H Q E => ∃ (x dx : Addr) (v : V), vs = [.ref x, v] ∧ H x = some (.ins T.C_Pattern dx []) ∧
  ((∃ a us ds, v = .ref a ∧ a ≠ x ∧ (H a = some (.lst us) ∨ H a = some (.tup us)) ∧ DvL H us ds ∧ sizes ds ≤ 100000 ∧ deeps ds ≤ 100 ∧
      (areTerms ds = true → ∀ H', (∀ b o, H b = some o → b ≠ x → H' b = some o) → PatAt T.C_Pattern H' x (puts (numF ds) ds) → Q .non H') ∧ (areTerms ds = false → Wrong0 T.C_Wrong H E)) ∨
    ∃ t, TyX K H v t ∧ PySem.W.kitAny K t [.type "list", .type "tuple"] = some false ∧ Wrong0 T.C_Wrong H E)
theorem ok_Pattern_init : FnOk P w K mg base (L2.CX P w) 6 T.a_Pattern_init T.d_Pattern_init ["self", "terms"] (spInit T) := by
  have G_are_terms := ok_are_terms (P := P) (w := w) (base := base) T
  have G_numbered := ok_numbered (P := P) (w := w) (base := base) T
  refine T.F_Pattern_init.okX sc_Pattern_init ?_ (fun cdv A outer s H vs Q E hr h => ?_)
  · rintro vs H Q E ⟨x, dx, v, rfl, _⟩
    rfl
  obtain ⟨x, dx, v, rfl, hx, h⟩ := h
  refine ⟨_, 
    (pss_cons (ps_if (pt_not (PW.pt (pw_and (pt_val (pe_callB call_isiT (by rfl) T.m_isinstance (by decide +kernel) (pa_cons (pv 1) (pa_cons (pe_tup (pa_cons (pe_bltn (v := .ty "list") (u := .type "list") (by rfl) T.m_list (by decide +kernel) rfl) (pa_cons (pe_bltn (v := .ty "tuple") (u := .type "tuple") (by rfl) T.m_tuple (by decide +kernel) rfl) pa_nil))) pa_nil)))) (pw_and1 (pt_val (pe_call G_are_terms (hr.mono (by omega)) (by rfl) T.f_are_terms T.F_are_terms.kp T.b_are_terms .nil pass0 (pa_cons (pv 1) pa_nil))))))) (pss_one (ps_raiseLow_place rfl T.e_Wrong hr (takes_of rfl rfl rfl rfl) (pa_cons pe_int pa_nil) (by rfl) (by decide))) pss_nil)
    (pss_one (ps_fld (pv 0) (pe_callTy call_tuple_of (by rfl) T.m_tuple (by decide +kernel) (pa_cons (pe_call G_numbered (hr.mono (by omega)) (by rfl) T.f_numbered T.F_numbered.kp T.b_numbered .nil pass0 (pa_cons (pv 1) pa_nil)) pa_nil)) rfl))), ?_⟩
  rcases h with ⟨a, us, ds, rfl, nax, ha, hd, hz, hp, hq, he⟩ | ⟨t, ty, hk, he⟩
  · refine ⟨_, rfl, by (show 2 ≤ sizeLine; decide), fun tp htp => ?_⟩
    have k1 : Same H (upd H tp (.tup [.ty "list", .ty "tuple"])) := Same.new htp
    obtain ⟨t, ty, hk⟩ : ∃ t, TyX K (upd H tp (.tup [.ty "list", .ty "tuple"])) (.ref a) t ∧ PySem.W.kitAny K t [.type "list", .type "tuple"] = some true := by
      rcases ha with ha | ha
      · exact ⟨_, .base (.lst (k1 _ _ ha)), rfl⟩
      · exact ⟨_, .base (.tup (k1 _ _ ha)), rfl⟩
    have hs : SqL K H a us ∨ SqT K H a us := ha.imp SqL.of SqT.of
    refine ⟨_, tp, _, t, _, true, rfl, upd_same, .cons (.ty _) (.cons (.ty _) .nil), ty, hk, true, rfl, ite_b (fun _ => ?_) (fun c => nomatch c)⟩
    refine ⟨_, rfl, a, us, ds, rfl, hs.imp (Evl.ex_l k1) (Evl.ex_t k1), hd.same k1 _ _, hz, hp, fun H2 k2 => ⟨_, rfl, ite_b (fun c => ?_) (fun c => ?_)⟩⟩
    · have e : areTerms ds = false := by simpa using c
      exact ⟨_, rfl, fun d hd => he e d _ ((k1.trans k2).trans (Same.new hd)) (Same.none (k1.trans k2) hd) upd_same⟩
    · have e : areTerms ds = true := by simpa using c
      have htm := tms_of_are ds e
      have k3 := k1.trans k2
      refine ⟨_, rfl, a, us, ds, rfl, hs.imp (Evl.ex_l k3) (Evl.ex_t k3), hd.same k3 _ _, htm, hz, fun m H3 ws k4 hm0 hm hws => ?_⟩
      have k5 := k3.trans k4
      refine ⟨m, ws, rfl, .inl ⟨SqL.of hm, fun p hp2 => ?_⟩⟩
      have k6 : Same H (upd H3 p (.tup ws)) := k5.trans (Same.new hp2)
      refine ⟨_, rfl, x, _, dx, _, rfl, k6 _ _ hx, T.cl_Pattern, T.na_Pattern__terms, by decide, ?_⟩
      have npx : p ≠ x := fun z => by
        rw [z, k5 _ _ hx] at hp2
        cases hp2
      refine hq e _ (fun b o hb nb => by rw [upd_ne nb]; exact k6 _ _ hb) ⟨dx, p, ws, upd_same, by rw [upd_ne npx]; exact upd_same, ?_⟩
      refine DvL.keepT (H := H3) (fun b xs hb => ?_) _ _ (tm_puts (tm_num ds) ds htm) hws.un
      have nbx : b ≠ x := fun z => by
        rw [z, k5 _ _ hx] at hb
        cases hb
      rw [upd_ne nbx]
      exact Same.new hp2 _ _ hb
  · refine ⟨_, rfl, by (show 2 ≤ sizeLine; decide), fun tp htp => ?_⟩
    have k1 : Same H (upd H tp (.tup [.ty "list", .ty "tuple"])) := Same.new htp
    refine ⟨_, tp, _, t, _, false, rfl, upd_same, .cons (.ty _) (.cons (.ty _) .nil), tyx_same k1 ty, hk, false, rfl, ite_b (fun c => nomatch c) (fun _ => ?_)⟩
    exact ite_b (fun _ => ⟨_, rfl, fun d hd => he d _ (k1.trans (Same.new hd)) (Same.none k1 hd) upd_same⟩) (fun c => nomatch c)
end
end K15
set_option maxRecDepth 100000
set_option maxHeartbeats 2000000
/-! {x!r} of data; repr of an instance whose own __repr__ wants no guards -/
namespace Fm
open PySem PySem.Spec PyProof.Rows L2
section
variable {X : Cx}
/-- {x!r}, x a list or a tuple of data -/
def tFmtRD (K : PySem.W.Frag) (te : TE) : TE := fun σ H Q => te σ H fun x H1 => ∃ (a : Addr) (d : PyData), x = .ref a ∧ Dp K H1 x d ∧ d.showable = true ∧ d.hasDict = false ∧ d.depth ≤ 60 ∧ d.shown.length ≤ sizeLine ∧ Q (.str d.shown) H1
theorem pe_fmtRD {e : Expr} {te : TE} {pos : Pos} {k : Nat} (hr : Room k X.A) (gd : X.A.guards = some []) (he : PE X e te) : PE X (.FormattedValue e 114 none pos) (tFmtRD X.K te) := by
  refine ⟨fun pins s σ H Q I h => ?_⟩
  refine wpAny_FormattedValue_repr (thn (he.run pins s σ H _ I h) fun v s1 hv => ?_)
  obtain ⟨x, H1, I1, r1, a, d, rfl, hd, hs, hn, hz, hl, q⟩ := hv
  obtain ⟨as, rd⟩ := Dp.reads I1 d (.ref a) v hd r1
  cases (show v = Value.ref a from r1)
  have hu := hr.units
  refine pyReprObj_of_reads rd hs (PyData.noDict_hsm hn) gd (by omega) (fun _ _ e => e) (fun h' u tk hk => ?_) hl
  have I2 : Inv X pins σ H1 { s1 with heap := h', toks := tk } := I1.un (t' := tk) (Un.kept hk) (I1.hok.kept hk)
  exact wpAny_formatField_str ⟨.str d.shown, H1, I2, ⟨u, rfl⟩, q⟩ ⟨.str d.shown, H1, I2.tok _, ⟨_, rfl⟩, q⟩ hl
variable {C f : Addr} {fd : FuncData} {ps : List Str} {sp : Sp} {k : Nat}
/-- repr(x), x an instance of C whose own __repr__ wants no guards -/
theorem call_reprOwnG (F : FnG X.prog X.w X.K X.mg X.base k f fd ps sp) (hs : PySem.W.findIn X.K (.ref C) "__repr__" = some (some (.ref f))) (hf : PySem.W.isFn X.K (.ref f) = true) (hb : Binds X.K fd ps []) (hr : Room (k + 1) X.A) (gd : X.A.guards = some []) : CallR X (.builtin "repr") (rOwnRepr C sp E0) := by
  intro pins s σ H xs us Q I r hq
  obtain ⟨a, dx, fs, rfl, ha, hsp⟩ := hq
  obtain rfl := Vals.ref1 r
  obtain ⟨mA, J, _⟩ := ins_get I.hok ha
  obtain ⟨od, J, _⟩ := J.look
  obtain ⟨m, hF⟩ := I.fr
  have r2 : Vals [V.ref a] [Value.ref a] := .cons rfl .nil
  have n1 := F.many _ _ _ _ hsp
  have b1 := hb s [.ref a] I.kIn (by simpa using n1)
  rw [List.append_nil] at b1
  refine PySem.W.repr_K (by have := hr.un; show X.A.units + 1 < cLine; omega) hF I.ok.mod.kin J hs hf (wpAny_call (codeAny_mono (F.runs X.A.in1 X.stack s H ⟨[.ref a], []⟩ [.ref a] [.ref a] _ hr.in1 gd (env0_in1 I) b1 r2 hsp) fun res s' hq => ?_))
  cases res with
  | error e => exact False.elim hq
  | ok fl =>
    cases fl with
    | ret u =>
      obtain ⟨z, H', I', rz, x, rfl, q⟩ := I.after hq
      obtain ⟨t, rfl⟩ := rz
      exact ⟨.str x, H', I', ⟨_, rfl⟩, q⟩
    | next => exact False.elim hq
    | brk => exact False.elim hq
    | cont => exact False.elim hq
end
end Fm
set_option maxRecDepth 100000
set_option maxHeartbeats 2000000
namespace Fm
open PySem PySem.Spec PyProof.Rows L2
/-- the first place of a keep at which a term stands -/
noncomputable def kAt (es : List D) (ks : List Nat) (d : D) : Option Nat := ks.find? fun a => open Classical in decide (es[a]? = some d)
def isNon : D → Bool
  | .non => true
  | _ => false
mutual
/-- what is built of a term, or nothing -/
def blt (k : D → Option Nat) : D → D
  | .tup (x :: ps) => match k (.tup (x :: ps)) with
    | some a => .int (a : Int)
    | none => if (blts k ps).any isNon then .non else .tup (x :: blts k ps)
  | d => match k d with
    | some a => .int (a : Int)
    | none => .non
def blts (k : D → Option Nat) : List D → List D
  | [] => []
  | d :: r => blt k d :: blts k r
end
theorem blts_map (k : D → Option Nat) (ds : List D) : blts k ds = ds.map (blt k) := by
  induction ds with
  | nil => rfl
  | cons d r ih => simp only [blts, List.map_cons, ih]
theorem blt_some {k : D → Option Nat} {d : D} {a : Nat} (h : k d = some a) : blt k d = .int (a : Int) := by
  unfold blt
  split
  · rw [h]
  · rw [h]
theorem blt_int {k : D → Option Nat} {u : Int} (h : k (.int u) = none) : blt k (.int u) = .non := by
  unfold blt
  rw [h]
theorem blt_tup {k : D → Option Nat} {x : D} {ps : List D} (h : k (.tup (x :: ps)) = none) : blt k (.tup (x :: ps)) = if (blts k ps).any isNon then .non else .tup (x :: blts k ps) := by
  unfold blt
  rw [h]
theorem kAt_some {es : List D} {ks : List Nat} {d : D} {a : Nat} (h : kAt es ks d = some a) : a ∈ ks ∧ es[a]? = some d := by
  unfold kAt at h
  refine ⟨List.mem_of_find?_eq_some h, ?_⟩
  have := List.find?_some h
  simpa using this
theorem kAt_none {es : List D} {ks : List Nat} {d : D} (h : kAt es ks d = none) : ∀ a ∈ ks, es[a]? ≠ some d := by
  unfold kAt at h
  intro a ha
  have := List.find?_eq_none.mp h a ha
  simpa using this
theorem kAt_snoc (es : List D) (ks : List Nat) (a : Nat) (d : D) : kAt es (ks ++ [a]) d = (kAt es ks d).or (open Classical in if es[a]? = some d then some a else none) := by
  unfold kAt
  rw [List.find?_append]
  congr 1
  by_cases h : es[a]? = some d
  · rw [List.find?_cons_of_pos (by simpa using h), if_pos h]
  · rw [List.find?_cons_of_neg (by simpa using h), if_neg h]
    rfl
theorem D.size_pos (d : D) : 1 ≤ d.size := by
  cases d <;> simp [D.size]
/-- what is built, put together, is the term again; its unknowns are kept places; it is a term -/
structure Bltd (es : List D) (ks : List Nat) (d : D) : Prop where
  tm : Tm (blt (kAt es ks) d)
  put : putD (fun u => es.getD u.toNat (.int 0)) (blt (kAt es ks) d) = d
  at_ : ∀ i ∈ intsIn (blt (kAt es ks) d), ∃ a ∈ ks, i = (a : Int)
  sz : (blt (kAt es ks) d).size ≤ d.size
  dp : (blt (kAt es ks) d).deep ≤ d.deep
  few : (intsIn (blt (kAt es ks) d)).length ≤ d.size
theorem bltd_int {es : List D} {ks : List Nat} {d : D} {a : Nat} (h : kAt es ks d = some a) : Bltd es ks d := by
  obtain ⟨h1, h2⟩ := kAt_some h
  have e := blt_some h
  have p := d.size_pos
  refine ⟨by rw [e]; exact .int _, ?_, ?_, by rw [e]; simp only [D.size]; exact p, by rw [e]; simp [D.deep], by rw [e]; simp only [intsIn, List.length_singleton]; exact p⟩
  · rw [e]
    show es.getD (a : Int).toNat (.int 0) = d
    rw [Int.toNat_natCast, List.getD_eq_getElem?_getD, h2]
    rfl
  · rw [e]
    intro i hi
    simp only [intsIn, List.mem_singleton] at hi
    exact ⟨a, h1, hi⟩
theorem bltds {es : List D} {ks : List Nat} : ∀ {ds : List D}, (∀ d ∈ ds, Bltd es ks d) → puts (fun u => es.getD u.toNat (.int 0)) (blts (kAt es ks) ds) = ds ∧ (∀ i ∈ intsOf (blts (kAt es ks) ds), ∃ a ∈ ks, i = (a : Int)) ∧ sizes (blts (kAt es ks) ds) ≤ sizes ds ∧ deeps (blts (kAt es ks) ds) ≤ deeps ds ∧ (intsOf (blts (kAt es ks) ds)).length ≤ sizes ds
  | [], _ => ⟨rfl, fun i hi => by simp [blts, intsOf] at hi, Nat.le_refl _, Nat.le_refl _, Nat.le_refl _⟩
  | d :: r, h => by
    obtain ⟨a, b, c, e, f⟩ := bltds fun x hx => h x (List.mem_cons_of_mem _ hx)
    have g := h d List.mem_cons_self
    have g1 := g.sz
    have g2 := g.dp
    have g3 := g.few
    refine ⟨?_, ?_, ?_, ?_, ?_⟩
    · simp only [blts, puts, g.put, a]
    · intro i hi
      simp only [blts, intsOf, List.mem_append] at hi
      rcases hi with hi | hi
      · exact g.at_ i hi
      · exact b i hi
    · simp only [blts, sizes]; omega
    · simp only [blts, deeps]; omega
    · simp only [blts, intsOf, sizes, List.length_append]; omega
theorem bltd {es : List D} {ks : List Nat} {d : D} (t : Tm d) : blt (kAt es ks) d = .non ∨ Bltd es ks d := by
  induction t with
  | int u =>
    cases h : kAt es ks (.int u) with
    | none => exact .inl (blt_int h)
    | some a => exact .inr (bltd_int h)
  | tup x ds _ ih =>
    cases h : kAt es ks (.tup (.str x :: ds)) with
    | some a => exact .inr (bltd_int h)
    | none =>
      have e := blt_tup h
      by_cases n : (blts (kAt es ks) ds).any isNon = true
      · exact .inl (by rw [e, if_pos n])
      · rw [if_neg n] at e
        have all : ∀ d ∈ ds, Bltd es ks d := fun d hd => by
          rcases ih d hd with z | z
          · refine absurd ?_ n
            rw [List.any_eq_true]
            refine ⟨.non, ?_, rfl⟩
            rw [blts_map]
            exact List.mem_map.mpr ⟨d, hd, z⟩
          · exact z
        obtain ⟨p1, p2, p3, p4, p5⟩ := bltds all
        refine .inr ⟨?_, ?_, ?_, ?_, ?_, ?_⟩
        · rw [e]
          refine .tup x _ fun c hc => ?_
          rw [blts_map] at hc
          obtain ⟨d, hd, rfl⟩ := List.mem_map.mp hc
          exact (all d hd).tm
        · rw [e]
          show D.tup (.str x :: puts _ _) = _
          rw [p1]
        · rw [e]
          intro i hi
          simp only [intsIn, intsOf, List.nil_append] at hi
          exact p2 i hi
        · rw [e]; simp only [D.size, sizes]; omega
        · rw [e]; simp only [D.deep, deeps]; omega
        · rw [e]; simp only [intsIn, intsOf, List.nil_append, D.size, sizes]; omega
/-- built -/
def spBuilt (K : PySem.W.Frag) : Sp := fun vs H Q _ => ∃ (v : V) (va ka : Addr) (ws : List V) (d : D) (es : List D) (ks : List Nat), vs = [v, .ref va, .ref ka] ∧ (SqL K H va ws ∨ SqT K H va ws) ∧ DvL H ws es ∧ Dv H v d ∧ Tm d ∧ (∀ e ∈ es, Tm e) ∧
  H ka = some (.lst (ks.map vI)) ∧ (∀ a ∈ ks, a < es.length) ∧ ks.length ≤ 100 ∧ d.size ≤ 10000 ∧ (∀ e ∈ es, e.size ≤ 450) ∧ ∀ (v' : V) (H' : Hp), Same H H' → Dv H' v' (blt (kAt es ks) d) → Q v' H'
/-- _law_built -/
def spLBuilt (K : PySem.W.Frag) (m : Nat) : Sp := fun vs H Q _ => ∃ (Hb : Hp) (v : V) (va ka : Addr) (ws : List V) (d : D) (es : List D) (ks : List Nat), vs = [v, .ref va, .ref ka] ∧ Same Hb H ∧ Hb va = some (.lst ws) ∧ DvL Hb ws es ∧ Dv Hb v d ∧ Tm d ∧ (∀ e ∈ es, Tm e) ∧
  Hb ka = some (.lst (ks.map vI)) ∧ (∀ a ∈ ks, a < es.length) ∧ ks.length ≤ 100 ∧ d.deep < m ∧ d.deep ≤ 30 ∧ d.size ≤ 10000 ∧ (∀ e ∈ es, e.size ≤ 10000 ∧ e.deep ≤ 30) ∧ ∀ (v' : V) (H' : Hp), Same H H' → Dv (ovl Hb (newof H H')) v' (blt (kAt es ks) d) → Q v' H'
end Fm
set_option maxRecDepth 100000
set_option maxHeartbeats 2000000
namespace Fm
open PySem PySem.Spec PyProof.Rows L2
theorem eqvs_tm : ∀ {as bs : List D}, (∀ a ∈ as, ∀ b, Tm b → (PyData.eqv (pdOf a) (pdOf b) = true ↔ a = b)) → (∀ b ∈ bs, Tm b) → (PyData.eqvAll (pdsOf as) (pdsOf bs) = true ↔ as = bs)
  | [], [], _, _ => by simp [pdsOf, PyData.eqvAll]
  | [], b :: r, _, _ => by simp [pdsOf, PyData.eqvAll]
  | a :: r, [], _, _ => by simp [pdsOf, PyData.eqvAll]
  | a :: r, b :: s, ha, hb => by
    simp only [pdsOf, PyData.eqvAll, Bool.and_eq_true]
    rw [ha a List.mem_cons_self b (hb b List.mem_cons_self), eqvs_tm (fun x hx => ha x (List.mem_cons_of_mem _ hx)) (fun x hx => hb x (List.mem_cons_of_mem _ hx))]
    simp
theorem eqv_tm {a : D} (t : Tm a) : ∀ b, Tm b → (PyData.eqv (pdOf a) (pdOf b) = true ↔ a = b) := by
  induction t with
  | int i =>
    intro b hb
    cases hb with
    | int j => simp [pdOf, PyData.eqv]
    | tup x ds _ => simp [pdOf, PyData.eqv]
  | tup x ds _ ih =>
    intro b hb
    cases hb with
    | int j => simp [pdOf, PyData.eqv]
    | tup y es he =>
      have e1 : pdOf (.tup (.str x :: ds)) = .tuple (.str x :: pdsOf ds) := rfl
      have e2 : pdOf (.tup (.str y :: es)) = .tuple (.str y :: pdsOf es) := rfl
      rw [e1, e2]
      simp only [PyData.eqv, PyData.eqvAll, Bool.and_eq_true, beq_iff_eq]
      rw [eqvs_tm ih he]
      simp
theorem tm_data {K : PySem.W.Frag} {H : Hp} {v : V} {d : D} (h : Dv H v d) (n : noDic d = true) (dz : d.deep ≤ 58) : Dp K H v (pdOf d) ∧ SeqAt.shaped (pdOf d) = true := by
  obtain ⟨a, b⟩ := dp_pd (K := K) d v h n
  refine ⟨a, ?_⟩
  unfold SeqAt.shaped
  rw [b]
  have := pd_depth d
  simp only [Bool.true_and, decide_eq_true_eq]
  omega
theorem any_non : ∀ {ds : List D}, (∀ d ∈ ds, d = .non ∨ Tm d) → ((pdsOf ds).any fun e => PyData.eqv e .none) = ds.any isNon
  | [], _ => rfl
  | d :: r, h => by
    have e : (pdsOf (d :: r)) = pdOf d :: pdsOf r := rfl
    rw [e, List.any_cons, List.any_cons, any_non fun x hx => h x (List.mem_cons_of_mem _ hx)]
    congr 1
    rcases h d List.mem_cons_self with rfl | t
    · rfl
    · cases t <;> rfl
theorem blt_or {es : List D} {ks : List Nat} {d : D} (t : Tm d) : blt (kAt es ks) d = .non ∨ Tm (blt (kAt es ks) d) := by
  rcases bltd (es := es) (ks := ks) t with h | h
  · exact .inl h
  · exact .inr h.tm
theorem blt_dp {es : List D} {ks : List Nat} {d : D} (t : Tm d) : (blt (kAt es ks) d).deep ≤ d.deep := by
  rcases bltd (es := es) (ks := ks) t with h | h
  · rw [h]; simp [D.deep]
  · exact h.dp
theorem blts_dp {es : List D} {ks : List Nat} {ds : List D} (t : ∀ d ∈ ds, Tm d) : deeps (blts (kAt es ks) ds) ≤ deeps ds := by
  induction ds with
  | nil => exact Nat.le_refl _
  | cons d r ih =>
    have h1 := blt_dp (es := es) (ks := ks) (t d List.mem_cons_self)
    have h2 := ih fun x hx => t x (List.mem_cons_of_mem _ hx)
    simp only [blts, deeps]
    omega
theorem noDic_or {d : D} (h : d = .non ∨ Tm d) : noDic d = true := by
  rcases h with rfl | t
  · rfl
  · exact t.noDic
/-- a list of built things as data -/
theorem blts_data {K : PySem.W.Frag} {H : Hp} {l : Addr} {zs : List V} {es : List D} {ks : List Nat} {ds : List D} (hl : H l = some (.lst zs)) (hz : DvL H zs (blts (kAt es ks) ds)) (t : ∀ d ∈ ds, Tm d) (dz : deeps ds ≤ 55) :
    Dp K H (.ref l) (.list (pdsOf (blts (kAt es ks) ds))) ∧ PyData.canLayAll0 (pdsOf (blts (kAt es ks) ds)) = true := by
  have n : noDics (blts (kAt es ks) ds) = true := noDics_of fun e he => by
    rw [blts_map] at he
    obtain ⟨d, hd, rfl⟩ := List.mem_map.mp he
    exact noDic_or (blt_or (t d hd))
  have nd : noDic (.lst (blts (kAt es ks) ds)) = true := by simp [noDic, n]
  obtain ⟨a, b⟩ := dp_pd (K := K) (.lst (blts (kAt es ks) ds)) (.ref l) (.lst hl hz) nd
  exact ⟨a, (dps_pd (K := K) _ _ hz n).2⟩
theorem blts_any {es : List D} {ks : List Nat} {ds : List D} (t : ∀ d ∈ ds, Tm d) : ((pdsOf (blts (kAt es ks) ds)).any fun e => PyData.eqv e .none) = (blts (kAt es ks) ds).any isNon :=
  any_non fun e he => by
    rw [blts_map] at he
    obtain ⟨d, hd, rfl⟩ := List.mem_map.mp he
    exact blt_or (t d hd)
theorem dv_non {H : Hp} {v : V} {d : D} (h : Dv H v d) : decide (v = .non) = isNon d := by
  cases h <;> simp [isNon]
theorem dvl_non {H : Hp} : ∀ {vs : List V} {ds : List D}, DvL H vs ds → (vs.map fun x => !decide (x = .non)).all id = !ds.any isNon
  | _, _, .nil => rfl
  | _, _, .cons a b => by
    rw [List.map_cons, List.all_cons, List.any_cons, dvl_non b, dv_non a]
    simp
theorem made_partsG {H : Hp} {ts : List D} {i : Nat} {g : D → D} {mv : List V} (hm : DvL H mv ((ts.take i).map g)) {js : List Nat} {ds : List D} (h : Ats (ts.take i) js ds) :
    DvL H ((js.map fun j : Nat => D.int (j : Int)).map (atV mv)) (ds.map g) := by
  induction h with
  | nil => exact .nil
  | @cons j d js ds a _ ih =>
    have e : ((ts.take i).map g)[j]? = some (g d) := by rw [List.getElem?_map, a]; rfl
    obtain ⟨v, e1, e2⟩ := hm.getD e
    have lt := (List.getElem?_eq_some_iff.mp e1).1
    have e3 := atV_get lt
    rw [e1] at e3
    injection e3 with e3
    refine .cons ?_ ih
    show Dv H (atV mv (.int (j : Int))) (g d)
    rw [← e3]
    exact e2
end Fm
namespace Fm
open PySem PySem.Spec PyProof.Rows L2
def spMixed : Sp := fun vs H Q _ => ∃ (b p la : Addr) (js : List Nat), vs = [.ref b, .ref la] ∧ Bag b p H ∧ la ≠ b ∧ H la = some (.lst (js.map vI)) ∧ js.length ≤ 100 ∧
  ∀ (l : Addr) (H' : Hp) (zs : List Nat), Go b p H H' → newof H H' l = some (.lst (zs.map vI)) → (∀ z ∈ zs, z ∈ js) → zs.length = js.length → Q (.ref l) H'
def spLParts (K : PySem.W.Frag) (m : Nat) : Sp := fun vs H Q _ => ∃ (Hb : Hp) (v : V) (d : D), vs = [v] ∧ Same Hb H ∧ Dv Hb v d ∧ Tm d ∧ d.deep < m ∧ d.size ≤ 10000 ∧
  ∀ (l : Addr) (H' : Hp) (us : List V), Same H H' → H l = none → H' l = some (.lst us) → DvL Hb us (flat d) → Q (.ref l) H'
/-- a term or value of the law -/
structure Drawn (d : D) : Prop where
  tm : TmL d
  dp : d.deep ≤ 3
  sz : d.size ≤ 450
def spLValues : Sp := fun vs H Q _ => ∃ (b p nm la : Addr) (xs : List Str) (us : List V) (ds : List D), vs = [.ref b, .ref nm, .ref la] ∧ Bag b p H ∧ NamesL nm b H xs ∧ la ≠ b ∧ H la = some (.lst us) ∧ DvL (mask b H) us ds ∧ (∀ d ∈ ds, Drawn d) ∧ 1 ≤ ds.length ∧ ds.length ≤ 3 ∧
  ∀ (l : Addr) (H' : Hp) (ws : List V) (es : List D), Go b p H H' → l ≠ b → H' l = some (.lst ws) → DvL (mask b H') ws es → (∀ e ∈ es, Drawn e) → es.length ≤ 6 → Q (.ref l) H'
theorem tmL_parts : ∀ {ds : List D} {e : D}, (∀ d ∈ ds, TmL d → ∀ x ∈ flat d, TmL x) → (∀ d ∈ ds, TmL d) → e ∈ flats ds → TmL e
  | [], e, _, _, h => by simp [flats] at h
  | d :: r, e, ih, ht, h => by
    simp only [flats, List.mem_append] at h
    rcases h with h | h
    · exact ih d List.mem_cons_self (ht d List.mem_cons_self) e h
    · exact tmL_parts (fun x hx => ih x (List.mem_cons_of_mem _ hx)) (fun x hx => ht x (List.mem_cons_of_mem _ hx)) h
theorem tmL_flat {d e : D} (t : TmL d) (h : e ∈ flat d) : TmL e := by
  induction t generalizing e with
  | int i hi =>
    simp only [flat, List.mem_singleton] at h
    rw [h]
    exact .int i hi
  | tup x ds lx ht ih =>
    have e2 : flat (.tup (.str x :: ds)) = .tup (.str x :: ds) :: flats ds := by simp [flat, flatT]
    rw [e2] at h
    rcases List.mem_cons.mp h with rfl | h
    · exact .tup x ds lx ht
    · exact tmL_parts (fun d hd _ x hx => ih d hd hx) ht h
theorem size_flats : ∀ (n : Nat) {ds : List D} {e : D}, sizes ds ≤ n → e ∈ flats ds → e.size ≤ sizes ds ∧ e.deep ≤ deeps ds
  | _, [], _, _, h => by simp [flats] at h
  | 0, d :: r, _, hn, _ => by
    have := d.size_pos
    simp only [sizes] at hn
    omega
  | n + 1, d :: r, e, hn, h => by
    simp only [flats, List.mem_append] at h
    have hp := d.size_pos
    simp only [sizes] at hn
    rcases h with h | h
    · rw [flat_eq] at h
      rcases List.mem_cons.mp h with rfl | h
      · simp only [sizes, deeps]; omega
      · have hs : sizes (parts d) + 1 ≤ d.size ∧ deeps (parts d) ≤ d.deep := by
          cases d with
          | tup ds =>
            cases ds with
            | nil => simp [parts, sizes, deeps, D.size, D.deep]
            | cons x r => simp only [parts, D.size, sizes, D.deep, deeps]; have := x.size_pos; omega
          | _ => simp [parts, sizes, deeps, D.size, D.deep]
        have := size_flats n (ds := parts d) (by omega) h
        simp only [sizes, deeps]
        omega
    · have := size_flats n (ds := r) (by omega) h
      simp only [sizes, deeps]
      omega
theorem size_flat {d e : D} (h : e ∈ flat d) : e.size ≤ d.size := by
  have := (size_flats _ (ds := [d]) (e := e) (Nat.le_refl _) (by simpa [flats] using h)).1
  simpa [sizes] using this
theorem deep_flat {d e : D} (h : e ∈ flat d) : e.deep ≤ d.deep := by
  have := (size_flats _ (ds := [d]) (e := e) (Nat.le_refl _) (by simpa [flats] using h)).2
  simpa [deeps] using this
end Fm
set_option maxRecDepth 100000
set_option maxHeartbeats 4000000
namespace K15
open PySem L2 Fm
section
variable {P : Program} {w : World} {K : PySem.W.Frag} {mg : Str → Option Value} {base : Heap} (T : Txt K mg)
/-- self.terms -/
def spTermsOf : Sp := fun vs H Q _ => ∃ (x dx p : Addr) (us : List V), vs = [.ref x] ∧ H x = some (.ins T.C_Pattern dx (putF "_terms" (.ref p) [])) ∧ Q (.ref p) H
theorem ok_Pattern_terms : FnOk P w K mg base CX0 1 T.a_Pattern_terms T.d_Pattern_terms ["self"] (spTermsOf T) := by
  refine T.F_Pattern_terms.ok sc_Pattern_terms ?_ (fun cdv A outer s H vs Q E hr h => ?_)
  · rintro vs H Q E ⟨x, dx, p, us, rfl, _⟩
    rfl
  obtain ⟨x, dx, p, us, rfl, hx, q⟩ := h
  refine ⟨_, 
    (pss_one (ps_ret (pe_fld (pv 0) rfl))), ?_⟩
  exact ⟨_, rfl, x, _, dx, _, _, rfl, hx, T.cl_Pattern, T.na_Pattern__terms, rfl, q⟩
/-- len(self) -/
def spLenOf : Sp := fun vs H Q _ => ∃ (x dx p : Addr) (us : List V), vs = [.ref x] ∧ H x = some (.ins T.C_Pattern dx (putF "_terms" (.ref p) [])) ∧ H p = some (.tup us) ∧ Q (.int (us.length : Nat)) H
theorem ok_Pattern_len : FnOk P w K mg base CX0 1 T.a_Pattern_len T.d_Pattern_len ["self"] (spLenOf T) := by
  refine T.F_Pattern_len.ok sc_Pattern_len ?_ (fun cdv A outer s H vs Q E hr h => ?_)
  · rintro vs H Q E ⟨x, dx, p, us, rfl, _⟩
    rfl
  obtain ⟨x, dx, p, us, rfl, hx, hp, q⟩ := h
  refine ⟨_, 
    (pss_one (ps_ret (pe_callB call_len_seq (by rfl) T.m_len (by decide +kernel) (pa_cons (pe_fld (pv 0) rfl) pa_nil)))), ?_⟩
  exact ⟨_, rfl, x, _, dx, _, _, rfl, hx, T.cl_Pattern, T.na_Pattern__terms, rfl, p, us, rfl, .inr (SqT.of hp), q⟩
/-- values in self -/
def spContains : Sp := fun vs H Q _ => ∃ (x : Addr) (v : V) (d : D) (ds : List D), vs = [.ref x, v] ∧ PatAt T.C_Pattern H x ds ∧ (∀ e ∈ ds, Tm e) ∧ sizes ds ≤ 100000 ∧ Dv H v d ∧ d.size ≤ 100000 ∧ d.deep ≤ 100 ∧
  ∀ (H' : Hp) (b : Bool), Same H H' → (b = true ↔ areValues (ds.length : Nat) d = true ∧ ∃ f es, d = .tup es ∧ puts f ds = es) → Q (.bl b) H'
theorem ok_Pattern_contains : FnOk P w K mg base CX0 5 T.a_Pattern_contains T.d_Pattern_contains ["self", "values"] (spContains T) := by
  have G_are_values := ok_are_values (P := P) (w := w) (base := base) T
  have G_shared := ok_shared (P := P) (w := w) (base := base) T
  have G_fits := ok_fits (P := P) (w := w) (base := base) T
  refine T.F_Pattern_contains.ok sc_Pattern_contains ?_ (fun cdv A outer s H vs Q E hr h => ?_)
  · rintro vs H Q E ⟨x, v, d, ds, rfl, _⟩
    rfl
  obtain ⟨x, v, d, ds, rfl, ⟨dx, p, us, hx, hp, hus⟩, htm, hz, hd, z1, z2, q⟩ := h
  refine ⟨_, 
    (pss_cons (ps_if (pt_not (pt_val (pe_call G_are_values (hr.mono (by omega)) (by rfl) T.f_are_values T.F_are_values.kp T.b_are_values .nil pass0 (pa_cons (pe_callB call_len_seq (by rfl) T.m_len (by decide +kernel) (pa_cons (pe_fld (pv 0) rfl) pa_nil)) (pa_cons (pv 1) pa_nil))))) (pss_one (ps_ret pe_bl)) pss_nil)
    (pss_cons (ps_asg (pe_call G_shared (hr.mono (by omega)) (by rfl) T.f_shared T.F_shared.kp T.b_shared .nil pass0 (pa_cons (pv 1) pa_nil)) (pg_tup rfl (pgs_cons (pg_name (i := 2) sc_Pattern_contains.nd rfl (Or.inl rfl)) (pgs_cons (pg_name (i := 3) sc_Pattern_contains.nd rfl (Or.inl rfl)) pgs_nil))))
    (pss_one (ps_ret (pe_call G_fits (hr.mono (by omega)) (by rfl) T.f_fits T.F_fits.kp T.b_fits .nil pass0 (pa_cons (ZpL.pe_listZip rfl (pa_cons (pe_fld (pv 0) rfl) (pa_cons (pv 3) pa_nil)) (by rfl) T.m_list (by rfl) T.m_zip (by decide +kernel)) (pa_cons (pv 2) (pa_cons pe_dnewK pa_nil)))))))), ?_⟩
  have lus := hus.len
  refine ⟨_, rfl, x, _, dx, _, _, rfl, hx, T.cl_Pattern, T.na_Pattern__terms, rfl, p, us, rfl, .inr (SqT.of hp), ?_⟩
  refine ⟨_, rfl, _, v, d, rfl, hd, z1, z2, fun H1 k => ⟨_, rfl, ite_b (fun c => ?_) (fun c => ?_)⟩⟩
  · have e : areValues (us.length : Nat) d = false := by simpa using c
    rw [lus] at e
    exact q H1 false k ⟨fun e => (by cases e), fun ⟨e2, _⟩ => by rw [e] at e2; cases e2⟩
  · have e : areValues (us.length : Nat) d = true := by simpa using c
    rw [lus] at e
    obtain ⟨es, rfl⟩ : ∃ es, d = .tup es := by
      cases d with
      | tup es => exact ⟨es, rfl⟩
      | _ => cases e
    have e2 : (es.length : Int) = (ds.length : Nat) ∧ areTerms es = true := by simpa [areValues] using e
    obtain ⟨e2, e3⟩ := e2
    cases hd with
    | @tup b ws _ hb hws =>
    simp only [D.size] at z1
    have lws := hws.len
    refine ⟨_, rfl, b, ws, es, rfl, .inr (SqT.of (k _ _ hb)), hws.same k _ _, tms_of_are es e3, by omega, fun pp l1 l2 H2 bs ts js k2 hpp h1 h2 N At hts sub hjs => ?_⟩
    have ljs := At.len
    have k3 := k.trans k2
    refine ⟨pp, _, rfl, SqT.of hpp, rfl, _, _, rfl, _, _, rfl, rfl, ?_⟩
    refine ⟨_, rfl, x, _, dx, _, _, rfl, k3 _ _ hx, T.cl_Pattern, T.na_Pattern__terms, rfl, _, rfl, p, l2, us, js.map vI, rfl, .inr (SqT.of (k3 _ _ hp)), .inl (SqL.of h2), fun H3 lz zl kk hz0 hzs hnl ndz hlz hpr => ?_⟩
    refine ⟨_, rfl, ?_⟩
    show ∀ kn : Addr, H3 kn = none → _
    intro kn hkn
    have k4 : Same H3 (upd H3 kn (.dK [])) := Same.new hkn
    have k5 : Same H2 (upd H3 kn (.dK [])) := Same.trans kk k4
    have k6 : Same H (upd H3 kn (.dK [])) := k3.trans k5
    have lz := aheadSize_zip (ds := ds) (js := js) (by omega)
    have ev : ∀ H' b, Same H H' → (b = true ↔ Fits ts [] (ds.zip js)) → Q (.bl b) H' := fun H' b kq hb => q H' b kq (by
      rw [hb, Fm.fits_start At (by omega)]
      exact ⟨fun ⟨f, hf⟩ => ⟨e, f, es, rfl, hf⟩, fun ⟨_, f, es', h1, hf⟩ => ⟨f, by injection h1 with h1; rw [h1]; exact hf⟩⟩)
    refine ⟨_, l1, kn, zl, ds.zip js, bs, ts, rfl, k4 _ _ hlz, ?_, fun q' hq' => ?_, by omega, k5 _ _ h1, N.same k5, upd_same, fun H' b kf hb => ev H' b (k6.trans kf) hb⟩
    · exact AheadAt.keep (H := H3) (aheadAt_zip (hus.same k6 _ _) hpr) fun t xs ht => k4 _ _ ht
    · obtain ⟨m1, m2⟩ := List.of_mem_zip hq'
      exact ⟨htm _ m1, ats_sub At _ m2⟩
/-- what isinstance asks of the class -/
structure PKit : Prop where
  ha : PySem.W.findIn K (.ref T.C_Pattern) "__class__" = some (some (.builtin "object.__class__"))
  hn : PySem.W.specialIn K (.builtin "object.__class__") "__get__" = some (some (.builtin "getset_descriptor.__get__"))
  ht : PySem.W.takesIn K (.builtin "object.__class__") = some true
  hm : PySem.W.mroIn K T.C_Pattern (.type "object") = some true
  hne : PySem.W.findIn K (.ref T.C_Pattern) "__ne__" = some (some (.builtin "object.__ne__"))
  hk : ((PySem.W.clsIn K T.C_Pattern).isSome && PySem.W.typeIn K (.ref T.C_Pattern) == some (.type "type")) = true
/-- self == other -/
def spEqP : Sp := fun vs H Q _ => ∃ (x : Addr) (y : V) (ds : List D), vs = [.ref x, y] ∧ PatAt T.C_Pattern H x ds ∧ (∀ d ∈ ds, Tm d) ∧ deeps ds ≤ 50 ∧
  ((∃ x2 es, y = .ref x2 ∧ PatAt T.C_Pattern H x2 es ∧ (∀ d ∈ es, Tm d) ∧ deeps es ≤ 50 ∧ ∀ b : Bool, (b = true ↔ ds = es) → Q (.bl b) H) ∨ ∃ t, TyE K H y t ∧ PySem.W.kitOne K t (.ref T.C_Pattern) = some false ∧ Q (.bl false) H)
theorem tup_data {H : Hp} {p : Addr} {us : List V} {ds : List D} (hp : H p = some (.tup us)) (h : DvL H us ds) (t : ∀ d ∈ ds, Tm d) (dz : deeps ds ≤ 50) : Dp K H (.ref p) (pdOf (.tup ds)) ∧ SeqAt.shaped (pdOf (.tup ds)) = true := by
  refine tm_data (Dv.tup hp h) ?_ (by simp only [D.deep]; omega)
  simp only [noDic]
  exact noDics_of fun d hd => (t d hd).noDic
theorem ok_Pattern_eq (Kp : PKit T) : FnOk P w K mg base CX0 1 T.a_Pattern_eq T.d_Pattern_eq ["self", "other"] (spEqP T) := by
  refine T.F_Pattern_eq.ok sc_Pattern_eq ?_ (fun cdv A outer s H vs Q E hr h => ?_)
  · rintro vs H Q E ⟨x, y, ds, rfl, _⟩
    rfl
  obtain ⟨x, y, ds, rfl, ⟨dx, p, us, hx, hp, hus⟩, htm, hdz, h⟩ := h
  refine ⟨_, 
    (pss_one (ps_ret (pe_and (pe_callB call_isiE (by rfl) T.m_isinstance (by decide +kernel) (pa_cons (pv 1) (pa_cons (pe_glob (v := .ref T.C_Pattern) (u := .ref T.C_Pattern) (by rfl) T.g_Pattern rfl) pa_nil))) (pe_one (pe_cmpR (op_eqD hr.units) (pe_fld (pv 0) rfl) (pe_fld (pv 1) rfl) (nomark _)))))), ?_⟩
  rcases h with ⟨x2, es, rfl, ⟨dy, p2, us2, hy, hp2, hus2⟩, htm2, hdz2, q⟩ | ⟨t, ty, kt, q⟩
  · refine ⟨_, rfl, _, _, _, _, true, rfl, .own _, .base (.base (.ins hy T.cl_Pattern Kp.ha Kp.hn Kp.ht Kp.hm)), (by unfold PySem.W.kitOne; rw [if_pos (beq_self_eq_true _)]), true, rfl, ite_b (fun _ => ?_) (fun c => nomatch c)⟩
    obtain ⟨a1, a2⟩ := tup_data (K := K) hp hus htm hdz
    obtain ⟨b1, b2⟩ := tup_data (K := K) hp2 hus2 htm2 hdz2
    refine ⟨_, rfl, x, _, dx, _, _, rfl, hx, T.cl_Pattern, T.na_Pattern__terms, rfl, _, rfl, x2, _, dy, _, _, rfl, hy, T.cl_Pattern, T.na_Pattern__terms, rfl, _, _, a1, b1, a2, b2, q _ ?_⟩
    show PyData.eqvAll (pdsOf ds) (pdsOf es) = true ↔ ds = es
    exact eqvs_tm (fun a ha b tb => eqv_tm (htm a ha) b tb) htm2
  · exact ⟨_, rfl, _, _, _, _, false, rfl, .own _, ty, kt, false, rfl, ite_b (fun c => nomatch c) (fun _ => q)⟩
/-- repr(self) -/
def spReprP : Sp := fun vs H Q _ => ∃ (x dx p : Addr) (d : PyData), vs = [.ref x] ∧ H x = some (.ins T.C_Pattern dx (putF "_terms" (.ref p) [])) ∧ Dp K H (.ref p) d ∧ d.showable = true ∧ d.hasDict = false ∧ d.depth ≤ 60 ∧ d.shown.length + 9 ≤ sizeLine ∧
  Q (.str ((("Pattern(" : Str) ++ d.shown) ++ (")" : Str))) H
theorem ok_Pattern_repr : FnG P w K mg base 1 T.a_Pattern_repr T.d_Pattern_repr ["self"] (spReprP T) := by
  refine fnG T.F_Pattern_repr sc_Pattern_repr ?_ (fun cdv A outer s H vs Q gd hr h => ?_)
  · rintro vs H Q E ⟨x, dx, p, d, rfl, _⟩
    rfl
  obtain ⟨x, dx, p, d, rfl, hx, hd, hs, hn, hz, hl, q⟩ := h
  refine ⟨_, 
    (pss_one (ps_ret (pe_joined (.cons pe_str (.cons (pe_fmtRD hr gd (pe_fld (pv 0) rfl)) (.cons pe_str .nil)))))), ?_⟩
  have e0 : (Str.empty ++ ("Pattern(" : Str) : Str) = ("Pattern(" : Str) := by decide +kernel
  have l0 : ("Pattern(" : Str).length = 8 := by decide +kernel
  have l1 : (")" : Str).length = 1 := by decide +kernel
  have l2 : (("Pattern(" : Str) ++ d.shown).length = 8 + d.shown.length := by rw [strLen_append, l0]
  have l3 : ((("Pattern(" : Str) ++ d.shown) ++ (")" : Str)).length = 8 + d.shown.length + 1 := by rw [strLen_append, l2, l1]
  refine ⟨_, rfl, by rw [e0, l0]; decide, _, rfl, x, _, dx, _, _, rfl, hx, T.cl_Pattern, T.na_Pattern__terms, rfl, p, d, rfl, hd, hs, hn, hz, by omega, _, rfl, by rw [e0, l2]; omega, _, rfl, by rw [e0, l3]; omega, ?_⟩
  rw [e0]
  exact q
end
end K15
set_option maxRecDepth 100000
set_option maxHeartbeats 2000000
/-! list.count of data -/
namespace Fm
open PySem PySem.Spec PyProof.Rows L2
section
variable {X : Cx}
/-- l.count(x) -/
def rCountD (K : PySem.W.Frag) : V → List V → Hp → VK → Prop := fun x xs H Q => ∃ (a : Addr) (y : V) (d : PyData) (ds : List PyData), x = V.ref a ∧ xs = [y] ∧ Dp K H (V.ref a) (.list ds) ∧ Dp K H y d ∧
  SeqAt.shaped (.list ds) = true ∧ SeqAt.shaped d = true ∧ Q (.int (ds.countP fun z => PyData.eqv z d : Nat)) H
theorem mt_countD (hu : X.A.units + 65 < cLine) : MtR X "list.count" (rCountD X.K) := by
  intro pins s σ H x xs v us Q I rx rxs h
  obtain ⟨a, y, d, ds, rfl, rfl, hl, hy, sl, sd, q⟩ := h
  cases rx
  cases rxs with
  | cons ry rt =>
    rename_i uy ut
    cases rt
    obtain ⟨bs, r1⟩ := Dp.reads I d y uy hy ry
    have hxs : PyData.canLayAll0 ds = true := SeqAt.canLay_of_shaped sl
    have hroom : X.A.units + 1 + min (PyData.depthAll ds) d.depth < cLine := room_in_shaped sd hu
    cases hl with
    | lst hs ha =>
      obtain ⟨its, rv, ⟨⟨cls, dd, data, sls⟩, n, ho, hc, hdn, hdt⟩, hlen⟩ := I.list hs
      simp only at hc hdt
      subst hc hdt
      obtain ⟨as, h4⟩ := Dp.readsAll I ds _ its ha rv
      have hmap : its.map (SeqAt.readOf s.heap) = ds := SeqAt.readsAll_map ds its as hxs h4
      refine call_meets PySem.F.slot_list_count ⟨_, ho, rfl⟩ PySem.F.entry_list_count (PySem.F.args_list_count_2 _ _)
        (SeqAt.list_countAt a its.toArray n dd sls uy (fun u => PyData.eqv (SeqAt.readOf s.heap u) d)) ⟨ho, SeqAt.items_eqAt (vs := its.toArray) (show ReadsAll s.heap its.toArray.toList ds as from h4) r1 hxs (SeqAt.canLay_of_shaped sd) hroom, ?_⟩
      have e : its.toArray.toList.countP (fun u => PyData.eqv (SeqAt.readOf s.heap u) d) = ds.countP fun z => PyData.eqv z d := by
        rw [← hmap, List.countP_map]
        rfl
      refine ⟨.int (ds.countP fun z => PyData.eqv z d : Nat), H, I.tok _, ⟨s.toks, ?_⟩, q⟩
      show Value.int ((its.toArray.toList.countP _ : Nat) : Int) s.toks = _
      rw [e]
/-- for x in l, inside a block -/
theorem pi_listK {K : PySem.W.Frag} {l tg : Expr} {tl : TE} (hK : X.K = K) (hl : PE X l tl) : PI X tg l (iList K tl) := by
  subst hK
  exact pi_list hl
theorem pi_tupK {K : PySem.W.Frag} {l tg : Expr} {tl : TE} (hK : X.K = K) (hl : PE X l tl) : PI X tg l (iTup K tl) := by
  subst hK
  exact pi_tup hl
/-- len of a list or a tuple, inside a block -/
def rLenSq (K : PySem.W.Frag) : List V → Hp → VK → Prop := fun xs H Q => ∃ p ys, xs = [.ref p] ∧ (SqL K H p ys ∨ SqT K H p ys) ∧ Q (.int ys.length) H
theorem call_lenK {K : PySem.W.Frag} (hK : X.K = K) : CallR X (.builtin "len") (rLenSq K) := by
  subst hK
  exact call_len_seq
theorem hu65 {k : Nat} {A : Around} (r : Room k A) : A.units + 65 < cLine := by have := r.un; omega
/-- a op1 b op2 c op3 d -/
def tChain3 (r r' r'' : R2) (ta tb tc td : TE) : TE := fun σ H Q => ta σ H fun x H1 => tb σ H1 fun y H2 => r x y H2 fun z H3 => ∃ k, z = .bl k ∧
  (if k = true then tc σ H3 fun w' H4 => r' y w' H4 fun z' H5 => ∃ k', z' = .bl k' ∧ (if k' = true then td σ H5 fun w'' H6 => r'' w' w'' H6 Q else Q (.bl false) H5) else Q (.bl false) H3)
theorem pe_chain3 {a b c d : Expr} {ta tb tc td : TE} {pos : Pos} {op op' op'' : CmpOp} {r r' r'' : R2} (ho : OpR X (compareOp op) r) (ho' : OpR X (compareOp op') r') (ho'' : OpR X (compareOp op'') r'') (ha : PE X a ta) (hb : PE X b tb) (hc : PE X c tc) (hd : PE X d td)
    (hm : lastMarks [op, op', op''] [b, c, d] = false := by with_unfolding_all rfl) : PE X (.Compare a [op, op', op''] [b, c, d] pos) (tChain3 r r' r'' ta tb tc td) := by
  refine ⟨fun pins s σ H Q I h => ?_⟩
  refine Compare_chain (thn (ha.run pins s σ H _ I h) fun v s1 ⟨x, H1, I1, r1, q1⟩ => chain_link (thn (hb.run pins s1 σ H1 _ I1 q1) fun u s2 ⟨y, H2, I2, r2, q2⟩ =>
    thn (ho pins s2 σ H2 x y v u _ I2 r1 r2 q2) fun d s3 ⟨z, H3, I3, r3, k, e, q3⟩ => ?_)) hm
  subst e
  cases r3
  refine wpAny_truthy_bool ?_
  cases k with
  | false => exact ite_ff ⟨.bl false, H3, I3, rfl, q3⟩
  | true =>
    refine ite_tt (chain_link (thn (hc.run pins s3 σ H3 _ I3 q3) fun w' s4 ⟨z', H4, I4, r4, q4⟩ => thn (ho' pins s4 σ H4 y z' u w' _ I4 r2 r4 q4) fun d s5 ⟨z2, H5, I5, r5, k', e, q5⟩ => ?_))
    subst e
    cases r5
    refine wpAny_truthy_bool ?_
    cases k' with
    | false => exact ite_ff ⟨.bl false, H5, I5, rfl, q5⟩
    | true => exact ite_tt (chain_last (thn (hd.run pins s5 σ H5 _ I5 q5) fun w'' s6 ⟨z3, H6, I6, r6, q6⟩ => ho'' pins s6 σ H6 z' z3 w' w'' Q I6 r4 r6 q6))
end
end Fm
set_option maxRecDepth 100000
set_option maxHeartbeats 2000000
/-! columns of terms: what they have in common -/
namespace Fm
open PySem PySem.Spec PyProof.Rows L2
open Classical
/-- the name of an operation, and how many parts it has -/
def hdOf : D → Option (Str × Nat)
  | .tup (.str x :: ds) => some (x, ds.length)
  | _ => none
/-- the head that all have -/
noncomputable def sameHead : List D → Option (Str × Nat)
  | [] => none
  | c :: cs => if (hdOf c).isSome ∧ ∀ e ∈ c :: cs, hdOf e = hdOf c then hdOf c else none
def argAt (i : Nat) : D → D
  | .tup (_ :: ds) => ds.getD i .non
  | _ => .non
def partsAt (n : Nat) (cs : List D) : List (List D) := (List.range n).map fun i => cs.map (argAt i)
/-- the columns that have no head in common -/
noncomputable def leavesC : Nat → List D → List (List D)
  | 0, cs => [cs]
  | k + 1, cs => match sameHead cs with
    | none => [cs]
    | some h => (partsAt h.2 cs).flatMap (leavesC k)
/-- what a column has in common, the other columns numbered as in K -/
noncomputable def resC (K : List (List D)) : Nat → List D → D
  | 0, cs => .int (K.idxOf cs : Nat)
  | k + 1, cs => match sameHead cs with
    | none => .int (K.idxOf cs : Nat)
    | some h => .tup (.str h.1 :: (partsAt h.2 cs).map (resC K k))
noncomputable def addC (kn : List (List D)) (c : List D) : List (List D) := if c ∈ kn then kn else kn ++ [c]
noncomputable def addsC (kn : List (List D)) (ls : List (List D)) : List (List D) := ls.foldl addC kn
theorem addC_pre (kn : List (List D)) (c : List D) : kn <+: addC kn c := by
  unfold addC
  split
  · exact List.prefix_refl _
  · exact List.prefix_append _ _
theorem addsC_pre (ls : List (List D)) : ∀ kn, kn <+: addsC kn ls := by
  induction ls with
  | nil => exact fun kn => List.prefix_refl _
  | cons c r ih => exact fun kn => (addC_pre kn c).trans (ih _)
theorem addC_mem (kn : List (List D)) (c : List D) : c ∈ addC kn c := by
  unfold addC
  split
  · assumption
  · exact List.mem_append_right _ List.mem_cons_self
theorem addsC_mem {ls : List (List D)} : ∀ {kn : List (List D)} {c : List D}, c ∈ ls → c ∈ addsC kn ls := by
  induction ls with
  | nil => intro _ _ h; cases h
  | cons a r ih =>
    intro kn c h
    rcases List.mem_cons.mp h with e | h
    · subst e
      exact (addsC_pre r (addC kn c)).subset (addC_mem kn c)
    · exact ih (kn := addC kn a) h
theorem addsC_app (kn : List (List D)) (a b : List (List D)) : addsC kn (a ++ b) = addsC (addsC kn a) b := List.foldl_append ..
theorem idx_pre {K K' : List (List D)} (p : K <+: K') {c : List D} (h : c ∈ K) : K'.idxOf c = K.idxOf c := by
  obtain ⟨M, rfl⟩ := p
  rw [List.idxOf_append, if_pos h]
theorem resC_mono {K K' : List (List D)} (p : K <+: K') : ∀ (k : Nat) (cs : List D), (∀ c ∈ leavesC k cs, c ∈ K) → resC K' k cs = resC K k cs
  | 0, cs, h => by
    simp only [resC]
    rw [idx_pre p (h cs (by simp [leavesC]))]
  | k + 1, cs, h => by
    simp only [resC, leavesC] at h ⊢
    cases e : sameHead cs with
    | none =>
      simp only [e] at h
      rw [idx_pre p (h cs List.mem_cons_self)]
    | some hh =>
      simp only [e] at h
      have e2 : (partsAt hh.2 cs).map (resC K' k) = (partsAt hh.2 cs).map (resC K k) := List.map_congr_left fun c hc => resC_mono p k c fun c' hc' => h c' (List.mem_flatMap.mpr ⟨c, hc, hc'⟩)
      show D.tup (.str hh.1 :: (partsAt hh.2 cs).map (resC K' k)) = D.tup (.str hh.1 :: (partsAt hh.2 cs).map (resC K k))
      rw [e2]
/-- the head of a column whose first entry is a term, and of which the others are made by putting values in -/
theorem sameHead_int (u : Int) (r : List D) : sameHead (.int u :: r) = none := by
  refine (if_neg ?_ : (if (hdOf (.int u)).isSome ∧ ∀ e ∈ D.int u :: r, hdOf e = hdOf (.int u) then hdOf (.int u) else none) = none)
  rintro ⟨h, _⟩
  cases h
theorem sameHead_tup {x : Str} {ds : List D} {r : List D} (h : ∀ e ∈ r, hdOf e = some (x, ds.length)) : sameHead (.tup (.str x :: ds) :: r) = some (x, ds.length) := by
  refine (if_pos ?_ : (if (hdOf (.tup (.str x :: ds))).isSome ∧ ∀ e ∈ D.tup (.str x :: ds) :: r, hdOf e = hdOf (.tup (.str x :: ds)) then hdOf (.tup (.str x :: ds)) else none) = _)
  refine ⟨rfl, fun e he => ?_⟩
  rcases List.mem_cons.mp he with z | z
  · rw [z]
  · exact h e z
/-- the column of a term and of what it comes to by these -/
def colOf (fs : List (Int → D)) (d : D) : List D := d :: fs.map fun f => putD f d
theorem col_parts (fs : List (Int → D)) (x : Str) (ds : List D) : partsAt ds.length (colOf fs (.tup (.str x :: ds))) = ds.map (colOf fs) := by
  unfold partsAt
  refine List.ext_getElem (by simp) fun i h1 h2 => ?_
  simp only [List.length_map, List.length_range] at h1
  simp only [List.getElem_map, List.getElem_range]
  unfold colOf
  rw [List.map_cons, List.map_map]
  congr 1
  · show ds.getD i .non = ds[i]
    rw [List.getD_eq_getElem?_getD, List.getElem?_eq_getElem h1]
    rfl
  · refine List.map_congr_left fun f _ => ?_
    show (puts f ds).getD i .non = putD f ds[i]
    rw [puts_map, List.getD_eq_getElem?_getD, List.getElem?_map, List.getElem?_eq_getElem h1]
    rfl
theorem col_head (fs : List (Int → D)) (x : Str) (ds : List D) : sameHead (colOf fs (.tup (.str x :: ds))) = some (x, ds.length) := by
  refine sameHead_tup fun e he => ?_
  obtain ⟨f, _, rfl⟩ := List.mem_map.mp he
  show some (x, (puts f ds).length) = _
  rw [puts_map, List.length_map]
/-- the unknowns' column -/
def colU (fs : List (Int → D)) (u : Int) : List D := .int u :: fs.map fun f => f u
theorem col_leaves {d : D} (t : Tm d) (fs : List (Int → D)) : ∀ k, d.deep ≤ k → leavesC k (colOf fs d) = (intsIn d).map (colU fs) := by
  induction t with
  | int u =>
    intro k _
    cases k with
    | zero => rfl
    | succ k =>
      have e : sameHead (colOf fs (.int u)) = none := sameHead_int u _
      simp only [leavesC, e]
      rfl
  | tup x ds h ih =>
    intro k hk
    simp only [D.deep, deeps] at hk
    obtain ⟨j, rfl⟩ : ∃ j, k = j + 1 := ⟨k - 1, by omega⟩
    simp only [leavesC, col_head, col_parts]
    have e : intsIn (.tup (.str x :: ds)) = intsOf ds := by simp [intsIn, intsOf]
    rw [e]
    have hd : deeps ds ≤ j := by omega
    clear hk e
    induction ds with
    | nil => rfl
    | cons d r ih2 =>
      simp only [deeps] at hd
      rw [List.map_cons, List.flatMap_cons, ih d List.mem_cons_self j (by omega), ih2 (fun e he => h e (List.mem_cons_of_mem _ he)) (fun e he => ih e (List.mem_cons_of_mem _ he)) (by omega)]
      simp only [intsOf, List.map_append]
theorem col_res {d : D} (t : Tm d) (fs : List (Int → D)) (K : List (List D)) : ∀ k, d.deep ≤ k → resC K k (colOf fs d) = putD (fun u => .int (K.idxOf (colU fs u) : Nat)) d := by
  induction t with
  | int u =>
    intro k _
    cases k with
    | zero => rfl
    | succ k =>
      have e : sameHead (colOf fs (.int u)) = none := sameHead_int u _
      simp only [resC, e]
      rfl
  | tup x ds h ih =>
    intro k hk
    simp only [D.deep, deeps] at hk
    obtain ⟨j, rfl⟩ : ∃ j, k = j + 1 := ⟨k - 1, by omega⟩
    simp only [resC, col_head, col_parts, putD, putT]
    rw [puts_map, List.map_map]
    congr 2
    refine List.map_congr_left fun d hd => ?_
    have := deep_mem hd
    exact ih d hd j (by omega)
theorem colU_inj {fs : List (Int → D)} {u v : Int} (h : colU fs u = colU fs v) : u = v := by
  unfold colU at h
  injection h with h1 h2
  injection h1
theorem adds_cols (fs : List (Int → D)) : ∀ (us vs : List Int), addsC (vs.map (colU fs)) (us.map (colU fs)) = (us.foldl addI vs).map (colU fs)
  | [], vs => rfl
  | u :: us, vs => by
    show addsC (addC (vs.map (colU fs)) (colU fs u)) (us.map (colU fs)) = ((us.foldl addI (addI vs u)).map (colU fs))
    rw [← adds_cols fs us (addI vs u)]
    congr 1
    unfold addC addI
    by_cases h : u ∈ vs
    · rw [if_pos h, if_pos (List.mem_map.mpr ⟨u, h, rfl⟩)]
    · rw [if_neg h, if_neg (fun z => h (by obtain ⟨v, hv, e⟩ := List.mem_map.mp z; rw [← colU_inj e]; exact hv)), List.map_append]
      rfl
theorem idx_cols (fs : List (Int → D)) (u : Int) : ∀ vs : List Int, (vs.map (colU fs)).idxOf (colU fs u) = vs.idxOf u
  | [] => rfl
  | v :: vs => by
    rw [List.map_cons, List.idxOf_cons, List.idxOf_cons, idx_cols fs u vs]
    by_cases h : v = u
    · subst h
      rw [beq_self_eq_true, beq_self_eq_true]
    · have h2 : colU fs v ≠ colU fs u := fun z => h (colU_inj z)
      rw [beq_eq_false_iff_ne.mpr h, beq_eq_false_iff_ne.mpr h2]
theorem gen_leaves (fs : List (Int → D)) (k : Nat) : ∀ ds : List D, (∀ d ∈ ds, Tm d) → deeps ds ≤ k → (ds.map (colOf fs)).flatMap (leavesC k) = (intsOf ds).map (colU fs)
  | [], _, _ => rfl
  | d :: r, t, hk => by
    simp only [deeps] at hk
    rw [List.map_cons, List.flatMap_cons, col_leaves (t d List.mem_cons_self) fs k (by omega), gen_leaves fs k r (fun e he => t e (List.mem_cons_of_mem _ he)) (by omega)]
    simp only [intsOf, List.map_append]
/-- the columns of lists of terms, at each place -/
noncomputable def genC (k : Nat) (cols : List (List D)) : List D := cols.map (resC (addsC [] (cols.flatMap (leavesC k))) k)
theorem gen_put {ds : List D} (t : ∀ d ∈ ds, Tm d) (fs : List (Int → D)) {k : Nat} (hk : deeps ds ≤ k) : genC k (ds.map (colOf fs)) = puts (numF ds) ds := by
  have e1 := gen_leaves fs k ds t hk
  have e2 : addsC [] ((intsOf ds).map (colU fs)) = (firstsOf ds).map (colU fs) := by
    have := adds_cols fs (intsOf ds) []
    rw [List.map_nil] at this
    rw [this]
    unfold firstsOf
    rw [leaves_ints t]
  unfold genC
  rw [e1, e2, puts_map, List.map_map]
  refine List.map_congr_left fun d hd => ?_
  have := deep_mem hd
  show resC _ k (colOf fs d) = _
  rw [col_res (t d hd) fs _ k (by omega)]
  congr 1
  funext u
  unfold numF
  rw [idx_cols]
theorem hd_some {e : D} {x : Str} {n : Nat} (h : hdOf e = some (x, n)) : ∃ es, e = .tup (.str x :: es) ∧ es.length = n := by
  unfold hdOf at h
  split at h
  · rename_i y ds
    injection h with h
    injection h with h1 h2
    exact ⟨ds, by rw [h1], h2⟩
  · cases h
theorem sameHead_none2 {d e : D} (h : hdOf e ≠ hdOf d) : sameHead [d, e] = none := by
  refine (if_neg ?_ : (if (hdOf d).isSome ∧ ∀ c ∈ [d, e], hdOf c = hdOf d then hdOf d else none) = none)
  rintro ⟨_, h2⟩
  exact h (h2 e (by simp))
/-- what stands beside an unknown of this number -/
noncomputable def backF (K : List (List D)) (g : Int → D) (u : Int) : D := match g u with
  | .int n => (K.getD n.toNat []).getD 1 .non
  | _ => .non
theorem parts2 (x : Str) (ds es : List D) : partsAt ds.length [.tup (.str x :: ds), .tup (.str x :: es)] = (List.range ds.length).map fun i => [ds.getD i .non, es.getD i .non] := rfl
theorem col_back {K : List (List D)} {g : Int → D} {d : D} (t : Tm d) : ∀ (k : Nat) (e : D), d.deep ≤ k → (∀ c ∈ leavesC k [d, e], c ∈ K) → resC K k [d, e] = putD g d → putD (backF K g) d = e := by
  induction t with
  | int u =>
    intro k e _ h eq
    have e1 : leavesC k [.int u, e] = [[.int u, e]] := by
      cases k with
      | zero => rfl
      | succ k => simp only [leavesC, sameHead_int]
    have e2 : resC K k [.int u, e] = .int (K.idxOf [.int u, e] : Nat) := by
      cases k with
      | zero => rfl
      | succ k => simp only [resC, sameHead_int]
    rw [e1] at h
    rw [e2] at eq
    have m := h _ List.mem_cons_self
    have lt := List.idxOf_lt_length_of_mem m
    show backF K g u = e
    have eq2 : g u = .int (K.idxOf [.int u, e] : Nat) := eq.symm
    unfold backF
    rw [eq2]
    show (K.getD (K.idxOf [.int u, e] : Int).toNat []).getD 1 .non = e
    have e3 : K.getD (K.idxOf [.int u, e]) [] = [.int u, e] := by
      rw [List.getD_eq_getElem?_getD, List.getElem?_eq_getElem lt, List.getElem_idxOf lt]
      rfl
    rw [Int.toNat_natCast, e3]
    rfl
  | tup x ds h ih =>
    intro k e hk hl eq
    simp only [D.deep, deeps] at hk
    obtain ⟨j, rfl⟩ : ∃ j, k = j + 1 := ⟨k - 1, by omega⟩
    by_cases hh : hdOf e = some (x, ds.length)
    · obtain ⟨es, rfl, le⟩ := hd_some hh
      have s : sameHead [.tup (.str x :: ds), .tup (.str x :: es)] = some (x, ds.length) := sameHead_tup fun c hc => by rw [List.mem_singleton.mp hc]; exact hh
      simp only [leavesC, resC, s, parts2, putD, putT] at hl eq
      injection eq with eq
      injection eq with _ eq
      rw [puts_map, List.map_map] at eq
      show D.tup (.str x :: puts (backF K g) ds) = _
      congr 2
      rw [puts_map]
      refine List.ext_getElem (by rw [List.length_map, le]) fun i h1 h2 => ?_
      rw [List.length_map] at h1
      rw [List.getElem_map]
      have a1 : ds.getD i .non = ds[i] := by rw [List.getD_eq_getElem?_getD, List.getElem?_eq_getElem h1]; rfl
      have a2 : es.getD i .non = es[i] := by rw [List.getD_eq_getElem?_getD, List.getElem?_eq_getElem h2]; rfl
      have dp := deep_mem (List.getElem_mem h1)
      refine ih _ (List.getElem_mem h1) j es[i] (by omega) (fun c hc => hl c (List.mem_flatMap.mpr ⟨[ds[i], es[i]], List.mem_map.mpr ⟨i, List.mem_range.mpr h1, by rw [a1, a2]⟩, hc⟩)) ?_
      have := congrArg (fun l : List D => l[i]?) eq
      simp only [List.getElem?_map, List.getElem?_range h1, List.getElem?_eq_getElem h1, Option.map_some, Function.comp, a1, a2] at this
      exact Option.some.inj this
    · have s : sameHead [.tup (.str x :: ds), e] = none := sameHead_none2 (by exact hh)
      simp only [resC, s] at eq
      cases eq
/-- two lists of terms: that they have in common the first one itself, numbered, is that values can be put in so that the second comes of it -/
theorem gen_two {ds es : List D} (t : ∀ d ∈ ds, Tm d) (hl : es.length = ds.length) {k : Nat} (hk : deeps ds ≤ k) : genC k (List.zipWith (fun d e => [d, e]) ds es) = puts (numF ds) ds ↔ ∃ f, puts f ds = es := by
  constructor
  · intro h
    refine ⟨backF (addsC [] ((List.zipWith (fun d e => [d, e]) ds es).flatMap (leavesC k))) (numF ds), ?_⟩
    unfold genC at h
    rw [puts_map] at h ⊢
    generalize hK : addsC [] ((List.zipWith (fun d e => [d, e]) ds es).flatMap (leavesC k)) = K at h ⊢
    refine List.ext_getElem (by rw [List.length_map, hl]) fun i h1 h2 => ?_
    rw [List.length_map] at h1
    rw [List.getElem_map]
    have dp := deep_mem (List.getElem_mem h1)
    have z : (List.zipWith (fun d e => [d, e]) ds es)[i]? = some [ds[i], es[i]] := by
      rw [List.getElem?_zipWith, List.getElem?_eq_getElem h1, List.getElem?_eq_getElem h2]
    refine col_back (t _ (List.getElem_mem h1)) k es[i] (by omega) (fun c hc => ?_) ?_
    · rw [← hK]
      exact addsC_mem (List.mem_flatMap.mpr ⟨_, List.mem_of_getElem? z, hc⟩)
    · have := congrArg (fun l : List D => l[i]?) h
      simp only [List.getElem?_map, z, List.getElem?_eq_getElem h1, Option.map_some] at this
      exact Option.some.inj this
  · rintro ⟨f, rfl⟩
    have e : List.zipWith (fun d e => [d, e]) ds (puts f ds) = ds.map (colOf [f]) := by
      rw [puts_map, List.zipWith_map_right]
      have go : ∀ l : List D, List.zipWith (fun d e => [d, putD f e]) l l = l.map (colOf [f]) := fun l => by
        induction l with
        | nil => rfl
        | cons d r ih => rw [List.zipWith_cons_cons, ih]; rfl
      exact go ds
    rw [e]
    exact gen_put t [f] hk
theorem gen_one {ds : List D} (t : ∀ d ∈ ds, Tm d) {k : Nat} (hk : deeps ds ≤ k) : genC k (ds.map fun d => [d]) = puts (numF ds) ds := gen_put t [] hk
/-- where it stands first -/
noncomputable def idxC (K : List (List D)) (cs : List D) : Nat := K.idxOf cs
theorem idxC_get {K : List (List D)} {cs : List D} (h : cs ∈ K) : K[idxC K cs]? = some cs := by
  have lt := List.idxOf_lt_length_of_mem h
  unfold idxC
  rw [List.getElem?_eq_getElem lt, List.getElem_idxOf lt]
theorem idxC_first {K : List (List D)} {cs : List D} {m : Nat} (h : m < idxC K cs) {ks : List D} (e : K[m]? = some ks) : ks ≠ cs := by
  obtain ⟨lt, rfl⟩ := List.getElem?_eq_some_iff.mp e
  have := List.not_of_lt_findIdx (p := (· == cs)) (xs := K) (i := m) h
  intro z
  simp [z] at this
theorem resC_none {K : List (List D)} {cs : List D} (h : sameHead cs = none) : ∀ k, resC K k cs = .int (idxC K cs : Nat)
  | 0 => rfl
  | k + 1 => by simp only [resC, h]; rfl
theorem leavesC_none {cs : List D} (h : sameHead cs = none) : ∀ k, leavesC k cs = [cs]
  | 0 => rfl
  | k + 1 => by simp only [leavesC, h]
theorem addC_not {kss : List (List D)} {cs : List D} (h : cs ∉ kss) : addC kss cs = kss ++ [cs] := if_neg h
theorem addC_in {kss : List (List D)} {cs : List D} (h : cs ∈ kss) : addC kss cs = kss := if_pos h
theorem tm_resC (K : List (List D)) : ∀ (k : Nat) (cs : List D), Tm (resC K k cs)
  | 0, cs => .int _
  | k + 1, cs => by
    simp only [resC]
    cases sameHead cs with
    | none => exact .int _
    | some h =>
      refine .tup _ _ fun d hd => ?_
      obtain ⟨c, _, rfl⟩ := List.mem_map.mp hd
      exact tm_resC K k c
theorem addsC_len (ls : List (List D)) : ∀ kn : List (List D), (addsC kn ls).length ≤ kn.length + ls.length := by
  induction ls with
  | nil => exact fun kn => Nat.le_refl _
  | cons c r ih =>
    intro kn
    have := ih (addC kn c)
    have h2 : (addC kn c).length ≤ kn.length + 1 := by
      unfold addC
      split
      · omega
      · rw [List.length_append]; simp
    show (addsC (addC kn c) r).length ≤ _
    simp only [List.length_cons]
    omega
theorem same_some {d0 : D} {r : List D} (h : (hdOf d0).isSome ∧ ∀ e ∈ d0 :: r, hdOf e = hdOf d0) : ∃ x ds, d0 = .tup (.str x :: ds) ∧ sameHead (d0 :: r) = some (x, ds.length) ∧ ∀ e ∈ d0 :: r, hdOf e = some (x, ds.length) := by
  obtain ⟨⟨x, n⟩, hn⟩ := Option.isSome_iff_exists.mp h.1
  obtain ⟨ds, rfl, rfl⟩ := hd_some hn
  refine ⟨x, ds, rfl, ?_, h.2⟩
  exact sameHead_tup fun e he => h.2 e (List.mem_cons_of_mem _ he)
/-- the parts at a place -/
def argV (H : Hp) (i : Nat) : V → V
  | .ref b => match H b with
    | some (.tup l) => l.getD (i + 1) .non
    | _ => .non
  | _ => .non
theorem arg_dv {H : Hp} {v : V} {e : D} {x : Str} {n i : Nat} (h : Dv H v e) (he : hdOf e = some (x, n)) (hi : i < n) : ∃ b l w, v = .ref b ∧ H b = some (.tup l) ∧ l.length = n + 1 ∧ l[i + 1]? = some w ∧ argV H i v = w ∧ Dv H w (argAt i e) := by
  obtain ⟨es, rfl, le⟩ := hd_some he
  cases h with
  | @tup b l _ hb hl =>
  have ll := hl.len
  simp only [List.length_cons] at ll
  obtain ⟨w, hw, dw⟩ := hl.getD (i := i + 1) (d := es[i]'(by omega)) (by rw [List.getElem?_cons_succ, List.getElem?_eq_getElem])
  refine ⟨b, l, w, rfl, hb, by omega, hw, ?_, ?_⟩
  · unfold argV
    simp only [hb]
    rw [List.getD_eq_getElem?_getD, hw]
    rfl
  · have e2 : argAt i (.tup (.str x :: es)) = es[i]'(by omega) := by
      show es.getD i .non = _
      rw [List.getD_eq_getElem?_getD, List.getElem?_eq_getElem]
      rfl
    rw [e2]
    exact dw
theorem args_dv {H : Hp} {x : Str} {n i : Nat} (hi : i < n) : ∀ {us : List V} {cs : List D}, DvL H us cs → (∀ e ∈ cs, hdOf e = some (x, n)) → DvL H (us.map (argV H i)) (cs.map (argAt i))
  | _, _, .nil, _ => .nil
  | _, _, .cons a b, h => by
    obtain ⟨_, _, w, _, _, _, _, e, g⟩ := arg_dv a (h _ List.mem_cons_self) hi
    rw [List.map_cons, List.map_cons, e]
    exact .cons g (args_dv hi b fun c hc => h c (List.mem_cons_of_mem _ hc))
theorem arg_tm {e : D} {x : Str} {n i : Nat} (t : Tm e) (he : hdOf e = some (x, n)) (hi : i < n) : Tm (argAt i e) ∧ (argAt i e).deep + 1 ≤ e.deep ∧ (argAt i e).size ≤ e.size := by
  obtain ⟨es, rfl, le⟩ := hd_some he
  have e2 : argAt i (.tup (.str x :: es)) = es[i]'(by omega) := by
    show es.getD i .non = _
    rw [List.getD_eq_getElem?_getD, List.getElem?_eq_getElem]
    rfl
  have m := List.getElem_mem (l := es) (n := i) (by omega)
  rw [e2]
  cases t with
  | tup _ _ h =>
    have d1 := deep_mem m
    have d2 := size_mem m
    refine ⟨h _ m, ?_, ?_⟩
    · simp only [D.deep, deeps]
      omega
    · simp only [D.size, sizes]
      omega
theorem args_tm {x : Str} {n i : Nat} (hi : i < n) : ∀ {cs : List D}, (∀ d ∈ cs, Tm d) → (∀ e ∈ cs, hdOf e = some (x, n)) → (∀ d ∈ cs.map (argAt i), Tm d) ∧ deeps (cs.map (argAt i)) ≤ deeps cs ∧ sizes (cs.map (argAt i)) ≤ sizes cs
  | [], _, _ => ⟨fun d h => (by cases h), Nat.le_refl _, Nat.le_refl _⟩
  | c :: r, t, h => by
    obtain ⟨a1, a2, a3⟩ := arg_tm (t c List.mem_cons_self) (h c List.mem_cons_self) hi
    obtain ⟨b1, b2, b3⟩ := args_tm hi (fun d hd => t d (List.mem_cons_of_mem _ hd)) (fun d hd => h d (List.mem_cons_of_mem _ hd))
    rw [List.map_cons]
    refine ⟨fun d hd => ?_, ?_, ?_⟩
    · rcases List.mem_cons.mp hd with rfl | hd
      · exact a1
      · exact b1 d hd
    · simp only [deeps]
      omega
    · simp only [sizes]
      omega
theorem leavesC_some {cs : List D} {h : Str × Nat} (e : sameHead cs = some h) (k : Nat) : leavesC (k + 1) cs = (partsAt h.2 cs).flatMap (leavesC k) := by simp only [leavesC, e]
theorem resC_some {K : List (List D)} {cs : List D} {h : Str × Nat} (e : sameHead cs = some h) (k : Nat) : resC K (k + 1) cs = .tup (.str h.1 :: (partsAt h.2 cs).map (resC K k)) := by simp only [resC, e]
theorem same_all {cs : List D} {h : Str × Nat} (e : sameHead cs = some h) : ∀ c ∈ cs, hdOf c = some h := by
  cases cs with
  | nil => cases e
  | cons c r =>
    by_cases hh : (hdOf c).isSome ∧ ∀ e ∈ c :: r, hdOf e = hdOf c
    · obtain ⟨x, ds, rfl, e2, h2⟩ := same_some hh
      rw [e2] at e
      rw [← Option.some.inj e]
      exact h2
    · have e2 : sameHead (c :: r) = none := if_neg hh
      rw [e2] at e
      cases e
def OkC (cs : List D) : Prop := (∀ d ∈ cs, Tm d) ∧ deeps cs ≤ 50
theorem leavesC_ok : ∀ (k : Nat) (cs : List D), OkC cs → ∀ c ∈ leavesC k cs, OkC c
  | 0, cs, ok, c, hc => by
    simp only [leavesC, List.mem_singleton] at hc
    rw [hc]
    exact ok
  | k + 1, cs, ok, c, hc => by
    cases e : sameHead cs with
    | none =>
      rw [leavesC_none e, List.mem_singleton] at hc
      rw [hc]
      exact ok
    | some h =>
      rw [leavesC_some e] at hc
      obtain ⟨p, hp, hc⟩ := List.mem_flatMap.mp hc
      obtain ⟨i, hi, rfl⟩ := List.mem_map.mp hp
      obtain ⟨a1, a2, _⟩ := args_tm (x := h.1) (n := h.2) (List.mem_range.mp hi) ok.1 (same_all e)
      exact leavesC_ok k _ ⟨a1, Nat.le_trans a2 ok.2⟩ c hc
theorem addC_ok {kss : List (List D)} {cs : List D} (h : ∀ ks ∈ kss, OkC ks) (ok : OkC cs) : ∀ ks ∈ addC kss cs, OkC ks := by
  intro ks hk
  unfold addC at hk
  split at hk
  · exact h ks hk
  · rcases List.mem_append.mp hk with hk | hk
    · exact h ks hk
    · rw [List.mem_singleton.mp hk]
      exact ok
theorem addsC_ok {ls : List (List D)} : ∀ {kss : List (List D)}, (∀ ks ∈ kss, OkC ks) → (∀ l ∈ ls, OkC l) → ∀ ks ∈ addsC kss ls, OkC ks := by
  induction ls with
  | nil => exact fun h _ => h
  | cons c r ih => exact fun {kss} h hl => ih (kss := addC kss c) (addC_ok h (hl c List.mem_cons_self)) fun l hm => hl l (List.mem_cons_of_mem _ hm)
theorem partsAt_get {n i : Nat} (hi : i < n) (cs : List D) : (partsAt n cs)[i]? = some (cs.map (argAt i)) := by
  unfold partsAt
  rw [List.getElem?_map, List.getElem?_range hi]
  rfl
theorem partsAt_len (n : Nat) (cs : List D) : (partsAt n cs).length = n := by
  unfold partsAt
  rw [List.length_map, List.length_range]
/-- what is known after so many parts -/
noncomputable def knAfter (kss : List (List D)) (m : Nat) (ps : List (List D)) (i : Nat) : List (List D) := addsC kss ((ps.take i).flatMap (leavesC m))
theorem knAfter_succ {kss : List (List D)} {m : Nat} {ps : List (List D)} {i : Nat} {p : List D} (h : ps[i]? = some p) : knAfter kss m ps (i + 1) = addsC (knAfter kss m ps i) (leavesC m p) := by
  unfold knAfter
  rw [take_succ' h, List.flatMap_append, addsC_app]
  congr 1
  rw [List.flatMap_cons, List.flatMap_nil, List.append_nil]
theorem knAfter_res {kss : List (List D)} {m : Nat} {ps : List (List D)} {i : Nat} {p : List D} (h : ps[i]? = some p) : (ps.take (i + 1)).map (resC (knAfter kss m ps (i + 1)) m) = (ps.take i).map (resC (knAfter kss m ps i) m) ++ [resC (addsC (knAfter kss m ps i) (leavesC m p)) m p] := by
  rw [knAfter_succ h, take_succ' h, List.map_append]
  congr 1
  refine List.map_congr_left fun c hc => resC_mono (addsC_pre _ _) m c fun l hl => ?_
  unfold knAfter
  exact addsC_mem (List.mem_flatMap.mpr ⟨c, hc, hl⟩)
theorem knAfter_len {kss : List (List D)} {m : Nat} {ps : List (List D)} {i : Nat} {p : List D} (h : ps[i]? = some p) : (knAfter kss m ps i).length + (leavesC m p).length ≤ kss.length + (ps.flatMap (leavesC m)).length := by
  have a := addsC_len ((ps.take i).flatMap (leavesC m)) kss
  have b : ps = ps.take i ++ p :: ps.drop (i + 1) := by
    obtain ⟨lt, rfl⟩ := List.getElem?_eq_some_iff.mp h
    rw [← List.drop_eq_getElem_cons lt, List.take_append_drop]
  have c : (ps.flatMap (leavesC m)).length = ((ps.take i).flatMap (leavesC m)).length + ((leavesC m p).length + ((ps.drop (i + 1)).flatMap (leavesC m)).length) := by
    conv => lhs; rw [b]
    rw [List.flatMap_append, List.flatMap_cons, List.length_append, List.length_append]
  unfold knAfter
  omega
theorem knAfter_ok {kss : List (List D)} {m : Nat} {ps : List (List D)} {i : Nat} (h : ∀ ks ∈ kss, OkC ks) (hp : ∀ p ∈ ps, OkC p) : ∀ ks ∈ knAfter kss m ps i, OkC ks :=
  addsC_ok h fun l hl => by
    obtain ⟨p, h1, h2⟩ := List.mem_flatMap.mp hl
    exact leavesC_ok m p (hp p (List.mem_of_mem_take h1)) l h2
theorem knAfter_all {kss : List (List D)} {m : Nat} {ps : List (List D)} {i : Nat} (h : ps.length ≤ i) : knAfter kss m ps i = addsC kss (ps.flatMap (leavesC m)) := by
  unfold knAfter
  rw [List.take_of_length_le h]
theorem flatMap_len {β : Type} : ∀ (ds : List D) (f : Nat → List β), (∀ (i : Nat) (d : D), ds[i]? = some d → (f i).length ≤ d.size) → ((List.range ds.length).flatMap f).length ≤ sizes ds
  | [], _, _ => by simp [sizes]
  | d :: r, f, h => by
    rw [List.length_cons, List.range_succ_eq_map, List.flatMap_cons, List.length_append, List.flatMap_map]
    have h0 := h 0 d rfl
    have h1 := flatMap_len r (fun i => f (i + 1)) fun i e he => h (i + 1) e (by rw [List.getElem?_cons_succ]; exact he)
    simp only [sizes]
    exact Nat.add_le_add h0 h1
theorem argAt_get {x : Str} {ds : List D} {i : Nat} {d : D} (h : ds[i]? = some d) : argAt i (.tup (.str x :: ds)) = d := by
  show ds.getD i .non = d
  rw [List.getD_eq_getElem?_getD, h]
  rfl
theorem leavesC_len : ∀ (k : Nat) (d0 : D) (r : List D), (leavesC k (d0 :: r)).length ≤ d0.size
  | 0, d0, r => by
    have := size_pos d0
    simpa [leavesC] using this
  | k + 1, d0, r => by
    cases e : sameHead (d0 :: r) with
    | none =>
      rw [leavesC_none e]
      exact size_pos d0
    | some h =>
      obtain ⟨ds, rfl, le⟩ := hd_some (same_all e d0 List.mem_cons_self)
      rw [leavesC_some e]
      unfold partsAt
      rw [List.flatMap_map, ← le]
      have := flatMap_len ds (fun i => leavesC k ((D.tup (.str h.1 :: ds) :: r).map (argAt i))) fun i d hd => by
        show (leavesC k (argAt i (.tup (.str h.1 :: ds)) :: r.map (argAt i))).length ≤ d.size
        rw [argAt_get hd]
        exact leavesC_len k d _
      simp only [D.size, sizes]
      omega
/-- the columns of lists of n terms -/
def colsOf (n : Nat) (rows : List (List D)) : List (List D) := (List.range n).map fun i => rows.map fun r => r.getD i .non
theorem colsOf_get {n i : Nat} (hi : i < n) (rows : List (List D)) : (colsOf n rows)[i]? = some (rows.map fun r => r.getD i .non) := by
  unfold colsOf
  rw [List.getElem?_map, List.getElem?_range hi]
  rfl
theorem colsOf_len (n : Nat) (rows : List (List D)) : (colsOf n rows).length = n := by
  unfold colsOf
  rw [List.length_map, List.length_range]
theorem cols_len (k : Nat) (r0 : List D) (rows : List (List D)) : ((colsOf r0.length (r0 :: rows)).flatMap (leavesC k)).length ≤ sizes r0 := by
  unfold colsOf
  rw [List.flatMap_map]
  refine flatMap_len r0 _ fun i d hd => ?_
  show (leavesC k (r0.getD i .non :: rows.map _)).length ≤ d.size
  rw [List.getD_eq_getElem?_getD, hd]
  exact leavesC_len k d _
theorem cols_one (ds : List D) : colsOf ds.length [ds] = ds.map fun d => [d] := by
  unfold colsOf
  refine List.ext_getElem (by simp) fun i h1 h2 => ?_
  rw [List.length_map, List.length_range] at h1
  simp only [List.getElem_map, List.getElem_range, List.map_cons, List.map_nil]
  rw [List.getD_eq_getElem?_getD, List.getElem?_eq_getElem h1]
  rfl
theorem cols_two (ds es : List D) (hl : es.length = ds.length) : colsOf ds.length [ds, es] = List.zipWith (fun d e => [d, e]) ds es := by
  unfold colsOf
  refine List.ext_getElem (by simp [hl]) fun i h1 h2 => ?_
  rw [List.length_map, List.length_range] at h1
  simp only [List.getElem_map, List.getElem_range, List.map_cons, List.map_nil, List.getElem_zipWith]
  rw [List.getD_eq_getElem?_getD, List.getElem?_eq_getElem h1, List.getD_eq_getElem?_getD, List.getElem?_eq_getElem (by omega)]
  rfl
/-- the entry of a list at a place -/
def rowV (H : Hp) (i : Nat) : V → V
  | .ref b => match H b with
    | some (.lst l) => l.getD i .non
    | _ => .non
  | _ => .non
theorem row_dv {H : Hp} {a : Addr} {us : List V} {row : List D} {i : Nat} (h : H a = some (.lst us)) (g : DvL H us row) (hi : i < row.length) : ∃ w, us[i]? = some w ∧ rowV H i (.ref a) = w ∧ Dv H w (row.getD i .non) := by
  have hd : row[i]? = some row[i] := List.getElem?_eq_getElem hi
  obtain ⟨w, hw, dw⟩ := g.getD hd
  refine ⟨w, hw, ?_, ?_⟩
  · unfold rowV
    simp only [h]
    rw [List.getD_eq_getElem?_getD, hw]
    rfl
  · rw [List.getD_eq_getElem?_getD, hd]
    exact dw
/-- these places hold lists of n terms each -/
def RowsAt (H : Hp) (n : Nat) : List Addr → List (List D) → Prop := Paired (fun (a : Addr) (row : List D) => row.length = n ∧ ∃ us, H a = some (.lst us) ∧ DvL H us row)
theorem rows_dv {H : Hp} {n i : Nat} (hi : i < n) : ∀ {as : List Addr} {rows : List (List D)}, RowsAt H n as rows → DvL H ((as.map V.ref).map (rowV H i)) (rows.map fun r => r.getD i .non)
  | _, _, .nil => .nil
  | _, _, .cons ⟨hl, us, e, g⟩ r => by
    obtain ⟨w, _, e2, dw⟩ := row_dv e g (hl ▸ hi)
    rw [List.map_cons, List.map_cons, List.map_cons, e2]
    exact .cons dw (rows_dv hi r)
theorem rows_get {H : Hp} {n : Nat} : ∀ {as : List Addr} {rows : List (List D)}, RowsAt H n as rows → ∀ a ∈ as, ∃ row us, row.length = n ∧ H a = some (.lst us) ∧ DvL H us row
  | _, _, .nil, _, h => by cases h
  | _, _, .cons ⟨hl, us, e, g⟩ r, a, h => by
    rcases List.mem_cons.mp h with z | h
    · rw [z]
      exact ⟨_, us, hl, e, g⟩
    · exact rows_get r a h
theorem col_tm {n i : Nat} (hi : i < n) : ∀ {rows : List (List D)}, (∀ r ∈ rows, OkC r ∧ r.length = n) → (∀ d ∈ rows.map (fun r => r.getD i .non), Tm d) ∧ deeps (rows.map fun r => r.getD i .non) ≤ 50 ∧ sizes (rows.map fun r => r.getD i .non) ≤ (rows.map sizes).sum
  | [], _ => ⟨fun d h => (by cases h), Nat.zero_le _, Nat.le_refl _⟩
  | r :: rows, h => by
    obtain ⟨⟨t, dp⟩, hl⟩ := h r List.mem_cons_self
    obtain ⟨b1, b2, b3⟩ := col_tm hi (rows := rows) fun x hx => h x (List.mem_cons_of_mem _ hx)
    have hi2 : i < r.length := by omega
    have e : r.getD i .non = r[i] := by
      rw [List.getD_eq_getElem?_getD, List.getElem?_eq_getElem hi2]
      rfl
    have m := List.getElem_mem hi2
    have d1 := deep_mem m
    have d2 := size_mem m
    simp only [List.map_cons, e, deeps, sizes, List.sum_cons]
    refine ⟨fun d hd => ?_, by omega, by omega⟩
    rcases List.mem_cons.mp hd with z | hd
    · rw [z]
      exact t _ m
    · exact b1 d hd
theorem res_deep (K : List (List D)) : ∀ (k : Nat) (d0 : D) (r : List D), (resC K k (d0 :: r)).deep ≤ d0.deep
  | 0, d0, r => Nat.zero_le _
  | k + 1, d0, r => by
    cases e : sameHead (d0 :: r) with
    | none =>
      rw [resC_none e]
      exact Nat.zero_le _
    | some h =>
      obtain ⟨ds, rfl, le⟩ := hd_some (same_all e d0 List.mem_cons_self)
      rw [resC_some e]
      simp only [D.deep, deeps]
      have : deeps ((partsAt h.2 (D.tup (.str h.1 :: ds) :: r)).map (resC K k)) ≤ deeps ds := by
        refine deeps_le fun d hd => ?_
        obtain ⟨c, hc, rfl⟩ := List.mem_map.mp hd
        obtain ⟨i, hi, rfl⟩ := List.mem_map.mp hc
        have hi2 : i < ds.length := by rw [le]; exact List.mem_range.mp hi
        have a := argAt_get (x := h.1) (List.getElem?_eq_getElem hi2)
        show (resC K k (argAt i (.tup (.str h.1 :: ds)) :: r.map (argAt i))).deep ≤ _
        rw [a]
        exact Nat.le_trans (res_deep K k _ _) (deep_mem (List.getElem_mem hi2))
      omega
theorem gen_tm (k : Nat) (cols : List (List D)) : ∀ d ∈ genC k cols, Tm d := by
  intro d hd
  obtain ⟨c, _, rfl⟩ := List.mem_map.mp hd
  exact tm_resC _ _ _
theorem gen_deep (k : Nat) (r0 : List D) (rows : List (List D)) : deeps (genC k (colsOf r0.length (r0 :: rows))) ≤ deeps r0 := by
  refine deeps_le fun d hd => ?_
  obtain ⟨c, hc, rfl⟩ := List.mem_map.mp hd
  obtain ⟨i, hi, rfl⟩ := List.mem_map.mp hc
  have hi2 := List.mem_range.mp hi
  have a : r0.getD i .non = r0[i] := by
    rw [List.getD_eq_getElem?_getD, List.getElem?_eq_getElem hi2]
    rfl
  show (resC _ k (r0.getD i .non :: rows.map _)).deep ≤ _
  rw [a]
  exact Nat.le_trans (res_deep _ k _ _) (deep_mem (List.getElem_mem hi2))
end Fm
set_option maxRecDepth 100000
set_option maxHeartbeats 4000000
namespace K15
open PySem L2 Fm
section
variable {P : Program} {w : World} {K : PySem.W.Frag} {mg : Str → Option Value} {base : Heap} (T : Txt K mg)
/-- the known columns -/
def KnAt (H : Hp) (kn : Addr) (kas : List Addr) (kss : List (List D)) : Prop := H kn = some (.lst (kas.map V.ref)) ∧ Paired (fun (a : Addr) (cs : List D) => a ≠ kn ∧ ∃ us, H a = some (.lst us) ∧ DvL H us cs) kas kss
def spCol (m : Nat) : Sp := fun vs H Q _ => ∃ (c kn : Addr) (us : List V) (cs : List D) (kas : List Addr) (kss : List (List D)) (d0 : D) (r0 : List D), vs = [.ref c, .ref kn] ∧ c ≠ kn ∧ H c = some (.lst us) ∧ DvL H us cs ∧ cs = d0 :: r0 ∧ d0.deep < m ∧ OkC cs ∧ sizes cs ≤ 100000 ∧
  KnAt H kn kas kss ∧ (∀ ks ∈ kss, OkC ks) ∧ kas.length + (leavesC m cs).length ≤ 100000 ∧
  ∀ (H' : Hp) (r : V) (kas' : List Addr), (∀ b o, H b = some o → b ≠ kn → H' b = some o) → KnAt H' kn kas' (addsC kss (leavesC m cs)) → (∀ a ∈ kas', a ∈ kas ∨ a = c ∨ H a = none) → Dv H' r (resC (addsC kss (leavesC m cs)) m cs) → Q r H'
/-- a term's head, as the law looks at it -/
def hdD : D → D
  | .tup (x :: ds) => .tup [x, .int ((ds.length + 1 : Nat) : Int)]
  | _ => .non
theorem hd_eqv {e c : D} (te : Tm e) (tc : Tm c) : PyData.eqv (pdOf (hdD e)) (pdOf (hdD c)) = true ↔ hdOf e = hdOf c := by
  cases te with
  | int u =>
    cases tc with
    | int v => simp [hdD, hdOf, pdOf, PyData.eqv]
    | tup y es _ => simp [hdD, hdOf, pdOf, PyData.eqv]
  | tup x ds _ =>
    cases tc with
    | int v => simp [hdD, hdOf, pdOf, PyData.eqv]
    | tup y es _ =>
      simp [hdD, hdOf, pdOf, pdsOf, PyData.eqv, PyData.eqvAll]
      intro _
      omega
theorem pds_map {α : Type} (f : α → D) : ∀ l : List α, pdsOf (l.map f) = l.map fun d => pdOf (f d)
  | [] => rfl
  | d :: r => by rw [List.map_cons, List.map_cons, pdsOf, pds_map f r]
theorem hd_count {c : D} {cs : List D} (tc : Tm c) (t : ∀ d ∈ cs, Tm d) : (pdsOf (cs.map hdD)).countP (fun z => PyData.eqv z (pdOf (hdD c))) = (cs.map hdD).length ↔ ∀ e ∈ cs, hdOf e = hdOf c := by
  rw [pds_map, List.countP_map, List.length_map, List.countP_eq_length]
  constructor
  · exact fun h e he => (hd_eqv (t e he) tc).mp (h e he)
  · exact fun h e he => (hd_eqv (t e he) tc).mpr (h e he)
theorem hd_data {cs : List D} (t : ∀ d ∈ cs, Tm d) : noDics (cs.map hdD) = true ∧ deeps (cs.map hdD) ≤ 1 := by
  induction cs with
  | nil => exact ⟨rfl, Nat.zero_le _⟩
  | cons d r ih =>
    obtain ⟨a, b⟩ := ih fun e he => t e (List.mem_cons_of_mem _ he)
    rw [List.map_cons]
    have td := t d List.mem_cons_self
    cases td with
    | int u => exact ⟨by simp [noDics, noDic, hdD, a], by simp only [deeps, hdD, D.deep]; omega⟩
    | tup x ds _ => exact ⟨by simp [noDics, noDic, hdD, a], by simp only [deeps, hdD, D.deep]; omega⟩
theorem eqv_lst {as bs : List D} (ta : ∀ d ∈ as, Tm d) (tb : ∀ d ∈ bs, Tm d) : PyData.eqv (pdOf (.lst as)) (pdOf (.lst bs)) = true ↔ as = bs := by
  show PyData.eqvAll (pdsOf as) (pdsOf bs) = true ↔ as = bs
  exact eqvs_tm (fun a ha b h => eqv_tm (ta a ha) b h) tb
theorem KnAt.dv {H : Hp} {kn : Addr} {kas : List Addr} {kss : List (List D)} (h : KnAt H kn kas kss) : Dv H (.ref kn) (.lst (kss.map D.lst)) := by
  refine .lst h.1 ?_
  have := h.2
  clear h
  induction this with
  | nil => exact .nil
  | cons a _ ih =>
    obtain ⟨_, us, e, g⟩ := a
    exact .cons (.lst e g) ih
theorem kn_data {kss : List (List D)} (h : ∀ ks ∈ kss, OkC ks) : noDics (kss.map D.lst) = true ∧ deeps (kss.map D.lst) ≤ 51 := by
  induction kss with
  | nil => exact ⟨rfl, Nat.zero_le _⟩
  | cons c r ih =>
    obtain ⟨a, b⟩ := ih fun e he => h e (List.mem_cons_of_mem _ he)
    obtain ⟨t, dp⟩ := h c List.mem_cons_self
    rw [List.map_cons]
    refine ⟨?_, by simp only [deeps, D.deep]; omega⟩
    have : noDics c = true := noDics_of fun d hd => (t d hd).noDic
    simp [noDics, noDic, a, this]
theorem KnAt.data {H : Hp} {kn : Addr} {kas : List Addr} {kss : List (List D)} (h : KnAt H kn kas kss) (ok : ∀ ks ∈ kss, OkC ks) : Dp K H (.ref kn) (.list (pdsOf (kss.map D.lst))) ∧ SeqAt.shaped (.list (pdsOf (kss.map D.lst))) = true := by
  obtain ⟨a, b⟩ := kn_data ok
  exact tm_data h.dv a (by simp only [D.deep]; omega)
theorem col_data {H : Hp} {c : Addr} {us : List V} {cs : List D} (hc : H c = some (.lst us)) (h : DvL H us cs) (ok : OkC cs) : Dp K H (.ref c) (pdOf (.lst cs)) ∧ SeqAt.shaped (pdOf (.lst cs)) = true := by
  refine tm_data (Dv.lst hc h) ?_ (by have := ok.2; simp only [D.deep]; omega)
  show noDics cs = true
  exact noDics_of fun d hd => (ok.1 d hd).noDic
theorem kn_any {kss : List (List D)} {cs : List D} (h : ∀ ks ∈ kss, OkC ks) (ok : OkC cs) : (pdsOf (kss.map D.lst)).any (fun e => PyData.eqv e (pdOf (.lst cs))) = true ↔ cs ∈ kss := by
  rw [pds_map, List.any_map, List.any_eq_true]
  constructor
  · rintro ⟨ks, hk, e⟩
    rw [← (eqv_lst (h ks hk).1 ok.1).mp e]
    exact hk
  · exact fun hm => ⟨cs, hm, (eqv_lst ok.1 ok.1).mpr rfl⟩
theorem kn_get (kss : List (List D)) (i : Nat) : (pdsOf (kss.map D.lst))[i]? = (kss[i]?).map fun ks => pdOf (.lst ks) := by
  rw [pds_map, List.getElem?_map]
theorem KnAt.keepP {H H' : Hp} {kn : Addr} {l : List V} (h1 : H kn = some (.lst l)) (k : ∀ b o, H b = some o → b ≠ kn → H' b = some o) : ∀ {kas : List Addr} {kss : List (List D)},
    Paired (fun (a : Addr) (cs : List D) => a ≠ kn ∧ ∃ us, H a = some (.lst us) ∧ DvL H us cs) kas kss → (∀ ks ∈ kss, OkC ks) → Paired (fun (a : Addr) (cs : List D) => a ≠ kn ∧ ∃ us, H' a = some (.lst us) ∧ DvL H' us cs) kas kss
  | _, _, .nil, _ => .nil
  | _, _, .cons ⟨n, us, e1, g⟩ r, ok => .cons ⟨n, us, k _ _ e1 n, DvL.keepT (fun b xs hb => k _ _ hb fun z => by rw [z, h1] at hb; cases hb) _ _ (ok _ List.mem_cons_self).1 g⟩ (KnAt.keepP h1 k r fun ks hks => ok ks (List.mem_cons_of_mem _ hks))
theorem KnAt.keep {H H' : Hp} {kn : Addr} {kas : List Addr} {kss : List (List D)} (h : KnAt H kn kas kss) (ok : ∀ ks ∈ kss, OkC ks) (k : ∀ b o, H b = some o → b ≠ kn → H' b = some o) :
    Paired (fun (a : Addr) (cs : List D) => a ≠ kn ∧ ∃ us, H' a = some (.lst us) ∧ DvL H' us cs) kas kss := KnAt.keepP h.1 k h.2 ok
theorem KnAt.mem {H : Hp} {kn : Addr} : ∀ {kas : List Addr} {kss : List (List D)}, Paired (fun (a : Addr) (cs : List D) => a ≠ kn ∧ ∃ us, H a = some (.lst us) ∧ DvL H us cs) kas kss → ∀ a ∈ kas, ∃ us, H a = some (.lst us)
  | _, _, .nil, _, h => by cases h
  | _, _, .cons ⟨_, us, e, _⟩ r, a, h => by
    rcases List.mem_cons.mp h with z | h
    · rw [z]
      exact ⟨us, e⟩
    · exact KnAt.mem r a h
theorem KnAt.offP {H : Hp} {kn x : Addr} {o : HO} {acc : List V} (hx : H x = some (.lst acc)) : ∀ {kas : List Addr} {kss : List (List D)}, Paired (fun (a : Addr) (cs : List D) => a ≠ kn ∧ ∃ us, H a = some (.lst us) ∧ DvL H us cs) kas kss → (∀ ks ∈ kss, OkC ks) → x ∉ kas →
    Paired (fun (a : Addr) (cs : List D) => a ≠ kn ∧ ∃ us, (upd H x o) a = some (.lst us) ∧ DvL (upd H x o) us cs) kas kss
  | _, _, .nil, _, _ => .nil
  | _, _, .cons ⟨n, us, e, g⟩ r, ok, nx => by
    refine .cons ⟨n, us, ?_, DvL.keepT (fun b xs hb => ?_) _ _ (ok _ List.mem_cons_self).1 g⟩ (KnAt.offP hx r (fun ks hks => ok ks (List.mem_cons_of_mem _ hks)) fun z => nx (List.mem_cons_of_mem _ z))
    · rw [upd_ne (fun z => nx (by rw [← z]; exact List.mem_cons_self))]
      exact e
    · rw [upd_ne (fun z => by rw [z, hx] at hb; cases hb)]
      exact hb
theorem KnAt.off {H : Hp} {kn x : Addr} {o : HO} {acc : List V} {kas : List Addr} {kss : List (List D)} (h : KnAt H kn kas kss) (ok : ∀ ks ∈ kss, OkC ks) (hx : H x = some (.lst acc)) (nx : x ∉ kas) (nk : x ≠ kn) : KnAt (upd H x o) kn kas kss :=
  ⟨by rw [upd_ne (Ne.symm nk)]; exact h.1, KnAt.offP hx h.2 ok nx⟩
theorem KnAt.same {H H' : Hp} {kn : Addr} {kas : List Addr} {kss : List (List D)} (h : KnAt H kn kas kss) (ok : ∀ ks ∈ kss, OkC ks) (k : Same H H') : KnAt H' kn kas kss := ⟨k _ _ h.1, h.keep ok fun b o e _ => k _ _ e⟩
theorem ok_law_column : ∀ m : Nat, FnOk P w K mg base CX0 (m + 2) T.a__law_column T.d__law_column ["_law_column_here", "_law_known"] (spCol m)
  | 0 => ⟨fun _ _ _ _ ⟨_, _, _, _, _, _, _, _, _, _, _, _, _, z, _⟩ => absurd z (Nat.not_lt_zero _), fun _ _ _ _ _ _ _ _ _ _ _ _ _ ⟨_, _, _, _, _, _, _, _, _, _, _, _, _, z, _⟩ => absurd z (Nat.not_lt_zero _)⟩
  | m + 1 => by
    have G__law_column := ok_law_column m
    refine T.F__law_column.ok sc__law_column ?_ (fun cdv A outer s H vs Q E hr h => ?_)
    · rintro vs H Q E ⟨c, kn, us, cs, kas, kss, d0, r0, rfl, _⟩
      rfl
    obtain ⟨c, kn, us, cs, kas, kss, d0, r0, rfl, nck, hc, hus, rfl, dp, ok, hz, kna, okk, hkl, q⟩ := h
    refine ⟨_, 
    (pss_cons (ps_setLc (i := 2) (own := [("_law_term_here", 4)]) (g := gName 4) (tt := tYes) rfl sc__law_column.nd rfl rfl (sw_true rfl rfl rfl (by decide +kernel)) (pi_list (pv 0)) (blkOk_by (N := N__law_column) (sc := defScope s__law_column) (by decide +kernel)) (fun _ _ _ _ _ => pg_name (i := 4) sc__law_column.nd rfl (Or.inl rfl)) (fun _ _ _ _ _ => pts_nil) (fun _ _ _ _ _ => pe_ifExp (pt_val (pe_isD (fun _ => kit_I) T.m_isinstance (pv 4) (pe_bltn (v := .ty "int") (u := .type "int") (by rfl) T.m_int (by decide +kernel) rfl) mon_var)) pe_non (pe_tup (pa_cons (pe_ix (r := rIxT K) ix_tup (pv 4) pe_int (fun _ _ => rfl)) (pa_cons (pe_callB (call_lenK (K := K) rfl) (by rfl) T.m_len (by decide +kernel) (pa_cons (pv 4) pa_nil)) pa_nil)))))
    (pss_cons (ps_if (PW.pt (pw_and (pt_cmpR op_notN (pe_ix ix_list (pv 2) pe_int (fun _ _ => rfl)) pe_non (nomark _)) (pw_and1 (pt_cmpR op_eq (pe_bm PySem.F.plainAttrs_list PySem.F.slot_list_count PySem.F.type_list_count (mt_countD (hu65 hr)) (pv 2) (pa_cons (pe_ix ix_list (pv 2) pe_int (fun _ _ => rfl)) pa_nil)) (pe_callB call_len_seq (by rfl) T.m_len (by decide +kernel) (pa_cons (pv 2) pa_nil)) (nomark _))))) (pss_cons (ps_setLc (i := 3) (own := [("_law_at", 5)]) (g := gName 5) (tt := tYes) rfl sc__law_column.nd rfl rfl (sw_true rfl rfl rfl (by decide +kernel)) (pi_range2 (by rfl) T.m_range (pa_cons pe_int (pa_cons (pe_callB call_len_seq (by rfl) T.m_len (by decide +kernel) (pa_cons (pe_ix ix_list (pv 0) pe_int (fun _ _ => rfl)) pa_nil)) pa_nil))) (blkOk_by (N := N__law_column) (sc := defScope s__law_column) (by decide +kernel)) (fun _ _ _ _ _ => pg_name (i := 5) sc__law_column.nd rfl (Or.inr rfl)) (fun _ _ _ _ _ => pts_nil) (fun _ _ _ _ _ => pe_lc (own := [("_law_term_here", 4)]) (g := gName 4) (tt := tYes) rfl sc__law_column.nd (pi_listK (K := K) rfl (pv 0)) (blkOk_by (by rfl)) (fun _ _ _ _ _ => pg_name (i := 4) sc__law_column.nd rfl (Or.inl rfl)) (fun _ _ _ _ _ => pts_nil) (fun _ _ _ _ _ => pe_ix (r := rIxT K) ix_tup (pv 4) (pv 5) (fun _ _ => rfl)))) (pss_one (ps_ret (pe_op op_catA (pe_slice sl_tupA (pe_ix ix_list (pv 0) pe_int (fun _ _ => rfl)) po_none (po_some pe_int)) (pe_callTy call_tuple_of (by rfl) T.m_tuple (by decide +kernel) (pa_cons (pe_lc (own := [("_law_part", 6)]) (g := gName 6) (tt := tYes) rfl sc__law_column.nd (pi_list (pv 3)) (blkOk_by (N := N__law_column) (sc := defScope s__law_column) (by decide +kernel)) (fun _ _ _ _ _ => pg_name (i := 6) sc__law_column.nd rfl (Or.inl rfl)) (fun _ _ _ _ _ => pts_nil) (fun _ _ _ _ _ => pe_call G__law_column (hr.mono (by omega)) (by rfl) T.f__law_column T.F__law_column.kp T.b__law_column .nil pass0 (pa_cons (pv 6) (pa_cons (pv 1) pa_nil)))) pa_nil)))))) pss_nil)
    (Evl.pss_cut (ps_if (pt_cmpR (op_niD hr.units) (pv 0) (pv 1) (by rfl)) (pss_one (ps_expr (pe_bm PySem.F.plainAttrs_list PySem.F.slot_list_append PySem.F.type_list_append mt_append (pv 1) (pa_cons (pv 0) pa_nil)))) pss_nil)
    (pss_one (ps_ret (pe_bm PySem.F.plainAttrs_list PySem.F.slot_list_index PySem.F.type_list_index (mt_indexD (hu65 hr)) (pv 1) (pa_cons (pv 0) pa_nil))))))), ?_⟩
    obtain ⟨htm, hdp⟩ := ok
    have lus := hus.len
    have lcs := len_sizes (d0 :: r0)
    refine ⟨_, rfl, c, rfl, ⟨us, SqL.of hc⟩, fun Dl hD => ?_⟩
    refine lc_newD (Hb := H) hdD (walk_list (K := K) (a := c) (xs := us)) (fun H' k => Evl.ex_l k (SqL.of hc)) hus hD (by omega) (fun _ => rfl) (fun _ _ _ r => r) (fun y d H' R k hm hy r => ?_) (fun H1 zs k1 hl hzs => ?_)
    · have tm := htm d hm
      refine ⟨_, rfl, d, hy.same k _ _, _, rfl, ite_b (fun ci => ?_) (fun ci => ?_)⟩
      · obtain ⟨u, rfl⟩ : ∃ u, d = .int u := by
          cases tm with
          | int u => exact ⟨u, rfl⟩
          | tup y rs _ => cases ci
        exact r _ H' (Same.refl _) .non
      · cases tm with
        | int u => cases ci
        | tup x rs _ =>
        cases hy with
        | @tup b ws _ hb hws =>
        cases hws with
        | @cons w0 wr _ _ h3 h4 =>
        cases h3 with
        | str _ ox =>
        have hb2 := k _ _ hb
        have lwr := h4.len
        refine ⟨_, rfl, b, _, 0, _, rfl, rfl, SqT.of hb2, atI_nat (j := 0) rfl, _, rfl, b, _, rfl, .inr (SqT.of hb2), by (show 2 ≤ sizeLine; decide), fun tp htp => ?_⟩
        refine r _ _ (Same.new htp) ?_
        have e1 : ((V.str x :: wr).length : Int) = ((rs.length + 1 : Nat) : Int) := by rw [List.length_cons, lwr]
        rw [e1]
        exact .tup (ovl_new (Same.none k htp) (newof_of htp upd_same)) (.cons (.str x ox) (.cons (.int _) .nil))
    have hzs1 : DvL H1 zs ((d0 :: r0).map hdD) := hzs.same (ovl_sub k1 newof_sub) _ _
    have lzs := hzs1.len
    rw [List.length_map] at lzs
    obtain ⟨nd1, dp1⟩ := hd_data htm
    obtain ⟨pl1, pl2⟩ := tm_data (K := K) (Dv.lst hl hzs1) nd1 (by simp only [D.deep]; omega)
    obtain ⟨v0, hv0, dv0⟩ := hzs1.getD (i := 0) (d := hdD d0) rfl
    have z0 : zs[0]? = some v0 := hv0
    refine ⟨_, rfl, Dl, zs, 0, v0, rfl, rfl, SqL.of hl, atI_nat (j := 0) z0, rfl, ?_⟩
    have hcnt : ∀ kd : Prop, ((((pdsOf ((d0 :: r0).map hdD)).countP (fun z => PyData.eqv z (pdOf (hdD d0))) : Nat) : Int) = ((zs.length : Nat) : Int) ↔ kd) → (kd ↔ ∀ e ∈ d0 :: r0, hdOf e = hdOf d0) := fun kd h => by
      rw [← h, ← hd_count (htm d0 List.mem_cons_self) htm, List.length_map, lzs]
      omega
    by_cases hh : (hdOf d0).isSome ∧ ∀ e ∈ d0 :: r0, hdOf e = hdOf d0
    · obtain ⟨dpa, dpb⟩ := tm_data (K := K) dv0 (by have := (htm d0 List.mem_cons_self); cases this <;> simp [hdD, noDic, noDics]) (by have := (htm d0 List.mem_cons_self); cases this <;> simp [hdD, D.deep, deeps])
      have cok : decide (V.int ((((pdsOf ((d0 :: r0).map hdD)).countP (fun z => PyData.eqv z (pdOf (hdD d0))) : Nat) : Int)) = V.int ((zs.length : Nat) : Int)) = true := by
        have := (hcnt _ Iff.rfl).mpr hh.2
        rw [this]
        exact decide_eq_true rfl
      obtain ⟨x, ds, rfl, shs, hall⟩ := same_some hh
      have hc1 := k1 _ _ hc
      have hus1 := hus.same k1 _ _
      have v0n : (!decide (v0 = V.non)) = true := by
        cases dv0
        simp
      refine ⟨_, rfl, ite_b (fun _ => ⟨_, rfl, .inl ⟨rfl, _, SqL.of hl⟩, _, rfl, Dl, zs, 0, v0, rfl, rfl, SqL.of hl, atI_nat (j := 0) z0, Dl, v0, _, _, rfl, rfl, pl1, dpa, pl2, dpb, _, rfl, Dl, zs, rfl, .inl (SqL.of hl), rfl, _, rfl, ite_b (fun _ => ?_) (fun c2 => absurd (cok.symm.trans c2) (by decide))⟩) (fun c1 => absurd (v0n.symm.trans c1) (by decide))⟩
      -- the parts
      cases hus with
      | @cons u0 ur _ _ hu0 hur =>
      have hu01 := hu0.same k1 _ _
      cases hu0 with
      | @tup b0 ws _ hb0 hws =>
      have lws := hws.len
      rw [List.length_cons] at lws
      have hb01 := k1 _ _ hb0
      have hz2 : ds.length ≤ 100000 := by
        have := size_mem (d := .tup (.str x :: ds)) (ds := .tup (.str x :: ds) :: r0) List.mem_cons_self
        have := len_sizes ds
        simp only [D.size, sizes] at *
        omega
      refine ⟨_, rfl, c, _, 0, _, rfl, rfl, SqL.of hc1, atI_nat (j := 0) rfl, b0, ws, rfl, .inr (SqT.of hb01), 1, _, rfl, ⟨by decide, by decide, by omega, by omega⟩, fun Dp hDp => ?_⟩
      have en : ((ws.length : Int) - 1).toNat = ds.length := by omega
      rw [en]
      generalize hcs : (D.tup (.str x :: ds) :: r0) = cs at *
      have hy : ∀ (σ' : L2.St) (H' : Hp) (R : Bool → Hp → Prop), R true H' → tYes σ' H' R := fun _ _ _ r => r
      have knk : ∀ {b o}, H1 b = some o → H b = none → b ≠ kn := fun {b o} e n z => by
        rw [z, kna.1] at n
        cases n
      refine lc_range (lo := 1) (fun i H' => Same H1 H' ∧ ∃ pas : List Addr, H' Dp = some (.lst (pas.map V.ref)) ∧ Paired (fun (a : Addr) (ks : List D) => H1 a = none ∧ a ≠ Dp ∧ ∃ vs, H' a = some (.lst vs) ∧ DvL H1 vs ks) pas ((partsAt ds.length cs).take i))
        ⟨Same.new hDp, [], upd_same, .nil⟩ ?_ ?_
      · rintro i H2 hi ⟨k2, pas, hpas, hp⟩
        refine ⟨rfl, hy _ _ _ ?_⟩
        rw [if_pos rfl]
        have lp := Paired.length hp
        rw [List.length_take, partsAt_len] at lp
        refine ⟨_, rfl, c, rfl, ⟨_, SqL.of (k2 _ _ hc1)⟩, fun Dq hDq => ?_⟩
        refine lc_listF (K := K) (argV H1 i) (SqL.of (k2 _ _ hc1)) hDq (by omega) (fun _ => rfl) (fun _ _ _ r => r) (fun y H' R k6 hm r => ?_) (fun H' k6 hl6 => ?_)
        · obtain ⟨j, hj⟩ := List.mem_iff_getElem?.mp hm
          obtain ⟨d, hd, dv⟩ := hus1.get hj
          obtain ⟨b, l, w, rfl, hb, ll, hw, ev, _⟩ := arg_dv dv (hall d (List.mem_of_getElem? hd)) hi
          have r2 := r H' (Same.refl _)
          rw [ev] at r2
          have e0 : (1 : Int) + (i : Int) = ((i + 1 : Nat) : Int) := by omega
          refine ⟨_, rfl, _, rfl, b, l, _, w, rfl, rfl, SqT.of ((k2.trans k6) _ _ hb), ?_, r2⟩
          rw [e0]
          exact atI_nat hw
        · have hpas6 := k6 _ _ hpas
          have nqp : Dq ≠ Dp := fun z => by
            rw [z, hpas] at hDq
            cases hDq
          refine ⟨_, hpas6, szl (by rw [List.length_map]; omega), Same.upd (k2.trans k6) hDp, pas ++ [Dq], ?_, ?_⟩
          · rw [List.map_append]
            exact upd_same
          · rw [take_succ' (partsAt_get hi cs)]
            refine paired_app (Paired.mapP hp fun a ks ⟨h1, h2, vs, h3, h4⟩ => ⟨h1, h2, vs, by rw [upd_ne h2]; exact k6 _ _ h3, h4⟩) (.cons ⟨Same.none k2 hDq, nqp, _, by rw [upd_ne nqp]; exact hl6, args_dv hi hus1 hall⟩ .nil)
      · rintro H2 ⟨k2, pas, hpas, hp⟩
        rw [List.take_of_length_le (Nat.le_of_eq (partsAt_len _ _))] at hp
        have lp := Paired.length hp
        rw [partsAt_len] at lp
        cases hws with
        | @cons w0 wr _ _ hw0 hwr =>
        cases hw0 with
        | str _ ox =>
        have cv : cutV (V.str x :: wr) none (some 1) = [V.str x] := by
          unfold cutV
          rw [sIx_none, sIx_at (by decide)]
          simp
        have hb02 := k2 _ _ hb01
        refine ⟨_, rfl, c, _, 0, _, rfl, rfl, SqL.of (k2 _ _ hc1), atI_nat (j := 0) rfl, _, rfl, b0, _, rfl, SqT.of hb02, fun z => ?_, fun z p hp2 => ?_⟩
        · obtain ⟨H3, kt, ht1, eg⟩ : ∃ H3, Same H2 H3 ∧ H3 b0 = some (.tup [.str x]) ∧ H2 = H3 := by
            refine ⟨H2, Same.refl _, ?_, rfl⟩
            have : wr = [] := by
              have z2 := z.2
              rw [sIx_at (by decide)] at z2
              simp only [List.length_cons] at z2
              cases wr with
              | nil => rfl
              | cons a r => simp only [List.length_cons] at z2; omega
            rw [this] at hb02
            exact hb02
          rw [eg]
          generalize b0 = t1 at ht1 ⊢
          clear eg
          have k13 := k1.trans (k2.trans kt)
          have k23 := k2.trans kt
          have hpas3 := kt _ _ hpas
          have hkn3 := k13 _ _ kna.1
          have kna3 : KnAt H3 kn kas kss := ⟨hkn3, kna.keep okk fun b o e _ => k13 _ _ e⟩
          generalize hps : partsAt ds.length cs = ps at hp
          have lps : ps.length = ds.length := by rw [← hps, partsAt_len]
          have okp : ∀ p ∈ ps, OkC p := fun p hp' => by
            rw [← hps] at hp'
            obtain ⟨i, hi, rfl⟩ := List.mem_map.mp hp'
            obtain ⟨a1, a2, _⟩ := args_tm (List.mem_range.mp hi) htm hall
            exact ⟨a1, Nat.le_trans a2 hdp⟩
          have lvs : leavesC (m + 1) cs = ps.flatMap (leavesC m) := by rw [leavesC_some shs, hps]
          have lkk := Paired.length kna.2
          rw [lvs] at hkl q
          refine ⟨_, rfl, Dp, rfl, ⟨_, SqL.of hpas3⟩, fun Dr hDr => ?_⟩
          have nrk : Dr ≠ kn := fun z => by
            rw [z, hkn3] at hDr
            cases hDr
          have ndk : Dp ≠ kn := fun z => by
            rw [z, hkn3] at hpas3
            have e := hDp
            rw [z, k1 _ _ kna.1] at e
            cases e
          have hDrH : H Dr = none := Same.none k13 hDr
          have mem0 : D.tup (.str x :: ds) ∈ cs := by rw [← hcs]; exact List.mem_cons_self
          refine lc_list (K := K) (xs := pas.map V.ref) (fun i H' => (∀ b o, H3 b = some o → b ≠ kn → H' b = some o) ∧ ∃ acc kas', H' Dr = some (.lst acc) ∧ KnAt H' kn kas' (knAfter kss m ps i) ∧ DvL H' acc ((ps.take i).map (resC (knAfter kss m ps i) m)) ∧ (∀ a ∈ kas', a ∈ kas ∨ H a = none) ∧ Dr ∉ kas')
            ⟨fun b o hb _ => Same.new hDr _ _ hb, [], kas, upd_same, ⟨Same.new hDr _ _ hkn3, kna3.keep okk fun b o hb _ => Same.new hDr _ _ hb⟩, .nil, fun a ha => .inl ha, fun z => ?_⟩ (fun i H' _ ⟨kp, _⟩ => SqL.of (kp _ _ hpas3 ndk)) ?_ ?_
          · obtain ⟨us', e⟩ := KnAt.mem kna3.2 Dr z
            rw [hDr] at e
            cases e
          · rintro i xv H' hx ⟨kp, acc, kas', hacc, hkn', hdv, hin, hnr⟩
            rw [List.getElem?_map] at hx
            obtain ⟨a, hai, rfl⟩ := Option.map_eq_some_iff.mp hx
            have hi : i < ds.length := by
              have := (List.getElem?_eq_some_iff.mp hai).1
              omega
            have hpi := partsAt_get hi cs
            rw [hps] at hpi
            obtain ⟨a', e1, n1, n2, vs, hvs, hdvs⟩ := paired_get hp i _ hpi
            obtain rfl : a' = a := Option.some.inj (e1.symm.trans hai)
            have nak : a' ≠ kn := fun z => by
              rw [z, k1 _ _ kna.1] at n1
              cases n1
            refine ⟨rfl, hy _ _ _ ?_⟩
            rw [if_pos rfl]
            obtain ⟨tm1, dp1', sz1⟩ := args_tm hi htm hall
            obtain ⟨_, dpa', _⟩ := arg_tm (htm _ mem0) (hall _ mem0) hi
            have okK := knAfter_ok (m := m) (i := i) okk okp
            have lenK := Paired.length hkn'.2
            have cnt := knAfter_len (kss := kss) (m := m) hpi
            have tupk : ∀ b xs, H' b = some (.tup xs) → b ≠ kn := fun b xs hb z => by
              rw [z, hkn'.1] at hb
              cases hb
            refine ⟨_, rfl, _, rfl, a', kn, vs, cs.map (argAt i), kas', _, argAt i (.tup (.str x :: ds)), r0.map (argAt i), rfl, nak, kp _ _ (kt _ _ hvs) nak, ?_, by rw [← hcs]; rfl, by omega, ⟨tm1, by omega⟩, by omega, hkn', okK, by omega, fun H4 r kas'' keep4 kn4 kin4 dr => ⟨acc, keep4 _ _ hacc nrk, ?_, ?_, acc ++ [r], kas'', upd_same, ?_, ?_, ?_, ?_⟩⟩
            · exact DvL.keepT (H := H3) (fun b xs hb => kp _ _ hb fun z => by rw [z, hkn3] at hb; cases hb) _ _ tm1 (hdvs.same k23 _ _)
            · have := hdv.len
              rw [List.length_map, List.length_take] at this
              exact szl (by omega)
            · intro b o hb nb
              rw [upd_ne (fun z => by rw [z, hDr] at hb; cases hb)]
              exact keep4 _ _ (kp _ _ hb nb) nb
            all_goals
              have nr2 : Dr ∉ kas'' := fun z => by
                rcases kin4 Dr z with w | w | w
                · exact hnr w
                · rw [w, kt _ _ hvs] at hDr
                  cases hDr
                · rw [hacc] at w
                  cases w
            · rw [knAfter_succ hpi]
              exact kn4.off (by rw [← knAfter_succ hpi]; exact knAfter_ok okk okp) (keep4 _ _ hacc nrk) nr2 nrk
            · rw [knAfter_res hpi]
              have kk : ∀ b xs, H4 b = some (.tup xs) → (upd H4 Dr (.lst (acc ++ [r]))) b = some (.tup xs) := fun b xs hb => by
                rw [upd_ne (fun z => by rw [z, keep4 _ _ hacc nrk] at hb; cases hb)]
                exact hb
              refine DvL.snoc (DvL.keepT (H := H') (fun b xs hb => kk _ _ (keep4 _ _ hb (tupk b xs hb))) _ _ (fun d hd => ?_) hdv) (Dv.keepT kk _ _ (tm_resC _ _ _) dr)
              obtain ⟨cc, _, rfl⟩ := List.mem_map.mp hd
              exact tm_resC _ _ _
            · intro b hb
              rcases kin4 b hb with w | w | w
              · exact hin b w
              · rw [w]
                exact .inr (Same.none k1 n1)
              · refine .inr ?_
                cases e : H b with
                | none => rfl
                | some o =>
                  by_cases z : b = kn
                  · rw [z, hkn'.1] at w
                    cases w
                  · rw [kp _ _ (k13 _ _ e) z] at w
                    cases w
            · exact nr2
          · rintro H' ⟨kp, acc, kas', hacc, hkn', hdv, hin, hnr⟩
            have el : (pas.map V.ref).length = ps.length := by rw [List.length_map]; omega
            rw [el, knAfter_all (Nat.le_refl _)] at hkn' hdv
            rw [List.take_of_length_le (Nat.le_refl _)] at hdv
            have okK : ∀ ks ∈ addsC kss (ps.flatMap (leavesC m)), OkC ks := by
              rw [← knAfter_all (Nat.le_refl _)]
              exact knAfter_ok okk okp
            have h1' := kp _ _ ht1 fun z => by rw [z, hkn3] at ht1; cases ht1
            have ll := hdv.len
            rw [List.length_map] at ll
            have fin : ∀ (H5 : Hp) (t : Addr) (l : List V), Same H' H5 → H5 t = some (.tup (.str x :: l)) → DvL H5 l (ps.map (resC (addsC kss (ps.flatMap (leavesC m))) m)) → Q (.ref t) H5 := fun H5 t l k5 ht hl5 => by
              refine q H5 _ kas' (fun b o hb nb => k5 _ _ (kp _ _ (k13 _ _ hb) nb)) (hkn'.same okK k5) (fun a ha => (hin a ha).imp id .inr) ?_
              rw [resC_some shs, hps]
              exact .tup ht (.cons (.str x ox) hl5)
            refine ⟨Dr, acc, rfl, .inl ⟨SqL.of hacc, fun t2 ht2 => ⟨t1, t2, _, acc, rfl, rfl, SqT.of (Same.new ht2 _ _ h1'), SqT.of upd_same, sz (by simp only [List.length_cons, List.length_nil]; omega), fun z => (by cases z), fun _ z => ?_, fun _ _ t3 ht3 => ?_⟩⟩⟩
            · refine fin _ t1 [] (Same.new ht2) (Same.new ht2 _ _ h1') ?_
              rw [z] at hdv
              exact hdv.same (Same.new ht2) _ _
            · exact fin _ t3 acc ((Same.new ht2).trans (Same.new ht3)) upd_same (hdv.same ((Same.new ht2).trans (Same.new ht3)) _ _)
        · obtain ⟨H3, kt, ht1, eg⟩ : ∃ H3, Same H2 H3 ∧ H3 p = some (.tup [.str x]) ∧ upd H2 p (.tup (cutV (V.str x :: wr) none (some 1))) = H3 := ⟨_, Same.new hp2, by rw [cv]; exact upd_same, rfl⟩
          rw [eg]
          generalize p = t1 at ht1 ⊢
          clear eg
          have k13 := k1.trans (k2.trans kt)
          have k23 := k2.trans kt
          have hpas3 := kt _ _ hpas
          have hkn3 := k13 _ _ kna.1
          have kna3 : KnAt H3 kn kas kss := ⟨hkn3, kna.keep okk fun b o e _ => k13 _ _ e⟩
          generalize hps : partsAt ds.length cs = ps at hp
          have lps : ps.length = ds.length := by rw [← hps, partsAt_len]
          have okp : ∀ p ∈ ps, OkC p := fun p hp' => by
            rw [← hps] at hp'
            obtain ⟨i, hi, rfl⟩ := List.mem_map.mp hp'
            obtain ⟨a1, a2, _⟩ := args_tm (List.mem_range.mp hi) htm hall
            exact ⟨a1, Nat.le_trans a2 hdp⟩
          have lvs : leavesC (m + 1) cs = ps.flatMap (leavesC m) := by rw [leavesC_some shs, hps]
          have lkk := Paired.length kna.2
          rw [lvs] at hkl q
          refine ⟨_, rfl, Dp, rfl, ⟨_, SqL.of hpas3⟩, fun Dr hDr => ?_⟩
          have nrk : Dr ≠ kn := fun z => by
            rw [z, hkn3] at hDr
            cases hDr
          have ndk : Dp ≠ kn := fun z => by
            rw [z, hkn3] at hpas3
            have e := hDp
            rw [z, k1 _ _ kna.1] at e
            cases e
          have hDrH : H Dr = none := Same.none k13 hDr
          have mem0 : D.tup (.str x :: ds) ∈ cs := by rw [← hcs]; exact List.mem_cons_self
          refine lc_list (K := K) (xs := pas.map V.ref) (fun i H' => (∀ b o, H3 b = some o → b ≠ kn → H' b = some o) ∧ ∃ acc kas', H' Dr = some (.lst acc) ∧ KnAt H' kn kas' (knAfter kss m ps i) ∧ DvL H' acc ((ps.take i).map (resC (knAfter kss m ps i) m)) ∧ (∀ a ∈ kas', a ∈ kas ∨ H a = none) ∧ Dr ∉ kas')
            ⟨fun b o hb _ => Same.new hDr _ _ hb, [], kas, upd_same, ⟨Same.new hDr _ _ hkn3, kna3.keep okk fun b o hb _ => Same.new hDr _ _ hb⟩, .nil, fun a ha => .inl ha, fun z => ?_⟩ (fun i H' _ ⟨kp, _⟩ => SqL.of (kp _ _ hpas3 ndk)) ?_ ?_
          · obtain ⟨us', e⟩ := KnAt.mem kna3.2 Dr z
            rw [hDr] at e
            cases e
          · rintro i xv H' hx ⟨kp, acc, kas', hacc, hkn', hdv, hin, hnr⟩
            rw [List.getElem?_map] at hx
            obtain ⟨a, hai, rfl⟩ := Option.map_eq_some_iff.mp hx
            have hi : i < ds.length := by
              have := (List.getElem?_eq_some_iff.mp hai).1
              omega
            have hpi := partsAt_get hi cs
            rw [hps] at hpi
            obtain ⟨a', e1, n1, n2, vs, hvs, hdvs⟩ := paired_get hp i _ hpi
            obtain rfl : a' = a := Option.some.inj (e1.symm.trans hai)
            have nak : a' ≠ kn := fun z => by
              rw [z, k1 _ _ kna.1] at n1
              cases n1
            refine ⟨rfl, hy _ _ _ ?_⟩
            rw [if_pos rfl]
            obtain ⟨tm1, dp1', sz1⟩ := args_tm hi htm hall
            obtain ⟨_, dpa', _⟩ := arg_tm (htm _ mem0) (hall _ mem0) hi
            have okK := knAfter_ok (m := m) (i := i) okk okp
            have lenK := Paired.length hkn'.2
            have cnt := knAfter_len (kss := kss) (m := m) hpi
            have tupk : ∀ b xs, H' b = some (.tup xs) → b ≠ kn := fun b xs hb z => by
              rw [z, hkn'.1] at hb
              cases hb
            refine ⟨_, rfl, _, rfl, a', kn, vs, cs.map (argAt i), kas', _, argAt i (.tup (.str x :: ds)), r0.map (argAt i), rfl, nak, kp _ _ (kt _ _ hvs) nak, ?_, by rw [← hcs]; rfl, by omega, ⟨tm1, by omega⟩, by omega, hkn', okK, by omega, fun H4 r kas'' keep4 kn4 kin4 dr => ⟨acc, keep4 _ _ hacc nrk, ?_, ?_, acc ++ [r], kas'', upd_same, ?_, ?_, ?_, ?_⟩⟩
            · exact DvL.keepT (H := H3) (fun b xs hb => kp _ _ hb fun z => by rw [z, hkn3] at hb; cases hb) _ _ tm1 (hdvs.same k23 _ _)
            · have := hdv.len
              rw [List.length_map, List.length_take] at this
              exact szl (by omega)
            · intro b o hb nb
              rw [upd_ne (fun z => by rw [z, hDr] at hb; cases hb)]
              exact keep4 _ _ (kp _ _ hb nb) nb
            all_goals
              have nr2 : Dr ∉ kas'' := fun z => by
                rcases kin4 Dr z with w | w | w
                · exact hnr w
                · rw [w, kt _ _ hvs] at hDr
                  cases hDr
                · rw [hacc] at w
                  cases w
            · rw [knAfter_succ hpi]
              exact kn4.off (by rw [← knAfter_succ hpi]; exact knAfter_ok okk okp) (keep4 _ _ hacc nrk) nr2 nrk
            · rw [knAfter_res hpi]
              have kk : ∀ b xs, H4 b = some (.tup xs) → (upd H4 Dr (.lst (acc ++ [r]))) b = some (.tup xs) := fun b xs hb => by
                rw [upd_ne (fun z => by rw [z, keep4 _ _ hacc nrk] at hb; cases hb)]
                exact hb
              refine DvL.snoc (DvL.keepT (H := H') (fun b xs hb => kk _ _ (keep4 _ _ hb (tupk b xs hb))) _ _ (fun d hd => ?_) hdv) (Dv.keepT kk _ _ (tm_resC _ _ _) dr)
              obtain ⟨cc, _, rfl⟩ := List.mem_map.mp hd
              exact tm_resC _ _ _
            · intro b hb
              rcases kin4 b hb with w | w | w
              · exact hin b w
              · rw [w]
                exact .inr (Same.none k1 n1)
              · refine .inr ?_
                cases e : H b with
                | none => rfl
                | some o =>
                  by_cases z : b = kn
                  · rw [z, hkn'.1] at w
                    cases w
                  · rw [kp _ _ (k13 _ _ e) z] at w
                    cases w
            · exact nr2
          · rintro H' ⟨kp, acc, kas', hacc, hkn', hdv, hin, hnr⟩
            have el : (pas.map V.ref).length = ps.length := by rw [List.length_map]; omega
            rw [el, knAfter_all (Nat.le_refl _)] at hkn' hdv
            rw [List.take_of_length_le (Nat.le_refl _)] at hdv
            have okK : ∀ ks ∈ addsC kss (ps.flatMap (leavesC m)), OkC ks := by
              rw [← knAfter_all (Nat.le_refl _)]
              exact knAfter_ok okk okp
            have h1' := kp _ _ ht1 fun z => by rw [z, hkn3] at ht1; cases ht1
            have ll := hdv.len
            rw [List.length_map] at ll
            have fin : ∀ (H5 : Hp) (t : Addr) (l : List V), Same H' H5 → H5 t = some (.tup (.str x :: l)) → DvL H5 l (ps.map (resC (addsC kss (ps.flatMap (leavesC m))) m)) → Q (.ref t) H5 := fun H5 t l k5 ht hl5 => by
              refine q H5 _ kas' (fun b o hb nb => k5 _ _ (kp _ _ (k13 _ _ hb) nb)) (hkn'.same okK k5) (fun a ha => (hin a ha).imp id .inr) ?_
              rw [resC_some shs, hps]
              exact .tup ht (.cons (.str x ox) hl5)
            refine ⟨Dr, acc, rfl, .inl ⟨SqL.of hacc, fun t2 ht2 => ⟨t1, t2, _, acc, rfl, rfl, SqT.of (Same.new ht2 _ _ h1'), SqT.of upd_same, sz (by simp only [List.length_cons, List.length_nil]; omega), fun z => (by cases z), fun _ z => ?_, fun _ _ t3 ht3 => ?_⟩⟩⟩
            · refine fin _ t1 [] (Same.new ht2) (Same.new ht2 _ _ h1') ?_
              rw [z] at hdv
              exact hdv.same (Same.new ht2) _ _
            · exact fin _ t3 acc ((Same.new ht2).trans (Same.new ht3)) upd_same (hdv.same ((Same.new ht2).trans (Same.new ht3)) _ _)
    · have shn : sameHead (d0 :: r0) = none := if_neg hh
      obtain ⟨dpa, dpb⟩ := tm_data (K := K) dv0 (by have := (htm d0 List.mem_cons_self); cases this <;> simp [hdD, noDic, noDics]) (by have := (htm d0 List.mem_cons_self); cases this <;> simp [hdD, D.deep, deeps])
      have sm : (!decide (v0 = V.non)) = true → decide (V.int ((((pdsOf ((d0 :: r0).map hdD)).countP (fun z => PyData.eqv z (pdOf (hdD d0))) : Nat) : Int)) = V.int ((zs.length : Nat) : Int)) = true → (hdOf d0).isSome ∧ ∀ e ∈ d0 :: r0, hdOf e = hdOf d0 := fun c1 c2 => by
        refine ⟨?_, (hcnt _ Iff.rfl).mp ?_⟩
        · have t0 := htm d0 List.mem_cons_self
          cases t0 with
          | int u =>
            cases dv0
            simp at c1
          | tup x ds _ => rfl
        · injection of_decide_eq_true c2
      refine ⟨_, rfl, ite_b (fun c1 => ⟨_, rfl, .inl ⟨rfl, _, SqL.of hl⟩, _, rfl, Dl, zs, 0, v0, rfl, rfl, SqL.of hl, atI_nat (j := 0) z0, Dl, v0, _, _, rfl, rfl, pl1, dpa, pl2, dpb, _, rfl, Dl, zs, rfl, .inl (SqL.of hl), rfl, _, rfl, ite_b (fun c2 => absurd (sm c1 c2) hh) (fun c2 => ?_)⟩) (fun c1 => ?_)⟩
      all_goals
        have kna1 : KnAt H1 kn kas kss := ⟨k1 _ _ kna.1, kna.keep okk fun b o e _ => k1 _ _ e⟩
        have hc1 := k1 _ _ hc
        have hus1 := hus.same k1 _ _
        obtain ⟨ka1, ka2⟩ := kna1.data (K := K) okk
        obtain ⟨ca1, ca2⟩ := col_data (K := K) hc1 hus1 ⟨htm, hdp⟩
        have ca3 : (pdOf (.lst (d0 :: r0))).canLay0 = true := SeqAt.canLay_of_shaped ca2
        have ka3 : PyData.canLayAll0 (pdsOf (kss.map D.lst)) = true := SeqAt.canLay_of_shaped ka2
        have pdd := pd_depth (.lst (d0 :: r0))
        simp only [D.deep] at pdd
        refine ⟨fun σ H' => σ = [some (.ref c), some (.ref kn), some (.ref Dl), none, none, none, none] ∧ (∀ b o, H b = some o → b ≠ kn → H' b = some o) ∧ ∃ kas', KnAt H' kn kas' (addC kss (d0 :: r0)) ∧ ∀ a ∈ kas', a ∈ kas ∨ a = c, ⟨_, rfl, _, rfl, _, _, ca1, ka1, ka3, ca3, by omega, _, rfl, ite_b (fun c3 => ?_) (fun c3 => ?_)⟩, ?_⟩
        · have nin : d0 :: r0 ∉ kss := fun z => by
            have := (kn_any okk ⟨htm, hdp⟩).mpr z
            rw [this] at c3
            simp at c3
          have lk := Paired.length kna.2
          have nc1 : ∀ b o, H b = some o → b ≠ kn → (upd H1 kn (.lst (kas.map V.ref ++ [V.ref c]))) b = some o := fun b o hb nb => by
            rw [upd_ne nb]
            exact k1 _ _ hb
          have nk : ∀ b o, H1 b = some o → b ≠ kn → (upd H1 kn (.lst (kas.map V.ref ++ [V.ref c]))) b = some o := fun b o hb nb => by
            rw [upd_ne nb]
            exact hb
          refine ⟨_, rfl, .inl ⟨rfl, _, SqL.of kna1.1⟩, _, rfl, kn, _, _, rfl, rfl, kna1.1, szl (by rw [List.length_map]; omega), rfl, nc1, kas ++ [c], ⟨?_, ?_⟩, fun a ha => (List.mem_append.mp ha).imp id List.mem_singleton.mp⟩
          · rw [List.map_append]
            exact upd_same
          · rw [addC_not nin]
            refine paired_app (kna1.keep okk nk) (.cons ⟨nck, us, nc1 _ _ hc nck, DvL.keepT (fun b xs hb => nk _ _ hb fun z => ?_) _ _ htm hus1⟩ .nil)
            rw [z, kna1.1] at hb
            cases hb
        · have nin : d0 :: r0 ∈ kss := (kn_any okk ⟨htm, hdp⟩).mp (by simpa using c3)
          exact ⟨rfl, fun b o hb _ => k1 _ _ hb, kas, by rw [addC_in nin]; exact kna1, fun a ha => .inl ha⟩
        · rintro σ' H' ⟨rfl, keep, kas', kn', kin⟩
          have okk' := addC_ok okk (show OkC (d0 :: r0) from ⟨htm, hdp⟩)
          obtain ⟨kb1, kb2⟩ := kn'.data (K := K) okk'
          have hc' := keep _ _ hc nck
          have hus' : DvL H' us (d0 :: r0) := DvL.keepT (fun b xs hb => keep _ _ hb fun z => by rw [z, kna.1] at hb; cases hb) _ _ htm hus
          obtain ⟨cb1, cb2⟩ := col_data (K := K) hc' hus' ⟨htm, hdp⟩
          have mem := addC_mem kss (d0 :: r0)
          have lv := leavesC_none shn (m + 1)
          rw [lv] at q
          refine ⟨_, rfl, .inl ⟨rfl, _, SqL.of kn'.1⟩, _, rfl, kn, _, _, _, idxC (addC kss (d0 :: r0)) (d0 :: r0), pdOf (.lst (d0 :: r0)), rfl, rfl, kb1, cb1, kb2, cb2, ?_, (eqv_lst htm htm).mpr rfl, fun m' z' hm' hz' => ?_, ?_⟩
          · rw [kn_get, idxC_get mem]
            rfl
          · rw [kn_get] at hz'
            obtain ⟨ks, hks, rfl⟩ := Option.map_eq_some_iff.mp hz'
            have ne := idxC_first hm' hks
            have okm := okk' ks (List.mem_of_getElem? hks)
            rw [Bool.eq_false_iff]
            exact fun z => ne ((eqv_lst okm.1 htm).mp z)
          · refine q H' _ kas' keep kn' (fun a ha => (kin a ha).imp id .inl) ?_
            show Dv H' _ (resC (addC kss (d0 :: r0)) (m + 1) (d0 :: r0))
            rw [resC_none shn]
            exact .int _
end
end K15
set_option maxRecDepth 100000
set_option maxHeartbeats 4000000
namespace K15
open PySem L2 Fm
section
variable {P : Program} {w : World} {K : PySem.W.Frag} {mg : Str → Option Value} {base : Heap} (T : Txt K mg)
/-- _law_general, of lists of equally many terms -/
def spGeneral : Sp := fun vs H Q _ => ∃ (ll : Addr) (as : List Addr) (r0 : List D) (rows : List (List D)), vs = [.ref ll] ∧ H ll = some (.lst (as.map V.ref)) ∧ RowsAt H r0.length as (r0 :: rows) ∧ (∀ r ∈ r0 :: rows, OkC r ∧ r.length = r0.length) ∧ ((r0 :: rows).map sizes).sum ≤ 90000 ∧ rows.length ≤ 1000 ∧
  ∀ (H' : Hp) (p : Addr) (us : List V), Same H H' → H' p = some (.tup us) → DvL H' us (genC 51 (colsOf r0.length (r0 :: rows))) → Q (.ref p) H'
theorem ok_law_general : FnOk P w K mg base CX0 54 T.a__law_general T.d__law_general ["_law_lists"] (spGeneral) := by
  have G__law_column := ok_law_column (P := P) (w := w) (base := base) T 51
  refine T.F__law_general.ok sc__law_general ?_ (fun cdv A outer s H vs Q E hr h => ?_)
  · rintro vs H Q E ⟨ll, as, r0, rows, rfl, _⟩
    rfl
  obtain ⟨ll, as, r0, rows, rfl, hll, hrows, hok, hz, hrl, q⟩ := h
  refine ⟨_, 
    (pss_cons (ps_set (i := 1) sc__law_general.nd rfl (Or.inr rfl) (pe_lst pa_nil))
    (pss_one (ps_ret (pe_callTy call_tuple_of (by rfl) T.m_tuple (by decide +kernel) (pa_cons (pe_lc (own := [("_law_at", 2)]) (g := gName 2) (tt := tYes) rfl sc__law_general.nd (pi_range1 (by rfl) T.m_range (pa_cons (pe_callB call_len_seq (by rfl) T.m_len (by decide +kernel) (pa_cons (pe_ix ix_list (pv 0) pe_int (fun _ _ => rfl)) pa_nil)) pa_nil)) (blkOk_by (N := N__law_general) (sc := defScope s__law_general) (by decide +kernel)) (fun _ _ _ _ _ => pg_name (i := 2) sc__law_general.nd rfl (Or.inr rfl)) (fun _ _ _ _ _ => pts_nil) (fun _ _ _ _ _ => pe_call G__law_column (hr.mono (by omega)) (by rfl) T.f__law_column T.F__law_column.kp T.b__law_column .nil pass0 (pa_cons (pe_lc (own := [("_law_some", 3)]) (g := gName 3) (tt := tYes) rfl sc__law_general.nd (pi_listK (K := K) rfl (pv 0)) (blkOk_by (by rfl)) (fun _ _ _ _ _ => pg_name (i := 3) sc__law_general.nd rfl (Or.inl rfl)) (fun _ _ _ _ _ => pts_nil) (fun _ _ _ _ _ => pe_ix (r := rIxL K) ix_list (pv 3) (pv 2) (fun _ _ => rfl))) (pa_cons (pv 1) pa_nil)))) pa_nil))))), ?_⟩
  refine ⟨by decide, fun kn hkn => ?_⟩
  have k0 : Same H (upd H kn (.lst [])) := Same.new hkn
  have lrows := Paired.length hrows
  obtain ⟨a0, as', rfl⟩ : ∃ a0 as', as = a0 :: as' := by
    cases as with
    | nil => simp at lrows
    | cons a r => exact ⟨a, r, rfl⟩
  obtain ⟨row0, us0, hl0, ha0, hu0⟩ := rows_get hrows a0 List.mem_cons_self
  have lu0 := hu0.len
  have nz : r0.length ≤ 90000 := by
    have := len_sizes r0
    simp only [List.map_cons, List.sum_cons] at hz
    omega
  refine ⟨_, rfl, ll, _, 0, _, rfl, rfl, SqL.of (k0 _ _ hll), atI_nat (j := 0) rfl, a0, us0, rfl, .inl (SqL.of (k0 _ _ ha0)), ?_⟩
  have eu : us0.length = r0.length := by omega
  refine ⟨_, rfl, by omega, by omega, fun Dr hDr => ?_⟩
  have en : ((us0.length : Nat) : Int).toNat = r0.length := by omega
  rw [en]
  have hy : ∀ (σ' : L2.St) (H' : Hp) (R : Bool → Hp → Prop), R true H' → tYes σ' H' R := fun _ _ _ r => r
  have k1 : Same H (upd (upd H kn (.lst [])) Dr (.lst [])) := k0.trans (Same.new hDr)
  have nrk : Dr ≠ kn := fun z => by
    rw [z, upd_same] at hDr
    cases hDr
  have hDrH : H Dr = none := by
    rw [upd_ne nrk] at hDr
    exact hDr
  generalize hps : colsOf r0.length (r0 :: rows) = ps at q
  have lps : ps.length = r0.length := by rw [← hps, colsOf_len]
  have okp : ∀ p ∈ ps, OkC p := fun p hp' => by
    rw [← hps] at hp'
    obtain ⟨i, hi, rfl⟩ := List.mem_map.mp hp'
    obtain ⟨a1, a2, _⟩ := col_tm (List.mem_range.mp hi) hok
    exact ⟨a1, a2⟩
  have lvn : (ps.flatMap (leavesC 51)).length ≤ 90000 := by
    have := cols_len 51 r0 rows
    rw [hps] at this
    simp only [List.map_cons, List.sum_cons] at hz
    omega
  refine lc_range (lo := 0) (fun i H' => Same H H' ∧ ∃ acc kas', H' Dr = some (.lst acc) ∧ KnAt H' kn kas' (knAfter [] 51 ps i) ∧ DvL H' acc ((ps.take i).map (resC (knAfter [] 51 ps i) 51)) ∧ Dr ∉ kas')
    ⟨k1, [], [], upd_same, ⟨by rw [upd_ne (Ne.symm nrk)]; exact upd_same, .nil⟩, .nil, by simp⟩ ?_ ?_
  · rintro i H1 hi ⟨k, acc, kas', hacc, hkn', hdv, hnr⟩
    refine ⟨rfl, hy _ _ _ ?_⟩
    rw [if_pos rfl]
    have e0 : (0 : Int) + (i : Int) = (i : Int) := by omega
    rw [e0]
    have hpi : ps[i]? = some ((r0 :: rows).map fun r => r.getD i .non) := by
      rw [← hps]
      exact colsOf_get hi _
    refine ⟨_, rfl, ll, rfl, ⟨_, SqL.of (k _ _ hll)⟩, fun Dq hDq => ?_⟩
    have lr2 : (a0 :: as').length ≤ 90000 := by
      simp only [List.length_cons] at lrows ⊢
      omega
    refine lc_listF (K := K) (rowV H i) (SqL.of (k _ _ hll)) hDq (by rw [List.length_map]; omega) (fun _ => rfl) (fun _ _ _ r => r) (fun y H' R k6 hm r => ?_) (fun H' k6 hl6 => ?_)
    · obtain ⟨a, ha, rfl⟩ := List.mem_map.mp hm
      obtain ⟨row, us, e1, e2, e3⟩ := rows_get hrows a ha
      obtain ⟨v, hv, ev, _⟩ := row_dv e2 e3 (by rw [e1]; exact hi)
      have r2 := r H' (Same.refl _)
      rw [ev] at r2
      exact ⟨_, rfl, _, rfl, a, us, _, v, rfl, rfl, SqL.of ((k.trans k6) _ _ e2), atI_nat hv, r2⟩
    · have k7 := k.trans k6
      have nqk : Dq ≠ kn := fun z => by
        rw [z, hkn'.1] at hDq
        cases hDq
      have hcol := rows_dv hi hrows
      obtain ⟨tm1, dp1, sz1⟩ := col_tm hi hok
      have okK := knAfter_ok (kss := []) (m := 51) (i := i) (fun _ h => by cases h) okp
      have hkn7 := hkn'.same okK k6
      have hacc7 := k6 _ _ hacc
      have lenK := Paired.length hkn'.2
      have cnt := knAfter_len (kss := []) (m := 51) hpi
      have hdv7 := hdv.same k6 _ _
      have tupk : ∀ b xs, H' b = some (.tup xs) → b ≠ kn := fun b xs hb z => by
        rw [z, hkn7.1] at hb
        cases hb
      refine ⟨_, rfl, Dq, kn, _, _, kas', _, r0.getD i .non, rows.map fun r => r.getD i .non, rfl, nqk, hl6, hcol.same k7 _ _, rfl, ?_, ⟨tm1, dp1⟩, by omega, hkn7, okK, ?_, fun H4 r kas'' keep4 kn4 kin4 dr => ⟨acc, keep4 _ _ hacc7 nrk, ?_, ?_, acc ++ [r], kas'', upd_same, ?_, ?_, ?_⟩⟩
      · simp only [List.map_cons, deeps] at dp1
        omega
      · simp only [List.length_nil] at cnt
        omega
      · have := hdv.len
        rw [List.length_map, List.length_take] at this
        exact szl (by omega)
      · intro b o hb
        rw [upd_ne (fun z => by rw [z, hDrH] at hb; cases hb)]
        exact keep4 _ _ (k7 _ _ hb) fun z => by rw [z, hkn] at hb; cases hb
      all_goals
        have nr2 : Dr ∉ kas'' := fun z => by
          rcases kin4 Dr z with w | w | w
          · exact hnr w
          · rw [← w, hacc] at hDq
            cases hDq
          · rw [hacc7] at w
            cases w
      · rw [knAfter_succ hpi]
        exact kn4.off (by rw [← knAfter_succ hpi]; exact knAfter_ok (fun _ h => by cases h) okp) (keep4 _ _ hacc7 nrk) nr2 nrk
      · rw [knAfter_res hpi]
        have kk : ∀ b xs, H4 b = some (.tup xs) → (upd H4 Dr (.lst (acc ++ [r]))) b = some (.tup xs) := fun b xs hb => by
          rw [upd_ne (fun z => by rw [z, keep4 _ _ hacc7 nrk] at hb; cases hb)]
          exact hb
        refine DvL.snoc (DvL.keepT (H := H') (fun b xs hb => kk _ _ (keep4 _ _ hb (tupk b xs hb))) _ _ (fun d hd => ?_) hdv7) (Dv.keepT kk _ _ (tm_resC _ _ _) dr)
        obtain ⟨cc, _, rfl⟩ := List.mem_map.mp hd
        exact tm_resC _ _ _
      · exact nr2
  · rintro H' ⟨k, acc, kas', hacc, hkn', hdv, hnr⟩
    rw [knAfter_all (by omega), List.take_of_length_le (by omega)] at hdv
    refine ⟨Dr, acc, rfl, .inl ⟨SqL.of hacc, fun t ht => q _ t acc (k.trans (Same.new ht)) upd_same ?_⟩⟩
    exact hdv.same (Same.new ht) _ _
end
end K15
set_option maxRecDepth 100000
set_option maxHeartbeats 4000000
/-! _law_names again: names that the document calls names -/
namespace K15
open PySem L2 Fm
section
variable {P : Program} {w : World} {K : PySem.W.Frag} {mg : Str → Option Value} {base : Heap} (T : Txt K mg)
def wsK : List Str := Txt.split (("set ask end nil may must go begin move drop version back call silent same" : Str) ++ (" a b ab ba z" : Str)) " "
theorem ws_lenK : wsK.length = 20 := by decide +kernel
theorem ws_okK : ∀ x ∈ wsK, okL x = true ∧ 1 ≤ x.length ∧ x.length ≤ 8 := by decide +kernel
theorem lt_lenK : letters.length = 26 := by decide +kernel
theorem lt_okK : okL letters = true := by decide +kernel
theorem ok_law_namesK : FnOk P w K mg base CX0 2 T.a__law_names T.d__law_names ["_law_bag_here", "_law_many"] spNamesK := by
  have G__law_take := ok_law_take (P := P) (w := w) (base := base) T
  refine T.F__law_names.ok sc__law_names ?_ (fun cdv A outer s H vs Q E hr h => ?_)
  · rintro vs H Q E ⟨b, p, n, rfl, _⟩
    rfl
  obtain ⟨b, p, n, rfl, B, n0, n1, q⟩ := h
  refine ⟨_, 
    (pss_cons (ps_set (i := 2) sc__law_names.nd rfl (Or.inr rfl) pe_str)
    (pss_cons (ps_set (i := 3) sc__law_names.nd rfl (Or.inl rfl) pe_str)
    (pss_cons (ps_set (i := 3) sc__law_names.nd rfl (Or.inl rfl) (pe_bm PySem.F.plainAttrs_str PySem.F.slot_str_split PySem.F.type_str_split mt_split (pe_op op_add_str (pv 3) pe_str) (pa_cons pe_str pa_nil)))
    (pss_cons (ps_asg (pe_tup (pa_cons (pe_call G__law_take (hr.mono (by omega)) (by rfl) T.f__law_take T.F__law_take.kp T.b__law_take .nil pass0 (pa_cons (pv 0) (pa_cons pe_int pa_nil))) (pa_cons (pe_call G__law_take (hr.mono (by omega)) (by rfl) T.f__law_take T.F__law_take.kp T.b__law_take .nil pass0 (pa_cons (pv 0) (pa_cons pe_int pa_nil))) pa_nil))) (pg_tup rfl (pgs_cons (pg_name (i := 4) sc__law_names.nd rfl (Or.inl rfl)) (pgs_cons (pg_name (i := 5) sc__law_names.nd rfl (Or.inr rfl)) pgs_nil))))
    (pss_cons (ps_set (i := 6) sc__law_names.nd rfl (Or.inr rfl) (pe_bm PySem.F.plainAttrs_str PySem.F.slot_str_join PySem.F.type_str_join mt_join pe_str (pa_cons (pe_lc (own := [("_law_k", 8)]) (g := gName 8) (tt := tYes) rfl sc__law_names.nd (pi_range1 (by rfl) T.m_range (pa_cons (pe_op op_add pe_int (pe_call G__law_take (hr.mono (by omega)) (by rfl) T.f__law_take T.F__law_take.kp T.b__law_take .nil pass0 (pa_cons (pv 0) (pa_cons pe_int pa_nil)))) pa_nil)) (blkOk_by (N := N__law_names) (sc := defScope s__law_names) (by decide +kernel)) (fun _ _ _ _ _ => pg_name (i := 8) sc__law_names.nd rfl (Or.inl rfl)) (fun _ _ _ _ _ => pts_nil) (fun _ _ _ _ _ => pe_ix ix_str (pv 2) (pe_call G__law_take (hr.mono (by omega)) (by rfl) T.f__law_take T.F__law_take.kp T.b__law_take .nil pass0 (pa_cons (pv 0) (pa_cons pe_int pa_nil))) (fun _ _ => rfl))) pa_nil)))
    (pss_cons (ps_set (i := 7) sc__law_names.nd rfl (Or.inr rfl) (pe_call G__law_take (hr.mono (by omega)) (by rfl) T.f__law_take T.F__law_take.kp T.b__law_take .nil pass0 (pa_cons (pv 0) (pa_cons (pe_op op_add (pe_callB call_len_str (by rfl) T.m_len (by decide +kernel) (pa_cons (pv 6) pa_nil)) pe_int) pa_nil))))
    (pss_cons (ps_if (pt_cmpR op_eq (pv 4) pe_int (nomark _)) (pss_one (ps_ret (pe_slice sl_list (pe_op op_cat (pe_slice sl_list (pv 3) (po_some (pv 5)) po_none) (pe_slice sl_list (pv 3) po_none (po_some (pv 5)))) po_none (po_some (pv 1))))) pss_nil)
    (pss_cons (ps_if (pt_cmpR op_eq (pv 4) pe_int (nomark _)) (pss_one (ps_ret (pe_lc (own := [("_law_k", 8)]) (g := gName 8) (tt := tYes) rfl sc__law_names.nd (pi_range1 (by rfl) T.m_range (pa_cons (pv 1) pa_nil)) (blkOk_by (N := N__law_names) (sc := defScope s__law_names) (by decide +kernel)) (fun _ _ _ _ _ => pg_name (i := 8) sc__law_names.nd rfl (Or.inl rfl)) (fun _ _ _ _ _ => pts_nil) (fun _ _ _ _ _ => pe_ix ix_str (pv 2) (pe_op op_mod (pe_callTy call_int1 (by rfl) T.m_int (by decide +kernel) (pa_cons (pe_op op_add (pv 5) (pe_op op_mul pe_int (pv 8))) pa_nil)) pe_int) (fun _ _ => rfl))))) pss_nil)
    (pss_one (ps_ret (pe_lc (own := [("_law_k", 8)]) (g := gName 8) (tt := tYes) rfl sc__law_names.nd (pi_range1 (by rfl) T.m_range (pa_cons (pv 1) pa_nil)) (blkOk_by (N := N__law_names) (sc := defScope s__law_names) (by decide +kernel)) (fun _ _ _ _ _ => pg_name (i := 8) sc__law_names.nd rfl (Or.inl rfl)) (fun _ _ _ _ _ => pts_nil) (fun _ _ _ _ _ => pe_op op_add_str (pe_op op_add_str (pe_slice sl_str (pv 6) po_none (po_some (pv 7))) (pe_ix ix_str (pv 2) (pe_op op_mod (pe_callTy call_int1 (by rfl) T.m_int (by decide +kernel) (pa_cons (pe_op op_add (pv 5) (pe_op op_mul pe_int (pv 8))) pa_nil)) pe_int) (fun _ _ => rfl))) (pe_slice sl_str (pv 6) (po_some (pv 7)) po_none))))))))))))), ?_⟩
  refine ⟨_, rfl, _, _, rfl, rfl, (by decide +kernel), rfl, _, _, rfl, rfl, (by decide +kernel), (by decide +kernel), fun p1 hp1 => ?_⟩
  have g1 : Go b p H (upd H p1 (.lst (wsK.map V.str))) := (Go.refl B).new hp1
  have w1 : newof H (upd H p1 (.lst (wsK.map V.str))) p1 = some (.lst (wsK.map V.str)) := newof_of hp1 upd_same
  refine ⟨_, rfl, b, p, 4, rfl, g1.B, by decide, by decide, fun way H2 a0 a1 g2 => ?_⟩
  refine ⟨_, rfl, b, p, 20, rfl, g2.B, by decide, by decide, fun turn H3 b0 b1 g3 => ⟨(by show 2 ≤ sizeLine; decide), fun tp htp => ?_⟩⟩
  have g4 : Go b p (upd H p1 (.lst (wsK.map V.str))) (upd H3 tp (.tup [.int way, .int turn])) := (g2.trans g3).new htp
  have w4 := newof_go B g4 _ _ w1
  refine ⟨tp, _, rfl, SqT.of upd_same, rfl, _, _, rfl, _, _, rfl, rfl, ?_⟩
  have g5 := g1.trans g4
  clear g4 g3 g2 w1 htp
  generalize upd H3 tp (.tup [.int way, .int turn]) = H4 at g5 w4
  -- the base
  refine ⟨rfl, _, rfl, b, p, 7, rfl, g5.B, by decide, by decide, fun i7 H5 c0 c1 g6 => ⟨_, _, rfl, rfl, _, rfl, by omega, by omega, fun Dl hD => ?_⟩⟩
  refine lc_bag (fun d => ∃ x, d = .str x ∧ okL x = true ∧ x.length ≤ 1) g6.B hD (by omega) (fun _ => rfl) (fun _ _ _ r => r) ?_ ?_
  · intro i H' R hi g r
    refine ⟨_, rfl, _, rfl, b, p, 26, rfl, g.B, by decide, by decide, fun j H2 d0 d1 g7 => ?_⟩
    obtain ⟨c, e1, e2⟩ := sign_atL (x := letters) d0 (by rw [lt_lenK]; exact d1)
    have e3 := e2 lt_okK
    exact ⟨_, _, c, rfl, rfl, (by decide +kernel), e1, r _ (.str ⟨#[c]⟩) H2 g7 (.str _ (okL_ok e3)) ⟨_, rfl, e3, Nat.le_refl _⟩⟩
  intro H6 acc ds g7 hl hds hg hn
  obtain ⟨ys, rfl, ok, ln⟩ := dvl_strsL hds hg
  have l8 : ys.length ≤ 7 := by omega
  have sl := sum_len fun y hy => (ok y hy).2
  refine ⟨_, Dl, ys, rfl, rfl, .inl (SqL.of hl), ?_, ?_⟩
  · have z : (("" : String) : Str).length = 0 := rfl
    rw [z]
    omega
  have g8 := g5.trans (g6.trans g7)
  have w8 := newof_go B (g6.trans g7) _ _ w4
  obtain ⟨base, hb1, hb2, hb3⟩ : ∃ base, Txt.join "" ys = base ∧ okL base = true ∧ base.length ≤ 7 :=
    ⟨_, rfl, okL_join fun y hy => (ok y hy).1, Nat.le_trans (len_join fun y hy => (ok y hy).2) l8⟩
  rw [hb1]
  refine ⟨_, rfl, _, rfl, base, rfl, sz (by omega), _, _, rfl, rfl, b, p, _, rfl, g8.B, by omega, by omega, fun at_ H7 f0 f1 g9 => ?_⟩
  have gA := g8.trans g9
  have wA := newof_go B g9 _ _ w8
  obtain ⟨np1, wB⟩ := newof_is wA
  refine ⟨_, rfl, rfl, _, rfl, ite_b (fun h1 => ?_) (fun h1 => ?_)⟩
  · obtain ⟨z1, e1, m1, l1⟩ := cut_strs wsK (some turn) none
    obtain ⟨z2, e2, m2, l2⟩ := cut_strs wsK none (some turn)
    rw [ws_lenK, sIx_none, sIx_at b0] at l1 l2
    refine ⟨_, rfl, _, rfl, _, rfl, p1, _, rfl, SqL.of wB, fun q1 hq1 => ?_⟩
    have s1 : Same H7 (upd H7 q1 (.lst (cutV (wsK.map V.str) (some turn) none))) := Same.new hq1
    refine ⟨_, rfl, _, rfl, _, rfl, p1, _, rfl, SqL.of (s1 _ _ wB), fun q2 hq2 => ?_⟩
    refine ⟨q1, q2, _, _, rfl, rfl, Same.new hq2 _ _ upd_same, upd_same, ?_, fun q3 hq3 => ?_⟩
    · rw [e1, e2, List.length_map, List.length_map]
      exact sz (by omega)
    rw [e1, e2] at *
    have s2 := s1.trans ((Same.new (o := .lst (z2.map V.str)) hq2).trans (Same.new (o := .lst (z1.map V.str ++ z2.map V.str)) hq3))
    rw [← List.map_append] at *
    obtain ⟨z3, e3, m3, l3⟩ := cut_strs (z1 ++ z2) none (some n)
    rw [List.length_append, sIx_none, sIx_at n0] at l3
    refine ⟨_, rfl, _, rfl, q3, _, rfl, SqL.of upd_same, fun q4 hq4 => ?_⟩
    rw [e3]
    refine q q4 _ z3 ((gA.same s2).new hq4) (newof_of ((gA.same s2).free hq4) upd_same) (by omega) fun x hx => ?_
    rcases List.mem_append.mp (m3 x hx) with h | h
    · exact ws_okK x (m1 x h)
    · exact ws_okK x (m2 x h)
  · refine ⟨_, rfl, rfl, _, rfl, ite_b (fun h2 => ?_) (fun h2 => ?_)⟩
    · refine ⟨_, rfl, n, rfl, by omega, by omega, fun Dl hD => ?_⟩
      refine lc_bag (fun d => ∃ x, d = .str x ∧ okL x = true ∧ 1 ≤ x.length ∧ x.length ≤ 8) gA.B hD (by omega) (fun _ => rfl) (fun _ _ _ r => r) ?_ ?_
      · intro i H' R hi g r
        obtain ⟨c, e1, e2⟩ := sign_atL (x := letters) (i := (turn + 3 * (i : Int)) % 26) (Int.emod_nonneg _ (by decide)) (by rw [lt_lenK]; exact Int.emod_lt_of_pos _ (by decide))
        have e3 := e2 lt_okK
        refine ⟨_, rfl, _, rfl, _, rfl, _, _, rfl, rfl, .inl ⟨by decide, by decide⟩, _, _, rfl, rfl, .inl ⟨_, rfl, _, _, rfl, rfl, (by show (0 : Int) < _; decide), _, _, c, rfl, rfl, (by decide +kernel), e1, ?_⟩⟩
        exact r _ (.str ⟨#[c]⟩) H' (.refl g.B) (.str _ (okL_ok e3)) ⟨_, rfl, e3, by show 1 ≤ 1; decide, by show 1 ≤ 8; decide⟩
      · intro H' acc ds g hl hds hg hn
        obtain ⟨ys, rfl, ok, ln⟩ := dvl_strsK hds hg
        exact q Dl H' ys (gA.trans g) (newof_of (gA.free hD) hl) (by omega) ok
    · refine ⟨_, rfl, n, rfl, by omega, by omega, fun Dl hD => ?_⟩
      refine lc_bag (fun d => ∃ x, d = .str x ∧ okL x = true ∧ 1 ≤ x.length ∧ x.length ≤ 8) gA.B hD (by omega) (fun _ => rfl) (fun _ _ _ r => r) ?_ ?_
      · intro i H' R hi g r
        obtain ⟨c, e1, e2⟩ := sign_atL (x := letters) (i := (turn + 3 * (i : Int)) % 26) (Int.emod_nonneg _ (by decide)) (by rw [lt_lenK]; exact Int.emod_lt_of_pos _ (by decide))
        have e3 := e2 lt_okK
        have c1 := cut_len_le (x := base) (lo := none) (hi := some at_)
        have c2 := cut_len_le (x := base) (lo := some at_) (hi := none)
        have c4 := cut_two (x := base) f0
        have c3 : (⟨#[c]⟩ : Str).length = 1 := rfl
        have l4 := len_app (cutS base none (some at_)) ⟨#[c]⟩
        have l5 := len_app (cutS base none (some at_) ++ ⟨#[c]⟩) (cutS base (some at_) none)
        refine ⟨_, rfl, _, rfl, _, rfl, base, rfl, sz (by omega), _, rfl, _, rfl, _, rfl, _, _, rfl, rfl, .inl ⟨by decide, by decide⟩, _, _, rfl, rfl, .inl ⟨_, rfl, _, _, rfl, rfl, (by show (0 : Int) < _; decide), _, _, c, rfl, rfl, (by decide +kernel), e1, _, _, rfl, rfl, sz (by omega), ?_⟩⟩
        refine ⟨_, rfl, _, rfl, _, rfl, base, rfl, sz (by omega), _, _, rfl, rfl, sz (by omega), ?_⟩
        have ok := okL_app (okL_app (okL_cut (lo := none) (hi := some at_) hb2) e3) (okL_cut (lo := some at_) (hi := none) hb2)
        exact r _ _ H' (.refl g.B) (.str _ (okL_ok ok)) ⟨_, rfl, ok, by omega, by omega⟩
      · intro H' acc ds g hl hds hg hn
        obtain ⟨ys, rfl, ok, ln⟩ := dvl_strsK hds hg
        exact q Dl H' ys (gA.trans g) (newof_of (gA.free hD) hl) (by omega) ok
end
end K15
set_option maxRecDepth 100000
set_option maxHeartbeats 4000000
/-! _law_term again: what it tells are terms by the document -/
namespace K15
open PySem L2 Fm
section
variable {P : Program} {w : World} {K : PySem.W.Frag} {mg : Str → Option Value} {base : Heap} (T : Txt K mg)
def spTermK (m : Nat) : Sp := fun vs H Q _ => ∃ (b p nm : Addr) (xs : List Str) (many : Int) (k : Nat) (deep : Int), vs = [.ref b, .ref nm, .int many, .int deep] ∧ deep = (k : Int) ∧ Bag b p H ∧ Names nm b H xs ∧ (∀ x ∈ xs, isNameS x = true) ∧ 0 < many ∧ many ≤ 1000 ∧ k < m ∧ k ≤ 100 ∧
  ∀ v H' d, Go b p H H' → Dv (newof H H') v d → Tm d → Sized k d → UnkL many k d → isTerm d = true → Q v H'
theorem ok_law_termK : ∀ m : Nat, FnOk P w K mg base CX0 (m + 2) T.a__law_term T.d__law_term ["_law_bag_here", "_law_names_here", "_law_many", "_law_deep"] (spTermK m)
  | 0 => ⟨fun _ _ _ _ ⟨_, _, _, _, _, _, _, _, _, _, _, _, _, _, z, _⟩ => absurd z (Nat.not_lt_zero _), fun _ _ _ _ _ _ _ _ _ _ _ _ _ ⟨_, _, _, _, _, _, _, _, _, _, _, _, _, _, z, _⟩ => absurd z (Nat.not_lt_zero _)⟩
  | m + 1 => by
    have G__law_term := ok_law_termK m
    have G__law_take := ok_law_take (P := P) (w := w) (base := base) T
    refine T.F__law_term.ok sc__law_term ?_ (fun cdv A outer s H vs Q E hr h => ?_)
    · rintro vs H Q E ⟨b, p, nm, xs, many, k, deep, rfl, _⟩
      rfl
    obtain ⟨b, p, nm, xs, many, k, deep, rfl, ed, B, N, nms, m0, m1, km, kh, q⟩ := h
    refine ⟨_, 
    (pss_cons (ps_set (i := 4) sc__law_term.nd rfl (Or.inl rfl) (pe_call G__law_take (hr.mono (by omega)) (by rfl) T.f__law_take T.F__law_take.kp T.b__law_take .nil pass0 (pa_cons (pv 0) (pa_cons pe_int pa_nil))))
    (pss_cons (ps_if (PW.pt (pw_and (pt_cmpR op_gt (pv 2) pe_int (nomark _)) (pw_and1 (PW.pt (pw_or (pt_cmpR op_lt (pv 3) pe_int (nomark _)) (pw_or1 (pt_cmpR op_eq (pv 4) pe_int (nomark _)))))))) (pss_one (ps_ret (pe_call G__law_take (hr.mono (by omega)) (by rfl) T.f__law_take T.F__law_take.kp T.b__law_take .nil pass0 (pa_cons (pv 0) (pa_cons (pv 2) pa_nil))))) pss_nil)
    (pss_cons (ps_par (i := 5) (j := 6) (by rfl) sc__law_term.nd rfl rfl (by decide) rfl rfl (pa_cons (pe_ix ix_list (pv 1) (pe_call G__law_take (hr.mono (by omega)) (by rfl) T.f__law_take T.F__law_take.kp T.b__law_take .nil pass0 (pa_cons (pv 0) (pa_cons (pe_callB call_len_seq (by rfl) T.m_len (by decide +kernel) (pa_cons (pv 1) pa_nil)) pa_nil))) (fun _ _ => rfl)) (pa_cons (pe_call G__law_take (hr.mono (by omega)) (by rfl) T.f__law_take T.F__law_take.kp T.b__law_take .nil pass0 (pa_cons (pv 0) (pa_cons pe_int pa_nil))) pa_nil)) (by rfl))
    (pss_cons (ps_if (PW.pt (pw_or (PW.pt (pw_and (pt_cmpR op_le (pv 3) pe_int (nomark _)) (pw_and1 (pt_cmpR op_eq (pv 2) pe_int (nomark _))))) (pw_or1 (pt_cmpR op_eq (pv 4) pe_int (nomark _))))) (pss_one (ps_ret (pe_tup (pa_cons (pv 5) pa_nil)))) pss_nil)
    (pss_one (ps_ret (pe_op op_catA (pe_tup (pa_cons (pv 5) pa_nil)) (pe_callTy call_tuple_of (by rfl) T.m_tuple (by decide +kernel) (pa_cons (pe_lc (own := [("_law_k", 7)]) (g := gName 7) (tt := tYes) rfl sc__law_term.nd (pi_range1 (by rfl) T.m_range (pa_cons (pv 6) pa_nil)) (blkOk_by (N := N__law_term) (sc := defScope s__law_term) (by decide +kernel)) (fun _ _ _ _ _ => pg_name (i := 7) sc__law_term.nd rfl (Or.inl rfl)) (fun _ _ _ _ _ => pts_nil) (fun _ _ _ _ _ => pe_call G__law_term (hr.mono (by omega)) (by rfl) T.f__law_term T.F__law_term.kp T.b__law_term .nil pass0 (pa_cons (pv 0) (pa_cons (pv 1) (pa_cons (pv 2) (pa_cons (pe_op op_sub (pv 3) pe_int) pa_nil)))))) pa_nil))))))))), ?_⟩
    refine ⟨_, rfl, b, p, 4, rfl, B, by decide, by decide, fun way H1 a0 a1 g1 => ?_⟩
    have one : ∀ (i : Int) (H2 : Hp), 0 ≤ i → i < many → Go b p H H2 → Q (.int i) H2 := fun i H2 i0 i1 g => q _ _ (.int i) g (.int i) (.int i) ⟨Nat.zero_le _, by
      have h4 : 1 ≤ 3 ^ k := Nat.one_le_pow _ _ (by decide)
      simp only [D.size]
      omega⟩ (UnkL.int i0 i1) (decide_eq_true i0)
    refine ⟨_, rfl, _, _, rfl, rfl, _, rfl, ite_b (fun h1 => ?_) (fun h1 => absurd m0 (of_decide_eq_false h1))⟩
    refine ⟨_, rfl, _, _, rfl, rfl, _, rfl, ite_b (fun h2 => ?_) (fun h2 => ?_)⟩
    · exact iteT ⟨_, rfl, _, rfl, b, p, many, rfl, g1.B, m0, by omega, fun i H2 i0 i1 g2 => one i H2 i0 i1 (g1.trans g2)⟩
    have d1 : 1 ≤ deep := by have := of_decide_eq_false h2; omega
    refine ⟨_, rfl, rfl, _, rfl, ite_b (fun h3 => ?_) (fun h3 => ?_)⟩
    · exact ⟨_, rfl, _, rfl, b, p, many, rfl, g1.B, m0, by omega, fun i H2 i0 i1 g2 => one i H2 i0 i1 (g1.trans g2)⟩
    obtain ⟨j, rfl⟩ : ∃ j, k = j + 1 := ⟨k - 1, by omega⟩
    have N1 := N.go g1
    refine ⟨_, rfl, _, rfl, _, rfl, nm, _, rfl, .inl (SqL.of N1.at_), b, p, _, rfl, g1.B, ?_, ?_, fun at_ H2 b0 b1 g2 => ?_⟩
    · rw [List.length_map]
      have := N.pos
      omega
    · rw [List.length_map]
      have := N.few
      omega
    rw [List.length_map] at b1
    have N2 := N1.go g2
    obtain ⟨x, e1, ox, lx⟩ := N2.get b0 b1
    have nx : isNameS x = true := by
      obtain ⟨n, rfl⟩ := Int.eq_ofNat_of_zero_le b0
      have e0 : (xs.map V.str)[n]? = some (V.str x) := by
        have e2 := e1
        unfold atI at e2
        rw [ixN_at (by rw [List.length_map]; omega)] at e2
        exact e2
      rw [List.getElem?_map] at e0
      obtain ⟨y, hy, ey⟩ := Option.map_eq_some_iff.mp e0
      injection ey with ey
      rw [← ey]
      exact nms y (List.mem_of_getElem? hy)
    have tx : isTerm (.tup [.str x]) = true := by
      have z : isName (.str x) = true := nx
      simp [isTerm, isTermT, z, areTerms]
    refine ⟨nm, _, at_, _, rfl, rfl, SqL.of N2.at_, e1, ?_⟩
    refine ⟨_, rfl, b, p, 4, rfl, g2.B, by decide, by decide, fun parts H3 c0 c1 g3 => ⟨_, _, rfl, ?_⟩⟩
    have g4 := (g1.trans g2).trans g3
    have N4 := N2.go g3
    clear g1 g2 g3 N1 N2 e1
    refine ⟨_, rfl, _, _, rfl, rfl, _, rfl, ite_b (fun h4 => ⟨_, rfl, rfl, _, rfl, ite_b (fun h5 => ?_) (fun h5 => ?_)⟩) (fun h4 => iteF ?_)⟩
    · have z := of_decide_eq_true h5
      injection z with z
      omega
    all_goals
      refine ⟨_, rfl, rfl, _, rfl, ite_b (fun h6 => ?_) (fun h6 => ?_)⟩
      · refine ⟨_, rfl, (by show 1 ≤ sizeLine; decide), fun tp htp => ?_⟩
        exact q _ _ (.tup [.str x]) (g4.new htp) (.tup (newof_of (g4.free htp) upd_same) (.cons (.str x ox) .nil)) (.tup x [] fun _ h => by cases h) (.tup lx (by decide) fun _ h => by cases h) (UnkL.tup (by decide) fun _ h => by cases h) tx
      · refine ⟨_, rfl, (by show 1 ≤ sizeLine; decide), fun tp htp => ?_⟩
        have g5 := g4.new (o := .tup [.str x]) htp
        refine ⟨_, rfl, parts, rfl, by omega, by omega, fun Dl hD => ?_⟩
        refine lc_bag (fun d => Tm d ∧ Sized j d ∧ UnkL many j d ∧ isTerm d = true) g5.B hD (by omega) (fun _ => rfl) (fun _ _ _ r => r) ?_ ?_
        · intro i H' R hi g r
          have N5 := (N4.go (.of g4.B (Same.new (o := .tup [.str x]) htp))).go g
          exact ⟨_, rfl, _, rfl, _, rfl, _, rfl, _, _, rfl, rfl, b, p, nm, xs, many, j, _, rfl, by omega, g.B, N5, nms, m0, m1, by omega, by omega, fun v H2 d g2 hv tm szd un it => r v d H2 g2 hv ⟨tm, szd, un, it⟩⟩
        · intro H' acc ds g hl hds hg hn
          refine ⟨Dl, acc, rfl, .inl ⟨SqL.of hl, fun t2 ht2 => ?_⟩⟩
          have g6 := g5.trans g
          have la := hds.len
          have n5 : tp ≠ b := g4.B.b_ne htp
          have e5 : H' tp = some (.tup [.str x]) := g.at n5 upd_same
          have k2 : Same H' (upd H' t2 (.tup acc)) := Same.new ht2
          have l3 : ds.length ≤ 3 := by omega
          refine ⟨tp, t2, _, acc, rfl, rfl, SqT.of (k2 _ _ e5), SqT.of upd_same, sz (by simp only [List.length_cons, List.length_nil]; omega), fun z => (by cases z), fun _ z => ?_, fun _ z t3 ht3 => ?_⟩
          · have g7 := g6.same k2
            refine q _ _ (.tup [.str x]) g7 (.tup (newof_of (g4.free htp) (k2 _ _ e5)) (.cons (.str x ox) .nil)) (.tup x [] fun _ h => by cases h) (.tup lx (by decide) fun _ h => by cases h) (UnkL.tup (by decide) fun _ h => by cases h) tx
          · have g7 := g6.same k2
            have k3 : Same H' (upd (upd H' t2 (.tup acc)) t3 (.tup ([.str x] ++ acc))) := k2.trans (Same.new ht3)
            have h8 : DvL (newof H (upd (upd H' t2 (.tup acc)) t3 (.tup ([.str x] ++ acc)))) acc ds := (hds.same (newof_lift fun a ha => g5.free ha) _ _).same (newof_same k3) _ _
            exact q _ _ (.tup (.str x :: ds)) (g7.new ht3) (.tup (newof_of (g7.free ht3) upd_same) (.cons (.str x ox) h8)) (.tup x ds fun d hd => (hg d hd).1) (.tup lx l3 fun d hd => (hg d hd).2.1) (UnkL.tup l3 fun d hd => (hg d hd).2.2.1) (by
              have z : isName (.str x) = true := nx
              have z2 : areTerms ds = true := by
                rw [areTerms_all, List.all_eq_true]
                exact fun d hd => (hg d hd).2.2.2
              have z3 : decide (ds.length ≤ 3) = true := decide_eq_true l3
              simp only [isTerm, isTermT, z, z2, z3, Bool.and_self])
end
end K15
set_option maxRecDepth 100000
set_option maxHeartbeats 2000000
/-! what columns have in common, seen from other columns -/
namespace Fm
open PySem PySem.Spec PyProof.Rows L2
open Classical
theorem same_iff {c : List D} {h : Str × Nat} : sameHead c = some h ↔ c ≠ [] ∧ ∀ e ∈ c, hdOf e = some h := by
  constructor
  · intro e
    refine ⟨fun z => ?_, same_all e⟩
    rw [z] at e
    cases e
  · rintro ⟨ne, al⟩
    cases c with
    | nil => exact absurd rfl ne
    | cons c0 r =>
      have e0 := al c0 List.mem_cons_self
      refine (if_pos ?_ : (if (hdOf c0).isSome ∧ ∀ e ∈ c0 :: r, hdOf e = hdOf c0 then hdOf c0 else none) = _).trans e0
      exact ⟨by rw [e0]; rfl, fun e he => (al e he).trans e0.symm⟩
/-- columns that stand for columns -/
structure Sim (R : List D → List D → Prop) : Prop where
  hd : ∀ c c', R c c' → sameHead c = sameHead c'
  part : ∀ c c' h, R c c' → sameHead c' = some h → ∀ i, i < h.2 → R (c.map (argAt i)) (c'.map (argAt i))
  inj : ∀ c c' e e', R c c' → R e e' → (c = e ↔ c' = e')
section
variable {R : List D → List D → Prop}
theorem paired_flat {α : Type} {f g : Nat → List α} {F : α → α → Prop} : ∀ l : List Nat, (∀ i ∈ l, Paired F (f i) (g i)) → Paired F (l.flatMap f) (l.flatMap g)
  | [], _ => .nil
  | i :: l, h => by
    rw [List.flatMap_cons, List.flatMap_cons]
    exact paired_app (h i List.mem_cons_self) (paired_flat l fun j hj => h j (List.mem_cons_of_mem _ hj))
theorem sim_leaves (S : Sim R) : ∀ (k : Nat) (c c' : List D), R c c' → Paired R (leavesC k c) (leavesC k c')
  | 0, c, c', r => .cons r .nil
  | k + 1, c, c', r => by
    have e := S.hd c c' r
    cases e2 : sameHead c' with
    | none =>
      rw [leavesC_none e2, leavesC_none (e.trans e2)]
      exact .cons r .nil
    | some h =>
      rw [leavesC_some e2, leavesC_some (e.trans e2)]
      unfold partsAt
      rw [List.flatMap_map, List.flatMap_map]
      exact paired_flat _ fun i hi => sim_leaves S k _ _ (S.part c c' h r e2 i (List.mem_range.mp hi))
theorem sim_mem (S : Sim R) {c c' : List D} (r : R c c') : ∀ {K K' : List (List D)}, Paired R K K' → (c ∈ K ↔ c' ∈ K')
  | _, _, .nil => by simp
  | _, _, .cons a b => by
    rw [List.mem_cons, List.mem_cons, S.inj _ _ _ _ r a, sim_mem S r b]
theorem sim_idx (S : Sim R) {c c' : List D} (r : R c c') : ∀ {K K' : List (List D)}, Paired R K K' → K.idxOf c = K'.idxOf c'
  | _, _, .nil => rfl
  | k :: K, k' :: K', .cons a b => by
    rw [List.idxOf_cons, List.idxOf_cons, sim_idx S r b]
    have e := S.inj _ _ _ _ a r
    by_cases h : k = c
    · have h2 := e.mp h
      rw [beq_iff_eq.mpr h, beq_iff_eq.mpr h2]
    · have h2 : ¬ k' = c' := fun z => h (e.mpr z)
      rw [beq_eq_false_iff_ne.mpr h, beq_eq_false_iff_ne.mpr h2]
theorem sim_adds (S : Sim R) : ∀ {ls ls' K K' : List (List D)}, Paired R ls ls' → Paired R K K' → Paired R (addsC K ls) (addsC K' ls')
  | _, _, _, _, .nil, h => h
  | l :: ls, l' :: ls', K, K', .cons a b, h => by
    show Paired R (addsC (addC K l) ls) (addsC (addC K' l') ls')
    refine sim_adds S b ?_
    unfold addC
    by_cases m : l ∈ K
    · rw [if_pos m, if_pos ((sim_mem S a h).mp m)]
      exact h
    · rw [if_neg m, if_neg (fun z => m ((sim_mem S a h).mpr z))]
      exact paired_app h (.cons a .nil)
theorem sim_res (S : Sim R) {K K' : List (List D)} (hK : Paired R K K') : ∀ (k : Nat) (c c' : List D), R c c' → resC K k c = resC K' k c'
  | 0, c, c', r => by
    simp only [resC]
    rw [sim_idx S r hK]
  | k + 1, c, c', r => by
    have e := S.hd c c' r
    cases e2 : sameHead c' with
    | none =>
      rw [resC_none e2, resC_none (e.trans e2)]
      show D.int (K.idxOf c : Nat) = D.int (K'.idxOf c' : Nat)
      rw [sim_idx S r hK]
    | some h =>
      rw [resC_some e2, resC_some (e.trans e2)]
      congr 2
      unfold partsAt
      rw [List.map_map, List.map_map]
      exact List.map_congr_left fun i hi => sim_res S hK k _ _ (S.part c c' h r e2 i (List.mem_range.mp hi))
theorem sim_cols (S : Sim R) (k : Nat) : ∀ {cs cs' : List (List D)}, Paired R cs cs' → Paired R (cs.flatMap (leavesC k)) (cs'.flatMap (leavesC k))
  | _, _, .nil => .nil
  | _, _, .cons a b => by
    rw [List.flatMap_cons, List.flatMap_cons]
    exact paired_app (sim_leaves S k _ _ a) (sim_cols S k b)
theorem paired_map {α β : Type} {F : α → α → Prop} {f g : α → β} (h : ∀ x y, F x y → f x = g y) : ∀ {as bs : List α}, Paired F as bs → as.map f = bs.map g
  | _, _, .nil => rfl
  | _, _, .cons a b => by rw [List.map_cons, List.map_cons, h _ _ a, paired_map h b]
/-- columns that stand for columns have the same in common -/
theorem sim_gen (S : Sim R) (k : Nat) {cs cs' : List (List D)} (h : Paired R cs cs') : genC k cs = genC k cs' :=
  paired_map (fun c c' r => sim_res S (sim_adds S (sim_cols S k h) .nil) k c c' r) h
end
theorem flat_congr {α β : Type} {f g : α → List β} : ∀ {l : List α}, (∀ i ∈ l, f i = g i) → l.flatMap f = l.flatMap g
  | [], _ => rfl
  | i :: l, h => by rw [List.flatMap_cons, List.flatMap_cons, h i List.mem_cons_self, flat_congr fun j hj => h j (List.mem_cons_of_mem _ hj)]
/-! ### fuel -/
theorem deep_zero_int {d : D} (t : Tm d) (h : d.deep = 0) : hdOf d = none := by
  cases t with
  | int u => rfl
  | tup x ds _ => simp [D.deep] at h
theorem same_zero {c : List D} (t : ∀ d ∈ c, Tm d) (h : deeps c = 0) : sameHead c = none := by
  cases e : sameHead c with
  | none => rfl
  | some h2 =>
    obtain ⟨ne, al⟩ := same_iff.mp e
    cases c with
    | nil => exact absurd rfl ne
    | cons d r =>
      have := al d List.mem_cons_self
      have dz : d.deep = 0 := by simp only [deeps] at h; omega
      rw [deep_zero_int (t d List.mem_cons_self) dz] at this
      cases this
theorem parts_deep {c : List D} {h : Str × Nat} (t : ∀ d ∈ c, Tm d) (e : sameHead c = some h) {i : Nat} (hi : i < h.2) : (∀ d ∈ c.map (argAt i), Tm d) ∧ deeps (c.map (argAt i)) + 1 ≤ deeps c ∧ c.map (argAt i) ≠ [] := by
  obtain ⟨ne, al⟩ := same_iff.mp e
  refine ⟨(args_tm (x := h.1) (n := h.2) hi t al).1, ?_, fun z => ne (List.map_eq_nil_iff.mp z)⟩
  have go : ∀ l : List D, l ≠ [] → (∀ d ∈ l, Tm d) → (∀ d ∈ l, hdOf d = some h) → deeps (l.map (argAt i)) + 1 ≤ deeps l := by
    intro l
    induction l with
    | nil => intro z; exact absurd rfl z
    | cons d r ih =>
      intro _ tl hl
      have a := (arg_tm (x := h.1) (n := h.2) (tl d List.mem_cons_self) (hl d List.mem_cons_self) hi).2.1
      rw [List.map_cons]
      simp only [deeps]
      cases r with
      | nil =>
        simp only [List.map_nil, deeps]
        omega
      | cons d2 r2 =>
        have := ih (by simp) (fun x hx => tl x (List.mem_cons_of_mem _ hx)) (fun x hx => hl x (List.mem_cons_of_mem _ hx))
        omega
  exact go c ne t al
theorem fuel_leaves : ∀ (k : Nat) (c : List D), (∀ d ∈ c, Tm d) → deeps c ≤ k → leavesC (k + 1) c = leavesC k c
  | 0, c, t, h => by
    rw [leavesC_none (same_zero t (by omega))]
    rfl
  | k + 1, c, t, h => by
    cases e : sameHead c with
    | none => rw [leavesC_none e, leavesC_none e]
    | some hh =>
      rw [leavesC_some e, leavesC_some e]
      unfold partsAt
      rw [List.flatMap_map, List.flatMap_map]
      refine flat_congr fun i hi => ?_
      obtain ⟨a, b, _⟩ := parts_deep t e (List.mem_range.mp hi)
      exact fuel_leaves k _ a (by omega)
theorem fuel_res (K : List (List D)) : ∀ (k : Nat) (c : List D), (∀ d ∈ c, Tm d) → deeps c ≤ k → resC K (k + 1) c = resC K k c
  | 0, c, t, h => by
    rw [resC_none (same_zero t (by omega))]
    rfl
  | k + 1, c, t, h => by
    cases e : sameHead c with
    | none => rw [resC_none e, resC_none e]
    | some hh =>
      rw [resC_some e, resC_some e]
      congr 2
      unfold partsAt
      rw [List.map_map, List.map_map]
      refine List.map_congr_left fun i hi => ?_
      obtain ⟨a, b, _⟩ := parts_deep t e (List.mem_range.mp hi)
      exact fuel_res K k _ a (by show deeps (c.map (argAt i)) ≤ k; omega)
/-! ### back to a row -/
noncomputable def projF (K : List (List D)) (i : Nat) (u : Int) : D := (K.getD u.toNat []).getD i .non
theorem col_proj {K : List (List D)} (i : Nat) : ∀ (k : Nat) (c : List D), (∀ d ∈ c, Tm d) → (∀ l ∈ leavesC k c, l ∈ K) → i < c.length → putD (projF K i) (resC K k c) = c.getD i .non := by
  have leaf : ∀ c : List D, c ∈ K → projF K i (K.idxOf c : Nat) = c.getD i .non := fun c hc => by
    unfold projF
    rw [Int.toNat_natCast]
    have lt := List.idxOf_lt_length_of_mem hc
    rw [List.getD_eq_getElem?_getD (l := K), List.getElem?_eq_getElem lt, List.getElem_idxOf lt]
    rfl
  intro k
  induction k with
  | zero =>
    intro c t h hi
    exact leaf c (h c (by simp [leavesC]))
  | succ k ih =>
    intro c t h hi
    cases e : sameHead c with
    | none =>
      rw [resC_none e]
      exact leaf c (h c (by rw [leavesC_none e]; exact List.mem_cons_self))
    | some hh =>
      rw [resC_some e]
      obtain ⟨ne, al⟩ := same_iff.mp e
      have ci : c.getD i .non = c[i] := by rw [List.getD_eq_getElem?_getD, List.getElem?_eq_getElem hi]; rfl
      rw [ci]
      obtain ⟨es, e1, le⟩ := hd_some (al _ (List.getElem_mem hi))
      rw [e1]
      show D.tup (.str hh.1 :: puts (projF K i) ((partsAt hh.2 c).map (resC K k))) = _
      congr 2
      rw [puts_map, List.map_map]
      unfold partsAt
      rw [List.map_map]
      refine List.ext_getElem (by rw [List.length_map, List.length_range, le]) fun j h1 h2 => ?_
      rw [List.length_map, List.length_range] at h1
      rw [List.getElem_map, List.getElem_range]
      show putD (projF K i) (resC K k (c.map (argAt j))) = _
      obtain ⟨a, _, _⟩ := parts_deep t e h1
      rw [ih _ a (fun l hl => h l (by
        rw [leavesC_some e]
        exact List.mem_flatMap.mpr ⟨_, List.mem_map.mpr ⟨j, List.mem_range.mpr h1, rfl⟩, hl⟩)) (by rw [List.length_map]; exact hi)]
      rw [List.getD_eq_getElem?_getD, List.getElem?_map, List.getElem?_eq_getElem hi, e1]
      show argAt j (.tup (.str hh.1 :: es)) = _
      exact argAt_get (List.getElem?_eq_getElem h2)
theorem res_inj {K : List (List D)} {k : Nat} {c e : List D} (tc : ∀ d ∈ c, Tm d) (te : ∀ d ∈ e, Tm d) (hc : ∀ l ∈ leavesC k c, l ∈ K) (he : ∀ l ∈ leavesC k e, l ∈ K) (hl : c.length = e.length) (h : resC K k c = resC K k e) : c = e := by
  refine List.ext_getElem hl fun i h1 h2 => ?_
  have a := col_proj i k c tc hc h1
  have b := col_proj i k e te he h2
  rw [h, b] at a
  rw [List.getD_eq_getElem?_getD, List.getElem?_eq_getElem h2, List.getD_eq_getElem?_getD, List.getElem?_eq_getElem h1] at a
  exact a.symm
/-! ### what is told of some rows, and one more row -/
/-- columns that go on behind what others come to -/
def SnocR (K : List (List D)) (m r : Nat) (c c' : List D) : Prop := ∃ c0 es, c = c0 ++ es ∧ c' = resC K 51 c0 :: es ∧ c0.length = m ∧ es.length = r ∧ (∀ d ∈ c0, Tm d) ∧ deeps c0 ≤ 50 ∧ ∀ l ∈ leavesC 51 c0, l ∈ K
theorem hd_res {K : List (List D)} {k : Nat} {c : List D} : hdOf (resC K (k + 1) c) = sameHead c := by
  cases e : sameHead c with
  | none => rw [resC_none e]; rfl
  | some h =>
    rw [resC_some e]
    show some (h.1, ((partsAt h.2 c).map (resC K k)).length) = some h
    rw [List.length_map, partsAt_len]
theorem sim_snoc (K : List (List D)) {m : Nat} (m0 : 0 < m) (r : Nat) : Sim (SnocR K m r) := by
  have key : ∀ c0 es : List D, c0 ≠ [] → sameHead (c0 ++ es) = sameHead (resC K 51 c0 :: es) := fun c0 es ne => by
    apply Option.ext
    intro h
    show sameHead (c0 ++ es) = some h ↔ sameHead (resC K 51 c0 :: es) = some h
    rw [same_iff, same_iff]
    constructor
    · rintro ⟨_, al⟩
      refine ⟨by simp, fun e he => ?_⟩
      rcases List.mem_cons.mp he with z | he
      · rw [z, hd_res]
        exact same_iff.mpr ⟨ne, fun x hx => al x (List.mem_append_left _ hx)⟩
      · exact al e (List.mem_append_right _ he)
    · rintro ⟨_, al⟩
      refine ⟨by simp [ne], fun e he => ?_⟩
      rcases List.mem_append.mp he with he | he
      · have := al _ List.mem_cons_self
        rw [hd_res] at this
        exact (same_iff.mp this).2 e he
      · exact al e (List.mem_cons_of_mem _ he)
  refine ⟨?_, ?_, ?_⟩
  · rintro _ _ ⟨c0, es, rfl, rfl, h1, h2, _⟩
    exact key c0 es (fun z => by rw [z] at h1; simp at h1; omega)
  · rintro _ _ h ⟨c0, es, rfl, rfl, h1, h2, t, dp, hl⟩ e i hi
    have ne : c0 ≠ [] := fun z => by rw [z] at h1; simp at h1; omega
    have e0 : sameHead c0 = some h := by
      have := (same_iff.mp e).2 _ List.mem_cons_self
      rwa [hd_res] at this
    obtain ⟨a, b, _⟩ := parts_deep t e0 hi
    refine ⟨c0.map (argAt i), es.map (argAt i), List.map_append, ?_, by rw [List.length_map, h1], by rw [List.length_map, h2], a, by omega, fun l hm => hl l ?_⟩
    · rw [List.map_cons]
      congr 1
      rw [resC_some e0, fuel_res K 50 _ a (by omega)]
      have g : ((partsAt h.2 c0).map (resC K 50))[i]? = some (resC K 50 (c0.map (argAt i))) := by
        rw [List.getElem?_map, partsAt_get hi]
        rfl
      exact argAt_get g
    · rw [leavesC_some e0]
      rw [fuel_leaves 50 _ a (by omega)] at hm
      exact List.mem_flatMap.mpr ⟨_, List.mem_map.mpr ⟨i, List.mem_range.mpr hi, rfl⟩, hm⟩
  · rintro _ _ _ _ ⟨c0, es, rfl, rfl, h1, h2, t, dp, hl⟩ ⟨d0, fs, rfl, rfl, g1, g2, u, dq, gl⟩
    constructor
    · intro e
      obtain ⟨e1, e2⟩ := List.append_inj e (by omega)
      rw [e1, e2]
    · intro e
      injection e with e1 e2
      rw [res_inj t u hl gl (by omega) e1, e2]
theorem colsOf_map {n : Nat} {rows : List (List D)} {i : Nat} (hi : i < n) : (colsOf n rows)[i]? = some (rows.map fun r => r.getD i .non) := colsOf_get hi rows
theorem paired_range {α : Type} {F : α → α → Prop} {f g : Nat → α} : ∀ l : List Nat, (∀ i ∈ l, F (f i) (g i)) → Paired F (l.map f) (l.map g)
  | [], _ => .nil
  | i :: l, h => .cons (h i List.mem_cons_self) (paired_range l fun j hj => h j (List.mem_cons_of_mem _ hj))
/-- rows of n terms each, not too deep -/
def RowsOk (n : Nat) (rows : List (List D)) : Prop := ∀ r ∈ rows, OkC r ∧ r.length = n
theorem col_at {n : Nat} {rows : List (List D)} (ok : RowsOk n rows) {i : Nat} (hi : i < n) : (∀ d ∈ rows.map fun r => r.getD i .non, Tm d) ∧ deeps (rows.map fun r => r.getD i .non) ≤ 50 := by
  obtain ⟨a, b, _⟩ := col_tm hi ok
  exact ⟨a, b⟩
/-- what rows and further rows have in common is what the former come to and the further rows have in common -/
theorem gen_more {n : Nat} {rows more : List (List D)} (ok : RowsOk n rows) (ne : rows ≠ []) : genC 51 (colsOf n (genC 51 (colsOf n rows) :: more)) = genC 51 (colsOf n (rows ++ more)) := by
  have lg : (genC 51 (colsOf n rows)).length = n := by unfold genC; rw [List.length_map, colsOf_len]
  have m0 : 0 < rows.length := List.length_pos_iff.mpr ne
  symm
  refine sim_gen (sim_snoc (addsC [] ((colsOf n rows).flatMap (leavesC 51))) m0 more.length) 51 (paired_range _ fun i hi => ?_)
  have hi := List.mem_range.mp hi
  obtain ⟨a, b⟩ := col_at ok hi
  refine ⟨rows.map fun r => r.getD i .non, more.map fun r => r.getD i .non, List.map_append, ?_, by rw [List.length_map], by rw [List.length_map], a, b, fun l hl => ?_⟩
  · rw [List.map_cons]
    congr 1
    unfold genC
    rw [List.getD_eq_getElem?_getD, List.getElem?_map, colsOf_get hi]
    rfl
  · exact addsC_mem (List.mem_flatMap.mpr ⟨_, List.mem_of_getElem? (colsOf_get hi rows), hl⟩)
/-! ### rows in another order, some more than once -/
def PickR (m : Nat) (σ : List Nat) (c c' : List D) : Prop := c'.length = m ∧ c = σ.map fun j => c'.getD j .non
theorem sim_pick {m : Nat} (m0 : 0 < m) {σ : List Nat} (h1 : ∀ j ∈ σ, j < m) (h2 : ∀ j, j < m → j ∈ σ) : Sim (PickR m σ) := by
  have gd : ∀ (c : List D) {j : Nat}, j < c.length → c.getD j .non ∈ c := fun c j hj => by
    rw [List.getD_eq_getElem?_getD, List.getElem?_eq_getElem hj]
    exact List.getElem_mem hj
  refine ⟨?_, ?_, ?_⟩
  · rintro _ c ⟨hl, rfl⟩
    apply Option.ext
    intro h
    show sameHead _ = some h ↔ sameHead c = some h
    rw [same_iff, same_iff]
    constructor
    · rintro ⟨_, al⟩
      refine ⟨fun z => by rw [z] at hl; simp at hl; omega, fun e he => ?_⟩
      obtain ⟨j, hj, rfl⟩ := List.mem_iff_getElem.mp he
      have := al (c.getD j .non) (List.mem_map.mpr ⟨j, h2 j (by omega), rfl⟩)
      rw [List.getD_eq_getElem?_getD, List.getElem?_eq_getElem hj] at this
      exact this
    · rintro ⟨_, al⟩
      refine ⟨fun z => ?_, fun e he => ?_⟩
      · have := h2 0 m0
        rw [List.map_eq_nil_iff] at z
        rw [z] at this
        cases this
      · obtain ⟨j, hj, rfl⟩ := List.mem_map.mp he
        have := h1 j hj
        exact al _ (gd c (by omega))
  · rintro _ c h ⟨hl, rfl⟩ e i hi
    refine ⟨by rw [List.length_map, hl], ?_⟩
    rw [List.map_map]
    refine List.map_congr_left fun j hj => ?_
    have := h1 j hj
    show argAt i (c.getD j .non) = (c.map (argAt i)).getD j .non
    rw [List.getD_eq_getElem?_getD, List.getD_eq_getElem?_getD, List.getElem?_map, List.getElem?_eq_getElem (show j < c.length by omega)]
    rfl
  · rintro _ c _ e ⟨hl, rfl⟩ ⟨gl, rfl⟩
    constructor
    · intro z
      refine List.ext_getElem (by omega) fun j k1 k2 => ?_
      have := List.map_inj_left.mp z j (h2 j (by omega))
      rw [List.getD_eq_getElem?_getD, List.getElem?_eq_getElem k1, List.getD_eq_getElem?_getD, List.getElem?_eq_getElem k2] at this
      exact this
    · intro z
      rw [z]
theorem gen_pick {n : Nat} {rows : List (List D)} {σ : List Nat} (ne : rows ≠ []) (h1 : ∀ j ∈ σ, j < rows.length) (h2 : ∀ j, j < rows.length → j ∈ σ) (k : Nat) : genC k (colsOf n (σ.map fun j => rows.getD j [])) = genC k (colsOf n rows) := by
  refine sim_gen (sim_pick (List.length_pos_iff.mpr ne) h1 h2) k (paired_range _ fun i hi => ⟨by rw [List.length_map], ?_⟩)
  rw [List.map_map]
  refine List.map_congr_left fun j hj => ?_
  have := h1 j hj
  show (rows.getD j []).getD i .non = (rows.map fun r => r.getD i .non).getD j .non
  rw [List.getD_eq_getElem?_getD (l := rows), List.getD_eq_getElem?_getD (l := rows.map _), List.getElem?_map, List.getElem?_eq_getElem this]
  rfl
end Fm
set_option maxRecDepth 100000
set_option maxHeartbeats 2000000
/-! least terms numbered anyhow, then anew; renamed unknowns -/
namespace Fm
open PySem PySem.Spec PyProof.Rows L2
open Classical
/-- what columns have in common, the other columns numbered anyhow -/
noncomputable def resF (γ : List D → Int) : Nat → List D → D
  | 0, cs => .int (γ cs)
  | k + 1, cs => match sameHead cs with
    | none => .int (γ cs)
    | some h => .tup (.str h.1 :: (partsAt h.2 cs).map (resF γ k))
theorem resF_some {γ : List D → Int} {cs : List D} {h : Str × Nat} (e : sameHead cs = some h) (k : Nat) : resF γ (k + 1) cs = .tup (.str h.1 :: (partsAt h.2 cs).map (resF γ k)) := by simp only [resF, e]
theorem resF_none {γ : List D → Int} {cs : List D} (e : sameHead cs = none) : ∀ k, resF γ k cs = .int (γ cs)
  | 0 => rfl
  | k + 1 => by simp only [resF, e]
theorem resC_F (K : List (List D)) : ∀ (k : Nat) (c : List D), resC K k c = resF (fun c => (K.idxOf c : Nat)) k c
  | 0, _ => rfl
  | k + 1, c => by
    cases e : sameHead c with
    | none => rw [resC_none e, resF_none e]; rfl
    | some h =>
      rw [resC_some e, resF_some e]
      congr 2
      exact List.map_congr_left fun p _ => resC_F K k p
theorem intsOf_flat {α : Type} (f : α → D) : ∀ l : List α, intsOf (l.map f) = l.flatMap fun a => intsIn (f a)
  | [] => rfl
  | a :: l => by rw [List.map_cons, intsOf, List.flatMap_cons, intsOf_flat f l]
theorem ints_res (γ : List D → Int) : ∀ (k : Nat) (c : List D), intsIn (resF γ k c) = (leavesC k c).map γ
  | 0, c => rfl
  | k + 1, c => by
    cases e : sameHead c with
    | none => rw [resF_none e, leavesC_none e]; rfl
    | some h =>
      rw [resF_some e, leavesC_some e]
      have e2 : intsIn (.tup (.str h.1 :: (partsAt h.2 c).map (resF γ k))) = intsOf ((partsAt h.2 c).map (resF γ k)) := by simp [intsIn, intsOf]
      rw [e2, intsOf_flat, List.map_flatMap]
      exact flat_congr fun p _ => ints_res γ k p
theorem tm_resF (γ : List D → Int) : ∀ (k : Nat) (cs : List D), Tm (resF γ k cs)
  | 0, cs => .int _
  | k + 1, cs => by
    cases e : sameHead cs with
    | none => rw [resF_none e]; exact .int _
    | some h =>
      rw [resF_some e]
      refine .tup _ _ fun d hd => ?_
      obtain ⟨p, _, rfl⟩ := List.mem_map.mp hd
      exact tm_resF γ k p
section
variable {γ : List D → Int} {S : List D → Prop} (inj : ∀ a b, S a → S b → γ a = γ b → a = b)
include inj
theorem adds_inj : ∀ {ls K : List (List D)}, (∀ l ∈ ls, S l) → (∀ l ∈ K, S l) → (ls.map γ).foldl addI (K.map γ) = (addsC K ls).map γ
  | [], _, _, _ => rfl
  | l :: ls, K, hl, hK => by
    show (ls.map γ).foldl addI (addI (K.map γ) (γ l)) = (addsC (addC K l) ls).map γ
    have sl := hl l List.mem_cons_self
    have e : addI (K.map γ) (γ l) = (addC K l).map γ := by
      unfold addI addC
      by_cases m : l ∈ K
      · rw [if_pos m, if_pos (List.mem_map.mpr ⟨l, m, rfl⟩)]
      · rw [if_neg m, if_neg (fun z => m (by
          obtain ⟨l', h1, h2⟩ := List.mem_map.mp z
          rw [← inj l' l (hK l' h1) sl h2]
          exact h1)), List.map_append]
        rfl
    rw [e]
    refine adds_inj (fun x hx => hl x (List.mem_cons_of_mem _ hx)) fun x hx => ?_
    unfold addC at hx
    split at hx
    · exact hK x hx
    · rcases List.mem_append.mp hx with hx | hx
      · exact hK x hx
      · rw [List.mem_singleton.mp hx]
        exact sl
theorem idx_inj {c : List D} (hc : S c) : ∀ {K : List (List D)}, (∀ l ∈ K, S l) → (K.map γ).idxOf (γ c) = K.idxOf c
  | [], _ => rfl
  | l :: K, h => by
    rw [List.map_cons, List.idxOf_cons, List.idxOf_cons, idx_inj hc fun x hx => h x (List.mem_cons_of_mem _ hx)]
    by_cases z : l = c
    · rw [z, beq_self_eq_true, beq_self_eq_true]
    · have z2 : γ l ≠ γ c := fun w => z (inj l c (h l List.mem_cons_self) hc w)
      rw [beq_eq_false_iff_ne.mpr z, beq_eq_false_iff_ne.mpr z2]
/-- numbered anew, they are what the columns have in common -/
theorem num_res {k : Nat} {cols : List (List D)} (hs : ∀ l ∈ cols.flatMap (leavesC k), S l) : puts (numF (cols.map (resF γ k))) (cols.map (resF γ k)) = genC k cols := by
  have tm : ∀ d ∈ cols.map (resF γ k), Tm d := fun d hd => by
    obtain ⟨c, _, rfl⟩ := List.mem_map.mp hd
    exact tm_resF γ k c
  have e1 : intsOf (cols.map (resF γ k)) = (cols.flatMap (leavesC k)).map γ := by
    rw [intsOf_flat, List.map_flatMap]
    exact flat_congr fun c _ => ints_res γ k c
  have e2 : firstsOf (cols.map (resF γ k)) = (addsC [] (cols.flatMap (leavesC k))).map γ := by
    unfold firstsOf
    rw [leaves_ints tm, e1]
    exact adds_inj inj (K := []) hs fun l hl => by cases hl
  have hK : ∀ l ∈ addsC [] (cols.flatMap (leavesC k)), S l := by
    have go : ∀ {ls K : List (List D)}, (∀ l ∈ ls, S l) → (∀ l ∈ K, S l) → ∀ l ∈ addsC K ls, S l := by
      intro ls
      induction ls with
      | nil => exact fun _ h => h
      | cons a r ih =>
        intro K h1 h2
        refine ih (K := addC K a) (fun x hx => h1 x (List.mem_cons_of_mem _ hx)) fun x hx => ?_
        unfold addC at hx
        split at hx
        · exact h2 x hx
        · rcases List.mem_append.mp hx with hx | hx
          · exact h2 x hx
          · rw [List.mem_singleton.mp hx]
            exact h1 a List.mem_cons_self
    exact go hs fun l hl => by cases hl
  unfold genC
  rw [puts_map, List.map_map]
  refine List.map_congr_left fun c hc => ?_
  have hcl : ∀ l ∈ leavesC k c, S l := fun l hl => hs l (List.mem_flatMap.mpr ⟨c, hc, hl⟩)
  generalize hK2 : addsC [] (cols.flatMap (leavesC k)) = K at e2 hK ⊢
  have leaf : ∀ l, S l → numF (cols.map (resF γ k)) (γ l) = .int (K.idxOf l : Nat) := fun l hl => by
    unfold numF
    rw [e2, idx_inj inj hl hK]
  show putD (numF (cols.map (resF γ k))) (resF γ k c) = resC K k c
  generalize numF (cols.map (resF γ k)) = f at leaf
  clear e1 e2 hK2 tm hs hc
  induction k generalizing c with
  | zero => exact leaf c (hcl c (by simp [leavesC]))
  | succ k ih =>
    cases e : sameHead c with
    | none =>
      rw [resF_none e, resC_none e]
      exact leaf c (hcl c (by rw [leavesC_none e]; exact List.mem_cons_self))
    | some h =>
      rw [resF_some e, resC_some e]
      show D.tup (.str h.1 :: puts f ((partsAt h.2 c).map (resF γ k))) = _
      congr 2
      rw [puts_map, List.map_map]
      refine List.map_congr_left fun p hp => ih p fun l hl => hcl l ?_
      rw [leavesC_some e]
      exact List.mem_flatMap.mpr ⟨p, hp, hl⟩
end
/-! ### what the terms are like -/
theorem isTerm_res {γ : List D → Int} (h0 : ∀ c, 0 ≤ γ c) : ∀ (k : Nat) (d : D) (r : List D), isTerm d = true → isTerm (resF γ k (d :: r)) = true
  | 0, d, r, _ => decide_eq_true (h0 _)
  | k + 1, d, r, h => by
    cases e : sameHead (d :: r) with
    | none => rw [resF_none e]; exact decide_eq_true (h0 _)
    | some hh =>
      rw [resF_some e]
      obtain ⟨ds, rfl, le⟩ := hd_some (same_all e d List.mem_cons_self)
      simp only [isTerm, isTermT, Bool.and_eq_true, decide_eq_true_eq, areTerms_all, List.all_eq_true, List.length_map, partsAt_len] at h ⊢
      refine ⟨⟨by omega, h.1.2⟩, fun x hx => ?_⟩
      obtain ⟨p, hp, rfl⟩ := List.mem_map.mp hx
      obtain ⟨i, hi, rfl⟩ := List.mem_map.mp hp
      have hi2 : i < ds.length := by rw [le]; exact List.mem_range.mp hi
      have a := argAt_get (x := hh.1) (List.getElem?_eq_getElem hi2)
      show isTerm (resF γ k (argAt i (.tup (.str hh.1 :: ds)) :: r.map (argAt i))) = true
      rw [a]
      exact isTerm_res h0 k _ _ (h.2 _ (List.getElem_mem hi2))
theorem size_res (γ : List D → Int) : ∀ (k : Nat) (d : D) (r : List D), (resF γ k (d :: r)).size ≤ d.size ∧ (resF γ k (d :: r)).deep ≤ d.deep
  | 0, d, r => ⟨size_pos d, Nat.zero_le _⟩
  | k + 1, d, r => by
    cases e : sameHead (d :: r) with
    | none => rw [resF_none e]; exact ⟨size_pos d, Nat.zero_le _⟩
    | some hh =>
      rw [resF_some e]
      obtain ⟨ds, rfl, le⟩ := hd_some (same_all e d List.mem_cons_self)
      have go : ∀ (es : List D) (f : Nat → D), (∀ (i : Nat) (x : D), es[i]? = some x → (f i).size ≤ x.size ∧ (f i).deep ≤ x.deep) → sizes ((List.range es.length).map f) ≤ sizes es ∧ deeps ((List.range es.length).map f) ≤ deeps es := by
        intro es
        induction es with
        | nil => exact fun _ _ => ⟨Nat.le_refl _, Nat.le_refl _⟩
        | cons x es ih =>
          intro f hf
          obtain ⟨a, b⟩ := hf 0 x rfl
          obtain ⟨c, d⟩ := ih (fun i => f (i + 1)) fun i y hy => hf (i + 1) y (by rw [List.getElem?_cons_succ]; exact hy)
          rw [List.length_cons, List.range_succ_eq_map, List.map_cons, List.map_map]
          simp only [sizes, deeps]
          have e1 : (f ∘ Nat.succ) = fun i => f (i + 1) := rfl
          rw [e1]
          omega
      have := go ds (fun i => resF γ k ((D.tup (.str hh.1 :: ds) :: r).map (argAt i))) fun i x hx => by
        show (resF γ k (argAt i (.tup (.str hh.1 :: ds)) :: r.map (argAt i))).size ≤ x.size ∧ (resF γ k (argAt i (.tup (.str hh.1 :: ds)) :: r.map (argAt i))).deep ≤ x.deep
        rw [argAt_get hx]
        exact size_res γ k x _
      have e2 : (partsAt hh.2 (D.tup (.str hh.1 :: ds) :: r)).map (resF γ k) = (List.range ds.length).map fun i => resF γ k ((D.tup (.str hh.1 :: ds) :: r).map (argAt i)) := by
        unfold partsAt
        rw [List.map_map, le]
        rfl
      rw [e2]
      simp only [D.size, D.deep, sizes, deeps]
      omega
theorem gen_facts {k n : Nat} {r0 : List D} {rows : List (List D)} (h : areTerms r0 = true) (hn : r0.length = n) : areTerms (genC k (colsOf n (r0 :: rows))) = true ∧ sizes (genC k (colsOf n (r0 :: rows))) ≤ sizes r0 ∧ deeps (genC k (colsOf n (r0 :: rows))) ≤ deeps r0 ∧ (genC k (colsOf n (r0 :: rows))).length = n := by
  subst hn
  rw [areTerms_all, List.all_eq_true] at h ⊢
  have row : ∀ i, (hi : i < r0.length) → r0.getD i .non = r0[i] := fun i hi => by rw [List.getD_eq_getElem?_getD, List.getElem?_eq_getElem hi]; rfl
  refine ⟨fun d hd => ?_, ?_, gen_deep k r0 rows, by unfold genC; rw [List.length_map, colsOf_len]⟩
  · obtain ⟨c, hc, rfl⟩ := List.mem_map.mp hd
    obtain ⟨i, hi, rfl⟩ := List.mem_map.mp hc
    have hi := List.mem_range.mp hi
    rw [resC_F]
    show isTerm (resF _ k (r0.getD i .non :: rows.map fun r => r.getD i .non)) = true
    rw [row i hi]
    exact isTerm_res (fun c => Int.natCast_nonneg _) k _ _ (h _ (List.getElem_mem hi))
  · unfold genC
    generalize addsC [] ((colsOf r0.length (r0 :: rows)).flatMap (leavesC k)) = K
    unfold colsOf
    rw [List.map_map]
    have go : ∀ (es : List D) (f : Nat → D), (∀ (i : Nat) (x : D), es[i]? = some x → (f i).size ≤ x.size) → sizes ((List.range es.length).map f) ≤ sizes es := by
      intro es
      induction es with
      | nil => exact fun _ _ => Nat.le_refl _
      | cons x es ih =>
        intro f hf
        have a := hf 0 x rfl
        have c := ih (fun i => f (i + 1)) fun i y hy => hf (i + 1) y (by rw [List.getElem?_cons_succ]; exact hy)
        rw [List.length_cons, List.range_succ_eq_map, List.map_cons, List.map_map]
        simp only [sizes]
        have e1 : (f ∘ Nat.succ) = fun i => f (i + 1) := rfl
        rw [e1]
        omega
    refine go r0 _ fun i x hx => ?_
    show (resC K k (r0.getD i .non :: rows.map fun r => r.getD i .non)).size ≤ x.size
    rw [resC_F, List.getD_eq_getElem?_getD, hx]
    exact (size_res _ k x _).1
/-! ### unknowns renamed -/
theorem put_put (f g : Int → D) : ∀ {d : D}, Tm d → putD f (putD g d) = putD (fun u => putD f (g u)) d := by
  intro d t
  induction t with
  | int u => rfl
  | tup x ds _ ih =>
    show D.tup (.str x :: puts f (puts g ds)) = D.tup (.str x :: puts _ ds)
    congr 2
    rw [puts_map, puts_map, puts_map, List.map_map]
    exact List.map_congr_left fun d hd => ih d hd
theorem puts_puts (f g : Int → D) {ds : List D} (t : ∀ d ∈ ds, Tm d) : puts f (puts g ds) = puts (fun u => putD f (g u)) ds := by
  rw [puts_map, puts_map, puts_map, List.map_map]
  exact List.map_congr_left fun d hd => put_put f g (t d hd)
theorem put_id {f : Int → D} {d : D} (t : Tm d) : (∀ u ∈ intsIn d, f u = .int u) → putD f d = d := by
  induction t with
  | int u => exact fun h => h u (by simp [intsIn])
  | tup x ds _ ih =>
    intro h
    have e2 : intsIn (.tup (.str x :: ds)) = intsOf ds := by simp [intsIn, intsOf]
    rw [e2] at h
    show D.tup (.str x :: puts f ds) = _
    congr 2
    rw [puts_map]
    conv => rhs; rw [← List.map_id ds]
    exact List.map_congr_left fun d hd => ih d hd fun u hu => h u (intsOf_in hd hu)
/-- what was numbered comes back -/
noncomputable def backN (ds : List D) (u : Int) : D := .int ((firstsOf ds).getD u.toNat 0)
theorem num_back {ds : List D} (t : ∀ d ∈ ds, Tm d) : puts (backN ds) (puts (numF ds) ds) = ds := by
  rw [puts_puts _ _ t, puts_map]
  conv => rhs; rw [← List.map_id ds]
  refine List.map_congr_left fun d hd => put_id (t d hd) fun u hu => ?_
  have m : u ∈ firstsOf ds := by
    unfold firstsOf
    rw [leaves_ints t, foldl_addI_mem]
    exact .inr (intsOf_in hd hu)
  show D.int ((firstsOf ds).getD ((firstsOf ds).idxOf u : Int).toNat 0) = .int u
  have lt := List.idxOf_lt_length_of_mem m
  rw [Int.toNat_natCast, List.getD_eq_getElem?_getD, List.getElem?_eq_getElem lt, List.getElem_idxOf lt]
  rfl
theorem back_one {ds : List D} (t : ∀ d ∈ ds, Tm d) {d : D} (hd : d ∈ ds) : putD (backN ds) (putD (numF ds) d) = d := by
  have e := num_back t
  rw [puts_map, puts_map, List.map_map] at e
  obtain ⟨i, hi, rfl⟩ := List.mem_iff_getElem.mp hd
  have := congrArg (fun l : List D => l[i]?) e
  simp only [List.getElem?_map, List.getElem?_eq_getElem hi, Option.map_some, Function.comp] at this
  exact Option.some.inj this
/-- each entry is renamed by its own renaming, which can be taken back -/
def RenR (fs bs : List (Int → D)) (c c' : List D) : Prop := c'.length = fs.length ∧ (∀ d ∈ c', Tm d) ∧ c = List.zipWith putD fs c' ∧ List.zipWith putD bs c = c'
theorem sim_ren {fs bs : List (Int → D)} (hb : bs.length = fs.length) (m0 : 0 < fs.length) (hf : ∀ f ∈ fs, ∀ u, ∃ z, f u = .int z) (hbk : ∀ f ∈ bs, ∀ u, ∃ z, f u = .int z) : Sim (RenR fs bs) := by
  have hdp : ∀ (f : Int → D) (d : D), (∀ u, ∃ z, f u = .int z) → Tm d → hdOf (putD f d) = hdOf d := fun f d h t => by
    cases t with
    | int u =>
      obtain ⟨z, e⟩ := h u
      show hdOf (f u) = _
      rw [e]
      rfl
    | tup x ds _ =>
      show some (x, (puts f ds).length) = some (x, ds.length)
      rw [puts_len]
  have hda : ∀ (f : Int → D) (d : D) (h : Str × Nat) (i : Nat), hdOf d = some h → i < h.2 → argAt i (putD f d) = putD f (argAt i d) := fun f d h i e hi => by
    obtain ⟨es, rfl, le⟩ := hd_some e
    show argAt i (.tup (.str h.1 :: puts f es)) = _
    have hi2 : i < es.length := by omega
    have a1 := argAt_get (x := h.1) (List.getElem?_eq_getElem hi2)
    have a2 : (puts f es)[i]? = some (putD f es[i]) := by rw [puts_map, List.getElem?_map, List.getElem?_eq_getElem hi2]; rfl
    rw [argAt_get a2, a1]
  have zget : ∀ (gs : List (Int → D)) (c : List D) (i : Nat) (hi : i < gs.length) (hc : i < c.length), (List.zipWith putD gs c)[i]? = some (putD gs[i] c[i]) := fun gs c i hi hc => by
    rw [List.getElem?_zipWith, List.getElem?_eq_getElem hi, List.getElem?_eq_getElem hc]
  refine ⟨?_, ?_, ?_⟩
  · rintro c c' ⟨hl, t, hc, _⟩
    apply Option.ext
    intro h
    show sameHead c = some h ↔ sameHead c' = some h
    have lc : c.length = fs.length := by rw [hc, List.length_zipWith]; omega
    have eqh : ∀ i, (hi : i < fs.length) → hdOf (c[i]'(by omega)) = hdOf (c'[i]'(by omega)) := fun i hi => by
      have g := zget fs c' i hi (by omega)
      rw [← hc, List.getElem?_eq_getElem (by omega)] at g
      rw [Option.some.inj g]
      exact hdp _ _ (hf _ (List.getElem_mem hi)) (t _ (List.getElem_mem _))
    rw [same_iff, same_iff]
    constructor
    · rintro ⟨_, al⟩
      refine ⟨fun z => by rw [z] at hl; simp at hl; omega, fun e he => ?_⟩
      obtain ⟨j, hj, rfl⟩ := List.mem_iff_getElem.mp he
      rw [← eqh j (by omega)]
      exact al _ (List.getElem_mem _)
    · rintro ⟨_, al⟩
      refine ⟨fun z => by rw [z] at lc; simp at lc; omega, fun e he => ?_⟩
      obtain ⟨j, hj, rfl⟩ := List.mem_iff_getElem.mp he
      rw [eqh j (by omega)]
      exact al _ (List.getElem_mem _)
  · rintro c c' h ⟨hl, t, hc, hbc⟩ e i hi
    obtain ⟨ne, al⟩ := same_iff.mp e
    have lc : c.length = fs.length := by rw [hc, List.length_zipWith]; omega
    have alc : ∀ j, (hj : j < fs.length) → hdOf (c[j]'(by omega)) = some h := fun j hj => by
      have g := zget fs c' j hj (by omega)
      rw [← hc, List.getElem?_eq_getElem (by omega)] at g
      rw [Option.some.inj g, hdp _ _ (hf _ (List.getElem_mem hj)) (t _ (List.getElem_mem _))]
      exact al _ (List.getElem_mem _)
    refine ⟨by rw [List.length_map, hl], (args_tm (x := h.1) (n := h.2) hi t al).1, ?_, ?_⟩
    · refine List.ext_getElem (by rw [List.length_map, List.length_zipWith, List.length_map]; omega) fun j h1 h2 => ?_
      rw [List.length_map] at h1
      have hj : j < fs.length := by omega
      rw [List.getElem_map, List.getElem_zipWith, List.getElem_map]
      rw [← hda _ _ h i (al _ (List.getElem_mem (by omega))) hi]
      congr 1
      have g := zget fs c' j hj (by omega)
      rw [← hc, List.getElem?_eq_getElem (by omega)] at g
      exact Option.some.inj g
    · refine List.ext_getElem (by rw [List.length_map, List.length_zipWith, List.length_map]; omega) fun j h1 h2 => ?_
      rw [List.length_map] at h2
      have hj : j < fs.length := by omega
      rw [List.getElem_zipWith, List.getElem_map, List.getElem_map]
      rw [← hda _ _ h i (alc j hj) hi]
      congr 1
      have g := zget bs c j (by omega) (by omega)
      rw [hbc, List.getElem?_eq_getElem (by omega)] at g
      exact (Option.some.inj g).symm
  · rintro c c' e e' ⟨_, _, hc, hbc⟩ ⟨_, _, he, hbe⟩
    constructor
    · intro z
      rw [← hbc, ← hbe, z]
    · intro z
      rw [hc, he, z]
/-- rows numbered anew have the same in common -/
theorem gen_two_num {n : Nat} {r1 r2 : List D} (t1 : ∀ d ∈ r1, Tm d) (t2 : ∀ d ∈ r2, Tm d) (h1 : r1.length = n) (h2 : r2.length = n) (k : Nat) :
    genC k (colsOf n [puts (numF r1) r1, puts (numF r2) r2]) = genC k (colsOf n [r1, r2]) := by
  refine sim_gen (sim_ren (fs := [numF r1, numF r2]) (bs := [backN r1, backN r2]) rfl (by show 0 < 2; decide) (fun f hf u => ?_) (fun f hf u => ?_)) k (paired_range _ fun i hi => ?_)
  · simp only [List.mem_cons, List.not_mem_nil, or_false] at hf
    rcases hf with rfl | rfl <;> exact ⟨_, rfl⟩
  · simp only [List.mem_cons, List.not_mem_nil, or_false] at hf
    rcases hf with rfl | rfl <;> exact ⟨_, rfl⟩
  · have hi := List.mem_range.mp hi
    have g : ∀ (r : List D) (f : Int → D), r.length = n → r.getD i .non ∈ r ∧ (puts f r).getD i .non = putD f (r.getD i .non) := fun r f hr => by
      have hi2 : i < r.length := by omega
      rw [List.getD_eq_getElem?_getD, List.getElem?_eq_getElem hi2, List.getD_eq_getElem?_getD, puts_map, List.getElem?_map, List.getElem?_eq_getElem hi2]
      exact ⟨List.getElem_mem hi2, rfl⟩
    obtain ⟨m1, e1⟩ := g r1 (numF r1) h1
    obtain ⟨m2, e2⟩ := g r2 (numF r2) h2
    refine ⟨rfl, fun d hd => ?_, ?_, ?_⟩
    · simp only [List.map_cons, List.map_nil, List.mem_cons, List.not_mem_nil, or_false] at hd
      rcases hd with rfl | rfl
      · exact t1 _ m1
      · exact t2 _ m2
    · show [(puts (numF r1) r1).getD i .non, (puts (numF r2) r2).getD i .non] = [putD (numF r1) (r1.getD i .non), putD (numF r2) (r2.getD i .non)]
      rw [e1, e2]
    · show [putD (backN r1) ((puts (numF r1) r1).getD i .non), putD (backN r2) ((puts (numF r2) r2).getD i .non)] = [r1.getD i .non, r2.getD i .non]
      rw [e1, e2, back_one t1 m1, back_one t2 m2]
/-- each row is an instance of what the rows have in common -/
theorem gen_inst {n : Nat} {rows : List (List D)} (ok : RowsOk n rows) {i : Nat} (hi : i < rows.length) : ∃ f, puts f (genC 51 (colsOf n rows)) = rows[i] := by
  refine ⟨projF (addsC [] ((colsOf n rows).flatMap (leavesC 51))) i, ?_⟩
  have lr := (ok _ (List.getElem_mem hi)).2
  unfold genC
  rw [puts_map, List.map_map]
  refine List.ext_getElem (by rw [List.length_map, colsOf_len, lr]) fun j h1 h2 => ?_
  rw [List.length_map, colsOf_len] at h1
  rw [List.getElem_map]
  have e : (colsOf n rows)[j]'(by rw [colsOf_len]; exact h1) = rows.map fun r => r.getD j .non := by
    have := colsOf_get h1 rows
    rw [List.getElem?_eq_getElem (by rw [colsOf_len]; exact h1)] at this
    exact Option.some.inj this
  show putD _ (resC _ 51 _) = _
  rw [e]
  obtain ⟨a, b⟩ := col_at ok h1
  rw [col_proj i 51 _ a (fun l hl => addsC_mem (List.mem_flatMap.mpr ⟨_, List.mem_of_getElem? (colsOf_get h1 rows), hl⟩)) (by rw [List.length_map]; exact hi)]
  rw [List.getD_eq_getElem?_getD, List.getElem?_map, List.getElem?_eq_getElem hi]
  show rows[i].getD j .non = _
  rw [List.getD_eq_getElem?_getD, List.getElem?_eq_getElem h2]
  rfl
end Fm
namespace Fm
open PySem PySem.Spec PyProof.Rows L2
open Classical
theorem fuel_resF (γ : List D → Int) : ∀ (k : Nat) (c : List D), (∀ d ∈ c, Tm d) → deeps c ≤ k → resF γ (k + 1) c = resF γ k c
  | 0, c, t, h => by
    rw [resF_none (same_zero t (by omega))]
    rfl
  | k + 1, c, t, h => by
    cases e : sameHead c with
    | none => rw [resF_none e, resF_none e]
    | some hh =>
      rw [resF_some e, resF_some e]
      congr 2
      unfold partsAt
      rw [List.map_map, List.map_map]
      refine List.map_congr_left fun i hi => ?_
      obtain ⟨a, b, _⟩ := parts_deep t e (List.mem_range.mp hi)
      exact fuel_resF γ k _ a (by show deeps (c.map (argAt i)) ≤ k; omega)
/-- two terms with the same head -/
theorem resF_two {γ : List D → Int} {x : Str} {es fs : List D} (hl : es.length = fs.length) (t1 : ∀ d ∈ es, Tm d) (t2 : ∀ d ∈ fs, Tm d) (d1 : deeps es ≤ 49) (d2 : deeps fs ≤ 49) :
    resF γ 51 [.tup (.str x :: es), .tup (.str x :: fs)] = .tup (.str x :: List.zipWith (fun d e => resF γ 51 [d, e]) es fs) := by
  have s : sameHead [D.tup (.str x :: es), .tup (.str x :: fs)] = some (x, es.length) := sameHead_tup fun c hc => by
    rw [List.mem_singleton.mp hc, hl]
    rfl
  rw [resF_some s]
  congr 2
  have e : partsAt es.length [D.tup (.str x :: es), .tup (.str x :: fs)] = (List.range es.length).map fun i => [es.getD i .non, fs.getD i .non] := rfl
  show (partsAt es.length _).map _ = _
  rw [e, List.map_map]
  refine List.ext_getElem (by simp [hl]) fun i h1 h2 => ?_
  rw [List.length_map, List.length_range] at h1
  have h3 : i < fs.length := by omega
  rw [List.getElem_map, List.getElem_range, List.getElem_zipWith]
  show resF γ 50 [es.getD i .non, fs.getD i .non] = _
  rw [List.getD_eq_getElem?_getD, List.getElem?_eq_getElem h1, List.getD_eq_getElem?_getD, List.getElem?_eq_getElem h3]
  have m1 := deep_mem (List.getElem_mem h1)
  have m2 := deep_mem (List.getElem_mem h3)
  exact (fuel_resF γ 50 [es[i], fs[i]] (fun d hd => by
    simp only [List.mem_cons, List.not_mem_nil, or_false] at hd
    rcases hd with rfl | rfl
    · exact t1 _ (List.getElem_mem h1)
    · exact t2 _ (List.getElem_mem h3)) (by simp only [deeps]; omega)).symm
theorem resF_apart {γ : List D → Int} {d e : D} (h : ¬ ∃ hh, hdOf d = some hh ∧ hdOf e = some hh) (k : Nat) : resF γ k [d, e] = .int (γ [d, e]) := by
  refine resF_none ?_ k
  cases s : sameHead [d, e] with
  | none => rfl
  | some hh =>
    obtain ⟨_, al⟩ := same_iff.mp s
    exact absurd ⟨hh, al d (by simp), al e (by simp)⟩ h
theorem cols_two' (ds es : List D) (hl : es.length = ds.length) (f : List D → D) : (colsOf ds.length [ds, es]).map f = List.zipWith (fun d e => f [d, e]) ds es := by
  rw [cols_two ds es hl, List.map_zipWith]
end Fm
namespace Fm
open PySem PySem.Spec PyProof.Rows L2
open Classical
/-- the number of a column of two terms -/
noncomputable def gam (ts ss : List D) (fs : List (Nat × Nat)) (c : List D) : Int := match c with
  | [d, e] => (fs.idxOf (ts.idxOf d, ss.idxOf e) : Nat)
  | _ => 0
theorem idx_at {ts : List D} (nd : ts.Nodup) {i : Nat} {d : D} (h : ts[i]? = some d) : ts.idxOf d = i := by
  obtain ⟨lt, rfl⟩ := List.getElem?_eq_some_iff.mp h
  exact nd.idxOf_getElem i lt
theorem gam_at {ts ss : List D} {fs : List (Nat × Nat)} (n1 : ts.Nodup) (n2 : ss.Nodup) (nf : fs.Nodup) {m i j : Nat} {d e : D} (hd : ts[i]? = some d) (he : ss[j]? = some e) (hm : fs[m]? = some (i, j)) : gam ts ss fs [d, e] = (m : Int) := by
  show ((fs.idxOf (_, _) : Nat) : Int) = _
  rw [idx_at n1 hd, idx_at n2 he]
  obtain ⟨lt, e2⟩ := List.getElem?_eq_some_iff.mp hm
  have := nf.idxOf_getElem m lt
  rw [e2] at this
  exact congrArg _ this
theorem gam_pos (ts ss : List D) (fs : List (Nat × Nat)) (c : List D) : 0 ≤ gam ts ss fs c := by
  unfold gam
  split
  · exact Int.natCast_nonneg _
  · exact Int.le_refl _
end Fm
set_option maxRecDepth 100000
set_option maxHeartbeats 2000000
/-! sorted(d) of a dict whose keys are pairs of ints, any number of them -/
namespace Fm
open PySem PySem.Spec PyProof.Rows L2
def pkey (p : Int × Int) : List Key := [.inl p.1, .inl p.2]
def pairKy (H : Hp) (v : Value) : Int × Int := match v with
  | .ref a => match H a with
    | some (.tup [.int i, .int j]) => (i, j)
    | _ => (0, 0)
  | _ => (0, 0)
theorem pairKy_ref {H : Hp} {a : Addr} {p : Int × Int} (h : H a = some (.tup ((pkey p).map kV))) : pairKy H (.ref a) = p := by
  have h2 : H a = some (.tup [.int p.1, .int p.2]) := h
  unfold pairKy
  simp only [h2]
def backA (v : Value) : Addr := match v with
  | .ref a => a
  | _ => 0
section
variable {X : Cx}
def rSortT : List V → Hp → VK → Prop := fun vs H Q => ∃ (d : Addr) (kvs : List (List Key × V)) (ks : List (Int × Int)), vs = [.ref d] ∧ Rd H d (.dT kvs) ∧ kvs.map (·.1) = ks.map pkey ∧
  ∀ (l : Addr) (zs : List (Addr × (Int × Int))), H l = none → (zs.map (·.2)).Perm ks → (zs.map (·.2)).Pairwise (fun a b => SrtO.lexB b a = false) → (∀ z ∈ zs, H z.1 = some (.tup [.int z.2.1, .int z.2.2])) → Q (.ref l) (upd H l (.lst (zs.map fun z => V.ref z.1)))
theorem cr_sortT (hc : X.calm = true) : CallR X (.builtin "sorted") rSortT := by
  intro pins s σ H xs us Q I r h
  obtain ⟨d, kvs, ks, rfl, hd, hks, q⟩ := h
  obtain ⟨u, rfl, rx⟩ := r.one
  cases rx
  obtain ⟨z, hs, kx, pr, o, es, ep, ho, hx, hdt, he, hn⟩ := (show ObjOk X.prog X.w H s.heap d (.dT kvs) from hd.ok I.hok)
  have l1 : es.size = kx.length := size_of_entries he
  have l2 : kvs.length = kx.length := Paired.length pr
  refine Calls.call_function_entry kind_sorted plain_sorted entry_sorted (args_sorted1 _) ?_
  unfold Builtin.«sorted»
  refine wpAny_bind (m := checkCount "sorted" 1 1 _) (wpAny_pure ?_)
  refine wpAny_bind (PySem.W.kdu_collect (A := X.A.in1) (kdl_raw hs hx hdt) (I.ok.hd hc) ho (by omega) fun h' tk acc kp it => ?_)
  have ea : acc.toList = (kx.map fun x => x.2.1).map Value.ref := by
    rw [List.map_map]
    have hl : acc.toList.length = kx.length := by rw [Array.length_toList, it.1]; exact l1
    apply List.ext_getElem?
    intro j
    rw [List.getElem?_map]
    cases hj : acc.toList[j]? with
    | none =>
      have h1 := List.getElem?_eq_none_iff.mp hj
      rw [List.getElem?_eq_none (by omega)]
      all_goals rfl
    | some v =>
      obtain ⟨en, hen, hv⟩ := it.2 j v (by rw [← Array.getElem?_toList]; exact hj)
      have qe := entry_at he j
      rw [hen] at qe
      cases hb : kx[j]? with
      | none =>
        rw [hb] at qe
        exact nomatch (show some en = none from qe)
      | some b =>
        rw [hb] at qe
        have e2 : en = entryOfKey (tupleKind (mixKind X.prog X.w)) b := Option.some.inj qe
        rw [hv, e2]
        all_goals rfl
  have hkeys : IsKeys H kvs (kx.map fun x => x.2.1) := isKeys_of pr
  generalize hbs : (kx.map fun x => x.2.1) = bs at ea hkeys
  have lbs : bs.length = kvs.length := by rw [← hbs, List.length_map, l2]
  -- the pairs at these places
  have pk : ∀ {kvs : List (List Key × V)} {ks : List (Int × Int)} {bs : List Addr}, kvs.map (·.1) = ks.map pkey → IsKeys H kvs bs → Paired (fun (p : Int × Int) b => H b = some (.tup ((pkey p).map kV))) ks bs := by
    intro kvs
    induction kvs with
    | nil =>
      intro ks bs e h
      cases ks with
      | nil =>
        cases h
        exact .nil
      | cons _ _ => simp at e
    | cons kv r ih =>
      intro ks bs e h
      cases ks with
      | nil => simp at e
      | cons p ps =>
        rw [List.map_cons, List.map_cons] at e
        injection e with e1 e2
        cases h with
        | cons a b =>
          refine .cons ?_ (ih e2 b)
          rw [← e1]
          exact a
  have hpk := pk hks hkeys
  have look : ∀ {ks : List (Int × Int)} {bs : List Addr}, Paired (fun (p : Int × Int) b => H b = some (.tup ((pkey p).map kV))) ks bs → bs.map (fun b => pairKy H (.ref b)) = ks ∧ ∀ b ∈ bs, ∃ p, H b = some (.tup ((pkey p).map kV)) := by
    intro ks bs h
    induction h with
    | nil => exact ⟨rfl, fun b hb => by cases hb⟩
    | @cons p b ps bs a _ ih =>
      refine ⟨?_, fun c hc => ?_⟩
      · rw [List.map_cons, pairKy_ref a, ih.1]
      · rcases List.mem_cons.mp hc with e | hc
        · rw [e]
          exact ⟨p, a⟩
        · exact ih.2 c hc
  obtain ⟨ek, eh⟩ := look hpk
  have I1 : Inv X pins σ H { s with heap := h', toks := tk } := I.kept kp
  have hz : (bs.map Value.ref).length ≤ sizeLine := by rw [List.length_map]; omega
  rw [ea]
  refine wpAny_bind (wpAny_newList ?_ hz)
  have hoL : (h'.push (seqObj "list" (bs.map Value.ref).toArray 0)).get? h'.objs.size = some (seqObj "list" (bs.map Value.ref).toArray 0) := Heap.get?_push_size _ rfl
  show wpAny _ _ _ _ _ { s with heap := h'.push (seqObj "list" (bs.map Value.ref).toArray 0), toks := tk }
  have isP : ∀ v ∈ bs.map Value.ref, Srt.IsPair (h'.push (seqObj "list" (bs.map Value.ref).toArray 0)) v (pairKy H v).1 (pairKy H v).2 := by
    intro v hv
    obtain ⟨b, hb, rfl⟩ := List.mem_map.mp hv
    obtain ⟨p, hp⟩ := eh b hb
    rw [pairKy_ref hp]
    obtain ⟨_, its2, r2, o, ho, hc, n, hd⟩ := I1.hok _ _ hp
    obtain ⟨u1, u2, rfl, ri, rj⟩ := vals2 r2
    obtain ⟨t1, rfl⟩ := ri
    obtain ⟨t2, rfl⟩ := rj
    exact ⟨b, o, t1, t2, n, rfl, Heap.get?_push_of_some _ ho, hc, hd⟩
  refine wpAny_bind (wpAny_holding (wpAny_call_entry slot_list_sort ⟨_, hoL, rfl⟩ entry_list_sort
    (SrtO.list_sort_ord (s := { s with heap := h'.push (seqObj "list" (bs.map Value.ref).toArray 0), toks := tk }) (SrtO.swo_lex (pairKy H)) hoL hz (fun h2 => SrtO.pairs_sortableO (s := { s with heap := h'.push (seqObj "list" (bs.map Value.ref).toArray 0), toks := tk }) (by omega) isP fun o e c => ?_) fun out h1 h2 => ⟨_, rfl, ?_⟩) (args_list_sort _)))
  · have e' : some o = some (seqObj "list" (bs.map Value.ref).toArray 0) := e.symm.trans hoL
    cases e'
    exact absurd (Value.type.inj c) (by decide)
  obtain ⟨e', he'⟩ := sortedHeap_at (vs := bs.map Value.ref) (out := out.toArray) hoL
  have hm : ∀ v ∈ out, ∃ b ∈ bs, v = Value.ref b := fun v hv => by
    obtain ⟨b, hb, e⟩ := List.mem_map.mp (h2.perm.mem_iff.mp hv)
    exact ⟨b, hb, e.symm⟩
  have em : (out.map fun v => (backA v, pairKy H v)).map (fun z => V.ref z.1) = out.map fun v => V.ref (backA v) := by rw [List.map_map]; rfl
  have rv : Vals (out.map fun v => V.ref (backA v)) out := by
    clear h1 h2 he' em
    induction out with
    | nil => exact .nil
    | cons v r ih =>
      obtain ⟨b, _, rfl⟩ := hm v List.mem_cons_self
      exact .cons rfl (ih fun x hx => hm x (List.mem_cons_of_mem _ hx))
  have p1 : ((out.map fun v => (backA v, pairKy H v)).map (·.2)).Perm ks := by
    rw [List.map_map]
    have e2 : (out.map (pairKy H)).Perm ((bs.map Value.ref).map (pairKy H)) := h2.perm.map _
    rw [List.map_map] at e2
    have e3 : bs.map (pairKy H ∘ Value.ref) = ks := ek
    rw [e3] at e2
    exact e2
  have p2 : ((out.map fun v => (backA v, pairKy H v)).map (·.2)).Pairwise (fun a b => SrtO.lexB b a = false) := by
    rw [List.map_map]
    exact List.pairwise_map.mpr h1
  have p3 : ∀ z ∈ (out.map fun v => (backA v, pairKy H v)), H z.1 = some (.tup [.int z.2.1, .int z.2.2]) := by
    intro z hz
    obtain ⟨v, hv, rfl⟩ := List.mem_map.mp hz
    obtain ⟨b, hb, rfl⟩ := hm v hv
    obtain ⟨p, hp⟩ := eh b hb
    show H b = some (.tup [.int (pairKy H (.ref b)).1, .int (pairKy H (.ref b)).2])
    rw [pairKy_ref hp]
    exact hp
  have qq := q h'.objs.size _ (I1.hok.fresh (Nat.le_refl _)) p1 p2 p3
  rw [em] at qq
  have lo : (out.map fun v => V.ref (backA v)).length ≤ sizeLine := by
    rw [List.length_map, h2.perm.length_eq]
    exact hz
  refine wpAny_pure ⟨_, rfl, .ref h'.objs.size, upd H h'.objs.size (.lst (out.map fun v => V.ref (backA v))), I1.laid (t' := tk) (fun b u e => ?_) (Nat.le_refl _)
    (show ObjOk X.prog X.w _ _ _ (.lst (out.map fun v => V.ref (backA v))) from ⟨lo, out, e', rv, he'⟩), rfl, qq⟩
  have hb : b < h'.objs.size := Heap.lt_size e
  rw [sortedHeap_old (Nat.ne_of_lt hb) (by rw [size_push']; exact Nat.lt_succ_of_lt hb)]
  exact Heap.get?_push_of_some _ e
end
end Fm
set_option maxRecDepth 100000
set_option maxHeartbeats 2000000
/-! for x in zip(a, b), x a name: the pair that was handed out may be held, or be gone -/
namespace ZpL
open PySem PySem.Spec PyProof.Rows PySem.W
open Sem (wp)
section
variable {prog : Program} {w : World} {A : Around} {E : Value → Shared → Prop} {s : Shared} {z TI TO i1 i2 T : Addr} {fp1 fp2 : List Addr} {n1 n2 i : Nat} {P1 P2 : Nat → Value → Prop} {St1 St2 : Nat → Heap → Prop} {f : Bool} {oa : Obj} {a1 a2 : Value}
/-- while it draws -/
def ZipMid (h : Heap) (z TI TO : Addr) (f : Bool) : Prop := h.get? z = some { cls := .type "zip", dict := none, data := .fields #[.ellipsis, .bool f, .bool false, .ref TI, .ref TO], slots := #[] }
/-- the pair that was out is gone -/
theorem gone_free {Q : Bool → Shared → Prop} (hz : ZipOut s.heap z TI TO T f) (hT : s.heap.get? T = none) (h : Q true s) : wpAny (model prog w) A (Builtin.SmallTypes.ownedTupleIsFree (.ref z)) Q E s := by
  unfold Builtin.SmallTypes.ownedTupleIsFree
  refine wpAny_bind (wpAny_field hz rfl (x := rawInt T) rfl ?_)
  show wpAny _ _ (loadIfAlive ((T : Int).toNat) >>= _) _ _ _
  rw [Int.toNat_natCast]
  have al : ∀ {R : Option Obj → Shared → Prop}, R none s → wpAny (model prog w) A (loadIfAlive T) R (fun e s' => E e s') s := fun {R} r => by
    have r' : R (s.heap.get? T) s := by rw [hT]; exact r
    exact fun _ _ _ => r'
  refine wpAny_bind (al ?_)
  simp only [Option.isNone_none, if_true]
  exact wpAny_pure h
theorem gone_item {Q : Value → Shared → Prop} (S : ZipSep2 z TI TO i1 i2 fp1 fp2) (D1 : Draws prog w A i1 fp1 n1 P1 St1) (D2 : Draws prog w A i2 fp2 n2 P2 St2)
    (hz : ZipOut s.heap z TI TO T f) (hT : s.heap.get? T = none) (hTI : IsTupOf2 s.heap TI (.ref i1) (.ref i2)) (hTO : IsTupOf2 s.heap TO a1 a2) (st1 : St1 i s.heap) (st2 : St2 i s.heap) (l1 : i < n1) (l2 : i < n2)
    (hQ : ∀ x1 x2 h' tk, P1 i x1 → P2 i x2 → (∃ T f, ZipOut h' z TI TO T f) → (∃ a b, IsTupOf2 h' TO a b) → St1 (i + 1) h' → St2 (i + 1) h' → IsTupOf2 h' s.heap.objs.size x1 x2 → h'.objs.size = s.heap.objs.size + 1 →
      (∀ c o, c ≠ z → c ≠ TO → c ≠ i1 → c ≠ i2 → s.heap.get? c = some o → h'.get? c = some o) → Q (.ref s.heap.objs.size) { s with heap := h', toks := tk }) :
    wpAny (model prog w) A (Builtin.«zip.__next__» ⟨[.ref z], []⟩) (fun fin s' => ∃ v, fin = .done (.ret v) ∧ Q v s') E s := by
  obtain ⟨hp, g, d, t0, os⟩ := s
  show wpAny _ _ (field (.ref z) 2 >>= _) _ _ _
  refine wpAny_bind (wpAny_field hz rfl (x := .bool false) rfl ?_)
  show wpAny _ _ (field (.ref z) 3 >>= _) _ _ _
  refine wpAny_bind (wpAny_field hz rfl (x := .ref TI) rfl ?_)
  refine wpAny_bind (wpAny_seqItems hTI rfl ?_)
  show wpAny _ _ (Builtin.SmallTypes.ownedTupleIsFree (.ref z) >>= _) _ _ _
  refine wpAny_bind (gone_free hz hT ?_)
  simp only [if_true]
  refine wpAny_bind (wpAny_rule ?_)
  refine wpAny_bind (wpAny_field hz rfl (x := .ref TO) rfl ?_)
  refine wpAny_bind (wpAny_setField_rec hz (by simp) fun k0 y0 b0 => ?_)
  replace y0 : ZipMid k0 z TI TO f := y0
  replace b0 : Heap.SameBut z hp k0 := b0
  refine wpAny_bind ?_
  simp only [List.zipIdx_cons, List.zipIdx_nil, List.forIn_cons, List.forIn_nil]
  refine wpAny_bind (wpAny_bind (wpAny_onRaise ?_))
  show wpAny _ _ (Builtin.SmallTypes.nextOf (.ref i1) >>= _) _ _ ⟨k0, g, d, t0, os⟩
  refine wpAny_bind (D1.item i _ _ _ l1 (D1.over st1 b0 S.zf1) fun x1 k1 t1 px1 s1 b1 => wpAny_pure ?_)
  replace b1 : Heap.SameBut i1 k0 k1 := b1
  have u1 : IsTupOf2 k1 TO a1 a2 := b1.extBut _ _ S.Ti1 (b0.extBut _ _ S.TOz hTO)
  refine wpAny_bind (wpAny_seqItems (s := ⟨k1, g, d, t1, os⟩) u1 rfl ?_)
  refine wpAny_bind (updateSeq_IsTupOf2 (s := ⟨k1, g, d, t1, os⟩) u1 fun k2 u2 b2 => ?_)
  replace u2 : IsTupOf2 k2 TO x1 a2 := u2
  replace b2 : Heap.SameBut TO k1 k2 := b2
  refine wpAny_bind (wpAny_letGo (wpAny_pure ?_))
  refine wpAny_bind (wpAny_bind (wpAny_onRaise ?_))
  show wpAny _ _ (Builtin.SmallTypes.nextOf (.ref i2) >>= _) _ _ ⟨k2, g, d, t1, os⟩
  refine wpAny_bind (D2.item i _ _ _ l2 (D2.over (D2.over (D2.over st2 b0 S.zf2) b1 S.sep1_2) b2 S.Tf2) fun x2 k3 t2 px2 s2 b3 => wpAny_pure ?_)
  replace b3 : Heap.SameBut i2 k2 k3 := b3
  have u3 : IsTupOf2 k3 TO x1 a2 := b3.extBut _ _ S.Ti2 u2
  refine wpAny_bind (wpAny_seqItems (s := ⟨k3, g, d, t2, os⟩) u3 rfl ?_)
  refine wpAny_bind (updateSeq_IsTupOf2 (s := ⟨k3, g, d, t2, os⟩) u3 fun k4 u4 b4 => ?_)
  replace u4 : IsTupOf2 k4 TO x1 x2 := u4
  replace b4 : Heap.SameBut TO k3 k4 := b4
  refine wpAny_bind (wpAny_letGo (wpAny_pure (wpAny_pure ?_)))
  refine wpAny_bind (wpAny_seqItems (s := ⟨k4, g, d, t2, os⟩) u4 rfl ?_)
  refine wpAny_bind (wpAny_newTuple ?_ (by show 2 ≤ sizeLine; decide))
  have len : k4.objs.size = hp.objs.size := by rw [b4.1, b3.1, b2.1, b1.1, b0.1]
  have y4 : ZipMid k4 z TI TO f := b4.extBut _ _ S.TOz.symm (b3.extBut _ _ S.zi2 (b2.extBut _ _ S.TOz.symm (b1.extBut _ _ S.zi1 y0)))
  have old : ∀ c o, c ≠ z → c ≠ TO → c ≠ i1 → c ≠ i2 → hp.get? c = some o → k4.get? c = some o := fun c o c1 c2 c3 c4 e =>
    b4.extBut _ _ c2 (b3.extBut _ _ c4 (b2.extBut _ _ c2 (b1.extBut _ _ c3 (b0.extBut _ _ c1 e))))
  have m1 : St1 (i + 1) k4 := D1.over (D1.over (D1.over s1 b2 S.Tf1) b3 S.sep2_1) b4 S.Tf1
  have m2 : St2 (i + 1) k4 := D2.over s2 b4 S.Tf2
  have lz : z < k4.objs.size := Heap.lt_size y4
  show wpAny _ _ (Builtin.SmallTypes.ownedTupleHandOut (.ref z) (.ref k4.objs.size) >>= _) _ _ ⟨k4.push { cls := .type "tuple", data := .seq #[x1, x2] }, g, d, t2, os⟩
  refine wpAny_bind ?_
  unfold Builtin.SmallTypes.ownedTupleHandOut
  have y5 : ZipMid (k4.push { cls := .type "tuple", data := .seq #[x1, x2] }) z TI TO f := Heap.get?_push_of_some _ y4
  refine wpAny_bind (wpAny_setField_rec y5 (by simp) fun k6 y6 b6 => ?_)
  replace y6 : ZipOut k6 z TI TO k4.objs.size f := y6
  refine wpAny_setField_rec y6 (by simp) fun k7 y7 b7 => ?_
  replace y7 : ZipOut k7 z TI TO k4.objs.size false := y7
  replace b6 : Heap.SameBut z (k4.push { cls := .type "tuple", data := .seq #[x1, x2] }) k6 := b6
  replace b7 : Heap.SameBut z k6 k7 := b7
  have up : ∀ c o, c ≠ z → k4.get? c = some o → k7.get? c = some o := fun c o c1 e => b7.extBut _ _ c1 (b6.extBut _ _ c1 (Heap.get?_push_of_some _ e))
  have u7 : IsTupOf2 k7 k4.objs.size x1 x2 := b7.extBut _ _ (Nat.ne_of_gt lz) (b6.extBut _ _ (Nat.ne_of_gt lz) (Heap.get?_push_size _ rfl))
  have l7 : k7.objs.size = k4.objs.size + 1 := by rw [b7.1, b6.1, Heap.size_push]
  rw [len] at u7 l7
  refine wpAny_pure ⟨_, rfl, ?_⟩
  show Q (.ref k4.objs.size) ⟨k7, g, d, t2, os⟩
  rw [len]
  exact hQ x1 x2 k7 t2 px1 px2 ⟨_, _, y7⟩ ⟨_, _, up _ _ S.TOz u4⟩ (D1.frame _ _ _ m1 fun b hb o e => up b o (fun q => S.zf1 (q ▸ hb)) e) (D2.frame _ _ _ m2 fun b hb o e => up b o (fun q => S.zf2 (q ▸ hb)) e) u7 l7 fun c o c1 c2 c3 c4 e => up c o c1 (old c o c1 c2 c3 c4 e)
theorem gone_end {Q : PySem.Fin → Shared → Prop} (S : ZipSep2 z TI TO i1 i2 fp1 fp2) (D1 : Draws prog w A i1 fp1 n1 P1 St1) (D2 : Draws prog w A i2 fp2 n2 P2 St2)
    (hz : ZipOut s.heap z TI TO T f) (hT : s.heap.get? T = none) (hTI : IsTupOf2 s.heap TI (.ref i1) (.ref i2)) (hTO : IsTupOf2 s.heap TO a1 a2) (st1 : St1 i s.heap) (st2 : St2 i s.heap) (hle1 : i ≤ n1) (hle2 : i ≤ n2) (hend : i = n1 ∨ i = n2)
    (hE : ∀ h' tk e, (∀ c o, c ≠ z → c ≠ TO → c ≠ i1 → c ≠ i2 → s.heap.get? c = some o → h'.get? c = some o) → (∃ o, h'.get? e = some o ∧ o.cls = .type "StopIteration") → E (.ref e) { s with heap := h', toks := tk }) :
    wpAny (model prog w) A (Builtin.«zip.__next__» ⟨[.ref z], []⟩) Q E s := by
  obtain ⟨hp, g, d, t0, os⟩ := s
  show wpAny _ _ (field (.ref z) 2 >>= _) _ _ _
  refine wpAny_bind (wpAny_field hz rfl (x := .bool false) rfl ?_)
  show wpAny _ _ (field (.ref z) 3 >>= _) _ _ _
  refine wpAny_bind (wpAny_field hz rfl (x := .ref TI) rfl ?_)
  refine wpAny_bind (wpAny_seqItems hTI rfl ?_)
  show wpAny _ _ (Builtin.SmallTypes.ownedTupleIsFree (.ref z) >>= _) _ _ _
  refine wpAny_bind (gone_free hz hT ?_)
  simp only [if_true]
  refine wpAny_bind (wpAny_rule ?_)
  refine wpAny_bind (wpAny_field hz rfl (x := .ref TO) rfl ?_)
  refine wpAny_bind (wpAny_setField_rec hz (by simp) fun k0 y0 b0 => ?_)
  replace y0 : ZipMid k0 z TI TO f := y0
  replace b0 : Heap.SameBut z hp k0 := b0
  refine wpAny_bind ?_
  simp only [List.zipIdx_cons, List.zipIdx_nil, List.forIn_cons, List.forIn_nil]
  refine wpAny_bind (wpAny_bind (wpAny_onRaise ?_))
  show wpAny _ _ (Builtin.SmallTypes.nextOf (.ref i1) >>= _) _ _ ⟨k0, g, d, t0, os⟩
  rcases Nat.lt_or_ge i n1 with l1 | ge1
  · refine wpAny_bind (D1.item i _ _ _ l1 (D1.over st1 b0 S.zf1) fun x1 k1 t1 px1 s1 b1 => wpAny_pure ?_)
    replace b1 : Heap.SameBut i1 k0 k1 := b1
    have u1 : IsTupOf2 k1 TO a1 a2 := b1.extBut _ _ S.Ti1 (b0.extBut _ _ S.TOz hTO)
    refine wpAny_bind (wpAny_seqItems (s := ⟨k1, g, d, t1, os⟩) u1 rfl ?_)
    refine wpAny_bind (updateSeq_IsTupOf2 (s := ⟨k1, g, d, t1, os⟩) u1 fun k2 u2 b2 => ?_)
    replace b2 : Heap.SameBut TO k1 k2 := b2
    refine wpAny_bind (wpAny_letGo (wpAny_pure ?_))
    have e2 : i = n2 := by omega
    refine wpAny_bind (wpAny_bind (wpAny_onRaise ?_))
    show wpAny _ _ (Builtin.SmallTypes.nextOf (.ref i2) >>= _) _ _ ⟨k2, g, d, t1, os⟩
    have s2 := D2.over (D2.over (D2.over st2 b0 S.zf2) b1 S.sep1_2) b2 S.Tf2
    rw [e2] at s2
    refine wpAny_bind (D2.done ⟨k2, g, d, t1, os⟩ _ _ s2 fun k3 e b3 he => ?_)
    replace b3 : Heap.ExtBut i2 k2 k3 := b3
    obtain ⟨oe, hoe, ce⟩ := he
    replace hoe : k3.get? e = some oe := hoe
    have y3 : ZipMid k3 z TI TO f := b3 _ _ S.zi2 (b2.extBut _ _ S.TOz.symm (b1.extBut _ _ S.zi1 y0))
    have ez : e ≠ z := fun x => by
      rw [x] at hoe
      have q : some oe = some _ := hoe.symm.trans y3
      cases q
      exact absurd (Value.type.inj ce) (by decide)
    refine wpAny_setField_rec (s := ⟨k3, g, d, t1, os⟩) y3 (by simp) fun k4 _ b4 => ?_
    replace b4 : Heap.SameBut z k3 k4 := b4
    exact hE k4 t1 e (fun c o c1 c2 c3 c4 x => b4.extBut _ _ c1 (b3 _ _ c4 (b2.extBut _ _ c2 (b1.extBut _ _ c3 (b0.extBut _ _ c1 x))))) ⟨oe, b4.extBut _ _ ez hoe, ce⟩
  · have e1 : i = n1 := by omega
    have s1 := D1.over st1 b0 S.zf1
    rw [e1] at s1
    refine wpAny_bind (D1.done ⟨k0, g, d, t0, os⟩ _ _ s1 fun k3 e b3 he => ?_)
    replace b3 : Heap.ExtBut i1 k0 k3 := b3
    obtain ⟨oe, hoe, ce⟩ := he
    replace hoe : k3.get? e = some oe := hoe
    have y3 : ZipMid k3 z TI TO f := b3 _ _ S.zi1 y0
    have ez : e ≠ z := fun x => by
      rw [x] at hoe
      have q : some oe = some _ := hoe.symm.trans y3
      cases q
      exact absurd (Value.type.inj ce) (by decide)
    refine wpAny_setField_rec (s := ⟨k3, g, d, t0, os⟩) y3 (by simp) fun k4 _ b4 => ?_
    replace b4 : Heap.SameBut z k3 k4 := b4
    exact hE k4 t0 e (fun c o c1 c2 c3 c4 x => b4.extBut _ _ c1 (b3 _ _ c3 (b0.extBut _ _ c1 x))) ⟨oe, b4.extBut _ _ ez hoe, ce⟩
/-- a zip with its own pair free, out or gone -/
def ZAny (h : Heap) (z TI TO : Addr) : Prop := (∃ a b, IsTupOf2 h TO a b) ∧ (IsZip h z TI TO .none ∨ ∃ T f, ZipOut h z TI TO T f)
theorem ZAny.type (x : ZAny s.heap z TI TO) : s.TypeIs (.ref z) "zip" := by
  rcases x.2 with hz | ⟨T, f, hz⟩
  · exact ⟨_, hz, rfl⟩
  · exact ⟨_, hz, rfl⟩
theorem any_item {Q : Option Value → Shared → Prop} (S : ZipSep2 z TI TO i1 i2 fp1 fp2) (D1 : Draws prog w A.in1 i1 fp1 n1 P1 St1) (D2 : Draws prog w A.in1 i2 fp2 n2 P2 St2)
    (hz : ZAny s.heap z TI TO) (hTI : IsTupOf2 s.heap TI (.ref i1) (.ref i2)) (st1 : St1 i s.heap) (st2 : St2 i s.heap) (l1 : i < n1) (l2 : i < n2)
    (hQ : ∀ x1 x2 h' tk, P1 i x1 → P2 i x2 → ZAny h' z TI TO → IsTupOf2 h' TI (.ref i1) (.ref i2) → St1 (i + 1) h' → St2 (i + 1) h' → IsTupOf2 h' s.heap.objs.size x1 x2 → h'.objs.size = s.heap.objs.size + 1 →
      (∀ c o, c ≠ z → c ≠ TO → c ≠ i1 → c ≠ i2 → s.heap.get? c = some o → h'.get? c = some o) → Q (some (.ref s.heap.objs.size)) { s with heap := h', toks := tk }) : wpAny (model prog w) A (pyNext (.ref z)) Q E s := by
  have ty := hz.type
  obtain ⟨⟨a, b, hTO⟩, hz⟩ := hz
  have tk : ∀ h', (∀ c o, c ≠ z → c ≠ TO → c ≠ i1 → c ≠ i2 → s.heap.get? c = some o → h'.get? c = some o) → IsTupOf2 h' TI (.ref i1) (.ref i2) := fun h' k => k TI _ S.TIz S.TITO S.TIi1 S.TIi2 hTI
  rcases hz with hz | ⟨T, f, hz⟩
  · exact wpAny_pyNext_zipD2_item S D1 D2 hz hTI hTO st1 st2 l1 l2 fun x1 x2 h' tk' y1 y2 b1 b2 d1 d2 b5 b6 b7 => hQ x1 x2 h' tk' y1 y2 ⟨⟨_, _, b2⟩, .inr ⟨_, false, b1⟩⟩ (tk h' b7) d1 d2 b5 b6 b7
  · unfold pyNext
    cases hT : s.heap.get? T with
    | none =>
      exact wpAny_bind (wpAny_attempt (wpAny_callSpecial?_slot (name := Str.ofString "__next__") ty F.slot_zip_next
        (wpAny_call_entry F.slot_zip_next ty F.entry_zip_next
          (gone_item S D1 D2 hz hT hTI hTO st1 st2 l1 l2 fun x1 x2 h' tk' y1 y2 b1 b2 d1 d2 b5 b6 b7 => wpAny_pure (hQ x1 x2 h' tk' y1 y2 ⟨b2, .inr b1⟩ (tk h' b7) d1 d2 b5 b6 b7)) (F.args_zip_next_1 _))))
    | some oa =>
      exact wpAny_bind (wpAny_attempt (wpAny_callSpecial?_slot (name := Str.ofString "__next__") ty F.slot_zip_next
        (wpAny_call_entry F.slot_zip_next ty F.entry_zip_next
          (out_item S D1 D2 hz hTI hT st1 st2 l1 l2 fun x1 x2 h' tk' y1 y2 b1 d1 d2 b5 b6 b7 => wpAny_pure (hQ x1 x2 h' tk' y1 y2 ⟨⟨_, _, b7 TO _ S.TOz S.Ti1 S.Ti2 hTO⟩, .inr ⟨_, _, b1⟩⟩ (b7 TI _ S.TIz S.TIi1 S.TIi2 hTI) d1 d2 b5 b6 fun c o c1 _ c3 c4 e => b7 c o c1 c3 c4 e)) (F.args_zip_next_1 _))))
theorem any_end {Q : Option Value → Shared → Prop} (S : ZipSep2 z TI TO i1 i2 fp1 fp2) (D1 : Draws prog w A.in1 i1 fp1 n1 P1 St1) (D2 : Draws prog w A.in1 i2 fp2 n2 P2 St2)
    (hz : ZAny s.heap z TI TO) (hTI : IsTupOf2 s.heap TI (.ref i1) (.ref i2)) (st1 : St1 i s.heap) (st2 : St2 i s.heap) (hle1 : i ≤ n1) (hle2 : i ≤ n2) (hend : i = n1 ∨ i = n2)
    (hQ : ∀ h' tk, (∀ c o, c ≠ z → c ≠ TO → c ≠ i1 → c ≠ i2 → s.heap.get? c = some o → h'.get? c = some o) → Q none { s with heap := h', toks := tk }) : wpAny (model prog w) A (pyNext (.ref z)) Q E s := by
  have ty := hz.type
  obtain ⟨⟨a, b, hTO⟩, hz⟩ := hz
  rcases hz with hz | ⟨T, f, hz⟩
  · exact wpAny_pyNext_zipD2_end S D1 D2 hz hTI hTO st1 st2 hle1 hle2 hend hQ
  · unfold pyNext
    cases hT : s.heap.get? T with
    | none =>
      refine wpAny_bind (wpAny_attempt (wpAny_callSpecial?_slot (name := Str.ofString "__next__") ty F.slot_zip_next
        (wpAny_call_entry F.slot_zip_next ty F.entry_zip_next (gone_end S D1 D2 hz hT hTI hTO st1 st2 hle1 hle2 hend fun h' tk e hk he => ?_) (F.args_zip_next_1 _))))
      obtain ⟨o, ho, hc⟩ := he
      refine wpAny_bind (wpAny_isInstance (T := "StopIteration") (b := true) ⟨o, ho, hc⟩ isSubtype_stop ?_)
      exact wpAny_pure (hQ _ _ hk)
    | some oa =>
      refine wpAny_bind (wpAny_attempt (wpAny_callSpecial?_slot (name := Str.ofString "__next__") ty F.slot_zip_next
        (wpAny_call_entry F.slot_zip_next ty F.entry_zip_next (out_end S D1 D2 hz hTI hT st1 st2 hle1 hle2 hend fun h' tk e hk he => ?_) (F.args_zip_next_1 _))))
      obtain ⟨o, ho, hc⟩ := he
      refine wpAny_bind (wpAny_isInstance (T := "StopIteration") (b := true) ⟨o, ho, hc⟩ isSubtype_stop ?_)
      exact wpAny_pure (hQ _ _ fun c o c1 _ c3 c4 e => hk c o c1 c3 c4 e)
end
end ZpL
set_option maxRecDepth 100000
set_option maxHeartbeats 2000000
namespace ZpL
open PySem PySem.Spec PyProof.Rows PySem.W L2
/-- a list or a tuple -/
def SqK (K : PySem.W.Frag) (k : Bool) (H : Hp) (a : Addr) (xs : List V) : Prop := if k = true then SqL K H a xs else SqT K H a xs
theorem SqK.of {K : PySem.W.Frag} {H : Hp} {a : Addr} {xs : List V} (h : SqA K H a xs) : ∃ k, SqK K k H a xs := by
  rcases h with h | h
  · exact ⟨true, h⟩
  · exact ⟨false, h⟩
theorem SqK.a {K : PySem.W.Frag} {k : Bool} {H : Hp} {a : Addr} {xs : List V} (h : SqK K k H a xs) : SqA K H a xs := by
  cases k with
  | true => exact .inl h
  | false => exact .inr h
def ItK (k : Bool) (h : Heap) (it a : Addr) (i : Nat) : Prop := if k = true then h.IsListIter it a i else h.IsTupleIter it a i
def SeK (k : Bool) (h : Heap) (a : Addr) (its : Array Value) : Prop := if k = true then h.IsList a its else h.IsTuple a its
theorem ItK.keep {k : Bool} {h h' : Heap} {it a : Addr} {i : Nat} (x : ItK k h it a i) (e : ∀ o, h.get? it = some o → h'.get? it = some o) : ItK k h' it a i := by
  cases k with
  | true => exact (show h.IsListIter it a i from x).at e
  | false => exact (show h.IsTupleIter it a i from x).at e
theorem ItK.obj {k : Bool} {h : Heap} {it a : Addr} {i : Nat} (x : ItK k h it a i) : ∃ o, h.get? it = some o ∧ ∀ v, o.data ≠ .cell v := by
  cases k with
  | true =>
    obtain ⟨o, e, _, d⟩ := (show h.IsListIter it a i from x)
    exact ⟨o, e, fun v q => by rw [d] at q; cases q⟩
  | false =>
    obtain ⟨o, e, _, d⟩ := (show h.IsTupleIter it a i from x)
    exact ⟨o, e, fun v q => by rw [d] at q; cases q⟩
theorem draws_k {prog : Program} {w : World} {A : Around} (hh : A.handled = none) (k : Bool) (it a : Addr) (hne : a ≠ it) (its : Array Value) :
    Draws prog w A it [it, a] its.size (fun i v => its[i]? = some v) (fun i h => ItK k h it a i ∧ SeK k h a its) := by
  cases k with
  | true => exact Draws.list hh it a hne its
  | false => exact Draws.tuple hh it a hne its
section
variable {X : Cx} {pins : List (Addr × Obj)} {σ : L2.St} {H : Hp} {s : Shared} {a : Addr} {xs : List V}
theorem se_k (I : Inv X pins σ H s) {k : Bool} (h : SqK X.K k H a xs) : ∃ its : List Value, Vals xs its ∧ SeK k s.heap a its.toArray ∧ xs.length ≤ sizeLine ∧ a < s.heap.objs.size := by
  cases k with
  | true =>
    obtain ⟨its, rv, p, hz⟩ := I.list h
    exact ⟨its, rv, p.isList, hz, p.lt⟩
  | false =>
    obtain ⟨its, rv, p, hz⟩ := I.tuple h
    obtain ⟨o, ho, _⟩ := id p
    exact ⟨its, rv, (show s.heap.IsTuple a its.toArray from p), hz, Heap.lt_size ho⟩
end
/-- zip of two lists or tuples, the pairs new tuples -/
def ItzN (K : PySem.W.Frag) (ka kb : Bool) (a b : Addr) (xs ys : List V) : It :=
  ⟨fun i H => SqK K ka H a xs ∧ SqK K kb H b ys ∧ i < xs.length ∧ i < ys.length,
    fun i H v H' => ∃ T x y, v = .ref T ∧ H T = none ∧ H' = upd H T (.tup [x, y]) ∧ xs[i]? = some x ∧ ys[i]? = some y,
    fun i H => SqK K ka H a xs ∧ SqK K kb H b ys ∧ i ≤ xs.length ∧ i ≤ ys.length ∧ (i = xs.length ∨ i = ys.length)⟩
theorem turn_zipN {P : Program} {w : World} {K : PySem.W.Frag} {x : Str} {tpos : Pos} {ka kb : Bool} {a b z TI TO i1 i2 : Addr} {xs ys : List V} (S : ZipSep2 z TI TO i1 i2 [i1, a] [i2, b]) (n1 : a ≠ i1) (n2 : b ≠ i2) :
    Turn P w K (.Name x tpos) (ItzN K ka kb a b xs ys) [z, TI, TO, i1, i2] z (fun i h => ZAny h z TI TO ∧ IsTupOf2 h TI (.ref i1) (.ref i2) ∧ ItK ka h i1 a i ∧ ItK kb h i2 b i) where
  mem := by simp
  obj := fun i h st c hc => by
    obtain ⟨⟨⟨x, y, hTO⟩, hz⟩, hTI, h1, h2⟩ := st
    have e' : c = z ∨ c = TI ∨ c = TO ∨ c = i1 ∨ c = i2 := by simpa using hc
    rcases e' with q | q | q | q | q
    · rw [q]
      rcases hz with hz | ⟨T, f, hz⟩
      · exact ⟨_, hz, fun v q => nomatch q⟩
      · exact ⟨_, hz, fun v q => nomatch q⟩
    · rw [q]; exact ⟨_, hTI, fun v q => nomatch q⟩
    · rw [q]; exact ⟨_, hTO, fun v q => nomatch q⟩
    · rw [q]; exact h1.obj
    · rw [q]; exact h2.obj
  keep := fun i h h' st k => by
    obtain ⟨⟨⟨x, y, hTO⟩, hz⟩, hTI, h1, h2⟩ := st
    refine ⟨⟨⟨x, y, k TO (by simp) _ hTO⟩, ?_⟩, k TI (by simp) _ hTI, h1.keep fun o q => k i1 (by simp) o q, h2.keep fun o q => k i2 (by simp) o q⟩
    rcases hz with hz | ⟨T, f, hz⟩
    · exact .inl (k z (by simp) _ hz)
    · exact .inr ⟨T, f, k z (by simp) _ hz⟩
  item := by
    intro X hP hw hK hc i pins s σ H E I hf st hg
    subst hP hw hK
    obtain ⟨hz, hTI, h1, h2⟩ := st
    obtain ⟨hqx, hqy, lx, ly⟩ := hg
    obtain ⟨its, rv, p, _⟩ := se_k I hqx
    obtain ⟨its2, rv2, p2, _⟩ := se_k I hqy
    have hh : X.A.handled = none := I.ok.hd hc
    have e1 : its.toArray.size = xs.length := by rw [List.size_toArray, ← rv.length]
    have e2 : its2.toArray.size = ys.length := by rw [List.size_toArray, ← rv2.length]
    refine any_item S (draws_k (prog := X.prog) (w := X.w) (A := X.A.in1) hh ka i1 a n1 its.toArray) (draws_k (prog := X.prog) (w := X.w) (A := X.A.in1) hh kb i2 b n2 its2.toArray) hz hTI ⟨h1, p⟩ ⟨h2, p2⟩ (by omega) (by omega) fun u u2 h' tk g1 g2 hz' hTI' st1 st2 hT hsz hk => ?_
    refine ⟨_, rfl, ?_⟩
    unfold letOwnedTupleGo
    refine wpAny_pure ?_
    obtain ⟨x, hx, ru⟩ := vals_back rv (by simpa using g1)
    obtain ⟨y, hy, ru2⟩ := vals_back rv2 (by simpa using g2)
    have new : ObjOk X.prog X.w (upd H s.heap.objs.size (.tup [x, y])) h' s.heap.objs.size (.tup [x, y]) :=
      ⟨by show 2 ≤ sizeLine; decide, [u, u2], .cons ru (.cons ru2 .nil), ⟨_, hT, rfl, _, rfl⟩⟩
    have I1 : Inv X pins σ (upd H s.heap.objs.size (.tup [x, y])) { s with heap := h', toks := tk } :=
      I.turnedNew (t' := tk) (ch := [z, TI, TO, i1, i2]) (fun c o hb q => hk c o (fun q' => hb (by simp [q'])) (fun q' => hb (by simp [q'])) (fun q' => hb (by simp [q'])) (fun q' => hb (by simp [q'])) q) hf (Nat.le_refl _) new
    refine ⟨.ref s.heap.objs.size, _, I1, rfl, ⟨_, x, y, rfl, I.hok.fresh (Nat.le_refl _), rfl, hx, hy⟩, ⟨hz', hTI', st1.1, st2.1⟩, fun c hcm => ?_⟩
    have hlt : c < s.heap.objs.size := by
      obtain ⟨⟨⟨x0, y0, hTO⟩, hz0⟩, hTI0, q1, q2⟩ := (⟨hz, hTI, h1, h2⟩ : ZAny s.heap z TI TO ∧ IsTupOf2 s.heap TI (.ref i1) (.ref i2) ∧ ItK ka s.heap i1 a i ∧ ItK kb s.heap i2 b i)
      have e' : c = z ∨ c = TI ∨ c = TO ∨ c = i1 ∨ c = i2 := by simpa using hcm
      rcases e' with q | q | q | q | q
      · rw [q]
        rcases hz0 with hz0 | ⟨T, f, hz0⟩
        · exact Heap.lt_size hz0
        · exact Heap.lt_size hz0
      · rw [q]; exact Heap.lt_size hTI0
      · rw [q]; exact Heap.lt_size hTO
      · rw [q]; obtain ⟨_, e1, _⟩ := q1.obj; exact Heap.lt_size e1
      · rw [q]; obtain ⟨_, e2, _⟩ := q2.obj; exact Heap.lt_size e2
    rw [upd_ne (Nat.ne_of_lt hlt)]
    exact (hf c hcm).1
  done := by
    intro X hP hw hK hc i pins s σ H E I hf st hg
    subst hP hw hK
    obtain ⟨hz, hTI, h1, h2⟩ := st
    obtain ⟨hqx, hqy, lx, ly, hend⟩ := hg
    obtain ⟨its, rv, p, _⟩ := se_k I hqx
    obtain ⟨its2, rv2, p2, _⟩ := se_k I hqy
    have hh : X.A.handled = none := I.ok.hd hc
    have e1 : its.toArray.size = xs.length := by rw [List.size_toArray, ← rv.length]
    have e2 : its2.toArray.size = ys.length := by rw [List.size_toArray, ← rv2.length]
    exact any_end S (draws_k (prog := X.prog) (w := X.w) (A := X.A.in1) hh ka i1 a n1 its.toArray) (draws_k (prog := X.prog) (w := X.w) (A := X.A.in1) hh kb i2 b n2 its2.toArray) hz hTI ⟨h1, p⟩ ⟨h2, p2⟩ (by omega) (by omega) (by omega) fun h' tk hk => ⟨rfl, I.turnedL (t' := tk) (ch := [z, TI, TO, i1, i2]) (fun c o hb q =>
      hk c o (fun q' => hb (by simp [q'])) (fun q' => hb (by simp [q'])) (fun q' => hb (by simp [q'])) (fun q' => hb (by simp [q'])) q) hf⟩
  self := fun A i s Q E st h => by
    have ty := st.1.type
    refine wpAny_pyIter_slot ty F.slot_zip_iter (wpAny_call_entry F.slot_zip_iter ty F.entry_zip_iter ?_ (F.args_zip_iter_1 _))
    show wpAny _ _ (ret (.ref z)) _ _ s
    exact wpAny_pure ⟨_, rfl, "zip", _, ty, F.slot_zip_next.lookup, h⟩
def iZipN (K : PySem.W.Frag) (ta : TA) : TI := fun σ H R => ta σ H fun vs H1 => ∃ a b xs ys ka kb, vs = [.ref a, .ref b] ∧ SqK K ka H1 a xs ∧ SqK K kb H1 b ys ∧ R (ItzN K ka kb a b xs ys) H1
theorem pi_zipN {X : Cx} {e e2 : Expr} {ta : TA} {p pos tpos : Pos} {x : Str} (hg : Gl X "zip") (hm : X.mg "zip" = none) (ha : PA X [e, e2] ta)
    (hs : starEach [e, e2] X.env = (false, eval e X.env) :: starEach [e2] X.env := by rfl) (hpl : (backTo pos (starEach [e2] X.env)).any (·.1) = false := by rfl) :
    PI X (.Name x tpos) (.Call (.Name "zip" p) [e, e2] [] pos) (iZipN X.K ta) := by
  refine ⟨fun pins s σ H R I h => ?_⟩
  refine Call_ (ld_blt I hg hm PyProof.Rows.boot_zip (PyProof.Rows.callWith_type1 (thn (ha.run pos pins s σ H _ I h) fun us s1 ⟨vs, H1, I1, r1, q1⟩ => ?_) hs hpl))
  obtain ⟨a, b, xs, ys, ka, kb, rfl, hqx, hqy, q⟩ := q1
  obtain rfl : us = [.ref a, .ref b] := by
    cases r1 with
    | cons r rr =>
      cases rr with
      | cons r' rr =>
        cases rr
        cases r
        cases r'
        rfl
  obtain ⟨its, rv, p1, _, la⟩ := se_k I1 hqx
  obtain ⟨its2, rv2, p2, _, lb⟩ := se_k I1 hqy
  have bg : ∀ (k : Bool) (a : Addr) (its : Array Value), ∃ o, Begins (.ref a) o (fun h => SeK k h a its) ∧ ∀ h it, h.get? it = some o → ItK k h it a 0 := fun k a its => by
    cases k with
    | true => exact ⟨_, begins_list a its, fun h it e => ⟨_, e, rfl, rfl⟩⟩
    | false => exact ⟨_, begins_tuple a its, fun h it e => ⟨_, e, rfl, rfl⟩⟩
  obtain ⟨o1, B1, S1⟩ := bg ka a its.toArray
  obtain ⟨o2, B2, S2⟩ := bg kb b its2.toArray
  refine zip_begins2 B1 B2 p1 p2 fun h' hz hTI hTO h1 h2 hsz hk => wpAny_pyIter_zip hz ?_
  have I2 : Inv X pins σ H1 { s1 with heap := h' } := I1.kept (t' := s1.toks) hk
  have sep : ZipSep2 (s1.heap.objs.size + 4) (s1.heap.objs.size + 2) (s1.heap.objs.size + 3) s1.heap.objs.size (s1.heap.objs.size + 1) [s1.heap.objs.size, a] [s1.heap.objs.size + 1, b] :=
    zip_sep2 (fun c hcm => by rw [List.mem_singleton.mp hcm]; exact la) (fun c hcm => by rw [List.mem_singleton.mp hcm]; exact lb)
  refine ⟨s1.heap.objs.size + 4, [s1.heap.objs.size + 4, s1.heap.objs.size + 2, s1.heap.objs.size + 3, s1.heap.objs.size, s1.heap.objs.size + 1], _, _, H1, rfl, I2, turn_zipN sep (Nat.ne_of_lt la) (Nat.ne_of_lt (Nat.lt_succ_of_lt lb)), ⟨⟨⟨_, _, hTO⟩, .inl hz⟩, hTI, S1 _ _ h1, S2 _ _ h2⟩, fun c hcm => ?_, q⟩
  have e' : c = s1.heap.objs.size + 4 ∨ c = s1.heap.objs.size + 2 ∨ c = s1.heap.objs.size + 3 ∨ c = s1.heap.objs.size ∨ c = s1.heap.objs.size + 1 := by simpa using hcm
  have hle : s1.heap.objs.size ≤ c := by
    rcases e' with z | z | z | z | z
    · rw [z]; exact Nat.le_add_right _ _
    · rw [z]; exact Nat.le_add_right _ _
    · rw [z]; exact Nat.le_add_right _ _
    · rw [z]; exact Nat.le_refl _
    · rw [z]; exact Nat.le_add_right _ _
  exact I1.fpOk hle (I1.hok.fresh hle)
/-- as a walk -/
theorem walk_zipN {K : PySem.W.Frag} {ka kb : Bool} {a b : Addr} {xs ys : List V} {n : Nat} (hn : n = min xs.length ys.length) :
    Walk (ItzN K ka kb a b xs ys) n (fun H => SqK K ka H a xs ∧ SqK K kb H b ys) (fun i H v H' => ∃ T x y, v = .ref T ∧ H T = none ∧ H' = upd H T (.tup [x, y]) ∧ xs[i]? = some x ∧ ys[i]? = some y) := by
  subst hn
  exact ⟨fun i _ hi q => ⟨q.1, q.2, by omega, by omega⟩, fun _ q => ⟨q.1, q.2, by omega, by omega, by omega⟩, fun i H v H' _ q y => y⟩
end ZpL
set_option maxRecDepth 100000
set_option maxHeartbeats 4000000
namespace K15
open PySem L2 Fm
section
variable {P : Program} {w : World} {K : PySem.W.Frag} {mg : Str → Option Value} {base : Heap} (T : Txt K mg)
/-- heads of two nodes are equal -/
def spHeads : Sp := fun vs H Q _ => ∃ (b1 b2 : Addr) (k1 k2 : List L2.Key) (ts1 ts2 : List D) (d e : D), vs = [.ref b1, .ref b2] ∧ H b1 = some (.tup (k1.map kV)) ∧ H b2 = some (.tup (k2.map kV)) ∧ KeyOf ts1 k1 d ∧ KeyOf ts2 k2 e ∧
  ∀ b : Bool, (b = true ↔ ∃ h, hdOf d = some h ∧ hdOf e = some h) → Q (.bl b) H
theorem ok_are_equal_heads : FnOk P w K mg base CX0 1 T.a_are_equal_heads T.d_are_equal_heads ["node", "other"] spHeads := by
  refine T.F_are_equal_heads.ok sc_are_equal_heads ?_ (fun cdv A outer s H vs Q E hr h => ?_)
  · rintro vs H Q E ⟨b1, b2, k1, k2, ts1, ts2, d, e, rfl, _⟩
    rfl
  obtain ⟨b1, b2, k1, k2, ts1, ts2, d, e, rfl, h1, h2, g1, g2, q⟩ := h
  refine ⟨_, 
    (pss_one (ps_ret (pe_and (pe_isD (fun _ => kit_S) T.m_isinstance (pe_ix ix_tup (pv 0) pe_int (fun _ _ => rfl)) (pe_bltn (v := .ty "str") (u := .type "str") (by rfl) T.m_str (by decide +kernel) rfl) mon_ixT) (pe_and (pe_cmpR op_eq (pe_ix ix_tup (pv 0) pe_int (fun _ _ => rfl)) (pe_ix ix_tup (pv 1) pe_int (fun _ _ => rfl)) (nomark _)) (pe_one (pe_cmpR op_eq (pe_callB call_len_seq (by rfl) T.m_len (by decide +kernel) (pa_cons (pv 0) pa_nil)) (pe_callB call_len_seq (by rfl) T.m_len (by decide +kernel) (pa_cons (pv 1) pa_nil)) (nomark _))))))), ?_⟩
  have kcase : ∀ {ts : List D} {k : List L2.Key} {d : D}, KeyOf ts k d → (∃ u, k = [.inl u] ∧ d = .int u) ∨ ∃ (x : Str) (js : List Nat) (ds : List D), k = .inr x :: js.map kI ∧ d = .tup (.str x :: ds) ∧ js.length = ds.length ∧ PyData.strOk x = true := by
    intro ts k d h
    cases h with
    | int u => exact .inl ⟨u, rfl, rfl⟩
    | tup x js ds o _ a => exact .inr ⟨x, js, ds, rfl, rfl, a.len, o⟩
  rcases kcase g1 with ⟨u, rfl, rfl⟩ | ⟨x, js, ds, rfl, rfl, l1, o1⟩
  · refine ⟨_, rfl, b1, _, 0, _, rfl, rfl, SqT.of h1, atI_nat (j := 0) rfl, .int u, .int u, _, rfl, ite_b (fun c => nomatch c) (fun _ => q false ⟨fun z => (nomatch z), fun ⟨h, z, _⟩ => nomatch z⟩)⟩
  · refine ⟨_, rfl, b1, _, 0, _, rfl, rfl, SqT.of h1, atI_nat (j := 0) rfl, .str x, .str x o1, _, rfl, ite_b (fun _ => ?_) (fun c => nomatch c)⟩
    rcases kcase g2 with ⟨u, rfl, rfl⟩ | ⟨y, ks, es, rfl, rfl, l2, o2⟩
    · refine ⟨_, rfl, b1, _, 0, _, rfl, rfl, SqT.of h1, atI_nat (j := 0) rfl, _, rfl, b2, _, 0, _, rfl, rfl, SqT.of h2, atI_nat (j := 0) rfl, rfl, _, rfl, ite_b (fun c => ?_) (fun _ => q false ⟨fun z => (nomatch z), fun ⟨h, _, z⟩ => nomatch z⟩)⟩
      have := of_decide_eq_true c
      cases this
    · refine ⟨_, rfl, b1, _, 0, _, rfl, rfl, SqT.of h1, atI_nat (j := 0) rfl, _, rfl, b2, _, 0, _, rfl, rfl, SqT.of h2, atI_nat (j := 0) rfl, rfl, _, rfl, ite_b (fun c => ?_) (fun c => ?_)⟩
      · have exy : x = y := by
          have := of_decide_eq_true c
          injection this
        refine ⟨_, rfl, b1, _, rfl, .inr (SqT.of h1), _, rfl, b2, _, rfl, .inr (SqT.of h2), rfl, q _ ?_⟩
        simp only [List.map_cons, List.length_cons, List.length_map]
        rw [decide_eq_true_iff]
        constructor
        · intro z
          injection z with z
          have e : ds.length = es.length := by omega
          exact ⟨(x, ds.length), rfl, by rw [exy, e]; rfl⟩
        · rintro ⟨h, e1, e2⟩
          have e1 : some (x, ds.length) = some h := e1
          have e2 : some (y, es.length) = some h := e2
          rw [← e1] at e2
          injection e2 with e2
          injection e2 with _ e2
          rw [show js.length = ks.length by omega]
      · refine q false ⟨fun z => (nomatch z), fun ⟨h, e1, e2⟩ => ?_⟩
        have e1 : some (x, ds.length) = some h := e1
        have e2 : some (y, es.length) = some h := e2
        rw [← e1] at e2
        injection e2 with e2
        injection e2 with e2 _
        exact absurd (by rw [e2]) (of_decide_eq_false c)
end
end K15
set_option maxRecDepth 100000
set_option maxHeartbeats 4000000
namespace K15
open PySem L2 Fm
/-- the parts of two nodes whose heads are equal, beside one another -/
def Kids (ts ss : List D) (p : Nat × Nat) (cs : List (Nat × Nat)) : Prop := ∃ (x : Str) (es fs : List D) (js ks : List Nat), ts[p.1]? = some (.tup (.str x :: es)) ∧ ss[p.2]? = some (.tup (.str x :: fs)) ∧ es.length = fs.length ∧ Ats ts js es ∧ Ats ss ks fs ∧ cs = js.zip ks ∧ (∀ j ∈ js, j < p.1) ∧ ∀ k ∈ ks, k < p.2
theorem kids_inj {ts ss : List D} (n1 : ts.Nodup) (n2 : ss.Nodup) {p : Nat × Nat} {c1 c2 : List (Nat × Nat)} (h1 : Kids ts ss p c1) (h2 : Kids ts ss p c2) : c1 = c2 := by
  obtain ⟨x, es, fs, js, ks, a1, a2, _, a3, a4, rfl, _, _⟩ := h1
  obtain ⟨y, es', fs', js', ks', b1, b2, _, b3, b4, rfl, _, _⟩ := h2
  rw [a1] at b1
  rw [a2] at b2
  injection b1 with b1
  injection b1 with b1
  injection b1 with _ b1
  injection b2 with b2
  injection b2 with b2
  injection b2 with _ b2
  subst b1 b2
  rw [a3.inj n1 b3, a4.inj n2 b4]
def PairsI (H : Hp) (as : List Addr) (st : List (Nat × Nat)) : Prop := Paired (fun (t : Addr) (q : Nat × Nat) => H t = some (.tup [vI q.1, vI q.2])) as st
theorem PairsI.keep {H H' : Hp} {as : List Addr} {st : List (Nat × Nat)} (h : PairsI H as st) (k : ∀ t xs, H t = some (.tup xs) → H' t = some (.tup xs)) : PairsI H' as st := Paired.mapP h fun t q e => k _ _ e
theorem pairsI_zip {H : Hp} : ∀ {as : List Addr} {js ks : List Nat}, ZpL.PairsAt H as ((js.map vI).zip (ks.map vI)) → PairsI H as (js.zip ks)
  | as, [], _, h => by
    rw [List.map_nil, List.zip_nil_left] at h
    rw [List.zip_nil_left]
    cases h
    exact .nil
  | as, _ :: _, [], h => by
    rw [List.map_nil, List.zip_nil_right] at h
    rw [List.zip_nil_right]
    cases h
    exact .nil
  | as, j :: js, k :: ks, h => by
    rw [List.map_cons, List.map_cons, List.zip_cons_cons] at h
    rw [List.zip_cons_cons]
    cases h with
    | cons e r => exact .cons e (pairsI_zip r)
def szI (ts : List D) (st : List (Nat × Nat)) : Nat := sizes (st.map fun p => ts.getD p.1 .non)
theorem szI_app (ts : List D) (a b : List (Nat × Nat)) : szI ts (a ++ b) = szI ts a + szI ts b := by
  unfold szI
  rw [List.map_append, sizes_app]
theorem szI_len (ts : List D) (st : List (Nat × Nat)) : st.length ≤ szI ts st := by
  unfold szI
  have := len_sizes (st.map fun p => ts.getD p.1 .non)
  rw [List.length_map] at this
  exact this
theorem szI_zip {ts : List D} : ∀ {js : List Nat} {es : List D} {ks : List Nat}, Ats ts js es → js.length = ks.length → szI ts (js.zip ks) = sizes es
  | _, _, ks, .nil, _ => by simp [szI, sizes]
  | j :: js, d :: ds, [], .cons a b, h => by simp at h
  | j :: js, d :: ds, k :: ks, .cons a b, h => by
    have := szI_zip b (ks := ks) (by simpa using h)
    unfold szI at this ⊢
    rw [List.zip_cons_cons, List.map_cons, sizes, sizes, this]
    rw [show ts.getD j .non = d by rw [List.getD_eq_getElem?_getD, a]; rfl]
def pk (p : Nat × Nat) : List L2.Key := [kI p.1, kI p.2]
theorem pk_inj {p q : Nat × Nat} (h : pk p = pk q) : p = q := by
  unfold pk kI at h
  injection h with h1 h2
  injection h2 with h2
  injection h1 with h1
  injection h2 with h2
  exact Prod.ext (by omega) (by omega)
/-- found -/
def fnd (fs : List (Nat × Nat)) : List (List L2.Key × V) := fs.map fun p => (pk p, .bl true)
theorem fnd_in {fs : List (Nat × Nat)} {p : Nat × Nat} : (valV (fnd fs) (pk p)).isSome = decide (p ∈ fs) := by
  induction fs with
  | nil => rfl
  | cons q r ih =>
    unfold fnd at ih ⊢
    rw [List.map_cons]
    by_cases h : q = p
    · rw [valV_pos (by rw [h])]
      simp [h]
    · have hk : pk q ≠ pk p := fun z => h (pk_inj z)
      rw [valV_neg hk, ih]
      have hp : p ≠ q := fun z => h z.symm
      simp [hp]
/-- the nodes of a list -/
structure NodesL (H : Hp) (l : Addr) (bs : List Addr) (ts : List D) : Prop where
  at_ : H l = some (.lst (bs.map V.ref))
  N : Nodes H bs ts
theorem NodesL.same {H H' : Hp} {l : Addr} {bs : List Addr} {ts : List D} (h : NodesL H l bs ts) (k : Same H H') : NodesL H' l bs ts := ⟨k _ _ h.at_, h.N.same k⟩
theorem NodesL.get {H : Hp} {l : Addr} {bs : List Addr} {ts : List D} (h : NodesL H l bs ts) {n : Nat} (hn : n < ts.length) : ∃ (b : Addr) (k : List L2.Key) (d : D), (bs.map V.ref)[n]? = some (V.ref b) ∧ H b = some (.tup (k.map kV)) ∧ ts[n]? = some d ∧ KeyOf (ts.take n) k d := by
  have l := h.N.len
  have hb : bs[n]? = some bs[n] := List.getElem?_eq_getElem (by omega)
  have ht : ts[n]? = some ts[n] := List.getElem?_eq_getElem hn
  obtain ⟨k, hk, ky⟩ := h.N.node n _ _ hb ht
  exact ⟨bs[n], k, ts[n], by rw [List.getElem?_map, hb]; rfl, hk, ht, ky⟩
/-- closed: the parts of what is found are found, or still ahead -/
def Clsd (ts ss : List D) (fs st : List (Nat × Nat)) : Prop := ∀ p ∈ fs, ∀ cs, Kids ts ss p cs → ∀ c ∈ cs, c ∈ fs ∨ c ∈ st
def Vld (ts ss : List D) (st : List (Nat × Nat)) : Prop := ∀ p ∈ st, p.1 < ts.length ∧ p.2 < ss.length
section
variable {P : Program} {w : World} {K : PySem.W.Frag} {mg : Str → Option Value} {base : Heap} (T : Txt K mg)
def spWithin : Sp := fun vs H Q _ => ∃ (n1 n2 l : Addr) (bs cs as : List Addr) (ts ss : List D) (st : List (Nat × Nat)), vs = [.ref n1, .ref n2, .ref l] ∧ NodesL H n1 bs ts ∧ NodesL H n2 cs ss ∧ H l = some (.lst (as.map V.ref)) ∧ PairsI H as st ∧ Vld ts ss st ∧ szI ts st ≤ 90000 ∧
  ∀ (H' : Hp) (r : Addr) (zs : List Addr) (fs : List (Nat × Nat)), Same H H' → H r = none → H' r = some (.lst (zs.map V.ref)) → PairsI H' zs fs → Vld ts ss fs → (∀ p ∈ st, p ∈ fs) → Clsd ts ss fs [] → fs.Pairwise (fun a b => a.1 < b.1 ∨ (a.1 = b.1 ∧ a.2 < b.2)) → fs.length ≤ 90000 → Q (.ref r) H'
theorem ok_pairs_within : FnOk P w K mg base CX0 2 T.a_pairs_within T.d_pairs_within ["nodes", "others", "pairs"] (spWithin) := by
  have G_are_equal_heads := ok_are_equal_heads (P := P) (w := w) (base := base) T
  refine T.F_pairs_within.ok sc_pairs_within ?_ (fun cdv A outer s H vs Q E hr h => ?_)
  · rintro vs H Q E ⟨n1, n2, l, bs, cs, as, ts, ss, st, rfl, _⟩
    rfl
  obtain ⟨n1, n2, l, bs, cs, as, ts, ss, st, rfl, N1, N2, hl, ha, hv, hz, q⟩ := h
  refine ⟨_, 
    (pss_cons (ps_set (i := 3) sc_pairs_within.nd rfl (Or.inl rfl) pe_dnewT)
    (pss_cons (ps_set (i := 4) sc_pairs_within.nd rfl (Or.inl rfl) (pe_callTy call_list_of (by rfl) T.m_list (by decide +kernel) (pa_cons (pv 2) pa_nil)))
    (pss_cons (ps_while PassesOwn.never (pt_truth (pv 4) (by intro _; rfl)) (pss_cons (ps_asg (pe_bm0 PySem.F.plainAttrs_list PySem.F.slot_list_pop PySem.F.type_list_pop mt_pop (pv 4)) (pg_tup rfl (pgs_cons (pg_name (i := 5) sc_pairs_within.nd rfl (Or.inl rfl)) (pgs_cons (pg_name (i := 6) sc_pairs_within.nd rfl (Or.inl rfl)) pgs_nil)))) (pss_one (ps_if (pt_cmp (pc_dnotin (hu1 hr) (pe_tup (pa_cons (pv 5) (pa_cons (pv 6) pa_nil))) (pv 3))) (pss_cons (ps_dput (hu1 hr) (pv 3) (pe_tup (pa_cons (pv 5) (pa_cons (pv 6) pa_nil))) pe_bl rfl) (pss_one (ps_if (pt_val (pe_call G_are_equal_heads (hr.mono (by omega)) (by rfl) T.f_are_equal_heads T.F_are_equal_heads.kp T.b_are_equal_heads .nil pass0 (pa_cons (pe_ix ix_list (pv 0) (pv 5) (fun _ _ => rfl)) (pa_cons (pe_ix ix_list (pv 1) (pv 6) (fun _ _ => rfl)) pa_nil)))) (pss_one (ps_expr (pe_bm PySem.F.plainAttrs_list PySem.F.slot_list_extend PySem.F.type_list_extend mt_extend (pv 4) (pa_cons (ZpL.pe_listZip rfl (pa_cons (pe_slice sl_tupA (pe_ix ix_list (pv 0) (pv 5) (fun _ _ => rfl)) (po_some pe_int) po_none) (pa_cons (pe_slice sl_tupA (pe_ix ix_list (pv 1) (pv 6) (fun _ _ => rfl)) (po_some pe_int) po_none) pa_nil)) (by rfl) T.m_list (by rfl) T.m_zip (by decide +kernel)) pa_nil)))) pss_nil))) pss_nil))))
    (pss_one (ps_ret (pe_callB (cr_sortT rfl) (by rfl) T.m_sorted (by decide +kernel) (pa_cons (pv 3) pa_nil))))))), ?_⟩
  intro nf hnf
  have k0 : Same H (upd H nf (.dT [])) := Same.new hnf
  refine ⟨_, rfl, l, _, rfl, .inl (SqL.of (k0 _ _ hl)), fun la hla => ?_⟩
  have nfl : nf ≠ la := fun e => by
    rw [← e, upd_same] at hla
    cases hla
  have hlaH : H la = none := by
    rw [upd_ne (Ne.symm nfl)] at hla
    exact hla
  have k1 : Same H (upd (upd H nf (.dT [])) la (.lst (as.map V.ref))) := k0.trans (Same.new hla)
  refine ⟨fun m σ H' => ∃ as' st' fs o5 o6, σ = [some (.ref n1), some (.ref n2), some (.ref l), some (.ref nf), some (.ref la), o5, o6] ∧ Same H H' ∧ H' la = some (.lst (as'.map V.ref)) ∧ H' nf = some (.dT (fnd fs)) ∧ PairsI H' as' st' ∧
      Vld ts ss st' ∧ Vld ts ss fs ∧ fs.Nodup ∧ m = szI ts st' ∧ fs.length + m ≤ 90000 ∧ Clsd ts ss fs st' ∧ ∀ p ∈ st, p ∈ fs ∨ p ∈ st',
    ⟨_, as, st, [], none, none, rfl, k1, upd_same, by rw [upd_ne nfl]; exact upd_same, ha.keep fun t xs e => k1 _ _ e, hv, fun _ h => (by cases h), List.nodup_nil, rfl, by simpa using hz, fun _ h => (by cases h), fun p hp => .inr hp⟩, ?_⟩
  rintro m σ H' ⟨as', st', fs, o5, o6, rfl, k, h1, h2, h3, h4, h5, h6, rfl, h7, h8, h9⟩
  refine ⟨_, rfl, !as'.isEmpty, .inl ⟨as'.map V.ref, SqL.of h1, by simp⟩, ite_b (fun c => ?_) (fun c => ?_)⟩
  · have ne : as' ≠ [] := by
      rintro rfl
      simp at c
    obtain ⟨a0, t, st0, ⟨i, j⟩, rfl, rfl, g1, ht⟩ := paired_last h3 ne
    have ht : H' t = some (.tup [vI i, vI j]) := ht
    obtain ⟨li, lj⟩ := h4 (i, j) (List.mem_append_right _ List.mem_cons_self)
    have li : i < ts.length := li
    have lj : j < ss.length := lj
    have v0 : Vld ts ss st0 := fun q hq => h4 q (List.mem_append_left _ hq)
    have zs := szI_app ts st0 [(i, j)]
    have z1 : szI ts [(i, j)] = (ts.getD i .non).size := by simp [szI, sizes]
    have z2 := size_pos (ts.getD i .non)
    refine ⟨fun σ' H2 => ∃ m', m' < szI ts (st0 ++ [(i, j)]) ∧ ∃ as' st' fs o5 o6, σ' = [some (.ref n1), some (.ref n2), some (.ref l), some (.ref nf), some (.ref la), o5, o6] ∧ Same H H2 ∧ H2 la = some (.lst (as'.map V.ref)) ∧ H2 nf = some (.dT (fnd fs)) ∧ PairsI H2 as' st' ∧
      Vld ts ss st' ∧ Vld ts ss fs ∧ fs.Nodup ∧ m' = szI ts st' ∧ fs.length + m' ≤ 90000 ∧ Clsd ts ss fs st' ∧ ∀ p ∈ st, p ∈ fs ∨ p ∈ st', fun _ _ x => x, ?_⟩
    have la1 : (a0 ++ [t]).map V.ref = a0.map V.ref ++ [V.ref t] := by rw [List.map_append]; rfl
    rw [la1] at h1
    have k2 : Same H (upd H' la (.lst (a0.map V.ref))) := Same.upd k hlaH
    have nt : t ≠ la := fun e => by
      rw [e, h1] at ht
      cases ht
    refine ⟨_, rfl, .inl ⟨rfl, _, SqL.of h1⟩, la, _, V.ref t, rfl, rfl, h1, ?_, ?_⟩
    · simp
    rw [List.dropLast_concat]
    have hla2 : (upd H' la (.lst (a0.map V.ref))) la = some (.lst (a0.map V.ref)) := upd_same
    have hnf2 : (upd H' la (.lst (a0.map V.ref))) nf = some (.dT (fnd fs)) := by rw [upd_ne nfl]; exact h2
    have ht2 : (upd H' la (.lst (a0.map V.ref))) t = some (.tup [vI i, vI j]) := by rw [upd_ne nt]; exact ht
    have g2 : PairsI (upd H' la (.lst (a0.map V.ref))) a0 st0 := PairsI.keep (H := H') g1 fun t' xs e => by
      rw [upd_ne (fun z => by rw [z, h1] at e; cases e)]
      exact e
    generalize upd H' la (.lst (a0.map V.ref)) = H2 at k2 hla2 hnf2 ht2 g2 ⊢
    refine ⟨t, _, rfl, SqT.of ht2, rfl, _, _, rfl, _, _, rfl, rfl, ?_⟩
    -- (one, other) not in found
    refine ⟨_, rfl, _, rfl, by (show 2 ≤ sizeLine; decide), fun tq htq => ⟨_, rfl, nf, _, rfl, DGet.t (k := pk (i, j)) (Same.new htq _ _ hnf2) upd_same, _, rfl, ?_⟩⟩
    rw [fnd_in]
    have k3 : Same H2 (upd H2 tq (.tup [vI i, vI j])) := Same.new htq
    have hla3 := k3 _ _ hla2
    have hnf3 := k3 _ _ hnf2
    have g3 := g2.keep fun t' xs e => k3 _ _ e
    have k4 := k2.trans k3
    generalize upd H2 tq (.tup [vI i, vI j]) = H3 at k3 hla3 hnf3 g3 k4 ⊢
    change if (!decide ((i, j) ∈ fs)) = true then _ else _
    by_cases m : (i, j) ∈ fs
    · rw [decide_eq_true m]
      refine iteF ⟨szI ts st0, by omega, a0, st0, fs, _, _, rfl, k4, hla3, hnf3, g3, v0, h5, h6, rfl, by omega, fun p hp cs hc c hcm => ?_, fun p hp => ?_⟩
      · rcases h8 p hp cs hc c hcm with z | z
        · exact .inl z
        · rcases List.mem_append.mp z with z | z
          · exact .inr z
          · rw [List.mem_singleton.mp z]
            exact .inl m
      · rcases h9 p hp with z | z
        · exact .inl z
        · rcases List.mem_append.mp z with z | z
          · exact .inr z
          · rw [List.mem_singleton.mp z]
            exact .inl m
    rw [decide_eq_false m]
    refine iteT ?_
    have zst := szI_len ts st0
    refine ⟨_, rfl, _, rfl, _, rfl, by (show 2 ≤ sizeLine; decide), fun tp htp => ⟨nf, _, rfl, DPut.t (k := pk (i, j)) (Same.new htp _ _ hnf3) upd_same (by unfold fnd; rw [List.length_map]; exact szl (by omega)), ?_⟩⟩
    have hnone : valV (fnd fs) (pk (i, j)) = none := by
      have := fnd_in (fs := fs) (p := (i, j))
      rw [decide_eq_false m] at this
      cases e : valV (fnd fs) (pk (i, j)) with
      | none => rfl
      | some v => rw [e] at this; cases this
    rw [putK_new _ hnone]
    have efn : fnd fs ++ [(pk (i, j), V.bl true)] = fnd (fs ++ [(i, j)]) := by unfold fnd; rw [List.map_append]; rfl
    rw [efn]
    have nfp : nf ≠ tp := fun z => by rw [← z, hnf3] at htp; cases htp
    have k5 : Same H (upd (upd H3 tp (.tup [vI i, vI j])) nf (.dT (fnd (fs ++ [(i, j)])))) := Same.upd (k4.trans (Same.new htp)) hnf
    have hla5 : (upd (upd H3 tp (.tup [vI i, vI j])) nf (.dT (fnd (fs ++ [(i, j)])))) la = some (.lst (a0.map V.ref)) := (upd_ne (Ne.symm nfl)).trans (Same.new htp _ _ hla3)
    have hnf5 : (upd (upd H3 tp (.tup [vI i, vI j])) nf (.dT (fnd (fs ++ [(i, j)])))) nf = some (.dT (fnd (fs ++ [(i, j)]))) := upd_same
    have g5 : PairsI (upd (upd H3 tp (.tup [vI i, vI j])) nf (.dT (fnd (fs ++ [(i, j)])))) a0 st0 := g3.keep fun t' xs e => by
      rw [upd_ne (fun z => by rw [z, hnf3] at e; cases e)]
      exact Same.new htp _ _ e
    generalize upd (upd H3 tp (.tup [vI i, vI j])) nf (.dT (fnd (fs ++ [(i, j)]))) = H5 at k5 hla5 hnf5 g5 ⊢
    obtain ⟨b1, q1, d, hb1, hq1, hd, ky1⟩ := (N1.same k5).get li
    obtain ⟨b2, q2, e, hb2, hq2, he, ky2⟩ := (N2.same k5).get lj
    have hd' : ts.getD i .non = d := by rw [List.getD_eq_getElem?_getD, hd]; rfl
    rw [hd'] at z1 z2
    have v5 : Vld ts ss (fs ++ [(i, j)]) := fun q hq => by
      rcases List.mem_append.mp hq with hq | hq
      · exact h5 q hq
      · rw [List.mem_singleton.mp hq]
        exact ⟨li, lj⟩
    have nd5 : (fs ++ [(i, j)]).Nodup := List.nodup_append.mpr ⟨h6, by simp, fun a ha b hb => by
      rw [List.mem_singleton.mp hb]
      exact fun z => m (z ▸ ha)⟩
    refine ⟨_, rfl, _, rfl, n1, _, _, _, rfl, rfl, SqL.of (k5 _ _ N1.at_), atI_nat hb1, _, rfl, _, rfl, n2, _, _, _, rfl, rfl, SqL.of (k5 _ _ N2.at_), atI_nat hb2, b1, b2, q1, q2, _, _, d, e, rfl, hq1, hq2, ky1, ky2, fun bb hbb => ⟨bb, rfl, ite_b (fun ct => ?_) (fun cf => ?_)⟩⟩
    · obtain ⟨⟨x, n⟩, e1, e2⟩ := hbb.mp ct
      have hdk : ∀ {us : List D} {k : List L2.Key} {d : D}, KeyOf us k d → hdOf d = some (x, n) → ∃ (js : List Nat) (es : List D), k = .inr x :: js.map kI ∧ d = .tup (.str x :: es) ∧ es.length = n ∧ Ats us js es := fun {us k d} h e => by
        cases h with
        | int u => cases e
        | tup y js es o _ a =>
          have e : some (y, es.length) = some (x, n) := e
          injection e with e
          injection e with e3 e4
          subst e3
          exact ⟨js, es, rfl, rfl, e4, a⟩
      obtain ⟨js, es, rfl, rfl, l1, at1⟩ := hdk ky1 e1
      obtain ⟨ks, fs', rfl, rfl, l2, at2⟩ := hdk ky2 e2
      have hq1 : H5 b1 = some (.tup (V.str x :: js.map vI)) := by
        have h0 := hq1
        rw [List.map_cons, kV_kI] at h0
        exact h0
      have hq2 : H5 b2 = some (.tup (V.str x :: ks.map vI)) := by
        have h0 := hq2
        rw [List.map_cons, kV_kI] at h0
        exact h0
      have lj1 := at1.len
      have lj2 := at2.len
      obtain ⟨u1, u2⟩ := cutV_one (V.str x :: js.map vI) (by simp)
      obtain ⟨u3, u4⟩ := cutV_one (V.str x :: ks.map vI) (by simp)
      refine ⟨_, rfl, .inl ⟨rfl, _, SqL.of hla5⟩, _, rfl, _, rfl, n1, _, _, _, rfl, rfl, SqL.of (k5 _ _ N1.at_), atI_nat hb1, _, rfl, b1, _, rfl, SqT.of hq1, fun z => absurd z u2, fun _ p hp => ?_⟩
      rw [u1]
      have k6 : Same H5 (upd H5 p (.tup (js.map vI))) := Same.new hp
      refine ⟨_, rfl, _, rfl, n2, _, _, _, rfl, rfl, SqL.of (k6 _ _ (k5 _ _ N2.at_)), atI_nat hb2, _, rfl, b2, _, rfl, SqT.of (k6 _ _ hq2), fun z => absurd z u4, fun _ p2 hp2 => ?_⟩
      rw [u3]
      have k7 : Same H5 (upd (upd H5 p (.tup (js.map vI))) p2 (.tup (ks.map vI))) := k6.trans (Same.new hp2)
      refine ⟨p, p2, _, _, rfl, .inr (SqT.of (Same.new hp2 _ _ upd_same)), .inr (SqT.of upd_same), fun H6 lz zl kk hz0 hzs hnl2 ndz hlz hpr => ?_⟩
      have hpr : ZpL.PairsAt H6 zl ((js.map vI).zip (ks.map vI)) := hpr
      have k8 : Same H5 H6 := k7.trans kk
      have hla6 := k8 _ _ hla5
      have lzl : zl.length = (js.zip ks).length := by
        have := Paired.length hpr
        rw [this, List.length_zip, List.length_zip, List.length_map, List.length_map]
      have la0 := Paired.length g5
      have kid : Kids ts ss (i, j) (js.zip ks) := ⟨x, es, fs', js, ks, hd, he, by omega, at1.mono fun _ _ => take_get, at2.mono fun _ _ => take_get, rfl, fun a ha => by
        have := ats_sub at1 a ha
        rw [List.length_take] at this
        show a < i
        omega, fun a ha => by
        have := ats_sub at2 a ha
        rw [List.length_take] at this
        show a < j
        omega⟩
      have zk := szI_zip (ts := ts) (ks := ks) (at1.mono (us := ts) fun _ _ => take_get) (by omega)
      have lk := szI_len ts (js.zip ks)
      simp only [D.size, sizes] at z1 z2
      have app := szI_app ts st0 (js.zip ks)
      refine ⟨la, lz, _, _, rfl, rfl, hla6, hlz, ?_, szI ts (st0 ++ js.zip ks), ?_, a0 ++ zl, st0 ++ js.zip ks, fs ++ [(i, j)], _, _, rfl, Same.upd (k5.trans k8) hlaH, ?_, ?_, ?_, ?_, v5, nd5, rfl, ?_, fun p hp cs hc c hcm => ?_, fun p hp => ?_⟩
      · rw [List.length_map, List.length_map]
        exact sz (by omega)
      · omega
      · rw [List.map_append]
        exact upd_same
      · rw [upd_ne nfl]
        exact k8 _ _ hnf5
      · refine paired_app (PairsI.keep (H := H5) g5 fun t' xs e => ?_) (PairsI.keep (H := H6) (pairsI_zip hpr) fun t' xs e => ?_)
        · rw [upd_ne (fun z => by rw [z, hla5] at e; cases e)]
          exact k8 _ _ e
        · rw [upd_ne (fun z => by rw [z, hla6] at e; cases e)]
          exact e
      · intro q' hq'
        rcases List.mem_append.mp hq' with hq' | hq'
        · exact v0 q' hq'
        · obtain ⟨m1, m2⟩ := List.of_mem_zip (show (q'.1, q'.2) ∈ js.zip ks from hq')
          exact ⟨ats_sub (at1.mono (us := ts) fun _ _ => take_get) _ m1, ats_sub (at2.mono (us := ss) fun _ _ => take_get) _ m2⟩
      · rw [List.length_append]
        simp only [List.length_cons, List.length_nil]
        omega
      · rcases List.mem_append.mp hp with hp | hp
        · rcases h8 p hp cs hc c hcm with z | z
          · exact .inl (List.mem_append_left _ z)
          · rcases List.mem_append.mp z with z | z
            · exact .inr (List.mem_append_left _ z)
            · exact .inl (List.mem_append_right _ z)
        · rw [List.mem_singleton.mp hp] at hc
          rw [kids_inj N1.N.nd N2.N.nd hc kid] at hcm
          exact .inr (List.mem_append_right _ hcm)
      · rcases h9 p hp with z | z
        · exact .inl (List.mem_append_left _ z)
        · rcases List.mem_append.mp z with z | z
          · exact .inr (List.mem_append_left _ z)
          · exact .inl (List.mem_append_right _ z)
    · refine ⟨szI ts st0, by omega, a0, st0, fs ++ [(i, j)], _, _, rfl, k5, hla5, hnf5, g5, v0, v5, nd5, rfl, by rw [List.length_append]; simp only [List.length_cons, List.length_nil]; omega, fun p hp cs hc c hcm => ?_, fun p hp => ?_⟩
      · rcases List.mem_append.mp hp with hp | hp
        · rcases h8 p hp cs hc c hcm with z | z
          · exact .inl (List.mem_append_left _ z)
          · rcases List.mem_append.mp z with z | z
            · exact .inr z
            · exact .inl (List.mem_append_right _ z)
        · rw [List.mem_singleton.mp hp] at hc
          obtain ⟨x, es, fs', js, ks, a1, a2, a3, _⟩ := hc
          have a1 : ts[i]? = some (.tup (.str x :: es)) := a1
          have a2 : ss[j]? = some (.tup (.str x :: fs')) := a2
          rw [hd] at a1
          rw [he] at a2
          rw [cf] at hbb
          refine absurd (hbb.mpr ⟨(x, es.length), ?_, ?_⟩) (by decide)
          · rw [Option.some.inj a1]; rfl
          · rw [Option.some.inj a2, a3]; rfl
      · rcases h9 p hp with z | z
        · exact .inl (List.mem_append_left _ z)
        · rcases List.mem_append.mp z with z | z
          · exact .inr z
          · exact .inl (List.mem_append_right _ z)
  · have e0 : as' = [] := by simpa using c
    subst e0
    cases h3
    have en : ∀ p ∈ st, p ∈ fs := fun p hp => (h9 p hp).elim id fun z => by cases z
    refine ⟨_, rfl, nf, fnd fs, fs.map fun p => ((p.1 : Int), (p.2 : Int)), rfl, .inl h2, by unfold fnd; rw [List.map_map, List.map_map]; rfl, fun r zs hr hpm hsr hzs => ?_⟩
    have mem : ∀ z ∈ zs, ∃ p ∈ fs, z.2 = ((p.1 : Int), (p.2 : Int)) := fun z hz => by
      obtain ⟨p, hp, e⟩ := List.mem_map.mp (hpm.mem_iff.mp (List.mem_map.mpr ⟨z, hz, rfl⟩))
      exact ⟨p, hp, e.symm⟩
    have e1 : zs.map (·.2) = (zs.map fun z => (z.2.1.toNat, z.2.2.toNat)).map fun p => ((p.1 : Int), (p.2 : Int)) := by
      rw [List.map_map]
      refine List.map_congr_left fun z hz => ?_
      obtain ⟨p, _, e⟩ := mem z hz
      show z.2 = ((z.2.1.toNat : Int), (z.2.2.toNat : Int))
      rw [e]
      simp
    have inj : ∀ a b : Nat × Nat, ((a.1 : Int), (a.2 : Int)) = ((b.1 : Int), (b.2 : Int)) → a = b := fun a b e => by
      injection e with e2 e3
      exact Prod.ext (by omega) (by omega)
    have hf : ∀ p, p ∈ (zs.map fun z => (z.2.1.toNat, z.2.2.toNat)) ↔ p ∈ fs := fun p => by
      have := hpm.mem_iff (a := ((p.1 : Int), (p.2 : Int)))
      rw [e1] at this
      constructor
      · intro h
        obtain ⟨q, hq, e⟩ := List.mem_map.mp (this.mp (List.mem_map.mpr ⟨p, h, rfl⟩))
        rw [← inj _ _ e]
        exact hq
      · intro h
        obtain ⟨q, hq, e⟩ := List.mem_map.mp (this.mpr (List.mem_map.mpr ⟨p, h, rfl⟩))
        rw [← inj _ _ e]
        exact hq
    have nd : (zs.map (·.2)).Nodup := hpm.nodup_iff.mpr (by
      refine List.pairwise_map.mpr (List.Pairwise.imp (fun {a b} (h : a ≠ b) => ?_) h6)
      exact fun z => h (inj a b z))
    have k' : Same H (upd H' r (.lst (zs.map fun z => V.ref z.1))) := k.trans (Same.new hr)
    refine q _ r (zs.map (·.1)) (zs.map fun z => (z.2.1.toNat, z.2.2.toNat)) k' (Same.none k hr) (by rw [List.map_map]; exact upd_same) ?_ (fun p hp => h5 p ((hf p).mp hp)) (fun p hp => (hf p).mpr (en p hp)) (fun p hp cs hc c hcm => ?_) ?_ ?_
    · have go : ∀ l : List (Addr × (Int × Int)), (∀ z ∈ l, z ∈ zs) → PairsI (upd H' r (.lst (zs.map fun z => V.ref z.1))) (l.map (·.1)) (l.map fun z => (z.2.1.toNat, z.2.2.toNat)) := by
        intro l
        induction l with
        | nil => exact fun _ => .nil
        | cons z l ih =>
          intro hl
          obtain ⟨p, _, e⟩ := mem z (hl z List.mem_cons_self)
          refine .cons ?_ (ih fun x hx => hl x (List.mem_cons_of_mem _ hx))
          have h0 := Same.new (o := .lst (zs.map fun z => V.ref z.1)) hr _ _ (hzs z (hl z List.mem_cons_self))
          have a1 : vI z.2.1.toNat = V.int z.2.1 := by rw [e]; simp [vI]
          have a2 : vI z.2.2.toNat = V.int z.2.2 := by rw [e]; simp [vI]
          show (upd H' r (.lst (zs.map fun z => V.ref z.1))) z.1 = some (.tup [vI z.2.1.toNat, vI z.2.2.toNat])
          rw [a1, a2]
          exact h0
      exact go zs fun z hz => hz
    · rcases h8 p ((hf p).mp hp) cs hc c hcm with z | z
      · exact .inl ((hf c).mpr z)
      · cases z
    · have both := List.pairwise_and_iff.mpr ⟨hsr, nd⟩
      rw [e1] at both
      refine List.Pairwise.imp (fun {a b} h => ?_) (List.pairwise_map.mp both)
      obtain ⟨ha, hb⟩ := h
      have := SrtO.lexB_no.mp ha
      have ne : a ≠ b := fun z => hb (by rw [z])
      have ne2 : a.1 ≠ b.1 ∨ a.2 ≠ b.2 := by
        by_cases z : a.1 = b.1
        · exact .inr fun y => ne (Prod.ext z y)
        · exact .inl z
      simp only at this
      omega
    · have := hpm.length_eq
      rw [List.length_map, List.length_map] at this
      rw [List.length_map]
      omega
end
end K15
set_option maxRecDepth 100000
set_option maxHeartbeats 4000000
namespace K15
open PySem L2 Fm
theorem sqk_same {K : PySem.W.Frag} {k : Bool} {H H' : Hp} {a : Addr} {xs : List V} (e : Same H H') (h : ZpL.SqK K k H a xs) : ZpL.SqK K k H' a xs := by
  cases k with
  | true => exact Evl.ex_l e h
  | false => exact Evl.ex_t e h
/-- [f(pair) for pair in zip(a, b)], a and b of numbers -/
theorem lc_pairs {K : PySem.W.Frag} {te : TE} {tt : TT} {σ : L2.St} {H : Hp} {ka kb : Bool} {a b : Addr} {js ks : List Nat} {j : Nat} {vs : List Nat} {Dl : Addr} {Qd : Hp → Prop} (val : Nat × Nat → D) (ha : ZpL.SqK K ka H a (js.map vI)) (hb : ZpL.SqK K kb H b (ks.map vI)) (hD : H Dl = none) (hz : js.length ≤ 100000)
    (hw : ∀ x, wipe ((wipe σ vs).set j (some x)) vs = wipe σ vs) (he : ∀ σ' H' (R : Bool → Hp → Prop), R true H' → tt σ' H' R)
    (hv : ∀ (c : Nat × Nat) (T : Addr) (H' : Hp) (R : VK), Same H H' → c ∈ js.zip ks → H' T = some (.tup [vI c.1, vI c.2]) → (∀ y, Dv H y (val c) → R y H') → te ((wipe σ vs).set j (some (.ref T))) H' R)
    (q : ∀ H' acc, Same H H' → H' Dl = some (.lst acc) → DvL H acc ((js.zip ks).map val) → Qd H') :
    ∃ W : Nat → Nat → Hp → Prop, (∃ m, W 0 m (upd H Dl (.lst []))) ∧ ∀ i m H, W i m H → ((ZpL.ItzN K ka kb a b (js.map vI) (ks.map vI)).stop i H ∧ Qd H) ∨ ((ZpL.ItzN K ka kb a b (js.map vI) (ks.map vI)).go i H ∧ ∃ Nx : Hp → Prop, (∀ H', Nx H' → ∃ m', m' < m ∧ W (i + 1) m' H') ∧
      ∀ x H', (ZpL.ItzN K ka kb a b (js.map vI) (ks.map vI)).yld i H x H' → gName j x (wipe σ vs) H' fun σ2 H2 => wipe σ2 vs = wipe σ vs ∧ tt σ2 H2 fun b H3 => if b = true then te σ2 H3 fun y H4 => ∃ acc, H4 Dl = some (.lst acc) ∧ acc.length < sizeLine ∧ Nx (upd H4 Dl (.lst (acc ++ [y]))) else Nx H3) := by
  have ln : (js.zip ks).length = min (js.map vI).length (ks.map vI).length := by rw [List.length_zip, List.length_map, List.length_map]
  refine lc_it (ZpL.walk_zipN ln) (fun i H' => Same H H' ∧ ∃ acc, H' Dl = some (.lst acc) ∧ DvL H acc (((js.zip ks).take i).map val)) ⟨Same.new hD, [], upd_same, .nil⟩ (fun i H' _ h => ⟨sqk_same h.1 ha, sqk_same h.1 hb⟩) ?_ ?_
  · rintro i x H1 H2 hi ⟨k, acc, hl, hd⟩ ⟨T, u, v, rfl, hT, rfl, hu, hv2⟩
    have k2 : Same H1 (upd H1 T (.tup [u, v])) := Same.new hT
    rw [List.getElem?_map] at hu hv2
    obtain ⟨m, hm, rfl⟩ := Option.map_eq_some_iff.mp hu
    obtain ⟨n, hn, rfl⟩ := Option.map_eq_some_iff.mp hv2
    have hc : (js.zip ks)[i]? = some (m, n) := by rw [List.getElem?_zip_eq_some]; exact ⟨hm, hn⟩
    refine ⟨hw _, he _ _ _ ?_⟩
    rw [if_pos rfl]
    have ld := hd.len
    refine hv (m, n) T _ _ (k.trans k2) (List.mem_of_getElem? hc) upd_same fun y hy => ⟨acc, k2 _ _ hl, ?_, Same.upd (k.trans k2) hD, acc ++ [y], upd_same, ?_⟩
    · rw [List.length_map, List.length_take, List.length_zip] at ld
      exact szl (by omega)
    · rw [take_succ' hc, List.map_append]
      exact hd.snoc hy
  · rintro H' ⟨k, acc, hl, hd⟩
    rw [List.take_length] at hd
    exact q H' acc k hl hd
/-- values at pairs of nodes are those of pairs of terms -/
theorem zip_val {ts ss : List D} {f : List D → D} : ∀ {js ks : List Nat} {es fs : List D}, Ats ts js es → Ats ss ks fs → (js.zip ks).map (fun p => f [ts.getD p.1 .non, ss.getD p.2 .non]) = List.zipWith (fun d e => f [d, e]) es fs
  | _, _, _, _, .nil, _ => by simp
  | _, _, _, _, .cons _ _, .nil => by simp
  | j :: js, k :: ks, d :: es, e :: fs, .cons a b, .cons c g => by
    rw [List.zip_cons_cons, List.map_cons, List.zipWith_cons_cons, zip_val b g]
    congr 2
    rw [List.getD_eq_getElem?_getD, List.getD_eq_getElem?_getD, a, c]
    rfl
theorem key_hd {us : List D} {k : List L2.Key} {d : D} {x : Str} {n : Nat} (h : KeyOf us k d) (e : hdOf d = some (x, n)) : ∃ (js : List Nat) (es : List D), k = .inr x :: js.map kI ∧ d = .tup (.str x :: es) ∧ es.length = n ∧ Ats us js es := by
  cases h with
  | int u => cases e
  | tup y js es o _ a =>
    have e : some (y, es.length) = some (x, n) := e
    injection e with e
    injection e with e3 e4
    subst e3
    exact ⟨js, es, rfl, rfl, e4, a⟩
theorem key_ok {us : List D} {k : List L2.Key} {x : Str} {es : List D} (h : KeyOf us k (.tup (.str x :: es))) : PyData.strOk x = true := by
  cases h with
  | tup _ js _ o _ a => exact o
section
variable {P : Program} {w : World} {K : PySem.W.Frag} {mg : Str → Option Value} {base : Heap} (T : Txt K mg)
/-- columns whose number is known -/
def Known (ts ss : List D) (fs : List (Nat × Nat)) (c : List D) : Prop := ∃ p ∈ fs, ∃ d e, ts[p.1]? = some d ∧ ss[p.2]? = some e ∧ c = [d, e]
theorem gam_inj {ts ss : List D} {fs : List (Nat × Nat)} (n1 : ts.Nodup) (n2 : ss.Nodup) (nf : fs.Nodup) : ∀ a b, Known ts ss fs a → Known ts ss fs b → gam ts ss fs a = gam ts ss fs b → a = b := by
  rintro _ _ ⟨⟨i, j⟩, hp, d, e, h1, h2, rfl⟩ ⟨⟨i', j'⟩, hq, d', e', g1, g2, rfl⟩ h
  obtain ⟨m, hm⟩ := List.mem_iff_getElem?.mp hp
  obtain ⟨m', hm'⟩ := List.mem_iff_getElem?.mp hq
  rw [gam_at n1 n2 nf h1 h2 hm, gam_at n1 n2 nf g1 g2 hm'] at h
  have : m = m' := by omega
  subst this
  rw [hm] at hm'
  have := Option.some.inj hm'
  injection this with e1 e2
  subst e1 e2
  rw [h1] at g1
  rw [h2] at g2
  rw [Option.some.inj g1, Option.some.inj g2]
theorem leaves_known {ts ss : List D} {fs : List (Nat × Nat)} (k1 : ∀ i, i < ts.length → ∃ k d, ts[i]? = some d ∧ KeyOf (ts.take i) k d) (k2 : ∀ i, i < ss.length → ∃ k d, ss[i]? = some d ∧ KeyOf (ss.take i) k d) (cl : Clsd ts ss fs []) :
    ∀ (k : Nat) (i j : Nat) (d e : D), (i, j) ∈ fs → ts[i]? = some d → ss[j]? = some e → ∀ l ∈ leavesC k [d, e], Known ts ss fs l
  | 0, i, j, d, e, hp, hd, he, l, hl => by
    have : l = [d, e] := by simpa [leavesC] using hl
    rw [this]
    exact ⟨_, hp, d, e, hd, he, rfl⟩
  | k + 1, i, j, d, e, hp, hd, he, l, hl => by
    cases sm : sameHead [d, e] with
    | none =>
      rw [leavesC_none sm] at hl
      rw [List.mem_singleton.mp hl]
      exact ⟨_, hp, d, e, hd, he, rfl⟩
    | some h =>
      rw [leavesC_some sm] at hl
      obtain ⟨c, hc, hl9⟩ := List.mem_flatMap.mp hl
      obtain ⟨m, hm, rfl⟩ := List.mem_map.mp hc
      have hm := List.mem_range.mp hm
      obtain ⟨x, n⟩ := h
      have hm : m < n := hm
      have al := same_all sm
      have li := (List.getElem?_eq_some_iff.mp hd).1
      have lj := (List.getElem?_eq_some_iff.mp he).1
      obtain ⟨_, d', hd', ky1⟩ := k1 i li
      obtain ⟨_, e', he', ky2⟩ := k2 j lj
      rw [hd] at hd'
      rw [he] at he'
      have := Option.some.inj hd'
      subst this
      have := Option.some.inj he'
      subst this
      obtain ⟨js', es', rfl, rfl, l1', at1⟩ := key_hd ky1 (al d (by simp))
      obtain ⟨ks', fs', rfl, rfl, l2', at2⟩ := key_hd ky2 (al e (by simp))
      have lj1 := at1.len
      have lj2 := at2.len
      have am1 := at1.mono (us := ts) fun _ _ => take_get
      have am2 := at2.mono (us := ss) fun _ _ => take_get
      have kid : Kids ts ss (i, j) (js'.zip ks') := ⟨x, es', fs', js', ks', hd, he, by omega, am1, am2, rfl, fun a ha => by
        have := ats_sub at1 a ha
        rw [List.length_take] at this
        show a < i
        omega, fun a ha => by
        have := ats_sub at2 a ha
        rw [List.length_take] at this
        show a < j
        omega⟩
      have g1 : js'[m]? = some (js'[m]'(by omega)) := List.getElem?_eq_getElem _
      have g2 : ks'[m]? = some (ks'[m]'(by omega)) := List.getElem?_eq_getElem _
      obtain ⟨d2, y1, y2⟩ := am1.get g1
      obtain ⟨e2, y3, y4⟩ := am2.get g2
      have hin : (js'[m]'(by omega), ks'[m]'(by omega)) ∈ fs := (cl _ hp _ kid _ (List.mem_of_getElem? (i := m) (by rw [List.getElem?_zip_eq_some]; exact ⟨g1, g2⟩))).elim id fun z => by cases z
      refine leaves_known k1 k2 cl k _ _ d2 e2 hin y2 y4 l ?_
      have e3 : [D.tup (.str x :: es'), D.tup (.str x :: fs')].map (argAt m) = [d2, e2] := by
        show [argAt m _, argAt m _] = _
        rw [argAt_get y1, argAt_get y3]
      rw [← e3]
      exact hl9
def spLeast (K : PySem.W.Frag) : Sp := fun vs H Q _ => ∃ (a b : Addr) (us ws : List V) (ds es : List D), vs = [.ref a, .ref b] ∧ (SqL K H a us ∨ SqT K H a us) ∧ (SqL K H b ws ∨ SqT K H b ws) ∧ DvL H us ds ∧ DvL H ws es ∧ (∀ d ∈ ds, Tm d) ∧ (∀ d ∈ es, Tm d) ∧ sizes ds ≤ 80000 ∧ sizes es ≤ 80000 ∧ deeps ds ≤ 50 ∧ deeps es ≤ 50 ∧ es.length = ds.length ∧
  ∀ (H' : Hp) (l : Addr) (zs : List V) (γ : List D → Int), Same H H' → H l = none → H' l = some (.lst zs) → DvL H' zs ((colsOf ds.length [ds, es]).map (resF γ 51)) → (∀ c, 0 ≤ γ c) → puts (numF ((colsOf ds.length [ds, es]).map (resF γ 51))) ((colsOf ds.length [ds, es]).map (resF γ 51)) = genC 51 (colsOf ds.length [ds, es]) → Q (.ref l) H'
theorem ok_least_terms : FnOk P w K mg base CX0 3 T.a_least_terms T.d_least_terms ["terms", "others"] (spLeast K) := by
  have G_shared := ok_shared (P := P) (w := w) (base := base) T
  have G_pairs_within := ok_pairs_within (P := P) (w := w) (base := base) T
  have G_are_equal_heads := ok_are_equal_heads (P := P) (w := w) (base := base) T
  refine T.F_least_terms.ok sc_least_terms ?_ (fun cdv A outer s H vs Q E hr h => ?_)
  · rintro vs H Q E ⟨a, b, us, ws, ds, es, rfl, _⟩
    rfl
  obtain ⟨a, b, us, ws, ds, es, rfl, ha, hb, hus, hws, t1, t2, z1, z2, p1, p2, hl, q⟩ := h
  refine ⟨_, 
    (pss_cons (ps_asg (pe_call G_shared (hr.mono (by omega)) (by rfl) T.f_shared T.F_shared.kp T.b_shared .nil pass0 (pa_cons (pv 0) pa_nil)) (pg_tup rfl (pgs_cons (pg_name (i := 2) sc_least_terms.nd rfl (Or.inl rfl)) (pgs_cons (pg_name (i := 3) sc_least_terms.nd rfl (Or.inl rfl)) pgs_nil))))
    (pss_cons (ps_asg (pe_call G_shared (hr.mono (by omega)) (by rfl) T.f_shared T.F_shared.kp T.b_shared .nil pass0 (pa_cons (pv 1) pa_nil)) (pg_tup rfl (pgs_cons (pg_name (i := 4) sc_least_terms.nd rfl (Or.inl rfl)) (pgs_cons (pg_name (i := 5) sc_least_terms.nd rfl (Or.inl rfl)) pgs_nil))))
    (pss_cons (ps_set (i := 6) sc_least_terms.nd rfl (Or.inr rfl) pe_dnewT)
    (pss_cons (ps_for PassesOwn.never rfl (pi_list (pe_call G_pairs_within (hr.mono (by omega)) (by rfl) T.f_pairs_within T.F_pairs_within.kp T.b_pairs_within .nil pass0 (pa_cons (pv 2) (pa_cons (pv 4) (pa_cons (ZpL.pe_listZip rfl (pa_cons (pv 3) (pa_cons (pv 5) pa_nil)) (by rfl) T.m_list (by rfl) T.m_zip (by decide +kernel)) pa_nil))))) (pg_tup rfl (pgs_cons (pg_name (i := 7) sc_least_terms.nd rfl (Or.inl rfl)) (pgs_cons (pg_name (i := 8) sc_least_terms.nd rfl (Or.inl rfl)) pgs_nil))) (pss_one (ps_if (pt_val (pe_call G_are_equal_heads (hr.mono (by omega)) (by rfl) T.f_are_equal_heads T.F_are_equal_heads.kp T.b_are_equal_heads .nil pass0 (pa_cons (pe_ix ix_list (pv 2) (pv 7) (fun _ _ => rfl)) (pa_cons (pe_ix ix_list (pv 4) (pv 8) (fun _ _ => rfl)) pa_nil)))) (pss_cons (ps_setLc (i := 9) (own := [("pair", 10)]) (g := gName 10) (tt := tYes) rfl sc_least_terms.nd rfl rfl (sw_true rfl rfl rfl (by decide +kernel)) (ZpL.pi_zipN (by rfl) T.m_zip (pa_cons (pe_slice sl_tupA (pe_ix ix_list (pv 2) (pv 7) (fun _ _ => rfl)) (po_some pe_int) po_none) (pa_cons (pe_slice sl_tupA (pe_ix ix_list (pv 4) (pv 8) (fun _ _ => rfl)) (po_some pe_int) po_none) pa_nil))) (blkOk_by (N := N_least_terms) (sc := defScope s_least_terms) (by decide +kernel)) (fun _ _ _ _ _ => pg_name (i := 10) sc_least_terms.nd rfl (Or.inl rfl)) (fun _ _ _ _ _ => pts_nil) (fun _ _ _ _ _ => pe_dget (hu1 hr) (pv 6) (pv 10) (fun _ _ => rfl))) (pss_one (ps_dput (hu1 hr) (pv 6) (pe_tup (pa_cons (pv 7) (pa_cons (pv 8) pa_nil))) (pe_op op_catA (pe_tup (pa_cons (pe_ix ix_tup (pe_ix ix_list (pv 2) (pv 7) (fun _ _ => rfl)) pe_int (fun _ _ => rfl)) pa_nil)) (pe_callTy call_tuple_of (by rfl) T.m_tuple (by decide +kernel) (pa_cons (pv 9) pa_nil))) rfl))) (pss_one (ps_dput (hu1 hr) (pv 6) (pe_tup (pa_cons (pv 7) (pa_cons (pv 8) pa_nil))) (pe_callB call_len_dT (by rfl) T.m_len (by decide +kernel) (pa_cons (pv 6) pa_nil)) rfl)))))
    (pss_one (ps_ret (pe_lc (own := [("pair", 10)]) (g := gName 10) (tt := tYes) rfl sc_least_terms.nd (ZpL.pi_zipN (by rfl) T.m_zip (pa_cons (pv 3) (pa_cons (pv 5) pa_nil))) (blkOk_by (N := N_least_terms) (sc := defScope s_least_terms) (by decide +kernel)) (fun _ _ _ _ _ => pg_name (i := 10) sc_least_terms.nd rfl (Or.inl rfl)) (fun _ _ _ _ _ => pts_nil) (fun _ _ _ _ _ => pe_dget (hu1 hr) (pv 6) (pv 10) (fun _ _ => rfl))))))))), ?_⟩
  refine ⟨_, rfl, a, us, ds, rfl, ha, hus, t1, by omega, fun pa n1 l1 H1 bs ts js k1 hpa hn1 hl1 N1 A1 lt1 sub1 lj1 => ?_⟩
  refine ⟨pa, _, rfl, SqT.of hpa, rfl, _, _, rfl, _, _, rfl, rfl, ?_⟩
  refine ⟨_, rfl, b, ws, es, rfl, hb.imp (Evl.ex_l k1) (Evl.ex_t k1), hws.same k1 _ _, t2, by omega, fun pb n2 l2 H2 cs ss ks k2 hpb hn2 hl2 N2 A2 lt2 sub2 lj2 => ?_⟩
  refine ⟨pb, _, rfl, SqT.of hpb, rfl, _, _, rfl, _, _, rfl, rfl, ?_⟩
  intro md hmd
  have k3 : Same H2 (upd H2 md (.dT [])) := Same.new hmd
  have hmd3 : (upd H2 md (.dT [])) md = some (.dT []) := upd_same
  have ljs := A1.len
  have lks := A2.len
  have szj := szI_zip (ts := ts) (ks := ks) A1 (by omega)
  refine ⟨_, rfl, _, rfl, _, rfl, _, rfl, l1, l2, _, _, rfl, .inl (SqL.of (k3 _ _ (k2 _ _ hl1))), .inl (SqL.of (k3 _ _ hl2)), fun H3 lz zl kk hz0 hzs hnl ndz hlz hpr => ?_⟩
  have kk : Same (upd H2 md (.dT [])) H3 := kk
  have k5 : Same H2 H3 := k3.trans kk
  refine ⟨n1, n2, lz, bs, cs, zl, ts, ss, js.zip ks, rfl, ⟨k5 _ _ (k2 _ _ hn1), (N1.same k2).same k5⟩, ⟨k5 _ _ hn2, N2.same k5⟩, hlz, pairsI_zip hpr, fun p hp => ?_, by omega, fun H4 r zs fs k4 hr hrl pz vf en cl srt lf => ⟨r, rfl, ⟨_, SqL.of hrl⟩, ?_⟩⟩
  · obtain ⟨m1, m2⟩ := List.of_mem_zip (show (p.1, p.2) ∈ js.zip ks from hp)
    exact ⟨ats_sub A1 _ m1, ats_sub A2 _ m2⟩
  have hmd4 : H4 md = some (.dT []) := k4 _ _ (kk _ _ hmd3)
  have kb : Same H2 (mask md H4) := fun x o e => by
    rw [mask_ne (fun z => by rw [z, hmd] at e; cases e)]
    exact k4 _ _ (k5 _ _ e)
  have hrm : (mask md H4) r = some (.lst (zs.map V.ref)) := by
    rw [mask_ne (fun z => by rw [z, hmd4] at hrl; cases hrl)]
    exact hrl
  have pzm : PairsI (mask md H4) zs fs := pz.keep fun t xs e => by
    rw [mask_ne (fun z => by rw [z, hmd4] at e; cases e)]
    exact e
  have hmm : (mask md H4) md = none := if_pos rfl
  have ndf : fs.Nodup := List.Pairwise.imp (fun {a b} h z => by rw [z] at h; omega) srt
  have nd1 := N1.nd
  have nd2 := N2.nd
  let val : Nat × Nat → D := fun p => resF (gam ts ss fs) 51 [ts.getD p.1 .non, ss.getD p.2 .non]
  have lz2 := Paired.length pzm
  refine for_list (xs := zs.map V.ref) (fun n σ H' => ∃ o7 o8 o9 kvs, σ = [some (.ref a), some (.ref b), some (.ref n1), some (.ref l1), some (.ref n2), some (.ref l2), some (.ref md), o7, o8, o9, none] ∧ Same (mask md H4) H' ∧ H' md = some (.dT kvs) ∧ kvs.length = n ∧
      (∀ p ∈ fs.take n, ∃ v, valV kvs (pk p) = some v ∧ Dv H' v (val p)) ∧ ∀ p, p ∉ fs.take n → valV kvs (pk p) = none)
    ⟨none, none, none, [], rfl, unmask, hmd4, rfl, fun _ h => (by cases h), fun _ _ => rfl⟩ (fun n σ H' _ ⟨_, _, _, _, _, k, _⟩ => SqL.of (k _ _ hrm)) ?_ ?_
  · rintro n x σ H' hx ⟨o7, o8, o9, kvs, rfl, k, hk1, lk, hin, hout⟩
    rw [List.getElem?_map] at hx
    obtain ⟨t, hzt, rfl⟩ := Option.map_eq_some_iff.mp hx
    have ln : n < fs.length := by
      have := (List.getElem?_eq_some_iff.mp hzt).1
      omega
    obtain ⟨⟨i, j⟩, hij⟩ : ∃ p, fs[n]? = some p := ⟨_, List.getElem?_eq_getElem ln⟩
    obtain ⟨t', hzt', ht⟩ := paired_get pzm n _ hij
    rw [hzt] at hzt'
    have := Option.some.inj hzt'
    subst this
    have ht : (mask md H4) t = some (.tup [vI i, vI j]) := ht
    have mij : (i, j) ∈ fs := List.mem_of_getElem? hij
    obtain ⟨li, lj⟩ := vf _ mij
    have li : i < ts.length := li
    have lj : j < ss.length := lj
    have nin : (i, j) ∉ fs.take n := fun z => by
      obtain ⟨m, hm⟩ := List.mem_iff_getElem?.mp z
      have lm : m < n := by
        have := (List.getElem?_eq_some_iff.mp hm).1
        rw [List.length_take] at this
        omega
      rw [List.getElem?_take_of_lt lm] at hm
      have := (List.getElem?_inj (List.getElem?_eq_some_iff.mp hm).1 ndf).mp (hm.trans hij.symm)
      omega
    have knone := hout _ nin
    have lkn : kvs.length < sizeLine := szl (by omega)
    -- the end of a turn
    have fin : ∀ (H8 : Hp) (v : V) (tq : Addr), Same (mask md H4) H8 → H8 md = some (.dT kvs) → (∀ t xs, H' t = some (.tup xs) → H8 t = some (.tup xs)) → Dv H8 v (val (i, j)) → H8 tq = none →
        ∃ kvs', (upd (upd H8 tq (.tup [vI i, vI j])) md (.dT (putK kvs (pk (i, j)) v))) = (upd (upd H8 tq (.tup [vI i, vI j])) md (.dT kvs')) ∧ Same (mask md H4) (upd (upd H8 tq (.tup [vI i, vI j])) md (.dT (putK kvs (pk (i, j)) v))) ∧ kvs' = putK kvs (pk (i, j)) v ∧ kvs'.length = n + 1 ∧
          (∀ p ∈ fs.take (n + 1), ∃ u, valV kvs' (pk p) = some u ∧ Dv (upd (upd H8 tq (.tup [vI i, vI j])) md (.dT (putK kvs (pk (i, j)) v))) u (val p)) ∧ ∀ p, p ∉ fs.take (n + 1) → valV kvs' (pk p) = none := by
      intro H8 v tq k8 hk8 up dv htq
      have kq : Same H8 (upd H8 tq (.tup [vI i, vI j])) := Same.new htq
      have kT : ∀ t xs, H8 t = some (.tup xs) → (upd (upd H8 tq (.tup [vI i, vI j])) md (.dT (putK kvs (pk (i, j)) v))) t = some (.tup xs) := fun t xs e => by
        rw [upd_ne (fun z => by rw [z, hk8] at e; cases e)]
        exact kq _ _ e
      refine ⟨_, rfl, Same.upd (k8.trans kq) hmm, rfl, ?_, fun p hp => ?_, fun p hp => ?_⟩
      · rw [putK_new _ knone, List.length_append, lk]
        rfl
      · rw [valV_put]
        by_cases e : p = (i, j)
        · rw [e, if_pos rfl]
          exact ⟨v, rfl, Dv.keepT kT _ _ (tm_resF _ _ _) dv⟩
        · rw [if_neg (fun z => e (pk_inj z))]
          rw [take_succ' hij] at hp
          rcases List.mem_append.mp hp with hp | hp
          · obtain ⟨u, h1, h2⟩ := hin p hp
            exact ⟨u, h1, Dv.keepT (fun t xs e => kT _ _ (up _ _ e)) _ _ (tm_resF _ _ _) h2⟩
          · exact absurd (List.mem_singleton.mp hp) e
      · rw [take_succ' hij] at hp
        rw [valV_put, if_neg (fun z => hp (List.mem_append_right _ (by rw [pk_inj z]; exact List.mem_cons_self)))]
        exact hout p fun z => hp (List.mem_append_left _ z)
    have M1 : NodesL H' n1 bs ts := ⟨k _ _ (kb _ _ (k2 _ _ hn1)), ((N1.same k2).same kb).same k⟩
    have M2 : NodesL H' n2 cs ss := ⟨k _ _ (kb _ _ hn2), (N2.same kb).same k⟩
    obtain ⟨b1, q1, d, hb1, hq1, hd, ky1⟩ := M1.get li
    obtain ⟨b2, q2, e, hb2, hq2, he, ky2⟩ := M2.get lj
    have ev : val (i, j) = resF (gam ts ss fs) 51 [d, e] := by
      show resF _ 51 [ts.getD i .non, ss.getD j .non] = _
      rw [List.getD_eq_getElem?_getD, List.getD_eq_getElem?_getD, hd, he]
      rfl
    refine ⟨t, _, rfl, SqT.of (k _ _ ht), rfl, _, _, rfl, _, _, rfl, rfl, ?_⟩
    refine ⟨_, rfl, _, rfl, n1, _, _, _, rfl, rfl, SqL.of M1.at_, atI_nat hb1, _, rfl, _, rfl, n2, _, _, _, rfl, rfl, SqL.of M2.at_, atI_nat hb2, b1, b2, q1, q2, _, _, d, e, rfl, hq1, hq2, ky1, ky2, fun bb hbb => ⟨bb, rfl, ite_b (fun ct => ?_) (fun cf => ?_)⟩⟩
    · obtain ⟨⟨x, m⟩, e1, e2⟩ := hbb.mp ct
      obtain ⟨js', es', rfl, rfl, l1', at1⟩ := key_hd ky1 e1
      obtain ⟨ks', fs', rfl, rfl, l2', at2⟩ := key_hd ky2 e2
      have ox := key_ok ky1
      have hq1 : H' b1 = some (.tup (V.str x :: js'.map vI)) := by
        have h0 := hq1
        rw [List.map_cons, kV_kI] at h0
        exact h0
      have hq2 : H' b2 = some (.tup (V.str x :: ks'.map vI)) := by
        have h0 := hq2
        rw [List.map_cons, kV_kI] at h0
        exact h0
      have lj1 := at1.len
      have lj2 := at2.len
      have am1 := at1.mono (us := ts) fun _ _ => take_get
      have am2 := at2.mono (us := ss) fun _ _ => take_get
      have kid : Kids ts ss (i, j) (js'.zip ks') := ⟨x, es', fs', js', ks', hd, he, by omega, am1, am2, rfl, fun a ha => by
        have := ats_sub at1 a ha
        rw [List.length_take] at this
        show a < i
        omega, fun a ha => by
        have := ats_sub at2 a ha
        rw [List.length_take] at this
        show a < j
        omega⟩
      have below : ∀ c ∈ js'.zip ks', c ∈ fs.take n := fun c hc => by
        have hcf : c ∈ fs := (cl _ mij _ kid c hc).elim id fun z => by cases z
        obtain ⟨m', hm'⟩ := List.mem_iff_getElem?.mp hcf
        have lc1 : c.1 < i := by
          have m1 := (List.of_mem_zip (show (c.1, c.2) ∈ js'.zip ks' from hc)).1
          have := ats_sub at1 _ m1
          rw [List.length_take] at this
          omega
        have lm : m' < n := by
          rcases Nat.lt_or_ge m' n with z | z
          · exact z
          · exfalso
            obtain ⟨g1, g2⟩ := List.getElem?_eq_some_iff.mp hm'
            obtain ⟨g3, g4⟩ := List.getElem?_eq_some_iff.mp hij
            rcases Nat.lt_or_ge n m' with y | y
            · have := List.pairwise_iff_getElem.mp srt n m' g3 g1 y
              rw [g2, g4] at this
              simp only at this
              omega
            · have : m' = n := by omega
              subst this
              rw [g2] at g4
              rw [g4] at lc1
              simp only at lc1
              omega
        refine List.mem_of_getElem? (i := m') ?_
        rw [List.getElem?_take_of_lt lm]
        exact hm'
      have md1 : (D.tup (.str x :: es')) ∈ flats ds := sub1 _ (List.mem_of_getElem? hd)
      have md2 : (D.tup (.str x :: fs')) ∈ flats es := sub2 _ (List.mem_of_getElem? he)
      have dd1 := (size_flats _ (Nat.le_refl _) md1).2
      have dd2 := (size_flats _ (Nat.le_refl _) md2).2
      have ss1 := (size_flats _ (Nat.le_refl _) md1).1
      simp only [D.deep, deeps, D.size, sizes] at dd1 dd2 ss1
      have les := len_sizes es'
      have tt1 : ∀ d ∈ es', Tm d := by
        have := flats_tm t1 _ md1
        cases this with
        | tup _ _ h => exact h
      have tt2 : ∀ d ∈ fs', Tm d := by
        have := flats_tm t2 _ md2
        cases this with
        | tup _ _ h => exact h
      obtain ⟨u1, u2⟩ := cutV_one (V.str x :: js'.map vI) (by simp)
      obtain ⟨u3, u4⟩ := cutV_one (V.str x :: ks'.map vI) (by simp)
      refine ⟨_, rfl, _, rfl, n1, _, _, _, rfl, rfl, SqL.of M1.at_, atI_nat hb1, _, rfl, b1, _, rfl, SqT.of hq1, fun z => absurd z u2, fun _ p hp => ?_⟩
      rw [show _ = js'.map vI from u1]
      have k6 : Same H' (upd H' p (.tup (js'.map vI))) := Same.new hp
      refine ⟨_, rfl, _, rfl, n2, _, _, _, rfl, rfl, SqL.of (k6 _ _ M2.at_), atI_nat hb2, _, rfl, b2, _, rfl, SqT.of (k6 _ _ hq2), fun z => absurd z u4, fun _ p2 hp2 => ?_⟩
      rw [show _ = ks'.map vI from u3]
      have k7 : Same H' (upd (upd H' p (.tup (js'.map vI))) p2 (.tup (ks'.map vI))) := k6.trans (Same.new hp2)
      have sp1 : (upd (upd H' p (.tup (js'.map vI))) p2 (.tup (ks'.map vI))) p = some (.tup (js'.map vI)) := Same.new hp2 _ _ upd_same
      have sp2 : (upd (upd H' p (.tup (js'.map vI))) p2 (.tup (ks'.map vI))) p2 = some (.tup (ks'.map vI)) := upd_same
      revert k7 sp1 sp2
      generalize upd (upd H' p (.tup (js'.map vI))) p2 (.tup (ks'.map vI)) = H5
      intro k7 sp1 sp2
      refine ⟨p, p2, _, _, false, false, rfl, SqT.of sp1, SqT.of sp2, fun Dl hD => ?_⟩
      refine lc_pairs (K := K) (ka := false) (kb := false) val (SqT.of sp1) (SqT.of sp2) hD (by omega) (fun _ => rfl) (fun _ _ _ r => r) (fun c T' H6 R k8 hc hT r => ?_) (fun H6 acc k8 hDl hacc => ?_)
      · obtain ⟨v, hv1, hv2⟩ := hin c (below c hc)
        exact ⟨_, rfl, _, rfl, md, v, rfl, by rw [← hv1]; exact DGet.t (k := pk c) (k8 _ _ (k7 _ _ hk1)) hT, r v (hv2.same k7 _ _)⟩
      · have k9 := k7.trans k8
        have lacc := hacc.len
        rw [List.length_map, List.length_zip] at lacc
        refine ⟨_, rfl, _, rfl, n1, _, _, _, rfl, rfl, SqL.of (k9 _ _ M1.at_), atI_nat hb1, b1, _, 0, _, rfl, rfl, SqT.of (k9 _ _ hq1), atI_nat (j := 0) rfl, (by show 1 ≤ sizeLine; decide), fun t1' ht1' => ?_⟩
        have k10 := Same.new (o := .tup [V.str x]) ht1'
        refine ⟨_, rfl, Dl, acc, rfl, .inl ⟨SqL.of (k10 _ _ hDl), fun t2' ht2' => ?_⟩⟩
        have k11 := k10.trans (Same.new (o := .tup acc) ht2')
        refine cat_one (Same.new ht2' _ _ upd_same) upd_same (by omega) fun tt H8 k12 htt _ => ?_
        have k13 := k9.trans (k11.trans k12)
        have dv8 : Dv H8 (.ref tt) (val (i, j)) := by
          rw [ev, resF_two (by omega) tt1 tt2 (by omega) (by omega)]
          refine .tup htt (.cons (.str _ ox) ?_)
          rw [← zip_val am1 am2]
          exact hacc.same (k8.trans (k11.trans k12)) _ _
        refine ⟨_, rfl, _, rfl, _, rfl, by (show 2 ≤ sizeLine; decide), fun tq htq => ⟨md, _, rfl, DPut.t (k := pk (i, j)) (Same.new htq _ _ (k13 _ _ hk1)) upd_same lkn, ?_⟩⟩
        obtain ⟨kvs', _, f2, rfl, f4, f5, f6⟩ := fin H8 _ tq (k.trans k13) (k13 _ _ hk1) (fun t xs e => k13 _ _ e) dv8 htq
        exact ⟨_, _, _, _, rfl, f2, upd_same, f4, f5, f6⟩
    · have ap : ¬ ∃ hh, hdOf d = some hh ∧ hdOf e = some hh := fun z => by
        rw [cf] at hbb
        exact absurd (hbb.mpr z) (by decide)
      refine ⟨_, rfl, md, kvs, rfl, hk1, ?_⟩
      have dv8 : Dv H' (.int (kvs.length : Nat)) (val (i, j)) := by
        rw [ev, resF_apart ap, gam_at nd1 nd2 ndf hd he hij, lk]
        exact .int _
      refine ⟨_, rfl, _, rfl, _, rfl, by (show 2 ≤ sizeLine; decide), fun tq htq => ⟨md, _, rfl, DPut.t (k := pk (i, j)) (Same.new htq _ _ hk1) upd_same lkn, ?_⟩⟩
      obtain ⟨kvs', _, f2, rfl, f4, f5, f6⟩ := fin H' _ tq k hk1 (fun t xs e => e) dv8 htq
      exact ⟨_, _, _, _, rfl, f2, upd_same, f4, f5, f6⟩
  · rintro σ H' ⟨o7, o8, o9, kvs, rfl, k, hk1, lk, hin, hout⟩
    rw [List.length_map, lz2, List.take_length] at hin hout
    have kA : Same H H' := ((k1.trans k2).trans kb).trans k
    have L1 : H' l1 = some (.lst (js.map vI)) := k _ _ (kb _ _ (k2 _ _ hl1))
    have L2' : H' l2 = some (.lst (ks.map vI)) := k _ _ (kb _ _ hl2)
    have les := len_sizes ds
    refine ⟨_, rfl, _, rfl, l1, l2, _, _, true, true, rfl, SqL.of L1, SqL.of L2', fun Dl hD => ?_⟩
    refine lc_pairs (K := K) (ka := true) (kb := true) val (SqL.of L1) (SqL.of L2') hD (by omega) (fun _ => rfl) (fun _ _ _ r => r) (fun c T' H6 R k8 hc hT r => ?_) (fun H6 acc k8 hDl hacc => ?_)
    · obtain ⟨v, hv1, hv2⟩ := hin c (en c hc)
      exact ⟨_, rfl, _, rfl, md, v, rfl, by rw [← hv1]; exact DGet.t (k := pk c) (k8 _ _ hk1) hT, r v hv2⟩
    · have M1 : NodesL H' n1 bs ts := ⟨k _ _ (kb _ _ (k2 _ _ hn1)), ((N1.same k2).same kb).same k⟩
      have M2 : NodesL H' n2 cs ss := ⟨k _ _ (kb _ _ hn2), (N2.same kb).same k⟩
      have e1 : (js.zip ks).map val = (colsOf ds.length [ds, es]).map (resF (gam ts ss fs) 51) := by
        rw [cols_two' ds es hl]
        exact zip_val A1 A2
      rw [e1] at hacc
      refine q H6 Dl acc (gam ts ss fs) (kA.trans k8) (Same.none kA hD) hDl (hacc.same k8 _ _) (gam_pos ts ss fs) (num_res (S := Known ts ss fs) (gam_inj nd1 nd2 ndf) fun l hl' => ?_)
      obtain ⟨c, hc, hl'⟩ := List.mem_flatMap.mp hl'
      rw [cols_two ds es hl] at hc
      obtain ⟨m, hm⟩ := List.mem_iff_getElem?.mp hc
      rw [List.getElem?_zipWith_eq_some] at hm
      obtain ⟨d, e, hd, he, rfl⟩ := hm
      have ld := (List.getElem?_eq_some_iff.mp hd).1
      have g1 : js[m]? = some (js[m]'(by omega)) := List.getElem?_eq_getElem _
      have g2 : ks[m]? = some (ks[m]'(by omega)) := List.getElem?_eq_getElem _
      obtain ⟨d2, y1, y2⟩ := A1.get g1
      obtain ⟨e2, y3, y4⟩ := A2.get g2
      rw [hd] at y1
      rw [he] at y3
      have := Option.some.inj y1
      subst this
      have := Option.some.inj y3
      subst this
      exact leaves_known (fun i hi => by
        obtain ⟨_, kk', d', _, _, h3, h4⟩ := M1.get hi
        exact ⟨kk', d', h3, h4⟩) (fun i hi => by
        obtain ⟨_, kk', d', _, _, h3, h4⟩ := M2.get hi
        exact ⟨kk', d', h3, h4⟩) cl 51 _ _ _ _ (en _ (List.mem_of_getElem? (i := m) (by rw [List.getElem?_zip_eq_some]; exact ⟨g1, g2⟩))) y2 y4 l hl'
end
end K15
set_option maxRecDepth 100000
set_option maxHeartbeats 4000000
namespace K15
open PySem L2 Fm
theorem res_facts {γ : List D → Int} (h0 : ∀ c, 0 ≤ γ c) {k : Nat} {r0 : List D} {rows : List (List D)} (h : areTerms r0 = true) : areTerms ((colsOf r0.length (r0 :: rows)).map (resF γ k)) = true ∧ sizes ((colsOf r0.length (r0 :: rows)).map (resF γ k)) ≤ sizes r0 ∧ deeps ((colsOf r0.length (r0 :: rows)).map (resF γ k)) ≤ deeps r0 := by
  rw [areTerms_all, List.all_eq_true] at h ⊢
  have row : ∀ i, (hi : i < r0.length) → r0.getD i .non = r0[i] := fun i hi => by rw [List.getD_eq_getElem?_getD, List.getElem?_eq_getElem hi]; rfl
  have go : ∀ (es : List D) (f : Nat → D), (∀ (i : Nat) (x : D), es[i]? = some x → (f i).size ≤ x.size ∧ (f i).deep ≤ x.deep) → sizes ((List.range es.length).map f) ≤ sizes es ∧ deeps ((List.range es.length).map f) ≤ deeps es := by
    intro es
    induction es with
    | nil => exact fun _ _ => ⟨Nat.le_refl _, Nat.le_refl _⟩
    | cons x es ih =>
      intro f hf
      obtain ⟨a, b⟩ := hf 0 x rfl
      obtain ⟨c, d⟩ := ih (fun i => f (i + 1)) fun i y hy => hf (i + 1) y (by rw [List.getElem?_cons_succ]; exact hy)
      rw [List.length_cons, List.range_succ_eq_map, List.map_cons, List.map_map]
      simp only [sizes, deeps]
      have e1 : (f ∘ Nat.succ) = fun i => f (i + 1) := rfl
      rw [e1]
      omega
  refine ⟨fun d hd => ?_, ?_⟩
  · obtain ⟨c, hc, rfl⟩ := List.mem_map.mp hd
    obtain ⟨i, hi, rfl⟩ := List.mem_map.mp hc
    have hi := List.mem_range.mp hi
    show isTerm (resF _ k (r0.getD i .non :: rows.map fun r => r.getD i .non)) = true
    rw [row i hi]
    exact isTerm_res h0 k _ _ (h _ (List.getElem_mem hi))
  · unfold colsOf
    rw [List.map_map]
    refine go r0 _ fun i x hx => ?_
    have e : r0.getD i .non = x := by rw [List.getD_eq_getElem?_getD, hx]; rfl
    show (resF γ k (r0.getD i .non :: rows.map fun r => r.getD i .non)).size ≤ x.size ∧ (resF γ k (r0.getD i .non :: rows.map fun r => r.getD i .non)).deep ≤ x.deep
    rw [e]
    exact size_res _ k x _
section
variable {P : Program} {w : World} {K : PySem.W.Frag} {mg : Str → Option Value} {base : Heap} (T : Txt K mg)
/-- self | other -/
def spOrP : Sp := fun vs H Q E => ∃ (x y : Addr) (ds es : List D), vs = [.ref x, .ref y] ∧ PatAt T.C_Pattern H x ds ∧ PatAt T.C_Pattern H y es ∧ areTerms ds = true ∧ areTerms es = true ∧ sizes ds ≤ 80000 ∧ sizes es ≤ 80000 ∧ deeps ds ≤ 50 ∧ deeps es ≤ 50 ∧
  (ds.length ≠ es.length → E (.ref T.C_Unlike) none H) ∧
  (ds.length = es.length → ∀ (H' : Hp) (z : Addr), Same H H' → H z = none → PatAt T.C_Pattern H' z (genC 51 (colsOf ds.length [ds, es])) → Q (.ref z) H')
theorem ok_Pattern_or : FnOk P w K mg base (L2.CX P w) 8 T.a_Pattern_or T.d_Pattern_or ["self", "other"] (spOrP T) := by
  have G_least_terms := ok_least_terms (P := P) (w := w) (base := base) T
  have G_Pattern_init := ok_Pattern_init (P := P) (w := w) (base := base) T
  refine T.F_Pattern_or.okX sc_Pattern_or ?_ (fun cdv A outer s H vs Q E hr h => ?_)
  · rintro vs H Q E ⟨x, y, ds, es, rfl, _⟩
    rfl
  obtain ⟨x, y, ds, es, rfl, ⟨dx, p, us, hx, hp, hus⟩, ⟨dy, p2, us2, hy, hp2, hus2⟩, t1, t2, z1, z2, p1, p22, he, q⟩ := h
  refine ⟨_, 
    (pss_cons (ps_if (pt_cmpR op_ne (pe_callB call_len_seq (by rfl) T.m_len (by decide +kernel) (pa_cons (pe_fld (pv 0) rfl) pa_nil)) (pe_callB call_len_seq (by rfl) T.m_len (by decide +kernel) (pa_cons (pe_fld (pv 1) rfl) pa_nil)) (nomark _)) (pss_one (ps_raise0 rfl T.e_Unlike hr (takes_of rfl rfl rfl rfl) (by rfl) (by decide))) pss_nil)
    (pss_one (ps_ret (pe_make T.mk_Pattern G_Pattern_init (hr.mono (by omega)) (by rfl) T.g_Pattern T.b_Pattern_init .nil passL (pa_cons (pe_call G_least_terms (hr.mono (by omega)) (by rfl) T.f_least_terms T.F_least_terms.kp T.b_least_terms .nil pass0 (pa_cons (pe_fld (pv 0) rfl) (pa_cons (pe_fld (pv 1) rfl) pa_nil))) pa_nil))))), ?_⟩
  have lus := hus.len
  have lus2 := hus2.len
  have m1 := tms_of_are ds t1
  have m2 := tms_of_are es t2
  refine ⟨_, rfl, x, _, dx, _, _, rfl, hx, T.cl_Pattern, T.na_Pattern__terms, rfl, p, us, rfl, .inr (SqT.of hp), _, rfl, y, _, dy, _, _, rfl, hy, T.cl_Pattern, T.na_Pattern__terms, rfl, p2, us2, rfl, .inr (SqT.of hp2), rfl, _, rfl, ite_b (fun c => ?_) (fun c => ?_)⟩
  · refine he fun z => ?_
    rw [lus, lus2, z] at c
    simp at c
  · have el : ds.length = es.length := by
      have := of_decide_eq_true (by simpa using c : decide (V.int (us.length : Nat) = V.int (us2.length : Nat)) = true)
      injection this with this
      omega
    refine ⟨_, rfl, x, _, dx, _, _, rfl, hx, T.cl_Pattern, T.na_Pattern__terms, rfl, _, rfl, y, _, dy, _, _, rfl, hy, T.cl_Pattern, T.na_Pattern__terms, rfl, p, p2, us, us2, ds, es, rfl, .inr (SqT.of hp), .inr (SqT.of hp2), hus, hus2, m1, m2, z1, z2, p1, p22, el.symm, fun H1 l zs γ k1 hl0 hl hzs hγ hnum => ?_⟩
    obtain ⟨f1, f2, f3⟩ := res_facts (γ := γ) hγ (k := 51) (rows := [es]) t1
    refine fun z dz hz hdz hne => ?_
    have k2 : Same H1 (upd (upd H1 dz (.own z)) z (.ins T.C_Pattern dz [])) := (Same.new hdz).trans (Same.new ((upd_ne hne.symm).trans hz))
    refine ⟨z, dz, _, rfl, upd_same, .inl ⟨l, zs, _, rfl, fun e => ?_, .inl (k2 _ _ hl), hzs.same k2 _ _, by omega, by omega, fun _ H' kp pat => ?_, fun e => absurd (e.symm.trans f1) (by decide)⟩⟩
    · rw [e, hz] at hl
      cases hl
    · rw [hnum] at pat
      refine ⟨rfl, q el H' z (fun b o hb => kp _ _ (k2 _ _ (k1 _ _ hb)) fun e => ?_) (Same.none k1 hz) pat⟩
      rw [e] at hb
      rw [Same.none k1 hz] at hb
      cases hb
end
end K15
set_option maxRecDepth 100000
set_option maxHeartbeats 4000000
namespace K15
open PySem L2 Fm
section
variable {P : Program} {w : World} {K : PySem.W.Frag} {mg : Str → Option Value} {base : Heap} (T : Txt K mg)
/-- a list's items in a drawn order, in a new list -/
def spMixV (K : PySem.W.Frag) : Sp := fun vs H Q _ => ∃ (b p la : Addr) (xs : List V), vs = [.ref b, .ref la] ∧ Bag b p H ∧ la ≠ b ∧ H la = some (.lst xs) ∧ xs.length ≤ 100 ∧
  ∀ (l : Addr) (H' : Hp) (zs : List V), Go b p H H' → newof H H' l = some (.lst zs) → zs.Perm xs → Q (.ref l) H'
theorem ok_law_mixed : FnOk P w K mg base CX0 2 T.a__law_mixed T.d__law_mixed ["_law_bag_here", "_law_things"] (spMixV K) := by
  have G__law_take := ok_law_take (P := P) (w := w) (base := base) T
  refine T.F__law_mixed.ok sc__law_mixed ?_ (fun cdv A outer s H vs Q E hr h => ?_)
  · rintro vs H Q E ⟨b, p, la, xs, rfl, _⟩
    rfl
  obtain ⟨b, p, la, xs, rfl, B, na, hla, hj, q⟩ := h
  refine ⟨_, 
    (pss_cons (ps_set (i := 2) sc__law_mixed.nd rfl (Or.inl rfl) (pe_lst pa_nil))
    (pss_cons (ps_for PassesOwn.never rfl (pi_list (pv 1)) (pg_name (i := 3) sc__law_mixed.nd rfl (Or.inl rfl)) (pss_one (ps_expr (pe_bm PySem.F.plainAttrs_list PySem.F.slot_list_insert PySem.F.type_list_insert mt_insert (pv 2) (pa_cons (pe_call G__law_take (hr.mono (by omega)) (by rfl) T.f__law_take T.F__law_take.kp T.b__law_take .nil pass0 (pa_cons (pv 0) (pa_cons (pe_op op_add (pe_callB call_len_seq (by rfl) T.m_len (by decide +kernel) (pa_cons (pv 2) pa_nil)) pe_int) pa_nil))) (pa_cons (pv 3) pa_nil))))))
    (pss_one (ps_ret (pv 2))))), ?_⟩
  refine ⟨by decide, fun l hl => ?_⟩
  have g0 : Go b p H (upd H l (.lst [])) := (Go.refl B).new hl
  have nl : l ≠ b := B.b_ne hl
  refine ⟨_, rfl, la, rfl, ⟨_, SqL.of (g0.at na hla)⟩, ?_⟩
  refine for_list (xs := xs) (fun i σ H' => ∃ o3 zs, σ = [some (.ref b), some (.ref la), some (.ref l), o3] ∧ Go b p H H' ∧ H' l = some (.lst zs) ∧ zs.Perm (xs.take i))
    ⟨none, [], rfl, g0, upd_same, .nil⟩ (fun i σ H' _ ⟨_, _, _, g, _⟩ => SqL.of (g.at na hla)) ?_ ?_
  · rintro i x σ H1 hx ⟨o3, zs, rfl, g, hl1, hp⟩
    have li : i < xs.length := (List.getElem?_eq_some_iff.mp hx).1
    have hn : zs.length = i := by
      rw [hp.length_eq, List.length_take]
      omega
    refine ⟨_, rfl, .inl ⟨rfl, _, SqL.of hl1⟩, _, rfl, _, rfl, l, _, rfl, .inl (SqL.of hl1), _, _, rfl, rfl, b, p, _, rfl, g.B, by omega, by omega, fun at_ H2 a0 a1 g2 => ?_⟩
    have hl2 := g2.at nl hl1
    refine ⟨_, rfl, l, zs, at_, x, rfl, rfl, hl2, szl (by omega), a0, by omega, ?_⟩
    refine ⟨_, _, rfl, (g.trans g2).mut B hl, upd_same, ?_⟩
    have e : xs.take (i + 1) = xs.take i ++ [x] := by
      rw [List.take_add_one, hx]
      rfl
    rw [e]
    have p1 : (zs.take at_.toNat ++ [x] ++ zs.drop at_.toNat).Perm (zs ++ [x]) := by
      rw [List.append_assoc]
      refine (List.perm_middle).trans ?_
      show (x :: (zs.take at_.toNat ++ zs.drop at_.toNat)).Perm (zs ++ [x])
      rw [List.take_append_drop]
      exact (List.perm_append_singleton x zs).symm
    refine List.Perm.trans ?_ (List.Perm.append_right _ hp)
    first | exact p1 | (rw [← List.append_assoc] at *; exact p1) | trace_state
  · rintro σ H1 ⟨o3, zs, rfl, g, hl1, hp⟩
    rw [List.take_length] at hp
    exact ⟨_, rfl, q l H1 zs g (newof_of hl hl1) hp⟩
end
end K15
/-! what is shown of data is text again -/
namespace Fm
open PySem PySem.Builtin PySem.Builtin.Str
/-- all signs stand -/
def Sg (l : List Nat) : Prop := ∀ c ∈ l, c < 0x110000
theorem sg_iff {x : PySem.Str} : PyData.strOk x = true ↔ Sg x.cps.toList := by
  unfold PyData.strOk Sg
  rw [Array.all_eq_true_iff_forall_mem]
  constructor
  · intro h c hc
    have := h c (Array.mem_toList_iff.mp hc)
    simpa using this
  · intro h c hc
    simpa using h c (Array.mem_toList_iff.mpr hc)
theorem sg_app {a b : List Nat} (ha : Sg a) (hb : Sg b) : Sg (a ++ b) := fun c hc => (List.mem_append.mp hc).elim (ha c) (hb c)
theorem sg_char (c : Char) : c.toNat < 0x110000 := by
  have := c.valid
  rcases this with h | h
  · exact Nat.lt_trans h (by decide)
  · exact h.2
theorem ok_of_string (s : String) : PyData.strOk (s : PySem.Str) = true := by
  rw [sg_iff]
  intro c hc
  have e : (s : PySem.Str).cps.toList = s.toList.map Char.toNat := by
    show (Str.ofString s).cps.toList = _
    rw [Str.ofString_eq_toList]
  rw [e] at hc
  obtain ⟨d, _, rfl⟩ := List.mem_map.mp hc
  exact sg_char d
theorem sg_hex (w c : Nat) : Sg (List.replicate (w - ((Nat.toDigits 16 c).map Char.toNat).length) 48 ++ (Nat.toDigits 16 c).map Char.toNat) := by
  intro d hd
  rcases List.mem_append.mp hd with h | h
  · rw [(List.mem_replicate.mp h).2]
    decide
  · obtain ⟨e, _, rfl⟩ := List.mem_map.mp h
    exact sg_char e
theorem sg_two {a b : Nat} (ha : a < 0x110000) (hb : b < 0x110000) : Sg [a, b] := fun c hc => by
  simp at hc
  rcases hc with rfl | rfl
  · exact ha
  · exact hb
theorem sg_reprChar {q c : Nat} (hc : c < 0x110000) : Sg (reprChar q c) := by
  have h8 := sg_hex 8 c
  have h4 := sg_hex 4 c
  have h2 := sg_hex 2 c
  unfold reprChar
  dsimp only
  repeat' split
  all_goals first
    | exact sg_two (by decide) hc
    | exact sg_two (by decide) (by decide)
    | exact sg_app (sg_two (by decide) (by decide)) (by assumption)
    | (intro d hd; rw [List.mem_singleton.mp hd]; exact hc)
theorem sg_foldl {q : Nat} : ∀ (l : List Nat) (acc : Array Nat), Sg l → Sg acc.toList → Sg (l.foldl (fun out c => out ++ (reprChar q c).toArray) acc).toList
  | [], _, _, h => h
  | c :: r, acc, hl, h => by
    rw [List.foldl_cons]
    refine sg_foldl r _ (fun d hd => hl d (List.mem_cons_of_mem _ hd)) ?_
    rw [Array.toList_append]
    exact sg_app h (by simpa using sg_reprChar (q := q) (hl c List.mem_cons_self))
theorem ok_reprText {x : PySem.Str} (h : PyData.strOk x = true) : PyData.strOk (reprText x) = true := by
  have hq : reprQuote x < 0x110000 := by
    unfold reprQuote
    split <;> decide
  rw [sg_iff] at h ⊢
  unfold reprText
  rw [Array.toList_push, ← Array.foldl_toList]
  refine sg_app (sg_foldl _ _ h fun c hc => ?_) fun c hc => ?_
  · have : c = reprQuote x := by simpa using hc
    rw [this]
    exact hq
  · rw [List.mem_singleton.mp hc]
    exact hq
theorem ok_append {x y : PySem.Str} (hx : PyData.strOk x = true) (hy : PyData.strOk y = true) : PyData.strOk (x ++ y) = true := by
  rw [sg_iff] at *
  show Sg (x.cps ++ y.cps).toList
  rw [Array.toList_append]
  exact sg_app hx hy
theorem ok_textFrom : ∀ (ts : List PySem.Str) (k : Nat) (acc : PySem.Str), (∀ t ∈ ts, PyData.strOk t = true) → PyData.strOk acc = true → PyData.strOk (textFrom k acc ts) = true
  | [], _, _, _, h => h
  | t :: r, k, acc, ht, h => by
    show PyData.strOk (textFrom (k + 1) _ r) = true
    exact ok_textFrom r (k + 1) _ (fun x hx => ht x (List.mem_cons_of_mem _ hx)) (ok_append (ok_append h (ok_of_string _)) (ht t List.mem_cons_self))
theorem ok_glue : ∀ ts : List PySem.Str, (∀ t ∈ ts, PyData.strOk t = true) → PyData.strOk (Str.join ", " ts) = true
  | [], _ => by decide +kernel
  | [x], h => h x List.mem_cons_self
  | x :: y :: r, h => ok_append (ok_append (h x List.mem_cons_self) (ok_of_string _)) (ok_glue (y :: r) fun z hz => h z (List.mem_cons_of_mem _ hz))
mutual
/-- what is shown is text -/
theorem ok_shown : ∀ d : PyData, d.canLay0 = true → PyData.strOk d.shown = true
  | .none, _ => ok_of_string _
  | .bool b, _ => by
    simp only [PyData.shown]
    cases b
    · exact ok_of_string _
    · exact ok_of_string _
  | .int i, _ => ok_of_string _
  | .str x, h => by
    simp only [PyData.shown]
    exact ok_reprText (by simpa [PyData.canLay0] using h)
  | .list xs, h => by
    simp only [PyData.shown]
    exact ok_append (ok_textFrom _ _ _ (ok_shownAll xs (by simpa [PyData.canLay0] using h)) (ok_of_string _)) (ok_of_string _)
  | .tuple xs, h => by
    simp only [PyData.shown]
    refine ok_append (ok_append (ok_of_string _) (ok_glue _ (ok_shownAll xs (by simpa [PyData.canLay0] using h)))) ?_
    exact ok_of_string _
  | .dict _, h => by simp [PyData.canLay0] at h
theorem ok_shownAll : ∀ xs : List PyData, PyData.canLayAll0 xs = true → ∀ t ∈ PyData.shownAll xs, PyData.strOk t = true
  | [], _, t, h => by simp [PyData.shownAll] at h
  | x :: xs, h, t, ht => by
    have h' : x.canLay0 = true ∧ PyData.canLayAll0 xs = true := by simpa [PyData.canLayAll0] using h
    simp only [PyData.shownAll] at ht
    rcases List.mem_cons.mp ht with e | ht
    · rw [e]
      exact ok_shown x h'.1
    · exact ok_shownAll xs h'.2 t ht
end
end Fm
set_option maxRecDepth 100000
set_option maxHeartbeats 2000000
/-! t[::-1] -/
namespace Fm
open PySem PySem.Spec PyProof.Rows L2
section
variable {prog : Program} {w : World} {A : Around} {E : Value → Shared → Prop} {s : Shared}
theorem adjust_rev (n : Nat) : Builtin.Slice.sliceAdjust none none (-1) (n : Int) = ((n : Int) - 1, -1) := by
  unfold Builtin.Slice.sliceAdjust
  simp
theorem places_rev (n : Nat) : Builtin.Slice.slicePlaces ((n : Int) - 1) (-1) (-1) = n := by
  unfold Builtin.Slice.slicePlaces
  simp only [show ¬ ((-1 : Int) > 0) by decide, if_false, show (-(-1) : Int) = 1 by decide, Int.ediv_one]
  split <;> omega
theorem sliceApplied_rev {sl : Addr} {vs : Value} {n : Nat} {Q : Int × Int × Nat → Shared → Prop} (hs : s.heap.IsSliceOf sl .none .none vs) (ps : IsPart vs (some (-1)))
    (h : Q ((n : Int) - 1, -1, n) s) : wpAny (model prog w) A (Builtin.Slice.sliceApplied (.ref sl) (pure (n : Int))) Q E s := by
  obtain ⟨os, hos, hcs, hds⟩ := id hs
  unfold Builtin.Slice.sliceApplied Builtin.Slice.sliceFields
  refine wpAny_bind (wpAny_bind (wpAny_field hos hds (x := .none) rfl (wpAny_bind (wpAny_field hos hds (x := .none) rfl (wpAny_bind (wpAny_field hos hds (x := vs) rfl (wpAny_pure ?_)))))))
  refine wpAny_bind (HT.slicePart_ ps ?_)
  show wpAny _ _ (if ((-1 : Int) == 0) = true then _ else _) _ _ s
  rw [if_neg (by decide)]
  refine wpAny_bind (HT.slicePart_ .none (wpAny_bind (HT.slicePart_ .none (wpAny_bind (wpAny_pure ?_)))))
  show wpAny _ _ (match Builtin.Slice.sliceAdjust none none (-1) (n : Int) with | (lo, hi) => pure (lo, (-1 : Int), Builtin.Slice.slicePlaces lo hi (-1))) _ _ s
  rw [adjust_rev n]
  show wpAny _ _ (pure ((n : Int) - 1, (-1 : Int), Builtin.Slice.slicePlaces ((n : Int) - 1) (-1) (-1))) _ _ s
  rw [places_rev n]
  exact wpAny_pure h
theorem pick_rev (xs : Array Value) : ((List.range xs.size).filterMap fun (m : Nat) => xs[(((xs.size : Int) - 1) + (m : Int) * (-1)).toNat]?).toArray = xs.toList.reverse.toArray := by
  congr 1
  apply List.ext_getElem?
  intro i
  have e : (List.range xs.size).filterMap (fun (m : Nat) => xs[(((xs.size : Int) - 1) + (m : Int) * (-1)).toNat]?) = (List.range xs.size).map fun m => xs[xs.size - 1 - m]! := by
    refine fm_map fun m hm => ?_
    have lm := List.mem_range.mp hm
    have e1 : (((xs.size : Int) - 1) + (m : Int) * (-1)).toNat = xs.size - 1 - m := by omega
    have lt : xs.size - 1 - m < xs.size := by omega
    rw [e1, getElem!_pos xs (xs.size - 1 - m) lt]
    exact Array.getElem?_eq_getElem lt
  rw [e, List.getElem?_map]
  have l : xs.toList.length = xs.size := Array.length_toList
  by_cases hi : i < xs.size
  · have lt : xs.size - 1 - i < xs.size := by omega
    rw [List.getElem?_range hi, List.getElem?_reverse (by omega), Option.map_some, getElem!_pos xs (xs.size - 1 - i) lt, l]
    rw [List.getElem?_eq_getElem (by omega)]
    rfl
  · rw [List.getElem?_eq_none (by rw [List.length_range]; omega), List.getElem?_eq_none (by rw [List.length_reverse]; omega)]
    rfl
theorem getItem_tuple_rev {t sl : Addr} {items : Array Value} {vs : Value} {Q : Value → Shared → Prop} (ht : IsTup s.heap t items) (hs : s.heap.IsSliceOf sl .none .none vs) (ps : IsPart vs (some (-1)))
    (h : Q (.ref s.heap.objs.size) { s with heap := s.heap.push { cls := .type "tuple", data := .seq items.toList.reverse.toArray } })
    (hsz : items.size ≤ sizeLine) : wpAny (model prog w) A (getItem (.ref t) (.ref sl)) Q E s := by
  have htake : sizeOk (.seq items.toList.reverse.toArray) := by
    show items.toList.reverse.toArray.size ≤ sizeLine
    rw [List.size_toArray, List.length_reverse, Array.length_toList]
    omega
  obtain ⟨os, hos, hcs, hds⟩ := id hs
  have hTs : s.TypeIs (.ref sl) "slice" := ⟨os, hos, hcs⟩
  unfold getItem
  try with_reducible refine wpAny_holding ?_
  first | refine wpAny_bind (wpAny_pure ?_) | skip
  refine wpAny_bind (wpAny_sequenceKey ht.typeIs (by decide) ?_)
  refine wpAny_bind (wpAny_callSpecial?_slot (name := Str.ofString "__getitem__") ht.typeIs PyProof.Rows.slot_tuple_getitem
    (wpAny_call_entry PyProof.Rows.slot_tuple_getitem ht.typeIs entry_tuple_getitem ?_ (args_tuple_getitem _ _)))
  show wpAny _ _ (Builtin.Tuple.tupleItemsOf (.ref t) >>= _) _ _ s
  refine wpAny_bind (tupleItemsOf_ ht ?_)
  refine wpAny_bind (wpAny_typeOf hTs ?_)
  rw [if_pos (by decide)]
  refine wpAny_bind (sliceApplied_rev hs ps ?_)
  have hno : ¬ ((((items.size : Int) - 1) == 0 && (-1 : Int) == 1 && items.size == items.size) = true) := by
    intro q
    rw [Bool.and_eq_true, Bool.and_eq_true] at q
    exact absurd q.1.2 (by decide)
  show wpAny _ _ (if (((items.size : Int) - 1) == 0 && (-1 : Int) == 1 && items.size == items.size) = true then _ else _) _ _ s
  rw [if_neg hno, pick_rev items]
  first
    | exact wpAny_bind (m := Builtin.Tuple.tupleExact _) (wpAny_newObj_type (wpAny_pure ⟨_, rfl, wpAny_pure h⟩) htake)
    | exact wpAny_bind (m := Builtin.Tuple.tupleExact _) (wpAny_newObj_type (wpAny_bind (wpAny_pure (wpAny_pure ⟨_, rfl, wpAny_pure h⟩))) htake)
    | exact wpAny_bind (wpAny_bind (m := Builtin.Tuple.tupleExact _) (wpAny_newObj_type (wpAny_pure (wpAny_pure ⟨_, rfl, wpAny_pure h⟩)) htake))
    | exact wpAny_bind (wpAny_bind (m := Builtin.Tuple.tupleExact _) (wpAny_newObj_type (wpAny_pure ⟨_, rfl, wpAny_pure h⟩) htake))
end
/-- t[::-1] -/
def tRevT (K : PySem.W.Frag) (te : TE) : TE := fun σ H Q => te σ H fun x H1 => ∃ a xs, x = .ref a ∧ SqT K H1 a xs ∧ ∀ p, H1 p = none → Q (.ref p) (upd H1 p (.tup xs.reverse))
theorem pe_revT {X : Cx} {e : Expr} {te : TE} {k : Nat} {p1 p2 p3 pos : Pos} (he : PE X e te) : PE X (.Subscript e (.Slice none none (some (.UnaryOp .USub (.Constant (.int 1) k p1) p2)) p3) pos) (tRevT X.K te) := by
  refine ⟨fun pins s σ H Q I h => ?_⟩
  refine Subscript_ (thn (he.run pins s σ H _ I h) fun v s1 ⟨x, H1, I1, r1, q1⟩ => ?_)
  obtain ⟨a, xs, ex, hx, q⟩ := q1
  subst ex
  cases r1
  have hst : PO X (some (.UnaryOp .USub (.Constant (.int 1) k p1) p2)) (tPart (tUn (rU fun i => .int (-i)) (tC (.int 1)))) := po_some (pe_un un_neg pe_int)
  refine wpAny_Slice (thn (po_none.run pins s1 σ H1 (fun o H2 => o = none ∧ H2 = H1) I1 ⟨rfl, rfl⟩) fun vl s2 ⟨l, H2, I2, pl, el, e2⟩ => ?_)
  subst el e2
  refine thn (po_none.run pins s2 σ H2 (fun o H3 => o = none ∧ H3 = H2) I2 ⟨rfl, rfl⟩) fun vu s3 ⟨u, H3, I3, pu, eu, e3⟩ => ?_
  subst eu e3
  refine thn (hst.run pins s3 σ H3 (fun o H4 => o = some (-1) ∧ H4 = H3) I3 ⟨1, rfl, -1, rfl, rfl, rfl⟩) fun vs s4 ⟨o, H4, I4, ps, eo, e4⟩ => ?_
  subst eo e4
  cases pl
  cases pu
  have I5 : Inv X pins σ H4 { s4 with heap := s4.heap.push { cls := .type "slice", data := .fields #[.none, .none, vs] } } := I4.kept (t' := s4.toks) fun b ob q => Heap.get?_push_of_some _ q
  obtain ⟨its, r, ht, hz⟩ := I5.tuple hx
  have hlen := r.length
  show wpAny (model X.prog X.w) X.A (subscriptTail e (.Slice none none (some (.UnaryOp .USub (.Constant (.int 1) k p1) p2)) p3) (.ref a) (.ref s4.heap.objs.size)) (EP X pins σ Q) X.xe { s4 with heap := s4.heap.push { cls := .type "slice", data := .fields #[.none, .none, vs] } }
  refine tail_any (ops := [.ref a, .ref s4.heap.objs.size]) ht.typeIs (PyProof.Rows.slot_tuple_getitem.lookup) ?_ (by with_unfolding_all rfl)
  refine getItem_tuple_rev ht (Heap.IsSliceOf.new _ .none .none vs) ps ?_ (by rw [List.size_toArray]; omega)
  refine ⟨.ref _, _, I5.laid (t' := s4.toks) (o := .tup xs.reverse) (fun b ob q => Heap.get?_push_of_some _ q) (Nat.le_refl _) ?_, rfl, q _ (I5.hok.fresh (Nat.le_refl _))⟩
  exact ⟨by rw [List.length_reverse]; omega, _, r.reverse, IsTup.new _ _⟩
end Fm
set_option maxRecDepth 100000
set_option maxHeartbeats 4000000
namespace K15
open PySem L2 Fm
mutual
theorem size_put {f : Int → D} {M : Nat} (hf : ∀ u, (f u).size ≤ M) : ∀ d : D, (putD f d).size ≤ d.size + M * (intsIn d).length
  | .int u => by
    have := hf u
    simp only [putD, D.size, intsIn, List.length_singleton, Nat.mul_one]
    omega
  | .tup ds => by
    have := size_putT hf ds
    simp only [putD, D.size, intsIn]
    omega
  | .non => by simp [putD]
  | .bl _ => by simp [putD]
  | .str x => by simp [putD]
  | .lst ds => by
    simp only [putD]
    omega
  | .dic => by simp [putD]
theorem size_putT {f : Int → D} {M : Nat} (hf : ∀ u, (f u).size ≤ M) : ∀ ds : List D, sizes (putT f ds) ≤ sizes ds + M * (intsOf ds).length
  | [] => by simp [putT, sizes]
  | x :: r => by
    have := size_puts hf r
    simp only [putT, sizes, intsOf, List.length_append, Nat.mul_add]
    omega
theorem size_puts {f : Int → D} {M : Nat} (hf : ∀ u, (f u).size ≤ M) : ∀ ds : List D, sizes (puts f ds) ≤ sizes ds + M * (intsOf ds).length
  | [] => by simp [puts, sizes]
  | x :: r => by
    have h1 := size_put hf x
    have h2 := size_puts hf r
    simp only [puts, sizes, intsOf, List.length_append, Nat.mul_add]
    omega
end
mutual
theorem deep_put {f : Int → D} {L : Nat} (hf : ∀ u, (f u).deep ≤ L) : ∀ d : D, (putD f d).deep ≤ d.deep + L
  | .int u => by
    have := hf u
    simpa [putD, D.deep] using this
  | .tup ds => by
    have := deep_putT hf ds
    simp only [putD, D.deep]
    omega
  | .non => by simp [putD, D.deep]
  | .bl _ => by simp [putD, D.deep]
  | .str x => by simp [putD, D.deep]
  | .lst ds => by simp [putD, D.deep]
  | .dic => by simp [putD, D.deep]
theorem deep_putT {f : Int → D} {L : Nat} (hf : ∀ u, (f u).deep ≤ L) : ∀ ds : List D, deeps (putT f ds) ≤ deeps ds + L
  | [] => by simp [putT, deeps]
  | x :: r => by
    have := deep_puts hf r
    simp only [putT, deeps]
    omega
theorem deep_puts {f : Int → D} {L : Nat} (hf : ∀ u, (f u).deep ≤ L) : ∀ ds : List D, deeps (puts f ds) ≤ deeps ds + L
  | [] => by simp [puts, deeps]
  | x :: r => by
    have h1 := deep_put hf x
    have h2 := deep_puts hf r
    simp only [puts, deeps]
    omega
end
section
variable {P : Program} {w : World} {K : PySem.W.Frag} {mg : Str → Option Value} {base : Heap} (T : Txt K mg)
theorem tup_go {b p : Addr} {H H' : Hp} (g : Go b p H H') (B : Bag b p H) : ∀ a l, H a = some (.tup l) → H' a = some (.tup l) := fun a l ha => g.at (fun z => by
  obtain ⟨_, _, _, _, hb, _⟩ := B
  rw [z, hb] at ha
  cases ha) ha
theorem asg_of {te : TE} {g : TG} {D : Ends} {σ : L2.St} {H : Hp} (h : te σ H fun v H1 => g v σ H1 D.nx) : tAsg te g D σ H := h
theorem PatAt.same {C : Addr} {H H' : Hp} {x : Addr} {ds : List D} (k : Same H H') (h : PatAt C H x ds) : PatAt C H' x ds := by
  obtain ⟨dx, p, us, a, b, c⟩ := h
  exact ⟨dx, p, us, k _ _ a, k _ _ b, c.same k _ _⟩
theorem PatAt.go {C b p : Addr} {H H' : Hp} {x : Addr} {ds : List D} (g : Go b p H H') (B : Bag b p H) (t : ∀ d ∈ ds, Tm d) (h : PatAt C H x ds) : PatAt C H' x ds := by
  obtain ⟨dx, q, us, h1, h2, h3⟩ := h
  have nx : x ≠ b := fun z => by
    obtain ⟨_, _, _, _, hb, _⟩ := B
    rw [z, hb] at h1
    cases h1
  exact ⟨dx, q, us, g.at nx h1, tup_go g B _ _ h2, DvL.keepT (tup_go g B) _ _ t h3⟩
theorem other_ty (Kp : PKit T) {s : String} (h : (PySem.fastBuiltinMro s).map (·.contains (.ref T.C_Pattern)) = some false) : PySem.W.kitOne K (.type s) (.ref T.C_Pattern) = some false ∧ PySem.W.notFirst K T.C_Pattern (.type s) = true := by
  have e : PySem.W.subIn K (.type s) (.ref T.C_Pattern) = some false := h
  constructor
  · unfold PySem.W.kitOne
    rw [if_neg (by simp)]
    show (if ((PySem.W.clsIn K T.C_Pattern).isSome && PySem.W.typeIn K (.ref T.C_Pattern) == some (.type "type")) = true then PySem.W.subIn K (.type s) (.ref T.C_Pattern) else none) = _
    rw [if_pos Kp.hk, e]
  · unfold PySem.W.notFirst
    rw [e]
    simp
theorem unk_flats {n : Int} {ts : List D} (h : ∀ d ∈ ts, Unk n d) : ∀ u, D.int u ∈ flats ts → 0 ≤ u ∧ u < n := by
  induction ts with
  | nil => intro u hu; simp [flats] at hu
  | cons d r ih =>
    intro u hu
    simp only [flats, List.mem_append] at hu
    rcases hu with hu | hu
    · exact h d List.mem_cons_self u hu
    · exact ih (fun e he => h e (List.mem_cons_of_mem _ he)) u hu
theorem isTerm_put {f : Int → D} (hf : ∀ u, isTerm (f u) = true) {d : D} (t : Tm d) : isTerm d = true → isTerm (putD f d) = true := by
  induction t with
  | int u => exact fun _ => hf u
  | tup x ds _ ih =>
    intro h
    have e : putD f (.tup (.str x :: ds)) = .tup (.str x :: puts f ds) := rfl
    rw [e, puts_map]
    simp only [isTerm, isTermT, Bool.and_eq_true, areTerms_all, List.all_eq_true, List.length_map] at h ⊢
    refine ⟨h.1, fun e he => ?_⟩
    obtain ⟨d, hd, rfl⟩ := List.mem_map.mp he
    exact ih d hd (h.2 d hd)
theorem areTerms_puts {f : Int → D} (hf : ∀ u, isTerm (f u) = true) {ds : List D} (h : areTerms ds = true) : areTerms (puts f ds) = true := by
  have t := tms_of_are ds h
  rw [areTerms_all, List.all_eq_true] at h ⊢
  rw [puts_map]
  intro e he
  obtain ⟨d, hd, rfl⟩ := List.mem_map.mp he
  exact isTerm_put hf (t d hd) (h d hd)
theorem numb_tm {ds : List D} (are : areTerms ds = true) (dz : deeps ds ≤ 40) : (∀ d ∈ puts (numF ds) ds, Tm d) ∧ deeps (puts (numF ds) ds) ≤ 50 := by
  refine ⟨tm_puts (tm_num ds) ds (tms_of_are ds are), ?_⟩
  obtain ⟨b1, _⟩ := kept_list (f := numF ds) fun d hd => kept_of (fun u => ⟨_, rfl⟩) (tms_of_are ds are d hd)
  omega
theorem areTerms_nd {ds : List D} (h : areTerms ds = true) : noDics ds = true := noDics_of fun d hd => (tms_of_are ds h d hd).noDic
theorem pd_len {B bits : Nat} (hB : 8 ≤ B) {d : D} {K : PySem.W.Frag} {H : Hp} {v : V} (h : Dv H v d) (hs : ∀ i ∈ intsIn d, Short B bits i) (nd : noDic d = true) : (pdOf d).shown.length ≤ (B + 2) * (2 * d.size + bits * (intsIn d).length) + B := by
  obtain ⟨h1, h2⟩ := dp_pd (K := K) d v h nd
  obtain ⟨a1, a2, a3⟩ := pd_short d hs
  have e := PyData.shown_le B hB (pdOf d) (PyData.leavesShort_of_canLay0 B _ h2 a1)
  have e2 : (B + 2) * (pdOf d).weight ≤ (B + 2) * (2 * d.size + bits * (intsIn d).length) := Nat.mul_le_mul_left _ (by omega)
  omega
def patText (ds : List D) : Str := (("Pattern(" : Str) ++ (pdOf (.tup ds)).shown) ++ (")" : Str)
theorem patText_ok {ds : List D} (h : PyData.strOk (pdOf (.tup ds)).shown = true) : PyData.strOk (patText ds) = true := Fm.ok_append (Fm.ok_append (ok_of_string _) h) (ok_of_string _)
theorem patText_len (ds : List D) : (patText ds).length = (pdOf (.tup ds)).shown.length + 9 := by
  have l0 : ("Pattern(" : Str).length = 8 := by decide +kernel
  have l1 : (")" : Str).length = 1 := by decide +kernel
  unfold patText
  rw [strLen_append, strLen_append, l0, l1]
  omega
abbrev Shown (K : PySem.W.Frag) (H : Hp) (v : V) (d : D) : Prop := Dp K H v (pdOf d) ∧ SeqAt.shaped (pdOf d) = true ∧ (pdOf d).showable = true ∧ (pdOf d).hasDict = false ∧ (pdOf d).depth ≤ 60 ∧ (pdOf d).shown.length ≤ sizeLine
end
end K15
set_option maxRecDepth 100000
set_option maxHeartbeats 4000000
namespace K15
open PySem L2 Fm
/-- a row of terms -/
def RowOk (n : Nat) (r : List D) : Prop := areTerms r = true ∧ r.length = n ∧ sizes r ≤ 8000 ∧ deeps r ≤ 8
theorem RowOk.tm {n : Nat} {r : List D} (h : RowOk n r) : ∀ d ∈ r, Tm d := tms_of_are r h.1
def RowAt (b : Addr) (H : Hp) (a : Addr) (r : List D) : Prop := a ≠ b ∧ ∃ us, H a = some (.lst us) ∧ DvL H us r
theorem RowAt.go {b p a : Addr} {H H' : Hp} {r : List D} (g : Go b p H H') (B : Bag b p H) (t : ∀ d ∈ r, Tm d) (h : RowAt b H a r) : RowAt b H' a r := by
  obtain ⟨n, us, h1, h2⟩ := h
  exact ⟨n, us, g.at n h1, DvL.keepT (tup_go g B) _ _ t h2⟩
theorem RowAt.mut {b a c : Addr} {H : Hp} {r : List D} {ws xs : List V} (hc : H c = some (.lst xs)) (n : a ≠ c) (t : ∀ d ∈ r, Tm d) (h : RowAt b H a r) : RowAt b (upd H c (.lst ws)) a r := by
  obtain ⟨nb, us, h1, h2⟩ := h
  refine ⟨nb, us, by rw [upd_ne n]; exact h1, DvL.keepT (fun q l e => ?_) _ _ t h2⟩
  rw [upd_ne (fun z => by rw [z, hc] at e; cases e)]
  exact e
theorem paired_keep {α β : Type} {F G : α → β → Prop} {as : List α} {bs : List β} (h : Paired F as bs) : (∀ a ∈ as, ∀ b ∈ bs, F a b → G a b) → Paired G as bs := by
  induction h with
  | nil => exact fun _ => .nil
  | cons a r ih => exact fun k => .cons (k _ List.mem_cons_self _ List.mem_cons_self a) (ih fun x hx y hy => k x (List.mem_cons_of_mem _ hx) y (List.mem_cons_of_mem _ hy))
theorem paired_snoc {α β : Type} {F : α → β → Prop} {as : List α} {bs : List β} {a : α} {b : β} (h : Paired F as bs) (x : F a b) : Paired F (as ++ [a]) (bs ++ [b]) := by
  induction h with
  | nil => exact .cons x .nil
  | cons u _ ih => exact .cons u ih
theorem paired_left {α β : Type} {F : α → β → Prop} {as : List α} {bs : List β} (h : Paired F as bs) : ∀ a ∈ as, ∃ b ∈ bs, F a b := by
  induction h with
  | nil => exact fun _ h => by cases h
  | cons u _ ih =>
    intro a ha
    rcases List.mem_cons.mp ha with rfl | ha
    · exact ⟨_, List.mem_cons_self, u⟩
    · obtain ⟨b, hb, e⟩ := ih a ha
      exact ⟨b, List.mem_cons_of_mem _ hb, e⟩
/-- while the rows are drawn -/
structure RSt (b p : Addr) (H : Hp) (n : Nat) (l3 l4 : Addr) (acc : List V) (ds : List D) (as : List Addr) (rows : List (List D)) (H' : Hp) : Prop where
  g : Go b p H H'
  h4 : H' l4 = some (.lst (as.map V.ref))
  rs : Paired (RowAt b H') as rows
  ok : ∀ r ∈ rows, RowOk n r
  h3 : H' l3 = some (.lst acc)
  d3 : DvL H' acc ds
  t3 : ∀ d ∈ ds, Tm d
  n3 : l3 ≠ b
  n4 : l4 ≠ b
  n34 : l3 ≠ l4
  na : l4 ∉ as
section
variable {b p : Addr} {H H' H2 : Hp} {n : Nat} {l3 l4 : Addr} {acc : List V} {ds : List D} {as : List Addr} {rows : List (List D)}
theorem RSt.go (h : RSt b p H n l3 l4 acc ds as rows H') (g2 : Go b p H' H2) : RSt b p H n l3 l4 acc ds as rows H2 :=
  ⟨h.g.trans g2, g2.at h.n4 h.h4, paired_keep h.rs fun a _ r hr x => x.go g2 h.g.B (h.ok r hr).tm, h.ok, g2.at h.n3 h.h3, DvL.keepT (tup_go g2 h.g.B) _ _ h.t3 h.d3, h.t3, h.n3, h.n4, h.n34, h.na⟩
theorem RSt.mut {c : Addr} {ws xs : List V} (B : Bag b p H) (h : RSt b p H n l3 l4 acc ds as rows H') (hc : H' c = some (.lst xs)) (hH : H c = none) (c3 : c ≠ l3) (c4 : c ≠ l4) (ca : c ∉ as) : RSt b p H n l3 l4 acc ds as rows (upd H' c (.lst ws)) :=
  ⟨h.g.mut B hH, by rw [upd_ne (Ne.symm c4)]; exact h.h4, paired_keep h.rs fun a ha r hr x => x.mut hc (fun z => ca (z ▸ ha)) (h.ok r hr).tm, h.ok, by rw [upd_ne (Ne.symm c3)]; exact h.h3,
    DvL.keepT (fun q l e => by rw [upd_ne (fun z => by rw [z, hc] at e; cases e)]; exact e) _ _ h.t3 h.d3, h.t3, h.n3, h.n4, h.n34, h.na⟩
theorem RSt.app {c : Addr} {us : List V} {r : List D} (B : Bag b p H) (h : RSt b p H n l3 l4 acc ds as rows H') (hc : H' c = some (.lst us)) (hd : DvL H' us r) (ok : RowOk n r) (hl : H l4 = none) (c4 : c ≠ l4) (cb : c ≠ b) :
    RSt b p H n l3 l4 acc ds (as ++ [c]) (rows ++ [r]) (upd H' l4 (.lst ((as ++ [c]).map V.ref))) := by
  have kt : ∀ q l, H' q = some (.tup l) → (upd H' l4 (.lst ((as ++ [c]).map V.ref))) q = some (.tup l) := fun q l e => by
    rw [upd_ne (fun z => by rw [z, h.h4] at e; cases e)]
    exact e
  refine ⟨h.g.mut B hl, upd_same, paired_snoc (paired_keep h.rs fun a ha r hr x => x.mut h.h4 (fun z => h.na (z ▸ ha)) (h.ok r hr).tm) ⟨cb, us, by rw [upd_ne c4]; exact hc, DvL.keepT kt _ _ ok.tm hd⟩, fun r' hr => ?_, by rw [upd_ne h.n34]; exact h.h3, DvL.keepT kt _ _ h.t3 h.d3, h.t3, h.n3, h.n4, h.n34, fun z => ?_⟩
  · rcases List.mem_append.mp hr with hr | hr
    · exact h.ok r' hr
    · rw [List.mem_singleton.mp hr]
      exact ok
  · rcases List.mem_append.mp z with z | z
    · exact h.na z
    · exact c4 (List.mem_singleton.mp z).symm
end
section
variable {P : Program} {w : World} {K : PySem.W.Frag} {mg : Str → Option Value} {base : Heap} (T : Txt K mg)
def spRows : Sp := fun vs H Q _ => ∃ (b p nm : Addr) (xs : List Str), vs = [.ref b, .ref nm] ∧ Bag b p H ∧ Names nm b H xs ∧ (∀ x ∈ xs, isNameS x = true) ∧
  ∀ (H' : Hp) (l : Addr) (as : List Addr) (rows : List (List D)) (n : Nat), Go b p H H' → H l = none → l ≠ b → H' l = some (.lst (as.map V.ref)) → Paired (RowAt b H') as rows → (∀ r ∈ rows, RowOk n r) → n ≤ 4 → 2 ≤ rows.length → rows.length ≤ 4 → Q (.ref l) H'
theorem ok_law_rows : FnOk P w K mg base CX0 50 T.a__law_rows T.d__law_rows ["_law_bag_here", "_law_names_here"] spRows := by
  have G__law_take := ok_law_take (P := P) (w := w) (base := base) T
  have G__law_term := ok_law_termK (P := P) (w := w) (base := base) T 5
  have G__law_put := ok_law_put (P := P) (w := w) (base := base) T 40
  refine T.F__law_rows.ok sc__law_rows ?_ (fun cdv A outer s H vs Q E hr h => ?_)
  · rintro vs H Q E ⟨b, p, nm, xs, rfl, _⟩
    rfl
  obtain ⟨b, p, nm, xs, rfl, B, N, nms, q⟩ := h
  refine ⟨_, 
    (pss_cons (ps_set (i := 2) sc__law_rows.nd rfl (Or.inl rfl) (pe_call G__law_take (hr.mono (by omega)) (by rfl) T.f__law_take T.F__law_take.kp T.b__law_take .nil pass0 (pa_cons (pv 0) (pa_cons pe_int pa_nil))))
    (pss_cons (ps_setLc (i := 3) (own := [("_law_k", 5)]) (g := gName 5) (tt := tYes) rfl sc__law_rows.nd rfl rfl (sw_true rfl rfl rfl (by decide +kernel)) (pi_range1 (by rfl) T.m_range (pa_cons (pv 2) pa_nil)) (blkOk_by (N := N__law_rows) (sc := defScope s__law_rows) (by decide +kernel)) (fun _ _ _ _ _ => pg_name (i := 5) sc__law_rows.nd rfl (Or.inl rfl)) (fun _ _ _ _ _ => pts_nil) (fun _ _ _ _ _ => pe_call G__law_term (hr.mono (by omega)) (by rfl) T.f__law_term T.F__law_term.kp T.b__law_term .nil pass0 (pa_cons (pv 0) (pa_cons (pv 1) (pa_cons pe_int (pa_cons (pe_op op_add pe_int (pe_call G__law_take (hr.mono (by omega)) (by rfl) T.f__law_take T.F__law_take.kp T.b__law_take .nil pass0 (pa_cons (pv 0) (pa_cons pe_int pa_nil)))) pa_nil))))))
    (pss_cons (ps_set (i := 4) sc__law_rows.nd rfl (Or.inl rfl) (pe_lst (pa_cons (pv 3) pa_nil)))
    (pss_cons (ps_for PassesOwn.never rfl (pi_range1 (by rfl) T.m_range (pa_cons (pe_op op_add pe_int (pe_call G__law_take (hr.mono (by omega)) (by rfl) T.f__law_take T.F__law_take.kp T.b__law_take .nil pass0 (pa_cons (pv 0) (pa_cons pe_int pa_nil)))) pa_nil)) (pg_name (i := 5) sc__law_rows.nd rfl (Or.inl rfl)) (pss_cons (ps_set (i := 6) sc__law_rows.nd rfl (Or.inr rfl) (pe_lc (own := [("_law_j", 8)]) (g := gName 8) (tt := tYes) rfl sc__law_rows.nd (pi_range1 (by rfl) T.m_range (pa_cons pe_int pa_nil)) (blkOk_by (N := N__law_rows) (sc := defScope s__law_rows) (by decide +kernel)) (fun _ _ _ _ _ => pg_name (i := 8) sc__law_rows.nd rfl (Or.inl rfl)) (fun _ _ _ _ _ => pts_nil) (fun _ _ _ _ _ => pe_call G__law_term (hr.mono (by omega)) (by rfl) T.f__law_term T.F__law_term.kp T.b__law_term .nil pass0 (pa_cons (pv 0) (pa_cons (pv 1) (pa_cons pe_int (pa_cons pe_int pa_nil))))))) (pss_cons (ps_setLc (i := 7) (own := [("_law_term_here", 9)]) (g := gName 9) (tt := tYes) rfl sc__law_rows.nd rfl rfl (sw_true rfl rfl rfl (by decide +kernel)) (pi_list (pv 3)) (blkOk_by (N := N__law_rows) (sc := defScope s__law_rows) (by decide +kernel)) (fun _ _ _ _ _ => pg_name (i := 9) sc__law_rows.nd rfl (Or.inl rfl)) (fun _ _ _ _ _ => pts_nil) (fun _ _ _ _ _ => pe_call G__law_put (hr.mono (by omega)) (by rfl) T.f__law_put T.F__law_put.kp T.b__law_put .nil pass0 (pa_cons (pv 9) (pa_cons (pv 6) pa_nil)))) (Evl.pss_cut (ps_if (PW.pt (pw_and (pt_cmpR op_gt (pv 2) pe_int (nomark _)) (pw_and1 (pt_cmpR op_eq (pe_call G__law_take (hr.mono (by omega)) (by rfl) T.f__law_take T.F__law_take.kp T.b__law_take .nil pass0 (pa_cons (pv 0) (pa_cons pe_int pa_nil))) pe_int (nomark _))))) (pss_one (ps_asg (pe_call G__law_term (hr.mono (by omega)) (by rfl) T.f__law_term T.F__law_term.kp T.b__law_term .nil pass0 (pa_cons (pv 0) (pa_cons (pv 1) (pa_cons pe_int (pa_cons pe_int pa_nil))))) (pg_sub (pv 7) (pe_call G__law_take (hr.mono (by omega)) (by rfl) T.f__law_take T.F__law_take.kp T.b__law_take .nil pass0 (pa_cons (pv 0) (pa_cons (pv 2) pa_nil))) set_list))) pss_nil) (pss_one (ps_expr (pe_bm PySem.F.plainAttrs_list PySem.F.slot_list_append PySem.F.type_list_append mt_append (pv 4) (pa_cons (pv 7) pa_nil))))))))
    (pss_one (ps_ret (pv 4))))))), ?_⟩
  refine ⟨_, rfl, b, p, 5, rfl, B, by decide, by decide, fun n H1 n0 n1 g1 => ?_⟩
  obtain ⟨n, rfl⟩ := Int.eq_ofNat_of_zero_le n0
  refine ⟨_, rfl, _, rfl, by omega, by omega, fun l3 hl3 => ?_⟩
  rw [show ((n : Nat) : Int).toNat = n from Int.toNat_natCast n]
  refine lc_bag (fun d => Tm d ∧ Sized 3 d ∧ UnkL 3 3 d ∧ isTerm d = true) g1.B hl3 (by omega) (fun _ => rfl) (fun _ _ _ r => r) ?_ ?_
  · intro i H' R hi2 g r
    refine ⟨_, rfl, _, rfl, _, rfl, b, p, 3, rfl, g.B, by decide, by decide, fun dk H5 d0 d1 g5 => ?_⟩
    obtain ⟨k, rfl⟩ := Int.eq_ofNat_of_zero_le d0
    refine ⟨_, _, rfl, rfl, b, p, nm, xs, 3, k + 1, _, rfl, (by omega), g5.B, (N.go g1).go (g.trans g5), nms, by decide, by decide, by omega, by omega, fun v H6 d g6 hv tm szd un it => r v d H6 (g5.trans g6) (hv.same (newof_lift fun a ha => g5.free ha) _ _) ⟨tm, ⟨by have := szd.1; omega, ?_⟩, ⟨un.1, ?_⟩, it⟩⟩
    · have e : 3 ^ (k + 1) ≤ 3 ^ 3 := Nat.pow_le_pow_right (by decide) (by omega)
      have := szd.2
      omega
    · exact Nat.le_trans un.2 (Nat.pow_le_pow_right (by decide) (by omega))
  · intro H2 acc ds g2 hl hds hg hn5
    have tds : ∀ d ∈ ds, Tm d := fun d hd => (hg d hd).1
    have s1 := sizes_le (n := 459) fun d hd => (hg d hd).2.1.2
    have s2 := intsOf_len (m := 27) fun d hd => (hg d hd).2.2.1.2
    have s3 : deeps ds ≤ 3 := deeps_le fun d hd => (hg d hd).2.1.1
    have ufl := unk_flats (ts := ds) fun d hd => (hg d hd).2.2.1.1
    have a1 : areTerms ds = true := by
      rw [areTerms_all, List.all_eq_true]
      exact fun d hd => (hg d hd).2.2.2
    have lac := hds.len
    have gn2 := g1.trans g2
    have l3H : H l3 = none := g1.free hl3
    refine ⟨_, rfl, by (show 1 ≤ sizeLine; decide), fun l4 hl4 => ?_⟩
    have l4H : H l4 = none := gn2.free hl4
    have k3 : Same H2 (upd H2 l4 (.lst [.ref l3])) := Same.new hl4
    have n34 : l3 ≠ l4 := fun z => by
      rw [z, hl4] at hl
      cases hl
    have d2 : DvL H2 acc ds := hds.same newof_sub _ _
    have S0 : RSt b p H n l3 l4 acc ds [l3] [ds] (upd H2 l4 (.lst [.ref l3])) :=
      ⟨gn2.same k3, upd_same, .cons ⟨B.b_ne l3H, acc, k3 _ _ hl, d2.same k3 _ _⟩ .nil, (fun r hr => by rw [List.mem_singleton.mp hr]; exact ⟨a1, hn5, by omega, by omega⟩), k3 _ _ hl, d2.same k3 _ _, tds, B.b_ne l3H, B.b_ne l4H, n34, fun z => n34 (List.mem_singleton.mp z).symm⟩
    refine ⟨_, rfl, b, p, 3, rfl, S0.g.B, by decide, by decide, fun kk H4 k0 k1 g4 => ⟨_, _, rfl, rfl, _, rfl, by omega, by omega, ?_⟩⟩
    obtain ⟨kk, rfl⟩ := Int.eq_ofNat_of_zero_le k0
    have S4 := S0.go g4
    have ek : ((1 + (kk : Int)) : Int).toNat = kk + 1 := by omega
    rw [ek]
    refine for_range (lo := 0) (n := kk + 1) (fun i σ H' => ∃ o5 o6 o7 as rows, σ = [some (.ref b), some (.ref nm), some (.int n), some (.ref l3), some (.ref l4), o5, o6, o7, none, none] ∧ RSt b p H n l3 l4 acc ds as rows H' ∧ rows.length = i + 1)
      ⟨none, none, none, _, _, rfl, S4, rfl⟩ ?_ ?_
    · rintro i σ H5 hi ⟨o5, o6, o7, as, rows, rfl, S5, lr⟩
      have len5 : as.length = rows.length := Paired.length S5.rs
      have N5 : Names nm b H5 xs := N.go S5.g
      refine ⟨_, rfl, by decide, by decide, fun l6 hl6 => ?_⟩
      refine lc_bag (fun d => Tm d ∧ Sized 1 d ∧ isTerm d = true) S5.g.B hl6 (by decide) (fun _ => rfl) (fun _ _ _ r => r) ?_ ?_
      · intro i H' R hi g r
        exact ⟨_, rfl, _, rfl, b, p, nm, xs, 3, 1, 1, rfl, rfl, g.B, N5.go g, nms, by decide, by decide, by decide, by decide, fun v H2 d g2 hv tm szd un it => r v d H2 g2 hv ⟨tm, szd, it⟩⟩
      · intro H6 acc6 os g6 h6l hos hg6 hn6
        have S6 := S5.go g6
        have lacc := hos.len
        have hos1 : DvL H6 acc6 os := hos.same newof_sub _ _
        have fos : ∀ u, (os.getD u (.int 0)).size ≤ 35 ∧ (os.getD u (.int 0)).deep ≤ 1 ∧ Tm (os.getD u (.int 0)) ∧ isTerm (os.getD u (.int 0)) = true := fun u => by
          rw [List.getD_eq_getElem?_getD]
          cases e : os[u]? with
          | none => exact ⟨by decide, by decide, .int 0, by decide +kernel⟩
          | some d =>
            obtain ⟨c1, c2, c3⟩ := hg6 d (List.mem_of_getElem? e)
            have := c2.2
            exact ⟨by show d.size ≤ 35; omega, c2.1, c1, c3⟩
        refine ⟨_, rfl, l3, rfl, ⟨acc, SqL.of S6.h3⟩, fun l7 hl7 => ?_⟩
        refine lc_newD (Hb := H6) (putD fun u => os.getD u.toNat (.int 0)) (walk_list (K := K) (a := l3) (xs := acc)) (fun H' k => SqL.of (k _ _ S6.h3)) S6.d3 hl7 (by omega) (fun _ => rfl) (fun _ _ _ r => r) (fun y d H' R k hm hy r => ?_) (fun H7 zs k7 h7l hz7 => ?_)
        · have s1' := size_mem hm
          have s2' := deep_mem hm
          refine ⟨_, rfl, _, rfl, H6, y, .ref l6, d, _, rfl, k, hy, tds d hm, by omega, by omega, fun u hu => ?_, fun v' H2 k4 hv2 => r v' H2 k4 hv2⟩
          obtain ⟨u0, u1⟩ := (hg d hm).2.2.1.1 u hu
          obtain ⟨m, rfl⟩ := Int.eq_ofNat_of_zero_le u0
          have ln : m < os.length := by omega
          obtain ⟨v, hv, dv⟩ := hos1.getD (List.getElem?_eq_getElem ln)
          refine ⟨v, .inl ⟨l6, acc6, rfl, .inl (SqL.of (k _ _ h6l)), atI_nat hv⟩, ?_⟩
          show Dv H6 v (os.getD (m : Int).toNat (.int 0))
          rw [Int.toNat_natCast, List.getD_eq_getElem?_getD, List.getElem?_eq_getElem ln]
          exact dv
        · generalize hws : ds.map (putD fun u => os.getD u.toNat (.int 0)) = ws at hz7
          have okw : RowOk n ws ∧ sizes ws ≤ 7800 := by
            rw [← hws, ← puts_map]
            have p1 := size_puts (f := fun u => os.getD u.toNat (.int 0)) (M := 35) (fun u => (fos u.toNat).1) ds
            have p2 := deep_puts (f := fun u => os.getD u.toNat (.int 0)) (L := 1) (fun u => (fos u.toNat).2.1) ds
            refine ⟨⟨areTerms_puts (fun u => (fos u.toNat).2.2.2) a1, by rw [puts_map, List.length_map]; exact hn5, by show sizes _ ≤ 8000; omega, by omega⟩, by omega⟩
          obtain ⟨okw, wz⟩ := okw
          have hzs7 : DvL H7 zs ws := hz7.same (ovl_sub k7 newof_sub) _ _
          have lzs := hzs7.len
          have lws := okw.2.1
          have S7 := S6.go (Go.of S6.g.B k7)
          have l7H : H l7 = none := S6.g.free hl7
          have c3 : l7 ≠ l3 := fun z => by
            rw [z, S6.h3] at hl7
            cases hl7
          have c4 : l7 ≠ l4 := fun z => by
            rw [z, S6.h4] at hl7
            cases hl7
          have ca : l7 ∉ as := fun z => by
            obtain ⟨r, _, _, us, e, _⟩ := paired_left S6.rs l7 z
            rw [e] at hl7
            cases hl7
          have cb : l7 ≠ b := B.b_ne l7H
          refine ⟨fun σ H' => ∃ row us, σ = [some (.ref b), some (.ref nm), some (.int n), some (.ref l3), some (.ref l4), some (.int (0 + (i : Int))), some (.ref l6), some (.ref l7), none, none] ∧ RSt b p H n l3 l4 acc ds as rows H' ∧ H' l7 = some (.lst us) ∧ DvL H' us row ∧ RowOk n row, ?_, ?_⟩
          · refine ⟨_, rfl, _, _, rfl, rfl, _, rfl, ite_b (fun c => ⟨_, rfl, b, p, 2, rfl, S7.g.B, by decide, by decide, fun t H8 t0 t1 g8 => ⟨rfl, _, rfl, ite_b (fun c2 => ?_) (fun c2 => ?_)⟩⟩) (fun c => ?_)⟩
            · have S8 := S7.go g8
              have n1 : 0 < n := by
                have := of_decide_eq_true c
                omega
              refine ⟨_, rfl, _, rfl, b, p, nm, xs, 3, 2, 2, rfl, rfl, S8.g.B, N.go S8.g, nms, by decide, by decide, by decide, by decide, fun v H9 d g9 hv tm szd un it => ⟨_, rfl, _, rfl, _, rfl, b, p, n, rfl, g9.B, by omega, by omega, fun j H10 j0 j1 g10 => ?_⟩⟩
              obtain ⟨j, rfl⟩ := Int.eq_ofNat_of_zero_le j0
              have ga := g8.trans (g9.trans g10)
              have S10 := S8.go (g9.trans g10)
              have h10 : H10 l7 = some (.lst zs) := ga.at cb h7l
              have dz10 : DvL H10 zs ws := DvL.keepT (tup_go ga S7.g.B) _ _ okw.tm hzs7
              have dv10 : Dv H10 v d := Dv.keepT (tup_go g10 g9.B) _ _ tm (hv.same newof_sub _ _)
              have szd2 := szd.2
              have szd1 := szd.1
              refine ⟨l7, zs, _, j, rfl, rfl, h10, ixN_at (by omega), ?_⟩
              have kt : ∀ q l, H10 q = some (.tup l) → (upd H10 l7 (.lst (zs.set j v))) q = some (.tup l) := fun q l e => by
                rw [upd_ne (fun z => by rw [z, h10] at e; cases e)]
                exact e
              have ok2 : RowOk n (ws.set j d) := by
                obtain ⟨w1, w2, w3, w4⟩ := okw
                refine ⟨?_, by rw [List.length_set]; exact w2, ?_, ?_⟩
                · rw [areTerms_all, List.all_eq_true] at w1 ⊢
                  intro e he
                  rcases List.mem_or_eq_of_mem_set he with he | he
                  · exact w1 e he
                  · rw [he]
                    exact it
                · have := sizes_set (ds := ws) (d := d) j
                  omega
                · refine deeps_le fun e he => ?_
                  rcases List.mem_or_eq_of_mem_set he with he | he
                  · exact Nat.le_trans (deep_mem he) w4
                  · rw [he]
                    omega
              exact ⟨_, _, rfl, S10.mut B h10 l7H c3 c4 ca, upd_same, DvL.keepT kt _ _ ok2.tm (dz10.set dv10 j), ok2⟩
            · exact ⟨_, _, rfl, S7.go g8, g8.at cb h7l, DvL.keepT (tup_go g8 S7.g.B) _ _ okw.tm hzs7, okw⟩
            · exact ⟨_, _, rfl, S7, h7l, hzs7, okw⟩
          · rintro σ H8 ⟨row, us, rfl, S8, h8, d8, ok8⟩
            refine ⟨_, rfl, .inl ⟨rfl, _, SqL.of S8.h4⟩, _, rfl, l4, _, _, rfl, rfl, S8.h4, szl (by rw [List.length_map]; omega), ?_⟩
            have S9 := S8.app B h8 d8 ok8 l4H c4 cb
            rw [List.map_append] at S9
            refine ⟨_, _, _, as ++ [l7], rows ++ [row], rfl, ?_, ?_⟩
            · exact S9
            · rw [List.length_append, lr]
              rfl
    · rintro σ H5 ⟨o5, o6, o7, as, rows, rfl, S5, lr⟩
      refine ⟨_, rfl, ?_⟩
      exact q H5 l4 as rows n S5.g l4H S5.n4 S5.h4 S5.rs S5.ok (by omega) (by omega) (by omega)
end
end K15
set_option maxRecDepth 100000
set_option maxHeartbeats 4000000
namespace K15
open PySem L2 Fm
section
variable {P : Program} {w : World} {K : PySem.W.Frag} {mg : Str → Option Value} {base : Heap} (T : Txt K mg)
/-- _law_alike, of two patterns -/
def spAlikeP : Sp := fun vs H Q _ => ∃ (x y : Addr) (ds : List D), vs = [.ref x, .ref y] ∧ PatAt T.C_Pattern H x ds ∧ PatAt T.C_Pattern H y ds ∧ (∀ d ∈ ds, Tm d) ∧ deeps ds ≤ 50 ∧
  (∀ v, Dv H v (.tup ds) → Shown K H v (.tup ds) ∧ (pdOf (.tup ds)).shown.length ≤ 10000000) ∧ Q (.bl true) H
theorem ok_law_alikeP (Kp : PKit T) : FnG P w K mg base 4 T.a__law_alike T.d__law_alike ["_law_found", "_law_due"] (spAlikeP T) := by
  have G_Pattern_eq := ok_Pattern_eq (P := P) (w := w) (base := base) T Kp
  have G_Pattern_repr := ok_Pattern_repr (P := P) (w := w) (base := base) T
  refine fnG T.F__law_alike sc__law_alike ?_ (fun cdv A outer s H vs Q gd hr h => ?_)
  · rintro vs H Q E ⟨x, y, ds, rfl, _⟩
    rfl
  obtain ⟨x, y, ds, rfl, hx, hy, tm, dp, sh, q⟩ := h
  refine ⟨_, 
    (pss_one (ps_ret (pe_and (pe_cmpR (op_eqOwn G_Pattern_eq T.sp_Pattern_eq T.fn_Pattern_eq T.b_Pattern_eq pass0 (hr.mono (by omega))) (pv 0) (pv 1) (nomark _)) (pe_one (pe_cmpR op_eq (pe_callB (call_reprOwnG G_Pattern_repr T.sp_Pattern_repr T.fn_Pattern_repr T.b_Pattern_repr (hr.mono (by omega)) gd) (by rfl) T.m_repr (by decide +kernel) (pa_cons (pv 0) pa_nil)) (pe_callB (call_reprOwnG G_Pattern_repr T.sp_Pattern_repr T.fn_Pattern_repr T.b_Pattern_repr (hr.mono (by omega)) gd) (by rfl) T.m_repr (by decide +kernel) (pa_cons (pv 1) pa_nil)) (nomark _)))))), ?_⟩
  obtain ⟨dx, p, us, h1, h2, h3⟩ := id hx
  obtain ⟨dy, p2, us2, g1, g2, g3⟩ := id hy
  obtain ⟨⟨a1, a2, a3, a4, a5, a6⟩, a7⟩ := sh (.ref p) (.tup h2 h3)
  obtain ⟨⟨b1, _⟩, _⟩ := sh (.ref p2) (.tup g2 g3)
  have s1 : (pdOf (.tup ds)).shown.length + 9 ≤ sizeLine := by
    show _ ≤ 2 ^ 24
    omega
  refine ⟨_, rfl, _, rfl, x, dx, _, _, rfl, h1, .base (.base (.ins g1 T.cl_Pattern Kp.ha Kp.hn Kp.ht Kp.hm)), by unfold PySem.W.notFirst; simp, x, .ref y, ds, rfl, hx, tm, dp, .inl ⟨y, ds, rfl, hy, tm, dp, fun b hb => ⟨b, rfl, _, rfl, ite_b (fun c => ?_) (fun c => ?_)⟩⟩⟩
  · refine ⟨_, rfl, x, dx, _, rfl, h1, x, dx, p, _, rfl, h1, a1, a3, a4, a5, s1, _, rfl, _, rfl, y, dy, _, rfl, g1, y, dy, p2, _, rfl, g1, b1, a3, a4, a5, s1, _, rfl, rfl, ?_⟩
    rw [decide_eq_true rfl]
    exact q
  · rw [c] at hb
    exact absurd (hb.mpr rfl) (by decide)
end
end K15
set_option maxRecDepth 100000
set_option maxHeartbeats 2000000
/-! isinstance of the exception that a suite holds, with its fields -/
namespace L2
open PySem PySem.Spec PyProof.Rows
def rIsE2 (K : PySem.W.Frag) (a : Addr) (cls : Value) (d : Option Addr) : List V → Hp → VK → Prop := fun xs H Q => ∃ (D dd : Addr) (fs : List (Str × V)) (c : V) (cv : Value) (b : Bool), cls = .ref D ∧ d = some dd ∧ ExcC K D ∧ H dd = some (.xd fs) ∧ xs = [.ref a, c] ∧ ClsV c cv ∧ PySem.W.kitOne K (.ref D) cv = some b ∧ Q (.bl b) H
theorem call_isE2 {X : Cx} {a : Addr} {oe : Obj} {cls : Value} {d : Option Addr} {pn : List (Addr × Obj)} (hz : Zc cls d oe) (hf : ∃ vs, oe.data = .fields vs) : CallR (X.suite a ((a, oe) :: pn)) (.builtin "isinstance") (rIsE2 X.K a cls d) := by
  intro pins s σ H xs us Q I r h
  obtain ⟨D, dd, fs, c, cv, b, rfl, rfl, cc, ed, rfl, k, e, q⟩ := h
  obtain ⟨u1, u2, rfl, r1, r2⟩ := vals2 r
  obtain rfl := k.eq r2
  cases (show u1 = Value.ref a from r1)
  obtain ⟨hget, _⟩ := I.pin (a, oe) (List.mem_append.mpr (.inl List.mem_cons_self))
  obtain ⟨vs, hv⟩ := hf
  obtain ⟨mA, hns, _⟩ := (show ObjOk X.prog X.w H s.heap dd (.xd fs) from I.hok dd _ ed)
  obtain ⟨od, ho, _⟩ := lookIn_ns hns
  have J : PySem.W.InstAt s.heap a oe D (some od) := ⟨hget, hz.1, by unfold PySem.W.notCls; rw [hv] <;> rfl, by rw [hz.2]; exact ho⟩
  exact PySem.W.kia_one (kitx_held (X := X) (od := some od) cc) I.kIn J e (fun z => nomatch z) fun tk => ⟨.bl b, H, I.tok tk, rfl, q⟩
/-- what is taken may be wished at slots of the right number alone -/
theorem takes_len {X : Cx} {W : WX} (t : Takes X W) : Takes X (fun c d σ H => σ.length = X.N.length → W c d σ H) := fun u s' ⟨a, B, sI, pins, σ, H, cls, d, e, I, nb, up, sky, na, os, ag, w⟩ =>
  t u s' ⟨a, B, sI, pins, σ, H, cls, d, e, I, nb, up, sky, na, os, ag, w I.len⟩
end L2
set_option maxRecDepth 100000
set_option maxHeartbeats 4000000
namespace K15
open PySem L2 Fm
/-- isinstance of the caught error, that has no dict of its own -/
def rIsE0 (K : PySem.W.Frag) (a : Addr) (cls : Value) (d : Option Addr) : List V → Hp → VK → Prop := fun xs H Q => ∃ (D : Addr) (c : V) (cv : Value) (b : Bool), cls = .ref D ∧ d = none ∧ ExcC K D ∧ xs = [.ref a, c] ∧ (∀ u, RelV c u → u = cv) ∧ PySem.W.kitOne K (.ref D) cv = some b ∧ Q (.bl b) H
theorem call_isE0 {X : Cx} {a : Addr} {oe : Obj} {cls : Value} {d : Option Addr} {pn : List (Addr × Obj)} (hz : Zc cls d oe) (hf : ∃ vs, oe.data = .fields vs) : CallR (X.suite a ((a, oe) :: pn)) (.builtin "isinstance") (rIsE0 X.K a cls d) := by
  intro pins s σ H xs us Q I r h
  obtain ⟨D, c, cv, b, rfl, rfl, C, e3, h1, h2, q⟩ := h
  exact call_isE C hz hf pins s σ H xs us Q I r ⟨c, cv, b, e3, h1, h2, q⟩
section
variable {P : Program} {w : World} {K : PySem.W.Frag} {mg : Str → Option Value} {base : Heap} (T : Txt K mg)
/-- one | other, unlike -/
def spUnlike : Sp := fun vs H Q _ => ∃ (x y : Addr) (ds es : List D), vs = [.ref x, .ref y] ∧ PatAt T.C_Pattern H x ds ∧ PatAt T.C_Pattern H y es ∧ areTerms ds = true ∧ areTerms es = true ∧ sizes ds ≤ 80000 ∧ sizes es ≤ 80000 ∧ deeps ds ≤ 50 ∧ deeps es ≤ 50 ∧ ds.length ≠ es.length ∧ ∀ H', Same H H' → Q (.bl true) H'
theorem ok_law_unlike (kw : PySem.W.kitOne K (.ref T.C_Unlike) (.ref T.C_Wrong) = some false) : FnG P w K mg base 10 T.a__law_unlike T.d__law_unlike ["_law_one", "_law_other"] (spUnlike T) := by
  have G_Pattern_or := ok_Pattern_or (P := P) (w := w) (base := base) T
  refine fnG T.F__law_unlike sc__law_unlike ?_ (fun cdv A outer s H vs Q gd hr h => ?_)
  · rintro vs H Q E ⟨x, y, ds, es, rfl, _⟩
    rfl
  obtain ⟨x, y, ds, es, rfl, hx, hy, t1, t2, z1, z2, p1, p2, ne, q⟩ := h
  refine ⟨_, (pss_cons (ps_try_as (i := 3) rfl rfl sc__law_unlike.nd rfl rfl ⟨by rfl, by decide, Or.inl T.g_MoveError⟩ takes0
    (fun W pn xe tk _ => pss_one (ps_set (i := 2) sc__law_unlike.nd rfl (Or.inl rfl) (pe_op (op_orOwn G_Pattern_or T.sf_Pattern T.sp_Pattern_or T.fn_Pattern_or T.b_Pattern_or (passes_call (E := fun cls d H => ∀ σ : L2.St, σ.length = 4 → W cls d σ H) (takes_len tk) (fun _ _ σ _ h z => h σ z)) (hr.mono (by omega))) (pv 0) (pv 1))))
    (fun a oe cls d pn hz hf => pss_one (ps_ret (pe_and (pe_callB (call_isE0 hz hf) (by rfl) T.m_isinstance (by decide +kernel) (pa_cons (pv 3) (pa_cons (pe_glob (v := .ref T.C_Unlike) (u := .ref T.C_Unlike) (by rfl) T.g_Unlike rfl) pa_nil))) (pe_one (pe_not (pe_callB (call_isE0 hz hf) (by rfl) T.m_isinstance (by decide +kernel) (pa_cons (pv 3) (pa_cons (pe_glob (v := .ref T.C_Wrong) (u := .ref T.C_Wrong) (by rfl) T.g_Wrong rfl) pa_nil)))))))))
    (pss_one (ps_ret (pe_cmpR op_eq (pe_callB (call_repr hr gd) (by rfl) T.m_repr (by decide +kernel) (pa_cons (pv 2) pa_nil)) pe_str (nomark _))))), ?_⟩
  obtain ⟨dx, p, us, h1, h2, h3⟩ := id hx
  obtain ⟨dy, p', us2, g1, g2, g3⟩ := id hy
  refine ⟨_, rfl, _, rfl, x, dx, _, y, dy, _, rfl, rfl, h1, g1, x, y, ds, es, rfl, hx, hy, t1, t2, z1, z2, p1, p2, fun _ => ?_, fun e => absurd e ne⟩
  intro σ hσ
  obtain ⟨s0, s1, s2, s3, rfl⟩ : ∃ s0 s1 s2 s3, σ = [s0, s1, s2, s3] := by
    match σ, hσ with
    | [s0, s1, s2, s3], _ => exact ⟨s0, s1, s2, s3, rfl⟩
  refine ⟨true, T.m_Unlike, fun _ ea hea => ?_, fun c => nomatch c⟩
  refine ⟨_, rfl, T.C_Unlike, _, _, true, rfl, rfl, T.x_Unlike, rfl, fun u hu => hu, (by unfold PySem.W.kitOne; rw [if_pos (beq_self_eq_true _)]), true, rfl, ite_b (fun _ => ?_) (fun c => nomatch c)⟩
  refine ⟨_, rfl, T.C_Unlike, _, _, false, rfl, rfl, T.x_Unlike, rfl, fun u hu => hu, kw, false, rfl, ?_⟩
  exact q H (Same.refl _)
end
end K15
set_option maxRecDepth 100000
set_option maxHeartbeats 4000000
namespace K15
open PySem PySem.Spec L2 Fm
open Classical
/-! ### rows and patterns -/
mutual
theorem ints_size : ∀ d : D, (intsIn d).length ≤ d.size
  | .non => by simp [intsIn]
  | .bl _ => by simp [intsIn]
  | .int _ => by simp [intsIn, D.size]
  | .str _ => by simp [intsIn]
  | .dic => by simp [intsIn]
  | .lst ds => by
    have := ints_sizes ds
    simp only [intsIn, D.size]
    omega
  | .tup ds => by
    have := ints_sizes ds
    simp only [intsIn, D.size]
    omega
theorem ints_sizes : ∀ ds : List D, (intsOf ds).length ≤ sizes ds
  | [] => by simp [intsOf]
  | d :: r => by
    have h1 := ints_size d
    have h2 := ints_sizes r
    simp only [intsOf, sizes, List.length_append]
    omega
end
noncomputable def pt (r : List D) : List D := puts (numF r) r
theorem pt_ok {n : Nat} {r : List D} (h : RowOk n r) : RowOk n (pt r) := by
  obtain ⟨b1, b2, b3⟩ := kept_list (f := numF r) fun d hd => kept_of (fun u => ⟨_, rfl⟩) (h.tm d hd)
  refine ⟨areTerms_puts (fun u => ?_) h.1, ?_, ?_, ?_⟩
  · show decide ((0 : Int) ≤ ((firstsOf r).idxOf u : Nat)) = true
    exact decide_eq_true (by omega)
  · unfold pt
    rw [puts_map, List.length_map]
    exact h.2.1
  · unfold pt
    rw [b2]
    exact h.2.2.1
  · unfold pt
    rw [b1]
    exact h.2.2.2
theorem RowOk.okC {n : Nat} {r : List D} (h : RowOk n r) : OkC r := ⟨h.tm, by have := h.2.2.2; omega⟩
theorem gen_row {n : Nat} {r : List D} {rows : List (List D)} (h : RowOk n r) : RowOk n (genC 51 (colsOf n (r :: rows))) := by
  obtain ⟨a, b, c, d⟩ := gen_facts (k := 51) (rows := rows) h.1 h.2.1
  exact ⟨a, d, Nat.le_trans b h.2.2.1, Nat.le_trans c h.2.2.2⟩
theorem num_gen (k : Nat) (cols : List (List D)) : puts (numF (genC k cols)) (genC k cols) = genC k cols := by
  have e : genC k cols = cols.map (resF (fun c => ((addsC [] (cols.flatMap (leavesC k))).idxOf c : Nat)) k) := by
    unfold genC
    exact List.map_congr_left fun c _ => resC_F _ k c
  conv => lhs; rw [e]
  refine num_res (S := fun l => l ∈ addsC [] (cols.flatMap (leavesC k))) (fun a b ha hb h => ?_) fun l hl => addsC_mem hl
  have h : (addsC [] (cols.flatMap (leavesC k))).idxOf a = (addsC [] (cols.flatMap (leavesC k))).idxOf b := by exact_mod_cast h
  have l1 := List.idxOf_lt_length_of_mem ha
  have l2 := List.idxOf_lt_length_of_mem hb
  rw [← List.getElem_idxOf l1, ← List.getElem_idxOf l2]
  congr 1
theorem one_gen {n : Nat} {r : List D} (h : RowOk n r) : genC 51 (colsOf n [r]) = pt r := by
  have e : colsOf n [r] = r.map fun d => [d] := by
    refine List.ext_getElem (by rw [colsOf_len, List.length_map, h.2.1]) fun i h1 h2 => ?_
    rw [colsOf_len] at h1
    rw [List.getElem_map]
    have := colsOf_get h1 [r]
    rw [List.getElem?_eq_getElem (by rw [colsOf_len]; exact h1)] at this
    rw [Option.some.inj this]
    show [r.getD i .non] = _
    rw [List.getD_eq_getElem?_getD, List.getElem?_eq_getElem (by rw [h.2.1]; exact h1)]
    rfl
  rw [e]
  exact gen_one h.tm (by have := h.2.2.2; omega)
theorem pt_pt {n : Nat} {r : List D} (h : RowOk n r) : pt (pt r) = pt r := by
  have e := num_gen 51 (colsOf n [r])
  rw [one_gen h] at e
  exact e
theorem rows_ok {n : Nat} {rows : List (List D)} (h : ∀ r ∈ rows, RowOk n r) : RowsOk n rows := fun r hr => ⟨(h r hr).okC, (h r hr).2.1⟩
theorem pts_ok {n : Nat} {rows : List (List D)} (h : ∀ r ∈ rows, RowOk n r) : ∀ r ∈ rows.map pt, RowOk n r := fun r hr => by
  obtain ⟨r', h', rfl⟩ := List.mem_map.mp hr
  exact pt_ok (h r' h')
/-- what is its own numbering is shown shortly -/
theorem shown_ok {K : PySem.W.Frag} {H : Hp} {v : V} {n : Nat} {ds : List D} (h : RowOk n ds) (e : puts (numF ds) ds = ds) (hv : Dv H v (.tup ds)) : Shown K H v (.tup ds) ∧ (pdOf (.tup ds)).shown.length ≤ 10000000 := by
  have c1 := h.2.2.1
  have c2 := h.2.2.2
  have fi : intsIn (.tup ds) = intsOf ds := by simp [intsIn]
  have nd : noDic (.tup ds) = true := by simp [noDic, areTerms_nd h.1]
  have li := ints_sizes ds
  have l1 : (firstsOf ds).length ≤ (intsOf ds).length := nodup_len (firstsOf_nodup ds) fun u hu => by
    obtain ⟨d, hd, hf⟩ := flats_mem (firstsOf_mem.mp hu)
    exact intsOf_in hd (ints_of_flat (h.tm d hd) u hf)
  have sh : ∀ i ∈ intsOf ds, Short 13 20 i := fun i hi => by
    rw [← e] at hi
    obtain ⟨x, hx, hi2⟩ := intsOf_mem hi
    rw [puts_map] at hx
    obtain ⟨d, hd, rfl⟩ := List.mem_map.mp hx
    have kf2 : ∀ u : Int, ∃ z : Int, numF ds u = .int z ∧ (0 ≤ z ∧ z < 1000000) := fun u => ⟨_, rfl, by omega, by
      have : (firstsOf ds).idxOf u ≤ (firstsOf ds).length := List.idxOf_le_length
      omega⟩
    obtain ⟨a, b⟩ := ints_put kf2 (h.tm d hd) i hi2
    exact short_small a b
  have w : (13 + 2) * (2 * (D.tup ds).size + 20 * (intsIn (.tup ds)).length) + 13 ≤ 10000000 := by
    rw [fi]
    simp only [D.size]
    omega
  refine ⟨pd_ok (B := 13) (bits := 20) (by decide) hv (by rw [fi]; exact sh) nd (by simp only [D.deep]; omega) (by omega), ?_⟩
  have := pd_len (K := K) (B := 13) (bits := 20) (by decide) hv (by rw [fi]; exact sh) nd
  omega
theorem perm_paired {α β : Type} {F : α → β → Prop} {zs acc : List α} (h : zs.Perm acc) : ∀ {bs : List β}, Paired F acc bs → ∃ L, Paired F zs L ∧ L.Perm bs := by
  induction h with
  | nil => exact fun p => ⟨_, p, .refl _⟩
  | cons x _ ih =>
    intro bs p
    cases p with
    | cons a r =>
      obtain ⟨L, h1, h2⟩ := ih r
      exact ⟨_, .cons a h1, h2.cons _⟩
  | swap x y l =>
    intro bs p
    cases p with
    | cons a r =>
      cases r with
      | cons b r => exact ⟨_, .cons b (.cons a r), .swap _ _ _⟩
  | trans _ _ ih1 ih2 =>
    intro bs p
    obtain ⟨L, h1, h2⟩ := ih2 p
    obtain ⟨M, h3, h4⟩ := ih1 h1
    exact ⟨M, h3, h4.trans h2⟩
theorem perm_rows {L PR : List (List D)} (h : L.Perm PR) : ∃ σ : List Nat, L = σ.map (fun j => PR.getD j []) ∧ (∀ j ∈ σ, j < PR.length) ∧ ∀ j, j < PR.length → j ∈ σ := by
  have p : Paired (fun (r : List D) (j : Nat) => r = PR.getD j []) PR (List.range PR.length) := by
    have : ∀ (Q : List (List D)) (s : Nat) (f : Nat → List D), (∀ i, f (s + i) = Q.getD i []) → Paired (fun (r : List D) (j : Nat) => r = f j) Q (List.range' s Q.length) := by
      intro Q
      induction Q with
      | nil => exact fun _ _ _ => .nil
      | cons r Q ih =>
        intro s f hf
        rw [List.length_cons, List.range'_succ]
        refine .cons ?_ (ih (s + 1) f fun i => ?_)
        · have := hf 0
          simpa using this.symm
        · have := hf (i + 1)
          rw [List.getD_cons_succ] at this
          rw [← this]
          congr 1
          omega
    have := this PR 0 (fun j => PR.getD j []) fun i => by rw [Nat.zero_add]
    rw [List.range_eq_range']
    exact this
  obtain ⟨σ, h1, h2⟩ := perm_paired h p
  refine ⟨σ, ?_, fun j hj => List.mem_range.mp (h2.mem_iff.mp hj), fun j hj => h2.mem_iff.mpr (List.mem_range.mpr hj)⟩
  clear h2 p h
  induction h1 with
  | nil => rfl
  | cons a _ ih => rw [List.map_cons, ← ih, ← a]
theorem gen_perm {n k : Nat} {L : List (List D)} {r : List D} {rest : List (List D)} (h : L.Perm (r :: rest)) : genC k (colsOf n (r :: L)) = genC k (colsOf n (r :: rest)) := by
  obtain ⟨σ, e, h1, h2⟩ := perm_rows h
  have := gen_pick (n := n) (rows := r :: rest) (σ := 0 :: σ) (by simp) (fun j hj => by
    rcases List.mem_cons.mp hj with rfl | hj
    · simp
    · exact h1 j hj) (fun j hj => List.mem_cons_of_mem _ (h2 j hj)) k
  rw [List.map_cons, ← e] at this
  exact this
theorem gen_idem {n k : Nat} {r : List D} : genC k (colsOf n [r, r]) = genC k (colsOf n [r]) :=
  gen_pick (n := n) (rows := [r]) (σ := [0, 0]) (by simp) (fun j hj => by
    simp only [List.mem_cons, List.not_mem_nil, or_false, or_self] at hj
    rw [hj]
    simp) (fun j hj => by
    have : j = 0 := by simpa using hj
    rw [this]
    simp) k
theorem gen_swap {n k : Nat} {r s : List D} : genC k (colsOf n [s, r]) = genC k (colsOf n [r, s]) :=
  gen_pick (n := n) (rows := [r, s]) (σ := [1, 0]) (by simp) (fun j hj => by
    simp only [List.mem_cons, List.not_mem_nil, or_false] at hj
    rcases hj with rfl | rfl <;> simp) (fun j hj => by
    have hj : j < 2 := hj
    simp only [List.mem_cons, List.not_mem_nil, or_false]
    omega) k
/-- each row is an instance of what all have in common -/
theorem row_inst {n : Nat} {rows : List (List D)} (h : ∀ r ∈ rows, RowOk n r) {r : List D} (hr : r ∈ rows) : ∃ f, puts f (genC 51 (colsOf n (rows.map pt))) = r := by
  obtain ⟨i, hi, rfl⟩ := List.mem_iff_getElem.mp hr
  obtain ⟨f, hf⟩ := gen_inst (rows_ok (pts_ok h)) (i := i) (by rw [List.length_map]; exact hi)
  rw [List.getElem_map] at hf
  have t := (h _ (List.getElem_mem hi)).tm
  cases rows with
  | nil => cases hr
  | cons r0 rest =>
    have G : RowOk n (genC 51 (colsOf n ((r0 :: rest).map pt))) := by
      rw [List.map_cons]
      exact gen_row (pt_ok (h _ List.mem_cons_self))
    exact ⟨_, by rw [← puts_puts (backN (r0 :: rest)[i]) f G.tm, hf]; exact num_back t⟩
section
variable {P : Program} {w : World} {K : PySem.W.Frag} {mg : Str → Option Value} {base : Heap} (T : Txt K mg)
theorem make_patV {σ : L2.St} {H : Hp} {R : VK} {E1 : XK} {i : Nat} {a : Addr} {us : List V} {ds : List D} (hv : σ[i]? = some (some (.ref a))) (ha : H a = some (.lst us) ∨ H a = some (.tup us)) (hd : DvL H us ds) (are : areTerms ds = true) (hz : sizes ds ≤ 100000) (hp : deeps ds ≤ 100)
    (q : ∀ x H', Same H H' → H x = none → PatAt T.C_Pattern H' x (puts (numF ds) ds) → R (.ref x) H') : tMake T.C_Pattern (spInit T) [] E1 (tCons (tVar i) tNil) σ H R :=
  ⟨_, hv, fun x dx hx hdx hne => by
    have k1 : Same H (upd (upd H dx (.own x)) x (.ins T.C_Pattern dx [])) := (Same.new hdx).trans (Same.new ((upd_ne hne.symm).trans hx))
    refine ⟨x, dx, .ref a, rfl, upd_same, .inl ⟨a, us, ds, rfl, fun z => ?_, ha.imp (k1 _ _) (k1 _ _), hd.same k1 _ _, hz, hp, fun _ H' keep pat => ⟨rfl, q x H' (fun y o hy => keep y o (k1 _ _ hy) fun z => ?_) hx pat⟩, fun e => absurd (e.symm.trans are) (by decide)⟩⟩
    · rw [z, hx] at ha
      rcases ha with ha | ha <;> cases ha
    · rw [z, hx] at hy
      cases hy⟩
theorem make_patC {σ : L2.St} {H : Hp} {R : VK} {E1 : XK} {i : Nat} {a : Addr} {us : List V} {ds : List D} (hv : σ[i]? = some (some (.ref a))) (ha : H a = some (.lst us)) (hd : DvL H us ds) (are : areTerms ds = true) (hz : sizes ds ≤ 90000) (hp : deeps ds ≤ 100)
    (q : ∀ x H', Same H H' → H x = none → PatAt T.C_Pattern H' x (puts (numF (ds ++ [.int 0])) (ds ++ [.int 0])) → R (.ref x) H') : tMake T.C_Pattern (spInit T) [] E1 (tCons (tOp rCat (tVar i) (tLst (tCons (tC (.int 0)) tNil))) tNil) σ H R := by
  refine ⟨_, hv, by (show 1 ≤ sizeLine; decide), fun l hl => ?_⟩
  have k1 : Same H (upd H l (.lst [.int 0])) := Same.new hl
  have len := hd.len
  have ls := len_sizes ds
  refine ⟨a, l, us, _, rfl, rfl, k1 _ _ ha, upd_same, sz (by simp only [List.length_cons, List.length_nil]; omega), fun m hm => ?_⟩
  have k2 := k1.trans (Same.new (o := .lst (us ++ [.int 0])) hm)
  refine fun x dx hx hdx hne => ?_
  have k3 := k2.trans ((Same.new (o := .own x) hdx).trans (Same.new (o := .ins T.C_Pattern dx []) ((upd_ne hne.symm).trans hx)))
  have em : (upd (upd (upd (upd H l (.lst [.int 0])) m (.lst (us ++ [.int 0]))) dx (.own x)) x (.ins T.C_Pattern dx [])) m = some (.lst (us ++ [.int 0])) := ((Same.new (o := .own x) hdx).trans (Same.new (o := .ins T.C_Pattern dx []) ((upd_ne hne.symm).trans hx))) _ _ upd_same
  refine ⟨x, dx, .ref m, rfl, upd_same, .inl ⟨m, us ++ [.int 0], ds ++ [.int 0], rfl, fun z => ?_, .inl em, (hd.same k3 _ _).app (.cons (.int 0) .nil), ?_, ?_, fun _ H' keep pat => ⟨rfl, q x H' (fun y o hy => keep y o (k3 _ _ hy) fun z => ?_) (Same.none k2 hx) pat⟩, fun e => absurd e (by rw [areTerms_app, are]; decide)⟩⟩
  · rw [z, upd_same] at em
    cases em
  · rw [sizes_app]
    simp only [sizes, D.size]
    omega
  · rw [deeps_app]
    simp only [deeps, D.deep]
    omega
  · have := k2 _ _ hy
    rw [z, hx] at this
    cases this
theorem cons_patV {ta : TA} {σ : L2.St} {H : Hp} {Q : List V → Hp → Prop} {E1 : XK} {i : Nat} {a : Addr} {us : List V} {ds : List D} (hv : σ[i]? = some (some (.ref a))) (ha : H a = some (.lst us) ∨ H a = some (.tup us)) (hd : DvL H us ds) (are : areTerms ds = true) (hz : sizes ds ≤ 100000) (hp : deeps ds ≤ 100)
    (q : ∀ x H', Same H H' → H x = none → PatAt T.C_Pattern H' x (puts (numF ds) ds) → ta σ H' fun vs H2 => Q (.ref x :: vs) H2) : tCons (tMake T.C_Pattern (spInit T) [] E1 (tCons (tVar i) tNil)) ta σ H Q :=
  make_patV T (R := fun v H1 => ta σ H1 fun vs H2 => Q (v :: vs) H2) hv ha hd are hz hp q
end
end K15
set_option maxRecDepth 100000
set_option maxHeartbeats 4000000
namespace K15
open PySem PySem.Spec L2 Fm
theorem paired_get' {α β : Type} {R : α → β → Prop} : ∀ {xs : List α} {ys : List β}, Paired R xs ys → ∀ (n : Nat) (x : α), xs[n]? = some x → ∃ y, ys[n]? = some y ∧ R x y
  | _, _, .nil, n, y, h => by simp at h
  | _, _, .cons a b, 0, y, h => by simp at h; subst h; exact ⟨_, rfl, a⟩
  | _, _, .cons a b, n + 1, y, h => by
    rw [List.getElem?_cons_succ] at h
    obtain ⟨z, h1, h2⟩ := paired_get' b n y h
    exact ⟨z, by rw [List.getElem?_cons_succ]; exact h1, h2⟩
/-- [e for x in xs], each turn yields what stands for its row -/
theorem lc_each {ρ : Type} {K : PySem.W.Frag} {te : TE} {tt : TT} {σ : L2.St} {H : Hp} {a : Addr} {xs : List V} {rs : List ρ} {j : Nat} {vs : List Nat} {Dl : Addr} {Qd : Hp → Prop} (F : V → ρ → Prop) (G : Hp → V → ρ → Prop)
    (ha : H a = some (.lst xs)) (hp : Paired F xs rs) (hD : H Dl = none) (hz : xs.length ≤ 100000)
    (hG : ∀ H1 H2 y r, r ∈ rs → (∃ l, H1 Dl = some (.lst l)) → (∀ b o, H1 b = some o → b ≠ Dl → H2 b = some o) → G H1 y r → G H2 y r)
    (hw : ∀ x, wipe ((wipe σ vs).set j (some x)) vs = wipe σ vs) (he : ∀ σ' H' (R : Bool → Hp → Prop), R true H' → tt σ' H' R)
    (hv : ∀ (x : V) (r : ρ) (H' : Hp) (R : VK), Same H H' → (∃ l, H' Dl = some (.lst l)) → r ∈ rs → F x r → (∀ y H2, Same H' H2 → G H2 y r → R y H2) → te ((wipe σ vs).set j (some x)) H' R)
    (q : ∀ H' acc, Same H H' → H' Dl = some (.lst acc) → Paired (G H') acc rs → Qd H') :
    ∃ W : Nat → Nat → Hp → Prop, (∃ m, W 0 m (upd H Dl (.lst []))) ∧ ∀ i m H, W i m H → ((Itl K a).stop i H ∧ Qd H) ∨ ((Itl K a).go i H ∧ ∃ Nx : Hp → Prop, (∀ H', Nx H' → ∃ m', m' < m ∧ W (i + 1) m' H') ∧
      ∀ x H', (Itl K a).yld i H x H' → gName j x (wipe σ vs) H' fun σ2 H2 => wipe σ2 vs = wipe σ vs ∧ tt σ2 H2 fun b H3 => if b = true then te σ2 H3 fun y H4 => ∃ acc, H4 Dl = some (.lst acc) ∧ acc.length < sizeLine ∧ Nx (upd H4 Dl (.lst (acc ++ [y]))) else Nx H3) := by
  have ln := Paired.length hp
  refine lc_it (walk_list (K := K) (a := a) (xs := xs)) (fun i H' => Same H H' ∧ ∃ acc, H' Dl = some (.lst acc) ∧ Paired (G H') acc (rs.take i)) ⟨Same.new hD, [], upd_same, .nil⟩ (fun i H' _ h => SqL.of (h.1 _ _ ha)) ?_ ?_
  · rintro i x H1 H2 hi ⟨k, acc, hl, hd⟩ y0
    obtain ⟨rfl, hy⟩ := y0
    obtain ⟨r, hr, fx⟩ := paired_get' hp i x hy
    refine ⟨hw _, he _ _ _ ?_⟩
    rw [if_pos rfl]
    have mr : r ∈ rs := List.mem_of_getElem? hr
    have la := Paired.length hd
    refine hv x r _ _ k ⟨acc, hl⟩ mr fx fun y H3 k3 g => ⟨acc, k3 _ _ hl, ?_, Same.upd (k.trans k3) hD, acc ++ [y], upd_same, ?_⟩
    · rw [List.length_take] at la
      exact szl (by omega)
    · rw [take_succ' hr]
      have st : ∀ b o, H3 b = some o → b ≠ Dl → (upd H3 Dl (.lst (acc ++ [y]))) b = some o := fun b o hb nb => by rw [upd_ne nb]; exact hb
      refine paired_snoc (paired_keep hd fun a' _ r' hr' g' => hG H3 _ a' r' (List.mem_of_mem_take hr') ⟨acc, k3 _ _ hl⟩ st (hG _ H3 a' r' (List.mem_of_mem_take hr') ⟨acc, hl⟩ (fun b o hb _ => k3 _ _ hb) g')) (hG H3 _ y r mr ⟨acc, k3 _ _ hl⟩ st g)
  · rintro H' ⟨k, acc, hl, hd⟩
    rw [ln, List.take_length] at hd
    exact q H' acc k hl hd
/-- a pattern stands though a list changes -/
theorem PatAt.keep {C Dl : Addr} {H1 H2 : Hp} {x : Addr} {ds : List D} (t : ∀ d ∈ ds, Tm d) (hl : ∃ l, H1 Dl = some (.lst l)) (k : ∀ b o, H1 b = some o → b ≠ Dl → H2 b = some o) (h : PatAt C H1 x ds) : PatAt C H2 x ds := by
  obtain ⟨l, hl⟩ := hl
  obtain ⟨dx, p, us, a, b, c⟩ := h
  refine ⟨dx, p, us, k _ _ a fun z => ?_, k _ _ b fun z => ?_, DvL.keepT (fun q xs e => k _ _ e fun z => ?_) _ _ t c⟩
  · rw [z, hl] at a
    cases a
  · rw [z, hl] at b
    cases b
  · rw [z, hl] at e
    cases e
/-- [x for x in xs if no], empty -/
theorem lc_none {ρ : Type} {K : PySem.W.Frag} {te : TE} {tt : TT} {σ : L2.St} {H : Hp} {a : Addr} {xs : List V} {rs : List ρ} {j : Nat} {vs : List Nat} {Dl : Addr} {Qd : Hp → Prop} (F : V → ρ → Prop)
    (ha : H a = some (.lst xs)) (hp : Paired F xs rs) (hD : H Dl = none)
    (hw : ∀ x, wipe ((wipe σ vs).set j (some x)) vs = wipe σ vs)
    (hv : ∀ (x : V) (r : ρ) (H' : Hp) (R : Bool → Hp → Prop), Same H H' → r ∈ rs → F x r → (∀ H2, Same H' H2 → R false H2) → tt ((wipe σ vs).set j (some x)) H' R)
    (q : ∀ H', Same H H' → H' Dl = some (.lst []) → Qd H') :
    ∃ W : Nat → Nat → Hp → Prop, (∃ m, W 0 m (upd H Dl (.lst []))) ∧ ∀ i m H, W i m H → ((Itl K a).stop i H ∧ Qd H) ∨ ((Itl K a).go i H ∧ ∃ Nx : Hp → Prop, (∀ H', Nx H' → ∃ m', m' < m ∧ W (i + 1) m' H') ∧
      ∀ x H', (Itl K a).yld i H x H' → gName j x (wipe σ vs) H' fun σ2 H2 => wipe σ2 vs = wipe σ vs ∧ tt σ2 H2 fun b H3 => if b = true then te σ2 H3 fun y H4 => ∃ acc, H4 Dl = some (.lst acc) ∧ acc.length < sizeLine ∧ Nx (upd H4 Dl (.lst (acc ++ [y]))) else Nx H3) := by
  refine lc_it (walk_list (K := K) (a := a) (xs := xs)) (fun i H' => Same H H' ∧ H' Dl = some (.lst [])) ⟨Same.new hD, upd_same⟩ (fun i H' _ h => SqL.of (h.1 _ _ ha)) ?_ (fun H' h => q H' h.1 h.2)
  rintro i x H1 H2 hi ⟨k, hl⟩ y0
  obtain ⟨rfl, hy⟩ := y0
  obtain ⟨r, hr, fx⟩ := paired_get' hp i x hy
  refine ⟨hw _, hv x r _ _ k (List.mem_of_getElem? hr) fx fun H3 k3 => ?_⟩
  rw [if_neg (by decide)]
  exact ⟨k.trans k3, k3 _ _ hl⟩
end K15
set_option maxRecDepth 100000
set_option maxHeartbeats 4000000
namespace K15
open PySem PySem.Spec L2 Fm
theorem acc_refs {α : Type} {F : Addr → α → Prop} {acc : List V} {rs : List α} (h : Paired (fun (y : V) (r : α) => ∃ c, y = .ref c ∧ F c r) acc rs) : ∃ as : List Addr, acc = as.map V.ref ∧ Paired F as rs := by
  induction h with
  | nil => exact ⟨[], rfl, .nil⟩
  | cons x _ ih =>
    obtain ⟨c, rfl, f⟩ := x
    obtain ⟨as, rfl, p⟩ := ih
    exact ⟨c :: as, rfl, .cons f p⟩
theorem of_refs {α : Type} {F : Addr → α → Prop} {as : List Addr} {rs : List α} (h : Paired F as rs) : Paired (fun (y : V) (r : α) => ∃ c, y = .ref c ∧ F c r) (as.map V.ref) rs := by
  induction h with
  | nil => exact .nil
  | cons x _ ih => exact .cons ⟨_, rfl, x⟩ ih
theorem paired_mapR {α β γ : Type} {F : α → β → Prop} {f : γ → β} {as : List α} {cs : List γ} (h : Paired (fun a c => F a (f c)) as cs) : Paired F as (cs.map f) := by
  induction h with
  | nil => exact .nil
  | cons x _ ih => exact .cons x ih
theorem sum_le {α : Type} {f : α → Nat} {M : Nat} : ∀ {L : List α}, (∀ x ∈ L, f x ≤ M) → (L.map f).sum ≤ M * L.length
  | [], _ => by simp
  | x :: L, h => by
    have h1 := h x List.mem_cons_self
    have h2 := sum_le (L := L) fun y hy => h y (List.mem_cons_of_mem _ hy)
    simp only [List.map_cons, List.sum_cons, List.length_cons, Nat.mul_add]
    omega
theorem cutV_two {v0 v1 : V} {r : List V} : cutV (v0 :: v1 :: r) none (some 2) = [v0, v1] := by
  unfold cutV
  have e1 : HT.sIx (v0 :: v1 :: r).length 0 none = 0 := rfl
  have e2 : HT.sIx (v0 :: v1 :: r).length (v0 :: v1 :: r).length (some 2) = 2 := by
    simp [HT.sIx]
  rw [e1, e2]
  rfl
/-- a row and one term more -/
theorem pt0_ok {n : Nat} {r : List D} (h : RowOk n r) : areTerms (pt (r ++ [.int 0])) = true ∧ (pt (r ++ [.int 0])).length = n + 1 ∧ sizes (pt (r ++ [.int 0])) ≤ 8001 ∧ deeps (pt (r ++ [.int 0])) ≤ 8 := by
  have tm : ∀ d ∈ r ++ [.int 0], Tm d := fun d hd => by
    rcases List.mem_append.mp hd with hd | hd
    · exact h.tm d hd
    · rw [List.mem_singleton.mp hd]
      exact .int 0
  obtain ⟨b1, b2, b3⟩ := kept_list (f := numF (r ++ [.int 0])) fun d hd => kept_of (fun u => ⟨_, rfl⟩) (tm d hd)
  refine ⟨areTerms_puts (fun u => ?_) (by rw [areTerms_app, h.1]; decide), ?_, ?_, ?_⟩
  · show decide ((0 : Int) ≤ ((firstsOf (r ++ [.int 0])).idxOf u : Nat)) = true
    exact decide_eq_true (by omega)
  · unfold pt
    rw [puts_map, List.length_map, List.length_append, h.2.1]
    rfl
  · unfold pt
    rw [b2, sizes_app]
    have := h.2.2.1
    simp only [sizes, D.size]
    omega
  · unfold pt
    rw [b1, deeps_app]
    have := h.2.2.2
    simp only [deeps, D.deep]
    omega
theorem tup_keep {H H' : Hp} {y : V} {ds : List D} (t : ∀ d ∈ ds, Tm d) (k : ∀ b xs, H b = some (.tup xs) → H' b = some (.tup xs)) (h : Dv H y (.tup ds)) : Dv H' y (.tup ds) := by
  cases h with
  | tup a b => exact .tup (k _ _ a) (DvL.keepT k _ _ t b)
theorem dvl_of {H : Hp} {acc : List V} {ds : List D} (h : Paired (fun y d => Dv H y d) acc ds) : DvL H acc ds := by
  induction h with
  | nil => exact .nil
  | cons x _ ih => exact .cons x ih
/-- what stands in a turn of the law: rows, patterns, what is due -/
structure LSt (C b lr lp td : Addr) (as : List Addr) (rows : List (List D)) (acc : List V) (wd : List V) (G : List D) (H : Hp) : Prop where
  hlr : H lr = some (.lst (as.map V.ref))
  rs : Paired (RowAt b H) as rows
  hlp : H lp = some (.lst acc)
  ps : Paired (fun (y : V) (r : List D) => ∃ z, y = .ref z ∧ PatAt C H z (pt r)) acc rows
  htd : H td = some (.tup wd)
  dw : DvL H wd G
theorem LSt.go {C b p lr lp td : Addr} {as : List Addr} {rows : List (List D)} {acc wd : List V} {G : List D} {n : Nat} {H H' : Hp} (h : LSt C b lr lp td as rows acc wd G H) (ok : ∀ r ∈ rows, RowOk n r) (tG : ∀ d ∈ G, Tm d) (nr : lr ≠ b) (np : lp ≠ b) (B : Bag b p H) (g : Go b p H H') : LSt C b lr lp td as rows acc wd G H' :=
  ⟨g.at nr h.hlr, paired_keep h.rs fun a _ r hr x => x.go g B (ok r hr).tm, g.at np h.hlp, paired_keep h.ps fun y _ r hr ⟨z, e, pa⟩ => ⟨z, e, pa.go g B (pt_ok (ok r hr)).tm⟩, tup_go g B _ _ h.htd, DvL.keepT (tup_go g B) _ _ tG h.dw⟩
end K15
set_option maxRecDepth 100000
set_option maxHeartbeats 8000000
namespace K15
open PySem L2 Fm
def rLstK (K : PySem.W.Frag) : List V → Hp → VK → Prop := fun xs H Q => ∃ p ys, xs = [.ref p] ∧ (SqL K H p ys ∨ SqT K H p ys) ∧ ∀ l, H l = none → Q (.ref l) (upd H l (.lst ys))
theorem call_lstK {X : Cx} {K : PySem.W.Frag} (h : X.K = K) : CallR X (.type "list") (rLstK K) := by subst h; exact call_list_of
def rTupK (K : PySem.W.Frag) : List V → Hp → VK → Prop := fun xs H Q => ∃ p ys, xs = [.ref p] ∧ ((SqL K H p ys ∧ ∀ l, H l = none → Q (.ref l) (upd H l (.tup ys))) ∨ (SqT K H p ys ∧ Q (.ref p) H))
theorem call_tupK {X : Cx} {K : PySem.W.Frag} (h : X.K = K) : CallR X (.type "tuple") (rTupK K) := by subst h; exact call_tuple_of
section
variable {P : Program} {w : World} {K : PySem.W.Frag} {mg : Str → Option Value} {base : Heap} (T : Txt K mg)
def spLaw (K : PySem.W.Frag) : Sp := fun vs H Q _ => ∃ (a : Addr) (ns : List Int), vs = [.ref a] ∧ SqL K H a (ns.map V.int) ∧ ns.length ≤ 63 ∧ ∀ H', Q (.bl true) H'
theorem ok_law (Kp : PKit T) (kw : PySem.W.kitOne K (.ref T.C_Unlike) (.ref T.C_Wrong) = some false) : FnG P w K mg base 70 T.a_law T.d_law ["_law_script"] (spLaw K) := by
  have G__law_bag := ok_law_bag (P := P) (w := w) (base := base) T
  have G__law_names := ok_law_namesK (P := P) (w := w) (base := base) T
  have G__law_rows := ok_law_rows (P := P) (w := w) (base := base) T
  have G__law_mixed := ok_law_mixed (P := P) (w := w) (base := base) T
  have G__law_general := ok_law_general (P := P) (w := w) (base := base) T
  have G__law_alike := ok_law_alike (P := P) (w := w) (base := base) T
  have G__law_alikeP := ok_law_alikeP (P := P) (w := w) (base := base) T Kp
  have G__law_unlike := ok_law_unlike (P := P) (w := w) (base := base) T kw
  have G_Pattern_init := ok_Pattern_init (P := P) (w := w) (base := base) T
  have G_Pattern_terms := ok_Pattern_terms (P := P) (w := w) (base := base) T
  have G_Pattern_contains := ok_Pattern_contains (P := P) (w := w) (base := base) T
  have G_Pattern_eq := ok_Pattern_eq (P := P) (w := w) (base := base) T Kp
  have G_Pattern_or := ok_Pattern_or (P := P) (w := w) (base := base) T
  refine fnG T.F_law sc_law ?_ (fun cdv A outer s H vs Q gd hr h => ?_)
  · rintro vs H Q E ⟨a, ns, rfl, _⟩
    rfl
  obtain ⟨a, ns, rfl, hs, hn, q⟩ := h
  refine ⟨_, 
    (pss_cons (ps_set (i := 1) sc_law.nd rfl (Or.inl rfl) (pe_call G__law_bag (hr.mono (by omega)) (by rfl) T.f__law_bag T.F__law_bag.kp T.b__law_bag .nil pass0 (pa_cons (pv 0) pa_nil)))
    (pss_cons (ps_set (i := 2) sc_law.nd rfl (Or.inl rfl) (pe_call G__law_names (hr.mono (by omega)) (by rfl) T.f__law_names T.F__law_names.kp T.b__law_names .nil pass0 (pa_cons (pv 1) (pa_cons pe_int pa_nil))))
    (pss_cons (ps_for PassesOwn.never rfl (pi_range1 (by rfl) T.m_range (pa_cons pe_int pa_nil)) (pg_name (i := 3) sc_law.nd rfl (Or.inl rfl)) (pss_cons (ps_set (i := 4) sc_law.nd rfl (Or.inl rfl) (pe_call G__law_rows (hr.mono (by omega)) (by rfl) T.f__law_rows T.F__law_rows.kp T.b__law_rows .nil pass0 (pa_cons (pv 1) (pa_cons (pv 2) pa_nil)))) (pss_cons (ps_setLc (i := 5) (own := [("_law_row", 12)]) (g := gName 12) (tt := tYes) rfl sc_law.nd rfl rfl (sw_true rfl rfl rfl (by decide +kernel)) (pi_list (pv 4)) (blkOk_by (N := N_law) (sc := defScope s_law) (by decide +kernel)) (fun _ _ _ _ _ => pg_name (i := 12) sc_law.nd rfl (Or.inl rfl)) (fun _ _ _ _ _ => pts_nil) (fun _ _ _ _ _ => pe_make T.mk_Pattern G_Pattern_init (hr.mono (by omega)) (by rfl) T.g_Pattern T.b_Pattern_init .nil passL (pa_cons (pv 12) pa_nil))) (pss_cons (ps_set (i := 6) sc_law.nd rfl (Or.inl rfl) (pe_call G__law_general (hr.mono (by omega)) (by rfl) T.f__law_general T.F__law_general.kp T.b__law_general .nil pass0 (pa_cons (pe_lc (own := [("_law_pattern", 9)]) (g := gName 9) (tt := tYes) rfl sc_law.nd (pi_list (pv 5)) (blkOk_by (N := N_law) (sc := defScope s_law) (by decide +kernel)) (fun _ _ _ _ _ => pg_name (i := 9) sc_law.nd rfl (Or.inl rfl)) (fun _ _ _ _ _ => pts_nil) (fun _ _ _ _ _ => pe_callTy (T := "list") (r := rLstK K) (call_lstK rfl) (by rfl) T.m_list (by decide +kernel) (pa_cons (pe_prop (pv 9) T.cl_Pattern T.pr_Pattern_terms G_Pattern_terms (hr.mono (by omega)) T.b_Pattern_terms .nil pass0 (by rfl)) pa_nil))) pa_nil))) (pss_cons (ps_for PassesOwn.never rfl (pi_range1 (by rfl) T.m_range (pa_cons pe_int pa_nil)) (pg_name (i := 7) sc_law.nd rfl (Or.inl rfl)) (pss_cons (ps_set (i := 8) sc_law.nd rfl (Or.inr rfl) (pe_ix ix_list (pv 5) pe_int (fun _ _ => rfl))) (pss_cons (ps_for PassesOwn.never rfl (pi_list (pe_call G__law_mixed (hr.mono (by omega)) (by rfl) T.f__law_mixed T.F__law_mixed.kp T.b__law_mixed .nil pass0 (pa_cons (pv 1) (pa_cons (pv 5) pa_nil)))) (pg_name (i := 9) sc_law.nd rfl (Or.inl rfl)) (pss_one (ps_set (i := 8) sc_law.nd rfl (Or.inr rfl) (pe_op (op_orOwn G_Pattern_or T.sf_Pattern T.sp_Pattern_or T.fn_Pattern_or T.b_Pattern_or passL (hr.mono (by omega))) (pv 8) (pv 9))))) (pss_cons (ps_if (PW.pt (pw_or (pt_not (pt_val (pe_callG G__law_alikeP (hr.mono (by omega)) gd (by rfl) T.f__law_alike T.F__law_alike.kp T.b__law_alike (pa_cons (pv 8) (pa_cons (pe_make T.mk_Pattern G_Pattern_init (hr.mono (by omega)) (by rfl) T.g_Pattern T.b_Pattern_init .nil passL (pa_cons (pv 6) pa_nil)) pa_nil))))) (pw_or1 (pt_not (pt_val (pe_callG G__law_alike (hr.mono (by omega)) gd (by rfl) T.f__law_alike T.F__law_alike.kp T.b__law_alike (pa_cons (pe_prop (pv 8) T.cl_Pattern T.pr_Pattern_terms G_Pattern_terms (hr.mono (by omega)) T.b_Pattern_terms .nil pass0 (by rfl)) (pa_cons (pv 6) pa_nil)))))))) (pss_one (ps_ret pe_bl)) pss_nil) (pss_cons (ps_set (i := 10) sc_law.nd rfl (Or.inl rfl) (pe_op (op_orOwn G_Pattern_or T.sf_Pattern T.sp_Pattern_or T.fn_Pattern_or T.b_Pattern_or passL (hr.mono (by omega))) (pe_ix ix_list (pv 5) pe_int (fun _ _ => rfl)) (pe_ix ix_list (pv 5) pe_int (fun _ _ => rfl)))) (pss_one (ps_if (PW.pt (pw_or (pt_not (pt_val (pe_callG G__law_alike (hr.mono (by omega)) gd (by rfl) T.f__law_alike T.F__law_alike.kp T.b__law_alike (pa_cons (pe_prop (pv 10) T.cl_Pattern T.pr_Pattern_terms G_Pattern_terms (hr.mono (by omega)) T.b_Pattern_terms .nil pass0 (by rfl)) (pa_cons (pe_call G__law_general (hr.mono (by omega)) (by rfl) T.f__law_general T.F__law_general.kp T.b__law_general .nil pass0 (pa_cons (pe_slice sl_list (pv 4) po_none (po_some pe_int)) pa_nil)) pa_nil))))) (pw_or1 (pt_cmpR (op_neOwn G_Pattern_eq Kp.hne (show PySem.W.subIn K (.ref T.C_Pattern) (.type "object") = some true from Kp.hm) T.sp_Pattern_eq T.fn_Pattern_eq T.b_Pattern_eq pass0 (hr.mono (by omega))) (pv 10) (pe_op (op_orOwn G_Pattern_or T.sf_Pattern T.sp_Pattern_or T.fn_Pattern_or T.b_Pattern_or passL (hr.mono (by omega))) (pe_ix ix_list (pv 5) pe_int (fun _ _ => rfl)) (pe_ix ix_list (pv 5) pe_int (fun _ _ => rfl))) (nomark _))))) (pss_one (ps_ret pe_bl)) pss_nil))))))) (pss_cons (ps_if (PW.pt (pw_or (pt_cmpR (op_neD hr.units) (pe_lc (own := [("_law_row", 12)]) (g := gName 12) rfl sc_law.nd (pi_list (pv 4)) (blkOk_by (N := N_law) (sc := defScope s_law) (by decide +kernel)) (fun _ _ _ _ _ => pg_name (i := 12) sc_law.nd rfl (Or.inl rfl)) (fun _ _ _ _ _ => pts_one (pt_cmpR (op_niOwn G_Pattern_contains T.sp_Pattern_contains T.fn_Pattern_contains T.b_Pattern_contains pass0 (hr.mono (by omega))) (pe_callTy (T := "tuple") (r := rTupK K) (call_tupK rfl) (by rfl) T.m_tuple (by decide +kernel) (pa_cons (pv 12) pa_nil)) (pv 8) (by rfl))) (fun _ _ _ _ _ => pv 12)) (pe_lst pa_nil) (nomark _)) (pw_or1 (pt_cmpR (op_neOwn G_Pattern_eq Kp.hne (show PySem.W.subIn K (.ref T.C_Pattern) (.type "object") = some true from Kp.hm) T.sp_Pattern_eq T.fn_Pattern_eq T.b_Pattern_eq pass0 (hr.mono (by omega))) (pe_op (op_orOwn G_Pattern_or T.sf_Pattern T.sp_Pattern_or T.fn_Pattern_or T.b_Pattern_or passL (hr.mono (by omega))) (pv 8) (pv 8)) (pv 8) (nomark _))))) (pss_one (ps_ret pe_bl)) pss_nil) (pss_cons (ps_setLc (i := 11) (own := [("_law_row", 12)]) (g := gName 12) (tt := tYes) rfl sc_law.nd rfl rfl (sw_true rfl rfl rfl (by decide +kernel)) (pi_list (pv 4)) (blkOk_by (N := N_law) (sc := defScope s_law) (by decide +kernel)) (fun _ _ _ _ _ => pg_name (i := 12) sc_law.nd rfl (Or.inl rfl)) (fun _ _ _ _ _ => pts_nil) (fun _ _ _ _ _ => pe_make T.mk_Pattern G_Pattern_init (hr.mono (by omega)) (by rfl) T.g_Pattern T.b_Pattern_init .nil passL (pa_cons (pe_op op_cat (pv 12) (pe_lst (pa_cons pe_int pa_nil))) pa_nil))) (pss_cons (ps_if (PW.pt (pw_or (pt_not (pt_val (pe_callG G__law_unlike (hr.mono (by omega)) gd (by rfl) T.f__law_unlike T.F__law_unlike.kp T.b__law_unlike (pa_cons (pe_ix ix_list (pv 5) pe_int (fun _ _ => rfl)) (pa_cons (pe_ix ix_list (pv 11) pe_int (fun _ _ => rfl)) pa_nil))))) (pw_or1 (pt_not (pt_val (pe_callG G__law_unlike (hr.mono (by omega)) gd (by rfl) T.f__law_unlike T.F__law_unlike.kp T.b__law_unlike (pa_cons (pe_ix ix_list (pv 11) (pe_un un_neg pe_int) (fun _ _ => rfl)) (pa_cons (pe_ix ix_list (pv 5) (pe_un un_neg pe_int) (fun _ _ => rfl)) pa_nil)))))))) (pss_one (ps_ret pe_bl)) pss_nil) (pss_one (ps_if (pt_cmpR (op_neD hr.units) (pe_lc (own := [("_law_pattern", 9)]) (g := gName 9) (tt := tYes) rfl sc_law.nd (pi_list (pv 5)) (blkOk_by (N := N_law) (sc := defScope s_law) (by decide +kernel)) (fun _ _ _ _ _ => pg_name (i := 9) sc_law.nd rfl (Or.inl rfl)) (fun _ _ _ _ _ => pts_nil) (fun _ _ _ _ _ => pe_prop (pv 9) T.cl_Pattern T.pr_Pattern_terms G_Pattern_terms (hr.mono (by omega)) T.b_Pattern_terms .nil pass0 (by rfl))) (pe_lc (own := [("_law_row", 12)]) (g := gName 12) (tt := tYes) rfl sc_law.nd (pi_list (pv 4)) (blkOk_by (N := N_law) (sc := defScope s_law) (by decide +kernel)) (fun _ _ _ _ _ => pg_name (i := 12) sc_law.nd rfl (Or.inl rfl)) (fun _ _ _ _ _ => pts_nil) (fun _ _ _ _ _ => pe_call G__law_general (hr.mono (by omega)) (by rfl) T.f__law_general T.F__law_general.kp T.b__law_general .nil pass0 (pa_cons (pe_lst (pa_cons (pv 12) pa_nil)) pa_nil))) (nomark _)) (pss_one (ps_ret pe_bl)) pss_nil))))))))))
    (pss_one (ps_ret pe_bl))))), ?_⟩
  refine ⟨_, rfl, a, ns, rfl, hs, hn, fun b p H1 hb k1 B1 => ?_⟩
  refine ⟨_, rfl, b, p, 3, rfl, B1, by decide, by decide, fun nm H2 xs g2 hnm lx okx => ?_⟩
  obtain ⟨x0, x1, x2, rfl⟩ : ∃ x0 x1 x2, xs = [x0, x1, x2] := by
    match xs, lx with
    | [x0, x1, x2], _ => exact ⟨x0, x1, x2, rfl⟩
    | [], h => simp at h
    | [_], h => simp at h
    | [_, _], h => simp at h
    | _ :: _ :: _ :: _ :: _, h => simp at h; omega
  obtain ⟨znm, enm⟩ := newof_is hnm
  have nms : ∀ x ∈ [x0, x1, x2], isNameS x = true := fun x hx => isNameS_low (okx x hx).1 (okx x hx).2.1 (okx x hx).2.2
  have N2 : Names nm b H2 [x0, x1, x2] := ⟨enm, B1.b_ne znm, by simp, by simp, fun x hx => ⟨okL_ok (okx x hx).1, by have := (okx x hx).2.2; omega⟩⟩
  refine ⟨_, rfl, by decide, by decide, ?_⟩
  refine for_range (lo := 0) (n := 6) (fun i σ H' => ∃ o3 o4 o5 o6 o7 o8 o9 o10 o11, σ = [some (.ref a), some (.ref b), some (.ref nm), o3, o4, o5, o6, o7, o8, o9, o10, o11, none] ∧ Go b p H2 H')
    ⟨none, none, none, none, none, none, none, none, none, rfl, Go.refl g2.B⟩ ?_ ?_
  · rintro i σ H3 hi ⟨o3, o4, o5, o6, o7, o8, o9, o10, o11, rfl, g3⟩
    have N3 := N2.go g3
    refine ⟨_, rfl, _, rfl, b, p, nm, _, rfl, g3.B, N3, nms, fun H4 lr as rows n g4 hlr0 nlb hlr hrows hok hn4 h2 hr4 => ?_⟩
    have B4 := g4.B
    obtain ⟨r0, r1, rest, rfl⟩ : ∃ r0 r1 rest, rows = r0 :: r1 :: rest := by
      match rows, h2 with
      | r0 :: r1 :: rest, _ => exact ⟨r0, r1, rest, rfl⟩
      | [_], h => simp at h
      | [], h => simp at h
    generalize hR : r0 :: r1 :: rest = rows at hrows hok h2 hr4
    have mr0 : r0 ∈ rows := by rw [← hR]; simp
    have mr1 : r1 ∈ rows := by rw [← hR]; simp
    have las := Paired.length hrows
    have F4 := of_refs hrows
    refine ⟨_, rfl, lr, rfl, ⟨_, SqL.of hlr⟩, fun lp hlp => ?_⟩
    refine lc_each (K := K) (fun x r => ∃ c, x = .ref c ∧ RowAt b H4 c r) (fun H' y r => ∃ z, y = .ref z ∧ PatAt T.C_Pattern H' z (pt r)) hlr F4 hlp (by rw [List.length_map]; omega)
      (fun Ha Hb y r mr hl hk ⟨z, e, pa⟩ => ⟨z, e, pa.keep (pt_ok (hok r mr)).tm hl hk⟩) (fun _ => rfl) (fun _ _ _ r => r) (fun x r H' R k _ mr ⟨c, e, _, us, hc, hd⟩ cont => ?_) (fun H5 acc k5 hacc pats => ?_)
    · subst e
      have o := hok r mr
      exact make_patV T (i := 12) rfl (.inl (k _ _ hc)) (hd.same k _ _) o.1 (by have := o.2.2.1; omega) (by have := o.2.2.2; omega) fun z H'' k' _ pa => cont _ H'' k' ⟨z, rfl, pa⟩
    · have lac := Paired.length pats
      have nlp : lp ≠ b := B4.b_ne hlp
      refine ⟨_, rfl, lp, rfl, ⟨_, SqL.of hacc⟩, fun ll hll => ?_⟩
      refine lc_each (K := K) (fun x r => ∃ z, x = .ref z ∧ PatAt T.C_Pattern H5 z (pt r)) (fun H' y r => ∃ c, y = .ref c ∧ (c ≠ ll ∧ ∃ us, H' c = some (.lst us) ∧ DvL H' us (pt r))) hacc pats hll (by omega)
        (fun Ha Hb y r mr ⟨l, hl⟩ hk ⟨c, e, ne, us, hc, hd⟩ => ⟨c, e, ne, us, hk _ _ hc ne, DvL.keepT (fun q xs eq => hk _ _ eq fun z => by rw [z, hl] at eq; cases eq) _ _ (pt_ok (hok r mr)).tm hd⟩) (fun _ => rfl) (fun _ _ _ r => r) (fun x r H' R k hl mr ⟨z, e, pa⟩ cont => ?_) (fun H6 acc6 k6 h6 lists => ?_)
      · subst e
        obtain ⟨dx, pp, us, h1, h2, h3⟩ := pa
        obtain ⟨l0, hl⟩ := hl
        exact ⟨_, rfl, z, dx, _, rfl, k _ _ h1, z, dx, pp, us, rfl, k _ _ h1, pp, us, rfl, .inr (SqT.of (k _ _ h2)), fun l hln => cont _ _ (Same.new hln) ⟨l, rfl, fun ze => (by rw [ze, hl] at hln; cases hln), us, upd_same, (h3.same k _ _).same (Same.new hln) _ _⟩⟩
      · obtain ⟨as6, rfl, ls6⟩ := acc_refs lists
        have rA : RowsAt H6 (pt r0).length as6 (rows.map pt) := paired_mapR (paired_keep ls6 fun c _ r mr x => ⟨by rw [(pt_ok (hok r mr)).2.1, (pt_ok (hok r0 mr0)).2.1], x.2⟩)
        have s6 := sum_le (f := sizes) (M := 8000) (L := rows.map pt) fun r hr => (pts_ok hok r hr).2.2.1
        rw [List.length_map] at s6
        have n0 := (pt_ok (hok r0 mr0)).2.1
        have okp : ∀ r ∈ rows.map pt, OkC r ∧ r.length = (pt r0).length := fun r hr => ⟨(pts_ok hok r hr).okC, by rw [(pts_ok hok r hr).2.1, n0]⟩
        have eR : rows.map pt = pt r0 :: (r1 :: rest).map pt := by rw [← hR]; rfl
        rw [eR] at rA s6 okp
        have lrest : (r1 :: rest).length + 1 = rows.length := by rw [← hR]; rfl
        refine ⟨ll, as6, pt r0, (r1 :: rest).map pt, rfl, h6, rA, okp, by omega, by rw [List.length_map]; omega, fun H7 td wd k7 htd dw => ?_⟩
        rw [n0, ← eR] at dw
        have GO : RowOk n (genC 51 (colsOf n (rows.map pt))) := by
          rw [eR]
          exact gen_row (pt_ok (hok r0 mr0))
        have GN := num_gen 51 (colsOf n (rows.map pt))
        have k47 : Same H4 H7 := k5.trans (k6.trans k7)
        have k57 : Same H5 H7 := k6.trans k7
        have S7 : LSt T.C_Pattern b lr lp td as rows acc wd (genC 51 (colsOf n (rows.map pt))) H7 :=
          ⟨k47 _ _ hlr, paired_keep hrows fun c _ r mr x => x.go (Go.of B4 k47) B4 (hok r mr).tm, k57 _ _ hacc, paired_keep pats fun y _ r mr ⟨z, e, pa⟩ => ⟨z, e, pa.same k57⟩, htd, dw⟩
        have g7 : Go b p H2 H7 := (g3.trans g4).same k47
        generalize hG : genC 51 (colsOf n (rows.map pt)) = G at GO GN S7 dw
        have nlr : lr ≠ b := nlb
        refine ⟨_, rfl, by decide, by decide, ?_⟩
        refine for_range (lo := 0) (n := 2) (fun m σ H' => ∃ o7 o8 o9 o10 o11, σ = [some (.ref a), some (.ref b), some (.ref nm), some (.int (0 + (i : Int))), some (.ref lr), some (.ref lp), some (.ref td), o7, o8, o9, o10, o11, none] ∧ Go b p H7 H' ∧ (m = 0 ∨ ∃ xf, o8 = some (.ref xf) ∧ PatAt T.C_Pattern H' xf G))
          ⟨_, _, _, _, _, rfl, Go.refl g7.B, .inl rfl⟩ ?_ ?_
        · clear o7 o8 o9 o10 o11
          rintro m σ H8 hm ⟨o7, o8, o9, o10, o11, rfl, g8, _⟩
          have S8 := S7.go hok GO.tm nlr nlp g7.B g8
          obtain ⟨_, e0, z0, rfl, p0⟩ := paired_get S8.ps 0 r0 (by rw [← hR]; rfl)
          refine ⟨_, rfl, lp, acc, 0, _, rfl, rfl, SqL.of S8.hlp, atI_nat (j := 0) e0, ?_⟩
          refine ⟨_, rfl, _, rfl, b, p, lp, acc, rfl, g8.B, nlp, S8.hlp, by omega, fun lm H9 zs g9 hnew perm => ?_⟩
          obtain ⟨hlm0, hlm⟩ := newof_is hnew
          have nlm : lm ≠ b := g8.B.b_ne hlm0
          have S9 := S8.go hok GO.tm nlr nlp g8.B g9
          have p9 := p0.go g9 g8.B (pt_ok (hok r0 mr0)).tm
          obtain ⟨L, pL, permL⟩ := perm_paired perm S9.ps
          have okL : ∀ r ∈ L, RowOk n r := fun r hr => hok r (permL.mem_iff.mp hr)
          have lL := Paired.length pL
          refine ⟨lm, rfl, ⟨_, SqL.of hlm⟩, ?_⟩
          refine for_list (xs := zs) (fun j σ H' => ∃ xf o9, σ = [some (.ref a), some (.ref b), some (.ref nm), some (.int (0 + (i : Int))), some (.ref lr), some (.ref lp), some (.ref td), some (.int (0 + (m : Int))), some (.ref xf), o9, o10, o11, none] ∧ Same H9 H' ∧ PatAt T.C_Pattern H' xf (genC 51 (colsOf n (pt r0 :: (L.take j).map pt))))
            ⟨z0, _, rfl, Same.refl _, by
              show PatAt T.C_Pattern H9 z0 (genC 51 (colsOf n [pt r0]))
              rw [one_gen (pt_ok (hok r0 mr0)), pt_pt (hok r0 mr0)]
              exact p9⟩ (fun j σ H' _ ⟨_, _, _, k, _⟩ => SqL.of (k _ _ hlm)) ?_ ?_
          · rintro j y σ H' hy ⟨xf, o9, rfl, k, pf⟩
            obtain ⟨r, hr, z, rfl, pz⟩ := paired_get' pL j y hy
            have ok1 : RowOk n (genC 51 (colsOf n (pt r0 :: (L.take j).map pt))) := gen_row (pt_ok (hok r0 mr0))
            have ok2 := pt_ok (okL r (List.mem_of_getElem? hr))
            have pz' := pz.same k
            obtain ⟨dx, _, _, h1, _⟩ := id pf
            obtain ⟨dy, _, _, h2, _⟩ := id pz'
            refine ⟨_, rfl, _, rfl, xf, dx, _, z, dy, _, rfl, rfl, h1, h2, xf, z, _, _, rfl, pf, pz', ok1.1, ok2.1, by have := ok1.2.2.1; omega, by have := ok2.2.2.1; omega, by have := ok1.2.2.2; omega, by have := ok2.2.2.2; omega, fun ne => absurd (ok1.2.1.trans ok2.2.1.symm) ne, fun _ Hz zz kz hz pat => ?_⟩
            refine ⟨zz, _, rfl, k.trans kz, ?_⟩
            rw [ok1.2.1, gen_more (rows_ok (n := n) (rows := pt r0 :: (L.take j).map pt) fun r hr => by
              rcases List.mem_cons.mp hr with rfl | hr
              · exact pt_ok (hok r0 mr0)
              · obtain ⟨r', h', rfl⟩ := List.mem_map.mp hr
                exact pt_ok (okL r' (List.mem_of_mem_take h'))) (by simp)] at pat
            rw [take_succ' hr, List.map_append]
            exact pat
          · rintro σ H10 ⟨xf, o9, rfl, k10, pf⟩
            rw [lL, List.take_length, gen_perm (r := pt r0) (rest := (r1 :: rest).map pt) (by rw [← eR]; exact permL.map pt), ← eR, hG] at pf
            have g10 := g8.trans (g9.same k10)
            have S10 := S7.go hok GO.tm nlr nlp g7.B g10
            obtain ⟨dx, pp, vs, h1, h2, h3⟩ := id pf
            -- found against what is due
            refine ⟨_, rfl, cons_patV T (i := 6) rfl (.inr S10.htd) S10.dw GO.1 (by have := GO.2.2.1; omega) (by have := GO.2.2.2; omega) fun y H11 k11 _ py => ?_⟩
            rw [GN] at py
            refine ⟨xf, y, G, rfl, pf.same k11, py, GO.tm, by have := GO.2.2.2; omega, fun v hv => shown_ok GO GN hv, true, rfl, ite_b (fun c => nomatch c) (fun _ => ?_)⟩
            have g11 := g10.same k11
            have S11 := S7.go hok GO.tm nlr nlp g7.B g11
            have h1' := k11 _ _ h1
            have h2' := k11 _ _ h2
            obtain ⟨⟨a1, a2, a3, a4, a5, a6⟩, _⟩ := shown_ok (K := K) (H := H11) (v := .ref pp) GO GN (.tup h2' (h3.same k11 _ _))
            obtain ⟨⟨b1, _⟩, _⟩ := shown_ok (K := K) (H := H11) (v := .ref td) GO GN (.tup S11.htd S11.dw)
            refine ⟨_, rfl, xf, dx, _, rfl, h1', xf, dx, pp, vs, rfl, h1', _, rfl, .ref pp, .ref td, pdOf (.tup G), rfl, a1, b1, a2, a3, a4, a5, a6, true, rfl, ite_b (fun c => nomatch c) (fun _ => ?_)⟩
            -- two of them
            obtain ⟨_, e0', z0', ez0, p0'⟩ := paired_get S11.ps 0 r0 (by rw [← hR]; rfl)
            obtain ⟨_, e1, z1, rfl, p1⟩ := paired_get S11.ps 1 r1 (by rw [← hR]; rfl)
            rw [e0] at e0'
            have e0' := Option.some.inj e0'
            rw [ez0] at e0'
            injection e0' with e0'
            subst e0'
            have q0 := pt_ok (hok r0 mr0)
            have q1 := pt_ok (hok r1 mr1)
            obtain ⟨d0, _, _, f0, _⟩ := id p0'
            obtain ⟨d1, _, _, f1, _⟩ := id p1
            have t0 := q0.2.2.1
            have t1 := q1.2.2.1
            have u0 := q0.2.2.2
            have u1 := q1.2.2.2
            refine ⟨_, rfl, lp, acc, 0, _, rfl, rfl, SqL.of S11.hlp, atI_nat (j := 0) e0, _, rfl, lp, acc, 1, _, rfl, rfl, SqL.of S11.hlp, atI_nat (j := 1) e1, z0, d0, _, z1, d1, _, rfl, rfl, f0, f1, z0, z1, _, _, rfl, p0', p1, q0.1, q1.1, by omega, by omega, by omega, by omega, fun ne => absurd (q0.2.1.trans q1.2.1.symm) ne, fun _ H12 tw k12 _ pw => ?_⟩
            rw [q0.2.1] at pw
            have O2 : RowOk n (genC 51 (colsOf n [pt r0, pt r1])) := gen_row q0
            have N2' := num_gen 51 (colsOf n [pt r0, pt r1])
            have E2 : genC 51 (colsOf n [pt r0, pt r1]) = genC 51 (colsOf n [r0, r1]) := gen_two_num (hok r0 mr0).tm (hok r1 mr1).tm (hok r0 mr0).2.1 (hok r1 mr1).2.1 51
            have g12 := g11.same k12
            have S12 := S7.go hok GO.tm nlr nlp g7.B g12
            obtain ⟨dw2, pw2, vw, w1, w2, w3⟩ := id pw
            obtain ⟨c0, c1, ar, rfl⟩ : ∃ c0 c1 ar, as = c0 :: c1 :: ar := by
              match as, las with
              | c0 :: c1 :: ar, _ => exact ⟨c0, c1, ar, rfl⟩
              | [_], h => rw [← hR] at h; simp at h
              | [], h => rw [← hR] at h; simp at h
            have rs12 := S12.rs
            rw [← hR] at rs12
            cases rs12 with
            | cons rc0 rs12 =>
            cases rs12 with
            | cons rc1 _ =>
            obtain ⟨_, uc0, ec0, dc0⟩ := rc0
            obtain ⟨_, uc1, ec1, dc1⟩ := rc1
            refine ⟨_, rfl, tw, dw2, _, rfl, w1, tw, dw2, pw2, vw, rfl, w1, _, rfl, _, rfl, lr, _, rfl, SqL.of S12.hlr, fun sl hsl => ?_⟩
            have ks := Same.new (o := .lst (cutV ((c0 :: c1 :: ar).map V.ref) none (some 2))) hsl
            have es : (upd H12 sl (.lst (cutV ((c0 :: c1 :: ar).map V.ref) none (some 2)))) sl = some (.lst ([c0, c1].map V.ref)) := by
              rw [upd_same, List.map_cons, List.map_cons, cutV_two]
              rfl
            generalize upd H12 sl (.lst (cutV ((c0 :: c1 :: ar).map V.ref) none (some 2))) = H13 at ks es ⊢
            have o0 := hok r0 mr0
            have o1 := hok r1 mr1
            have z0' := o0.2.2.1
            have z1' := o1.2.2.1
            refine ⟨sl, [c0, c1], r0, [r1], rfl, es, .cons ⟨rfl, uc0, ks _ _ ec0, dc0.same ks _ _⟩ (.cons ⟨by rw [o0.2.1, o1.2.1], uc1, ks _ _ ec1, dc1.same ks _ _⟩ .nil), fun r hr => ?_, ?_, (by show 1 ≤ 1000; decide), fun H14 tg wg k14 htg dg => ?_⟩
            · have hr : r = r0 ∨ r = r1 := by simpa using hr
              rcases hr with e | e
              · rw [e]
                exact ⟨o0.okC, rfl⟩
              · rw [e]
                exact ⟨o1.okC, by rw [o0.2.1, o1.2.1]⟩
            · simp only [List.map_cons, List.map_nil, List.sum_cons, List.sum_nil]
              omega
            rw [o0.2.1, ← E2] at dg
            have k1314 := ks.trans k14
            have g14 := g12.same k1314
            have S14 := S7.go hok GO.tm nlr nlp g7.B g14
            have w1' := k1314 _ _ w1
            have w2' := k1314 _ _ w2
            obtain ⟨⟨a1, a2, a3, a4, a5, a6⟩, _⟩ := shown_ok (K := K) (H := H14) (v := .ref pw2) O2 N2' (.tup w2' (w3.same k1314 _ _))
            obtain ⟨⟨b1, _⟩, _⟩ := shown_ok (K := K) (H := H14) (v := .ref tg) O2 N2' (.tup htg dg)
            refine ⟨.ref pw2, .ref tg, _, rfl, a1, b1, a2, a3, a4, a5, a6, true, rfl, ite_b (fun c => nomatch c) (fun _ => ?_)⟩
            have p0c := p0'.same (k12.trans k1314)
            have p1c := p1.same (k12.trans k1314)
            obtain ⟨d0, _, _, f0, _⟩ := id p0c
            obtain ⟨d1, _, _, f1, _⟩ := id p1c
            refine ⟨_, rfl, _, rfl, lp, acc, 1, _, rfl, rfl, SqL.of S14.hlp, atI_nat (j := 1) e1, _, rfl, lp, acc, 0, _, rfl, rfl, SqL.of S14.hlp, atI_nat (j := 0) e0, z1, d1, _, z0, d0, _, rfl, rfl, f1, f0, z1, z0, _, _, rfl, p1c, p0c, q1.1, q0.1, by omega, by omega, by omega, by omega, fun ne => absurd (q1.2.1.trans q0.2.1.symm) ne, fun _ H15 tv k15 _ pv => ?_⟩
            rw [q1.2.1, gen_swap] at pv
            have k1215 := k1314.trans k15
            obtain ⟨dv2, pv2, vv, v1', _⟩ := id pv
            refine ⟨tw, dw2, _, _, rfl, k15 _ _ w1', .base (.base (.ins v1' T.cl_Pattern Kp.ha Kp.hn Kp.ht Kp.hm)), by simp [PySem.W.notFirst], tw, .ref tv, _, rfl, pw.same k1215, O2.tm, by have := O2.2.2.2; omega, .inl ⟨tv, _, rfl, pv, O2.tm, by have := O2.2.2.2; omega, fun bb hbb => ⟨bb, rfl, !bb, rfl, ite_b (fun c => ?_) (fun _ => ?_)⟩⟩⟩
            · have e := hbb.mpr rfl
              rw [e] at c
              cases c
            · exact ⟨_, _, _, _, _, rfl, (g14.same k15), .inr ⟨xf, rfl, pf.same (k11.trans (k12.trans k1215))⟩⟩
        · clear o7 o8 o9 o10 o11
          rintro σ H8 ⟨o7, o8, o9, o10, o11, rfl, g8, hx⟩
          obtain ⟨xf, rfl, pf⟩ := hx.resolve_left (by decide)
          have S8 := S7.go hok GO.tm nlr nlp g7.B g8
          obtain ⟨dx, pp, vs, h1, h2, h3⟩ := id pf
          have gs := GO.2.2.1
          have gp := GO.2.2.2
          -- all are instances
          refine ⟨_, rfl, lr, rfl, ⟨_, SqL.of S8.hlr⟩, fun Dn hDn => ?_⟩
          refine lc_none (K := K) (fun x r => ∃ c, x = .ref c ∧ RowAt b H8 c r) S8.hlr (of_refs S8.rs) hDn (fun _ => rfl) (fun x r H' R k mr ⟨c, e, _, us, hc, hd⟩ cont => ?_) (fun H9 k9 h9 => ?_)
          · subst e
            have o := hok r mr
            have sz1 := o.2.2.1
            have sz2 := o.2.2.2
            refine ⟨_, rfl, c, us, rfl, .inl ⟨SqL.of (k _ _ hc), fun t ht => ⟨_, rfl, xf, dx, _, rfl, Same.new ht _ _ (k _ _ h1), xf, .ref t, .tup r, G, rfl, (pf.same k).same (Same.new ht), GO.tm, by omega, .tup upd_same ((hd.same k _ _).same (Same.new ht) _ _), by simp only [D.size]; omega, by simp only [D.deep]; omega, fun H'' bb kb hb => ⟨bb, rfl, !bb, rfl, ?_⟩⟩⟩⟩
            have eb : bb = true := hb.mpr ⟨by simp [areValues, o.1, o.2.1, GO.2.1], by
              obtain ⟨f, hf⟩ := row_inst hok mr
              rw [hG] at hf
              exact ⟨f, r, rfl, hf⟩⟩
            rw [eb]
            exact cont _ ((Same.new ht).trans kb)
          · refine ⟨Nat.zero_le _, fun e5 he5 => ?_⟩
            have k5' := Same.new (o := .lst []) he5
            obtain ⟨n1, n2⟩ := tm_data (K := K) (Dv.lst (k5' _ _ h9) .nil) rfl (by decide)
            obtain ⟨m1, m2⟩ := tm_data (K := K) (H := upd H9 e5 (.lst [])) (v := .ref e5) (Dv.lst upd_same .nil) rfl (by decide)
            refine ⟨_, _, n1, m1, n2, m2, _, rfl, ite_b (fun c => ?_) (fun _ => ?_)⟩
            · rw [SeqAt.eqv_refl _ (SeqAt.canLay_of_shaped n2)] at c
              cases c
            have k10 := k9.trans k5'
            have pf10 := pf.same k10
            have h10 := k10 _ _ h1
            refine ⟨_, rfl, _, rfl, xf, dx, _, xf, dx, _, rfl, rfl, h10, h10, xf, xf, G, G, rfl, pf10, pf10, GO.1, GO.1, by omega, by omega, by omega, by omega, fun ne => absurd rfl ne, fun _ H11 tw k11 _ pw => ?_⟩
            rw [GO.2.1, gen_idem, one_gen GO, show pt G = G from GN] at pw
            obtain ⟨dw2, pw2, vw, w1, w2, w3⟩ := id pw
            have k811 := k10.trans k11
            refine ⟨_, rfl, tw, dw2, _, _, rfl, w1, .base (.base (.ins (k11 _ _ h10) T.cl_Pattern Kp.ha Kp.hn Kp.ht Kp.hm)), by simp [PySem.W.notFirst], tw, .ref xf, _, rfl, pw, GO.tm, by omega, .inl ⟨xf, _, rfl, pf.same k811, GO.tm, by omega, fun bb hbb => ⟨bb, rfl, !bb, rfl, ite_b (fun c => ?_) (fun _ => ?_)⟩⟩⟩
            · have e := hbb.mpr rfl
              rw [e] at c
              cases c
            have g11 := g8.same k811
            have S11 := S7.go hok GO.tm nlr nlp g7.B g11
            have ok0 : ∀ r ∈ rows, areTerms (pt (r ++ [.int 0])) = true ∧ (pt (r ++ [.int 0])).length = n + 1 ∧ sizes (pt (r ++ [.int 0])) ≤ 8001 ∧ deeps (pt (r ++ [.int 0])) ≤ 8 := fun r hr => pt0_ok (hok r hr)
            refine ⟨_, rfl, lr, rfl, ⟨_, SqL.of S11.hlr⟩, fun lo hlo => ?_⟩
            refine lc_each (K := K) (fun x r => ∃ c, x = .ref c ∧ RowAt b H11 c r) (fun H' y r => ∃ z, y = .ref z ∧ PatAt T.C_Pattern H' z (pt (r ++ [.int 0]))) S11.hlr (of_refs S11.rs) hlo (by rw [List.length_map]; omega)
              (fun Ha Hb y r mr hl hk ⟨z, e, pa⟩ => ⟨z, e, pa.keep (tms_of_are _ (ok0 r mr).1) hl hk⟩) (fun _ => rfl) (fun _ _ _ r => r) (fun x r H' R k _ mr ⟨c, e, _, us, hc, hd⟩ cont => ?_) (fun H12 acc2 k12 h12 pats2 => ?_)
            · subst e
              have o := hok r mr
              exact make_patC T (i := 12) rfl (k _ _ hc) (hd.same k _ _) o.1 (by have := o.2.2.1; omega) (by have := o.2.2.2; omega) fun z H'' k' _ pa => cont _ H'' k' ⟨z, rfl, pa⟩
            have g12 := g11.same k12
            have S12 := S7.go hok GO.tm nlr nlp g7.B g12
            obtain ⟨_, e0, z0, rfl, p0⟩ := paired_get S12.ps 0 r0 (by rw [← hR]; rfl)
            obtain ⟨_, e1, z1, rfl, p1⟩ := paired_get pats2 0 r0 (by rw [← hR]; rfl)
            have q0 := pt_ok (hok r0 mr0)
            have q1 := ok0 r0 mr0
            obtain ⟨_, t0, t1, t2⟩ := id q0
            obtain ⟨_, u0, u1, u2⟩ := id q1
            refine ⟨_, rfl, lp, acc, 0, _, rfl, rfl, SqL.of S12.hlp, atI_nat (j := 0) e0, _, rfl, lo, acc2, 0, _, rfl, rfl, SqL.of h12, atI_nat (j := 0) e1, z0, z1, _, _, rfl, p0, p1, q0.1, q1.1, by omega, by omega, by omega, by omega, by omega, fun H13 k13 => ⟨true, rfl, ite_b (fun c => nomatch c) (fun _ => ?_)⟩⟩
            have g13 := g12.same k13
            have S13 := S7.go hok GO.tm nlr nlp g7.B g13
            obtain ⟨b0, _, s0, rl, ea, er, _, zl, rfl, pl⟩ := paired_last S13.ps fun z => by rw [z] at lac; simp at lac; omega
            obtain ⟨b1, _, s1, rm, eb, em, _, zm, rfl, pm⟩ := paired_last pats2 fun z => by
              have := Paired.length pats2
              rw [z] at this
              simp at this
              omega
            have ml : rl ∈ rows := by rw [er]; simp
            have mm : rm ∈ rows := by rw [em]; simp
            have x0 := pt_ok (hok rl ml)
            have x1 := ok0 rm mm
            obtain ⟨_, t0, t1, t2⟩ := id x0
            obtain ⟨_, u0, u1, u2⟩ := id x1
            refine ⟨_, rfl, 1, rfl, lo, acc2, -1, _, rfl, rfl, SqL.of (k13 _ _ h12), by rw [eb]; exact atI_last _ _, _, rfl, 1, rfl, lp, acc, -1, _, rfl, rfl, SqL.of S13.hlp, by rw [ea]; exact atI_last _ _, zm, zl, _, _, rfl, pm.same k13, pl, x1.1, x0.1, by omega, by omega, by omega, by omega, by omega, fun H14 k14 => ⟨true, rfl, ite_b (fun c => nomatch c) (fun _ => ?_)⟩⟩
            have g14 := g13.same k14
            have S14 := S7.go hok GO.tm nlr nlp g7.B g14
            have kT : ∀ {Ha Hb : Hp} {D0 : Addr}, (∃ l, Ha D0 = some (.lst l)) → (∀ b o, Ha b = some o → b ≠ D0 → Hb b = some o) → ∀ b xs, Ha b = some (.tup xs) → Hb b = some (.tup xs) := fun ⟨l, hl⟩ hk b xs e => hk _ _ e fun z => by rw [z, hl] at e; cases e
            -- the terms of each
            refine ⟨_, rfl, lp, rfl, ⟨_, SqL.of S14.hlp⟩, fun d1 hd1 => ?_⟩
            refine lc_each (K := K) (fun x r => ∃ z, x = .ref z ∧ PatAt T.C_Pattern H14 z (pt r)) (fun H' y r => Dv H' y (.tup (pt r))) S14.hlp S14.ps hd1 (by omega)
              (fun Ha Hb y r mr hl hk h => tup_keep (pt_ok (hok r mr)).tm (kT hl hk) h) (fun _ => rfl) (fun _ _ _ r => r) (fun x r H' R k _ mr ⟨z, e, pa⟩ cont => ?_) (fun H15 acc3 k15 h15 all1 => ?_)
            · subst e
              obtain ⟨dz, pz, uz, y1, y2, y3⟩ := pa.same k
              exact ⟨_, rfl, z, dz, _, rfl, y1, z, dz, pz, uz, rfl, y1, cont _ _ (Same.refl _) (.tup y2 y3)⟩
            have g15 := g14.same k15
            have S15 := S7.go hok GO.tm nlr nlp g7.B g15
            refine ⟨_, rfl, lr, rfl, ⟨_, SqL.of S15.hlr⟩, fun d2 hd2 => ?_⟩
            refine lc_each (K := K) (fun x r => ∃ c, x = .ref c ∧ RowAt b H15 c r) (fun H' y r => Dv H' y (.tup (pt r))) S15.hlr (of_refs S15.rs) hd2 (by rw [List.length_map]; omega)
              (fun Ha Hb y r mr hl hk h => tup_keep (pt_ok (hok r mr)).tm (kT hl hk) h) (fun _ => rfl) (fun _ _ _ r => r) (fun x r H' R k _ mr ⟨c, e, _, us, hc, hd⟩ cont => ?_) (fun H16 acc4 k16 h16 all2 => ?_)
            · subst e
              have o := hok r mr
              have osz := o.2.2.1
              refine ⟨_, rfl, by (show 1 ≤ sizeLine; decide), fun l hl => ?_⟩
              have kl := Same.new (o := .lst [.ref c]) hl
              refine ⟨l, [c], r, [], rfl, upd_same, .cons ⟨rfl, us, kl _ _ (k _ _ hc), (hd.same k _ _).same kl _ _⟩ .nil, fun r' hr' => ?_, by simp only [List.map_cons, List.map_nil, List.sum_cons, List.sum_nil]; omega, (by show 0 ≤ 1000; decide), fun H'' p'' us'' k'' hp'' hd'' => ?_⟩
              · have e : r' = r := by simpa using hr'
                rw [e]
                exact ⟨o.okC, rfl⟩
              · rw [o.2.1, one_gen o] at hd''
                exact cont _ _ (kl.trans k'') (.tup hp'' hd'')
            have dl : ∀ {H' : Hp} {ys : List V}, Paired (fun y r => Dv H' y (.tup (pt r))) ys rows → DvL H' ys (rows.map fun r => .tup (pt r)) := fun h => dvl_of (paired_mapR (F := fun y d => Dv _ y d) h)
            have nd : noDic (.lst (rows.map fun r => .tup (pt r))) = true := by
              simp only [noDic]
              exact noDics_of fun d hd => by
                obtain ⟨r, hr, rfl⟩ := List.mem_map.mp hd
                simp only [noDic]
                exact noDics_of fun d hd => ((pt_ok (hok r hr)).tm d hd).noDic
            have dd : (D.lst (rows.map fun r => .tup (pt r))).deep ≤ 58 := by
              have : deeps (rows.map fun r => D.tup (pt r)) ≤ 9 := deeps_le fun d hd => by
                obtain ⟨r, hr, rfl⟩ := List.mem_map.mp hd
                have := (pt_ok (hok r hr)).2.2.2
                simp only [D.deep]
                omega
              simp only [D.deep]
              omega
            obtain ⟨n1, n2⟩ := tm_data (K := K) (Dv.lst (k16 _ _ h15) ((dl all1).same k16 _ _)) nd dd
            obtain ⟨m1, m2⟩ := tm_data (K := K) (Dv.lst h16 (dl all2)) nd dd
            refine ⟨_, _, n1, m1, n2, m2, _, rfl, ite_b (fun c => ?_) (fun _ => ?_)⟩
            · rw [SeqAt.eqv_refl _ (SeqAt.canLay_of_shaped n2)] at c
              cases c
            · exact ⟨_, _, _, _, _, _, _, _, _, rfl, g7.trans (g15.same k16)⟩
  · rintro σ H3 ⟨o3, o4, o5, o6, o7, o8, o9, o10, o11, rfl, g3⟩
    exact q H3
end
end K15
set_option maxRecDepth 100000
set_option maxHeartbeats 4000000
namespace Fm
open PySem L2
/-- a class of the program's errors, right under MoveError -/
def veTop : List Value := [.type "ValueError", .type "Exception", .type "BaseException", .type "object"]
def ClsM (K : PySem.W.Frag) (CM C : Addr) : Prop := ∃ nm q N bs sn sub ab col dd k0 k1 k2 k3 k5, K.lookup C = some (excClassObj nm q C N bs (.ref CM :: veTop) true sn sub ab col dd k0 k1 k2 k3 k5 "ValueError.__new__")
def ClsT (K : PySem.W.Frag) (CM : Addr) : Prop := ∃ nm q N bs sn sub ab col dd k0 k1 k2 k3 k5, K.lookup CM = some (excClassObj nm q CM N bs veTop true sn sub ab col dd k0 k1 k2 k3 k5 "ValueError.__new__")
section
variable {K : PySem.W.Frag} {CM C D : Addr}
theorem ClsM.cls (h : ClsM K CM C) : ∃ cd, PySem.W.clsIn K C = some cd ∧ cd.mro = .ref C :: .ref CM :: veTop ∧ cd.hasDict = true := by
  obtain ⟨nm, q, N, bs, sn, sub, ab, col, dd, k0, k1, k2, k3, k5, h⟩ := h
  unfold PySem.W.clsIn
  rw [h]
  exact ⟨_, rfl, rfl, rfl⟩
theorem ClsM.ty (h : ClsM K CM C) : PySem.W.typeIn K (.ref C) = some (.type "type") := by
  obtain ⟨nm, q, N, bs, sn, sub, ab, col, dd, k0, k1, k2, k3, k5, h⟩ := h
  show (List.lookup C K).map (·.cls) = _
  rw [h]
  rfl
theorem ClsT.cls (h : ClsT K CM) : ∃ cd, PySem.W.clsIn K CM = some cd ∧ cd.mro = .ref CM :: veTop := by
  obtain ⟨nm, q, N, bs, sn, sub, ab, col, dd, k0, k1, k2, k3, k5, h⟩ := h
  unfold PySem.W.clsIn
  rw [h]
  exact ⟨_, rfl, rfl⟩
theorem ClsT.ty (h : ClsT K CM) : PySem.W.typeIn K (.ref CM) = some (.type "type") := by
  obtain ⟨nm, q, N, bs, sn, sub, ab, col, dd, k0, k1, k2, k3, k5, h⟩ := h
  show (List.lookup CM K).map (·.cls) = _
  rw [h]
  rfl
theorem ClsM.sub (h : ClsM K CM C) (b : Value) : PySem.W.subIn K (.ref C) b = some ((Value.ref C :: .ref CM :: veTop).contains b) := by
  obtain ⟨cd, h1, h2, _⟩ := h.cls
  show PySem.W.mroIn K C b = _
  unfold PySem.W.mroIn
  rw [h1]
  show (if cd.mro.isEmpty then none else some (cd.mro.contains b)) = _
  rw [h2]
  rfl
theorem ClsM.hd (h : ClsM K CM C) : PySem.W.hasDictIn K C = true := by
  obtain ⟨cd, h1, _, h3⟩ := h.cls
  unfold PySem.W.hasDictIn
  rw [h1]
  exact h3
theorem kit_ref (hc : ∃ cd, PySem.W.clsIn K D = some cd) (ht : PySem.W.typeIn K (.ref D) = some (.type "type")) (t : Value) (ne : (t == .ref D) = false) : PySem.W.kitOne K t (.ref D) = PySem.W.subIn K t (.ref D) := by
  obtain ⟨cd, hc⟩ := hc
  unfold PySem.W.kitOne
  rw [ne]
  show (if ((PySem.W.clsIn K D).isSome && PySem.W.typeIn K (.ref D) == some (.type "type")) = true then PySem.W.subIn K t (.ref D) else none) = _
  rw [hc, ht]
  rfl
theorem ref_beq {a b : Addr} (h : a ≠ b) : ((Value.ref a == .ref b) = false) := by
  rw [beq_eq_false_iff_ne]
  intro y
  cases y
  exact h rfl
theorem has_ref {a b : Addr} (h : a ≠ b) (n : a ≠ CM) : (Value.ref b :: .ref CM :: veTop).contains (.ref a) = false := by
  show ((Value.ref a == .ref b) || ((Value.ref a == .ref CM) || List.elem (.ref a) veTop)) = false
  rw [ref_beq h, ref_beq n]
  rfl
theorem exm_of (hT : ClsT K CM) (h : ClsM K CM C) (ne : C ≠ CM) : PySem.W.exmOne K (.ref C) (.ref CM) = some true := by
  obtain ⟨cd, h1, h2⟩ := hT.cls
  have hs : PySem.W.subIn K (.ref CM) (.type "BaseException") = some true := by
    show PySem.W.mroIn K CM _ = _
    unfold PySem.W.mroIn
    rw [h1]
    show (if cd.mro.isEmpty then none else some (cd.mro.contains _)) = _
    rw [h2]
    rfl
  unfold PySem.W.exmOne
  rw [hs]
  show (if ((PySem.W.clsIn K CM).isSome && PySem.W.typeIn K (.ref CM) == some (.type "type")) = true then PySem.W.subIn K (.ref C) (.ref CM) else none) = _
  rw [h1, hT.ty]
  refine (h.sub _).trans ?_
  show some ((Value.ref _ == .ref _) || ((Value.ref CM == .ref CM) || _)) = _
  rw [beq_self_eq_true, Bool.true_or, Bool.or_true]
theorem excC_of (h : ClsM K CM C) (hg : PySem.W.findIn K (.ref C) "__getattribute__" = some (some (.builtin "BaseException.__getattribute__"))) (hk : PySem.W.findIn K (.ref C) "__getattr__" = some none)
    (ha : PySem.W.findIn K (.ref C) "__class__" = some (some (.builtin "object.__class__"))) (hn : PySem.W.specialIn K (.builtin "object.__class__") "__get__" = some (some (.builtin "getset_descriptor.__get__"))) (ht : PySem.W.takesIn K (.builtin "object.__class__") = some true) : ExcC K C :=
  ⟨hg, hk, (h.sub _).trans rfl, h.hd, ha, hn, ht, (h.sub _).trans rfl⟩
open PySem.W PySem.Calls PyProof.Rows PySem.HandSPX in
theorem refs_of (CM : Addr) : refsVE (.ref CM :: veTop) = true := by
  show refsVE veTop = true
  decide +kernel
end
theorem hk_of {K : PySem.W.Frag} {C : Addr} (h : PySem.W.hasDictIn K C = true) (t : PySem.W.typeIn K (.ref C) = some (.type "type")) : ((PySem.W.clsIn K C).isSome && PySem.W.typeIn K (.ref C) == some (.type "type")) = true := by
  unfold PySem.W.hasDictIn at h
  cases z : PySem.W.clsIn K C with
  | none => rw [z] at h; cases h
  | some cd =>
    rw [t]
    simp
end Fm

set_option maxRecDepth 100000
set_option maxHeartbeats 4000000
namespace K15
open PySem L2 Fm
theorem all_mk {P : Program} {w : World} {K : PySem.W.Frag} {h : Heap} {mg : Str → Option Value} {fa : Addr} (X : K.In h) (G : h.Ns mainGlobals mg) (hfa : mg "law" = some (.ref fa))
    {a0 a1 a2 a3 a4 a5 a6 a7 a8 a9 a10 a11 a12 a13 a14 a15 a16 a17 a18 a19 a20 a21 a22 a23 a24 a25 a26 a27 a28 a29 a30 a31 : Addr} {od0 an0 od1 an1 od2 an2 od3 an3 od4 an4 od5 an5 od6 an6 od7 an7 od8 an8 od9 an9 od10 an10 od11 an11 od12 an12 od13 an13 od14 an14 od15 an15 od16 an16 od17 an17 od18 an18 od19 an19 od20 an20 od21 an21 od22 an22 od23 an23 od24 an24 od25 an25 od26 an26 od27 an27 od28 an28 od29 an29 od30 an30 od31 an31 : Option Addr} {sl0 sl1 sl2 sl3 sl4 sl5 sl6 sl7 sl8 sl9 sl10 sl11 sl12 sl13 sl14 sl15 sl16 sl17 sl18 sl19 sl20 sl21 sl22 sl23 sl24 sl25 sl26 sl27 sl28 sl29 sl30 sl31 : Array (Option Value)}
    {oc0 kV0 dc0 pm0 cd0 ct0 oc1 kV1 dc1 pm1 cd1 ct1 oc2 kV2 dc2 pm2 cd2 ct2 oc3 kV3 dc3 pm3 cd3 ct3 oc4 kV4 dc4 pm4 cd4 ct4 oc5 kV5 dc5 pm5 cd5 ct5 oc6 kV6 dc6 pm6 cd6 ct6 oc7 kV7 dc7 pm7 cd7 ct7 oc8 kV8 dc8 pm8 cd8 ct8 oc9 kV9 dc9 pm9 cd9 ct9 oc10 kV10 dc10 pm10 cd10 ct10 oc11 kV11 dc11 pm11 cd11 ct11 oc12 kV12 dc12 pm12 cd12 ct12 oc13 kV13 dc13 pm13 cd13 ct13 oc14 kV14 dc14 pm14 cd14 ct14 oc15 kV15 dc15 pm15 cd15 ct15 oc16 kV16 dc16 pm16 cd16 ct16 oc17 kV17 dc17 pm17 cd17 ct17 oc18 kV18 dc18 pm18 cd18 ct18 oc19 kV19 dc19 pm19 cd19 ct19 oc20 kV20 dc20 pm20 cd20 ct20 oc21 kV21 dc21 pm21 cd21 ct21 oc22 kV22 dc22 pm22 cd22 ct22 oc23 kV23 dc23 pm23 cd23 ct23 oc24 kV24 dc24 pm24 cd24 ct24 oc25 kV25 dc25 pm25 cd25 ct25 oc26 kV26 dc26 pm26 cd26 ct26 oc27 kV27 dc27 pm27 cd27 ct27 oc28 kV28 dc28 pm28 cd28 ct28 oc29 kV29 dc29 pm29 cd29 ct29 oc30 kV30 dc30 pm30 cd30 ct30 oc31 kV31 dc31 pm31 cd31 ct31 : Value}
    {D0 : Addr}
    (n0 : PySem.W.nsIn K mainGlobals "is_integer" = some (some (.ref a0))) (l0 : K.lookup a0 = some ⟨oc0, od0, .func (PySem.W.fnOf "is_integer" "is_integer" (defArgs s_is_integer) (defBody s_is_integer) (defScope s_is_integer) .none kV0 dc0 pm0 an0 cd0 ct0), sl0⟩) (c0 : PySem.W.codeIn K cd0 "is_integer" = true) (k0 : PySem.W.keepIn K (.ref a0) = true)
    (n1 : PySem.W.nsIn K mainGlobals "is_name" = some (some (.ref a1))) (l1 : K.lookup a1 = some ⟨oc1, od1, .func (PySem.W.fnOf "is_name" "is_name" (defArgs s_is_name) (defBody s_is_name) (defScope s_is_name) .none kV1 dc1 pm1 an1 cd1 ct1), sl1⟩) (c1 : PySem.W.codeIn K cd1 "is_name" = true) (k1 : PySem.W.keepIn K (.ref a1) = true)
    (n2 : PySem.W.nsIn K mainGlobals "are_terms" = some (some (.ref a2))) (l2 : K.lookup a2 = some ⟨oc2, od2, .func (PySem.W.fnOf "are_terms" "are_terms" (defArgs s_are_terms) (defBody s_are_terms) (defScope s_are_terms) .none kV2 dc2 pm2 an2 cd2 ct2), sl2⟩) (c2 : PySem.W.codeIn K cd2 "are_terms" = true) (k2 : PySem.W.keepIn K (.ref a2) = true)
    (n3 : PySem.W.nsIn K mainGlobals "are_values" = some (some (.ref a3))) (l3 : K.lookup a3 = some ⟨oc3, od3, .func (PySem.W.fnOf "are_values" "are_values" (defArgs s_are_values) (defBody s_are_values) (defScope s_are_values) .none kV3 dc3 pm3 an3 cd3 ct3), sl3⟩) (c3 : PySem.W.codeIn K cd3 "are_values" = true) (k3 : PySem.W.keepIn K (.ref a3) = true)
    (n4 : PySem.W.nsIn K mainGlobals "laid_out" = some (some (.ref a4))) (l4 : K.lookup a4 = some ⟨oc4, od4, .func (PySem.W.fnOf "laid_out" "laid_out" (defArgs s_laid_out) (defBody s_laid_out) (defScope s_laid_out) .none kV4 dc4 pm4 an4 cd4 ct4), sl4⟩) (c4 : PySem.W.codeIn K cd4 "laid_out" = true) (k4 : PySem.W.keepIn K (.ref a4) = true)
    (n5 : PySem.W.nsIn K mainGlobals "shared" = some (some (.ref a5))) (l5 : K.lookup a5 = some ⟨oc5, od5, .func (PySem.W.fnOf "shared" "shared" (defArgs s_shared) (defBody s_shared) (defScope s_shared) .none kV5 dc5 pm5 an5 cd5 ct5), sl5⟩) (c5 : PySem.W.codeIn K cd5 "shared" = true) (k5 : PySem.W.keepIn K (.ref a5) = true)
    (n6 : PySem.W.nsIn K mainGlobals "filled" = some (some (.ref a6))) (l6 : K.lookup a6 = some ⟨oc6, od6, .func (PySem.W.fnOf "filled" "filled" (defArgs s_filled) (defBody s_filled) (defScope s_filled) .none kV6 dc6 pm6 an6 cd6 ct6), sl6⟩) (c6 : PySem.W.codeIn K cd6 "filled" = true) (k6 : PySem.W.keepIn K (.ref a6) = true)
    (n7 : PySem.W.nsIn K mainGlobals "fits" = some (some (.ref a7))) (l7 : K.lookup a7 = some ⟨oc7, od7, .func (PySem.W.fnOf "fits" "fits" (defArgs s_fits) (defBody s_fits) (defScope s_fits) .none kV7 dc7 pm7 an7 cd7 ct7), sl7⟩) (c7 : PySem.W.codeIn K cd7 "fits" = true) (k7 : PySem.W.keepIn K (.ref a7) = true)
    (n8 : PySem.W.nsIn K mainGlobals "put_all" = some (some (.ref a8))) (l8 : K.lookup a8 = some ⟨oc8, od8, .func (PySem.W.fnOf "put_all" "put_all" (defArgs s_put_all) (defBody s_put_all) (defScope s_put_all) .none kV8 dc8 pm8 an8 cd8 ct8), sl8⟩) (c8 : PySem.W.codeIn K cd8 "put_all" = true) (k8 : PySem.W.keepIn K (.ref a8) = true)
    (n9 : PySem.W.nsIn K mainGlobals "numbered" = some (some (.ref a9))) (l9 : K.lookup a9 = some ⟨oc9, od9, .func (PySem.W.fnOf "numbered" "numbered" (defArgs s_numbered) (defBody s_numbered) (defScope s_numbered) .none kV9 dc9 pm9 an9 cd9 ct9), sl9⟩) (c9 : PySem.W.codeIn K cd9 "numbered" = true) (k9 : PySem.W.keepIn K (.ref a9) = true)
    (n10 : PySem.W.nsIn K mainGlobals "are_equal_heads" = some (some (.ref a10))) (l10 : K.lookup a10 = some ⟨oc10, od10, .func (PySem.W.fnOf "are_equal_heads" "are_equal_heads" (defArgs s_are_equal_heads) (defBody s_are_equal_heads) (defScope s_are_equal_heads) .none kV10 dc10 pm10 an10 cd10 ct10), sl10⟩) (c10 : PySem.W.codeIn K cd10 "are_equal_heads" = true) (k10 : PySem.W.keepIn K (.ref a10) = true)
    (n11 : PySem.W.nsIn K mainGlobals "pairs_within" = some (some (.ref a11))) (l11 : K.lookup a11 = some ⟨oc11, od11, .func (PySem.W.fnOf "pairs_within" "pairs_within" (defArgs s_pairs_within) (defBody s_pairs_within) (defScope s_pairs_within) .none kV11 dc11 pm11 an11 cd11 ct11), sl11⟩) (c11 : PySem.W.codeIn K cd11 "pairs_within" = true) (k11 : PySem.W.keepIn K (.ref a11) = true)
    (n12 : PySem.W.nsIn K mainGlobals "least_terms" = some (some (.ref a12))) (l12 : K.lookup a12 = some ⟨oc12, od12, .func (PySem.W.fnOf "least_terms" "least_terms" (defArgs s_least_terms) (defBody s_least_terms) (defScope s_least_terms) .none kV12 dc12 pm12 an12 cd12 ct12), sl12⟩) (c12 : PySem.W.codeIn K cd12 "least_terms" = true) (k12 : PySem.W.keepIn K (.ref a12) = true)
    (n13 : PySem.W.findIn K (.ref D0) "__init__" = some (some (.ref a13))) (i13 : PySem.W.isFn K (.ref a13) = true) (l13 : K.lookup a13 = some ⟨oc13, od13, .func (PySem.W.fnOf "__init__" "Pattern.__init__" (defArgs s_Pattern_init) (defBody s_Pattern_init) (defScope s_Pattern_init) .none kV13 dc13 pm13 an13 cd13 ct13), sl13⟩) (c13 : PySem.W.codeIn K cd13 "Pattern.__init__" = true) (k13 : PySem.W.keepIn K (.ref a13) = true)
    {R14 : Addr} {rs14 : List Value} (n14 : PySem.W.findIn K (.ref D0) "terms" = some (some (.ref R14))) (i14 : PySem.W.recIn K R14 "property" = some (.ref a14 :: rs14)) (g14 : PySem.W.specialIn K (.ref R14) "__get__" = some (some (.builtin "property.__get__"))) (t14 : PySem.W.takesIn K (.ref R14) = some true) (l14 : K.lookup a14 = some ⟨oc14, od14, .func (PySem.W.fnOf "terms" "Pattern.terms" (defArgs s_Pattern_terms) (defBody s_Pattern_terms) (defScope s_Pattern_terms) .none kV14 dc14 pm14 an14 cd14 ct14), sl14⟩) (c14 : PySem.W.codeIn K cd14 "Pattern.terms" = true) (k14 : PySem.W.keepIn K (.ref a14) = true)
    (n15 : PySem.W.findIn K (.ref D0) "__contains__" = some (some (.ref a15))) (i15 : PySem.W.isFn K (.ref a15) = true) (l15 : K.lookup a15 = some ⟨oc15, od15, .func (PySem.W.fnOf "__contains__" "Pattern.__contains__" (defArgs s_Pattern_contains) (defBody s_Pattern_contains) (defScope s_Pattern_contains) .none kV15 dc15 pm15 an15 cd15 ct15), sl15⟩) (c15 : PySem.W.codeIn K cd15 "Pattern.__contains__" = true) (k15 : PySem.W.keepIn K (.ref a15) = true)
    (n16 : PySem.W.findIn K (.ref D0) "__eq__" = some (some (.ref a16))) (i16 : PySem.W.isFn K (.ref a16) = true) (l16 : K.lookup a16 = some ⟨oc16, od16, .func (PySem.W.fnOf "__eq__" "Pattern.__eq__" (defArgs s_Pattern_eq) (defBody s_Pattern_eq) (defScope s_Pattern_eq) .none kV16 dc16 pm16 an16 cd16 ct16), sl16⟩) (c16 : PySem.W.codeIn K cd16 "Pattern.__eq__" = true) (k16 : PySem.W.keepIn K (.ref a16) = true)
    (n17 : PySem.W.findIn K (.ref D0) "__len__" = some (some (.ref a17))) (i17 : PySem.W.isFn K (.ref a17) = true) (l17 : K.lookup a17 = some ⟨oc17, od17, .func (PySem.W.fnOf "__len__" "Pattern.__len__" (defArgs s_Pattern_len) (defBody s_Pattern_len) (defScope s_Pattern_len) .none kV17 dc17 pm17 an17 cd17 ct17), sl17⟩) (c17 : PySem.W.codeIn K cd17 "Pattern.__len__" = true) (k17 : PySem.W.keepIn K (.ref a17) = true)
    (n18 : PySem.W.findIn K (.ref D0) "__repr__" = some (some (.ref a18))) (i18 : PySem.W.isFn K (.ref a18) = true) (l18 : K.lookup a18 = some ⟨oc18, od18, .func (PySem.W.fnOf "__repr__" "Pattern.__repr__" (defArgs s_Pattern_repr) (defBody s_Pattern_repr) (defScope s_Pattern_repr) .none kV18 dc18 pm18 an18 cd18 ct18), sl18⟩) (c18 : PySem.W.codeIn K cd18 "Pattern.__repr__" = true) (k18 : PySem.W.keepIn K (.ref a18) = true)
    (n19 : PySem.W.findIn K (.ref D0) "__or__" = some (some (.ref a19))) (i19 : PySem.W.isFn K (.ref a19) = true) (l19 : K.lookup a19 = some ⟨oc19, od19, .func (PySem.W.fnOf "__or__" "Pattern.__or__" (defArgs s_Pattern_or) (defBody s_Pattern_or) (defScope s_Pattern_or) .none kV19 dc19 pm19 an19 cd19 ct19), sl19⟩) (c19 : PySem.W.codeIn K cd19 "Pattern.__or__" = true) (k19 : PySem.W.keepIn K (.ref a19) = true)
    (n20 : PySem.W.nsIn K mainGlobals "_law_bag" = some (some (.ref a20))) (l20 : K.lookup a20 = some ⟨oc20, od20, .func (PySem.W.fnOf "_law_bag" "_law_bag" (defArgs s__law_bag) (defBody s__law_bag) (defScope s__law_bag) .none kV20 dc20 pm20 an20 cd20 ct20), sl20⟩) (c20 : PySem.W.codeIn K cd20 "_law_bag" = true) (k20 : PySem.W.keepIn K (.ref a20) = true)
    (n21 : PySem.W.nsIn K mainGlobals "_law_take" = some (some (.ref a21))) (l21 : K.lookup a21 = some ⟨oc21, od21, .func (PySem.W.fnOf "_law_take" "_law_take" (defArgs s__law_take) (defBody s__law_take) (defScope s__law_take) .none kV21 dc21 pm21 an21 cd21 ct21), sl21⟩) (c21 : PySem.W.codeIn K cd21 "_law_take" = true) (k21 : PySem.W.keepIn K (.ref a21) = true)
    (n22 : PySem.W.nsIn K mainGlobals "_law_alike" = some (some (.ref a22))) (l22 : K.lookup a22 = some ⟨oc22, od22, .func (PySem.W.fnOf "_law_alike" "_law_alike" (defArgs s__law_alike) (defBody s__law_alike) (defScope s__law_alike) .none kV22 dc22 pm22 an22 cd22 ct22), sl22⟩) (c22 : PySem.W.codeIn K cd22 "_law_alike" = true) (k22 : PySem.W.keepIn K (.ref a22) = true)
    (n23 : PySem.W.nsIn K mainGlobals "_law_mixed" = some (some (.ref a23))) (l23 : K.lookup a23 = some ⟨oc23, od23, .func (PySem.W.fnOf "_law_mixed" "_law_mixed" (defArgs s__law_mixed) (defBody s__law_mixed) (defScope s__law_mixed) .none kV23 dc23 pm23 an23 cd23 ct23), sl23⟩) (c23 : PySem.W.codeIn K cd23 "_law_mixed" = true) (k23 : PySem.W.keepIn K (.ref a23) = true)
    (n24 : PySem.W.nsIn K mainGlobals "_law_names" = some (some (.ref a24))) (l24 : K.lookup a24 = some ⟨oc24, od24, .func (PySem.W.fnOf "_law_names" "_law_names" (defArgs s__law_names) (defBody s__law_names) (defScope s__law_names) .none kV24 dc24 pm24 an24 cd24 ct24), sl24⟩) (c24 : PySem.W.codeIn K cd24 "_law_names" = true) (k24 : PySem.W.keepIn K (.ref a24) = true)
    (n25 : PySem.W.nsIn K mainGlobals "_law_term" = some (some (.ref a25))) (l25 : K.lookup a25 = some ⟨oc25, od25, .func (PySem.W.fnOf "_law_term" "_law_term" (defArgs s__law_term) (defBody s__law_term) (defScope s__law_term) .none kV25 dc25 pm25 an25 cd25 ct25), sl25⟩) (c25 : PySem.W.codeIn K cd25 "_law_term" = true) (k25 : PySem.W.keepIn K (.ref a25) = true)
    (n26 : PySem.W.nsIn K mainGlobals "_law_put" = some (some (.ref a26))) (l26 : K.lookup a26 = some ⟨oc26, od26, .func (PySem.W.fnOf "_law_put" "_law_put" (defArgs s__law_put) (defBody s__law_put) (defScope s__law_put) .none kV26 dc26 pm26 an26 cd26 ct26), sl26⟩) (c26 : PySem.W.codeIn K cd26 "_law_put" = true) (k26 : PySem.W.keepIn K (.ref a26) = true)
    (n27 : PySem.W.nsIn K mainGlobals "_law_column" = some (some (.ref a27))) (l27 : K.lookup a27 = some ⟨oc27, od27, .func (PySem.W.fnOf "_law_column" "_law_column" (defArgs s__law_column) (defBody s__law_column) (defScope s__law_column) .none kV27 dc27 pm27 an27 cd27 ct27), sl27⟩) (c27 : PySem.W.codeIn K cd27 "_law_column" = true) (k27 : PySem.W.keepIn K (.ref a27) = true)
    (n28 : PySem.W.nsIn K mainGlobals "_law_general" = some (some (.ref a28))) (l28 : K.lookup a28 = some ⟨oc28, od28, .func (PySem.W.fnOf "_law_general" "_law_general" (defArgs s__law_general) (defBody s__law_general) (defScope s__law_general) .none kV28 dc28 pm28 an28 cd28 ct28), sl28⟩) (c28 : PySem.W.codeIn K cd28 "_law_general" = true) (k28 : PySem.W.keepIn K (.ref a28) = true)
    (n29 : PySem.W.nsIn K mainGlobals "_law_rows" = some (some (.ref a29))) (l29 : K.lookup a29 = some ⟨oc29, od29, .func (PySem.W.fnOf "_law_rows" "_law_rows" (defArgs s__law_rows) (defBody s__law_rows) (defScope s__law_rows) .none kV29 dc29 pm29 an29 cd29 ct29), sl29⟩) (c29 : PySem.W.codeIn K cd29 "_law_rows" = true) (k29 : PySem.W.keepIn K (.ref a29) = true)
    (n30 : PySem.W.nsIn K mainGlobals "_law_unlike" = some (some (.ref a30))) (l30 : K.lookup a30 = some ⟨oc30, od30, .func (PySem.W.fnOf "_law_unlike" "_law_unlike" (defArgs s__law_unlike) (defBody s__law_unlike) (defScope s__law_unlike) .none kV30 dc30 pm30 an30 cd30 ct30), sl30⟩) (c30 : PySem.W.codeIn K cd30 "_law_unlike" = true) (k30 : PySem.W.keepIn K (.ref a30) = true)
    (n31 : PySem.W.nsIn K mainGlobals "law" = some (some (.ref a31))) (l31 : K.lookup a31 = some ⟨oc31, od31, .func (PySem.W.fnOf "law" "law" (defArgs s_law) (defBody s_law) (defScope s_law) .none kV31 dc31 pm31 an31 cd31 ct31), sl31⟩) (c31 : PySem.W.codeIn K cd31 "law" = true) (k31 : PySem.W.keepIn K (.ref a31) = true)
    (aC0 : PySem.W.nsIn K mainGlobals "Pattern" = some (some (.ref D0)))
    (pg0 : PySem.W.plainGet K D0 Str.empty = true)
    (hd0 : PySem.W.hasDictIn K D0 = true)
    (po0 : PySem.W.plainOver K D0 = true)
    (wa0 : PySem.W.findIn K (.ref D0) "__setattr__" = some (some (.builtin "object.__setattr__")))
    (mk0 : PySem.W.makesIn K D0 = true)
    (kc0 : PySem.W.keepIn K (.ref D0) = true)
    (sf0 : PySem.W.selfFirst K D0 = true)
    (na0_0 : PySem.W.findIn K (.ref D0) "_terms" = some none)
    (ne0 : PySem.W.findIn K (.ref D0) "__ne__" = some (some (.builtin "object.__ne__")))
    (wh0 : PySem.W.findIn K (.ref D0) "__class__" = some (some (.builtin "object.__class__")))
    (hm0 : PySem.W.mroIn K D0 (.type "object") = some true)
    (hk0 : PySem.W.typeIn K (.ref D0) = some (.type "type"))
    (ghn : PySem.W.specialIn K (.builtin "object.__class__") "__get__" = some (some (.builtin "getset_descriptor.__get__")))
    (ght : PySem.W.takesIn K (.builtin "object.__class__") = some true)
    (z_abs : PySem.W.nsIn K mainGlobals "abs" = some none)
    (z_all : PySem.W.nsIn K mainGlobals "all" = some none)
    (z_bool : PySem.W.nsIn K mainGlobals "bool" = some none)
    (z_dict : PySem.W.nsIn K mainGlobals "dict" = some none)
    (z_int : PySem.W.nsIn K mainGlobals "int" = some none)
    (z_isinstance : PySem.W.nsIn K mainGlobals "isinstance" = some none)
    (z_len : PySem.W.nsIn K mainGlobals "len" = some none)
    (z_list : PySem.W.nsIn K mainGlobals "list" = some none)
    (z_range : PySem.W.nsIn K mainGlobals "range" = some none)
    (z_repr : PySem.W.nsIn K mainGlobals "repr" = some none)
    (z_reversed : PySem.W.nsIn K mainGlobals "reversed" = some none)
    (z_sorted : PySem.W.nsIn K mainGlobals "sorted" = some none)
    (z_str : PySem.W.nsIn K mainGlobals "str" = some none)
    (z_tuple : PySem.W.nsIn K mainGlobals "tuple" = some none)
    (z_zip : PySem.W.nsIn K mainGlobals "zip" = some none)
    {t_LETTERS : Tok} (z_LETTERS : PySem.W.nsIn K mainGlobals "LETTERS" = some (some (.str "abcdefghijklmnopqrstuvwxyz" t_LETTERS)))
    {BM B0 I0 B1 I1 : Addr}
    {nm0 q0 : Str} {N0 : Addr} {bs0 : List Value} {sn0 : List Str} {sub0 : List Value} {ab0 : Bool} {col0 : Option Bool} {dd0 : Option Addr} {ma0 mb0 mc0 md0 me0 : Option Value}
    {nm1 q1 : Str} {N1 : Addr} {bs1 : List Value} {sn1 : List Str} {sub1 : List Value} {ab1 : Bool} {col1 : Option Bool} {dd1 : Option Addr} {ma1 mb1 mc1 md1 me1 : Option Value}
    {nmM qM : Str} {NM : Addr} {bsM : List Value} {snM : List Str} {subM : List Value} {abM : Bool} {colM : Option Bool} {ddM : Option Addr} {maM mbM mcM mdM meM : Option Value}
    {ic0 ip0 iq0 id0 it0 : Value} {io0 ia0 : Option Addr} {is0 : Array (Option Value)} {pa0 pb0 qa0 qb0 qc0 qd0 : Pos}
    {ic1 ip1 iq1 id1 it1 : Value} {io1 ia1 : Option Addr} {is1 : Array (Option Value)} {pa1 qa1 : Pos}
    (cnM : PySem.W.nsIn K mainGlobals "MoveError" = some (some (.ref BM)))
    (cLM : K.lookup BM = some (excClassObj nmM qM BM NM bsM veTop true snM subM abM colM ddM maM mbM mcM mdM meM "ValueError.__new__"))
    (cn0 : PySem.W.nsIn K mainGlobals "Wrong" = some (some (.ref B0)))
    (cL0 : K.lookup B0 = some (excClassObj nm0 q0 B0 N0 bs0 (.ref BM :: veTop) true sn0 sub0 ab0 col0 dd0 ma0 mb0 mc0 md0 me0 "ValueError.__new__"))
    (ga0 : PySem.W.findIn K (.ref B0) "__getattribute__" = some (some (.builtin "BaseException.__getattribute__")))
    (gg0 : PySem.W.findIn K (.ref B0) "__getattr__" = some none)
    (ha0 : PySem.W.findIn K (.ref B0) "__class__" = some (some (.builtin "object.__class__")))
    (sa0 : PySem.W.findIn K (.ref B0) "__setattr__" = some (some (.builtin "object.__setattr__")))
    (nb0 : PySem.W.findIn K (.ref B0) "place" = some none)
    (iI0 : PySem.W.findIn K (.ref B0) "__init__" = some (some (.ref I0)))
    (tI0 : PySem.W.typeIn K (.ref I0) = some (.type "function"))
    (lI0 : K.lookup I0 = some ⟨ic0, io0, .func (PySem.W.fnOf "__init__" "Wrong.__init__" (PySem.Erplace.iA pa0 pb0) (PySem.Erplace.iB qa0 qb0 qc0 qd0) PySem.Erplace.iS .none .none ip0 iq0 ia0 id0 it0), is0⟩)
    (cI0 : PySem.W.codeIn K id0 "Wrong.__init__" = true)
    (kC0 : PySem.W.keepIn K (.ref B0) = true)
    (cn1 : PySem.W.nsIn K mainGlobals "Unlike" = some (some (.ref B1)))
    (cL1 : K.lookup B1 = some (excClassObj nm1 q1 B1 N1 bs1 (.ref BM :: veTop) true sn1 sub1 ab1 col1 dd1 ma1 mb1 mc1 md1 me1 "ValueError.__new__"))
    (ga1 : PySem.W.findIn K (.ref B1) "__getattribute__" = some (some (.builtin "BaseException.__getattribute__")))
    (gg1 : PySem.W.findIn K (.ref B1) "__getattr__" = some none)
    (ha1 : PySem.W.findIn K (.ref B1) "__class__" = some (some (.builtin "object.__class__")))
    (iI1 : PySem.W.findIn K (.ref B1) "__init__" = some (some (.ref I1)))
    (tI1 : PySem.W.typeIn K (.ref I1) = some (.type "function"))
    (lI1 : K.lookup I1 = some ⟨ic1, io1, .func (PySem.W.fnOf "__init__" "Unlike.__init__" (PySem.Er0.iA pa1) (PySem.Er0.iB qa1) PySem.Er0.iS .none .none ip1 iq1 ia1 id1 it1), is1⟩)
    (cI1 : PySem.W.codeIn K id1 "Unlike.__init__" = true)
    (kC1 : PySem.W.keepIn K (.ref B1) = true)
    (nd : (BM :: [B0, B1]).Nodup)
    : ∃ fd : FuncData, (∀ (s : Shared) (u : Value), BindsTo s fd ⟨[u], []⟩ [("_law_script", u)]) ∧ ∀ bs : Heap, K.In bs → bs.Ns mainGlobals mg → FnG P w K mg bs 70 fa fd ["_law_script"] (spLaw K) := by
  have e := hfa.symm.trans (PySem.W.mg_of X G n31)
  cases e
  have F0 := fun_mk (st := s_is_integer) l0 c0 k0
  have F1 := fun_mk (st := s_is_name) l1 c1 k1
  have F2 := fun_mk (st := s_are_terms) l2 c2 k2
  have F3 := fun_mk (st := s_are_values) l3 c3 k3
  have F4 := fun_mk (st := s_laid_out) l4 c4 k4
  have F5 := fun_mk (st := s_shared) l5 c5 k5
  have F6 := fun_mk (st := s_filled) l6 c6 k6
  have F7 := fun_mk (st := s_fits) l7 c7 k7
  have F8 := fun_mk (st := s_put_all) l8 c8 k8
  have F9 := fun_mk (st := s_numbered) l9 c9 k9
  have F10 := fun_mk (st := s_are_equal_heads) l10 c10 k10
  have F11 := fun_mk (st := s_pairs_within) l11 c11 k11
  have F12 := fun_mk (st := s_least_terms) l12 c12 k12
  have F13 := fun_mk (st := s_Pattern_init) l13 c13 k13
  have F14 := fun_mk (st := s_Pattern_terms) l14 c14 k14
  have F15 := fun_mk (st := s_Pattern_contains) l15 c15 k15
  have F16 := fun_mk (st := s_Pattern_eq) l16 c16 k16
  have F17 := fun_mk (st := s_Pattern_len) l17 c17 k17
  have F18 := fun_mk (st := s_Pattern_repr) l18 c18 k18
  have F19 := fun_mk (st := s_Pattern_or) l19 c19 k19
  have F20 := fun_mk (st := s__law_bag) l20 c20 k20
  have F21 := fun_mk (st := s__law_take) l21 c21 k21
  have F22 := fun_mk (st := s__law_alike) l22 c22 k22
  have F23 := fun_mk (st := s__law_mixed) l23 c23 k23
  have F24 := fun_mk (st := s__law_names) l24 c24 k24
  have F25 := fun_mk (st := s__law_term) l25 c25 k25
  have F26 := fun_mk (st := s__law_put) l26 c26 k26
  have F27 := fun_mk (st := s__law_column) l27 c27 k27
  have F28 := fun_mk (st := s__law_general) l28 c28 k28
  have F29 := fun_mk (st := s__law_rows) l29 c29 k29
  have F30 := fun_mk (st := s__law_unlike) l30 c30 k30
  have F31 := fun_mk (st := s_law) l31 c31 k31
  have TM : ClsT K BM := ⟨_, _, _, _, _, _, _, _, _, _, _, _, _, _, cLM⟩
  obtain ⟨nM0, nd2⟩ := List.nodup_cons.mp nd
  have nM : ∀ i, (h : i < 2) → ([B0, B1])[i] ≠ BM := fun i h y => nM0 (y ▸ List.getElem_mem _)
  have M0 : ClsM K BM B0 := ⟨_, _, _, _, _, _, _, _, _, _, _, _, _, _, cL0⟩
  have X0 : ExcC K B0 := excC_of M0 ga0 gg0 ha0 ghn ght
  have E0 : PySem.Erplace.ErTxt K mg "Wrong" "Wrong.__init__" B0 I0 := { gC := PySem.W.mg_of X G cn0, cls := ⟨_, _, _, _, _, _, _, _, _, _, _, _, _, _, _, cL0, refs_of _⟩, iC := iI0, tC := tI0, kC := kC0, exC := X0.hs, tyC := M0.ty, hdC := M0.hd, fn := ⟨_, _, _, _, _, _, _, _, _, _, _, _, _, _, lI0, cI0⟩, sa := sa0, ga := ga0, gg := gg0, noN := nb0 }
  have M1 : ClsM K BM B1 := ⟨_, _, _, _, _, _, _, _, _, _, _, _, _, _, cL1⟩
  have X1 : ExcC K B1 := excC_of M1 ga1 gg1 ha1 ghn ght
  have E1 : PySem.Er0.ErTxt K mg "Unlike" "Unlike.__init__" B1 I1 := { gC := PySem.W.mg_of X G cn1, cls := ⟨_, _, _, _, _, _, _, _, _, _, _, _, _, _, _, cL1, refs_of _⟩, iC := iI1, tC := tI1, kC := kC1, exC := X1.hs, tyC := M1.ty, hdC := M1.hd, fn := ⟨_, _, _, _, _, _, _, _, _, _, lI1, cI1⟩ }
  have hM : ∀ i, i < 2 → ClsM K BM ([B0, B1].getD i 0) := fun i hi => by
    rcases (by omega : i = 0 ∨ i = 1) with rfl | rfl
    · exact M0
    · exact M1
  let T : Txt K mg := { a_is_integer := a0, d_is_integer := _, F_is_integer := F0, f_is_integer := PySem.W.mg_of X G n0, b_is_integer := F0.binds (ps := ["thing"]) (fun _ _ _ _ _ _ us hl => match us, hl with | [_], _ => rfl), a_is_name := a1, d_is_name := _, F_is_name := F1, f_is_name := PySem.W.mg_of X G n1, b_is_name := F1.binds (ps := ["thing"]) (fun _ _ _ _ _ _ us hl => match us, hl with | [_], _ => rfl), a_are_terms := a2, d_are_terms := _, F_are_terms := F2, f_are_terms := PySem.W.mg_of X G n2, b_are_terms := F2.binds (ps := ["things"]) (fun _ _ _ _ _ _ us hl => match us, hl with | [_], _ => rfl), a_are_values := a3, d_are_values := _, F_are_values := F3, f_are_values := PySem.W.mg_of X G n3, b_are_values := F3.binds (ps := ["many", "thing"]) (fun _ _ _ _ _ _ us hl => match us, hl with | [_, _], _ => rfl), a_laid_out := a4, d_laid_out := _, F_laid_out := F4, f_laid_out := PySem.W.mg_of X G n4, b_laid_out := F4.binds (ps := ["terms"]) (fun _ _ _ _ _ _ us hl => match us, hl with | [_], _ => rfl), a_shared := a5, d_shared := _, F_shared := F5, f_shared := PySem.W.mg_of X G n5, b_shared := F5.binds (ps := ["terms"]) (fun _ _ _ _ _ _ us hl => match us, hl with | [_], _ => rfl), a_filled := a6, d_filled := _, F_filled := F6, f_filled := PySem.W.mg_of X G n6, b_filled := F6.binds (ps := ["nodes", "values"]) (fun _ _ _ _ _ _ us hl => match us, hl with | [_, _], _ => rfl), a_fits := a7, d_fits := _, F_fits := F7, f_fits := PySem.W.mg_of X G n7, b_fits := F7.binds (ps := ["pairs", "nodes", "known"]) (fun _ _ _ _ _ _ us hl => match us, hl with | [_, _, _], _ => rfl), a_put_all := a8, d_put_all := _, F_put_all := F8, f_put_all := PySem.W.mg_of X G n8, b_put_all := F8.binds (ps := ["terms", "values"]) (fun _ _ _ _ _ _ us hl => match us, hl with | [_, _], _ => rfl), a_numbered := a9, d_numbered := _, F_numbered := F9, f_numbered := PySem.W.mg_of X G n9, b_numbered := F9.binds (ps := ["terms"]) (fun _ _ _ _ _ _ us hl => match us, hl with | [_], _ => rfl), a_are_equal_heads := a10, d_are_equal_heads := _, F_are_equal_heads := F10, f_are_equal_heads := PySem.W.mg_of X G n10, b_are_equal_heads := F10.binds (ps := ["node", "other"]) (fun _ _ _ _ _ _ us hl => match us, hl with | [_, _], _ => rfl), a_pairs_within := a11, d_pairs_within := _, F_pairs_within := F11, f_pairs_within := PySem.W.mg_of X G n11, b_pairs_within := F11.binds (ps := ["nodes", "others", "pairs"]) (fun _ _ _ _ _ _ us hl => match us, hl with | [_, _, _], _ => rfl), a_least_terms := a12, d_least_terms := _, F_least_terms := F12, f_least_terms := PySem.W.mg_of X G n12, b_least_terms := F12.binds (ps := ["terms", "others"]) (fun _ _ _ _ _ _ us hl => match us, hl with | [_, _], _ => rfl), a_Pattern_init := a13, d_Pattern_init := _, F_Pattern_init := F13, b_Pattern_init := F13.binds (ps := ["self", "terms"]) (fun _ _ _ _ _ _ us hl => match us, hl with | [_, _], _ => rfl), a_Pattern_terms := a14, d_Pattern_terms := _, F_Pattern_terms := F14, b_Pattern_terms := F14.binds (ps := ["self"]) (fun _ _ _ _ _ _ us hl => match us, hl with | [_], _ => rfl), a_Pattern_contains := a15, d_Pattern_contains := _, F_Pattern_contains := F15, b_Pattern_contains := F15.binds (ps := ["self", "values"]) (fun _ _ _ _ _ _ us hl => match us, hl with | [_, _], _ => rfl), a_Pattern_eq := a16, d_Pattern_eq := _, F_Pattern_eq := F16, b_Pattern_eq := F16.binds (ps := ["self", "other"]) (fun _ _ _ _ _ _ us hl => match us, hl with | [_, _], _ => rfl), a_Pattern_len := a17, d_Pattern_len := _, F_Pattern_len := F17, b_Pattern_len := F17.binds (ps := ["self"]) (fun _ _ _ _ _ _ us hl => match us, hl with | [_], _ => rfl), a_Pattern_repr := a18, d_Pattern_repr := _, F_Pattern_repr := F18, b_Pattern_repr := F18.binds (ps := ["self"]) (fun _ _ _ _ _ _ us hl => match us, hl with | [_], _ => rfl), a_Pattern_or := a19, d_Pattern_or := _, F_Pattern_or := F19, b_Pattern_or := F19.binds (ps := ["self", "other"]) (fun _ _ _ _ _ _ us hl => match us, hl with | [_, _], _ => rfl), a__law_bag := a20, d__law_bag := _, F__law_bag := F20, f__law_bag := PySem.W.mg_of X G n20, b__law_bag := F20.binds (ps := ["_law_script"]) (fun _ _ _ _ _ _ us hl => match us, hl with | [_], _ => rfl), a__law_take := a21, d__law_take := _, F__law_take := F21, f__law_take := PySem.W.mg_of X G n21, b__law_take := F21.binds (ps := ["_law_bag_here", "_law_many"]) (fun _ _ _ _ _ _ us hl => match us, hl with | [_, _], _ => rfl), a__law_alike := a22, d__law_alike := _, F__law_alike := F22, f__law_alike := PySem.W.mg_of X G n22, b__law_alike := F22.binds (ps := ["_law_found", "_law_due"]) (fun _ _ _ _ _ _ us hl => match us, hl with | [_, _], _ => rfl), a__law_mixed := a23, d__law_mixed := _, F__law_mixed := F23, f__law_mixed := PySem.W.mg_of X G n23, b__law_mixed := F23.binds (ps := ["_law_bag_here", "_law_things"]) (fun _ _ _ _ _ _ us hl => match us, hl with | [_, _], _ => rfl), a__law_names := a24, d__law_names := _, F__law_names := F24, f__law_names := PySem.W.mg_of X G n24, b__law_names := F24.binds (ps := ["_law_bag_here", "_law_many"]) (fun _ _ _ _ _ _ us hl => match us, hl with | [_, _], _ => rfl), a__law_term := a25, d__law_term := _, F__law_term := F25, f__law_term := PySem.W.mg_of X G n25, b__law_term := F25.binds (ps := ["_law_bag_here", "_law_names_here", "_law_many", "_law_deep"]) (fun _ _ _ _ _ _ us hl => match us, hl with | [_, _, _, _], _ => rfl), a__law_put := a26, d__law_put := _, F__law_put := F26, f__law_put := PySem.W.mg_of X G n26, b__law_put := F26.binds (ps := ["_law_term_here", "_law_values"]) (fun _ _ _ _ _ _ us hl => match us, hl with | [_, _], _ => rfl), a__law_column := a27, d__law_column := _, F__law_column := F27, f__law_column := PySem.W.mg_of X G n27, b__law_column := F27.binds (ps := ["_law_column_here", "_law_known"]) (fun _ _ _ _ _ _ us hl => match us, hl with | [_, _], _ => rfl), a__law_general := a28, d__law_general := _, F__law_general := F28, f__law_general := PySem.W.mg_of X G n28, b__law_general := F28.binds (ps := ["_law_lists"]) (fun _ _ _ _ _ _ us hl => match us, hl with | [_], _ => rfl), a__law_rows := a29, d__law_rows := _, F__law_rows := F29, f__law_rows := PySem.W.mg_of X G n29, b__law_rows := F29.binds (ps := ["_law_bag_here", "_law_names_here"]) (fun _ _ _ _ _ _ us hl => match us, hl with | [_, _], _ => rfl), a__law_unlike := a30, d__law_unlike := _, F__law_unlike := F30, f__law_unlike := PySem.W.mg_of X G n30, b__law_unlike := F30.binds (ps := ["_law_one", "_law_other"]) (fun _ _ _ _ _ _ us hl => match us, hl with | [_, _], _ => rfl), a_law := fa, d_law := _, F_law := F31, f_law := PySem.W.mg_of X G n31, b_law := F31.binds (ps := ["_law_script"]) (fun _ _ _ _ _ _ us hl => match us, hl with | [_], _ => rfl), C_Pattern := D0, g_Pattern := PySem.W.mg_of X G aC0, cl_Pattern := ⟨pg0, hd0, po0, wa0⟩, mk_Pattern := ⟨mk0, n13, i13, kc0⟩, p_Pattern_terms := R14, pr_Pattern_terms := ⟨n14, g14, t14, ⟨_, i14⟩⟩, sp_Pattern_contains := n15, fn_Pattern_contains := i15, sp_Pattern_eq := n16, fn_Pattern_eq := i16, sp_Pattern_len := n17, fn_Pattern_len := i17, sp_Pattern_repr := n18, fn_Pattern_repr := i18, sp_Pattern_or := n19, fn_Pattern_or := i19, sf_Pattern := sf0, na_Pattern__terms := na0_0, ne_Pattern := ne0, m_abs := PySem.W.mg_none_of X G z_abs, m_all := PySem.W.mg_none_of X G z_all, m_bool := PySem.W.mg_none_of X G z_bool, m_dict := PySem.W.mg_none_of X G z_dict, m_int := PySem.W.mg_none_of X G z_int, m_isinstance := PySem.W.mg_none_of X G z_isinstance, m_len := PySem.W.mg_none_of X G z_len, m_list := PySem.W.mg_none_of X G z_list, m_range := PySem.W.mg_none_of X G z_range, m_repr := PySem.W.mg_none_of X G z_repr, m_reversed := PySem.W.mg_none_of X G z_reversed, m_sorted := PySem.W.mg_none_of X G z_sorted, m_str := PySem.W.mg_none_of X G z_str, m_tuple := PySem.W.mg_none_of X G z_tuple, m_zip := PySem.W.mg_none_of X G z_zip, t_LETTERS := t_LETTERS, g_LETTERS := PySem.W.mg_of X G z_LETTERS, C_MoveError := BM, g_MoveError := PySem.W.mg_of X G cnM, C_Wrong := B0, g_Wrong := PySem.W.mg_of X G cn0, fI_Wrong := I0, e_Wrong := E0, x_Wrong := X0, m_Wrong := exm_of TM M0 (nM 0 (by decide)), C_Unlike := B1, g_Unlike := PySem.W.mg_of X G cn1, fI_Unlike := I1, e_Unlike := E1, x_Unlike := X1, m_Unlike := exm_of TM M1 (nM 1 (by decide)) }
  have kw : PySem.W.kitOne K (.ref B1) (.ref B0) = some false := by
    have ne01 : B0 ≠ B1 := fun y => (List.nodup_cons.mp (List.nodup_cons.mp nd).2).1 (y ▸ List.mem_cons_self)
    obtain ⟨cd, h1, _⟩ := M0.cls
    rw [kit_ref ⟨cd, h1⟩ M0.ty _ (ref_beq (Ne.symm ne01)), M1.sub, has_ref ne01 (nM 0 (by decide))]
  exact ⟨_, fun s u => .of_eq rfl, fun bs _ _ => ok_law T ⟨wh0, ghn, ght, hm0, ne0, hk_of hd0 hk0⟩ kw⟩
theorem walk {l : PySem.W.OpenLaw} {q : Program} {loose : List Str} {XP : (Str → Option Value) → Heap → Prop} {YP : World → Heap → Prop} {d : DefRec} {K : Params → PySem.W.Frag} (hn : l.most = some 63) (hdf : d.params.defaults = [])
    (hY : ∀ (w : World) (h : Heap), YP w h → (K w.params).In h)
    (F : ∀ (w : World) (mg : Str → Option Value) (fa : Addr) (h : Heap), (K w.params).In h → h.Ns mainGlobals mg → mg d.name = some (.ref fa) →
      ∃ fd : FuncData, (∀ (s : Shared) (u : Value), BindsTo s fd ⟨[u], []⟩ [("_law_script", u)]) ∧ ∀ bs : Heap, (K w.params).In bs → bs.Ns mainGlobals mg → FnG l.prog w (K w.params) mg bs 70 fa fd ["_law_script"] (spLaw (K w.params))) :
    PySem.W.WalkO q loose XP YP l.row.toRowW d [] (fun f vs => PySem.call f vs) :=
  Fm.walkG (n := 63) (k := 70) (x := "_law_script") (sp := fun w => spLaw (K w.params)) hn (by decide) hdf ⟨rfl, by decide, by decide⟩ hY F fun _ _ a ns hl hS => ⟨a, ns, rfl, hS, hl, fun _ => rfl⟩
end K15
open PySem PySem.W PyProof.Rows in
set_option maxRecDepth 100000 in
set_option maxHeartbeats 0 in
theorem PySem.Challenge.cw_framemoves_k15_whole_least_patterns_holds : PySem.Challenge.rw_framemoves_k15_whole_least_patterns.Holds := by
  w_on; o_law; k_head; (case hw => w_witness2)
  k_fill
  refine K15.walk (l := PySem.Challenge.rw_framemoves_k15_whole_least_patterns) rfl rfl (fun w h Y => PySem.W.kIn_of Y) ?F
  case F =>
    intro w mg fa h KX G hmg
    refine' K15.all_mk KX G hmg ?n0 ?l0 ?c0 ?k0 ?n1 ?l1 ?c1 ?k1 ?n2 ?l2 ?c2 ?k2 ?n3 ?l3 ?c3 ?k3 ?n4 ?l4 ?c4 ?k4 ?n5 ?l5 ?c5 ?k5 ?n6 ?l6 ?c6 ?k6 ?n7 ?l7 ?c7 ?k7 ?n8 ?l8 ?c8 ?k8 ?n9 ?l9 ?c9 ?k9 ?n10 ?l10 ?c10 ?k10 ?n11 ?l11 ?c11 ?k11 ?n12 ?l12 ?c12 ?k12 ?n13 ?i13 ?l13 ?c13 ?k13 ?n14 ?i14 ?g14 ?t14 ?l14 ?c14 ?k14 ?n15 ?i15 ?l15 ?c15 ?k15 ?n16 ?i16 ?l16 ?c16 ?k16 ?n17 ?i17 ?l17 ?c17 ?k17 ?n18 ?i18 ?l18 ?c18 ?k18 ?n19 ?i19 ?l19 ?c19 ?k19 ?n20 ?l20 ?c20 ?k20 ?n21 ?l21 ?c21 ?k21 ?n22 ?l22 ?c22 ?k22 ?n23 ?l23 ?c23 ?k23 ?n24 ?l24 ?c24 ?k24 ?n25 ?l25 ?c25 ?k25 ?n26 ?l26 ?c26 ?k26 ?n27 ?l27 ?c27 ?k27 ?n28 ?l28 ?c28 ?k28 ?n29 ?l29 ?c29 ?k29 ?n30 ?l30 ?c30 ?k30 ?n31 ?l31 ?c31 ?k31 ?aC0 ?pg0 ?hd0 ?po0 ?wa0 ?mk0 ?kc0 ?sf0 ?na0_0 ?ne0 ?wh0 ?hm0 ?hk0 ?ghn ?ght ?z_abs ?z_all ?z_bool ?z_dict ?z_int ?z_isinstance ?z_len ?z_list ?z_range ?z_repr ?z_reversed ?z_sorted ?z_str ?z_tuple ?z_zip ?z_LETTERS ?cnM ?cLM ?cn0 ?cL0 ?ga0 ?gg0 ?ha0 ?sa0 ?nb0 ?iI0 ?tI0 ?lI0 ?cI0 ?kC0 ?cn1 ?cL1 ?ga1 ?gg1 ?ha1 ?iI1 ?tI1 ?lI1 ?cI1 ?kC1 ?nd
    (case aC0 => k_is)
    (case n0 => k_is)
    (case l0 => k_is)
    (case c0 => k_is)
    (case k0 => k_is)
    (case n1 => k_is)
    (case l1 => k_is)
    (case c1 => k_is)
    (case k1 => k_is)
    (case n2 => k_is)
    (case l2 => k_is)
    (case c2 => k_is)
    (case k2 => k_is)
    (case n3 => k_is)
    (case l3 => k_is)
    (case c3 => k_is)
    (case k3 => k_is)
    (case n4 => k_is)
    (case l4 => k_is)
    (case c4 => k_is)
    (case k4 => k_is)
    (case n5 => k_is)
    (case l5 => k_is)
    (case c5 => k_is)
    (case k5 => k_is)
    (case n6 => k_is)
    (case l6 => k_is)
    (case c6 => k_is)
    (case k6 => k_is)
    (case n7 => k_is)
    (case l7 => k_is)
    (case c7 => k_is)
    (case k7 => k_is)
    (case n8 => k_is)
    (case l8 => k_is)
    (case c8 => k_is)
    (case k8 => k_is)
    (case n9 => k_is)
    (case l9 => k_is)
    (case c9 => k_is)
    (case k9 => k_is)
    (case n10 => k_is)
    (case l10 => k_is)
    (case c10 => k_is)
    (case k10 => k_is)
    (case n11 => k_is)
    (case l11 => k_is)
    (case c11 => k_is)
    (case k11 => k_is)
    (case n12 => k_is)
    (case l12 => k_is)
    (case c12 => k_is)
    (case k12 => k_is)
    (case n13 => k_is)
    (case i13 => k_is)
    (case l13 => k_is)
    (case c13 => k_is)
    (case k13 => k_is)
    (case n14 => k_is)
    (case i14 => k_is)
    (case g14 => k_is)
    (case t14 => k_is)
    (case l14 => k_is)
    (case c14 => k_is)
    (case k14 => k_is)
    (case n15 => k_is)
    (case i15 => k_is)
    (case l15 => k_is)
    (case c15 => k_is)
    (case k15 => k_is)
    (case n16 => k_is)
    (case i16 => k_is)
    (case l16 => k_is)
    (case c16 => k_is)
    (case k16 => k_is)
    (case n17 => k_is)
    (case i17 => k_is)
    (case l17 => k_is)
    (case c17 => k_is)
    (case k17 => k_is)
    (case n18 => k_is)
    (case i18 => k_is)
    (case l18 => k_is)
    (case c18 => k_is)
    (case k18 => k_is)
    (case n19 => k_is)
    (case i19 => k_is)
    (case l19 => k_is)
    (case c19 => k_is)
    (case k19 => k_is)
    (case n20 => k_is)
    (case l20 => k_is)
    (case c20 => k_is)
    (case k20 => k_is)
    (case n21 => k_is)
    (case l21 => k_is)
    (case c21 => k_is)
    (case k21 => k_is)
    (case n22 => k_is)
    (case l22 => k_is)
    (case c22 => k_is)
    (case k22 => k_is)
    (case n23 => k_is)
    (case l23 => k_is)
    (case c23 => k_is)
    (case k23 => k_is)
    (case n24 => k_is)
    (case l24 => k_is)
    (case c24 => k_is)
    (case k24 => k_is)
    (case n25 => k_is)
    (case l25 => k_is)
    (case c25 => k_is)
    (case k25 => k_is)
    (case n26 => k_is)
    (case l26 => k_is)
    (case c26 => k_is)
    (case k26 => k_is)
    (case n27 => k_is)
    (case l27 => k_is)
    (case c27 => k_is)
    (case k27 => k_is)
    (case n28 => k_is)
    (case l28 => k_is)
    (case c28 => k_is)
    (case k28 => k_is)
    (case n29 => k_is)
    (case l29 => k_is)
    (case c29 => k_is)
    (case k29 => k_is)
    (case n30 => k_is)
    (case l30 => k_is)
    (case c30 => k_is)
    (case k30 => k_is)
    (case n31 => k_is)
    (case l31 => k_is)
    (case c31 => k_is)
    (case k31 => k_is)
    (case pg0 => k_is)
    (case hd0 => k_is)
    (case po0 => k_is)
    (case wa0 => k_is)
    (case mk0 => k_is)
    (case kc0 => k_is)
    (case sf0 => k_is)
    (case na0_0 => k_is)
    (case ne0 => k_is)
    (case wh0 => k_is)
    (case hm0 => k_is)
    (case hk0 => k_is)
    (case ghn => k_is)
    (case ght => k_is)
    (case z_abs => k_is)
    (case z_all => k_is)
    (case z_bool => k_is)
    (case z_dict => k_is)
    (case z_int => k_is)
    (case z_isinstance => k_is)
    (case z_len => k_is)
    (case z_list => k_is)
    (case z_range => k_is)
    (case z_repr => k_is)
    (case z_reversed => k_is)
    (case z_sorted => k_is)
    (case z_str => k_is)
    (case z_tuple => k_is)
    (case z_zip => k_is)
    (case z_LETTERS => k_is)
    (case cnM => k_is)
    (case cLM => k_is)
    (case cn0 => k_is)
    (case cL0 => k_is)
    (case ga0 => k_is)
    (case gg0 => k_is)
    (case ha0 => k_is)
    (case sa0 => k_is)
    (case nb0 => k_is)
    (case iI0 => k_is)
    (case tI0 => k_is)
    (case lI0 => k_is)
    (case cI0 => k_is)
    (case kC0 => k_is)
    (case cn1 => k_is)
    (case cL1 => k_is)
    (case ga1 => k_is)
    (case gg1 => k_is)
    (case ha1 => k_is)
    (case iI1 => k_is)
    (case tI1 => k_is)
    (case lI1 => k_is)
    (case cI1 => k_is)
    (case kC1 => k_is)
    (case nd => decide)
