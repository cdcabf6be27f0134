import PyProof.Rows.All
import Wide.All
import OpenK.AllK
import Wide.FinOn
import HandS.ForMost
import HandS.IsInst
import HandS.Sort
import HandS.More
import HandS.TupAny
import HandS.TupMul
import HandS.Walk
import HandS.Evl
import HandS.Wide
import PyProof.ListMulRoad
import PyProof.FactsAll.tuple_2
import HandS.Style
import HandS.SetKeys
import HandS.Conv
import HandS.Rev
import HandS.Iter
import HandS.DictTup
import PyProof.DictMoreH
import HandS.TupLen
import HandS.WordsDict
import HandS.SetBool
import HandS.Strs
import HandS.ForSpec
import KE.OsGo
import Open.SpecLaws
import HandS.ExcValue
import HandS.ExcIs
import HandS.ExcField
import KE.KExcIs
import HandS.OwnEq
import HandS.DeepEq
import PyProof.ReprLen
import HandS.SetFor
import PyProof.ReprReads
import HandS.DictComp
import HandS.ListItems
import HandS.Finally
import PyProof.Rows.SortStr
import PyProof.Rows.StrMeet
import KE.KSortTupAny
import PySem.Challenge.RW_framemoves_k20_worlds_made
set_option Elab.async false
set_option linter.all false
set_option maxRecDepth 100000
set_option maxHeartbeats 2000000
/-! Fm: defs that are run where nothing is being shown (no guard on the stack), so that repr tells the whole text. -/
namespace Fm
open PySem PySem.Spec PyProof.Rows L2

/-- a def's promise, kept where no guard stands; no exception leaves it -/
structure FnG (P : Program) (w : World) (K : PySem.W.Frag) (mg : Str → Option Value) (bs : Heap) (k : Nat) (f : Addr) (fd : FuncData) (ps : List Str) (sp : Sp) : Prop where
  many : ∀ vs H Q E, sp vs H Q E → vs.length = ps.length
  runs : ∀ (A : Around) (fr : List Env) (s : Shared) (H : Hp) (ar : Args) (us : List Value) (vs : List V) (Q : VK),
    Room k A → A.guards = some [] → Env0 P w K mg bs A fr s H → BindsTo s fd ar (ps.zip us) → Vals vs us → sp vs H Q E0 → codeAny (model P w) A (.call (.ref f) ar) (CR CX0 fr P w H s Q E0) s
section
variable {P : Program} {w : World} {K : PySem.W.Frag} {mg : Str → Option Value} {bs : Heap} {k : Nat}
theorem FnG.of {f : Addr} {fd : FuncData} {ps : List Str} {sp : Sp} (F : FnOk P w K mg bs CX0 k f fd ps sp) : FnG P w K mg bs k f fd ps sp :=
  ⟨F.len, fun A fr s H ar us vs Q r _ e b v h => F.run A fr s H ar us vs Q E0 r e b v h⟩
/-- the rule for such a def -/
theorem fnG {x qual : Str} {st : Stmt} {f : Addr} {fd : FuncData} {N ps : List Str} {sp : Sp} (F : Fun K x qual st f fd) (S : FnScope N ps (defScope st)) (len : ∀ vs H Q E, sp vs H Q E → vs.length = ps.length)
    (body : ∀ (cdv : Value) (A : Around) (fr : List Env) (s : Shared) (H : Hp) (vs : List V) (Q : VK), A.guards = some [] → Room k (A.deeper (envOfC qual (defScope st) s.heap.objs.size f cdv)) → sp vs H Q E0 →
      ∃ t, PSs (cxOf CX0 P w K mg bs N qual (defScope st) f cdv A fr s H E0).nox (defBody st) t ∧ t { nx := fun _ H' => Q .non H', rt := Q } (start N vs) H) : FnG P w K mg bs (k + 1) f fd ps sp := by
  obtain ⟨oc, od, kV, doc, pm, an, cdv, ct, osl, rfl, lk, hcd⟩ := F.ex
  refine ⟨len, ?_⟩
  intro A fr s H ar us vs Q room gd env bound rel hyp
  have nvs := len _ _ _ _ hyp
  have kin : K.In s.heap := env.mod.kin.keeps (fun b o q => (env.bs b o q).1)
  have nl : s.heap.NoLimit := env.mod.nolimit.keeps (fun b o q => (env.bs b o q).1)
  have kinds : ∀ y ∈ ps.zip us, (defScope st).names.lookup y.1 = some .local ∨ ((defScope st).names.lookup y.1 = some .cell ∧
      ((cellsFrom (s.heap.objs.size + 1) (defScope st).names []).lookup y.1).isSome = true) := by
    rintro ⟨n, v⟩ hy
    have hp := S.par n (List.of_mem_zip hy).1
    cases hp with
    | inl q => exact Or.inl q
    | inr q => exact Or.inr ⟨q, PySem.W.cellsFrom_some _ _ _ (Or.inl q)⟩
  refine codeAny_call_function room.depth (kin _ _ lk) rfl S.co S.gen rfl (PySem.W.codeRec_of kin hcd) (bound _ _ _ _ ?_)
  refine wpAny_newFunctionEnv_cells S.kind kinds fun env1 he s1 x1 => ?_
  subst he
  refine ⟨nl.keeps x1.toInCall.keep, codeAny_func ?_⟩
  obtain ⟨t, ht, hq⟩ := body cdv A fr s H vs Q gd (room.deeper _) hyp
  have J := inv_start (CX := CX0) (E := E0) S room.hd env nvs rel x1
  refine wpAny_mono (ht.nox.run [] s1 (start N vs) H _ J hq) (fun fl s' hs => ?_) (fun _ _ z => z)
  cases fl with
  | ret u =>
    obtain ⟨v, σ', H', J2, rv, q⟩ := hs
    exact ⟨v, H', J2.os, J2.bare, J2.base, J2.hok, rv, q⟩
  | next =>
    obtain ⟨σ', H', J2, q⟩ := hs
    exact ⟨V.non, H', J2.os, J2.bare, J2.base, J2.hok, rfl, q⟩
  | brk =>
    obtain ⟨_, _, _, q⟩ := hs
    exact q.elim
  | cont =>
    obtain ⟨_, _, _, q⟩ := hs
    exact q.elim
end
section
variable {X : Cx} {k : Nat} {f : Addr} {fd : FuncData} {ps : List Str} {sp : Sp} {x : Str} {p pos : Pos} {e : Expr} {es : List Expr} {t : TA}
theorem goG {pins : List (Addr × Obj)} {σ : L2.St} {H : Hp} {s : Shared} {Q : VK} {us : List Value} {vs : List V} (F : FnG X.prog X.w X.K X.mg X.base k f fd ps sp) (hr : Room k X.A) (gd : X.A.guards = some []) (hb : Binds X.K fd ps [])
    (I : Inv X pins σ H s) (r : Vals vs us) (h : sp vs H Q E0) : wpAny (model X.prog X.w) X.A (call (.ref f) us) (EP X pins σ Q) X.xe s := by
  have n1 := F.many _ _ _ _ h
  have n2 : (us ++ []).length = ps.length := by rw [List.append_nil, ← r.length, n1]
  have b1 := hb s us I.kIn n2
  rw [List.append_nil] at b1
  refine wpAny_call (codeAny_mono (F.runs X.A X.stack s H ⟨us, []⟩ us vs Q hr gd I.env0 b1 r h) fun res s' hq => ?_)
  cases res with
  | error e => exact False.elim hq
  | ok fl =>
    cases fl with
    | ret u => exact I.after hq
    | next => exact False.elim hq
    | brk => exact False.elim hq
    | cont => exact False.elim hq
/-- f(e, ..) -/
theorem pe_callG (F : FnG X.prog X.w X.K X.mg X.base k f fd ps sp) (hr : Room k X.A) (gd : X.A.guards = some []) (hg : Gl X x) (hm : X.mg x = some (.ref f)) (kp : PySem.W.keepIn X.K (.ref f) = true) (hb : Binds X.K fd ps [])
    (ha : PA X (e :: es) t) (n0 : (x == ("__debug__" : Str)) = false := by decide) (n1 : starEach (e :: es) X.env = (false, eval e X.env) :: starEach es X.env := by rfl) (n2 : (backTo pos (starEach es X.env)).any (·.1) = false := by rfl) :
    PE X (.Call (.Name x p) (e :: es) [] pos) (fun σ H Q => t σ H fun vs H1 => sp vs H1 Q E0) := by
  constructor
  intro pins s σ H Q I h
  refine wpAny_Call_Name_kw (ld_glob I hg hm ?_ n0)
  refine PySem.W.callWith_K (h₀ := X.base) I.ok.mod.kin kp (thn (ha.run pos pins s σ H _ I h) ?_) n1 n2
  rintro us s1 ⟨vs, H1, I1, r, q⟩
  exact ⟨I1.kIn, goG F hr gd hb I1 r q⟩
end

/-! ### the end of a law's row, for a def that is run where no guard stands -/
section
variable {P : Program} {w : World} {K : PySem.W.Frag} {mg mb : Str → Option Value} {k : Nat}
theorem lawG {fa a : Addr} {fd : FuncData} {x : Str} {sp : Sp} {s1 : Shared} {vs : List Value} {ns : List Int}
    (kin : K.In s1.heap) (g0 : s1.heap.Ns mainGlobals mg) (g1 : s1.heap.Ns builtinsNs mb) (g2 : ∀ y : Str, y ≠ "__name__" → mb y = bootBuiltins y) (nl : s1.heap.NoLimit) (gens : s1.gens = #[])
    (obj : s1.heap.get? a = some { cls := .type "list", data := .seq vs.toArray }) (hin : IntsAre vs ns) (len : ns.length ≤ sizeLine) (room : Room k callerA)
    (F : ∀ bs : Heap, K.In bs → bs.Ns mainGlobals mg → FnG P w K mg bs k fa fd [x] sp) (bound : ∀ (s : Shared) (u : Value), BindsTo s fd ⟨[u], []⟩ [(x, u)])
    (hsp : ∀ H : Hp, SqL K H a (ns.map V.int) → sp [.ref a] H (fun v _ => v = .bl true) E0) :
    codeAny (model P w) callerA (.call (.ref fa) ⟨[.ref a], []⟩) (fun r s' => r = .ok (.ret (.bool true)) ∧ OldK s1.heap s'.heap ∧ s'.os = s1.os ∧ AllBare s'.gens) s1 := by
  have rv := vals_ints hin
  have nvs := hin.length
  -- over any abstract heap that tracks at most the script, frozen
  have main : ∀ H : Hp, (∀ b, H b = none ∨ ∃ o xs, H b = some (.frz o (.lst xs))) → SqL K H a (ns.map V.int) → HOk P w H s1.heap → (∀ b, H b ≠ none → b = a) → (H a ≠ none → K.lookup a = none) →
      codeAny (model P w) callerA (.call (.ref fa) ⟨[.ref a], []⟩) (fun r s' => r = .ok (.ret (.bool true)) ∧ OldK s1.heap s'.heap ∧ s'.os = s1.os ∧ AllBare s'.gens) s1 := by
    intro H only hS hok hA hK
    have hid : ∀ {b : Addr} {o : Obj}, s1.heap.get? b = some o → H b = none → (hidT s1.heap H).get? b = some o := fun q n => hidT_get q n
    have dicts : ∀ {b : Addr} {o : Obj} {es : Array DictEntry} {ep : Nat}, s1.heap.get? b = some o → o.data = .dict es ep → H b = none := by
      intro b o es ep q d
      cases z : H b with
      | none => rfl
      | some u =>
        have eb : b = a := hA b (by rw [z]; exact fun y => nomatch y)
        rw [eb, obj] at q
        cases q
        exact nomatch (show Data.seq vs.toArray _ = Data.dict es ep from d)
    have nss : ∀ {b : Addr} {m : Str → Option Value}, s1.heap.Ns b m → (hidT s1.heap H).Ns b m := by
      rintro b m ⟨o, es, ep, q, d, r⟩
      exact ⟨o, es, ep, hid q (dicts q d), d, r⟩
    have kinH : K.In (hidT s1.heap H) := by
      intro b o q
      refine hid (kin b o q) ?_
      cases z : H b with
      | none => rfl
      | some u =>
        have eb : b = a := hA b (by rw [z]; exact fun y => nomatch y)
        subst eb
        rw [hK (by rw [z]; exact fun y => nomatch y)] at q
        cases q
    have hM : Mod K mg (hidT s1.heap H) := by
      obtain ⟨mc, h1, h2⟩ := nl
      exact ⟨kinH, nss g0, ⟨mb, nss g1, g2⟩, ⟨mc, nss h1, h2⟩⟩
    have env : Env0 P w K mg (hidT s1.heap H) callerA [] s1 H :=
      ⟨rfl, hM, fun b o q => of_hidT q, Nat.le_of_eq (hidT_size _ _), trivial, fun b hb => (by simp [frs] at hb), hok, .of_eq gens⟩
    have fin := (F _ kinH (nss g0)).runs callerA [] s1 H ⟨[.ref a], []⟩ [.ref a] [.ref a] _ room rfl env (bound s1 (.ref a)) (.cons rfl .nil) (hsp H hS)
    refine codeAny_mono fin fun r s' h => ?_
    match r, h with
    | .ok (.ret u), h =>
      obtain ⟨v, H', os, bare, un, hok', r', q⟩ := h
      have q' : v = .bl true := q
      subst q'
      obtain rfl : u = Value.bool true := r'
      refine ⟨rfl, OldK.of_keep (fun b o e => ?_), os, bare⟩
      cases z : H b with
      | none => exact un.keep b o e z (by simp [frs]) (by simp)
      | some y =>
        rcases only b with z1 | ⟨ob, xs, z1⟩
        · rw [z] at z1
          cases z1
        · have e1 := (hok b _ z1).1
          have e2 := (hok' b _ (un.frzs b ob _ z1)).1
          rw [e] at e1
          cases e1
          exact e2
  cases hk : K.lookup a with
  | some o =>
    have e := kin a o hk
    rw [obj] at e
    cases e
    refine main (fun _ => none) (fun _ => Or.inl rfl) (Or.inr ⟨_, vs.toArray, _, hk, rfl, rfl, rfl, ?_, ?_⟩) (fun b u z => nomatch z) (fun b z => absurd rfl z) (fun z => absurd rfl z)
    · rw [List.size_toArray, nvs]
      exact len
    · simpa using rv
  | none =>
    refine main (fun b => if b = a then some (.frz { cls := .type "list", data := .seq vs.toArray } (.lst (ns.map V.int))) else none) ?_ ?_ ?_ ?_ (fun _ => hk)
    · intro b
      by_cases hb : b = a
      · exact Or.inr ⟨_, _, if_pos hb⟩
      · exact Or.inl (if_neg hb)
    · exact Or.inl (Or.inr ⟨{ cls := .type "list", data := .seq vs.toArray }, if_pos rfl⟩)
    · intro b u z
      by_cases hb : b = a
      · have z1 := (if_pos hb).symm.trans z
        cases z1
        rw [hb]
        exact ⟨obj, by rw [List.length_map]; exact len, vs, _, rv, obj⟩
      · have z1 := (if_neg hb).symm.trans z
        cases z1
    · intro b z
      by_cases hb : b = a
      · exact hb
      · exact absurd (if_neg hb) z
end
theorem walkG {l : PySem.W.OpenLaw} {n k : Nat} {q : Program} {loose : List Str} {XP : (Str → Option Value) → Heap → Prop} {YP : World → Heap → Prop} {d : DefRec} {K : Params → PySem.W.Frag} {sp : World → Sp} {x : Str}
    (hn : l.most = some n) (n2 : n ≤ sizeLine) (hdf : d.params.defaults = []) (room : Room k callerA) (hY : ∀ (w : World) (h : Heap), YP w h → (K w.params).In h)
    (F : ∀ (w : World) (mg : Str → Option Value) (fa : Addr) (h : Heap), (K w.params).In h → h.Ns mainGlobals mg → mg d.name = some (.ref fa) →
      ∃ fd : FuncData, (∀ (s : Shared) (u : Value), BindsTo s fd ⟨[u], []⟩ [(x, u)]) ∧ ∀ bs : Heap, (K w.params).In bs → bs.Ns mainGlobals mg → FnG l.prog w (K w.params) mg bs k fa fd [x] (sp w))
    (hsp : ∀ (w : World) (H : Hp) (a : Addr) (ns : List Int), ns.length ≤ n → SqL (K w.params) H a (ns.map V.int) → sp w [.ref a] H (fun v _ => v = .bl true) E0) :
    PySem.W.WalkO q loose XP YP l.row.toRowW d [] (fun f vs => PySem.call f vs) := by
  refine Att.attach_call hn hdf ?_
  intro w s0 s1 mg mb fa o pm cd doc a vs ns G Y ho hd hcd hmg hobj hints hlen hg
  obtain ⟨fd, hb, hF⟩ := F w mg fa _ (hY w _ Y) G.T.g hmg
  exact lawG (hY w _ Y) G.T.g G.T.b G.T.builtins G.T.nolimit hg hobj hints (Nat.le_trans hlen n2) room hF hb (fun H hS => hsp w H a ns hlen hS)

/-! ### repr of data -/
section
variable {X : Cx}
def rRepr (K : PySem.W.Frag) : List V → Hp → VK → Prop := fun vs H Q => ∃ v d, vs = [v] ∧ Dp K H v d ∧ d.showable = true ∧ d.hasDict = false ∧ d.depth ≤ 60 ∧ d.shown.length ≤ sizeLine ∧ Q (.str d.shown) H
theorem call_repr {k : Nat} (hr : Room k X.A) (gd : X.A.guards = some []) : CallR X (.builtin "repr") (rRepr X.K) := by
  intro pins s σ H xs us Q I r h
  obtain ⟨v, d, rfl, hd, hs, hn, hz, hl, q⟩ := h
  obtain ⟨u, rfl, ru⟩ := r.one
  obtain ⟨as, rd⟩ := Dp.reads I d v u hd ru
  have hu := hr.units
  have done : ∀ (tk : Tok) (t : Nat), EP X pins σ Q (.str d.shown tk) { s with toks := t } := fun tk t => ⟨.str d.shown, H, I.tok _, ⟨_, rfl⟩, q⟩
  cases hd with
  | non =>
    cases ru
    exact PySem.P.repr_of_none (done _ _)
  | bl b => cases b <;> (cases ru; exact PySem.P.repr_of_bool (done _ _))
  | int i =>
    obtain ⟨t, rfl⟩ := ru
    exact PySem.P.repr_of_int (by simpa [PyData.showable] using hs) (done _ _)
  | str z =>
    obtain ⟨t, rfl⟩ := ru
    exact PySem.P.repr_of_str (done _ _) hl
  | lst a b =>
    cases ru
    refine repr_of_reads' rd hs (PyData.noDict_hsm hn) gd (by omega) (fun _ _ e => e) (fun h' u tk hk => ?_) hl
    exact ⟨.str _, H, I.un (t' := tk) (Un.kept hk) (I.hok.kept hk), ⟨u, rfl⟩, q⟩
  | tup a b =>
    cases ru
    refine repr_of_reads' rd hs (PyData.noDict_hsm hn) gd (by omega) (fun _ _ e => e) (fun h' u tk hk => ?_) hl
    exact ⟨.str _, H, I.un (t' := tk) (Un.kept hk) (I.hok.kept hk), ⟨u, rfl⟩, q⟩
end

/-! ### further rules -/

theorem ext_tup (l : Addr) (xs : Array Value) (n : Nat) (b : Addr) (ys : Array Value) (m : Nat) (dd : Option Addr) (sl : Array (Option Value)) (c0 : ¬ (!xs.isEmpty && Builtin.List.listTooLong (xs.size + ys.size)) = true) (c1 : xs.size ≤ sizeLine)
    (c2 : xs.size + ys.size ≤ sizeLine + 1) :
    Meets (Builtin.«list.extend» ⟨[.ref l, .ref b], []⟩) (fun _ R s => s.heap.get? l = some { cls := .type "list", data := .seq xs n } ∧ s.heap.get? b = some { cls := .type "tuple", dict := dd, data := .seq ys m, slots := sl } ∧
      R (.ok (.ret Value.none)) { s with heap := s.heap.update l (Obj.mapSeq fun z => z ++ ys), toks := s.toks }) :=
  .of_wp fun prog w A R s h => by
    obtain ⟨hp, g, d, tk, os⟩ := s
    obtain ⟨hl, hb, h⟩ := h
    have i1 := AutoSeq1.idx_int
    have i2 := AutoSeq1.sub_tuple_tuple
    have i3 := AutoSeq1.sub_list_list
    have i4 := AutoSeq1.sub_tuple_list
    have i5 := AutoSeq1.sub_list_tuple
    have zz : (xs ++ ys).size ≤ sizeLine + 1 := by
      rw [Array.size_append]
      exact c2
    wp_walk using (wpAny_updateSeq hl rfl (hz := c1) (_hz' := zz)), wpAny_loadPart' hl, wpAny_loadPart' hb
    exact ⟨_, rfl, h⟩
section
variable {X : Cx}
/-- xs.extend(t), t a tuple -/
def rExtT (K : PySem.W.Frag) : V → List V → Hp → VK → Prop := fun x vs H Q => ∃ l b xs zs, x = .ref l ∧ vs = [.ref b] ∧ H l = some (.lst xs) ∧ SqT K H b zs ∧ xs.length + zs.length ≤ sizeLine ∧ Q .non (upd H l (.lst (xs ++ zs)))
theorem mt_extT : MtM X "list.extend" (rExtT X.K) := by
  intro pins s σ H x vs v us Q I rx rv h
  obtain ⟨l, b, xs, zs, rfl, rfl, hH, hB, hz, q⟩ := h
  cases rx
  obtain ⟨u, rfl, ru⟩ := rv.one
  cases ru
  obtain ⟨z, i1, n, r1, l1, e1⟩ := I.lstM hH
  obtain ⟨i2, r2, ⟨⟨cls, dd, data, sl⟩, e2, c2, n2, d2⟩, _⟩ := I.tuple hB
  simp only at c2 d2
  subst c2 d2
  have l2 := r2.length
  have sz : i1.toArray.size + i2.toArray.size ≤ sizeLine := by
    rw [List.size_toArray, List.size_toArray]
    omega
  have long : ¬ (!i1.toArray.isEmpty && Builtin.List.listTooLong (i1.toArray.size + i2.toArray.size)) = true := by
    rw [notLongL sz, Bool.and_false]
    exact Bool.false_ne_true
  refine call_meets F.slot_list_extend ⟨_, e1, rfl⟩ F.entry_list_extend (F.args_list_extend_2 _ _) (ext_tup l i1.toArray n b i2.toArray n2 dd sl long (by rw [List.size_toArray]; omega) (by omega)) ⟨e1, e2, ?_⟩
  refine ⟨.non, _, I.lset (its' := i1 ++ i2) hH e1 (by simp) (r1.append r2) ?_, rfl, q⟩
  rw [List.length_append]
  omega

/-- xs[i] as it is read by xs[i] op= e -/
def gL (K : PySem.W.Frag) : V → V → Hp → VK → Prop := fun x y H Q => ∃ l xs i v, x = .ref l ∧ y = .int i ∧ H l = some (.lst xs) ∧ 0 ≤ i ∧ xs[i.toNat]? = some v ∧ Q v H
theorem pg_list : PGet X (gL X.K) := by
  intro pins s σ H o i ov iv Q I ro ri h
  obtain ⟨l, xs, j, v, rfl, rfl, hH, h0, hv, q⟩ := h
  cases ro
  obtain ⟨t, rfl⟩ := ri
  obtain ⟨z, i1, n, r1, l1, e1⟩ := I.lstM hH
  obtain ⟨u, hu, ru⟩ := r1.get hv
  have lt := (List.getElem?_eq_some_iff.mp hv).1
  have b1 : (2 : Int) ^ 63 = 9223372036854775808 := by decide
  have b2 := sizeLine_eq
  exact wpAny_getItem_list ⟨_, e1, rfl, _, rfl⟩ h0 (by omega) (by simpa using hu) ⟨v, H, I, ru, q⟩

/-- i not in range(a, b) -/
theorem op_ni_rng : OpR X (compareOp .NotIn) (fun x y H Q => ∃ i a lo hi, x = V.int i ∧ y = V.ref a ∧ H a = some (.rng lo hi) ∧ Q (.bl (!decide (lo ≤ i ∧ i < hi))) H) := by
  intro pins s σ H x y v u Q I rx ry h
  obtain ⟨i, a, lo, hi, rfl, rfl, ha, q⟩ := h
  obtain ⟨k, rfl⟩ := rx
  cases (show u = Value.ref a from ry)
  obtain ⟨t1, t2, t3, ho⟩ := I.hok a _ ha
  have e1 : s.TypeIs (.ref a) "range" := ⟨_, ho, rfl⟩
  show wpAny _ _ (do return Value.bool (!(← contains (Value.ref a) (Value.int i k)))) _ _ s
  refine wpAny_bind (wpAny_contains_slot e1 F.slot_range_contains (call_meets F.slot_range_contains e1 F.entry_range_contains (F.args_range_contains_2 _ _) (q_contains a lo hi i t1 t2 t3 k) ⟨ho, wpAny_truthy_bool (wpAny_pure ?_)⟩))
  refine ⟨.bl _, H, I, rfl, ?_⟩
  rw [place1]
  exact q
/-- is not True, is not False, of an int or a bool -/
def rNotB2 : R2 := fun x y H Q => ∃ b : Bool, y = .bl b ∧ ((∃ i, x = .int i) ∨ ∃ a, x = .bl a) ∧ Q (.bl (!decide (x = y))) H
theorem op_notB2 : OpR X (compareOp .IsNot) rNotB2 := by
  intro pins s σ H x y v u Q I rx ry h
  obtain ⟨b, rfl, hx, q⟩ := h
  cases (show u = Value.bool b from ry)
  rcases hx with ⟨i, rfl⟩ | ⟨a, rfl⟩
  · obtain ⟨t, rfl⟩ := rx
    refine wpAny_isNot_other rfl (fun z => nomatch z) ⟨.bl true, H, I, rfl, ?_⟩
    simpa using q
  · cases (show v = Value.bool a from rx)
    by_cases e : a = b
    · subst e
      exact wpAny_isNot_self rfl ⟨.bl false, H, I, rfl, by simpa using q⟩
    · exact wpAny_isNot_other rfl (fun z => e (Value.bool.inj z)) ⟨.bl true, H, I, rfl, by simpa [e] using q⟩
end
end Fm
namespace Fm
open PySem PySem.Spec PyProof.Rows L2
theorem tupN_fill : fillsNumberSlot (.type "tuple") "mul" = pure false :=
  PySem.fillsNumberSlot_seq (id := "tuple.__mul__") (r := some (.builtin "tuple.__rmul__")) PySem.F.slot_tuple_mul.lookup (by decide +kernel)
    PySem.F.slot_tuple_rmul.lookup (by decide +kernel)
theorem tupN_rep : seqRepeat? (.type "tuple") = pure (some (.builtin "tuple.__mul__")) := by
  unfold seqRepeat?
  rw [PySem.seqSlot_of (T := "tuple") (name := "__mul__") (id := "tuple.__mul__") PySem.F.slot_tuple_mul.lookup (by decide +kernel)]
  rw [PySem.seqSlot_of (T := "tuple") (name := "__rmul__") (id := "tuple.__rmul__") PySem.F.slot_tuple_rmul.lookup (by decide +kernel)]
  rfl
theorem tupN_int (i : Int) (u : Tok) (b : Addr) (xs : Array Value) (n : Nat) (dd : Option Addr) (sl : Array (Option Value)) :
    Meets (Builtin.«int.__rmul__» ⟨[.int i u, .ref b], []⟩) (fun _ R s => s.heap.get? b = some { cls := .type "tuple", dict := dd, data := .seq xs n, slots := sl } ∧ R (.ok (.ret Value.notImplemented)) s) :=
  .of_wp fun prog w A R s h => by
    obtain ⟨hp, g, d, tk, os⟩ := s
    obtain ⟨hl, h⟩ := h
    wp_walk using wpAny_loadPart' hl
    exact ⟨_, rfl, h⟩
/-- t * 1 is t -/
theorem tupN_one (b : Addr) (xs : Array Value) (n : Nat) (dd : Option Addr) (sl : Array (Option Value)) (u : Tok) :
    Meets (Builtin.«tuple.__mul__» ⟨[.ref b, .int 1 u], []⟩) (fun _ R s => s.heap.get? b = some { cls := .type "tuple", dict := dd, data := .seq xs n, slots := sl } ∧ R (.ok (.ret (.ref b))) s) :=
  .of_wp fun prog w A R s h => by
    obtain ⟨hp, g, d, tk, os⟩ := s
    obtain ⟨hl, h⟩ := h
    have f1 := AutoSeq1.idx_int
    wp_walk using wpAny_loadPart' hl
    exact ⟨_, rfl, h⟩
/-- t * 0 is a new empty tuple -/
theorem tupN_zero (b : Addr) (xs : Array Value) (n : Nat) (dd : Option Addr) (sl : Array (Option Value)) (u : Tok) (hx : xs.isEmpty = false) :
    Meets (Builtin.«tuple.__mul__» ⟨[.ref b, .int 0 u], []⟩) (fun _ R s => s.heap.get? b = some { cls := .type "tuple", dict := dd, data := .seq xs n, slots := sl } ∧
      R (.ok (.ret (Value.ref s.heap.objs.size))) { s with heap := s.heap.push { cls := Value.type "tuple", data := Data.seq #[] }, toks := s.toks }) :=
  .of_wp fun prog w A R s h => by
    obtain ⟨hp, g, d, tk, os⟩ := s
    obtain ⟨hl, h⟩ := h
    have f1 := AutoSeq1.idx_int
    wp_walk using wpAny_loadPart' hl
    exact ⟨_, rfl, h⟩
section
variable {X : Cx}
/-- t * k, t one item, k 0 or 1 -/
def rRep1 (K : PySem.W.Frag) : R2 := fun x y H Q => ∃ l k v, x = .ref l ∧ y = .int k ∧ SqT K H l [v] ∧ (k = 0 ∨ k = 1) ∧ (k = 0 → ∀ p, H p = none → Q (.ref p) (upd H p (.tup []))) ∧ (k = 1 → Q (.ref l) H)
theorem op_rep1 : OpR X (binaryOp .Mult) (rRep1 X.K) := by
  intro pins s σ H x y v u Q I rx ry h
  obtain ⟨l, k, w1, rfl, rfl, hT, hk, q0, q1⟩ := h
  cases rx
  obtain ⟨t, rfl⟩ := ry
  obtain ⟨its, r, ⟨⟨cls, dd, data, sl⟩, ho, hc, n, hd⟩, hs⟩ := I.tuple hT
  simp only at hc hd
  subst hc hd
  have ne : its.toArray.isEmpty = false := by
    cases r with
    | cons r1 r2 => rfl
  have ty : s.TypeIs (.ref l) "tuple" := ⟨_, ho, rfl⟩
  rcases hk with rfl | rfl
  · refine wpAny_binaryOp_repeat_ref (T := "tuple") (U := "int") (by decide) ty (fun s' => typeIs_int s' 0 t) tupN_fill F.fills_int_mul F.slot_int_rmul tupN_rep F.slot_int_index.lookup
      (call_meets F.slot_int_rmul (typeIs_int s 0 t) F.entry_int_rmul (F.args_int_rmul_2 _ _) (tupN_int 0 t l its.toArray n dd sl) ⟨ho, rfl, ty, ?_⟩)
    refine call_meets F.slot_tuple_mul ty F.entry_tuple_mul (F.args_tuple_mul_2 _ _) (tupN_zero l its.toArray n dd sl t ne) ⟨ho, ?_⟩
    refine ⟨.ref s.heap.objs.size, _, I.laid (t' := s.toks) (o := .tup []) (fun b ob q => Heap.get?_push_of_some _ q) (Nat.le_refl _) ?_, rfl, q0 rfl _ (I.hok.fresh (Nat.le_refl _))⟩
    exact ⟨Nat.zero_le _, [], .nil, IsTup.new _ _⟩
  · refine wpAny_binaryOp_repeat_ref (T := "tuple") (U := "int") (by decide) ty (fun s' => typeIs_int s' 1 t) tupN_fill F.fills_int_mul F.slot_int_rmul tupN_rep F.slot_int_index.lookup
      (call_meets F.slot_int_rmul (typeIs_int s 1 t) F.entry_int_rmul (F.args_int_rmul_2 _ _) (tupN_int 1 t l its.toArray n dd sl) ⟨ho, rfl, ty, ?_⟩)
    exact call_meets F.slot_tuple_mul ty F.entry_tuple_mul (F.args_tuple_mul_2 _ _) (tupN_one l its.toArray n dd sl t) ⟨ho, ⟨.ref l, H, I, rfl, q1 rfl⟩⟩
end
end Fm
set_option maxRecDepth 100000
set_option maxHeartbeats 2000000
/-! Fm: values that a law makes, as trees over the abstract heap. -/
namespace Fm
open PySem PySem.Spec PyProof.Rows L2

inductive D where
  | non | bl (b : Bool) | int (i : Int) | str (x : Str) | tup (xs : List D) | lst (xs : List D) | dic
mutual
inductive Dv (H : Hp) : V → D → Prop
  | non : Dv H .non .non
  | bl (b : Bool) : Dv H (.bl b) (.bl b)
  | int (i : Int) : Dv H (.int i) (.int i)
  | str (x : Str) : PyData.strOk x = true → Dv H (.str x) (.str x)
  | tup {a : Addr} {xs : List V} {ds : List D} : H a = some (.tup xs) → DvL H xs ds → Dv H (.ref a) (.tup ds)
  | lst {a : Addr} {xs : List V} {ds : List D} : H a = some (.lst xs) → DvL H xs ds → Dv H (.ref a) (.lst ds)
  | dic {a : Addr} : H a = some (.dK []) → Dv H (.ref a) .dic
inductive DvL (H : Hp) : List V → List D → Prop
  | nil : DvL H [] []
  | cons {v : V} {vs : List V} {d : D} {ds : List D} : Dv H v d → DvL H vs ds → DvL H (v :: vs) (d :: ds)
end
mutual
theorem Dv.same {H H' : Hp} (k : Same H H') : ∀ (d : D) (v : V), Dv H v d → Dv H' v d
  | .non, _, h => by cases h; exact .non
  | .bl _, _, h => by cases h; exact .bl _
  | .int _, _, h => by cases h; exact .int _
  | .str _, _, h => by
    cases h with
    | str _ o => exact .str _ o
  | .tup ds, _, h => by
    cases h with
    | tup a b => exact .tup (k _ _ a) (DvL.same k ds _ b)
  | .lst ds, _, h => by
    cases h with
    | lst a b => exact .lst (k _ _ a) (DvL.same k ds _ b)
  | .dic, _, h => by
    cases h with
    | dic a => exact .dic (k _ _ a)
theorem DvL.same {H H' : Hp} (k : Same H H') : ∀ (ds : List D) (vs : List V), DvL H vs ds → DvL H' vs ds
  | [], _, h => by cases h; exact .nil
  | d :: ds, _, h => by
    cases h with
    | cons a b => exact .cons (Dv.same k d _ a) (DvL.same k ds _ b)
end
theorem DvL.len {H : Hp} : ∀ {vs : List V} {ds : List D}, DvL H vs ds → vs.length = ds.length
  | _, _, .nil => rfl
  | _, _, .cons _ h => congrArg (· + 1) (DvL.len h)
theorem DvL.app {H : Hp} : ∀ {vs : List V} {ds : List D} {us : List V} {es : List D}, DvL H vs ds → DvL H us es → DvL H (vs ++ us) (ds ++ es)
  | _, _, _, _, .nil, h => h
  | _, _, _, _, .cons a b, h => .cons a (DvL.app b h)
theorem DvL.get {H : Hp} : ∀ {vs : List V} {ds : List D} {i : Nat} {v : V}, DvL H vs ds → vs[i]? = some v → ∃ d, ds[i]? = some d ∧ Dv H v d
  | _, _, _, _, .nil, e => by simp at e
  | _, _, 0, _, .cons a b, e => by simp at e; subst e; exact ⟨_, rfl, a⟩
  | _, _, i + 1, _, .cons a b, e => by
    obtain ⟨d, h1, h2⟩ := DvL.get (i := i) b (by simpa using e)
    exact ⟨d, by simpa using h1, h2⟩
theorem DvL.getD {H : Hp} : ∀ {vs : List V} {ds : List D} {i : Nat} {d : D}, DvL H vs ds → ds[i]? = some d → ∃ v, vs[i]? = some v ∧ Dv H v d
  | _, _, _, _, .nil, e => by simp at e
  | _, _, 0, _, .cons a b, e => by simp at e; subst e; exact ⟨_, rfl, a⟩
  | _, _, i + 1, _, .cons a b, e => by
    obtain ⟨d, h1, h2⟩ := DvL.getD (i := i) b (by simpa using e)
    exact ⟨d, by simpa using h1, h2⟩
theorem DvL.drop {H : Hp} : ∀ {vs : List V} {ds : List D} (n : Nat), DvL H vs ds → DvL H (vs.drop n) (ds.drop n)
  | _, _, 0, h => h
  | _, _, _ + 1, .nil => .nil
  | _, _, n + 1, .cons _ h => DvL.drop n h
theorem DvL.take {H : Hp} : ∀ {vs : List V} {ds : List D} (n : Nat), DvL H vs ds → DvL H (vs.take n) (ds.take n)
  | _, _, 0, _ => .nil
  | _, _, _ + 1, .nil => .nil
  | _, _, n + 1, .cons a h => .cons a (DvL.take n h)
theorem DvL.set {H : Hp} {v : V} {d : D} (a : Dv H v d) : ∀ {vs : List V} {ds : List D} (n : Nat), DvL H vs ds → DvL H (vs.set n v) (ds.set n d)
  | _, _, _, .nil => .nil
  | _, _, 0, .cons _ h => .cons a h
  | _, _, n + 1, .cons b h => .cons b (DvL.set a n h)

/-! ### sizes, depths -/
mutual
def D.size : D → Nat
  | .str x => x.length + 1
  | .tup ds => sizes ds + 1
  | .lst ds => sizes ds + 1
  | _ => 1
def sizes : List D → Nat
  | [] => 0
  | d :: ds => d.size + sizes ds
end
mutual
def D.deep : D → Nat
  | .tup ds => deeps ds + 1
  | .lst ds => deeps ds + 1
  | _ => 0
def deeps : List D → Nat
  | [] => 0
  | d :: ds => max d.deep (deeps ds)
end
theorem sizes_app (a b : List D) : sizes (a ++ b) = sizes a + sizes b := by
  induction a with
  | nil => simp [sizes]
  | cons x r ih => simp only [List.cons_append, sizes, ih]; omega
theorem size_pos (d : D) : 1 ≤ d.size := by cases d <;> simp [D.size]
theorem len_sizes (ds : List D) : ds.length ≤ sizes ds := by
  induction ds with
  | nil => simp [sizes]
  | cons x r ih => have := size_pos x; simp only [List.length_cons, sizes]; omega
theorem sizes_drop (ds : List D) (n : Nat) : sizes (ds.drop n) ≤ sizes ds := by
  induction ds generalizing n with
  | nil => simp
  | cons x r ih =>
    cases n with
    | zero => simp
    | succ n => have := ih n; simp only [List.drop_succ_cons, sizes]; omega
theorem size_mem {d : D} {ds : List D} (h : d ∈ ds) : d.size ≤ sizes ds := by
  induction ds with
  | nil => cases h
  | cons x r ih =>
    simp only [sizes]
    rcases List.mem_cons.mp h with rfl | h
    · omega
    · have := ih h; omega
theorem deep_mem {d : D} {ds : List D} (h : d ∈ ds) : d.deep ≤ deeps ds := by
  induction ds with
  | nil => cases h
  | cons x r ih =>
    simp only [deeps]
    rcases List.mem_cons.mp h with rfl | h
    · omega
    · have := ih h; omega

/-! ### kinds -/
def tyN : D → String
  | .non => "NoneType" | .bl _ => "bool" | .int _ => "int" | .str _ => "str" | .tup _ => "tuple" | .lst _ => "list" | .dic => "dict"
theorem Dv.ty {K : PySem.W.Frag} {H : Hp} {v : V} {d : D} (h : Dv H v d) : TyX K H v (.type (tyN d)) := by
  cases h with
  | non => exact .base .non
  | bl b => exact .base (.bl b)
  | int i => exact .base (.int i)
  | str x _ => exact .base (.str x)
  | tup a _ => exact .base (.tup a)
  | lst a _ => exact .base (.lst a)
  | dic a => exact .base (.dK a)
def isI : D → Bool
  | .int _ => true | .bl _ => true | _ => false
def isB : D → Bool
  | .bl _ => true | _ => false
def isS : D → Bool
  | .str _ => true | _ => false
def isT : D → Bool
  | .tup _ => true | _ => false
def isL : D → Bool
  | .lst _ => true | _ => false
section
variable {K : PySem.W.Frag} (d : D)
theorem kit_I : PySem.W.kitOne K (.type (tyN d)) (.type "int") = some (isI d) := by cases d <;> exact kit_ty (by simp only [tyN, isI]; decide +kernel)
theorem kit_B : PySem.W.kitOne K (.type (tyN d)) (.type "bool") = some (isB d) := by cases d <;> exact kit_ty (by simp only [tyN, isB]; decide +kernel)
theorem kit_S : PySem.W.kitOne K (.type (tyN d)) (.type "str") = some (isS d) := by cases d <;> exact kit_ty (by simp only [tyN, isS]; decide +kernel)
theorem kit_T : PySem.W.kitOne K (.type (tyN d)) (.type "tuple") = some (isT d) := by cases d <;> exact kit_ty (by simp only [tyN, isT]; decide +kernel)
theorem kit_L : PySem.W.kitOne K (.type (tyN d)) (.type "list") = some (isL d) := by cases d <;> exact kit_ty (by simp only [tyN, isL]; decide +kernel)
end
/-- isinstance(x, T) of data, told -/
theorem isi_I {K : PySem.W.Frag} {H : Hp} {v : V} {d : D} {Q : VK} (h : Dv H v d) (q : Q (.bl (isI d)) H) : rIsi K [v, .ty "int"] H Q := ⟨_, _, _, _, _, rfl, .ty _, h.ty, kit_I d, q⟩
theorem isi_B {K : PySem.W.Frag} {H : Hp} {v : V} {d : D} {Q : VK} (h : Dv H v d) (q : Q (.bl (isB d)) H) : rIsi K [v, .ty "bool"] H Q := ⟨_, _, _, _, _, rfl, .ty _, h.ty, kit_B d, q⟩
theorem isi_S {K : PySem.W.Frag} {H : Hp} {v : V} {d : D} {Q : VK} (h : Dv H v d) (q : Q (.bl (isS d)) H) : rIsi K [v, .ty "str"] H Q := ⟨_, _, _, _, _, rfl, .ty _, h.ty, kit_S d, q⟩
theorem isi_T {K : PySem.W.Frag} {H : Hp} {v : V} {d : D} {Q : VK} (h : Dv H v d) (q : Q (.bl (isT d)) H) : rIsi K [v, .ty "tuple"] H Q := ⟨_, _, _, _, _, rfl, .ty _, h.ty, kit_T d, q⟩

/-! ### names, outcomes, terms -/
def letters : Str := "abcdefghijklmnopqrstuvwxyz"
def signOk (x : Str) : Bool := !(Builtin.Str.occurrences letters x 0 letters.length 1).isEmpty
def signs (s : Str) : List Str := s.cps.toList.map fun c => ⟨#[c]⟩
def isNameS (s : Str) : Bool := decide (1 ≤ s.length) && decide (s.length ≤ 8) && (signs s).all signOk
def isName : D → Bool
  | .str s => isNameS s
  | _ => false
def isWhole : D → Bool
  | .int _ => true | _ => false
def cutLast (s : Str) : Str := cutS s none (some (-1))
def isOutS (s : Str) : Bool := isNameS s || (Txt.endswith s "-" && isNameS (cutLast s))
def isOut : D → Bool
  | .str s => isOutS s
  | _ => false
mutual
def isTerm : D → Bool
  | .int i => decide (0 ≤ i)
  | .tup ds => isTermT ds
  | _ => false
def isTermT : List D → Bool
  | [] => false
  | x :: r => decide (r.length ≤ 3) && isName x && areTerms r
def areTerms : List D → Bool
  | [] => true
  | d :: ds => isTerm d && areTerms ds
end
theorem areTerms_app (a b : List D) : areTerms (a ++ b) = (areTerms a && areTerms b) := by
  induction a with
  | nil => simp [areTerms]
  | cons x r ih => simp only [List.cons_append, areTerms, ih, Bool.and_assoc]
theorem areTerms_all (a : List D) : areTerms a = a.all isTerm := by
  induction a with
  | nil => rfl
  | cons x r ih => simp only [areTerms, List.all_cons, ih]
end Fm
set_option maxRecDepth 100000
set_option maxHeartbeats 2000000
/-! Fm: rules in other readings. -/
namespace Fm
open PySem PySem.Spec PyProof.Rows L2
section
variable {X : Cx} {e c : Expr} {t t' te : TE} {p pos : Pos}
theorem peI (h : PE X e t) (k : ∀ σ H Q, t' σ H Q → t σ H Q) : PE X e t' := ⟨fun pins s σ H Q I q => h.run pins s σ H Q I (k σ H Q q)⟩
/-- isinstance(x, T) of data -/
def tIs (f : D → Bool) (te : TE) : TE := fun σ H Q => te σ H fun v H1 => ∃ d, Dv H1 v d ∧ Q (.bl (f d)) H1
/-- how a reading of an expression grows with what is wanted: asked where it is re-read -/
def MonE (te : TE) : Prop := ∀ σ H (Q Q' : VK), (∀ v H1, Q v H1 → Q' v H1) → te σ H Q → te σ H Q'
theorem mon_var {i : Nat} : MonE (tVar i) := fun _ _ _ _ k ⟨v, a, b⟩ => ⟨v, a, k _ _ b⟩
theorem pe_isD {n : String} {f : D → Bool} (hk : ∀ K d, PySem.W.kitOne K (.type (tyN d)) (.type n) = some (f d)) (hm : X.mg "isinstance" = none) (he : PE X e te) (hc : PE X c (tC (.ty n))) (mo : MonE te)
    (hg : Gl X "isinstance" := by rfl) (h1 : starEach [e, c] X.env = (false, eval e X.env) :: starEach [c] X.env := by rfl) (h2 : starEach [c] X.env = (false, eval c X.env) :: starEach [] X.env := by rfl)
    (h3 : (backTo pos (starEach [c] X.env)).any (·.1) = false := by rfl) : PE X (.Call (.Name "isinstance" p) [e, c] [] pos) (tIs f te) := by
  refine peI (pe_callB call_isi hg hm (by decide +kernel) (pa_cons he (pa_cons hc pa_nil h2) h1) (he := h1) (hpl := h3)) ?_
  intro σ H Q h
  refine mo σ H _ _ ?_ h
  rintro v H1 ⟨d, hd, q⟩
  exact ⟨v, .ty n, _, _, f d, rfl, .ty n, hd.ty, hk _ d, q⟩
def isTL : D → Bool
  | .tup _ => true | .lst _ => true | _ => false
/-- isinstance(x, (tuple, list)) -/
def tIs2 (te : TE) : TE := fun σ H Q => te σ H fun v H1 => ∃ d, Dv H1 v d ∧ ∀ p, H1 p = none → Q (.bl (isTL d)) (upd H1 p (.tup [.ty "tuple", .ty "list"]))
theorem pe_isD2 {a b : Expr} {k2} {pt : Pos} (hm : X.mg "isinstance" = none) (he : PE X e te) (ha : PE X a (tC (.ty "tuple"))) (hb : PE X b (tC (.ty "list"))) (mo : MonE te)
    (hg : Gl X "isinstance" := by rfl) (h1 : starEach [e, .Tuple [a, b] k2 pt] X.env = (false, eval e X.env) :: starEach [.Tuple [a, b] k2 pt] X.env := by rfl)
    (h2 : starEach [.Tuple [a, b] k2 pt] X.env = (false, eval (.Tuple [a, b] k2 pt) X.env) :: starEach [] X.env := by rfl) (h3 : (backTo pos (starEach [.Tuple [a, b] k2 pt] X.env)).any (·.1) = false := by rfl)
    (h4 : starEach [a, b] X.env = (false, eval a X.env) :: starEach [b] X.env := by rfl) (h5 : starEach [b] X.env = (false, eval b X.env) :: starEach [] X.env := by rfl) :
    PE X (.Call (.Name "isinstance" p) [e, .Tuple [a, b] k2 pt] [] pos) (tIs2 te) := by
  refine peI (pe_callB call_isiT hg hm (by decide +kernel) (pa_cons he (pa_cons (pe_tup (pa_cons ha (pa_cons hb pa_nil h5) h4)) pa_nil h2) h1) (he := h1) (hpl := h3)) ?_
  intro σ H Q h
  refine mo σ H _ _ ?_ h
  rintro v H1 ⟨d, hd, q⟩
  refine ⟨by decide, fun p hp => ?_⟩
  have hd' : Dv (upd H1 p (.tup [.ty "tuple", .ty "list"])) v d := hd.same (fun a o q => by rw [upd_ne (ne_of_none q hp)]; exact q) _ _
  refine ⟨v, p, _, _, [.type "tuple", .type "list"], isTL d, rfl, upd_same, .cons (.ty _) (.cons (.ty _) .nil), hd'.ty, ?_, q p hp⟩
  refine kitAny_cons (kit_T d) (fun z => kitAny_cons (kit_L d) (fun y => ?_) (fun y => ?_)) (fun z => ?_)
  · have : isTL d = false := by cases d <;> simp_all [isT, isL, isTL]
    rw [this]
    exact kitAny_nil
  · cases d <;> simp_all [isT, isL, isTL]
  · cases d <;> simp_all [isT, isTL]
end
end Fm
namespace Fm
open PySem PySem.Spec PyProof.Rows L2
theorem Same.new {H : Hp} {p : Addr} {o : HO} (h : H p = none) : Same H (upd H p o) := fun a u e => by
  rw [upd_ne (ne_of_none e h)]
  exact e
theorem Same.upd {H H' : Hp} {p : Addr} {o : HO} (k : Same H H') (h : H p = none) : Same H (upd H' p o) := fun a u e => by
  rw [upd_ne (ne_of_none e h)]
  exact k a u e
theorem sz {n : Nat} (h : n ≤ 10000000) : n ≤ sizeLine := Nat.le_trans h (by decide)
theorem szl {n : Nat} (h : n ≤ 10000000) : n < sizeLine := Nat.lt_of_le_of_lt h (by decide)
theorem signs_len (s : Str) : (signs s).length = s.length := by
  unfold signs Str.length
  simp
theorem signs_get {s : Str} {i c : Nat} (h : s.cps[i]? = some c) : (signs s)[i]? = some ⟨#[c]⟩ := by
  unfold signs
  rw [List.getElem?_map]
  have : s.cps.toList[i]? = some c := by simpa using h
  rw [this]
  rfl
theorem take_succ' {α : Type} {l : List α} {i : Nat} {x : α} (h : l[i]? = some x) : l.take (i + 1) = l.take i ++ [x] := by
  rw [List.take_add_one, h]
  rfl
/-- [f(c) for c in s], f read off each sign by its text -/
theorem lc_signs {K : PySem.W.Frag} {te : TE} {tt : TT} {σ : L2.St} {H : Hp} {s : Str} {j : Nat} {vs : List Nat} {Dl : Addr} {Qd : Hp → Prop} (f : Str → V) (keep : Str → Bool) (hD : H Dl = none) (hz : s.length ≤ 100000)
    (hw : ∀ x, wipe ((wipe σ vs).set j (some x)) vs = wipe σ vs)
    (he : ∀ (x : Str) (H' : Hp) (R : Bool → Hp → Prop), Same H H' → R (keep x) H' → tt ((wipe σ vs).set j (some (.str x))) H' R)
    (hv : ∀ (x : Str) (H' : Hp) (R : VK), Same H H' → keep x = true → R (f x) H' → te ((wipe σ vs).set j (some (.str x))) H' R)
    (q : ∀ H', Same H H' → H' Dl = some (.lst (((signs s).filter keep).map f)) → Qd H') :
    ∃ W : Nat → Nat → Hp → Prop, (∃ m, W 0 m (upd H Dl (.lst []))) ∧ ∀ i m H, W i m H → ((Its s).stop i H ∧ Qd H) ∨ ((Its s).go i H ∧ ∃ Nx : Hp → Prop, (∀ H', Nx H' → ∃ m', m' < m ∧ W (i + 1) m' H') ∧
      ∀ x H', (Its s).yld i H x H' → gName j x (wipe σ vs) H' fun σ2 H2 => wipe σ2 vs = wipe σ vs ∧ tt σ2 H2 fun b H3 => if b = true then te σ2 H3 fun y H4 => ∃ acc, H4 Dl = some (.lst acc) ∧ acc.length < sizeLine ∧ Nx (upd H4 Dl (.lst (acc ++ [y]))) else Nx H3) := by
  refine lc_it (walk_str (z := s)) (fun i H' => Same H H' ∧ H' Dl = some (.lst ((((signs s).take i).filter keep).map f))) ⟨Same.new hD, upd_same⟩ (fun _ _ _ _ => trivial) ?_ ?_
  · rintro i x H1 H2 hi ⟨k, hl⟩ ⟨rfl, c, hc, rfl⟩
    refine ⟨hw _, he _ _ _ k ?_⟩
    have e1 := take_succ' (signs_get hc)
    by_cases hk : keep ⟨#[c]⟩ = true
    · rw [hk]
      refine iteT (hv _ _ _ k hk ⟨_, hl, ?_, Same.upd k hD, ?_⟩)
      · rw [List.length_map]
        refine szl (Nat.le_trans (List.length_filter_le _ _) ?_)
        rw [List.length_take, signs_len]
        omega
      · rw [e1, List.filter_append, List.map_append, List.filter_cons, if_pos hk]
        exact upd_same
    · have hf : keep ⟨#[c]⟩ = false := by simpa using hk
      rw [hf]
      refine iteF ⟨k, ?_⟩
      rw [e1, List.filter_append, List.map_append, List.filter_cons, if_neg (by rw [hf]; decide)]
      simpa using hl
  · rintro H' ⟨k, hl⟩
    refine q H' k ?_
    have : (signs s).take s.cps.size = signs s := List.take_of_length_le (by rw [signs_len]; exact Nat.le_refl _)
    rw [this] at hl
    exact hl
end Fm
namespace Fm
open PySem PySem.Spec PyProof.Rows L2
theorem ite_b {c : Bool} {A B : Prop} (h1 : c = true → A) (h0 : c = false → B) : if c = true then A else B := by
  cases c with
  | true => exact iteT (h1 rfl)
  | false => exact iteF (h0 rfl)
theorem cutV_one (us : List V) (h : 1 ≤ us.length) : cutV us (some 1) none = us.drop 1 ∧ ¬ (HT.sIx us.length 0 (some 1) = 0 ∧ HT.sIx us.length us.length none = us.length) := by
  have e : HT.sIx us.length 0 (some 1) = 1 := by
    have := HT.sIx_nat us.length 0 1
    have z : ((1 : Nat) : Int) = 1 := rfl
    rw [z] at this
    rw [this]
    omega
  constructor
  · unfold cutV
    rw [e]
    exact List.take_of_length_le (by rw [List.length_drop]; exact Nat.le_refl _)
  · rintro ⟨a, _⟩
    rw [e] at a
    cases a
theorem last_split {vs : List V} {ds : List D} {H : Hp} (h : DvL H vs ds) (ne : vs ≠ []) : ∃ y d es, vs[vs.length - 1]? = some y ∧ ds = es ++ [d] ∧ DvL H vs.dropLast es ∧ Dv H y d := by
  have n1 : ds ≠ [] := by
    intro e
    have := h.len
    rw [e] at this
    exact ne (List.length_eq_zero_iff.mp this)
  have l := h.len
  have pos : 0 < vs.length := List.length_pos_iff.mpr ne
  have e0 : ds[vs.length - 1]? = some (ds.getLast n1) := by
    rw [List.getLast_eq_getElem, l]
    exact List.getElem?_eq_getElem (by omega)
  obtain ⟨y, hy, hd⟩ := h.getD e0
  refine ⟨y, ds.getLast n1, ds.dropLast, hy, (List.dropLast_concat_getLast n1).symm, ?_, hd⟩
  have t := h.take (vs.length - 1)
  rw [List.dropLast_eq_take, List.dropLast_eq_take, ← l]
  exact t
end Fm
namespace Fm
open PySem PySem.Spec PyProof.Rows L2
theorem filt {α : Type} (l : List α) : l.filter (fun _ => true) = l := List.filter_eq_self.mpr fun _ _ => rfl
theorem len_last {x : Str} : (cutLast x).length ≤ x.length := by
  unfold cutLast cutS Str.length
  simp
  omega
end Fm
namespace Fm
open PySem PySem.Spec PyProof.Rows L2
theorem deeps_app (a b : List D) : deeps (a ++ b) = max (deeps a) (deeps b) := by
  induction a with
  | nil => simp [deeps]
  | cons x r ih => simp only [List.cons_append, deeps, ih]; omega
end Fm
namespace Fm
open PySem PySem.Spec PyProof.Rows L2
theorem dp_strs {K : PySem.W.Frag} {H : Hp} {p : Addr} {xs : List Str} (h : SqL K H p (xs.map V.str)) : Dp K H (.ref p) (.list (xs.map PyData.str)) := by
  refine .lst h ?_
  clear h
  induction xs with
  | nil => exact .nil
  | cons x r ih => exact .cons (.str x) ih
theorem lay_strs {xs : List Str} (h : ∀ x ∈ xs, PyData.strOk x = true) : PyData.canLayAll0 (xs.map PyData.str) = true := by
  induction xs with
  | nil => simp [PyData.canLayAll0]
  | cons x r ih =>
    have h1 := h x List.mem_cons_self
    have h2 := ih fun y hy => h y (List.mem_cons_of_mem _ hy)
    simp [PyData.canLayAll0, PyData.canLay0, h1, h2]
theorem deep_strs (xs : List Str) : PyData.depthAll (xs.map PyData.str) ≤ 1 := by
  induction xs with
  | nil => simp [PyData.depthAll]
  | cons x r ih => simp [PyData.depthAll, PyData.depth]; omega
theorem shaped_strs {xs : List Str} (h : ∀ x ∈ xs, PyData.strOk x = true) : SeqAt.shaped (.list (xs.map PyData.str)) = true := by
  unfold SeqAt.shaped
  have h1 := lay_strs h
  have h2 := deep_strs xs
  simp [PyData.canLay0, PyData.depth, h1]
  omega
theorem ok_signs {x y : Str} (h : PyData.strOk x = true) (hy : y ∈ signs x) : PyData.strOk y = true := by
  unfold signs at hy
  obtain ⟨c, hc, rfl⟩ := List.mem_map.mp hy
  unfold PyData.strOk at h ⊢
  have := (Array.all_eq_true_iff_forall_mem.mp h) c (by simpa using hc)
  simpa using this
theorem ok_part {x y : Str} (h : PyData.strOk x = true) (hy : ∀ c ∈ y.cps.toList, c ∈ x.cps.toList) : PyData.strOk y = true := by
  unfold PyData.strOk at h ⊢
  refine Array.all_eq_true_iff_forall_mem.mpr fun c hc => ?_
  exact (Array.all_eq_true_iff_forall_mem.mp h) c (by simpa using hy c (by simpa using hc))
theorem ok_cut {x : Str} {lo hi : Option Int} (h : PyData.strOk x = true) : PyData.strOk (cutS x lo hi) = true := by
  refine ok_part h fun c hc => ?_
  unfold cutS at hc
  simp only [List.toList_toArray] at hc
  exact List.mem_of_mem_drop (List.mem_of_mem_take hc)
theorem eqv_nil (xs : List PyData) : PyData.eqv (.list xs) (.list []) = xs.isEmpty := by
  cases xs <;> simp [PyData.eqv, PyData.eqvAll]
end Fm
namespace Fm
open PySem PySem.Spec PyProof.Rows L2
theorem last_sign {x : Str} (h : 1 ≤ x.length) : ∃ c, x.cps.toList[x.length - 1]? = some c ∧ Txt.endswith x "-" = decide (V.str ⟨#[c]⟩ = V.str "-") := by
  have l : x.cps.toList.length = x.length := by simp [Str.length]
  have lt : x.length - 1 < x.cps.size := by
    have : x.cps.size = x.length := rfl
    omega
  refine ⟨x.cps[x.length - 1], by rw [List.getElem?_eq_getElem (by omega)]; simp, ?_⟩
  unfold Txt.endswith Builtin.Str.subAt
  have e1 : (("-" : String) : Str).length = 1 := rfl
  have e2 : x.cps.extract (x.length - 1) (x.length - 1 + 1) = #[x.cps[x.length - 1]] := by
    apply Array.ext
    · simp [Array.size_extract]
      have : x.cps.size = x.length := rfl
      omega
    · intro i h1 h2
      simp only [List.size_toArray, List.length_cons, List.length_nil] at h2
      have i0 : i = 0 := by omega
      subst i0
      simp [Array.getElem_extract]
  rw [e1, e2]
  have e3 : decide (0 + 1 ≤ x.length) = true := decide_eq_true (by omega)
  rw [e3, Bool.true_and]
  rw [Bool.eq_iff_iff, beq_iff_eq, decide_eq_true_iff]
  constructor
  · intro q
    rw [q]
  · intro q
    injection q with q
    exact congrArg Str.cps q
end Fm
namespace Fm
open PySem PySem.Spec PyProof.Rows L2
theorem cutLast_len (x : Str) : (cutLast x).length = x.length - 1 := by
  unfold cutLast cutS
  have e1 : HT.sIx x.length 0 none = 0 := rfl
  have e2 : HT.sIx x.length x.length (some (-1)) = x.length - 1 := by
    show (if (-1 : Int) < 0 then ((-1 : Int) + (x.length : Int)).toNat else min (-1 : Int).toNat x.length) = _
    rw [if_pos (by decide)]
    omega
  rw [e1, e2]
  have l : x.cps.toList.length = x.length := by simp [Str.length]
  show (List.toArray _).size = _
  rw [List.size_toArray, List.length_take, List.length_drop]
  omega
end Fm
namespace Fm
open PySem PySem.Spec PyProof.Rows L2
theorem in_1234 (n : Nat) : inV (.int (n : Int)) [.int 1, .int 2, .int 3, .int 4] = decide (1 ≤ n ∧ n ≤ 4) := by
  rw [Bool.eq_iff_iff]
  simp only [inV, List.any_cons, List.any_nil, eqV, Bool.or_false, Bool.or_eq_true, beq_iff_eq, decide_eq_true_iff]
  omega
theorem tk {α : Type} {l : List α} {i : Nat} {x : α} (h : l[i]? = some x) : x ∈ l := List.mem_of_getElem? h
/-- [f(x) for x in xs] over a tuple of data, f a def that leaves what stood -/
theorem lc_tupD {K : PySem.W.Frag} {te : TE} {tt : TT} {σ : L2.St} {H : Hp} {a : Addr} {xs : List V} {ds : List D} {j : Nat} {vs : List Nat} {Dl : Addr} {Qd : Hp → Prop} (f : D → V) (hT : SqT K H a xs) (hd : DvL H xs ds) (hD : H Dl = none) (hz : xs.length ≤ 100000)
    (hw : ∀ x, wipe ((wipe σ vs).set j (some x)) vs = wipe σ vs)
    (he : ∀ σ' H' (R : Bool → Hp → Prop), R true H' → tt σ' H' R)
    (hv : ∀ (x : V) (d : D) (H' : Hp) (R : VK), Same H H' → d ∈ ds → Dv H x d → (∀ H2, Same H' H2 → R (f d) H2) → te ((wipe σ vs).set j (some x)) H' R)
    (q : ∀ H', Same H H' → H' Dl = some (.lst (ds.map f)) → Qd H') :
    ∃ W : Nat → Nat → Hp → Prop, (∃ m, W 0 m (upd H Dl (.lst []))) ∧ ∀ i m H, W i m H → ((Itt K a).stop i H ∧ Qd H) ∨ ((Itt K a).go i H ∧ ∃ Nx : Hp → Prop, (∀ H', Nx H' → ∃ m', m' < m ∧ W (i + 1) m' H') ∧
      ∀ x H', (Itt K a).yld i H x H' → gName j x (wipe σ vs) H' fun σ2 H2 => wipe σ2 vs = wipe σ vs ∧ tt σ2 H2 fun b H3 => if b = true then te σ2 H3 fun y H4 => ∃ acc, H4 Dl = some (.lst acc) ∧ acc.length < sizeLine ∧ Nx (upd H4 Dl (.lst (acc ++ [y]))) else Nx H3) := by
  have hlen := hd.len
  have st : ∀ H', Same H H' → SqT K H' a xs := fun H' k => Evl.ex_t k hT
  refine lc_tup (fun i H' => Same H H' ∧ H' Dl = some (.lst ((ds.take i).map f))) ⟨Same.new hD, upd_same⟩ (fun i H' _ p => st H' p.1) ?_ ?_
  · rintro i x H1 hx ⟨k, hl⟩
    refine ⟨hw _, he _ _ _ ?_⟩
    rw [if_pos rfl]
    obtain ⟨d, e1, hd1⟩ := hd.get hx
    refine hv x d H1 _ k (tk e1) hd1 fun H2 k2 => ⟨_, k2 _ _ hl, ?_, Same.upd (k.trans k2) hD, ?_⟩
    · rw [List.length_map]
      refine szl ?_
      rw [List.length_take]
      omega
    · rw [take_succ' e1, List.map_append]
      exact upd_same
  · rintro H' ⟨k, hl⟩
    refine q H' k ?_
    have : ds.take xs.length = ds := List.take_of_length_le (by omega)
    rw [this] at hl
    exact hl
end Fm
set_option maxRecDepth 100000
set_option maxHeartbeats 2000000
/-! Fm: the bag that a law draws from: a list of three ints and a list of ints; what is drawn is any int below a bound. -/
namespace Fm
open PySem PySem.Spec PyProof.Rows L2
/-- the heap without the bag -/
def mask (b : Addr) (H : Hp) : Hp := fun a => if a = b then none else H a
theorem mask_ne {b a : Addr} {H : Hp} (h : a ≠ b) : mask b H a = H a := if_neg h
theorem unmask {b : Addr} {H : Hp} : Same (mask b H) H := fun a o e => by
  unfold mask at e
  split at e
  · cases e
  · exact e
theorem mask_same {b : Addr} {H H' : Hp} (k : Same H H') : Same (mask b H) (mask b H') := fun a o e => by
  have e' := unmask _ _ e
  have n : a ≠ b := fun z => by
    rw [z] at e
    simp [mask] at e
  rw [mask_ne n]
  exact k _ _ e'
theorem mask_updb {b : Addr} {H : Hp} {o : HO} : mask b (upd H b o) = mask b H := by
  funext a
  unfold mask
  split
  · rfl
  · rename_i n
    exact upd_ne n
structure BagAt (b p : Addr) (H : Hp) (s m k : Int) (cells : List Int) : Prop where
  at_b : H b = some (.lst [.int s, .int m, .int k, .ref p])
  at_p : H p = some (.lst (cells.map V.int))
  ne : p ≠ b
  s0 : 0 ≤ s
  m0 : 0 ≤ m
  m1 : m < 2147483647
  k0 : 0 ≤ k
  c0 : ∀ c ∈ cells, 0 ≤ c
def Bag (b p : Addr) (H : Hp) : Prop := ∃ s m k cells, BagAt b p H s m k cells
theorem Bag.same {b p : Addr} {H H' : Hp} (B : Bag b p H) (k : Same H H') : Bag b p H' := by
  obtain ⟨s, m, n, cells, h1, h2, h3, h4, h5, h6, h7, h8⟩ := B
  exact ⟨s, m, n, cells, k _ _ h1, k _ _ h2, h3, h4, h5, h6, h7, h8⟩
/-- the bag has gone on, all else stands -/
structure Go (b p : Addr) (H H' : Hp) : Prop where
  k : Same (mask b H) (mask b H')
  B : Bag b p H'
section
variable {b p : Addr} {H H' H2 : Hp}
theorem Go.of (B : Bag b p H) (k : Same H H') : Go b p H H' := ⟨mask_same k, B.same k⟩
theorem Go.refl (B : Bag b p H) : Go b p H H := ⟨Same.refl _, B⟩
theorem Go.trans (g : Go b p H H') (g2 : Go b p H' H2) : Go b p H H2 := ⟨g.k.trans g2.k, g2.B⟩
theorem Go.same (g : Go b p H H') (k : Same H' H2) : Go b p H H2 := g.trans (.of g.B k)
theorem Go.new {q : Addr} {o : HO} (g : Go b p H H') (h : H' q = none) : Go b p H (upd H' q o) := g.same (Same.new h)
theorem Bag.b_ne (B : Bag b p H) {l : Addr} (h : H l = none) : l ≠ b := by
  obtain ⟨s, m, n, cells, h1, _⟩ := B
  exact fun z => by
    rw [z, h1] at h
    cases h
theorem Go.free (g : Go b p H H') {l : Addr} (h : H' l = none) : H l = none := by
  have n := g.B.b_ne h
  cases e : H l with
  | none => rfl
  | some o =>
    have e1 := g.k l o (by rw [mask_ne n]; exact e)
    rw [mask_ne n, h] at e1
    cases e1
/-- an object that was not there at the start changes -/
theorem Go.mut {l : Addr} {o : HO} (B : Bag b p H) (g : Go b p H H') (h : H l = none) : Go b p H (upd H' l o) := by
  have nb := B.b_ne h
  obtain ⟨s, m, n, cells, h1, h2, h3, h4, h5, h6, h7, h8⟩ := B
  have np : p ≠ l := fun z => by
    rw [z, h] at h2
    cases h2
  obtain ⟨s', m', n', cells', g1, g2, g3, g4, g5, g6, g7, g8⟩ := g.B
  refine ⟨fun a u e => ?_, s', m', n', cells', ?_, ?_, g3, g4, g5, g6, g7, g8⟩
  · have na : a ≠ b := fun z => by
      rw [z] at e
      simp [mask] at e
    have nl : a ≠ l := fun z => by
      rw [z, mask_ne nb, h] at e
      cases e
    have e1 := g.k a u e
    rw [mask_ne na] at e1 ⊢
    rw [upd_ne nl]
    exact e1
  · rw [upd_ne nb.symm]
    exact g1
  · rw [upd_ne np]
    exact g2
theorem Go.dv {v : V} {d : D} (g : Go b p H H') (h : Dv (mask b H) v d) : Dv (mask b H') v d := h.same g.k _ _
theorem Go.dvl {vs : List V} {ds : List D} (g : Go b p H H') (h : DvL (mask b H) vs ds) : DvL (mask b H') vs ds := h.same g.k _ _
theorem Dv.un {v : V} {d : D} (h : Dv (mask b H) v d) : Dv H v d := h.same unmask _ _
theorem DvL.un {vs : List V} {ds : List D} (h : DvL (mask b H) vs ds) : DvL H vs ds := h.same unmask _ _
theorem Go.at {q : Addr} {o : HO} (g : Go b p H H') (n : q ≠ b) (h : H q = some o) : H' q = some o := by
  have := g.k q o (by rw [mask_ne n]; exact h)
  rw [mask_ne n] at this
  exact this
end
/-- _law_take: an int below n -/
def spTake : Sp := fun vs H Q _ => ∃ b p n, vs = [.ref b, .int n] ∧ Bag b p H ∧ 0 < n ∧ n ≤ 1000000 ∧ ∀ i H', 0 ≤ i → i < n → Go b p H H' → Q (.int i) H'
end Fm
namespace Fm
open PySem PySem.Spec PyProof.Rows L2
/-- what stands in H2 and not yet in H -/
def newof (H H2 : Hp) : Hp := fun a => match H a with
  | none => H2 a
  | some _ => none
section
variable {b p : Addr} {H H1 H2 H3 : Hp}
theorem newof_of {a : Addr} {o : HO} (h : H a = none) (h2 : H2 a = some o) : newof H H2 a = some o := by
  unfold newof
  rw [h]
  exact h2
theorem newof_is {a : Addr} {o : HO} (h : newof H H2 a = some o) : H a = none ∧ H2 a = some o := by
  unfold newof at h
  cases e : H a with
  | none =>
    rw [e] at h
    exact ⟨rfl, h⟩
  | some u =>
    rw [e] at h
    cases h
theorem newof_sub : Same (newof H H2) H2 := fun _ _ h => (newof_is h).2
theorem newof_mask (B : Bag b p H) : Same (newof H H2) (mask b H2) := fun a o h => by
  obtain ⟨h1, h2⟩ := newof_is h
  rw [mask_ne (B.b_ne h1)]
  exact h2
theorem newof_go (B : Bag b p H) (g : Go b p H1 H2) : Same (newof H H1) (newof H H2) := fun a o h => by
  obtain ⟨h1, h2⟩ := newof_is h
  exact newof_of h1 (g.at (B.b_ne h1) h2)
theorem newof_same (k : Same H1 H2) : Same (newof H H1) (newof H H2) := fun a o h => by
  obtain ⟨h1, h2⟩ := newof_is h
  exact newof_of h1 (k _ _ h2)
theorem newof_lift (f : ∀ a, H1 a = none → H a = none) : Same (newof H1 H2) (newof H H2) := fun a o h => by
  obtain ⟨h1, h2⟩ := newof_is h
  exact newof_of (f _ h1) h2
theorem newof_upd {l : Addr} {o u : HO} (h : H l = some u) : newof H (upd H2 l o) = newof H H2 := by
  funext a
  unfold newof
  cases e : H a with
  | none =>
    show upd H2 l o a = H2 a
    exact upd_ne fun z => by
      rw [z, h] at e
      cases e
  | some _ => rfl
end
/-- [e for k in range(n)], each turn draws from the bag and gives new data -/
theorem lc_bagS {te : TE} {tt : TT} {σ : L2.St} {H : Hp} {b p : Addr} {j n : Nat} {vs : List Nat} {Dl : Addr} {Qd : Hp → Prop} (good : D → Prop) (B : Bag b p H) (hD : H Dl = none) (hz : n ≤ 100000)
    (hw : ∀ x, wipe ((wipe σ vs).set j (some x)) vs = wipe σ vs) (he : ∀ σ' H' (R : Bool → Hp → Prop), R true H' → tt σ' H' R)
    (hv : ∀ (i : Nat) (H' : Hp) (R : VK), i < n → Go b p H H' → (∀ y d H2, Go b p H' H2 → Dv (newof H' H2) y d → good d → R y H2) → te ((wipe σ vs).set j (some (.int (i : Int)))) H' R)
    (q : ∀ H' acc ds, Go b p H H' → H' Dl = some (.lst acc) → DvL (newof (upd H Dl (.lst [])) H') acc ds → (∀ d ∈ ds, good d) → ds.length = n → Qd H') :
    ∃ W : Nat → Nat → Hp → Prop, (∃ m, W 0 m (upd H Dl (.lst []))) ∧ ∀ i m H, W i m H → ((Itr 0 n).stop i H ∧ Qd H) ∨ ((Itr 0 n).go i H ∧ ∃ Nx : Hp → Prop, (∀ H', Nx H' → ∃ m', m' < m ∧ W (i + 1) m' H') ∧
      ∀ x H', (Itr 0 n).yld i H x H' → gName j x (wipe σ vs) H' fun σ2 H2 => wipe σ2 vs = wipe σ vs ∧ tt σ2 H2 fun b H3 => if b = true then te σ2 H3 fun y H4 => ∃ acc, H4 Dl = some (.lst acc) ∧ acc.length < sizeLine ∧ Nx (upd H4 Dl (.lst (acc ++ [y]))) else Nx H3) := by
  have nb := B.b_ne hD
  refine lc_range (lo := 0) (fun i H' => Go b p H H' ∧ ∃ acc ds, H' Dl = some (.lst acc) ∧ DvL (newof (upd H Dl (.lst [])) H') acc ds ∧ (∀ d ∈ ds, good d) ∧ ds.length = i)
    ⟨(Go.refl B).new hD, [], [], upd_same, .nil, fun _ h => (by cases h), rfl⟩ ?_ ?_
  · rintro i H1 hi ⟨g, acc, ds, hl, hds, hg, hn⟩
    refine ⟨hw _, he _ _ _ ?_⟩
    rw [if_pos rfl]
    have e0 : (0 : Int) + (i : Int) = (i : Int) := by omega
    rw [e0]
    refine hv i H1 _ hi g fun y d H2 g2 hy gd => ⟨acc, g2.at nb hl, ?_, (g.trans g2).mut B hD, acc ++ [y], ds ++ [d], upd_same, ?_, ?_, ?_⟩
    · have := hds.len
      exact szl (by omega)
    · have hDl : (upd H Dl (.lst [])) Dl = some (.lst []) := upd_same
      rw [newof_upd hDl]
      have B1 : Bag b p (upd H Dl (.lst [])) := ((Go.refl B).new hD).B
      refine (hds.same (newof_go B1 g2) _ _).app (.cons (hy.same (newof_lift fun a ha => ?_) _ _) .nil)
      have n1 : a ≠ Dl := fun z => by
        rw [z, hl] at ha
        cases ha
      rw [upd_ne n1]
      exact g.free ha
    · intro d' hd'
      rcases List.mem_append.mp hd' with h | h
      · exact hg d' h
      · rw [List.mem_singleton.mp h]
        exact gd
    · rw [List.length_append, hn]
      rfl
  · rintro H' ⟨g, acc, ds, hl, hds, hg, hn⟩
    exact q H' acc ds g hl hds hg hn
/-- [e for k in range(n)], each turn draws from the bag and gives new data -/
theorem lc_bag {te : TE} {tt : TT} {σ : L2.St} {H : Hp} {b p : Addr} {j n : Nat} {vs : List Nat} {Dl : Addr} {Qd : Hp → Prop} (good : D → Prop) (B : Bag b p H) (hD : H Dl = none) (hz : n ≤ 100000)
    (hw : ∀ x, wipe ((wipe σ vs).set j (some x)) vs = wipe σ vs) (he : ∀ σ' H' (R : Bool → Hp → Prop), R true H' → tt σ' H' R)
    (hv : ∀ (i : Nat) (H' : Hp) (R : VK), i < n → Go b p H H' → (∀ y d H2, Go b p H' H2 → Dv (newof H' H2) y d → good d → R y H2) → te ((wipe σ vs).set j (some (.int (i : Int)))) H' R)
    (q : ∀ H' acc ds, Go b p H H' → H' Dl = some (.lst acc) → DvL (newof H H') acc ds → (∀ d ∈ ds, good d) → ds.length = n → Qd H') :
    ∃ W : Nat → Nat → Hp → Prop, (∃ m, W 0 m (upd H Dl (.lst []))) ∧ ∀ i m H, W i m H → ((Itr 0 n).stop i H ∧ Qd H) ∨ ((Itr 0 n).go i H ∧ ∃ Nx : Hp → Prop, (∀ H', Nx H' → ∃ m', m' < m ∧ W (i + 1) m' H') ∧
      ∀ x H', (Itr 0 n).yld i H x H' → gName j x (wipe σ vs) H' fun σ2 H2 => wipe σ2 vs = wipe σ vs ∧ tt σ2 H2 fun b H3 => if b = true then te σ2 H3 fun y H4 => ∃ acc, H4 Dl = some (.lst acc) ∧ acc.length < sizeLine ∧ Nx (upd H4 Dl (.lst (acc ++ [y]))) else Nx H3) :=
  lc_bagS good B hD hz hw he hv fun H' acc ds g hl hds hg hn => q H' acc ds g hl (hds.same (newof_lift fun a ha => by
    by_cases z : a = Dl
    · rw [z]
      exact hD
    · rwa [upd_ne z] at ha) _ _) hg hn
/-- [f(x) for x in xs] over a list, f leaves what stands -/
theorem lc_listF {K : PySem.W.Frag} {te : TE} {tt : TT} {σ : L2.St} {H : Hp} {a : Addr} {xs : List V} {j : Nat} {vs : List Nat} {Dl : Addr} {Qd : Hp → Prop} (f : V → V) (hT : SqL K H a xs) (hD : H Dl = none) (hz : xs.length ≤ 100000)
    (hw : ∀ x, wipe ((wipe σ vs).set j (some x)) vs = wipe σ vs) (he : ∀ σ' H' (R : Bool → Hp → Prop), R true H' → tt σ' H' R)
    (hv : ∀ (x : V) (H' : Hp) (R : VK), Same H H' → x ∈ xs → (∀ H2, Same H' H2 → R (f x) H2) → te ((wipe σ vs).set j (some x)) H' R)
    (q : ∀ H', Same H H' → H' Dl = some (.lst (xs.map f)) → Qd H') :
    ∃ W : Nat → Nat → Hp → Prop, (∃ m, W 0 m (upd H Dl (.lst []))) ∧ ∀ i m H, W i m H → ((Itl K a).stop i H ∧ Qd H) ∨ ((Itl K a).go i H ∧ ∃ Nx : Hp → Prop, (∀ H', Nx H' → ∃ m', m' < m ∧ W (i + 1) m' H') ∧
      ∀ x H', (Itl K a).yld i H x H' → gName j x (wipe σ vs) H' fun σ2 H2 => wipe σ2 vs = wipe σ vs ∧ tt σ2 H2 fun b H3 => if b = true then te σ2 H3 fun y H4 => ∃ acc, H4 Dl = some (.lst acc) ∧ acc.length < sizeLine ∧ Nx (upd H4 Dl (.lst (acc ++ [y]))) else Nx H3) := by
  refine lc_list (fun i H' => Same H H' ∧ H' Dl = some (.lst ((xs.take i).map f))) ⟨Same.new hD, upd_same⟩ (fun i H' _ h => Evl.ex_l h.1 hT) ?_ ?_
  · rintro i x H1 hx ⟨k, hl⟩
    refine ⟨hw _, he _ _ _ ?_⟩
    rw [if_pos rfl]
    refine hv x H1 _ k (tk hx) fun H2 k2 => ⟨_, k2 _ _ hl, ?_, Same.upd (k.trans k2) hD, ?_⟩
    · rw [List.length_map]
      refine szl ?_
      rw [List.length_take]
      omega
    · rw [take_succ' hx, List.map_append]
      exact upd_same
  · rintro H' ⟨k, hl⟩
    refine q H' k ?_
    rw [List.take_length] at hl
    exact hl
end Fm
namespace Fm
open PySem PySem.Spec PyProof.Rows L2
theorem ok_app {x y : Str} (hx : PyData.strOk x = true) (hy : PyData.strOk y = true) : PyData.strOk (x ++ y) = true := by
  unfold PyData.strOk at *
  show (x.cps ++ y.cps).all _ = true
  rw [Array.all_append, hx, hy]
  rfl
theorem ok_join {ys : List Str} (h : ∀ y ∈ ys, PyData.strOk y = true) : PyData.strOk (Txt.join "" ys) = true := by
  have e : Txt.join "" ys = Str.join "" ys := StrLaws.glued_eq_join _ _
  rw [e]
  clear e
  induction ys with
  | nil => decide +kernel
  | cons x r ih =>
    cases r with
    | nil => exact h x List.mem_cons_self
    | cons y r => exact ok_app (ok_app (h x List.mem_cons_self) (by decide +kernel)) (ih fun z hz => h z (List.mem_cons_of_mem _ hz))
theorem len_join {ys : List Str} (h : ∀ y ∈ ys, y.length ≤ 1) : (Txt.join "" ys).length ≤ ys.length := by
  have e : Txt.join "" ys = Str.join "" ys := StrLaws.glued_eq_join _ _
  rw [e]
  refine Nat.le_trans (StrLaws.join_length_le _ _) ?_
  have z : (("" : String) : Str).length = 0 := rfl
  rw [z, Nat.mul_zero, Nat.add_zero]
  clear e
  induction ys with
  | nil => simp
  | cons x r ih =>
    have h1 := h x List.mem_cons_self
    have h2 := ih fun y hy => h y (List.mem_cons_of_mem _ hy)
    rw [List.map_cons, List.sum_cons, List.length_cons]
    omega
theorem sum_len {ys : List Str} (h : ∀ y ∈ ys, y.length ≤ 1) : (ys.map (·.length)).sum ≤ ys.length := by
  induction ys with
  | nil => simp
  | cons x r ih =>
    have h1 := h x List.mem_cons_self
    have h2 := ih fun y hy => h y (List.mem_cons_of_mem _ hy)
    rw [List.map_cons, List.sum_cons, List.length_cons]
    omega
/-- strings as data, and back -/
theorem dvl_strs {H : Hp} {m : Nat} : ∀ {acc : List V} {ds : List D}, DvL H acc ds → (∀ d ∈ ds, ∃ x, d = .str x ∧ PyData.strOk x = true ∧ x.length ≤ m) → ∃ ys : List Str, acc = ys.map V.str ∧ (∀ y ∈ ys, PyData.strOk y = true ∧ y.length ≤ m) ∧ ys.length = ds.length
  | _, _, .nil, _ => ⟨[], rfl, fun _ h => (by cases h), rfl⟩
  | _, _, .cons a b, h => by
    obtain ⟨ys, e, f, g⟩ := dvl_strs b fun d hd => h d (List.mem_cons_of_mem _ hd)
    obtain ⟨x, rfl, o, l⟩ := h _ List.mem_cons_self
    cases a
    refine ⟨x :: ys, by rw [e]; rfl, fun y hy => ?_, by simp [g]⟩
    rcases List.mem_cons.mp hy with rfl | hy
    · exact ⟨o, l⟩
    · exact f y hy
/-- a sign of a written text at an int below its length -/
theorem sign_at {x : Str} {i : Int} (h0 : 0 ≤ i) (h1 : i < x.length) : ∃ c, atI x.cps.toList i = some c ∧ (PyData.strOk x = true → PyData.strOk ⟨#[c]⟩ = true) := by
  obtain ⟨k, rfl⟩ := Int.eq_ofNat_of_zero_le h0
  have l : x.cps.toList.length = x.length := by simp [Str.length]
  have lt : k < x.cps.toList.length := by omega
  refine ⟨x.cps.toList[k], atI_nat (List.getElem?_eq_getElem lt), fun o => ok_part o fun c hc => ?_⟩
  simp only [List.mem_singleton] at hc
  rw [hc]
  exact List.getElem_mem lt
theorem cut_len_le {x : Str} {lo hi : Option Int} : (cutS x lo hi).length ≤ x.length := by
  unfold cutS
  show (List.toArray _).size ≤ _
  rw [List.size_toArray, List.length_take, List.length_drop]
  have l : x.cps.toList.length = x.length := by simp [Str.length]
  omega
theorem len_app (x y : Str) : (x ++ y).length = x.length + y.length := by
  show (x.cps ++ y.cps).size = _
  rw [Array.size_append]
  rfl
/-- the law's bag made of the script -/
def spBag (K : PySem.W.Frag) : Sp := fun vs H Q _ => ∃ (a : Addr) (ns : List Int), vs = [.ref a] ∧ SqL K H a (ns.map V.int) ∧ ns.length ≤ 63 ∧ ∀ b p H', H b = none → Same H H' → Bag b p H' → Q (.ref b) H'
/-- some names -/
def spNames : Sp := fun vs H Q _ => ∃ b p n, vs = [.ref b, .int n] ∧ Bag b p H ∧ 0 ≤ n ∧ n ≤ 20 ∧
  ∀ (l : Addr) (H' : Hp) (xs : List Str), Go b p H H' → newof H H' l = some (.lst (xs.map V.str)) → (xs.length : Int) = n → (∀ x ∈ xs, PyData.strOk x = true ∧ x.length ≤ 30) → Q (.ref l) H'
end Fm
namespace Fm
open PySem PySem.Spec PyProof.Rows L2
theorem cut_strs (ws : List Str) (lo hi : Option Int) : ∃ zs : List Str, cutV (ws.map V.str) lo hi = zs.map V.str ∧ (∀ z ∈ zs, z ∈ ws) ∧ zs.length = min (HT.sIx ws.length ws.length hi - HT.sIx ws.length 0 lo) (ws.length - HT.sIx ws.length 0 lo) := by
  unfold cutV
  rw [List.length_map, ← List.map_drop, ← List.map_take]
  refine ⟨_, rfl, fun z hz => List.mem_of_mem_drop (List.mem_of_mem_take hz), ?_⟩
  rw [List.length_take, List.length_drop]
theorem sIx_none (n d : Nat) : HT.sIx n d none = d := rfl
theorem sIx_at {n d : Nat} {i : Int} (h : 0 ≤ i) : HT.sIx n d (some i) = min i.toNat n := by
  show (if i < 0 then (i + (n : Int)).toNat else min i.toNat n) = _
  rw [if_neg (by omega)]
end Fm
namespace Fm
open PySem PySem.Spec PyProof.Rows L2
/-- a term as a law makes it: an int, or a tuple of a text and terms -/
inductive Tm : D → Prop
  | int (i : Int) : Tm (.int i)
  | tup (x : Str) (ds : List D) : (∀ d ∈ ds, Tm d) → Tm (.tup (.str x :: ds))
/-- a list of names that stands in the heap -/
structure Names (nm b : Addr) (H : Hp) (xs : List Str) : Prop where
  at_ : H nm = some (.lst (xs.map V.str))
  ne : nm ≠ b
  pos : 1 ≤ xs.length
  few : xs.length ≤ 20
  ok : ∀ x ∈ xs, PyData.strOk x = true ∧ x.length ≤ 30
theorem Names.go {nm b p : Addr} {H H' : Hp} {xs : List Str} (N : Names nm b H xs) (g : Go b p H H') : Names nm b H' xs := ⟨g.at N.ne N.at_, N.ne, N.pos, N.few, N.ok⟩
theorem Names.get {nm b : Addr} {H : Hp} {xs : List Str} (N : Names nm b H xs) {i : Int} (h0 : 0 ≤ i) (h1 : i < xs.length) : ∃ x, atI (xs.map V.str) i = some (.str x) ∧ PyData.strOk x = true ∧ x.length ≤ 30 := by
  obtain ⟨k, rfl⟩ := Int.eq_ofNat_of_zero_le h0
  have lt : k < xs.length := by omega
  refine ⟨xs[k], atI_nat ?_, N.ok _ (List.getElem_mem lt)⟩
  rw [List.getElem?_map, List.getElem?_eq_getElem lt]
  rfl
/-- how great a term of so many levels may be -/
def Sized (k : Nat) (d : D) : Prop := d.deep ≤ k ∧ d.size + 16 ≤ 17 * 3 ^ k
theorem sizes_le {ds : List D} {n : Nat} (h : ∀ d ∈ ds, d.size + 16 ≤ n) : sizes ds + 16 * ds.length ≤ n * ds.length := by
  induction ds with
  | nil => simp [sizes]
  | cons x r ih =>
    have h1 := h x List.mem_cons_self
    have h2 := ih fun y hy => h y (List.mem_cons_of_mem _ hy)
    simp only [sizes, List.length_cons, Nat.mul_add, Nat.mul_one]
    omega
theorem deeps_le {ds : List D} {n : Nat} (h : ∀ d ∈ ds, d.deep ≤ n) : deeps ds ≤ n := by
  induction ds with
  | nil => simp [deeps]
  | cons x r ih =>
    have h1 := h x List.mem_cons_self
    have h2 := ih fun y hy => h y (List.mem_cons_of_mem _ hy)
    simp only [deeps]
    omega
theorem Sized.tup {k : Nat} {x : Str} {ds : List D} (lx : x.length ≤ 30) (l3 : ds.length ≤ 3) (h : ∀ d ∈ ds, Sized k d) : Sized (k + 1) (.tup (.str x :: ds)) := by
  have h1 := deeps_le fun d hd => (h d hd).1
  have h2 := sizes_le fun d hd => (h d hd).2
  have h3 : 17 * 3 ^ k * ds.length ≤ 17 * 3 ^ k * 3 := Nat.mul_le_mul_left _ l3
  have h4 : 1 ≤ 3 ^ k := Nat.one_le_pow _ _ (by decide)
  refine ⟨?_, ?_⟩
  · simp only [D.deep, deeps]
    omega
  · simp only [D.size, sizes]
    have e : 17 * 3 ^ (k + 1) = 17 * 3 ^ k * 3 := by rw [Nat.pow_succ]; omega
    rw [e]
    -- three parts, or fewer
    rcases (by omega : ds.length = 0 ∨ ds.length = 1 ∨ ds.length = 2 ∨ ds.length = 3) with z | z | z | z <;> rw [z] at h2 <;> omega
/-- _law_term of a bag, names, so many unknowns and k levels, k below m -/
def spTerm (m : Nat) : Sp := fun vs H Q _ => ∃ (b p nm : Addr) (xs : List Str) (many : Int) (k : Nat) (deep : Int), vs = [.ref b, .ref nm, .int many, .int deep] ∧ deep = (k : Int) ∧ Bag b p H ∧ Names nm b H xs ∧ 0 < many ∧ many ≤ 1000 ∧ k < m ∧ k ≤ 100 ∧
  ∀ v H' d, Go b p H H' → Dv (newof H H') v d → Tm d → Sized k d → Q v H'
end Fm
set_option maxRecDepth 100000
set_option maxHeartbeats 2000000
/-! Fm: written data. -/
namespace Fm
open PySem PySem.Spec PyProof.Rows L2
/-- an expression that makes this data anew, all that stood standing -/
def Ed (te : TE) (d : D) : Prop := ∀ σ H (Q : VK), (∀ v H', Same H H' → Dv (newof H H') v d → Q v H') → te σ H Q
def EdA (ta : TA) (ds : List D) : Prop := ∀ σ H (Q : List V → Hp → Prop), (∀ vs H', Same H H' → DvL (newof H H') vs ds → Q vs H') → ta σ H Q
theorem ed_non : Ed (tC .non) .non := fun _ H _ q => q _ _ (Same.refl H) .non
theorem ed_bl {b : Bool} : Ed (tC (.bl b)) (.bl b) := fun _ H _ q => q _ _ (Same.refl H) (.bl b)
theorem ed_int {i : Int} : Ed (tC (.int i)) (.int i) := fun _ H _ q => q _ _ (Same.refl H) (.int i)
theorem ed_str {x : Str} (h : PyData.strOk x = true) : Ed (tC (.str x)) (.str x) := fun _ H _ q => q _ _ (Same.refl H) (.str x h)
theorem ed_neg {i : Int} : Ed (tUn (rU fun i => .int (-i)) (tC (.int i))) (.int (-i)) := fun _ H _ q => ⟨i, rfl, q _ _ (Same.refl H) (.int _)⟩
theorem eda_nil : EdA tNil [] := fun _ H _ q => q _ _ (Same.refl H) .nil
theorem eda_cons {te : TE} {ta : TA} {d : D} {ds : List D} (h : Ed te d) (h2 : EdA ta ds) : EdA (tCons te ta) (d :: ds) := fun σ H Q q =>
  h σ H _ fun v H1 k1 h1 => h2 σ H1 _ fun vs H2 k2 h3 => q _ _ (k1.trans k2) (.cons (h1.same (newof_same k2) _ _) (h3.same (newof_lift fun _ ha => k1.free ha) _ _))
theorem ed_tup {ta : TA} {ds : List D} (h : EdA ta ds) (hl : ds.length ≤ 1000) : Ed (tTup ta) (.tup ds) := fun σ H Q q =>
  h σ H _ fun vs H1 k1 h1 => ⟨sz (by have := h1.len; omega), fun p hp => q _ _ (k1.trans (Same.new hp)) (.tup (newof_of (k1.free hp) upd_same) (h1.same (newof_same (Same.new hp)) _ _))⟩
theorem ed_lst {ta : TA} {ds : List D} (h : EdA ta ds) (hl : ds.length ≤ 1000) : Ed (tLst ta) (.lst ds) := fun σ H Q q =>
  h σ H _ fun vs H1 k1 h1 => ⟨sz (by have := h1.len; omega), fun p hp => q _ _ (k1.trans (Same.new hp)) (.lst (newof_of (k1.free hp) upd_same) (h1.same (newof_same (Same.new hp)) _ _))⟩
theorem ed_asg {te : TE} {d : D} {i : Nat} {D' : Ends} {σ : L2.St} {H : Hp} (h : Ed te d) (k : ∀ v H', Same H H' → Dv (newof H H') v d → D'.nx (σ.set i (some v)) H') : tAsg te (gName i) D' σ H := h σ H _ k
theorem ed_dic : Ed tDNewK .dic := fun _ H _ q p hp => q _ _ (Same.new hp) (.dic (newof_of hp upd_same))
theorem Ed.use {te : TE} {d : D} {σ : L2.St} {H : Hp} {Q : VK} (h : Ed te d) (k : ∀ v H', Same H H' → Dv (newof H H') v d → Q v H') : te σ H Q := h σ H Q k
/-- _law_odd: a small piece of data -/
def spOdd : Sp := fun vs H Q _ => ∃ b p, vs = [.ref b] ∧ Bag b p H ∧ ∀ v H' d, Go b p H H' → Dv (newof H H') v d → d.deep ≤ 3 → d.size ≤ 40 → Q v H'
end Fm
namespace Fm
open PySem PySem.Spec PyProof.Rows L2
theorem split_at {ds : List D} {k : Nat} (h : k < ds.length) : ds = ds.take k ++ (ds[k] :: ds.drop (k + 1)) := by
  have e := List.take_append_drop k ds
  rw [List.drop_eq_getElem_cons h] at e
  exact e.symm
theorem cut_to {us : List V} {k : Nat} (h : k < us.length) : cutV us none (some (k : Int)) = us.take k ∧ ¬ (HT.sIx us.length 0 none = 0 ∧ HT.sIx us.length us.length (some (k : Int)) = us.length) := by
  have e : HT.sIx us.length us.length (some (k : Int)) = k := by
    rw [HT.sIx_nat]
    omega
  have e0 : HT.sIx us.length 0 none = 0 := rfl
  constructor
  · unfold cutV
    rw [e, e0]
    rfl
  · rintro ⟨_, z⟩
    rw [e] at z
    omega
theorem cut_from {us : List V} {k : Nat} (h : 0 < k) (h2 : k ≤ us.length) : cutV us (some (k : Int)) none = us.drop k ∧ ¬ (HT.sIx us.length 0 (some (k : Int)) = 0 ∧ HT.sIx us.length us.length none = us.length) := by
  have e : HT.sIx us.length 0 (some (k : Int)) = k := by
    rw [HT.sIx_nat]
    omega
  constructor
  · unfold cutV
    rw [e]
    exact List.take_of_length_le (by rw [List.length_drop]; exact Nat.le_refl _)
  · rintro ⟨z, _⟩
    rw [e] at z
    omega
/-- _law_spoilt of a bag and a term -/
def spSpoilt (m : Nat) : Sp := fun vs H Q _ => ∃ b p v d, vs = [.ref b, v] ∧ Bag b p H ∧ Dv (mask b H) v d ∧ Tm d ∧ d.deep < m ∧ d.deep ≤ 90 ∧ d.size ≤ 50000 ∧
  ∀ v' H' d', Go b p H H' → Dv (mask b H') v' d' → d'.deep ≤ d.deep + 3 → d'.size ≤ d.size + 40 → Q v' H'
theorem mask_new {b q : Addr} {H : Hp} {o : HO} (n : q ≠ b) : mask b (upd H q o) q = some o := by
  rw [mask_ne n]
  exact upd_same
end Fm
namespace Fm
open PySem PySem.Spec PyProof.Rows L2
theorem ed_pow {i j : Int} (h : CPow i j) : Ed (tOp (rI CPow fun i j => .int (i ^ j.toNat)) (tC (.int i)) (tC (.int j))) (.int (i ^ j.toNat)) := fun _ H _ q => ⟨i, j, rfl, rfl, h, q _ _ (Same.refl H) (.int _)⟩
theorem op_or {X : Cx} {f : Value → Value → Sem Value} {r1 r2 : R2} (h1 : OpR X f r1) (h2 : OpR X f r2) : OpR X f (fun x y H Q => r1 x y H Q ∨ r2 x y H Q) := fun pins s σ H x y v u Q I rx ry h => by
  rcases h with h | h
  · exact h1 pins s σ H x y v u Q I rx ry h
  · exact h2 pins s σ H x y v u Q I rx ry h
/-- one of some written texts -/
theorem text_at {xs : List Str} {i : Int} (h0 : 0 ≤ i) (h1 : i < xs.length) : ∃ x, atI (xs.map V.str) i = some (.str x) ∧ x ∈ xs := by
  obtain ⟨k, rfl⟩ := Int.eq_ofNat_of_zero_le h0
  have lt : k < xs.length := by omega
  refine ⟨xs[k], atI_nat ?_, List.getElem_mem lt⟩
  rw [List.getElem?_map, List.getElem?_eq_getElem lt]
  rfl
mutual
def noDic : D → Bool
  | .tup ds => noDics ds
  | .lst ds => noDics ds
  | .dic => false
  | _ => true
def noDics : List D → Bool
  | [] => true
  | d :: ds => noDic d && noDics ds
end
theorem noDics_of {ds : List D} (h : ∀ d ∈ ds, noDic d = true) : noDics ds = true := by
  induction ds with
  | nil => rfl
  | cons x r ih =>
    simp only [noDics, h x List.mem_cons_self, Bool.true_and]
    exact ih fun y hy => h y (List.mem_cons_of_mem _ hy)
theorem Tm.noDic {d : D} (t : Tm d) : Fm.noDic d = true := by
  induction t with
  | int i => rfl
  | tup x ds _ ih =>
    simp only [Fm.noDic, noDics, Bool.true_and]
    exact noDics_of ih
mutual
theorem dp_of {K : PySem.W.Frag} {H : Hp} : ∀ (d : D) (v : V), Dv H v d → noDic d = true → ∃ pd, Dp K H v pd ∧ pd.canLay0 = true ∧ pd.depth ≤ d.deep + 1
  | .non, _, h, _ => by cases h; exact ⟨_, .non, rfl, by simp [PyData.depth]⟩
  | .bl _, _, h, _ => by cases h; exact ⟨_, .bl _, rfl, by simp [PyData.depth]⟩
  | .int _, _, h, _ => by cases h; exact ⟨_, .int _, rfl, by simp [PyData.depth]⟩
  | .str _, _, h, _ => by
    cases h with
    | str _ o => exact ⟨_, .str _, by simpa [PyData.canLay0] using o, by simp [PyData.depth]⟩
  | .tup ds, _, h, n => by
    cases h with
    | tup a b =>
      obtain ⟨ps, h1, h2, h3⟩ := dps_of ds _ b (by simpa [noDic] using n)
      exact ⟨_, .tup (SqT.of a) h1, by simpa [PyData.canLay0] using h2, by simp only [PyData.depth, D.deep]; omega⟩
  | .lst ds, _, h, n => by
    cases h with
    | lst a b =>
      obtain ⟨ps, h1, h2, h3⟩ := dps_of ds _ b (by simpa [noDic] using n)
      exact ⟨_, .lst (SqL.of a) h1, by simpa [PyData.canLay0] using h2, by simp only [PyData.depth, D.deep]; omega⟩
  | .dic, _, _, n => by simp [noDic] at n
theorem dps_of {K : PySem.W.Frag} {H : Hp} : ∀ (ds : List D) (vs : List V), DvL H vs ds → noDics ds = true → ∃ ps, DpAll K H vs ps ∧ PyData.canLayAll0 ps = true ∧ PyData.depthAll ps ≤ deeps ds + 1
  | [], _, h, _ => by cases h; exact ⟨[], .nil, by simp [PyData.canLayAll0], by simp [PyData.depthAll]⟩
  | d :: ds, _, h, n => by
    cases h with
    | cons a b =>
      have n' : noDic d = true ∧ noDics ds = true := by simpa [noDics] using n
      obtain ⟨p, h1, h2, h3⟩ := dp_of d _ a n'.1
      obtain ⟨ps, h4, h5, h6⟩ := dps_of ds _ b n'.2
      exact ⟨p :: ps, .cons h1 h4, by simp [PyData.canLayAll0, h2, h5], by simp only [PyData.depthAll, deeps]; omega⟩
end
def spText : Sp := fun vs H Q _ => ∃ b p, vs = [.ref b] ∧ Bag b p H ∧ ∀ x H', Go b p H H' → PyData.strOk x = true → x.length ≤ 13 → Q (.str x) H'
/-- a thing to look at -/
def spThing : Sp := fun vs H Q _ => ∃ b p nm xs, vs = [.ref b, .ref nm] ∧ Bag b p H ∧ Names nm b H xs ∧ ∀ v H' d, Go b p H H' → Dv (mask b H') v d → d.deep ≤ 50 → d.size ≤ 50000 → Q v H'
end Fm
namespace Fm
open PySem PySem.Spec PyProof.Rows L2
theorem sizes_set {ds : List D} {d : D} (n : Nat) : sizes (ds.set n d) ≤ sizes ds + d.size := by
  induction ds generalizing n with
  | nil => simp [sizes]
  | cons x r ih =>
    cases n with
    | zero => simp only [List.set_cons_zero, sizes]; omega
    | succ n => have := ih n; simp only [List.set_cons_succ, sizes]; omega
theorem deeps_set {ds : List D} {d : D} (n : Nat) : deeps (ds.set n d) ≤ max (deeps ds) d.deep := by
  induction ds generalizing n with
  | nil => simp [deeps]
  | cons x r ih =>
    cases n with
    | zero => simp only [List.set_cons_zero, deeps]; omega
    | succ n => have := ih n; simp only [List.set_cons_succ, deeps]; omega
theorem ixN_at {n k : Nat} (h : k < n) : ixN n (k : Int) = some k := by
  unfold ixN
  rw [if_pos (by omega), if_pos (by omega)]
  simp
end Fm
namespace Fm
open PySem PySem.Spec PyProof.Rows L2
/-- (v,) * k, k from 0 to 2 -/
def rRep3 : R2 := fun x y H Q => ∃ l k v, x = .ref l ∧ y = .int k ∧ H l = some (.tup [v]) ∧ 0 ≤ k ∧ k ≤ 2 ∧ ∀ r H', Same H H' → H' r = some (.tup (List.replicate k.toNat v)) → Q (.ref r) H'
theorem op_rep3 {X : Cx} : OpR X (binaryOp .Mult) rRep3 := by
  intro pins s σ H x y v u Q I rx ry h
  obtain ⟨l, k, w1, rfl, rfl, hl, k0, k2, q⟩ := h
  refine op_or op_rep1 op_repT pins s σ H _ _ v u Q I rx ry ?_
  rcases (by omega : k = 0 ∨ k = 1 ∨ k = 2) with rfl | rfl | rfl
  · exact .inl ⟨l, 0, w1, rfl, rfl, SqT.of hl, .inl rfl, fun _ p hp => q p _ (Same.new hp) upd_same, fun z => (by cases z)⟩
  · exact .inl ⟨l, 1, w1, rfl, rfl, SqT.of hl, .inr rfl, fun z => (by cases z), fun _ => q l H (Same.refl H) hl⟩
  · exact .inr ⟨l, 2, [w1], rfl, rfl, SqT.of hl, by simp, by decide, by decide, by simp, fun p hp => q p _ (Same.new hp) upd_same⟩
theorem dvl_rep {H : Hp} {v : V} {d : D} (h : Dv H v d) : ∀ n : Nat, DvL H (List.replicate n v) (List.replicate n d)
  | 0 => .nil
  | n + 1 => .cons h (dvl_rep h n)
end Fm
namespace Fm
open PySem PySem.Spec PyProof.Rows L2
theorem areTerms_set {ds : List D} {d : D} (n : Nat) (h : ∀ x ∈ ds, isTerm x = true) (lt : n < ds.length) : areTerms (ds.set n d) = isTerm d := by
  induction ds generalizing n with
  | nil => simp at lt
  | cons x r ih =>
    have hx := h x List.mem_cons_self
    have hr : areTerms r = true := by
      rw [areTerms_all]
      exact List.all_eq_true.mpr fun y hy => h y (List.mem_cons_of_mem _ hy)
    cases n with
    | zero => simp only [List.set_cons_zero, areTerms, hr, Bool.and_true]
    | succ n =>
      simp only [List.set_cons_succ, areTerms, hx, Bool.true_and]
      exact ih n (fun y hy => h y (List.mem_cons_of_mem _ hy)) (by simpa using lt)
/-- the list of bools, as data -/
def bools (bs : List Bool) : PyData := .list (bs.map .bool)
theorem dp_bools {K : PySem.W.Frag} {H : Hp} {l : Addr} {bs : List Bool} (h : H l = some (.lst (bs.map V.bl))) : Dp K H (.ref l) (bools bs) := by
  refine .lst (SqL.of h) ?_
  clear h
  induction bs with
  | nil => exact .nil
  | cons b r ih => exact .cons (.bl b) ih
def spMany : Sp := fun vs H Q _ => ∃ b p, vs = [.ref b] ∧ Bag b p H ∧ ∀ H', Q (.bl true) H'
def spLaw (K : PySem.W.Frag) : Sp := fun vs H Q _ => ∃ (a : Addr) (ns : List Int), vs = [.ref a] ∧ SqL K H a (ns.map V.int) ∧ ns.length ≤ 63 ∧ ∀ H', Q (.bl true) H'
end Fm
namespace Fm
open PySem PySem.Spec PyProof.Rows L2
theorem bools5 : ∀ b1 b2 b3 b4 b5 : Bool, SeqAt.shaped (bools [b1, b2, b3, b4, b5]) = true ∧ (bools [b1, b2, b3, b4, b5]).showable = true ∧ (bools [b1, b2, b3, b4, b5]).hasDict = false ∧ (bools [b1, b2, b3, b4, b5]).depth ≤ 60 ∧
    (bools [b1, b2, b3, b4, b5]).shown.length ≤ sizeLine := by decide +kernel
end Fm
set_option maxRecDepth 100000
set_option maxHeartbeats 2000000
/-! Fm: rules for terms as numbered nodes: setdefault with tuples as keys, t[:0:-1]. -/
namespace Fm
open PySem PySem.Spec PyProof.Rows L2
section
variable {X : Cx}
/-- d.setdefault(t, v), keys are tuples -/
def rSetdT : V → List V → Hp → VK → Prop := fun x vs H Q => ∃ (a : Addr) (kvs : List (List L2.Key × V)) (k : List L2.Key) (b : Addr) (v : V), x = .ref a ∧ vs = [.ref b, v] ∧ H a = some (.dT kvs) ∧ H b = some (.tup (k.map kV)) ∧ kvs.length < sizeLine ∧
  (∀ w, valV kvs k = some w → Q w H) ∧ (valV kvs k = none → Q v (upd H a (.dT (kvs ++ [(k, v)]))))
theorem mt_setdT (hu : X.A.units + 1 < cLine) : MtR X "dict.setdefault" rSetdT := by
  intro pins s σ H x xs v us Q I rx rxs h
  obtain ⟨a, kvs, k, b, d, rfl, rfl, ha, hb, hl, q1, q2⟩ := h
  cases rx
  obtain ⟨u1, u2, rfl, r1, r2⟩ := vals2 rxs
  cases r1
  obtain ⟨z, hd, xs', rel, dd⟩ := dt_of I.hok ha
  have hz : xs'.length ≤ sizeLine := by rw [← Paired.length rel]; exact z
  refine call_setdefault_heap (knd := tupleKind (mixKind X.prog X.w)) (tupleKind_room_in1 hu) (key_of I.hok hb) hd dd (fun p hp => ?_) (fun hn h' dd' hs => ?_) hz
  · have r := rel.val k
    rw [hp] at r
    obtain ⟨v0, ev, rv⟩ : ∃ v0, valV kvs k = some v0 ∧ RelV v0 p.2 := by
      cases ev : valV kvs k with
      | none =>
        rw [ev] at r
        exact (show False from r).elim
      | some v0 =>
        rw [ev] at r
        exact ⟨v0, rfl, r⟩
    exact ⟨v0, H, I.tok _, rv, q1 v0 ev⟩
  · have r := rel.val k
    rw [hn] at r
    have e : valV kvs k = none := by
      cases ev : valV kvs k with
      | none => rfl
      | some v0 =>
        rw [ev] at r
        exact (show False from r).elim
    obtain ⟨q, es, ep, hq, h2, h3, h4, _, h5⟩ := dd'
    have hl2 : (putK kvs k d).length ≤ sizeLine := by have := length_putK kvs k d; omega
    have I2 := d_write (t' := s.toks + (tupleKind (mixKind X.prog X.w)).draws k) (ob := .dT (putK kvs k d)) I (by rw [ha]; exact True.intro) hs ⟨q, hq⟩ ⟨hl2, hd, _, (rel.put k hb r2).keeps fun c ys ec => (by
      rw [upd_ne (ne_of ec ha (fun z => nomatch z))]
      exact ec), q, es, ep, hq, h2, h3, h4, h5⟩
    rw [putK_new d e] at I2
    exact ⟨d, _, I2, r2, q2 e⟩
end
/-! ### t[:0:-1] -/
section
variable {prog : Program} {w : World} {A : Around} {E : Value → Shared → Prop} {s : Shared}
theorem adjust_back (n : Nat) : Builtin.Slice.sliceAdjust none (some 0) (-1) (n : Int) = ((n : Int) - 1, min 0 ((n : Int) - 1)) := by
  unfold Builtin.Slice.sliceAdjust
  simp
theorem places_back {n : Nat} (h : 1 ≤ n) : Builtin.Slice.slicePlaces ((n : Int) - 1) (min 0 ((n : Int) - 1)) (-1) = n - 1 := by
  unfold Builtin.Slice.slicePlaces
  have e : min (0 : Int) ((n : Int) - 1) = 0 := by omega
  rw [e]
  simp only [show ¬ ((-1 : Int) > 0) by decide, if_false, show (-(-1) : Int) = 1 by decide, Int.ediv_one]
  split <;> omega
theorem sliceApplied_back {sl : Addr} {vu vs : Value} {n : Nat} {Q : Int × Int × Nat → Shared → Prop} (hn : 1 ≤ n) (hs : s.heap.IsSliceOf sl .none vu vs) (pu : IsPart vu (some 0)) (ps : IsPart vs (some (-1)))
    (h : Q ((n : Int) - 1, -1, n - 1) s) : wpAny (model prog w) A (Builtin.Slice.sliceApplied (.ref sl) (pure (n : Int))) Q E s := by
  obtain ⟨os, hos, hcs, hds⟩ := id hs
  unfold Builtin.Slice.sliceApplied Builtin.Slice.sliceFields
  refine wpAny_bind (wpAny_bind (wpAny_field hos hds (x := .none) rfl (wpAny_bind (wpAny_field hos hds (x := vu) rfl (wpAny_bind (wpAny_field hos hds (x := vs) rfl (wpAny_pure ?_)))))))
  refine wpAny_bind (HT.slicePart_ ps ?_)
  show wpAny _ _ (if ((-1 : Int) == 0) = true then _ else _) _ _ s
  rw [if_neg (by decide)]
  refine wpAny_bind (HT.slicePart_ .none (wpAny_bind (HT.slicePart_ pu (wpAny_bind (wpAny_pure ?_)))))
  show wpAny _ _ (match Builtin.Slice.sliceAdjust none (some 0) (-1) (n : Int) with | (lo, hi) => pure (lo, (-1 : Int), Builtin.Slice.slicePlaces lo hi (-1))) _ _ s
  rw [adjust_back n]
  show wpAny _ _ (pure ((n : Int) - 1, (-1 : Int), Builtin.Slice.slicePlaces ((n : Int) - 1) (min 0 ((n : Int) - 1)) (-1))) _ _ s
  rw [places_back hn]
  exact wpAny_pure h
theorem fm_map {α β : Type} {f : α → Option β} {g : α → β} {l : List α} (h : ∀ m ∈ l, f m = some (g m)) : l.filterMap f = l.map g := by
  induction l with
  | nil => rfl
  | cons x r ih => rw [List.filterMap_cons, h x List.mem_cons_self, ih fun m hm => h m (List.mem_cons_of_mem _ hm)]; rfl
theorem pick_back (xs : Array Value) (h : 1 ≤ xs.size) : ((List.range (xs.size - 1)).filterMap fun (m : Nat) => xs[(((xs.size : Int) - 1) + (m : Int) * (-1)).toNat]?).toArray = (xs.toList.drop 1).reverse.toArray := by
  congr 1
  apply List.ext_getElem?
  intro i
  have e : (List.range (xs.size - 1)).filterMap (fun (m : Nat) => xs[(((xs.size : Int) - 1) + (m : Int) * (-1)).toNat]?) = (List.range (xs.size - 1)).map fun m => xs[xs.size - 1 - m]! := by
    refine fm_map fun m hm => ?_
    have lm := List.mem_range.mp hm
    have e1 : (((xs.size : Int) - 1) + (m : Int) * (-1)).toNat = xs.size - 1 - m := by omega
    have lt : xs.size - 1 - m < xs.size := by omega
    rw [e1, getElem!_pos xs (xs.size - 1 - m) lt]
    exact Array.getElem?_eq_getElem lt
  rw [e, List.getElem?_map]
  have l : xs.toList.length = xs.size := Array.length_toList
  by_cases hi : i < xs.size - 1
  · have lt : xs.size - 1 - i < xs.size := by omega
    rw [List.getElem?_range hi, List.getElem?_reverse (by rw [List.length_drop]; omega), List.length_drop, List.getElem?_drop, Option.map_some, getElem!_pos xs (xs.size - 1 - i) lt]
    have e2 : 1 + (xs.toList.length - 1 - 1 - i) = xs.size - 1 - i := by omega
    rw [e2, List.getElem?_eq_getElem (by omega)]
    rfl
  · rw [List.getElem?_eq_none (by rw [List.length_range]; omega), List.getElem?_eq_none (by rw [List.length_reverse, List.length_drop]; omega)]
    rfl
theorem getItem_tuple_back {t sl : Addr} {items : Array Value} {vu vs : Value} {Q : Value → Shared → Prop} (ht : IsTup s.heap t items) (hs : s.heap.IsSliceOf sl .none vu vs) (pu : IsPart vu (some 0)) (ps : IsPart vs (some (-1))) (hn : 1 ≤ items.size)
    (h : Q (.ref s.heap.objs.size) { s with heap := s.heap.push { cls := .type "tuple", data := .seq (items.toList.drop 1).reverse.toArray } })
    (hsz : items.size ≤ sizeLine) : wpAny (model prog w) A (getItem (.ref t) (.ref sl)) Q E s := by
  have htake : sizeOk (.seq (items.toList.drop 1).reverse.toArray) := by
    show (items.toList.drop 1).reverse.toArray.size ≤ sizeLine
    rw [List.size_toArray, List.length_reverse, List.length_drop, Array.length_toList]
    omega
  obtain ⟨os, hos, hcs, hds⟩ := id hs
  have hTs : s.TypeIs (.ref sl) "slice" := ⟨os, hos, hcs⟩
  unfold getItem
  try with_reducible refine wpAny_holding ?_
  first | refine wpAny_bind (wpAny_pure ?_) | skip
  refine wpAny_bind (wpAny_sequenceKey ht.typeIs (by decide) ?_)
  refine wpAny_bind (wpAny_callSpecial?_slot (name := Str.ofString "__getitem__") ht.typeIs PyProof.Rows.slot_tuple_getitem
    (wpAny_call_entry PyProof.Rows.slot_tuple_getitem ht.typeIs entry_tuple_getitem ?_ (args_tuple_getitem _ _)))
  show wpAny _ _ (Builtin.Tuple.tupleItemsOf (.ref t) >>= _) _ _ s
  refine wpAny_bind (tupleItemsOf_ ht ?_)
  refine wpAny_bind (wpAny_typeOf hTs ?_)
  rw [if_pos (by decide)]
  refine wpAny_bind (sliceApplied_back hn hs pu ps ?_)
  have hno : ¬ ((((items.size : Int) - 1) == 0 && (-1 : Int) == 1 && (items.size - 1) == items.size) = true) := by
    intro q
    rw [Bool.and_eq_true, Bool.and_eq_true] at q
    exact absurd q.1.2 (by decide)
  show wpAny _ _ (if (((items.size : Int) - 1) == 0 && (-1 : Int) == 1 && (items.size - 1) == items.size) = true then _ else _) _ _ s
  rw [if_neg hno, pick_back items hn]
  first
    | exact wpAny_bind (m := Builtin.Tuple.tupleExact _) (wpAny_newObj_type (wpAny_pure ⟨_, rfl, wpAny_pure h⟩) htake)
    | exact wpAny_bind (m := Builtin.Tuple.tupleExact _) (wpAny_newObj_type (wpAny_bind (wpAny_pure (wpAny_pure ⟨_, rfl, wpAny_pure h⟩))) htake)
    | exact wpAny_bind (wpAny_bind (m := Builtin.Tuple.tupleExact _) (wpAny_newObj_type (wpAny_pure (wpAny_pure ⟨_, rfl, wpAny_pure h⟩)) htake))
    | exact wpAny_bind (wpAny_bind (m := Builtin.Tuple.tupleExact _) (wpAny_newObj_type (wpAny_pure ⟨_, rfl, wpAny_pure h⟩) htake))
end
/-- t[:0:-1] -/
def tBack (K : PySem.W.Frag) (te : TE) : TE := fun σ H Q => te σ H fun x H1 => ∃ a xs, x = .ref a ∧ SqT K H1 a xs ∧ 1 ≤ xs.length ∧ ∀ p, H1 p = none → Q (.ref p) (upd H1 p (.tup (xs.drop 1).reverse))
theorem pe_back {X : Cx} {e : Expr} {te : TE} {k k0 : Nat} {p0 p1 p2 p3 pos : Pos} (he : PE X e te) : PE X (.Subscript e (.Slice none (some (.Constant (.int 0) k0 p0)) (some (.UnaryOp .USub (.Constant (.int 1) k p1) p2)) p3) pos) (tBack X.K te) := by
  refine ⟨fun pins s σ H Q I h => ?_⟩
  refine Subscript_ (thn (he.run pins s σ H _ I h) fun v s1 ⟨x, H1, I1, r1, q1⟩ => ?_)
  obtain ⟨a, xs, ex, hx, hn, q⟩ := q1
  subst ex
  cases r1
  have hup : PO X (some (.Constant (.int 0) k0 p0)) (tPart (tC (.int 0))) := po_some pe_int
  have hst : PO X (some (.UnaryOp .USub (.Constant (.int 1) k p1) p2)) (tPart (tUn (rU fun i => .int (-i)) (tC (.int 1)))) := po_some (pe_un un_neg pe_int)
  refine wpAny_Slice (thn (po_none.run pins s1 σ H1 (fun o H2 => o = none ∧ H2 = H1) I1 ⟨rfl, rfl⟩) fun vl s2 ⟨l, H2, I2, pl, el, e2⟩ => ?_)
  subst el e2
  refine thn (hup.run pins s2 σ H2 (fun o H3 => o = some 0 ∧ H3 = H2) I2 ⟨0, rfl, rfl, rfl⟩) fun vu s3 ⟨u, H3, I3, pu, eu, e3⟩ => ?_
  subst eu e3
  refine thn (hst.run pins s3 σ H3 (fun o H4 => o = some (-1) ∧ H4 = H3) I3 ⟨1, rfl, -1, rfl, rfl, rfl⟩) fun vs s4 ⟨o, H4, I4, ps, eo, e4⟩ => ?_
  subst eo e4
  cases pl
  have I5 : Inv X pins σ H4 { s4 with heap := s4.heap.push { cls := .type "slice", data := .fields #[.none, vu, vs] } } := I4.kept (t' := s4.toks) fun b ob q => Heap.get?_push_of_some _ q
  obtain ⟨its, r, ht, hz⟩ := I5.tuple hx
  have hlen := r.length
  show wpAny (model X.prog X.w) X.A (subscriptTail e (.Slice none (some (.Constant (.int 0) k0 p0)) (some (.UnaryOp .USub (.Constant (.int 1) k p1) p2)) p3) (.ref a) (.ref s4.heap.objs.size)) (EP X pins σ Q) X.xe { s4 with heap := s4.heap.push { cls := .type "slice", data := .fields #[.none, vu, vs] } }
  refine tail_any (ops := [.ref a, .ref s4.heap.objs.size]) ht.typeIs (PyProof.Rows.slot_tuple_getitem.lookup) ?_ (by with_unfolding_all rfl)
  refine getItem_tuple_back ht (Heap.IsSliceOf.new _ .none vu vs) pu ps (by rw [List.size_toArray]; omega) ?_ (by rw [List.size_toArray]; omega)
  refine ⟨.ref _, _, I5.laid (t' := s4.toks) (o := .tup (xs.drop 1).reverse) (fun b ob q => Heap.get?_push_of_some _ q) (Nat.le_refl _) ?_, rfl, q _ (I5.hok.fresh (Nat.le_refl _))⟩
  exact ⟨by rw [List.length_reverse, List.length_drop]; omega, _, (r.drop 1).reverse, IsTup.new _ _⟩
end Fm
set_option maxRecDepth 100000
set_option maxHeartbeats 2000000
/-! Fm: terms and what is in them, as trees. -/
namespace Fm
open PySem PySem.Spec PyProof.Rows L2
mutual
/-- a term and each part in it, from left to right -/
def flat : D → List D
  | .tup ds => .tup ds :: flatT ds
  | d => [d]
def flatT : List D → List D
  | [] => []
  | _ :: r => flats r
def flats : List D → List D
  | [] => []
  | d :: r => flat d ++ flats r
end
theorem flats_app (a b : List D) : flats (a ++ b) = flats a ++ flats b := by
  induction a with
  | nil => simp [flats]
  | cons x r ih => simp only [List.cons_append, flats, ih, List.append_assoc]
mutual
theorem flat_len : ∀ d : D, (flat d).length ≤ d.size
  | .non => by simp [flat, D.size]
  | .bl _ => by simp [flat, D.size]
  | .int _ => by simp [flat, D.size]
  | .str _ => by simp [flat, D.size]
  | .dic => by simp [flat, D.size]
  | .lst _ => by simp [flat, D.size]
  | .tup ds => by
    have := flatT_len ds
    simp only [flat, D.size, List.length_cons]
    omega
theorem flatT_len : ∀ ds : List D, (flatT ds).length ≤ sizes ds
  | [] => by simp [flatT]
  | x :: r => by
    have := flats_len r
    simp only [flatT, sizes]
    omega
theorem flats_len : ∀ ds : List D, (flats ds).length ≤ sizes ds
  | [] => by simp [flats]
  | x :: r => by
    have h1 := flat_len x
    have h2 := flats_len r
    simp only [flats, sizes, List.length_append]
    omega
end
theorem DvL.rev {H : Hp} {vs : List V} {ds : List D} (h : DvL H vs ds) : DvL H vs.reverse ds.reverse := by
  induction vs generalizing ds with
  | nil => cases h; exact .nil
  | cons v r ih =>
    cases h with
    | cons a b =>
      rw [List.reverse_cons, List.reverse_cons]
      exact (ih b).app (.cons a .nil)
theorem sizes_rev (ds : List D) : sizes ds.reverse = sizes ds := by
  induction ds with
  | nil => rfl
  | cons x r ih => rw [List.reverse_cons, sizes_app, ih]; simp only [sizes]; omega
theorem hu1 {k : Nat} {A : Around} (hr : Room k A) : A.units + 1 < cLine := by have := hr.units; omega
theorem hu0 {k : Nat} {A : Around} (hr : Room k A) : A.units < cLine := by have := hr.units; omega
/-- laid_out: what is told stands where the terms stand -/
def spLaid (K : PySem.W.Frag) : Sp := fun vs H Q _ => ∃ Hb a us ds, vs = [.ref a] ∧ Same Hb H ∧ (SqL K H a us ∨ SqT K H a us) ∧ DvL Hb us ds ∧ (∀ d ∈ ds, Tm d) ∧ sizes ds ≤ 100000 ∧
  ∀ l H' ws, Same H H' → H l = none → H' l = some (.lst ws) → DvL Hb ws (flats ds) → Q (.ref l) H'

/-! ### nodes -/
def parts : D → List D
  | .tup (_ :: r) => r
  | _ => []
theorem flat_eq (d : D) : flat d = d :: flats (parts d) := by
  cases d with
  | tup ds => cases ds <;> simp [flat, flatT, parts, flats]
  | _ => simp [flat, parts, flats]
theorem flats_cons (d : D) (ds : List D) : flats (d :: ds) = d :: flats (parts d ++ ds) := by
  rw [flats_app]
  simp only [flats, flat_eq d, List.cons_append]
theorem flats_split {t : D} {suf : List D} : ∀ {pre ds : List D}, flats ds = pre ++ t :: suf → ∃ rest, suf = flats (parts t ++ rest)
  | [], [], h => by simp [flats] at h
  | [], d :: r, h => by
    rw [flats_cons, List.nil_append] at h
    injection h with h1 h2
    subst h1
    exact ⟨r, h2.symm⟩
  | p :: pre, [], h => by simp [flats] at h
  | p :: pre, d :: r, h => by
    rw [flats_cons, List.cons_append] at h
    injection h with h1 h2
    exact flats_split h2
theorem flats_inj : ∀ {es fs : List D}, flats es = flats fs → es = fs
  | [], [], _ => rfl
  | [], f :: fs, h => by rw [flats_cons] at h; simp [flats] at h
  | e :: es, [], h => by rw [flats_cons] at h; simp [flats] at h
  | e :: es, f :: fs, h => by
    rw [flats_cons, flats_cons] at h
    injection h with h1 h2
    subst h1
    rw [flats_app, flats_app] at h2
    rw [flats_inj (List.append_cancel_left h2)]
/-- the terms at these places -/
inductive Ats (ts : List D) : List Nat → List D → Prop
  | nil : Ats ts [] []
  | cons {j : Nat} {d : D} {js : List Nat} {ds : List D} : ts[j]? = some d → Ats ts js ds → Ats ts (j :: js) (d :: ds)
theorem Ats.len {ts : List D} {js : List Nat} {ds : List D} (h : Ats ts js ds) : js.length = ds.length := by
  induction h with
  | nil => rfl
  | cons _ _ ih => simp [ih]
theorem Ats.app {ts : List D} {js ks : List Nat} {ds es : List D} (h : Ats ts js ds) (g : Ats ts ks es) : Ats ts (js ++ ks) (ds ++ es) := by
  induction h with
  | nil => exact g
  | cons a _ ih => exact .cons a ih
theorem Ats.mono {ts us : List D} {js : List Nat} {ds : List D} (h : Ats ts js ds) (k : ∀ (j : Nat) (d : D), ts[j]? = some d → us[j]? = some d) : Ats us js ds := by
  induction h with
  | nil => exact .nil
  | cons a _ ih => exact .cons (k _ _ a) ih
theorem Ats.split {ts : List D} {js : List Nat} {ds es : List D} (h : Ats ts js (ds ++ es)) : Ats ts (js.take ds.length) ds ∧ Ats ts (js.drop ds.length) es := by
  induction ds generalizing js with
  | nil => exact ⟨.nil, h⟩
  | cons d r ih =>
    cases h with
    | cons a b => exact ⟨.cons a (ih b).1, (ih b).2⟩
theorem Ats.same {ts us : List D} {js : List Nat} {ds es : List D} (h : Ats ts js ds) (g : Ats us js es) (k : ∀ (j : Nat) (d : D), ts[j]? = some d → us[j]? = some d) : ds = es := by
  induction h generalizing es with
  | nil => cases g; rfl
  | cons a _ ih =>
    cases g with
    | cons b c =>
      rw [k _ _ a] at b
      injection b with b
      rw [b, ih c]
theorem Ats.inj {ts : List D} (nd : ts.Nodup) {js ks : List Nat} {ds : List D} (h : Ats ts js ds) (g : Ats ts ks ds) : js = ks := by
  induction h generalizing ks with
  | nil => cases g; rfl
  | cons a _ ih =>
    cases g with
    | cons b c =>
      rw [(List.getElem?_inj (List.getElem?_eq_some_iff.mp a).1 nd).mp (a.trans b.symm), ih c]
theorem Ats.get {ts : List D} {js : List Nat} {ds : List D} (h : Ats ts js ds) {i j : Nat} (e : js[i]? = some j) : ∃ d, ds[i]? = some d ∧ ts[j]? = some d := by
  induction h generalizing i with
  | nil => simp at e
  | cons a _ ih =>
    cases i with
    | zero => simp at e; subst e; exact ⟨_, rfl, a⟩
    | succ i =>
      obtain ⟨d, h1, h2⟩ := ih (i := i) (by simpa using e)
      exact ⟨d, by simpa using h1, h2⟩
def kI (j : Nat) : L2.Key := .inl (j : Int)
/-- the key of a term's node -/
inductive KeyOf (ts : List D) : List L2.Key → D → Prop
  | int (u : Int) : KeyOf ts [.inl u] (.int u)
  | tup (x : Str) (js : List Nat) (ds : List D) : PyData.strOk x = true → ds.length ≤ 100000 → Ats ts js ds → KeyOf ts (.inr x :: js.map kI) (.tup (.str x :: ds))
theorem keys_inj {js ks : List Nat} (h : js.map kI = ks.map kI) : js = ks := by
  refine (List.map_inj_right (f := kI) ?_).mp h
  intro a b e
  have := Sum.inl.inj e
  omega
theorem KeyOf.mono {ts us : List D} {k : List L2.Key} {d : D} (h : KeyOf ts k d) (m : ∀ (j : Nat) (d : D), ts[j]? = some d → us[j]? = some d) : KeyOf us k d := by
  cases h with
  | int u => exact .int u
  | tup x js ds o z a => exact .tup x js ds o z (a.mono m)
theorem KeyOf.fn {ts : List D} {k : List L2.Key} {d e : D} (h : KeyOf ts k d) (g : KeyOf ts k e) : d = e := by
  cases h with
  | int u => cases g; rfl
  | tup x js ds _ _ a =>
    generalize hk : ((Sum.inr x : L2.Key) :: js.map kI) = k' at g
    cases g with
    | int u => simp at hk
    | tup y ks es _ _ b =>
      injection hk with h1 h2
      injection h1 with h1
      have h3 := keys_inj h2
      subst h1 h3
      rw [a.same b (fun _ _ e => e)]
theorem KeyOf.inj {ts : List D} (nd : ts.Nodup) {k l : List L2.Key} {d : D} (h : KeyOf ts k d) (g : KeyOf ts l d) : k = l := by
  cases h with
  | int u => cases g; rfl
  | tup x js ds _ _ a =>
    cases g with
    | tup _ ks _ _ _ b => rw [a.inj nd b]
theorem take_get {ts : List D} {n j : Nat} {d : D} (h : (ts.take n)[j]? = some d) : ts[j]? = some d := by
  rw [List.getElem?_take] at h
  split at h
  · exact h
  · cases h
theorem app_get {ts us : List D} {j : Nat} {d : D} (h : ts[j]? = some d) : (ts ++ us)[j]? = some d := by
  rw [List.getElem?_append_left (List.getElem?_eq_some_iff.mp h).1]
  exact h
/-- a dict's entries are the nodes of these terms -/
structure NodesK (kvs : List (List L2.Key × V)) (ts : List D) : Prop where
  len : kvs.length = ts.length
  val : ∀ (n : Nat) (k : List L2.Key) (v : V), kvs[n]? = some (k, v) → v = .int (n : Int)
  key : ∀ (n : Nat) (k : List L2.Key) (v : V) (d : D), kvs[n]? = some (k, v) → ts[n]? = some d → KeyOf (ts.take n) k d
  nd : ts.Nodup
theorem valV_at {kvs : List (List L2.Key × V)} {k : List L2.Key} {v : V} (h : valV kvs k = some v) : ∃ n : Nat, kvs[n]? = some (k, v) := by
  unfold valV at h
  obtain ⟨⟨k', v'⟩, h1, h2⟩ := Option.map_eq_some_iff.mp h
  have h3 := List.find?_some h1
  simp only [decide_eq_true_eq] at h3 h2
  subst h3 h2
  exact List.mem_iff_getElem?.mp (List.mem_of_find?_eq_some h1)
theorem valV_none {kvs : List (List L2.Key × V)} {k : List L2.Key} (h : valV kvs k = none) {n : Nat} {v : V} : kvs[n]? ≠ some (k, v) := by
  intro e
  unfold valV at h
  rw [Option.map_eq_none_iff, List.find?_eq_none] at h
  have := h _ (List.mem_of_getElem? e)
  simp at this
theorem NodesK.nil : NodesK [] [] := ⟨rfl, fun _ _ _ h => by simp at h, fun _ _ _ _ h => by simp at h, List.nodup_nil⟩
theorem NodesK.old {kvs : List (List L2.Key × V)} {ts : List D} {k : List L2.Key} {v : V} {d : D} (N : NodesK kvs ts) (g : KeyOf ts k d) (h : valV kvs k = some v) : ∃ n : Nat, v = .int (n : Int) ∧ ts[n]? = some d := by
  obtain ⟨n, e⟩ := valV_at h
  have lt : n < ts.length := by
    have := (List.getElem?_eq_some_iff.mp e).1
    rw [N.len] at this
    exact this
  refine ⟨n, N.val _ _ _ e, ?_⟩
  have e2 : ts[n]? = some ts[n] := List.getElem?_eq_getElem lt
  have := (N.key _ _ _ _ e e2).mono (fun _ _ => take_get)
  rw [g.fn this]
  exact e2
theorem NodesK.new {kvs : List (List L2.Key × V)} {ts : List D} {k : List L2.Key} {d : D} (N : NodesK kvs ts) (g : KeyOf ts k d) (h : valV kvs k = none) : NodesK (kvs ++ [(k, .int (kvs.length : Int))]) (ts ++ [d]) := by
  have hd : d ∉ ts := by
    intro hm
    obtain ⟨n, e⟩ := List.mem_iff_getElem?.mp hm
    have lt : n < kvs.length := by
      rw [N.len]
      exact (List.getElem?_eq_some_iff.mp e).1
    have e2 : kvs[n]? = some (kvs[n].1, kvs[n].2) := List.getElem?_eq_getElem lt
    have g2 := (N.key _ _ _ _ e2 e).mono (fun _ _ => take_get)
    rw [g.inj N.nd g2] at h
    exact valV_none h e2
  refine ⟨by simp [N.len], ?_, ?_, ?_⟩
  · intro n k' v e
    by_cases lt : n < kvs.length
    · rw [List.getElem?_append_left lt] at e
      exact N.val _ _ _ e
    · rw [List.getElem?_append_right (by omega)] at e
      have : n - kvs.length = 0 := by
        have := (List.getElem?_eq_some_iff.mp e).1
        simp at this
        omega
      rw [this] at e
      simp at e
      rw [← e.2, show n = kvs.length by omega]
  · intro n k' v d' e f
    by_cases lt : n < kvs.length
    · rw [List.getElem?_append_left lt] at e
      rw [List.getElem?_append_left (by rw [← N.len]; exact lt)] at f
      rw [List.take_append_of_le_length (by rw [← N.len]; omega)]
      exact N.key _ _ _ _ e f
    · rw [List.getElem?_append_right (by omega)] at e
      rw [List.getElem?_append_right (by rw [← N.len]; omega)] at f
      have z : n - kvs.length = 0 := by
        have := (List.getElem?_eq_some_iff.mp e).1
        simp at this
        omega
      have z2 : n - ts.length = 0 := by rw [← N.len]; exact z
      rw [z] at e
      rw [z2] at f
      simp at e f
      rw [← e.1, ← f, show n = ts.length by rw [← N.len]; omega, List.take_left]
      exact g
  · rw [List.nodup_append]
    refine ⟨N.nd, by simp, ?_⟩
    intro a ha b hb
    simp at hb
    subst hb
    rintro rfl
    exact hd ha
/-- these tuples are the nodes of these terms -/
structure Nodes (H : Hp) (bs : List Addr) (ts : List D) : Prop where
  len : bs.length = ts.length
  node : ∀ (n : Nat) (b : Addr) (d : D), bs[n]? = some b → ts[n]? = some d → ∃ k, H b = some (.tup (k.map kV)) ∧ KeyOf (ts.take n) k d
  nd : ts.Nodup
theorem Nodes.same {H H' : Hp} {bs : List Addr} {ts : List D} (N : Nodes H bs ts) (k : Same H H') : Nodes H' bs ts :=
  ⟨N.len, fun n b d e f => let ⟨c, h1, h2⟩ := N.node n b d e f; ⟨c, k _ _ h1, h2⟩, N.nd⟩
theorem paired_get {α β : Type} {R : α → β → Prop} : ∀ {xs : List α} {ys : List β}, Paired R xs ys → ∀ (n : Nat) (y : β), ys[n]? = some y → ∃ x, xs[n]? = some x ∧ R x y
  | _, _, .nil, n, y, h => by simp at h
  | _, _, .cons a b, 0, y, h => by simp at h; subst h; exact ⟨_, rfl, a⟩
  | _, _, .cons a b, n + 1, y, h => by
    obtain ⟨x, h1, h2⟩ := paired_get b n y (by simpa using h)
    exact ⟨x, by simpa using h1, h2⟩
theorem NodesK.nodes {H : Hp} {kvs : List (List L2.Key × V)} {ts : List D} {bs : List Addr} (N : NodesK kvs ts) (h : IsKeys H kvs bs) : Nodes H bs ts := by
  refine ⟨by rw [← Paired.length h, N.len], fun n b d e f => ?_, N.nd⟩
  obtain ⟨⟨k, v⟩, h1, h2⟩ := paired_get h n b e
  exact ⟨k, h2, N.key _ _ _ _ h1 f⟩
theorem len_flats (ds : List D) : ds.length ≤ (flats ds).length := by
  induction ds with
  | nil => simp
  | cons d r ih =>
    rw [flats_cons, List.length_cons, List.length_cons, flats_app, List.length_append]
    omega
theorem flats_tm_go : ∀ (n : Nat) (ds : List D), (flats ds).length ≤ n → (∀ d ∈ ds, Tm d) → ∀ d ∈ flats ds, Tm d
  | _, [], _, _, d, h => by simp [flats] at h
  | 0, d :: r, hn, _, _, _ => by rw [flats_cons] at hn; simp at hn
  | n + 1, d :: r, hn, hm, e, he => by
    rw [flats_cons] at hn he
    rw [List.length_cons] at hn
    rcases List.mem_cons.mp he with rfl | he
    · exact hm _ List.mem_cons_self
    · refine flats_tm_go n _ (by omega) (fun f hf => ?_) e he
      rcases List.mem_append.mp hf with h | h
      · have := hm d List.mem_cons_self
        cases this with
        | int i => simp [parts] at h
        | tup x rs hr => exact hr f h
      · exact hm f (List.mem_cons_of_mem _ h)
theorem flats_tm {ds : List D} (h : ∀ d ∈ ds, Tm d) : ∀ d ∈ flats ds, Tm d := flats_tm_go _ ds (Nat.le_refl _) h
def vI (j : Nat) : V := .int (j : Int)
theorem pop_rev {js : List Nat} {j : Nat} (h : j < js.length) : ((js.drop j).reverse.map vI)[((js.drop j).reverse.map vI).length - 1]? = some (vI js[j]) ∧ ((js.drop j).reverse.map vI).dropLast = (js.drop (j + 1)).reverse.map vI := by
  rw [List.drop_eq_getElem_cons h, List.reverse_cons, List.map_append, List.map_singleton]
  refine ⟨?_, List.dropLast_concat⟩
  rw [List.length_append, List.length_singleton, Nat.add_sub_cancel, List.getElem?_append_right (Nat.le_refl _), Nat.sub_self]
  rfl
theorem kV_kI (js : List Nat) : (js.map kI).map kV = js.map vI := by
  rw [List.map_map]
  rfl
/-- shared -/
def spShared (K : PySem.W.Frag) : Sp := fun vs H Q _ => ∃ a us ds, vs = [.ref a] ∧ (SqL K H a us ∨ SqT K H a us) ∧ DvL H us ds ∧ (∀ d ∈ ds, Tm d) ∧ sizes ds ≤ 100000 ∧
  ∀ (p l1 l2 : Addr) (H' : Hp) (bs : List Addr) (ts : List D) (js : List Nat), Same H H' → H' p = some (.tup [.ref l1, .ref l2]) → H' l1 = some (.lst (bs.map V.ref)) → H' l2 = some (.lst (js.map vI)) → Nodes H' bs ts → Ats ts js ds → ts.length ≤ 100000 → (∀ t ∈ ts, t ∈ flats ds) → js.length ≤ 100000 → Q (.ref p) H'

/-! ### values put in -/
mutual
/-- the term in which each unknown is replaced -/
def putD (f : Int → D) : D → D
  | .int u => f u
  | .tup ds => .tup (putT f ds)
  | d => d
def putT (f : Int → D) : List D → List D
  | [] => []
  | x :: r => x :: puts f r
def puts (f : Int → D) : List D → List D
  | [] => []
  | d :: r => putD f d :: puts f r
end
theorem puts_map (f : Int → D) (ds : List D) : puts f ds = ds.map (putD f) := by
  induction ds with
  | nil => rfl
  | cons d r ih => rw [List.map_cons, puts, ih]
/-- values[u] -/
def Look (K : PySem.W.Frag) (H : Hp) (va : V) (u : Int) (v : V) : Prop := (∃ a xs, va = .ref a ∧ (SqL K H a xs ∨ SqT K H a xs) ∧ atI xs u = some v) ∨ ∃ a kvs, va = .ref a ∧ H a = some (.dK kvs) ∧ valV kvs (.inl u) = some v
theorem Look.same {K : PySem.W.Frag} {H H' : Hp} {va v : V} {u : Int} (h : Look K H va u v) (k : Same H H') : Look K H' va u v := by
  rcases h with ⟨a, xs, e, s, g⟩ | ⟨a, kvs, e, s, g⟩
  · exact .inl ⟨a, xs, e, s.imp (Evl.ex_l k) (Evl.ex_t k), g⟩
  · exact .inr ⟨a, kvs, e, k _ _ s, g⟩
section
variable {X : Cx} {e : Expr}
theorem pe_alt {t1 t2 : TE} (h1 : PE X e t1) (h2 : PE X e t2) : PE X e (fun σ H Q => t1 σ H Q ∨ t2 σ H Q) :=
  ⟨fun pins s σ H Q I h => h.elim (h1.run pins s σ H Q I) (h2.run pins s σ H Q I)⟩
end
theorem mon_ixT {K : PySem.W.Frag} {i : Nat} {y : V} : MonE (tOp (rIxT K) (tVar i) (tC y)) := by
  rintro σ H Q Q' k ⟨v, e, p, xs, j, z, h1, h2, h3, h4, q⟩
  exact ⟨v, e, p, xs, j, z, h1, h2, h3, h4, k _ _ q⟩
theorem DvL.map {H : Hp} {α : Type} {f : α → V} {g : α → D} : ∀ {as : List α}, (∀ a ∈ as, Dv H (f a) (g a)) → DvL H (as.map f) (as.map g)
  | [], _ => .nil
  | a :: r, h => .cons (h a List.mem_cons_self) (DvL.map fun b hb => h b (List.mem_cons_of_mem _ hb))
theorem DvL.snoc {H : Hp} {vs : List V} {ds : List D} {v : V} {d : D} (h : DvL H vs ds) (g : Dv H v d) : DvL H (vs ++ [v]) (ds ++ [d]) := h.app (.cons g .nil)
theorem dvl_ints {H : Hp} (js : List Nat) : DvL H (js.map vI) (js.map fun j : Nat => D.int (j : Int)) := DvL.map fun _ _ => .int _
/-- what is made of the terms at these places -/
def atV (mv : List V) : D → V
  | .int j => mv.getD j.toNat .non
  | _ => .non
theorem atV_get {mv : List V} {j : Nat} (h : j < mv.length) : mv[j]? = some (atV mv (.int (j : Int))) := by
  show mv[j]? = some (mv.getD (j : Int).toNat .non)
  rw [Int.toNat_natCast, List.getD_eq_getElem?_getD, List.getElem?_eq_getElem h]
  rfl
theorem made_parts {H : Hp} {ts : List D} {i : Nat} {f : Int → D} {mv : List V} (hm : DvL H mv ((ts.take i).map (putD f))) {js : List Nat} {ds : List D} (h : Ats (ts.take i) js ds) :
    DvL H ((js.map fun j : Nat => D.int (j : Int)).map (atV mv)) (puts f ds) := by
  induction h with
  | nil => exact .nil
  | @cons j d js ds a _ ih =>
    have e : ((ts.take i).map (putD f))[j]? = some (putD f d) := by rw [List.getElem?_map, a]; rfl
    obtain ⟨v, e1, e2⟩ := hm.getD e
    have lt := (List.getElem?_eq_some_iff.mp e1).1
    have e3 := atV_get lt
    rw [e1] at e3
    injection e3 with e3
    refine .cons ?_ ih
    show Dv H (atV mv (.int (j : Int))) (putD f d)
    rw [← e3]
    exact e2
/-- filled -/
def spFilled (K : PySem.W.Frag) : Sp := fun vs H Q _ => ∃ (l : Addr) (va : V) (bs : List Addr) (ts : List D) (f : Int → D), vs = [.ref l, va] ∧ H l = some (.lst (bs.map V.ref)) ∧ Nodes H bs ts ∧ ts.length ≤ 100000 ∧
  (∀ u, D.int u ∈ ts → ∃ v, Look K H va u v ∧ Dv H v (f u)) ∧ ∀ (m : Addr) (H' : Hp) (ws : List V), Same H H' → H' m = some (.lst ws) → DvL H' ws (ts.map (putD f)) → Q (.ref m) H'
theorem same_mask {H H' : Hp} {m : Addr} (k : Same H H') (h : H m = none) : Same H (mask m H') := fun a o e => by
  rw [mask_ne (ne_of_none e h)]
  exact k _ _ e
theorem mask_same2 {H H' : Hp} {m : Addr} (k : Same H H') : Same (mask m H) (mask m H') := fun a o e => by
  by_cases z : a = m
  · rw [z] at e
    simp [mask] at e
  · rw [mask_ne z] at e ⊢
    exact k _ _ e
theorem ats_sub {ts : List D} {js : List Nat} {ds : List D} (h : Ats ts js ds) : ∀ j ∈ js, j < ts.length := by
  induction h with
  | nil => exact fun _ h => by cases h
  | cons a _ ih =>
    intro j hj
    rcases List.mem_cons.mp hj with rfl | hj
    · exact (List.getElem?_eq_some_iff.mp a).1
    · exact ih j hj
/-- put_all -/
def spPutAll (K : PySem.W.Frag) : Sp := fun vs H Q _ => ∃ (a : Addr) (va : V) (us : List V) (ds : List D) (f : Int → D), vs = [.ref a, va] ∧ (SqL K H a us ∨ SqT K H a us) ∧ DvL H us ds ∧ (∀ d ∈ ds, Tm d) ∧ sizes ds ≤ 100000 ∧
  (∀ u, D.int u ∈ flats ds → ∃ v, Look K H va u v ∧ Dv H v (f u)) ∧ ∀ (m : Addr) (H' : Hp) (ws : List V), Same H H' → H m = none → H' m = some (.lst ws) → DvL (mask m H') ws (puts f ds) → Q (.ref m) H'
/-- put -/
def spPut (K : PySem.W.Frag) : Sp := fun vs H Q _ => ∃ (v va : V) (d : D) (f : Int → D), vs = [v, va] ∧ Dv H v d ∧ Tm d ∧ d.size ≤ 100000 ∧
  (∀ u, D.int u ∈ flat d → ∃ v, Look K H va u v ∧ Dv H v (f u)) ∧ ∀ (v' : V) (H' : Hp), Same H H' → Dv H' v' (putD f d) → Q v' H'
/-- how many operations -/
def opsOf (ds : List D) : Nat := ((flats ds).filter isT).length
def spSize (K : PySem.W.Frag) : Sp := fun vs H Q _ => ∃ a us ds, vs = [.ref a] ∧ (SqL K H a us ∨ SqT K H a us) ∧ DvL H us ds ∧ (∀ d ∈ ds, Tm d) ∧ sizes ds ≤ 100000 ∧ ∀ H', Same H H' → Q (.int (opsOf ds : Nat)) H'
def atVV (mv : List V) : V → V
  | .int j => mv.getD j.toNat .non
  | _ => .non
theorem atVV_map (mv : List V) (js : List Nat) : (js.map vI).map (atVV mv) = (js.map fun j : Nat => D.int (j : Int)).map (atV mv) := by
  rw [List.map_map, List.map_map]
  rfl
theorem atVV_get {mv : List V} {j : Nat} (h : j < mv.length) : mv[j]? = some (atVV mv (vI j)) := atV_get h
/-- [x for x in xs if keep(x)] over a list of data -/
theorem lc_keep {K : PySem.W.Frag} {te : TE} {tt : TT} {σ : L2.St} {H Hb : Hp} {a : Addr} {xs : List V} {ds : List D} {j : Nat} {vs : List Nat} {Dl : Addr} {Qd : Hp → Prop} (keep : D → Bool) (hT : SqL K H a xs) (hd : DvL Hb xs ds) (hD : H Dl = none) (hz : xs.length ≤ 100000)
    (hw : ∀ x, wipe ((wipe σ vs).set j (some x)) vs = wipe σ vs)
    (he : ∀ (x : V) (d : D) (H' : Hp) (R : Bool → Hp → Prop), Same H H' → d ∈ ds → Dv Hb x d → R (keep d) H' → tt ((wipe σ vs).set j (some x)) H' R)
    (hv : ∀ (x : V) (H' : Hp) (R : VK), R x H' → te ((wipe σ vs).set j (some x)) H' R)
    (q : ∀ H' zs, Same H H' → H' Dl = some (.lst zs) → DvL Hb zs (ds.filter keep) → Qd H') :
    ∃ W : Nat → Nat → Hp → Prop, (∃ m, W 0 m (upd H Dl (.lst []))) ∧ ∀ i m H, W i m H → ((Itl K a).stop i H ∧ Qd H) ∨ ((Itl K a).go i H ∧ ∃ Nx : Hp → Prop, (∀ H', Nx H' → ∃ m', m' < m ∧ W (i + 1) m' H') ∧
      ∀ x H', (Itl K a).yld i H x H' → gName j x (wipe σ vs) H' fun σ2 H2 => wipe σ2 vs = wipe σ vs ∧ tt σ2 H2 fun b H3 => if b = true then te σ2 H3 fun y H4 => ∃ acc, H4 Dl = some (.lst acc) ∧ acc.length < sizeLine ∧ Nx (upd H4 Dl (.lst (acc ++ [y]))) else Nx H3) := by
  have hlen := hd.len
  refine lc_list (fun i H' => Same H H' ∧ ∃ zs, H' Dl = some (.lst zs) ∧ DvL Hb zs ((ds.take i).filter keep)) ⟨Same.new hD, [], upd_same, .nil⟩ (fun i H' _ h => Evl.ex_l h.1 hT) ?_ ?_
  · rintro i x H1 hx ⟨k, zs, hl, hz2⟩
    obtain ⟨d, e1, hd1⟩ := hd.get hx
    have zl := hz2.len
    have zl2 := List.length_filter_le keep (ds.take i)
    rw [List.length_take] at zl2
    refine ⟨hw _, he x d _ _ k (tk e1) hd1 (ite_b (fun c => ?_) (fun c => ?_))⟩
    · refine hv x H1 _ ⟨zs, hl, szl (by omega), Same.upd k hD, zs ++ [x], upd_same, ?_⟩
      rw [take_succ' e1, List.filter_append, List.filter_cons, if_pos c, List.filter_nil]
      exact hz2.snoc hd1
    · refine ⟨k, zs, hl, ?_⟩
      rw [take_succ' e1, List.filter_append, List.filter_cons, if_neg (by rw [c]; decide), List.filter_nil, List.append_nil]
      exact hz2
  · rintro H' ⟨k, zs, hl, hz2⟩
    have : ds.take xs.length = ds := List.take_of_length_le (by omega)
    rw [this] at hz2
    exact q H' zs k hl hz2

/-! ### unknowns in their order -/
def intOf : D → Option Int
  | .int u => some u
  | _ => none
/-- the unknowns of terms from left to right -/
def leaves (ds : List D) : List Int := (flats ds).filterMap intOf
def addI (us : List Int) (u : Int) : List Int := if u ∈ us then us else us ++ [u]
/-- the different ones, in the order of their first places -/
def firstsOf (ds : List D) : List Int := (leaves ds).foldl addI []
def ordK : List Int → Nat → List (L2.Key × V)
  | [], _ => []
  | u :: r, n => (.inl u, .int (n : Int)) :: ordK r (n + 1)
theorem ordK_len (us : List Int) (n : Nat) : (ordK us n).length = us.length := by
  induction us generalizing n with
  | nil => rfl
  | cons u r ih => simp [ordK, ih]
theorem ordK_app (us : List Int) (u : Int) (n : Nat) : ordK (us ++ [u]) n = ordK us n ++ [(.inl u, .int ((n + us.length : Nat) : Int))] := by
  induction us generalizing n with
  | nil => rfl
  | cons v r ih =>
    simp only [List.cons_append, ordK, ih, List.length_cons]
    congr 3
    simp only [List.cons.injEq, Prod.mk.injEq, true_and, and_true]
    congr 2
    omega
theorem ordK_val (us : List Int) (u : Int) (n : Nat) : valV (ordK us n) (.inl u) = if u ∈ us then some (.int ((n + us.idxOf u : Nat) : Int)) else none := by
  induction us generalizing n with
  | nil => rfl
  | cons v r ih =>
    by_cases e : v = u
    · subst e
      rw [ordK, valV_pos rfl, if_pos List.mem_cons_self, List.idxOf_cons_self]
      rfl
    · have e2 : ¬ ((Sum.inl v : L2.Key) = .inl u) := fun z => e (Sum.inl.inj z)
      rw [ordK, valV_neg e2, ih]
      have e3 : (u ∈ v :: r) ↔ u ∈ r := by simp [Ne.symm e]
      by_cases m : u ∈ r
      · have e4 : (v :: r).idxOf u = r.idxOf u + 1 := by
          rw [List.idxOf_cons, show (v == u) = false from by simpa using e]
          rfl
        rw [if_pos m, if_pos (e3.mpr m), e4]
        congr 3
        omega
      · rw [if_neg m, if_neg (fun z => m (e3.mp z))]
theorem addI_mem {us : List Int} {u v : Int} : v ∈ addI us u ↔ v ∈ us ∨ v = u := by
  unfold addI
  split
  · constructor
    · exact .inl
    · rintro (h | rfl)
      · exact h
      · assumption
  · simp
theorem foldl_addI_mem {ls us : List Int} {v : Int} : v ∈ ls.foldl addI us ↔ v ∈ us ∨ v ∈ ls := by
  induction ls generalizing us with
  | nil => simp
  | cons u r ih =>
    rw [List.foldl_cons, ih, addI_mem, List.mem_cons]
    constructor
    · rintro ((h | h) | h)
      · exact .inl h
      · exact .inr (.inl h)
      · exact .inr (.inr h)
    · rintro (h | h | h)
      · exact .inl (.inl h)
      · exact .inl (.inr h)
      · exact .inr h
theorem firstsOf_mem {ds : List D} {u : Int} : u ∈ firstsOf ds ↔ D.int u ∈ flats ds := by
  unfold firstsOf leaves
  rw [foldl_addI_mem]
  simp only [List.not_mem_nil, false_or, List.mem_filterMap]
  constructor
  · rintro ⟨d, h1, h2⟩
    cases d <;> simp [intOf] at h2
    subst h2
    exact h1
  · exact fun h => ⟨_, h, rfl⟩
theorem addI_len (us : List Int) (u : Int) : (addI us u).length ≤ us.length + 1 := by
  unfold addI
  split <;> simp
theorem foldl_addI_len (ls us : List Int) : (ls.foldl addI us).length ≤ us.length + ls.length := by
  induction ls generalizing us with
  | nil => simp
  | cons u r ih =>
    have h1 := ih (addI us u)
    have h2 := addI_len us u
    rw [List.foldl_cons, List.length_cons]
    omega
/-- the number of an unknown -/
def numF (ds : List D) (u : Int) : D := .int ((firstsOf ds).idxOf u : Nat)
def spNumbered (K : PySem.W.Frag) : Sp := fun vs H Q _ => ∃ (a : Addr) (us : List V) (ds : List D), vs = [.ref a] ∧ (SqL K H a us ∨ SqT K H a us) ∧ DvL H us ds ∧ (∀ d ∈ ds, Tm d) ∧ sizes ds ≤ 100000 ∧
  ∀ (m : Addr) (H' : Hp) (ws : List V), Same H H' → H m = none → H' m = some (.lst ws) → DvL (mask m H') ws (puts (numF ds) ds) → Q (.ref m) H'
end Fm
set_option maxRecDepth 100000
set_option maxHeartbeats 2000000
/-! Fm: set comprehensions over any kind of tracked sets; sets of ints. -/
namespace Fm
open PySem PySem.Spec PyProof.Rows L2 PpSet
/-- what a new set's object is -/
abbrev noSet (w : World) : Obj := { cls := .type "set", dict := none, data := .set #[] 0 (.fresh 0 0 (!w.params.followText "set-order")) }
/-- a kind of tracked sets: states, the empty one, what adding a value makes of a state -/
structure SetK' (P : Program) (w : World) (S : Type) where
  obj : Addr → S → HO
  init : S
  step : S → V → S → Prop
  fresh : ∀ (H : Hp) (h : Heap), ObjOk P w H (h.push (noSet w)) h.objs.size (obj h.objs.size init)
  add : ∀ (X : Cx), X.prog = P → X.w = w → ∀ {pins : List (Addr × Obj)} {σ : L2.St} {H : Hp} {s : Shared} {E : Value → Shared → Prop} {D : Addr} {a b : S} {y : V} {u : Value} {Q : Value → Shared → Prop}, Inv X pins σ H s → H D = some (obj D a) → RelV y u → step a y b →
    (∀ s', Inv X pins σ (upd H D (obj D b)) s' → Q .none s') → wpAny (model X.prog X.w) X.A (call (.builtin "set.add") [.ref D, u]) Q E s
section
variable {X : Cx} {S : Type}
/-- {elt for target in iter if ..}: D the new set, W by the turn and a measure -/
def tSetC (k : SetK' X.prog X.w S) (wi : TI) (g : TG) (tt : TT) (te : TE) (vs : List Nat) : TE := fun σ H Q => wi σ H fun J H1 => ∀ D, H1 D = none → ∃ W : Nat → Nat → Hp → Prop, (∃ m, W 0 m (upd H1 D (k.obj D k.init))) ∧ ∀ i m H, W i m H →
  (J.stop i H ∧ Q (.ref D) H) ∨ (J.go i H ∧ ∃ Nx : Hp → Prop, (∀ H', Nx H' → ∃ m', m' < m ∧ W (i + 1) m' H') ∧ ∀ x H', J.yld i H x H' → g x (wipe σ vs) H' fun σ2 H2 => wipe σ2 vs = wipe σ vs ∧ tt σ2 H2 fun b H3 =>
    if b = true then te σ2 H3 fun y H4 => ∃ a b, H4 D = some (k.obj D a) ∧ k.step a y b ∧ Nx (upd H4 D (k.obj D b)) else Nx H3)
theorem pe_setC (k : SetK' X.prog X.w S) {elt tg iter : Expr} {ifs : List Expr} {scope : Scope} {own : List (PySem.Str × Nat)} {pos : Pos} {wi : TI} {g : TG} {tt : TT} {te : TE} (hc : X.calm = true) (hN : X.N.Nodup) (hi : PI X tg iter wi) (ok : BlkOk X.N X.env.scope scope own)
    (hg : ∀ (s : Shared) (H : Hp) (C : Addr) (cl : List (PySem.Str × Addr)) (fp : List Addr), PG (X.blk s H scope (compEnvC scope cl C X.env) fp) tg g) (ht : ∀ (s : Shared) (H : Hp) (C : Addr) (cl : List (PySem.Str × Addr)) (fp : List Addr), PTs (X.blk s H scope (compEnvC scope cl C X.env) fp) ifs tt)
    (he : ∀ (s : Shared) (H : Hp) (C : Addr) (cl : List (PySem.Str × Addr)) (fp : List Addr), PE (X.blk s H scope (compEnvC scope cl C X.env) fp) elt te) (hs : ∀ x, foldedSetIterable iter X.env x = pure x := by intro _; rfl) :
    PE X (.SetComp elt [⟨tg, iter, ifs, 0⟩] scope pos) (tSetC k wi g tt te (own.map (·.2))) := by
  refine ⟨fun pins s σ H Q I h => ?_⟩
  rw [eval_SetComp]
  have free : ∀ y ∈ scope.names, y.2 = .free → ∃ c, X.env.cells.lookup y.1 = some c := fun y hy e => (ok.free y hy e).elim (fun z => I.ok.has _ (.inl z)) fun z => I.ok.has _ (.inr z)
  refine wpAny_comprehension_free rfl hs (closure_ok free) ok.kind (fun y hy e => by rw [ok.uniq y hy, e]) (thn (hi.run pins s σ H _ I h) fun xv s1 hx => thn hx fun itv s2 ⟨it, fp, tn, J, H2, e, I2, T, st2, f2, q⟩ => ?_)
  subst e
  refine newSet_ok (newEnv_comp ?_)
  -- the new set, at the end of the heap
  generalize hD : s2.heap.objs.size = D
  obtain ⟨W, ⟨m0, w0⟩, turn⟩ := q D (I2.hok.fresh (Nat.le_of_eq hD))
  generalize hs3 : ({ s2 with heap := s2.heap.push (noSet X.w) } : Shared) = s3
  have h3 : s3.heap = s2.heap.push (noSet X.w) := by rw [← hs3]
  have I3 : Inv X pins σ (upd H2 D (k.obj D k.init)) s3 := by
    rw [← hs3, ← hD]
    exact I2.laid (t' := s2.toks) (fun b o e => Heap.get?_push_of_some _ e) (Nat.le_refl _) (k.fresh _ _)
  have up : ∀ b o, s2.heap.get? b = some o → s3.heap.get? b = some o := fun b o e => by rw [h3]; exact Heap.get?_push_of_some _ e
  have f3 : ∀ b ∈ fp, FpOk X pins (upd H2 D (k.obj D k.init)) b ∧ b < s3.heap.objs.size := fun b hb => by
    obtain ⟨o, e, _⟩ := T.obj _ _ st2 b hb
    have lt : b < D := by rw [← hD]; exact Heap.lt_size e
    exact ⟨⟨by rw [upd_ne (Nat.ne_of_lt lt)]; exact (f2 b hb).1, (f2 b hb).2⟩, Heap.lt_size (up b o e)⟩
  have I4 := block_start I3 ok hN f3
  have pg := hg s3 (upd H2 D (k.obj D k.init)) s3.heap.objs.size (cellsFrom (s3.heap.objs.size + 1) scope.names (cloFrom X.env.cells scope.names [])) fp
  have pt := ht s3 (upd H2 D (k.obj D k.init)) s3.heap.objs.size (cellsFrom (s3.heap.objs.size + 1) scope.names (cloFrom X.env.cells scope.names [])) fp
  have pe := he s3 (upd H2 D (k.obj D k.init)) s3.heap.objs.size (cellsFrom (s3.heap.objs.size + 1) scope.names (cloFrom X.env.cells scope.names [])) fp
  have none3 : ∀ b ∈ fp, (upd H2 D (k.obj D k.init)) b = none := fun b hb => (f3 b hb).1.1
  show codeAny _ _ (.compStart (.SetComp elt [⟨tg, iter, ifs, 0⟩] scope pos) 0 (.ref it) (.ref D) (compEnvC scope (cellsFrom (s3.heap.objs.size + 1) scope.names (cloFrom X.env.cells scope.names [])) s3.heap.objs.size X.env)) _ { s3 with heap := pushCells (s3.heap.push { cls := .type "dict", data := .dict #[] }) scope.names }
  generalize hce : compEnvC scope (cellsFrom (s3.heap.objs.size + 1) scope.names (cloFrom X.env.cells scope.names [])) s3.heap.objs.size X.env = ce at I4 pg pt pe ⊢
  have cL : ce.locals = s3.heap.objs.size := by subst hce; rfl
  generalize hH3 : upd H2 D (k.obj D k.init) = H3 at I3 I4 pg pt pe w0 none3 f3
  generalize hs4 : ({ s3 with heap := pushCells (s3.heap.push { cls := .type "dict", data := .dict #[] }) scope.names } : Shared) = s4 at I4 ⊢
  have st4 : tn 0 s4.heap := T.keep _ _ _ (T.keep _ _ _ st2 fun b _ o e => up b o e) fun b _ o e => by rw [← hs4]; exact pushCells_keeps _ _ _ _ (Heap.get?_push_of_some _ e)
  have stat : ∀ {σ' : L2.St} {H' : Hp} {s' : Shared}, Inv (X.blk s3 H3 scope ce fp) [] σ' H' s' → (∀ b ∈ fp, H' b = none) → ∀ b ∈ fp, FpOk (X.blk s3 H3 scope ce fp) [] H' b := fun I' hn b hb =>
    ⟨hn b hb, (I'.ok.exf b hb).1, I'.ok.exfs b hb, .inl hb, fun x c e => (I'.ok.exf b hb).2 x c e, fun p hp => absurd (show p ∈ ([] : List (Addr × Obj)) ++ [] from hp) (by simp)⟩
  refine (fun loop => codeAny_compStart_set loop (T.self X.A 0 _ _ _ st4 loop)) ?_
  refine compLoopS_any (fun n s' => ∃ i H', Inv (X.blk s3 H3 scope ce fp) [] (wipe σ (own.map (·.2))) H' s' ∧ tn i s'.heap ∧ (∀ b ∈ fp, H' b = none) ∧ W i n H') ?_ m0 ⟨0, H3, I4, st4, none3, w0⟩
  rintro n s5 ⟨i, H5, I5, st5, n5, w5⟩
  rcases turn i n H5 w5 with ⟨stop, qq⟩ | ⟨go, Nx, hNx, step⟩
  · refine thnF (T.done (X.blk s3 H3 scope ce fp) rfl rfl rfl hc i [] s5 _ H5 (fun _ _ => False) I5 (stat I5 n5) st5 stop) fun r s6 ⟨hr, I6⟩ => ?_
    subst hr
    have I7 : Inv X pins σ H5 s6 := I3.call' (ch := fp) I6.os I6.base I6.hok I6.bare fun b hb => let z := (f3 b hb).1; ⟨z.2.2.2.1, z.2.1, z.2.2.2.2.1, z.2.2.2.2.2⟩
    have nC : H5 s3.heap.objs.size = none := by rw [← cL]; exact I6.free
    obtain ⟨m, hn, _⟩ := I6.loc
    have hn : s6.heap.Ns s3.heap.objs.size m := by rw [← cL]; exact hn
    refine ⟨m, hn, fun h'' sb => ?_⟩
    obtain ⟨f0, f1, f2', f3', f4, f5⟩ := I3.fpOk (H' := H5) (Nat.le_refl _) nC
    exact ⟨.ref D, H5, I7.turned (t' := s6.toks) (fun b o hb e => (sb.2 b hb).trans e) f0 f1 f3' f4 f5, rfl, qq⟩
  · refine thnF (T.item (X.blk s3 H3 scope ce fp) rfl rfl rfl hc i [] s5 _ H5 (fun _ _ => False) I5 (stat I5 n5) st5 go) fun r s6 ⟨u, hr, h6⟩ => ?_
    subst hr
    refine thnF h6 fun _ s7 ⟨x, H7, I7, r7, y7, st7, n7⟩ => ?_
    refine thnF (pg.run _ s7 _ H7 x u _ (I7.pinned (stat I7 n7) (T.obj _ _ st7)) r7 (step x H7 y7)) fun _ s8 ⟨σ8, H8, I8, hw8, q8⟩ => ?_
    refine thnF (pt.run _ s8 σ8 H8 _ I8 q8) fun b s9 ⟨H9, I9, q9⟩ => ?_
    have fin : ∀ {s' : Shared} {H' : Hp}, Inv (X.blk s3 H3 scope ce fp) ([] ++ pinsAt fp s7.heap) σ8 H' s' → Nx H' → ∃ m, m < n ∧ ∃ i H', Inv (X.blk s3 H3 scope ce fp) [] (wipe σ (own.map (·.2))) H' s' ∧ tn i s'.heap ∧ (∀ b ∈ fp, H' b = none) ∧ W i m H' := fun {s' H'} I' nx => by
      obtain ⟨m', hm, w'⟩ := hNx H' nx
      have pin' : ∀ b ∈ fp, ∀ o, s7.heap.get? b = some o → s'.heap.get? b = some o ∧ H' b = none := fun b hb o e =>
        let z := I'.pin (b, o) (List.mem_append_right _ (List.mem_append_right _ (mem_pinsAt hb e)))
        ⟨z.1, z.2.1⟩
      refine ⟨m', hm, i + 1, H', (I'.unpinned (pins := [])).weak (by rw [← hw8, wipe_length]) (fun j v e => ?_), T.keep _ _ _ st7 fun b hb o e => (pin' b hb o e).1, fun b hb => ?_, w'⟩
      · rw [← hw8] at e
        exact (wipe_some e).1
      · obtain ⟨o, e, _⟩ := T.obj _ _ st7 b hb
        exact (pin' b hb o e).2
    cases b with
    | false =>
      rw [if_neg (by decide)] at q9
      rw [if_neg (by decide)]
      exact fin I9 q9
    | true =>
      rw [if_pos rfl] at q9
      rw [if_pos rfl]
      refine thnF (pe.run _ s9 σ8 H9 _ I9 q9) fun z s10 ⟨yv, H10, I10, r10, a, b, hD10, hst, nx⟩ => ?_
      exact k.add (X.blk s3 H3 scope ce fp) rfl rfl I10 hD10 r10 hst fun s11 I11 => fin I11 nx
/-- sets of ints -/
def intSets (P : Program) (w : World) : SetK' P w ((Int → Bool) × Nat) where
  obj D a := SetO w D a.1 a.2
  init := (fun _ => false, 0)
  step a y b := ∃ c, y = .int c ∧ a.2 + 1 < scanBound ∧ b = (fun j => a.1 j || decide (j = c), if a.1 c = true then a.2 else a.2 + 1)
  fresh H h := setO_new (setR_fresh w)
  add := by
    rintro X rfl rfl pins σ H s E D ⟨S, n⟩ b y u Q I hD r ⟨c, rfl, room, rfl⟩ q
    obtain ⟨t, rfl⟩ := r
    refine setR_add (setO_get I hD) room fun h' sb new => ?_
    have he : ∃ u, h'.get? D = some u := by
      have ⟨o, _, _, _, ho, _⟩ := new
      exact ⟨o, ho⟩
    exact q _ (I.write (e := D) (t' := s.toks + 1) (by rw [hD]; trivial) (.inl rfl) (fun b u hb hu => (sb.2 b hb).trans hu) he (setO_new new))
end
section
variable {J : It} {n : Nat} {G : Hp → Prop} {Y : Nat → Hp → V → Hp → Prop} {P : Program} {w : World} {S : Type}
/-- a set comprehension over a walk -/
theorem setC_it (k : SetK' P w S) (wk : Walk J n G Y) {g : TG} {tt : TT} {te : TE} {vs : List Nat} {σ : L2.St} {H1 : Hp} {D : Addr} {Qd : Hp → Prop} (Pv : Nat → Hp → Prop) (h0 : Pv 0 (upd H1 D (k.obj D k.init))) (hG : ∀ i H, i ≤ n → Pv i H → G H)
    (hs : ∀ i x H H', i < n → Pv i H → Y i H x H' → g x (wipe σ vs) H' fun σ2 H2 => wipe σ2 vs = wipe σ vs ∧ tt σ2 H2 fun b H3 =>
      if b = true then te σ2 H3 fun y H4 => ∃ a b, H4 D = some (k.obj D a) ∧ k.step a y b ∧ Pv (i + 1) (upd H4 D (k.obj D b)) else Pv (i + 1) H3) (hd : ∀ H, Pv n H → Qd H) :
    ∃ W : Nat → Nat → Hp → Prop, (∃ m, W 0 m (upd H1 D (k.obj D k.init))) ∧ ∀ i m H, W i m H →
      (J.stop i H ∧ Qd H) ∨ (J.go i H ∧ ∃ Nx : Hp → Prop, (∀ H', Nx H' → ∃ m', m' < m ∧ W (i + 1) m' H') ∧ ∀ x H', J.yld i H x H' → g x (wipe σ vs) H' fun σ2 H2 => wipe σ2 vs = wipe σ vs ∧ tt σ2 H2 fun b H3 =>
        if b = true then te σ2 H3 fun y H4 => ∃ a b, H4 D = some (k.obj D a) ∧ k.step a y b ∧ Nx (upd H4 D (k.obj D b)) else Nx H3) := by
  refine ⟨fun i m H => m = n - i ∧ i ≤ n ∧ Pv i H, ⟨n, by simp, Nat.zero_le _, h0⟩, ?_⟩
  rintro i m H ⟨rfl, hi, p⟩
  have q := hG i H hi p
  by_cases hlt : i < n
  · exact .inr ⟨wk.goes i H hlt q, Pv (i + 1), fun H' p' => ⟨n - (i + 1), by omega, rfl, hlt, p'⟩, fun x H' y => hs i x H H' hlt p (wk.yields i H x H' hlt q y)⟩
  · have e : i = n := by omega
    subst e
    exact .inl ⟨wk.stops H q, hd H p⟩
end
/-- the state of a set of these ints -/
def setAt (us : List Int) : (Int → Bool) × Nat := (fun j => decide (j ∈ us), us.length)
theorem setAt_step {P : Program} {w : World} {us : List Int} {u : Int} (h : us.length + 1 < scanBound) : (intSets P w).step (setAt us) (.int u) (setAt (addI us u)) := by
  refine ⟨u, rfl, h, ?_⟩
  unfold setAt addI
  by_cases m : u ∈ us
  · rw [if_pos m]
    simp only [m, decide_true, if_true]
    refine Prod.ext ?_ rfl
    funext j
    by_cases e : j = u
    · subst e
      simp [m]
    · simp [e]
  · rw [if_neg m]
    simp only [m, decide_false, Bool.false_eq_true, if_false, List.length_append, List.length_singleton]
    refine Prod.ext ?_ rfl
    funext j
    simp
theorem foldl_addI_mono (ls us : List Int) : us.length ≤ (ls.foldl addI us).length := by
  induction ls generalizing us with
  | nil => exact Nat.le_refl _
  | cons u r ih =>
    refine Nat.le_trans ?_ (ih (addI us u))
    unfold addI
    split <;> simp
theorem firsts_take (ds : List D) (i : Nat) : ((((flats ds).take i).filterMap intOf).foldl addI []).length ≤ (firstsOf ds).length := by
  have e : leaves ds = ((flats ds).take i).filterMap intOf ++ ((flats ds).drop i).filterMap intOf := by
    rw [← List.filterMap_append, List.take_append_drop]
    rfl
  unfold firstsOf
  rw [e, List.foldl_append]
  exact foldl_addI_mono _ _
/-- unknowns -/
def spUnknowns (K : PySem.W.Frag) : Sp := fun vs H Q _ => ∃ (a : Addr) (us : List V) (ds : List D), vs = [.ref a] ∧ (SqL K H a us ∨ SqT K H a us) ∧ DvL H us ds ∧ (∀ d ∈ ds, Tm d) ∧ sizes ds ≤ 100000 ∧ (firstsOf ds).length < 64 ∧
  ∀ (p : Addr) (H' : Hp) (ns : List Int), Same H H' → H p = none → H' p = some (.lst (ns.map V.int)) → ns.Pairwise (· < ·) → (∀ k, k ∈ ns ↔ D.int k ∈ flats ds) → Q (.ref p) H'

/-! ### parts of a tuple -/
section
variable {K : PySem.W.Frag} {H : Hp} {a : Addr} {w0 : V} {wr : List V} {Q : VK}
/-- t[:1] -/
theorem first_one (h : H a = some (.tup (w0 :: wr))) (q : ∀ t1 H1, Same H H1 → H1 t1 = some (.tup [w0]) → (t1 = a ∨ H t1 = none) → Q (.ref t1) H1) : rSlA K (.ref a) none (some 1) H Q := by
  refine ⟨a, _, rfl, SqT.of h, fun z => ?_, fun _ p hp => ?_⟩
  · have z2 := z.2
    have e : HT.sIx (w0 :: wr).length (w0 :: wr).length (some 1) = min 1 (w0 :: wr).length := sIx_at (by decide)
    rw [e] at z2
    simp only [List.length_cons] at z2
    have : wr = [] := List.length_eq_zero_iff.mp (by omega)
    subst this
    exact q a H (Same.refl _) h (.inl rfl)
  · have e : cutV (w0 :: wr) none (some 1) = [w0] := by
      unfold cutV
      rw [sIx_at (by decide), sIx_none]
      simp
    rw [e]
    exact q p _ (Same.new hp) upd_same (.inr hp)
/-- t[1:] -/
theorem tail_one {σ : L2.St} (h : H a = some (.tup (w0 :: wr))) (q : ∀ p, H p = none → Q (.ref p) (upd H p (.tup wr))) : tNoPart σ H fun u H3 => rSlA K (.ref a) (some 1) u H3 Q := by
  show rSlA K (.ref a) (some 1) none H Q
  obtain ⟨u1, u2⟩ := cutV_one (w0 :: wr) (by simp)
  refine ⟨a, _, rfl, SqT.of h, fun z => absurd z u2, fun _ p hp => ?_⟩
  rw [u1]
  exact q p hp
/-- (x,) + t -/
theorem cat_one {t1 t2 : Addr} {ws : List V} (h1 : H t1 = some (.tup [w0])) (h2 : H t2 = some (.tup ws)) (hz : ws.length ≤ 100000) (q : ∀ tt H4, Same H H4 → H4 tt = some (.tup (w0 :: ws)) → (tt = t1 ∨ H tt = none) → Q (.ref tt) H4) : rCatA K (.ref t1) (.ref t2) H Q := by
  refine ⟨t1, t2, _, _, rfl, rfl, SqT.of h1, SqT.of h2, ?_, fun z => (by cases z), fun _ z => ?_, fun _ _ p hp => q p _ (Same.new hp) upd_same (.inr hp)⟩
  · simp only [List.length_cons, List.length_nil]
    exact sz (by omega)
  · subst z
    exact q t1 H (Same.refl _) h1 (.inl rfl)
end
section
variable {X : Cx} {tg e : Expr}
theorem pi_alt {w1 w2 : TI} (h1 : PI X tg e w1) (h2 : PI X tg e w2) : PI X tg e (fun σ H R => w1 σ H R ∨ w2 σ H R) :=
  ⟨fun pins s σ H R I h => h.elim (h1.run pins s σ H R I) (h2.run pins s σ H R I)⟩
end
theorem mem_flat_part {d : D} {x : Str} {rs : List D} {u : Int} (hd : d ∈ rs) (h : D.int u ∈ flat d) : D.int u ∈ flat (.tup (.str x :: rs)) := by
  have e : flat (.tup (.str x :: rs)) = .tup (.str x :: rs) :: flats rs := by simp [flat, flatT]
  rw [e]
  refine List.mem_cons_of_mem _ ?_
  induction rs with
  | nil => cases hd
  | cons c r ih =>
    simp only [flats, List.mem_append]
    rcases List.mem_cons.mp hd with rfl | hd
    · exact .inl h
    · exact .inr (ih hd (by simp [flat, flatT]))
/-- a heap and what is laid over it -/
def ovl (Hb N : Hp) : Hp := fun a => match Hb a with
  | some o => some o
  | none => N a
section
variable {Hb N N' H H' : Hp}
theorem ovl_base : Same Hb (ovl Hb N) := fun a o e => by
  unfold ovl
  rw [e]
theorem ovl_new {a : Addr} {o : HO} (h : Hb a = none) (e : N a = some o) : ovl Hb N a = some o := by
  unfold ovl
  rw [h]
  exact e
theorem ovl_mono (k : Same N N') : Same (ovl Hb N) (ovl Hb N') := fun a o e => by
  unfold ovl at e ⊢
  cases z : Hb a with
  | some u =>
    rw [z] at e
    exact e
  | none =>
    rw [z] at e
    exact k _ _ e
theorem ovl_sub (k : Same Hb H') (k2 : Same N H') : Same (ovl Hb N) H' := fun a o e => by
  unfold ovl at e
  cases z : Hb a with
  | some u =>
    rw [z] at e
    cases e
    exact k _ _ z
  | none =>
    rw [z] at e
    exact k2 _ _ e
end
theorem Same.none {H H' : Hp} {l : Addr} (k : Same H H') (h : H' l = none) : H l = none := by
  cases e : H l with
  | none => rfl
  | some o =>
    rw [k _ _ e] at h
    cases h
/-- _law_put: what is told stands in Hb and in what is new -/
def spLPut (K : PySem.W.Frag) (m : Nat) : Sp := fun vs H Q _ => ∃ (Hb : Hp) (v va : V) (d : D) (f : Int → D), vs = [v, va] ∧ Same Hb H ∧ Dv Hb v d ∧ Tm d ∧ d.deep < m ∧ d.size ≤ 100000 ∧
  (∀ u, D.int u ∈ flat d → ∃ v, Look K H va u v ∧ Dv Hb v (f u)) ∧ ∀ (v' : V) (H' : Hp), Same H H' → Dv (ovl Hb (newof H H')) v' (putD f d) → Q v' H'
/-- [f(x) for x in xs], each turn may leave new things and gives new data -/
theorem lc_newD {J : It} {G : Hp → Prop} {te : TE} {tt : TT} {σ : L2.St} {H Hb : Hp} {xs : List V} {ds : List D} {j : Nat} {vs : List Nat} {Dl : Addr} {Qd : Hp → Prop} (f : D → D) (wk : Walk J xs.length G (YAt xs)) (hG : ∀ H', Same H H' → G H') (hd : DvL Hb xs ds) (hD : H Dl = none) (hz : xs.length ≤ 100000)
    (hw : ∀ x, wipe ((wipe σ vs).set j (some x)) vs = wipe σ vs) (he : ∀ σ' H' (R : Bool → Hp → Prop), R true H' → tt σ' H' R)
    (hv : ∀ (x : V) (d : D) (H' : Hp) (R : VK), Same H H' → d ∈ ds → Dv Hb x d → (∀ y H2, Same H' H2 → Dv (ovl Hb (newof H' H2)) y (f d) → R y H2) → te ((wipe σ vs).set j (some x)) H' R)
    (q : ∀ H' zs, Same H H' → H' Dl = some (.lst zs) → DvL (ovl Hb (newof (upd H Dl (.lst [])) H')) zs (ds.map f) → Qd H') :
    ∃ W : Nat → Nat → Hp → Prop, (∃ m, W 0 m (upd H Dl (.lst []))) ∧ ∀ i m H, W i m H → (J.stop i H ∧ Qd H) ∨ (J.go i H ∧ ∃ Nx : Hp → Prop, (∀ H', Nx H' → ∃ m', m' < m ∧ W (i + 1) m' H') ∧
      ∀ x H', J.yld i H x H' → gName j x (wipe σ vs) H' fun σ2 H2 => wipe σ2 vs = wipe σ vs ∧ tt σ2 H2 fun b H3 => if b = true then te σ2 H3 fun y H4 => ∃ acc, H4 Dl = some (.lst acc) ∧ acc.length < sizeLine ∧ Nx (upd H4 Dl (.lst (acc ++ [y]))) else Nx H3) := by
  have hlen := hd.len
  have h0 : (upd H Dl (.lst [])) Dl = some (.lst []) := upd_same
  refine lc_it wk (fun i H' => Same H H' ∧ ∃ zs, H' Dl = some (.lst zs) ∧ DvL (ovl Hb (newof (upd H Dl (.lst [])) H')) zs ((ds.take i).map f)) ⟨Same.new hD, [], upd_same, .nil⟩ (fun i H' _ h => hG H' h.1) ?_ ?_
  · rintro i x H1 H1' hi ⟨k, zs, hl, hz2⟩ ⟨rfl, hx⟩
    obtain ⟨d, e1, hd1⟩ := hd.get hx
    refine ⟨hw _, he _ _ _ ?_⟩
    rw [if_pos rfl]
    refine hv x d H1' _ k (tk e1) hd1 fun y H2 k2 hy => ⟨zs, k2 _ _ hl, ?_, Same.upd (k.trans k2) hD, zs ++ [y], upd_same, ?_⟩
    · have := hz2.len
      rw [List.length_map, List.length_take] at this
      exact szl (by omega)
    · rw [newof_upd h0, take_succ' e1, List.map_append]
      refine (hz2.same (ovl_mono (newof_same k2)) _ _).snoc (hy.same (ovl_mono (newof_lift fun a ha => ?_)) _ _)
      have n1 : a ≠ Dl := fun z => by
        rw [z, hl] at ha
        cases ha
      rw [upd_ne n1]
      exact Same.none k ha
  · rintro H' ⟨k, zs, hl, hz2⟩
    have : ds.take xs.length = ds := List.take_of_length_le (by omega)
    rw [this] at hz2
    exact q H' zs k hl hz2
theorem newof_first {H H' : Hp} {Dl : Addr} {o : HO} (h : H Dl = none) : Same (newof (upd H Dl o) H') (newof H H') := newof_lift fun a ha => by
  by_cases z : a = Dl
  · rw [z]
    exact h
  · rwa [upd_ne z] at ha
end Fm
set_option maxRecDepth 100000
set_option maxHeartbeats 2000000

namespace PySem
namespace Erplace
open PySem.W PySem.Calls PyProof.Rows PySem.HandSPX
/-! ### the text of __init__ -/
def iA (p1 p2 : Pos) : Arguments := { posonlyargs := [], args := [{ arg := "self", annotation := none, pos := p1 }, { arg := "place", annotation := none, pos := p2 }], vararg := none, kwonlyargs := [], kw_defaults := [], kwarg := none, defaults := [] }
def iB (q1 q2 q3 q4 : Pos) : List Stmt := [.Assign [.Attribute (.Name "self" q1) "place" q2] (.Name "place" q3) q4]
def iS : Scope := { kind := .function, names := [(PySem.Str.ofString "self", .local), (PySem.Str.ofString "place", .local)], isGenerator := false, isCoroutine := false, more := [] }
/-- what the written part says of Low, at C, and of its __init__, at fI -/
structure ErTxt (K : Frag) (mg : Str → Option Value) (cn qn : Str) (C fI : Addr) : Prop where
  gC : mg cn = some (.ref C)
  cls : ∃ nm q N bs bm sn sub ab col dd k0 k1 k2 k3 k5, K.lookup C = some (excClassObj nm q C N bs bm true sn sub ab col dd k0 k1 k2 k3 k5 "ValueError.__new__") ∧ refsVE bm = true
  sa : findIn K (.ref C) "__setattr__" = some (some (.builtin "object.__setattr__"))
  ga : findIn K (.ref C) "__getattribute__" = some (some (.builtin "BaseException.__getattribute__"))
  gg : findIn K (.ref C) "__getattr__" = some none
  noN : findIn K (.ref C) "place" = some none
  iC : findIn K (.ref C) "__init__" = some (some (.ref fI))
  tC : typeIn K (.ref fI) = some (.type "function")
  kC : keepIn K (.ref C) = true
  exC : subIn K (.ref C) (.type "BaseException") = some true
  tyC : typeIn K (.ref C) = some (.type "type")
  hdC : hasDictIn K C = true
  fn : ∃ (oc : Value) (od : Option Addr) (doc pm : Value) (an : Option Addr) (cdv ct : Value) (osl : Array (Option Value)) (p1 p2 q1 q2 q3 q4 : Pos),
    K.lookup fI = some ⟨oc, od, .func (fnOf "__init__" qn (iA p1 p2) (iB q1 q2 q3 q4) iS .none .none doc pm an cdv ct), osl⟩ ∧ codeIn K cdv qn = true
theorem one_size (v : Value) : [v].length ≤ sizeLine := by
  rw [sizeLine_eq]
  exact (by decide : 1 ≤ 16777216)
theorem kept_but {K : Frag} {h h' : Heap} {x : Addr} (X : K.In h) (hx : K.lookup x = none) (k : ∀ b o, b ≠ x → h.get? b = some o → h'.get? b = some o) : K.In h' := fun a o e =>
  k a o (fun z => by rw [z, hx] at e; cases e) (X a o e)
theorem ldC {M : Model} {s : Shared} {name : Str} {scope : Scope} {L a : Addr} {cd : Value} {m : Str → Option Value} {x : Str} {pos : Pos} {v : Value} {Q : Value → Shared → Prop} {A : Around} {E : Value → Shared → Prop} (hn : s.heap.Ns L m) (hv : m x = some v) (h : Q v s)
    (hk : scope.kind = .function := by rfl) (hl : (envOfC name scope L a cd).kindOf x = some .local := by rfl) (hd : (x == ("__debug__" : Str)) = false := by decide) :
    wpAny M A (eval (.Name x pos) (envOfC name scope L a cd)) Q E s := wpAny_Name (wpAny_loadName_local hk hl hn hv h) hd
/-- what __init__ leaves of a fresh exception at x -/
structure InitEnd (h h' : Heap) (x C dx t1 : Addr) (v : Value) : Prop where
  keep : ∀ b o, b ≠ x → h.get? b = some o → h'.get? b = some o
  obj : h'.get? x = some { cls := .ref C, dict := some dx, data := .fields #[.ref t1, .none, .none, .none, .bool false, .none] }
  dbig : h.objs.size ≤ dx
  dne : dx ≠ x
  ns : h'.Ns1 dx (fun y => if y = "place" then some v else none)
/-- a made Low -/
structure OwnMade (h h' : Heap) (e C d : Addr) (v : Value) : Prop where
  keep : ∀ b o, h.get? b = some o → h'.get? b = some o
  new : h.objs.size ≤ e
  obj : ∃ oe vs, h'.get? e = some oe ∧ oe.cls = .ref C ∧ oe.dict = some d ∧ oe.data = .fields vs ∧ vs[1]? = some .none
  dbig : h.objs.size ≤ d
  dne : d ≠ e
  ns : h'.Ns1 d (fun y => if y = "place" then some v else none)
section
variable {prog : Program} {w : World} {A : Around} {E : Value → Shared → Prop} {R : Result → Shared → Prop} {s : Shared} {K : Frag} {mg : Str → Option Value} {cn qn : Str} {C fI : Addr}
theorem low_init (T : ErTxt K mg cn qn C fI) {x t0 : Addr} {v : Value} (X : K.In s.heap) (hlim : s.heap.NoLimit) (hx : s.heap.get? x = some (excO C t0)) (hnx : K.lookup x = none) (hroom : A.depth < recursionLimit)
    (hq : ∀ h' tk dx, InitEnd s.heap h' x C dx t0 v → R (.ok (.ret .none)) { s with heap := h', toks := tk }) :
    codeAny (model prog w) A (.call (.ref fI) ⟨[.ref x, v], []⟩) R s := by
  obtain ⟨oc, od, doc, pm, an, cdv, ct, osl, p1, p2, q1, q2, q3, q4, ho, hcd⟩ := T.fn
  obtain ⟨nm, q, N, bs, bm, sn, sub, ab, col, dd, k0, k1, k2, k3, k5, hC, hbm⟩ := T.cls
  have hcl : clsIn K C = some { name := nm, bases := bs, mro := .ref C :: bm, ns := N, qualname := q, hasDict := true, slotNames := sn, subclasses := sub, abstract := ab, collection := col, hasDel := false } := by unfold clsIn; rw [hC] <;> rfl
  refine Att.call_fn (binds := [("self", .ref x), ("place", v)]) X hlim ho hcd hroom (BindsTo.of_eq (by first | rfl | with_unfolding_all rfl)) (by first | rfl | decide | with_unfolding_all rfl) (fun s₁ IC => ?_) rfl rfl rfl
  obtain ⟨h₁, tk₁, rfl⟩ := IC.toInCall.same
  have k : ∀ b o, s.heap.get? b = some o → h₁.get? b = some o := IC.toInCall.keep
  have hn := IC.toInCall.ns
  have hxL : s.heap.objs.size ≠ x := Nat.ne_of_gt (Heap.lt_size hx)
  have X₁ : K.In h₁ := X.keeps k
  have hx₁ := k _ _ hx
  -- self.by = by
  show wpAny _ _ (execs _ _) _ _ _
  refine wpAny_execs_cons (plainObj_wpAny_Assign_Attribute ?_)
  refine ldC (v := v) hn (by first | rfl | with_unfolding_all rfl | kernel_rfl) (ldC (v := .ref x) hn (by first | rfl | with_unfolding_all rfl | kernel_rfl) ?_)
  refine set_plain X₁ (ox := excO C t0) (od := none) ⟨hx₁, rfl, rfl, trivial⟩ T.sa ?_
  refine exc_osa X₁ hx₁ hcl (show refsVE (.ref C :: bm) = true from hbm) rfl T.noN (fun h₃ tk₃ dx k₃ dn dne hx₃ hn₃ => ?_)
  show wpAny _ _ (execs _ _) _ _ _
  have z : s.heap.objs.size < h₁.objs.size := hn.lt
  exact wpAny_execs_nil (hq h₃ tk₃ dx ⟨fun b o hb e => k₃ b o hb (k b o e), hx₃, Nat.le_of_lt (Nat.lt_of_lt_of_le z dn), dne, hn₃⟩)
theorem low_made (T : ErTxt K mg cn qn C fI) {v : Value} (X : K.In s.heap) (hlim : s.heap.NoLimit) (hroom : A.depth + 1 < recursionLimit)
    (hq : ∀ h' tk e d, OwnMade s.heap h' e C d v → R (.ok (.ret (.ref e))) { s with heap := h', toks := tk }) :
    codeAny (model prog w) A (.call (.ref C) ⟨[v], []⟩) R s := by
  obtain ⟨nm, q, N, bs, bm, sn, sub, ab, col, dd, k0, k1, k2, k3, k5, hC, hbm⟩ := T.cls
  obtain ⟨hp, g, dr, tk, os⟩ := s
  have k : ∀ b o, hp.get? b = some o → ((hp.push (kdv_tup [v])).push (excO C hp.objs.size)).get? b = some o := fun b o e => Heap.get?_push_of_some _ (Heap.get?_push_of_some _ e)
  have hget : ((hp.push (kdv_tup [v])).push (excO C hp.objs.size)).get? (hp.objs.size + 1) = some (excO C hp.objs.size) := by heap_get
  have hnx : K.lookup (hp.objs.size + 1) = none := by
    cases e : K.lookup (hp.objs.size + 1) with
    | none => rfl
    | some o =>
      have z : hp.get? (hp.objs.size + 1) = some o := X _ _ e
      exact absurd (Nat.lt_of_succ_lt (Heap.lt_size z)) (Nat.lt_irrefl _)
  refine call_own F.excBase_ValueError (fun X => refsVE_contains X bm hbm) (X _ _ hC) (looks_findIn X T.iC) (fun self => bind_fn X self T.tC) (one_size v) ?_
  refine low_init (s := ⟨(hp.push (kdv_tup [v])).push (excO C hp.objs.size), g, dr, tk, os⟩) T (X.keeps k) (hlim.keeps k) hget hnx ?_ fun h' tk' dx ⟨k', hx, dn, dne, hns⟩ => ?_
  · show A.depth + 1 < recursionLimit
    exact hroom
  · have old : ∀ b o, hp.get? b = some o → h'.get? b = some o := fun b o e => k' b o (Nat.ne_of_lt (Nat.lt_succ_of_lt (Heap.lt_size e))) (k b o e)
    have z : hp.objs.size + 1 + 1 ≤ dx := by
      first
        | (simpa only [Heap.size_push] using dn)
        | exact dn
        | (have q := dn; rw [Heap.size_push, Heap.size_push] at q; exact q)
    exact ⟨rfl, hq h' tk' (hp.objs.size + 1) dx ⟨old, Nat.le_succ _, ⟨_, _, hx, rfl, rfl, rfl, rfl⟩, Nat.le_trans (Nat.le_trans (Nat.le_succ _) (Nat.le_succ _)) z, dne, hns⟩⟩
end
end Erplace
end PySem
namespace L2
open PySem PySem.Spec PyProof.Rows
theorem relO_low_place {v : V} {v' : Value} (r : RelV v v') (f : Str) : RelO (List.lookup f [(("place" : Str), v)]) (if f = "place" then some v' else none) := by
  by_cases hw : f = "place"
  · subst hw
    rw [if_pos rfl]
    have q : List.lookup ("place" : Str) [(("place" : Str), v)] = some v := by simp [List.lookup]
    rw [q]
    exact r
  · rw [if_neg hw]
    have qw : (f == ("place" : Str)) = false := by simpa using hw
    have q2 : List.lookup f [(("place" : Str), v)] = none := by simp [List.lookup, qw]
    rw [q2]
    trivial
section
variable {X : Cx} {cn qn : Str} {C fI : Addr}
/-- Low(e) -/
def tMkLow_place (C : Addr) (ta : TA) : St → Hp → XK → Prop := fun σ H Q => ta σ H fun vs H1 => ∃ v, vs = [v] ∧ ∀ d, H1 d = none → Q (.ref C) (some d) (upd H1 d (.xd [(("place" : Str), v)]))
theorem pmk_low_place {a : Expr} {ta : TA} {p pos : Pos} {k : Nat} (T : PySem.Erplace.ErTxt X.K X.mg cn qn C fI) (hr : Room k X.A) (ha : PA X [a] ta) (hg : Gl X cn) (hdb : (cn == ("__debug__" : Str)) = false)
    (he : starEach (a :: []) X.env = (false, eval a X.env) :: starEach [] X.env := by rfl) (hpl : (backTo pos (starEach [] X.env)).any (·.1) = false := by rfl) :
    PMk X (.Call (.Name cn p) [a] [] pos) (tMkLow_place C ta) := by
  intro pins s σ H Q I h
  refine wpAny_Call_Name_kw (ld_glob I hg T.gC ?_ hdb)
  refine PySem.W.callWith_K (h₀ := X.base) I.ok.mod.kin T.kC (thn (ha.run pos pins s σ H _ I h) fun us s1 hh => ?_) he hpl
  obtain ⟨vs, H1, I1, r1, v, ev, q1⟩ := hh
  subst ev
  refine ⟨I1.kIn, ?_⟩
  cases r1 with
  | cons rv rn =>
    rename_i v' us'
    cases rn
    show wpAny _ _ (call (.ref C) [v']) _ _ _
    have hlim := I1.nolimit
    obtain ⟨hp, g, dr, tk, os⟩ := s1
    refine wpAny_call (PySem.Erplace.low_made T I1.kIn hlim (by have := hr.dp; omega) fun h' tk' e d M => ?_)
    show MkP X pins σ Q (.ref e) ⟨h', g, dr, tk', os⟩
    obtain ⟨oe, fv, hoe, hc, hd, hdat, h1⟩ := M.obj
    have hns := M.ns
    obtain ⟨G', g1, g2⟩ := restrict h' fun b => decide (b ≠ e)
    have gk : ∀ b, b ≠ e → G'.get? b = h'.get? b := fun b hb => g1 b (decide_eq_true hb)
    have ge : G'.get? e = none := g2 e (by simp)
    have old : ∀ b o, hp.get? b = some o → G'.get? b = some o := fun b o q => (gk b (Nat.ne_of_lt (Nat.lt_of_lt_of_le (Heap.lt_size q) M.new))).trans (M.keep b o q)
    have ob : ObjOk X.prog X.w (upd H1 d (.xd [(("place" : Str), v)])) G' d (.xd [(("place" : Str), v)]) :=
      ⟨_, hns.at (fun o q => (gk d M.dne).trans q), fun f => relO_low_place rv f⟩
    have J : Inv X pins σ (upd H1 d (.xd [(("place" : Str), v)])) ⟨G', g, dr, tk', os⟩ := I1.laid (t' := tk') old M.dbig ob
    refine ⟨e, oe, fv, ⟨G', g, dr, tk', os⟩, _, .ref C, some d, rfl, J, fun b o q => ?_, ge, hoe, ⟨hc, hd⟩, hdat, h1, ?_, rfl, I1.bare, raises_own T.exC T.tyC, q1 d (I1.hok.fresh M.dbig)⟩
    · by_cases hb : b = e
      · have q' : G'.get? b = some o := q
        rw [hb, ge] at q'; cases q'
      · exact (gk b hb).symm.trans q
    · rw [upd_ne (Ne.symm M.dne)]
      exact I1.hok.fresh M.new
/-- raise Low(e) -/
def tRaiseLow_place (C : Addr) (W : WX) (ta : TA) : TS := fun _ σ H => tMkLow_place C ta σ H fun cls d H' => W cls d σ H'
theorem ps_raiseLow_place {a : Expr} {ta : TA} {W : WX} {p pos pos2 : Pos} {k : Nat} (hc : X.calm = true) (T : PySem.Erplace.ErTxt X.K X.mg cn qn C fI) (hr : Room k X.A) (tk : Takes X W) (ha : PA X [a] ta) (hg : Gl X cn) (hdb : (cn == ("__debug__" : Str)) = false)
    (he : starEach (a :: []) X.env = (false, eval a X.env) :: starEach [] X.env := by rfl) (hpl : (backTo pos (starEach [] X.env)).any (·.1) = false := by rfl) :
    PS X (.Raise (some (.Call (.Name cn p) [a] [] pos)) none pos2) (tRaiseLow_place C W ta) := ps_raise hc tk (pmk_low_place T hr ha hg hdb he hpl)
/-- low.by, low the exception that the suite holds (at a; its class cls, its dict d) -/
def tByLow_place (C : Addr) (a : Addr) (cls : Value) (d : Option Addr) (te : TE) : TE := fun σ H Q => te σ H fun x H1 => x = .ref a ∧ cls = .ref C ∧ ∃ (dd : Addr) (v : V), d = some dd ∧ H1 dd = some (.xd [(("place" : Str), v)]) ∧ Q v H1
theorem pe_byLow_place {a : Addr} {oe : Obj} {cls : Value} {d : Option Addr} {pn : List (Addr × Obj)} {e : Expr} {te : TE} {pos : Pos} (T : PySem.Erplace.ErTxt X.K X.mg cn qn C fI) (hz : Zc cls d oe) (hf : ∃ vs, oe.data = .fields vs) (he : PE (X.suite a ((a, oe) :: pn)) e te)
    (hb : attributeBase e "place" X.env (eval e X.env) = eval e X.env := by rfl) :
    PE (X.suite a ((a, oe) :: pn)) (.Attribute e "place" pos) (tByLow_place C a cls d te) := by
  refine ⟨fun pins s σ H Q I h => ?_⟩
  refine attr_of hb (thn (he.run pins s σ H _ I h) fun u s1 hh => ?_)
  obtain ⟨x, H1, I1, rx, ex, ec, dd, v, ed, ea, q⟩ := hh
  subst ex
  obtain rfl : u = Value.ref a := rx
  subst ec
  subst ed
  obtain ⟨ha, _⟩ := I1.pin (a, oe) (List.mem_append_left _ List.mem_cons_self)
  obtain ⟨vs, hd⟩ := hf
  have hx : ObjOk X.prog X.w H1 s1.heap dd (.xd [(("place" : Str), v)]) := I1.hok dd _ ea
  obtain ⟨mA, hns, hr⟩ := hx
  obtain ⟨od, ho, hl⟩ := lookIn_ns hns
  have l : List.lookup ("place" : Str) [(("place" : Str), v)] = some v := by simp [List.lookup]
  obtain ⟨u, hu, ru⟩ := RelO.some_of (v := v) (o := mA "place") (by rw [← l]; exact hr "place")
  have J : PySem.W.InstAt s1.heap a oe C (some od) := ⟨ha, hz.1, by unfold PySem.W.notCls; rw [hd] <;> rfl, by rw [hz.2]; exact ho⟩
  exact HandSPX.exc_get I1.kIn J T.ga T.gg T.exC (PySem.W.findObj_own T.hdC T.noN rfl (by rw [hl, hu])) (handed_of ru) ⟨v, H1, I1.tok _, ru, q⟩
end
end L2


namespace PySem
namespace Ername
open PySem.W PySem.Calls PyProof.Rows PySem.HandSPX
/-! ### the text of __init__ -/
def iA (p1 p2 : Pos) : Arguments := { posonlyargs := [], args := [{ arg := "self", annotation := none, pos := p1 }, { arg := "name", annotation := none, pos := p2 }], vararg := none, kwonlyargs := [], kw_defaults := [], kwarg := none, defaults := [] }
def iB (q1 q2 q3 q4 : Pos) : List Stmt := [.Assign [.Attribute (.Name "self" q1) "name" q2] (.Name "name" q3) q4]
def iS : Scope := { kind := .function, names := [(PySem.Str.ofString "self", .local), (PySem.Str.ofString "name", .local)], isGenerator := false, isCoroutine := false, more := [] }
/-- what the written part says of Low, at C, and of its __init__, at fI -/
structure ErTxt (K : Frag) (mg : Str → Option Value) (cn qn : Str) (C fI : Addr) : Prop where
  gC : mg cn = some (.ref C)
  cls : ∃ nm q N bs bm sn sub ab col dd k0 k1 k2 k3 k5, K.lookup C = some (excClassObj nm q C N bs bm true sn sub ab col dd k0 k1 k2 k3 k5 "ValueError.__new__") ∧ refsVE bm = true
  sa : findIn K (.ref C) "__setattr__" = some (some (.builtin "object.__setattr__"))
  ga : findIn K (.ref C) "__getattribute__" = some (some (.builtin "BaseException.__getattribute__"))
  gg : findIn K (.ref C) "__getattr__" = some none
  noN : findIn K (.ref C) "name" = some none
  iC : findIn K (.ref C) "__init__" = some (some (.ref fI))
  tC : typeIn K (.ref fI) = some (.type "function")
  kC : keepIn K (.ref C) = true
  exC : subIn K (.ref C) (.type "BaseException") = some true
  tyC : typeIn K (.ref C) = some (.type "type")
  hdC : hasDictIn K C = true
  fn : ∃ (oc : Value) (od : Option Addr) (doc pm : Value) (an : Option Addr) (cdv ct : Value) (osl : Array (Option Value)) (p1 p2 q1 q2 q3 q4 : Pos),
    K.lookup fI = some ⟨oc, od, .func (fnOf "__init__" qn (iA p1 p2) (iB q1 q2 q3 q4) iS .none .none doc pm an cdv ct), osl⟩ ∧ codeIn K cdv qn = true
theorem one_size (v : Value) : [v].length ≤ sizeLine := by
  rw [sizeLine_eq]
  exact (by decide : 1 ≤ 16777216)
theorem kept_but {K : Frag} {h h' : Heap} {x : Addr} (X : K.In h) (hx : K.lookup x = none) (k : ∀ b o, b ≠ x → h.get? b = some o → h'.get? b = some o) : K.In h' := fun a o e =>
  k a o (fun z => by rw [z, hx] at e; cases e) (X a o e)
theorem ldC {M : Model} {s : Shared} {name : Str} {scope : Scope} {L a : Addr} {cd : Value} {m : Str → Option Value} {x : Str} {pos : Pos} {v : Value} {Q : Value → Shared → Prop} {A : Around} {E : Value → Shared → Prop} (hn : s.heap.Ns L m) (hv : m x = some v) (h : Q v s)
    (hk : scope.kind = .function := by rfl) (hl : (envOfC name scope L a cd).kindOf x = some .local := by rfl) (hd : (x == ("__debug__" : Str)) = false := by decide) :
    wpAny M A (eval (.Name x pos) (envOfC name scope L a cd)) Q E s := wpAny_Name (wpAny_loadName_local hk hl hn hv h) hd
/-- what __init__ leaves of a fresh exception at x -/
structure InitEnd (h h' : Heap) (x C dx t1 : Addr) (v : Value) : Prop where
  keep : ∀ b o, b ≠ x → h.get? b = some o → h'.get? b = some o
  obj : h'.get? x = some { cls := .ref C, dict := some dx, data := .fields #[.ref t1, .none, .none, .none, .bool false, .none] }
  dbig : h.objs.size ≤ dx
  dne : dx ≠ x
  ns : h'.Ns1 dx (fun y => if y = "name" then some v else none)
/-- a made Low -/
structure OwnMade (h h' : Heap) (e C d : Addr) (v : Value) : Prop where
  keep : ∀ b o, h.get? b = some o → h'.get? b = some o
  new : h.objs.size ≤ e
  obj : ∃ oe vs, h'.get? e = some oe ∧ oe.cls = .ref C ∧ oe.dict = some d ∧ oe.data = .fields vs ∧ vs[1]? = some .none
  dbig : h.objs.size ≤ d
  dne : d ≠ e
  ns : h'.Ns1 d (fun y => if y = "name" then some v else none)
section
variable {prog : Program} {w : World} {A : Around} {E : Value → Shared → Prop} {R : Result → Shared → Prop} {s : Shared} {K : Frag} {mg : Str → Option Value} {cn qn : Str} {C fI : Addr}
theorem low_init (T : ErTxt K mg cn qn C fI) {x t0 : Addr} {v : Value} (X : K.In s.heap) (hlim : s.heap.NoLimit) (hx : s.heap.get? x = some (excO C t0)) (hnx : K.lookup x = none) (hroom : A.depth < recursionLimit)
    (hq : ∀ h' tk dx, InitEnd s.heap h' x C dx t0 v → R (.ok (.ret .none)) { s with heap := h', toks := tk }) :
    codeAny (model prog w) A (.call (.ref fI) ⟨[.ref x, v], []⟩) R s := by
  obtain ⟨oc, od, doc, pm, an, cdv, ct, osl, p1, p2, q1, q2, q3, q4, ho, hcd⟩ := T.fn
  obtain ⟨nm, q, N, bs, bm, sn, sub, ab, col, dd, k0, k1, k2, k3, k5, hC, hbm⟩ := T.cls
  have hcl : clsIn K C = some { name := nm, bases := bs, mro := .ref C :: bm, ns := N, qualname := q, hasDict := true, slotNames := sn, subclasses := sub, abstract := ab, collection := col, hasDel := false } := by unfold clsIn; rw [hC] <;> rfl
  refine Att.call_fn (binds := [("self", .ref x), ("name", v)]) X hlim ho hcd hroom (BindsTo.of_eq (by first | rfl | with_unfolding_all rfl)) (by first | rfl | decide | with_unfolding_all rfl) (fun s₁ IC => ?_) rfl rfl rfl
  obtain ⟨h₁, tk₁, rfl⟩ := IC.toInCall.same
  have k : ∀ b o, s.heap.get? b = some o → h₁.get? b = some o := IC.toInCall.keep
  have hn := IC.toInCall.ns
  have hxL : s.heap.objs.size ≠ x := Nat.ne_of_gt (Heap.lt_size hx)
  have X₁ : K.In h₁ := X.keeps k
  have hx₁ := k _ _ hx
  -- self.by = by
  show wpAny _ _ (execs _ _) _ _ _
  refine wpAny_execs_cons (plainObj_wpAny_Assign_Attribute ?_)
  refine ldC (v := v) hn (by first | rfl | with_unfolding_all rfl | kernel_rfl) (ldC (v := .ref x) hn (by first | rfl | with_unfolding_all rfl | kernel_rfl) ?_)
  refine set_plain X₁ (ox := excO C t0) (od := none) ⟨hx₁, rfl, rfl, trivial⟩ T.sa ?_
  refine exc_osa X₁ hx₁ hcl (show refsVE (.ref C :: bm) = true from hbm) rfl T.noN (fun h₃ tk₃ dx k₃ dn dne hx₃ hn₃ => ?_)
  show wpAny _ _ (execs _ _) _ _ _
  have z : s.heap.objs.size < h₁.objs.size := hn.lt
  exact wpAny_execs_nil (hq h₃ tk₃ dx ⟨fun b o hb e => k₃ b o hb (k b o e), hx₃, Nat.le_of_lt (Nat.lt_of_lt_of_le z dn), dne, hn₃⟩)
theorem low_made (T : ErTxt K mg cn qn C fI) {v : Value} (X : K.In s.heap) (hlim : s.heap.NoLimit) (hroom : A.depth + 1 < recursionLimit)
    (hq : ∀ h' tk e d, OwnMade s.heap h' e C d v → R (.ok (.ret (.ref e))) { s with heap := h', toks := tk }) :
    codeAny (model prog w) A (.call (.ref C) ⟨[v], []⟩) R s := by
  obtain ⟨nm, q, N, bs, bm, sn, sub, ab, col, dd, k0, k1, k2, k3, k5, hC, hbm⟩ := T.cls
  obtain ⟨hp, g, dr, tk, os⟩ := s
  have k : ∀ b o, hp.get? b = some o → ((hp.push (kdv_tup [v])).push (excO C hp.objs.size)).get? b = some o := fun b o e => Heap.get?_push_of_some _ (Heap.get?_push_of_some _ e)
  have hget : ((hp.push (kdv_tup [v])).push (excO C hp.objs.size)).get? (hp.objs.size + 1) = some (excO C hp.objs.size) := by heap_get
  have hnx : K.lookup (hp.objs.size + 1) = none := by
    cases e : K.lookup (hp.objs.size + 1) with
    | none => rfl
    | some o =>
      have z : hp.get? (hp.objs.size + 1) = some o := X _ _ e
      exact absurd (Nat.lt_of_succ_lt (Heap.lt_size z)) (Nat.lt_irrefl _)
  refine call_own F.excBase_ValueError (fun X => refsVE_contains X bm hbm) (X _ _ hC) (looks_findIn X T.iC) (fun self => bind_fn X self T.tC) (one_size v) ?_
  refine low_init (s := ⟨(hp.push (kdv_tup [v])).push (excO C hp.objs.size), g, dr, tk, os⟩) T (X.keeps k) (hlim.keeps k) hget hnx ?_ fun h' tk' dx ⟨k', hx, dn, dne, hns⟩ => ?_
  · show A.depth + 1 < recursionLimit
    exact hroom
  · have old : ∀ b o, hp.get? b = some o → h'.get? b = some o := fun b o e => k' b o (Nat.ne_of_lt (Nat.lt_succ_of_lt (Heap.lt_size e))) (k b o e)
    have z : hp.objs.size + 1 + 1 ≤ dx := by
      first
        | (simpa only [Heap.size_push] using dn)
        | exact dn
        | (have q := dn; rw [Heap.size_push, Heap.size_push] at q; exact q)
    exact ⟨rfl, hq h' tk' (hp.objs.size + 1) dx ⟨old, Nat.le_succ _, ⟨_, _, hx, rfl, rfl, rfl, rfl⟩, Nat.le_trans (Nat.le_trans (Nat.le_succ _) (Nat.le_succ _)) z, dne, hns⟩⟩
end
end Ername
end PySem
namespace L2
open PySem PySem.Spec PyProof.Rows
theorem relO_low_name {v : V} {v' : Value} (r : RelV v v') (f : Str) : RelO (List.lookup f [(("name" : Str), v)]) (if f = "name" then some v' else none) := by
  by_cases hw : f = "name"
  · subst hw
    rw [if_pos rfl]
    have q : List.lookup ("name" : Str) [(("name" : Str), v)] = some v := by simp [List.lookup]
    rw [q]
    exact r
  · rw [if_neg hw]
    have qw : (f == ("name" : Str)) = false := by simpa using hw
    have q2 : List.lookup f [(("name" : Str), v)] = none := by simp [List.lookup, qw]
    rw [q2]
    trivial
section
variable {X : Cx} {cn qn : Str} {C fI : Addr}
/-- Low(e) -/
def tMkLow_name (C : Addr) (ta : TA) : St → Hp → XK → Prop := fun σ H Q => ta σ H fun vs H1 => ∃ v, vs = [v] ∧ ∀ d, H1 d = none → Q (.ref C) (some d) (upd H1 d (.xd [(("name" : Str), v)]))
theorem pmk_low_name {a : Expr} {ta : TA} {p pos : Pos} {k : Nat} (T : PySem.Ername.ErTxt X.K X.mg cn qn C fI) (hr : Room k X.A) (ha : PA X [a] ta) (hg : Gl X cn) (hdb : (cn == ("__debug__" : Str)) = false)
    (he : starEach (a :: []) X.env = (false, eval a X.env) :: starEach [] X.env := by rfl) (hpl : (backTo pos (starEach [] X.env)).any (·.1) = false := by rfl) :
    PMk X (.Call (.Name cn p) [a] [] pos) (tMkLow_name C ta) := by
  intro pins s σ H Q I h
  refine wpAny_Call_Name_kw (ld_glob I hg T.gC ?_ hdb)
  refine PySem.W.callWith_K (h₀ := X.base) I.ok.mod.kin T.kC (thn (ha.run pos pins s σ H _ I h) fun us s1 hh => ?_) he hpl
  obtain ⟨vs, H1, I1, r1, v, ev, q1⟩ := hh
  subst ev
  refine ⟨I1.kIn, ?_⟩
  cases r1 with
  | cons rv rn =>
    rename_i v' us'
    cases rn
    show wpAny _ _ (call (.ref C) [v']) _ _ _
    have hlim := I1.nolimit
    obtain ⟨hp, g, dr, tk, os⟩ := s1
    refine wpAny_call (PySem.Ername.low_made T I1.kIn hlim (by have := hr.dp; omega) fun h' tk' e d M => ?_)
    show MkP X pins σ Q (.ref e) ⟨h', g, dr, tk', os⟩
    obtain ⟨oe, fv, hoe, hc, hd, hdat, h1⟩ := M.obj
    have hns := M.ns
    obtain ⟨G', g1, g2⟩ := restrict h' fun b => decide (b ≠ e)
    have gk : ∀ b, b ≠ e → G'.get? b = h'.get? b := fun b hb => g1 b (decide_eq_true hb)
    have ge : G'.get? e = none := g2 e (by simp)
    have old : ∀ b o, hp.get? b = some o → G'.get? b = some o := fun b o q => (gk b (Nat.ne_of_lt (Nat.lt_of_lt_of_le (Heap.lt_size q) M.new))).trans (M.keep b o q)
    have ob : ObjOk X.prog X.w (upd H1 d (.xd [(("name" : Str), v)])) G' d (.xd [(("name" : Str), v)]) :=
      ⟨_, hns.at (fun o q => (gk d M.dne).trans q), fun f => relO_low_name rv f⟩
    have J : Inv X pins σ (upd H1 d (.xd [(("name" : Str), v)])) ⟨G', g, dr, tk', os⟩ := I1.laid (t' := tk') old M.dbig ob
    refine ⟨e, oe, fv, ⟨G', g, dr, tk', os⟩, _, .ref C, some d, rfl, J, fun b o q => ?_, ge, hoe, ⟨hc, hd⟩, hdat, h1, ?_, rfl, I1.bare, raises_own T.exC T.tyC, q1 d (I1.hok.fresh M.dbig)⟩
    · by_cases hb : b = e
      · have q' : G'.get? b = some o := q
        rw [hb, ge] at q'; cases q'
      · exact (gk b hb).symm.trans q
    · rw [upd_ne (Ne.symm M.dne)]
      exact I1.hok.fresh M.new
/-- raise Low(e) -/
def tRaiseLow_name (C : Addr) (W : WX) (ta : TA) : TS := fun _ σ H => tMkLow_name C ta σ H fun cls d H' => W cls d σ H'
theorem ps_raiseLow_name {a : Expr} {ta : TA} {W : WX} {p pos pos2 : Pos} {k : Nat} (hc : X.calm = true) (T : PySem.Ername.ErTxt X.K X.mg cn qn C fI) (hr : Room k X.A) (tk : Takes X W) (ha : PA X [a] ta) (hg : Gl X cn) (hdb : (cn == ("__debug__" : Str)) = false)
    (he : starEach (a :: []) X.env = (false, eval a X.env) :: starEach [] X.env := by rfl) (hpl : (backTo pos (starEach [] X.env)).any (·.1) = false := by rfl) :
    PS X (.Raise (some (.Call (.Name cn p) [a] [] pos)) none pos2) (tRaiseLow_name C W ta) := ps_raise hc tk (pmk_low_name T hr ha hg hdb he hpl)
/-- low.by, low the exception that the suite holds (at a; its class cls, its dict d) -/
def tByLow_name (C : Addr) (a : Addr) (cls : Value) (d : Option Addr) (te : TE) : TE := fun σ H Q => te σ H fun x H1 => x = .ref a ∧ cls = .ref C ∧ ∃ (dd : Addr) (v : V), d = some dd ∧ H1 dd = some (.xd [(("name" : Str), v)]) ∧ Q v H1
theorem pe_byLow_name {a : Addr} {oe : Obj} {cls : Value} {d : Option Addr} {pn : List (Addr × Obj)} {e : Expr} {te : TE} {pos : Pos} (T : PySem.Ername.ErTxt X.K X.mg cn qn C fI) (hz : Zc cls d oe) (hf : ∃ vs, oe.data = .fields vs) (he : PE (X.suite a ((a, oe) :: pn)) e te)
    (hb : attributeBase e "name" X.env (eval e X.env) = eval e X.env := by rfl) :
    PE (X.suite a ((a, oe) :: pn)) (.Attribute e "name" pos) (tByLow_name C a cls d te) := by
  refine ⟨fun pins s σ H Q I h => ?_⟩
  refine attr_of hb (thn (he.run pins s σ H _ I h) fun u s1 hh => ?_)
  obtain ⟨x, H1, I1, rx, ex, ec, dd, v, ed, ea, q⟩ := hh
  subst ex
  obtain rfl : u = Value.ref a := rx
  subst ec
  subst ed
  obtain ⟨ha, _⟩ := I1.pin (a, oe) (List.mem_append_left _ List.mem_cons_self)
  obtain ⟨vs, hd⟩ := hf
  have hx : ObjOk X.prog X.w H1 s1.heap dd (.xd [(("name" : Str), v)]) := I1.hok dd _ ea
  obtain ⟨mA, hns, hr⟩ := hx
  obtain ⟨od, ho, hl⟩ := lookIn_ns hns
  have l : List.lookup ("name" : Str) [(("name" : Str), v)] = some v := by simp [List.lookup]
  obtain ⟨u, hu, ru⟩ := RelO.some_of (v := v) (o := mA "name") (by rw [← l]; exact hr "name")
  have J : PySem.W.InstAt s1.heap a oe C (some od) := ⟨ha, hz.1, by unfold PySem.W.notCls; rw [hd] <;> rfl, by rw [hz.2]; exact ho⟩
  exact HandSPX.exc_get I1.kIn J T.ga T.gg T.exC (PySem.W.findObj_own T.hdC T.noN rfl (by rw [hl, hu])) (handed_of ru) ⟨v, H1, I1.tok _, ru, q⟩
end
end L2


namespace PySem
namespace Erat
open PySem.W PySem.Calls PyProof.Rows PySem.HandSPX
/-! ### the text of __init__ -/
def iA (p1 p2 : Pos) : Arguments := { posonlyargs := [], args := [{ arg := "self", annotation := none, pos := p1 }, { arg := "at", annotation := none, pos := p2 }], vararg := none, kwonlyargs := [], kw_defaults := [], kwarg := none, defaults := [] }
def iB (q1 q2 q3 q4 : Pos) : List Stmt := [.Assign [.Attribute (.Name "self" q1) "at" q2] (.Name "at" q3) q4]
def iS : Scope := { kind := .function, names := [(PySem.Str.ofString "self", .local), (PySem.Str.ofString "at", .local)], isGenerator := false, isCoroutine := false, more := [] }
/-- what the written part says of Low, at C, and of its __init__, at fI -/
structure ErTxt (K : Frag) (mg : Str → Option Value) (cn qn : Str) (C fI : Addr) : Prop where
  gC : mg cn = some (.ref C)
  cls : ∃ nm q N bs bm sn sub ab col dd k0 k1 k2 k3 k5, K.lookup C = some (excClassObj nm q C N bs bm true sn sub ab col dd k0 k1 k2 k3 k5 "ValueError.__new__") ∧ refsVE bm = true
  sa : findIn K (.ref C) "__setattr__" = some (some (.builtin "object.__setattr__"))
  ga : findIn K (.ref C) "__getattribute__" = some (some (.builtin "BaseException.__getattribute__"))
  gg : findIn K (.ref C) "__getattr__" = some none
  noN : findIn K (.ref C) "at" = some none
  iC : findIn K (.ref C) "__init__" = some (some (.ref fI))
  tC : typeIn K (.ref fI) = some (.type "function")
  kC : keepIn K (.ref C) = true
  exC : subIn K (.ref C) (.type "BaseException") = some true
  tyC : typeIn K (.ref C) = some (.type "type")
  hdC : hasDictIn K C = true
  fn : ∃ (oc : Value) (od : Option Addr) (doc pm : Value) (an : Option Addr) (cdv ct : Value) (osl : Array (Option Value)) (p1 p2 q1 q2 q3 q4 : Pos),
    K.lookup fI = some ⟨oc, od, .func (fnOf "__init__" qn (iA p1 p2) (iB q1 q2 q3 q4) iS .none .none doc pm an cdv ct), osl⟩ ∧ codeIn K cdv qn = true
theorem one_size (v : Value) : [v].length ≤ sizeLine := by
  rw [sizeLine_eq]
  exact (by decide : 1 ≤ 16777216)
theorem kept_but {K : Frag} {h h' : Heap} {x : Addr} (X : K.In h) (hx : K.lookup x = none) (k : ∀ b o, b ≠ x → h.get? b = some o → h'.get? b = some o) : K.In h' := fun a o e =>
  k a o (fun z => by rw [z, hx] at e; cases e) (X a o e)
theorem ldC {M : Model} {s : Shared} {name : Str} {scope : Scope} {L a : Addr} {cd : Value} {m : Str → Option Value} {x : Str} {pos : Pos} {v : Value} {Q : Value → Shared → Prop} {A : Around} {E : Value → Shared → Prop} (hn : s.heap.Ns L m) (hv : m x = some v) (h : Q v s)
    (hk : scope.kind = .function := by rfl) (hl : (envOfC name scope L a cd).kindOf x = some .local := by rfl) (hd : (x == ("__debug__" : Str)) = false := by decide) :
    wpAny M A (eval (.Name x pos) (envOfC name scope L a cd)) Q E s := wpAny_Name (wpAny_loadName_local hk hl hn hv h) hd
/-- what __init__ leaves of a fresh exception at x -/
structure InitEnd (h h' : Heap) (x C dx t1 : Addr) (v : Value) : Prop where
  keep : ∀ b o, b ≠ x → h.get? b = some o → h'.get? b = some o
  obj : h'.get? x = some { cls := .ref C, dict := some dx, data := .fields #[.ref t1, .none, .none, .none, .bool false, .none] }
  dbig : h.objs.size ≤ dx
  dne : dx ≠ x
  ns : h'.Ns1 dx (fun y => if y = "at" then some v else none)
/-- a made Low -/
structure OwnMade (h h' : Heap) (e C d : Addr) (v : Value) : Prop where
  keep : ∀ b o, h.get? b = some o → h'.get? b = some o
  new : h.objs.size ≤ e
  obj : ∃ oe vs, h'.get? e = some oe ∧ oe.cls = .ref C ∧ oe.dict = some d ∧ oe.data = .fields vs ∧ vs[1]? = some .none
  dbig : h.objs.size ≤ d
  dne : d ≠ e
  ns : h'.Ns1 d (fun y => if y = "at" then some v else none)
section
variable {prog : Program} {w : World} {A : Around} {E : Value → Shared → Prop} {R : Result → Shared → Prop} {s : Shared} {K : Frag} {mg : Str → Option Value} {cn qn : Str} {C fI : Addr}
theorem low_init (T : ErTxt K mg cn qn C fI) {x t0 : Addr} {v : Value} (X : K.In s.heap) (hlim : s.heap.NoLimit) (hx : s.heap.get? x = some (excO C t0)) (hnx : K.lookup x = none) (hroom : A.depth < recursionLimit)
    (hq : ∀ h' tk dx, InitEnd s.heap h' x C dx t0 v → R (.ok (.ret .none)) { s with heap := h', toks := tk }) :
    codeAny (model prog w) A (.call (.ref fI) ⟨[.ref x, v], []⟩) R s := by
  obtain ⟨oc, od, doc, pm, an, cdv, ct, osl, p1, p2, q1, q2, q3, q4, ho, hcd⟩ := T.fn
  obtain ⟨nm, q, N, bs, bm, sn, sub, ab, col, dd, k0, k1, k2, k3, k5, hC, hbm⟩ := T.cls
  have hcl : clsIn K C = some { name := nm, bases := bs, mro := .ref C :: bm, ns := N, qualname := q, hasDict := true, slotNames := sn, subclasses := sub, abstract := ab, collection := col, hasDel := false } := by unfold clsIn; rw [hC] <;> rfl
  refine Att.call_fn (binds := [("self", .ref x), ("at", v)]) X hlim ho hcd hroom (BindsTo.of_eq (by first | rfl | with_unfolding_all rfl)) (by first | rfl | decide | with_unfolding_all rfl) (fun s₁ IC => ?_) rfl rfl rfl
  obtain ⟨h₁, tk₁, rfl⟩ := IC.toInCall.same
  have k : ∀ b o, s.heap.get? b = some o → h₁.get? b = some o := IC.toInCall.keep
  have hn := IC.toInCall.ns
  have hxL : s.heap.objs.size ≠ x := Nat.ne_of_gt (Heap.lt_size hx)
  have X₁ : K.In h₁ := X.keeps k
  have hx₁ := k _ _ hx
  -- self.by = by
  show wpAny _ _ (execs _ _) _ _ _
  refine wpAny_execs_cons (plainObj_wpAny_Assign_Attribute ?_)
  refine ldC (v := v) hn (by first | rfl | with_unfolding_all rfl | kernel_rfl) (ldC (v := .ref x) hn (by first | rfl | with_unfolding_all rfl | kernel_rfl) ?_)
  refine set_plain X₁ (ox := excO C t0) (od := none) ⟨hx₁, rfl, rfl, trivial⟩ T.sa ?_
  refine exc_osa X₁ hx₁ hcl (show refsVE (.ref C :: bm) = true from hbm) rfl T.noN (fun h₃ tk₃ dx k₃ dn dne hx₃ hn₃ => ?_)
  show wpAny _ _ (execs _ _) _ _ _
  have z : s.heap.objs.size < h₁.objs.size := hn.lt
  exact wpAny_execs_nil (hq h₃ tk₃ dx ⟨fun b o hb e => k₃ b o hb (k b o e), hx₃, Nat.le_of_lt (Nat.lt_of_lt_of_le z dn), dne, hn₃⟩)
theorem low_made (T : ErTxt K mg cn qn C fI) {v : Value} (X : K.In s.heap) (hlim : s.heap.NoLimit) (hroom : A.depth + 1 < recursionLimit)
    (hq : ∀ h' tk e d, OwnMade s.heap h' e C d v → R (.ok (.ret (.ref e))) { s with heap := h', toks := tk }) :
    codeAny (model prog w) A (.call (.ref C) ⟨[v], []⟩) R s := by
  obtain ⟨nm, q, N, bs, bm, sn, sub, ab, col, dd, k0, k1, k2, k3, k5, hC, hbm⟩ := T.cls
  obtain ⟨hp, g, dr, tk, os⟩ := s
  have k : ∀ b o, hp.get? b = some o → ((hp.push (kdv_tup [v])).push (excO C hp.objs.size)).get? b = some o := fun b o e => Heap.get?_push_of_some _ (Heap.get?_push_of_some _ e)
  have hget : ((hp.push (kdv_tup [v])).push (excO C hp.objs.size)).get? (hp.objs.size + 1) = some (excO C hp.objs.size) := by heap_get
  have hnx : K.lookup (hp.objs.size + 1) = none := by
    cases e : K.lookup (hp.objs.size + 1) with
    | none => rfl
    | some o =>
      have z : hp.get? (hp.objs.size + 1) = some o := X _ _ e
      exact absurd (Nat.lt_of_succ_lt (Heap.lt_size z)) (Nat.lt_irrefl _)
  refine call_own F.excBase_ValueError (fun X => refsVE_contains X bm hbm) (X _ _ hC) (looks_findIn X T.iC) (fun self => bind_fn X self T.tC) (one_size v) ?_
  refine low_init (s := ⟨(hp.push (kdv_tup [v])).push (excO C hp.objs.size), g, dr, tk, os⟩) T (X.keeps k) (hlim.keeps k) hget hnx ?_ fun h' tk' dx ⟨k', hx, dn, dne, hns⟩ => ?_
  · show A.depth + 1 < recursionLimit
    exact hroom
  · have old : ∀ b o, hp.get? b = some o → h'.get? b = some o := fun b o e => k' b o (Nat.ne_of_lt (Nat.lt_succ_of_lt (Heap.lt_size e))) (k b o e)
    have z : hp.objs.size + 1 + 1 ≤ dx := by
      first
        | (simpa only [Heap.size_push] using dn)
        | exact dn
        | (have q := dn; rw [Heap.size_push, Heap.size_push] at q; exact q)
    exact ⟨rfl, hq h' tk' (hp.objs.size + 1) dx ⟨old, Nat.le_succ _, ⟨_, _, hx, rfl, rfl, rfl, rfl⟩, Nat.le_trans (Nat.le_trans (Nat.le_succ _) (Nat.le_succ _)) z, dne, hns⟩⟩
end
end Erat
end PySem
namespace L2
open PySem PySem.Spec PyProof.Rows
theorem relO_low_at {v : V} {v' : Value} (r : RelV v v') (f : Str) : RelO (List.lookup f [(("at" : Str), v)]) (if f = "at" then some v' else none) := by
  by_cases hw : f = "at"
  · subst hw
    rw [if_pos rfl]
    have q : List.lookup ("at" : Str) [(("at" : Str), v)] = some v := by simp [List.lookup]
    rw [q]
    exact r
  · rw [if_neg hw]
    have qw : (f == ("at" : Str)) = false := by simpa using hw
    have q2 : List.lookup f [(("at" : Str), v)] = none := by simp [List.lookup, qw]
    rw [q2]
    trivial
section
variable {X : Cx} {cn qn : Str} {C fI : Addr}
/-- Low(e) -/
def tMkLow_at (C : Addr) (ta : TA) : St → Hp → XK → Prop := fun σ H Q => ta σ H fun vs H1 => ∃ v, vs = [v] ∧ ∀ d, H1 d = none → Q (.ref C) (some d) (upd H1 d (.xd [(("at" : Str), v)]))
theorem pmk_low_at {a : Expr} {ta : TA} {p pos : Pos} {k : Nat} (T : PySem.Erat.ErTxt X.K X.mg cn qn C fI) (hr : Room k X.A) (ha : PA X [a] ta) (hg : Gl X cn) (hdb : (cn == ("__debug__" : Str)) = false)
    (he : starEach (a :: []) X.env = (false, eval a X.env) :: starEach [] X.env := by rfl) (hpl : (backTo pos (starEach [] X.env)).any (·.1) = false := by rfl) :
    PMk X (.Call (.Name cn p) [a] [] pos) (tMkLow_at C ta) := by
  intro pins s σ H Q I h
  refine wpAny_Call_Name_kw (ld_glob I hg T.gC ?_ hdb)
  refine PySem.W.callWith_K (h₀ := X.base) I.ok.mod.kin T.kC (thn (ha.run pos pins s σ H _ I h) fun us s1 hh => ?_) he hpl
  obtain ⟨vs, H1, I1, r1, v, ev, q1⟩ := hh
  subst ev
  refine ⟨I1.kIn, ?_⟩
  cases r1 with
  | cons rv rn =>
    rename_i v' us'
    cases rn
    show wpAny _ _ (call (.ref C) [v']) _ _ _
    have hlim := I1.nolimit
    obtain ⟨hp, g, dr, tk, os⟩ := s1
    refine wpAny_call (PySem.Erat.low_made T I1.kIn hlim (by have := hr.dp; omega) fun h' tk' e d M => ?_)
    show MkP X pins σ Q (.ref e) ⟨h', g, dr, tk', os⟩
    obtain ⟨oe, fv, hoe, hc, hd, hdat, h1⟩ := M.obj
    have hns := M.ns
    obtain ⟨G', g1, g2⟩ := restrict h' fun b => decide (b ≠ e)
    have gk : ∀ b, b ≠ e → G'.get? b = h'.get? b := fun b hb => g1 b (decide_eq_true hb)
    have ge : G'.get? e = none := g2 e (by simp)
    have old : ∀ b o, hp.get? b = some o → G'.get? b = some o := fun b o q => (gk b (Nat.ne_of_lt (Nat.lt_of_lt_of_le (Heap.lt_size q) M.new))).trans (M.keep b o q)
    have ob : ObjOk X.prog X.w (upd H1 d (.xd [(("at" : Str), v)])) G' d (.xd [(("at" : Str), v)]) :=
      ⟨_, hns.at (fun o q => (gk d M.dne).trans q), fun f => relO_low_at rv f⟩
    have J : Inv X pins σ (upd H1 d (.xd [(("at" : Str), v)])) ⟨G', g, dr, tk', os⟩ := I1.laid (t' := tk') old M.dbig ob
    refine ⟨e, oe, fv, ⟨G', g, dr, tk', os⟩, _, .ref C, some d, rfl, J, fun b o q => ?_, ge, hoe, ⟨hc, hd⟩, hdat, h1, ?_, rfl, I1.bare, raises_own T.exC T.tyC, q1 d (I1.hok.fresh M.dbig)⟩
    · by_cases hb : b = e
      · have q' : G'.get? b = some o := q
        rw [hb, ge] at q'; cases q'
      · exact (gk b hb).symm.trans q
    · rw [upd_ne (Ne.symm M.dne)]
      exact I1.hok.fresh M.new
/-- raise Low(e) -/
def tRaiseLow_at (C : Addr) (W : WX) (ta : TA) : TS := fun _ σ H => tMkLow_at C ta σ H fun cls d H' => W cls d σ H'
theorem ps_raiseLow_at {a : Expr} {ta : TA} {W : WX} {p pos pos2 : Pos} {k : Nat} (hc : X.calm = true) (T : PySem.Erat.ErTxt X.K X.mg cn qn C fI) (hr : Room k X.A) (tk : Takes X W) (ha : PA X [a] ta) (hg : Gl X cn) (hdb : (cn == ("__debug__" : Str)) = false)
    (he : starEach (a :: []) X.env = (false, eval a X.env) :: starEach [] X.env := by rfl) (hpl : (backTo pos (starEach [] X.env)).any (·.1) = false := by rfl) :
    PS X (.Raise (some (.Call (.Name cn p) [a] [] pos)) none pos2) (tRaiseLow_at C W ta) := ps_raise hc tk (pmk_low_at T hr ha hg hdb he hpl)
/-- low.by, low the exception that the suite holds (at a; its class cls, its dict d) -/
def tByLow_at (C : Addr) (a : Addr) (cls : Value) (d : Option Addr) (te : TE) : TE := fun σ H Q => te σ H fun x H1 => x = .ref a ∧ cls = .ref C ∧ ∃ (dd : Addr) (v : V), d = some dd ∧ H1 dd = some (.xd [(("at" : Str), v)]) ∧ Q v H1
theorem pe_byLow_at {a : Addr} {oe : Obj} {cls : Value} {d : Option Addr} {pn : List (Addr × Obj)} {e : Expr} {te : TE} {pos : Pos} (T : PySem.Erat.ErTxt X.K X.mg cn qn C fI) (hz : Zc cls d oe) (hf : ∃ vs, oe.data = .fields vs) (he : PE (X.suite a ((a, oe) :: pn)) e te)
    (hb : attributeBase e "at" X.env (eval e X.env) = eval e X.env := by rfl) :
    PE (X.suite a ((a, oe) :: pn)) (.Attribute e "at" pos) (tByLow_at C a cls d te) := by
  refine ⟨fun pins s σ H Q I h => ?_⟩
  refine attr_of hb (thn (he.run pins s σ H _ I h) fun u s1 hh => ?_)
  obtain ⟨x, H1, I1, rx, ex, ec, dd, v, ed, ea, q⟩ := hh
  subst ex
  obtain rfl : u = Value.ref a := rx
  subst ec
  subst ed
  obtain ⟨ha, _⟩ := I1.pin (a, oe) (List.mem_append_left _ List.mem_cons_self)
  obtain ⟨vs, hd⟩ := hf
  have hx : ObjOk X.prog X.w H1 s1.heap dd (.xd [(("at" : Str), v)]) := I1.hok dd _ ea
  obtain ⟨mA, hns, hr⟩ := hx
  obtain ⟨od, ho, hl⟩ := lookIn_ns hns
  have l : List.lookup ("at" : Str) [(("at" : Str), v)] = some v := by simp [List.lookup]
  obtain ⟨u, hu, ru⟩ := RelO.some_of (v := v) (o := mA "at") (by rw [← l]; exact hr "at")
  have J : PySem.W.InstAt s1.heap a oe C (some od) := ⟨ha, hz.1, by unfold PySem.W.notCls; rw [hd] <;> rfl, by rw [hz.2]; exact ho⟩
  exact HandSPX.exc_get I1.kIn J T.ga T.gg T.exC (PySem.W.findObj_own T.hdC T.noN rfl (by rw [hl, hu])) (handed_of ru) ⟨v, H1, I1.tok _, ru, q⟩
end
end L2


namespace PySem
namespace Erlimit
open PySem.W PySem.Calls PyProof.Rows PySem.HandSPX
/-! ### the text of __init__ -/
def iA (p1 p2 : Pos) : Arguments := { posonlyargs := [], args := [{ arg := "self", annotation := none, pos := p1 }, { arg := "limit", annotation := none, pos := p2 }], vararg := none, kwonlyargs := [], kw_defaults := [], kwarg := none, defaults := [] }
def iB (q1 q2 q3 q4 : Pos) : List Stmt := [.Assign [.Attribute (.Name "self" q1) "limit" q2] (.Name "limit" q3) q4]
def iS : Scope := { kind := .function, names := [(PySem.Str.ofString "self", .local), (PySem.Str.ofString "limit", .local)], isGenerator := false, isCoroutine := false, more := [] }
/-- what the written part says of Low, at C, and of its __init__, at fI -/
structure ErTxt (K : Frag) (mg : Str → Option Value) (cn qn : Str) (C fI : Addr) : Prop where
  gC : mg cn = some (.ref C)
  cls : ∃ nm q N bs bm sn sub ab col dd k0 k1 k2 k3 k5, K.lookup C = some (excClassObj nm q C N bs bm true sn sub ab col dd k0 k1 k2 k3 k5 "ValueError.__new__") ∧ refsVE bm = true
  sa : findIn K (.ref C) "__setattr__" = some (some (.builtin "object.__setattr__"))
  ga : findIn K (.ref C) "__getattribute__" = some (some (.builtin "BaseException.__getattribute__"))
  gg : findIn K (.ref C) "__getattr__" = some none
  noN : findIn K (.ref C) "limit" = some none
  iC : findIn K (.ref C) "__init__" = some (some (.ref fI))
  tC : typeIn K (.ref fI) = some (.type "function")
  kC : keepIn K (.ref C) = true
  exC : subIn K (.ref C) (.type "BaseException") = some true
  tyC : typeIn K (.ref C) = some (.type "type")
  hdC : hasDictIn K C = true
  fn : ∃ (oc : Value) (od : Option Addr) (doc pm : Value) (an : Option Addr) (cdv ct : Value) (osl : Array (Option Value)) (p1 p2 q1 q2 q3 q4 : Pos),
    K.lookup fI = some ⟨oc, od, .func (fnOf "__init__" qn (iA p1 p2) (iB q1 q2 q3 q4) iS .none .none doc pm an cdv ct), osl⟩ ∧ codeIn K cdv qn = true
theorem one_size (v : Value) : [v].length ≤ sizeLine := by
  rw [sizeLine_eq]
  exact (by decide : 1 ≤ 16777216)
theorem kept_but {K : Frag} {h h' : Heap} {x : Addr} (X : K.In h) (hx : K.lookup x = none) (k : ∀ b o, b ≠ x → h.get? b = some o → h'.get? b = some o) : K.In h' := fun a o e =>
  k a o (fun z => by rw [z, hx] at e; cases e) (X a o e)
theorem ldC {M : Model} {s : Shared} {name : Str} {scope : Scope} {L a : Addr} {cd : Value} {m : Str → Option Value} {x : Str} {pos : Pos} {v : Value} {Q : Value → Shared → Prop} {A : Around} {E : Value → Shared → Prop} (hn : s.heap.Ns L m) (hv : m x = some v) (h : Q v s)
    (hk : scope.kind = .function := by rfl) (hl : (envOfC name scope L a cd).kindOf x = some .local := by rfl) (hd : (x == ("__debug__" : Str)) = false := by decide) :
    wpAny M A (eval (.Name x pos) (envOfC name scope L a cd)) Q E s := wpAny_Name (wpAny_loadName_local hk hl hn hv h) hd
/-- what __init__ leaves of a fresh exception at x -/
structure InitEnd (h h' : Heap) (x C dx t1 : Addr) (v : Value) : Prop where
  keep : ∀ b o, b ≠ x → h.get? b = some o → h'.get? b = some o
  obj : h'.get? x = some { cls := .ref C, dict := some dx, data := .fields #[.ref t1, .none, .none, .none, .bool false, .none] }
  dbig : h.objs.size ≤ dx
  dne : dx ≠ x
  ns : h'.Ns1 dx (fun y => if y = "limit" then some v else none)
/-- a made Low -/
structure OwnMade (h h' : Heap) (e C d : Addr) (v : Value) : Prop where
  keep : ∀ b o, h.get? b = some o → h'.get? b = some o
  new : h.objs.size ≤ e
  obj : ∃ oe vs, h'.get? e = some oe ∧ oe.cls = .ref C ∧ oe.dict = some d ∧ oe.data = .fields vs ∧ vs[1]? = some .none
  dbig : h.objs.size ≤ d
  dne : d ≠ e
  ns : h'.Ns1 d (fun y => if y = "limit" then some v else none)
section
variable {prog : Program} {w : World} {A : Around} {E : Value → Shared → Prop} {R : Result → Shared → Prop} {s : Shared} {K : Frag} {mg : Str → Option Value} {cn qn : Str} {C fI : Addr}
theorem low_init (T : ErTxt K mg cn qn C fI) {x t0 : Addr} {v : Value} (X : K.In s.heap) (hlim : s.heap.NoLimit) (hx : s.heap.get? x = some (excO C t0)) (hnx : K.lookup x = none) (hroom : A.depth < recursionLimit)
    (hq : ∀ h' tk dx, InitEnd s.heap h' x C dx t0 v → R (.ok (.ret .none)) { s with heap := h', toks := tk }) :
    codeAny (model prog w) A (.call (.ref fI) ⟨[.ref x, v], []⟩) R s := by
  obtain ⟨oc, od, doc, pm, an, cdv, ct, osl, p1, p2, q1, q2, q3, q4, ho, hcd⟩ := T.fn
  obtain ⟨nm, q, N, bs, bm, sn, sub, ab, col, dd, k0, k1, k2, k3, k5, hC, hbm⟩ := T.cls
  have hcl : clsIn K C = some { name := nm, bases := bs, mro := .ref C :: bm, ns := N, qualname := q, hasDict := true, slotNames := sn, subclasses := sub, abstract := ab, collection := col, hasDel := false } := by unfold clsIn; rw [hC] <;> rfl
  refine Att.call_fn (binds := [("self", .ref x), ("limit", v)]) X hlim ho hcd hroom (BindsTo.of_eq (by first | rfl | with_unfolding_all rfl)) (by first | rfl | decide | with_unfolding_all rfl) (fun s₁ IC => ?_) rfl rfl rfl
  obtain ⟨h₁, tk₁, rfl⟩ := IC.toInCall.same
  have k : ∀ b o, s.heap.get? b = some o → h₁.get? b = some o := IC.toInCall.keep
  have hn := IC.toInCall.ns
  have hxL : s.heap.objs.size ≠ x := Nat.ne_of_gt (Heap.lt_size hx)
  have X₁ : K.In h₁ := X.keeps k
  have hx₁ := k _ _ hx
  -- self.by = by
  show wpAny _ _ (execs _ _) _ _ _
  refine wpAny_execs_cons (plainObj_wpAny_Assign_Attribute ?_)
  refine ldC (v := v) hn (by first | rfl | with_unfolding_all rfl | kernel_rfl) (ldC (v := .ref x) hn (by first | rfl | with_unfolding_all rfl | kernel_rfl) ?_)
  refine set_plain X₁ (ox := excO C t0) (od := none) ⟨hx₁, rfl, rfl, trivial⟩ T.sa ?_
  refine exc_osa X₁ hx₁ hcl (show refsVE (.ref C :: bm) = true from hbm) rfl T.noN (fun h₃ tk₃ dx k₃ dn dne hx₃ hn₃ => ?_)
  show wpAny _ _ (execs _ _) _ _ _
  have z : s.heap.objs.size < h₁.objs.size := hn.lt
  exact wpAny_execs_nil (hq h₃ tk₃ dx ⟨fun b o hb e => k₃ b o hb (k b o e), hx₃, Nat.le_of_lt (Nat.lt_of_lt_of_le z dn), dne, hn₃⟩)
theorem low_made (T : ErTxt K mg cn qn C fI) {v : Value} (X : K.In s.heap) (hlim : s.heap.NoLimit) (hroom : A.depth + 1 < recursionLimit)
    (hq : ∀ h' tk e d, OwnMade s.heap h' e C d v → R (.ok (.ret (.ref e))) { s with heap := h', toks := tk }) :
    codeAny (model prog w) A (.call (.ref C) ⟨[v], []⟩) R s := by
  obtain ⟨nm, q, N, bs, bm, sn, sub, ab, col, dd, k0, k1, k2, k3, k5, hC, hbm⟩ := T.cls
  obtain ⟨hp, g, dr, tk, os⟩ := s
  have k : ∀ b o, hp.get? b = some o → ((hp.push (kdv_tup [v])).push (excO C hp.objs.size)).get? b = some o := fun b o e => Heap.get?_push_of_some _ (Heap.get?_push_of_some _ e)
  have hget : ((hp.push (kdv_tup [v])).push (excO C hp.objs.size)).get? (hp.objs.size + 1) = some (excO C hp.objs.size) := by heap_get
  have hnx : K.lookup (hp.objs.size + 1) = none := by
    cases e : K.lookup (hp.objs.size + 1) with
    | none => rfl
    | some o =>
      have z : hp.get? (hp.objs.size + 1) = some o := X _ _ e
      exact absurd (Nat.lt_of_succ_lt (Heap.lt_size z)) (Nat.lt_irrefl _)
  refine call_own F.excBase_ValueError (fun X => refsVE_contains X bm hbm) (X _ _ hC) (looks_findIn X T.iC) (fun self => bind_fn X self T.tC) (one_size v) ?_
  refine low_init (s := ⟨(hp.push (kdv_tup [v])).push (excO C hp.objs.size), g, dr, tk, os⟩) T (X.keeps k) (hlim.keeps k) hget hnx ?_ fun h' tk' dx ⟨k', hx, dn, dne, hns⟩ => ?_
  · show A.depth + 1 < recursionLimit
    exact hroom
  · have old : ∀ b o, hp.get? b = some o → h'.get? b = some o := fun b o e => k' b o (Nat.ne_of_lt (Nat.lt_succ_of_lt (Heap.lt_size e))) (k b o e)
    have z : hp.objs.size + 1 + 1 ≤ dx := by
      first
        | (simpa only [Heap.size_push] using dn)
        | exact dn
        | (have q := dn; rw [Heap.size_push, Heap.size_push] at q; exact q)
    exact ⟨rfl, hq h' tk' (hp.objs.size + 1) dx ⟨old, Nat.le_succ _, ⟨_, _, hx, rfl, rfl, rfl, rfl⟩, Nat.le_trans (Nat.le_trans (Nat.le_succ _) (Nat.le_succ _)) z, dne, hns⟩⟩
end
end Erlimit
end PySem
namespace L2
open PySem PySem.Spec PyProof.Rows
theorem relO_low_limit {v : V} {v' : Value} (r : RelV v v') (f : Str) : RelO (List.lookup f [(("limit" : Str), v)]) (if f = "limit" then some v' else none) := by
  by_cases hw : f = "limit"
  · subst hw
    rw [if_pos rfl]
    have q : List.lookup ("limit" : Str) [(("limit" : Str), v)] = some v := by simp [List.lookup]
    rw [q]
    exact r
  · rw [if_neg hw]
    have qw : (f == ("limit" : Str)) = false := by simpa using hw
    have q2 : List.lookup f [(("limit" : Str), v)] = none := by simp [List.lookup, qw]
    rw [q2]
    trivial
section
variable {X : Cx} {cn qn : Str} {C fI : Addr}
/-- Low(e) -/
def tMkLow_limit (C : Addr) (ta : TA) : St → Hp → XK → Prop := fun σ H Q => ta σ H fun vs H1 => ∃ v, vs = [v] ∧ ∀ d, H1 d = none → Q (.ref C) (some d) (upd H1 d (.xd [(("limit" : Str), v)]))
theorem pmk_low_limit {a : Expr} {ta : TA} {p pos : Pos} {k : Nat} (T : PySem.Erlimit.ErTxt X.K X.mg cn qn C fI) (hr : Room k X.A) (ha : PA X [a] ta) (hg : Gl X cn) (hdb : (cn == ("__debug__" : Str)) = false)
    (he : starEach (a :: []) X.env = (false, eval a X.env) :: starEach [] X.env := by rfl) (hpl : (backTo pos (starEach [] X.env)).any (·.1) = false := by rfl) :
    PMk X (.Call (.Name cn p) [a] [] pos) (tMkLow_limit C ta) := by
  intro pins s σ H Q I h
  refine wpAny_Call_Name_kw (ld_glob I hg T.gC ?_ hdb)
  refine PySem.W.callWith_K (h₀ := X.base) I.ok.mod.kin T.kC (thn (ha.run pos pins s σ H _ I h) fun us s1 hh => ?_) he hpl
  obtain ⟨vs, H1, I1, r1, v, ev, q1⟩ := hh
  subst ev
  refine ⟨I1.kIn, ?_⟩
  cases r1 with
  | cons rv rn =>
    rename_i v' us'
    cases rn
    show wpAny _ _ (call (.ref C) [v']) _ _ _
    have hlim := I1.nolimit
    obtain ⟨hp, g, dr, tk, os⟩ := s1
    refine wpAny_call (PySem.Erlimit.low_made T I1.kIn hlim (by have := hr.dp; omega) fun h' tk' e d M => ?_)
    show MkP X pins σ Q (.ref e) ⟨h', g, dr, tk', os⟩
    obtain ⟨oe, fv, hoe, hc, hd, hdat, h1⟩ := M.obj
    have hns := M.ns
    obtain ⟨G', g1, g2⟩ := restrict h' fun b => decide (b ≠ e)
    have gk : ∀ b, b ≠ e → G'.get? b = h'.get? b := fun b hb => g1 b (decide_eq_true hb)
    have ge : G'.get? e = none := g2 e (by simp)
    have old : ∀ b o, hp.get? b = some o → G'.get? b = some o := fun b o q => (gk b (Nat.ne_of_lt (Nat.lt_of_lt_of_le (Heap.lt_size q) M.new))).trans (M.keep b o q)
    have ob : ObjOk X.prog X.w (upd H1 d (.xd [(("limit" : Str), v)])) G' d (.xd [(("limit" : Str), v)]) :=
      ⟨_, hns.at (fun o q => (gk d M.dne).trans q), fun f => relO_low_limit rv f⟩
    have J : Inv X pins σ (upd H1 d (.xd [(("limit" : Str), v)])) ⟨G', g, dr, tk', os⟩ := I1.laid (t' := tk') old M.dbig ob
    refine ⟨e, oe, fv, ⟨G', g, dr, tk', os⟩, _, .ref C, some d, rfl, J, fun b o q => ?_, ge, hoe, ⟨hc, hd⟩, hdat, h1, ?_, rfl, I1.bare, raises_own T.exC T.tyC, q1 d (I1.hok.fresh M.dbig)⟩
    · by_cases hb : b = e
      · have q' : G'.get? b = some o := q
        rw [hb, ge] at q'; cases q'
      · exact (gk b hb).symm.trans q
    · rw [upd_ne (Ne.symm M.dne)]
      exact I1.hok.fresh M.new
/-- raise Low(e) -/
def tRaiseLow_limit (C : Addr) (W : WX) (ta : TA) : TS := fun _ σ H => tMkLow_limit C ta σ H fun cls d H' => W cls d σ H'
theorem ps_raiseLow_limit {a : Expr} {ta : TA} {W : WX} {p pos pos2 : Pos} {k : Nat} (hc : X.calm = true) (T : PySem.Erlimit.ErTxt X.K X.mg cn qn C fI) (hr : Room k X.A) (tk : Takes X W) (ha : PA X [a] ta) (hg : Gl X cn) (hdb : (cn == ("__debug__" : Str)) = false)
    (he : starEach (a :: []) X.env = (false, eval a X.env) :: starEach [] X.env := by rfl) (hpl : (backTo pos (starEach [] X.env)).any (·.1) = false := by rfl) :
    PS X (.Raise (some (.Call (.Name cn p) [a] [] pos)) none pos2) (tRaiseLow_limit C W ta) := ps_raise hc tk (pmk_low_limit T hr ha hg hdb he hpl)
/-- low.by, low the exception that the suite holds (at a; its class cls, its dict d) -/
def tByLow_limit (C : Addr) (a : Addr) (cls : Value) (d : Option Addr) (te : TE) : TE := fun σ H Q => te σ H fun x H1 => x = .ref a ∧ cls = .ref C ∧ ∃ (dd : Addr) (v : V), d = some dd ∧ H1 dd = some (.xd [(("limit" : Str), v)]) ∧ Q v H1
theorem pe_byLow_limit {a : Addr} {oe : Obj} {cls : Value} {d : Option Addr} {pn : List (Addr × Obj)} {e : Expr} {te : TE} {pos : Pos} (T : PySem.Erlimit.ErTxt X.K X.mg cn qn C fI) (hz : Zc cls d oe) (hf : ∃ vs, oe.data = .fields vs) (he : PE (X.suite a ((a, oe) :: pn)) e te)
    (hb : attributeBase e "limit" X.env (eval e X.env) = eval e X.env := by rfl) :
    PE (X.suite a ((a, oe) :: pn)) (.Attribute e "limit" pos) (tByLow_limit C a cls d te) := by
  refine ⟨fun pins s σ H Q I h => ?_⟩
  refine attr_of hb (thn (he.run pins s σ H _ I h) fun u s1 hh => ?_)
  obtain ⟨x, H1, I1, rx, ex, ec, dd, v, ed, ea, q⟩ := hh
  subst ex
  obtain rfl : u = Value.ref a := rx
  subst ec
  subst ed
  obtain ⟨ha, _⟩ := I1.pin (a, oe) (List.mem_append_left _ List.mem_cons_self)
  obtain ⟨vs, hd⟩ := hf
  have hx : ObjOk X.prog X.w H1 s1.heap dd (.xd [(("limit" : Str), v)]) := I1.hok dd _ ea
  obtain ⟨mA, hns, hr⟩ := hx
  obtain ⟨od, ho, hl⟩ := lookIn_ns hns
  have l : List.lookup ("limit" : Str) [(("limit" : Str), v)] = some v := by simp [List.lookup]
  obtain ⟨u, hu, ru⟩ := RelO.some_of (v := v) (o := mA "limit") (by rw [← l]; exact hr "limit")
  have J : PySem.W.InstAt s1.heap a oe C (some od) := ⟨ha, hz.1, by unfold PySem.W.notCls; rw [hd] <;> rfl, by rw [hz.2]; exact ho⟩
  exact HandSPX.exc_get I1.kIn J T.ga T.gg T.exC (PySem.W.findObj_own T.hdC T.noN rfl (by rw [hl, hu])) (handed_of ru) ⟨v, H1, I1.tok _, ru, q⟩
end
end L2


namespace PySem
namespace Ernumber
open PySem.W PySem.Calls PyProof.Rows PySem.HandSPX
/-! ### the text of __init__ -/
def iA (p1 p2 : Pos) : Arguments := { posonlyargs := [], args := [{ arg := "self", annotation := none, pos := p1 }, { arg := "number", annotation := none, pos := p2 }], vararg := none, kwonlyargs := [], kw_defaults := [], kwarg := none, defaults := [] }
def iB (q1 q2 q3 q4 : Pos) : List Stmt := [.Assign [.Attribute (.Name "self" q1) "number" q2] (.Name "number" q3) q4]
def iS : Scope := { kind := .function, names := [(PySem.Str.ofString "self", .local), (PySem.Str.ofString "number", .local)], isGenerator := false, isCoroutine := false, more := [] }
/-- what the written part says of Low, at C, and of its __init__, at fI -/
structure ErTxt (K : Frag) (mg : Str → Option Value) (cn qn : Str) (C fI : Addr) : Prop where
  gC : mg cn = some (.ref C)
  cls : ∃ nm q N bs bm sn sub ab col dd k0 k1 k2 k3 k5, K.lookup C = some (excClassObj nm q C N bs bm true sn sub ab col dd k0 k1 k2 k3 k5 "ValueError.__new__") ∧ refsVE bm = true
  sa : findIn K (.ref C) "__setattr__" = some (some (.builtin "object.__setattr__"))
  ga : findIn K (.ref C) "__getattribute__" = some (some (.builtin "BaseException.__getattribute__"))
  gg : findIn K (.ref C) "__getattr__" = some none
  noN : findIn K (.ref C) "number" = some none
  iC : findIn K (.ref C) "__init__" = some (some (.ref fI))
  tC : typeIn K (.ref fI) = some (.type "function")
  kC : keepIn K (.ref C) = true
  exC : subIn K (.ref C) (.type "BaseException") = some true
  tyC : typeIn K (.ref C) = some (.type "type")
  hdC : hasDictIn K C = true
  fn : ∃ (oc : Value) (od : Option Addr) (doc pm : Value) (an : Option Addr) (cdv ct : Value) (osl : Array (Option Value)) (p1 p2 q1 q2 q3 q4 : Pos),
    K.lookup fI = some ⟨oc, od, .func (fnOf "__init__" qn (iA p1 p2) (iB q1 q2 q3 q4) iS .none .none doc pm an cdv ct), osl⟩ ∧ codeIn K cdv qn = true
theorem one_size (v : Value) : [v].length ≤ sizeLine := by
  rw [sizeLine_eq]
  exact (by decide : 1 ≤ 16777216)
theorem kept_but {K : Frag} {h h' : Heap} {x : Addr} (X : K.In h) (hx : K.lookup x = none) (k : ∀ b o, b ≠ x → h.get? b = some o → h'.get? b = some o) : K.In h' := fun a o e =>
  k a o (fun z => by rw [z, hx] at e; cases e) (X a o e)
theorem ldC {M : Model} {s : Shared} {name : Str} {scope : Scope} {L a : Addr} {cd : Value} {m : Str → Option Value} {x : Str} {pos : Pos} {v : Value} {Q : Value → Shared → Prop} {A : Around} {E : Value → Shared → Prop} (hn : s.heap.Ns L m) (hv : m x = some v) (h : Q v s)
    (hk : scope.kind = .function := by rfl) (hl : (envOfC name scope L a cd).kindOf x = some .local := by rfl) (hd : (x == ("__debug__" : Str)) = false := by decide) :
    wpAny M A (eval (.Name x pos) (envOfC name scope L a cd)) Q E s := wpAny_Name (wpAny_loadName_local hk hl hn hv h) hd
/-- what __init__ leaves of a fresh exception at x -/
structure InitEnd (h h' : Heap) (x C dx t1 : Addr) (v : Value) : Prop where
  keep : ∀ b o, b ≠ x → h.get? b = some o → h'.get? b = some o
  obj : h'.get? x = some { cls := .ref C, dict := some dx, data := .fields #[.ref t1, .none, .none, .none, .bool false, .none] }
  dbig : h.objs.size ≤ dx
  dne : dx ≠ x
  ns : h'.Ns1 dx (fun y => if y = "number" then some v else none)
/-- a made Low -/
structure OwnMade (h h' : Heap) (e C d : Addr) (v : Value) : Prop where
  keep : ∀ b o, h.get? b = some o → h'.get? b = some o
  new : h.objs.size ≤ e
  obj : ∃ oe vs, h'.get? e = some oe ∧ oe.cls = .ref C ∧ oe.dict = some d ∧ oe.data = .fields vs ∧ vs[1]? = some .none
  dbig : h.objs.size ≤ d
  dne : d ≠ e
  ns : h'.Ns1 d (fun y => if y = "number" then some v else none)
section
variable {prog : Program} {w : World} {A : Around} {E : Value → Shared → Prop} {R : Result → Shared → Prop} {s : Shared} {K : Frag} {mg : Str → Option Value} {cn qn : Str} {C fI : Addr}
theorem low_init (T : ErTxt K mg cn qn C fI) {x t0 : Addr} {v : Value} (X : K.In s.heap) (hlim : s.heap.NoLimit) (hx : s.heap.get? x = some (excO C t0)) (hnx : K.lookup x = none) (hroom : A.depth < recursionLimit)
    (hq : ∀ h' tk dx, InitEnd s.heap h' x C dx t0 v → R (.ok (.ret .none)) { s with heap := h', toks := tk }) :
    codeAny (model prog w) A (.call (.ref fI) ⟨[.ref x, v], []⟩) R s := by
  obtain ⟨oc, od, doc, pm, an, cdv, ct, osl, p1, p2, q1, q2, q3, q4, ho, hcd⟩ := T.fn
  obtain ⟨nm, q, N, bs, bm, sn, sub, ab, col, dd, k0, k1, k2, k3, k5, hC, hbm⟩ := T.cls
  have hcl : clsIn K C = some { name := nm, bases := bs, mro := .ref C :: bm, ns := N, qualname := q, hasDict := true, slotNames := sn, subclasses := sub, abstract := ab, collection := col, hasDel := false } := by unfold clsIn; rw [hC] <;> rfl
  refine Att.call_fn (binds := [("self", .ref x), ("number", v)]) X hlim ho hcd hroom (BindsTo.of_eq (by first | rfl | with_unfolding_all rfl)) (by first | rfl | decide | with_unfolding_all rfl) (fun s₁ IC => ?_) rfl rfl rfl
  obtain ⟨h₁, tk₁, rfl⟩ := IC.toInCall.same
  have k : ∀ b o, s.heap.get? b = some o → h₁.get? b = some o := IC.toInCall.keep
  have hn := IC.toInCall.ns
  have hxL : s.heap.objs.size ≠ x := Nat.ne_of_gt (Heap.lt_size hx)
  have X₁ : K.In h₁ := X.keeps k
  have hx₁ := k _ _ hx
  -- self.by = by
  show wpAny _ _ (execs _ _) _ _ _
  refine wpAny_execs_cons (plainObj_wpAny_Assign_Attribute ?_)
  refine ldC (v := v) hn (by first | rfl | with_unfolding_all rfl | kernel_rfl) (ldC (v := .ref x) hn (by first | rfl | with_unfolding_all rfl | kernel_rfl) ?_)
  refine set_plain X₁ (ox := excO C t0) (od := none) ⟨hx₁, rfl, rfl, trivial⟩ T.sa ?_
  refine exc_osa X₁ hx₁ hcl (show refsVE (.ref C :: bm) = true from hbm) rfl T.noN (fun h₃ tk₃ dx k₃ dn dne hx₃ hn₃ => ?_)
  show wpAny _ _ (execs _ _) _ _ _
  have z : s.heap.objs.size < h₁.objs.size := hn.lt
  exact wpAny_execs_nil (hq h₃ tk₃ dx ⟨fun b o hb e => k₃ b o hb (k b o e), hx₃, Nat.le_of_lt (Nat.lt_of_lt_of_le z dn), dne, hn₃⟩)
theorem low_made (T : ErTxt K mg cn qn C fI) {v : Value} (X : K.In s.heap) (hlim : s.heap.NoLimit) (hroom : A.depth + 1 < recursionLimit)
    (hq : ∀ h' tk e d, OwnMade s.heap h' e C d v → R (.ok (.ret (.ref e))) { s with heap := h', toks := tk }) :
    codeAny (model prog w) A (.call (.ref C) ⟨[v], []⟩) R s := by
  obtain ⟨nm, q, N, bs, bm, sn, sub, ab, col, dd, k0, k1, k2, k3, k5, hC, hbm⟩ := T.cls
  obtain ⟨hp, g, dr, tk, os⟩ := s
  have k : ∀ b o, hp.get? b = some o → ((hp.push (kdv_tup [v])).push (excO C hp.objs.size)).get? b = some o := fun b o e => Heap.get?_push_of_some _ (Heap.get?_push_of_some _ e)
  have hget : ((hp.push (kdv_tup [v])).push (excO C hp.objs.size)).get? (hp.objs.size + 1) = some (excO C hp.objs.size) := by heap_get
  have hnx : K.lookup (hp.objs.size + 1) = none := by
    cases e : K.lookup (hp.objs.size + 1) with
    | none => rfl
    | some o =>
      have z : hp.get? (hp.objs.size + 1) = some o := X _ _ e
      exact absurd (Nat.lt_of_succ_lt (Heap.lt_size z)) (Nat.lt_irrefl _)
  refine call_own F.excBase_ValueError (fun X => refsVE_contains X bm hbm) (X _ _ hC) (looks_findIn X T.iC) (fun self => bind_fn X self T.tC) (one_size v) ?_
  refine low_init (s := ⟨(hp.push (kdv_tup [v])).push (excO C hp.objs.size), g, dr, tk, os⟩) T (X.keeps k) (hlim.keeps k) hget hnx ?_ fun h' tk' dx ⟨k', hx, dn, dne, hns⟩ => ?_
  · show A.depth + 1 < recursionLimit
    exact hroom
  · have old : ∀ b o, hp.get? b = some o → h'.get? b = some o := fun b o e => k' b o (Nat.ne_of_lt (Nat.lt_succ_of_lt (Heap.lt_size e))) (k b o e)
    have z : hp.objs.size + 1 + 1 ≤ dx := by
      first
        | (simpa only [Heap.size_push] using dn)
        | exact dn
        | (have q := dn; rw [Heap.size_push, Heap.size_push] at q; exact q)
    exact ⟨rfl, hq h' tk' (hp.objs.size + 1) dx ⟨old, Nat.le_succ _, ⟨_, _, hx, rfl, rfl, rfl, rfl⟩, Nat.le_trans (Nat.le_trans (Nat.le_succ _) (Nat.le_succ _)) z, dne, hns⟩⟩
end
end Ernumber
end PySem
namespace L2
open PySem PySem.Spec PyProof.Rows
theorem relO_low_number {v : V} {v' : Value} (r : RelV v v') (f : Str) : RelO (List.lookup f [(("number" : Str), v)]) (if f = "number" then some v' else none) := by
  by_cases hw : f = "number"
  · subst hw
    rw [if_pos rfl]
    have q : List.lookup ("number" : Str) [(("number" : Str), v)] = some v := by simp [List.lookup]
    rw [q]
    exact r
  · rw [if_neg hw]
    have qw : (f == ("number" : Str)) = false := by simpa using hw
    have q2 : List.lookup f [(("number" : Str), v)] = none := by simp [List.lookup, qw]
    rw [q2]
    trivial
section
variable {X : Cx} {cn qn : Str} {C fI : Addr}
/-- Low(e) -/
def tMkLow_number (C : Addr) (ta : TA) : St → Hp → XK → Prop := fun σ H Q => ta σ H fun vs H1 => ∃ v, vs = [v] ∧ ∀ d, H1 d = none → Q (.ref C) (some d) (upd H1 d (.xd [(("number" : Str), v)]))
theorem pmk_low_number {a : Expr} {ta : TA} {p pos : Pos} {k : Nat} (T : PySem.Ernumber.ErTxt X.K X.mg cn qn C fI) (hr : Room k X.A) (ha : PA X [a] ta) (hg : Gl X cn) (hdb : (cn == ("__debug__" : Str)) = false)
    (he : starEach (a :: []) X.env = (false, eval a X.env) :: starEach [] X.env := by rfl) (hpl : (backTo pos (starEach [] X.env)).any (·.1) = false := by rfl) :
    PMk X (.Call (.Name cn p) [a] [] pos) (tMkLow_number C ta) := by
  intro pins s σ H Q I h
  refine wpAny_Call_Name_kw (ld_glob I hg T.gC ?_ hdb)
  refine PySem.W.callWith_K (h₀ := X.base) I.ok.mod.kin T.kC (thn (ha.run pos pins s σ H _ I h) fun us s1 hh => ?_) he hpl
  obtain ⟨vs, H1, I1, r1, v, ev, q1⟩ := hh
  subst ev
  refine ⟨I1.kIn, ?_⟩
  cases r1 with
  | cons rv rn =>
    rename_i v' us'
    cases rn
    show wpAny _ _ (call (.ref C) [v']) _ _ _
    have hlim := I1.nolimit
    obtain ⟨hp, g, dr, tk, os⟩ := s1
    refine wpAny_call (PySem.Ernumber.low_made T I1.kIn hlim (by have := hr.dp; omega) fun h' tk' e d M => ?_)
    show MkP X pins σ Q (.ref e) ⟨h', g, dr, tk', os⟩
    obtain ⟨oe, fv, hoe, hc, hd, hdat, h1⟩ := M.obj
    have hns := M.ns
    obtain ⟨G', g1, g2⟩ := restrict h' fun b => decide (b ≠ e)
    have gk : ∀ b, b ≠ e → G'.get? b = h'.get? b := fun b hb => g1 b (decide_eq_true hb)
    have ge : G'.get? e = none := g2 e (by simp)
    have old : ∀ b o, hp.get? b = some o → G'.get? b = some o := fun b o q => (gk b (Nat.ne_of_lt (Nat.lt_of_lt_of_le (Heap.lt_size q) M.new))).trans (M.keep b o q)
    have ob : ObjOk X.prog X.w (upd H1 d (.xd [(("number" : Str), v)])) G' d (.xd [(("number" : Str), v)]) :=
      ⟨_, hns.at (fun o q => (gk d M.dne).trans q), fun f => relO_low_number rv f⟩
    have J : Inv X pins σ (upd H1 d (.xd [(("number" : Str), v)])) ⟨G', g, dr, tk', os⟩ := I1.laid (t' := tk') old M.dbig ob
    refine ⟨e, oe, fv, ⟨G', g, dr, tk', os⟩, _, .ref C, some d, rfl, J, fun b o q => ?_, ge, hoe, ⟨hc, hd⟩, hdat, h1, ?_, rfl, I1.bare, raises_own T.exC T.tyC, q1 d (I1.hok.fresh M.dbig)⟩
    · by_cases hb : b = e
      · have q' : G'.get? b = some o := q
        rw [hb, ge] at q'; cases q'
      · exact (gk b hb).symm.trans q
    · rw [upd_ne (Ne.symm M.dne)]
      exact I1.hok.fresh M.new
/-- raise Low(e) -/
def tRaiseLow_number (C : Addr) (W : WX) (ta : TA) : TS := fun _ σ H => tMkLow_number C ta σ H fun cls d H' => W cls d σ H'
theorem ps_raiseLow_number {a : Expr} {ta : TA} {W : WX} {p pos pos2 : Pos} {k : Nat} (hc : X.calm = true) (T : PySem.Ernumber.ErTxt X.K X.mg cn qn C fI) (hr : Room k X.A) (tk : Takes X W) (ha : PA X [a] ta) (hg : Gl X cn) (hdb : (cn == ("__debug__" : Str)) = false)
    (he : starEach (a :: []) X.env = (false, eval a X.env) :: starEach [] X.env := by rfl) (hpl : (backTo pos (starEach [] X.env)).any (·.1) = false := by rfl) :
    PS X (.Raise (some (.Call (.Name cn p) [a] [] pos)) none pos2) (tRaiseLow_number C W ta) := ps_raise hc tk (pmk_low_number T hr ha hg hdb he hpl)
/-- low.by, low the exception that the suite holds (at a; its class cls, its dict d) -/
def tByLow_number (C : Addr) (a : Addr) (cls : Value) (d : Option Addr) (te : TE) : TE := fun σ H Q => te σ H fun x H1 => x = .ref a ∧ cls = .ref C ∧ ∃ (dd : Addr) (v : V), d = some dd ∧ H1 dd = some (.xd [(("number" : Str), v)]) ∧ Q v H1
theorem pe_byLow_number {a : Addr} {oe : Obj} {cls : Value} {d : Option Addr} {pn : List (Addr × Obj)} {e : Expr} {te : TE} {pos : Pos} (T : PySem.Ernumber.ErTxt X.K X.mg cn qn C fI) (hz : Zc cls d oe) (hf : ∃ vs, oe.data = .fields vs) (he : PE (X.suite a ((a, oe) :: pn)) e te)
    (hb : attributeBase e "number" X.env (eval e X.env) = eval e X.env := by rfl) :
    PE (X.suite a ((a, oe) :: pn)) (.Attribute e "number" pos) (tByLow_number C a cls d te) := by
  refine ⟨fun pins s σ H Q I h => ?_⟩
  refine attr_of hb (thn (he.run pins s σ H _ I h) fun u s1 hh => ?_)
  obtain ⟨x, H1, I1, rx, ex, ec, dd, v, ed, ea, q⟩ := hh
  subst ex
  obtain rfl : u = Value.ref a := rx
  subst ec
  subst ed
  obtain ⟨ha, _⟩ := I1.pin (a, oe) (List.mem_append_left _ List.mem_cons_self)
  obtain ⟨vs, hd⟩ := hf
  have hx : ObjOk X.prog X.w H1 s1.heap dd (.xd [(("number" : Str), v)]) := I1.hok dd _ ea
  obtain ⟨mA, hns, hr⟩ := hx
  obtain ⟨od, ho, hl⟩ := lookIn_ns hns
  have l : List.lookup ("number" : Str) [(("number" : Str), v)] = some v := by simp [List.lookup]
  obtain ⟨u, hu, ru⟩ := RelO.some_of (v := v) (o := mA "number") (by rw [← l]; exact hr "number")
  have J : PySem.W.InstAt s1.heap a oe C (some od) := ⟨ha, hz.1, by unfold PySem.W.notCls; rw [hd] <;> rfl, by rw [hz.2]; exact ho⟩
  exact HandSPX.exc_get I1.kIn J T.ga T.gg T.exC (PySem.W.findObj_own T.hdC T.noN rfl (by rw [hl, hu])) (handed_of ru) ⟨v, H1, I1.tok _, ru, q⟩
end
end L2


namespace PySem
namespace Ermany
open PySem.W PySem.Calls PyProof.Rows PySem.HandSPX
/-! ### the text of __init__ -/
def iA (p1 p2 : Pos) : Arguments := { posonlyargs := [], args := [{ arg := "self", annotation := none, pos := p1 }, { arg := "many", annotation := none, pos := p2 }], vararg := none, kwonlyargs := [], kw_defaults := [], kwarg := none, defaults := [] }
def iB (q1 q2 q3 q4 : Pos) : List Stmt := [.Assign [.Attribute (.Name "self" q1) "many" q2] (.Name "many" q3) q4]
def iS : Scope := { kind := .function, names := [(PySem.Str.ofString "self", .local), (PySem.Str.ofString "many", .local)], isGenerator := false, isCoroutine := false, more := [] }
/-- what the written part says of Low, at C, and of its __init__, at fI -/
structure ErTxt (K : Frag) (mg : Str → Option Value) (cn qn : Str) (C fI : Addr) : Prop where
  gC : mg cn = some (.ref C)
  cls : ∃ nm q N bs bm sn sub ab col dd k0 k1 k2 k3 k5, K.lookup C = some (excClassObj nm q C N bs bm true sn sub ab col dd k0 k1 k2 k3 k5 "ValueError.__new__") ∧ refsVE bm = true
  sa : findIn K (.ref C) "__setattr__" = some (some (.builtin "object.__setattr__"))
  ga : findIn K (.ref C) "__getattribute__" = some (some (.builtin "BaseException.__getattribute__"))
  gg : findIn K (.ref C) "__getattr__" = some none
  noN : findIn K (.ref C) "many" = some none
  iC : findIn K (.ref C) "__init__" = some (some (.ref fI))
  tC : typeIn K (.ref fI) = some (.type "function")
  kC : keepIn K (.ref C) = true
  exC : subIn K (.ref C) (.type "BaseException") = some true
  tyC : typeIn K (.ref C) = some (.type "type")
  hdC : hasDictIn K C = true
  fn : ∃ (oc : Value) (od : Option Addr) (doc pm : Value) (an : Option Addr) (cdv ct : Value) (osl : Array (Option Value)) (p1 p2 q1 q2 q3 q4 : Pos),
    K.lookup fI = some ⟨oc, od, .func (fnOf "__init__" qn (iA p1 p2) (iB q1 q2 q3 q4) iS .none .none doc pm an cdv ct), osl⟩ ∧ codeIn K cdv qn = true
theorem one_size (v : Value) : [v].length ≤ sizeLine := by
  rw [sizeLine_eq]
  exact (by decide : 1 ≤ 16777216)
theorem kept_but {K : Frag} {h h' : Heap} {x : Addr} (X : K.In h) (hx : K.lookup x = none) (k : ∀ b o, b ≠ x → h.get? b = some o → h'.get? b = some o) : K.In h' := fun a o e =>
  k a o (fun z => by rw [z, hx] at e; cases e) (X a o e)
theorem ldC {M : Model} {s : Shared} {name : Str} {scope : Scope} {L a : Addr} {cd : Value} {m : Str → Option Value} {x : Str} {pos : Pos} {v : Value} {Q : Value → Shared → Prop} {A : Around} {E : Value → Shared → Prop} (hn : s.heap.Ns L m) (hv : m x = some v) (h : Q v s)
    (hk : scope.kind = .function := by rfl) (hl : (envOfC name scope L a cd).kindOf x = some .local := by rfl) (hd : (x == ("__debug__" : Str)) = false := by decide) :
    wpAny M A (eval (.Name x pos) (envOfC name scope L a cd)) Q E s := wpAny_Name (wpAny_loadName_local hk hl hn hv h) hd
/-- what __init__ leaves of a fresh exception at x -/
structure InitEnd (h h' : Heap) (x C dx t1 : Addr) (v : Value) : Prop where
  keep : ∀ b o, b ≠ x → h.get? b = some o → h'.get? b = some o
  obj : h'.get? x = some { cls := .ref C, dict := some dx, data := .fields #[.ref t1, .none, .none, .none, .bool false, .none] }
  dbig : h.objs.size ≤ dx
  dne : dx ≠ x
  ns : h'.Ns1 dx (fun y => if y = "many" then some v else none)
/-- a made Low -/
structure OwnMade (h h' : Heap) (e C d : Addr) (v : Value) : Prop where
  keep : ∀ b o, h.get? b = some o → h'.get? b = some o
  new : h.objs.size ≤ e
  obj : ∃ oe vs, h'.get? e = some oe ∧ oe.cls = .ref C ∧ oe.dict = some d ∧ oe.data = .fields vs ∧ vs[1]? = some .none
  dbig : h.objs.size ≤ d
  dne : d ≠ e
  ns : h'.Ns1 d (fun y => if y = "many" then some v else none)
section
variable {prog : Program} {w : World} {A : Around} {E : Value → Shared → Prop} {R : Result → Shared → Prop} {s : Shared} {K : Frag} {mg : Str → Option Value} {cn qn : Str} {C fI : Addr}
theorem low_init (T : ErTxt K mg cn qn C fI) {x t0 : Addr} {v : Value} (X : K.In s.heap) (hlim : s.heap.NoLimit) (hx : s.heap.get? x = some (excO C t0)) (hnx : K.lookup x = none) (hroom : A.depth < recursionLimit)
    (hq : ∀ h' tk dx, InitEnd s.heap h' x C dx t0 v → R (.ok (.ret .none)) { s with heap := h', toks := tk }) :
    codeAny (model prog w) A (.call (.ref fI) ⟨[.ref x, v], []⟩) R s := by
  obtain ⟨oc, od, doc, pm, an, cdv, ct, osl, p1, p2, q1, q2, q3, q4, ho, hcd⟩ := T.fn
  obtain ⟨nm, q, N, bs, bm, sn, sub, ab, col, dd, k0, k1, k2, k3, k5, hC, hbm⟩ := T.cls
  have hcl : clsIn K C = some { name := nm, bases := bs, mro := .ref C :: bm, ns := N, qualname := q, hasDict := true, slotNames := sn, subclasses := sub, abstract := ab, collection := col, hasDel := false } := by unfold clsIn; rw [hC] <;> rfl
  refine Att.call_fn (binds := [("self", .ref x), ("many", v)]) X hlim ho hcd hroom (BindsTo.of_eq (by first | rfl | with_unfolding_all rfl)) (by first | rfl | decide | with_unfolding_all rfl) (fun s₁ IC => ?_) rfl rfl rfl
  obtain ⟨h₁, tk₁, rfl⟩ := IC.toInCall.same
  have k : ∀ b o, s.heap.get? b = some o → h₁.get? b = some o := IC.toInCall.keep
  have hn := IC.toInCall.ns
  have hxL : s.heap.objs.size ≠ x := Nat.ne_of_gt (Heap.lt_size hx)
  have X₁ : K.In h₁ := X.keeps k
  have hx₁ := k _ _ hx
  -- self.by = by
  show wpAny _ _ (execs _ _) _ _ _
  refine wpAny_execs_cons (plainObj_wpAny_Assign_Attribute ?_)
  refine ldC (v := v) hn (by first | rfl | with_unfolding_all rfl | kernel_rfl) (ldC (v := .ref x) hn (by first | rfl | with_unfolding_all rfl | kernel_rfl) ?_)
  refine set_plain X₁ (ox := excO C t0) (od := none) ⟨hx₁, rfl, rfl, trivial⟩ T.sa ?_
  refine exc_osa X₁ hx₁ hcl (show refsVE (.ref C :: bm) = true from hbm) rfl T.noN (fun h₃ tk₃ dx k₃ dn dne hx₃ hn₃ => ?_)
  show wpAny _ _ (execs _ _) _ _ _
  have z : s.heap.objs.size < h₁.objs.size := hn.lt
  exact wpAny_execs_nil (hq h₃ tk₃ dx ⟨fun b o hb e => k₃ b o hb (k b o e), hx₃, Nat.le_of_lt (Nat.lt_of_lt_of_le z dn), dne, hn₃⟩)
theorem low_made (T : ErTxt K mg cn qn C fI) {v : Value} (X : K.In s.heap) (hlim : s.heap.NoLimit) (hroom : A.depth + 1 < recursionLimit)
    (hq : ∀ h' tk e d, OwnMade s.heap h' e C d v → R (.ok (.ret (.ref e))) { s with heap := h', toks := tk }) :
    codeAny (model prog w) A (.call (.ref C) ⟨[v], []⟩) R s := by
  obtain ⟨nm, q, N, bs, bm, sn, sub, ab, col, dd, k0, k1, k2, k3, k5, hC, hbm⟩ := T.cls
  obtain ⟨hp, g, dr, tk, os⟩ := s
  have k : ∀ b o, hp.get? b = some o → ((hp.push (kdv_tup [v])).push (excO C hp.objs.size)).get? b = some o := fun b o e => Heap.get?_push_of_some _ (Heap.get?_push_of_some _ e)
  have hget : ((hp.push (kdv_tup [v])).push (excO C hp.objs.size)).get? (hp.objs.size + 1) = some (excO C hp.objs.size) := by heap_get
  have hnx : K.lookup (hp.objs.size + 1) = none := by
    cases e : K.lookup (hp.objs.size + 1) with
    | none => rfl
    | some o =>
      have z : hp.get? (hp.objs.size + 1) = some o := X _ _ e
      exact absurd (Nat.lt_of_succ_lt (Heap.lt_size z)) (Nat.lt_irrefl _)
  refine call_own F.excBase_ValueError (fun X => refsVE_contains X bm hbm) (X _ _ hC) (looks_findIn X T.iC) (fun self => bind_fn X self T.tC) (one_size v) ?_
  refine low_init (s := ⟨(hp.push (kdv_tup [v])).push (excO C hp.objs.size), g, dr, tk, os⟩) T (X.keeps k) (hlim.keeps k) hget hnx ?_ fun h' tk' dx ⟨k', hx, dn, dne, hns⟩ => ?_
  · show A.depth + 1 < recursionLimit
    exact hroom
  · have old : ∀ b o, hp.get? b = some o → h'.get? b = some o := fun b o e => k' b o (Nat.ne_of_lt (Nat.lt_succ_of_lt (Heap.lt_size e))) (k b o e)
    have z : hp.objs.size + 1 + 1 ≤ dx := by
      first
        | (simpa only [Heap.size_push] using dn)
        | exact dn
        | (have q := dn; rw [Heap.size_push, Heap.size_push] at q; exact q)
    exact ⟨rfl, hq h' tk' (hp.objs.size + 1) dx ⟨old, Nat.le_succ _, ⟨_, _, hx, rfl, rfl, rfl, rfl⟩, Nat.le_trans (Nat.le_trans (Nat.le_succ _) (Nat.le_succ _)) z, dne, hns⟩⟩
end
end Ermany
end PySem
namespace L2
open PySem PySem.Spec PyProof.Rows
theorem relO_low_many {v : V} {v' : Value} (r : RelV v v') (f : Str) : RelO (List.lookup f [(("many" : Str), v)]) (if f = "many" then some v' else none) := by
  by_cases hw : f = "many"
  · subst hw
    rw [if_pos rfl]
    have q : List.lookup ("many" : Str) [(("many" : Str), v)] = some v := by simp [List.lookup]
    rw [q]
    exact r
  · rw [if_neg hw]
    have qw : (f == ("many" : Str)) = false := by simpa using hw
    have q2 : List.lookup f [(("many" : Str), v)] = none := by simp [List.lookup, qw]
    rw [q2]
    trivial
section
variable {X : Cx} {cn qn : Str} {C fI : Addr}
/-- Low(e) -/
def tMkLow_many (C : Addr) (ta : TA) : St → Hp → XK → Prop := fun σ H Q => ta σ H fun vs H1 => ∃ v, vs = [v] ∧ ∀ d, H1 d = none → Q (.ref C) (some d) (upd H1 d (.xd [(("many" : Str), v)]))
theorem pmk_low_many {a : Expr} {ta : TA} {p pos : Pos} {k : Nat} (T : PySem.Ermany.ErTxt X.K X.mg cn qn C fI) (hr : Room k X.A) (ha : PA X [a] ta) (hg : Gl X cn) (hdb : (cn == ("__debug__" : Str)) = false)
    (he : starEach (a :: []) X.env = (false, eval a X.env) :: starEach [] X.env := by rfl) (hpl : (backTo pos (starEach [] X.env)).any (·.1) = false := by rfl) :
    PMk X (.Call (.Name cn p) [a] [] pos) (tMkLow_many C ta) := by
  intro pins s σ H Q I h
  refine wpAny_Call_Name_kw (ld_glob I hg T.gC ?_ hdb)
  refine PySem.W.callWith_K (h₀ := X.base) I.ok.mod.kin T.kC (thn (ha.run pos pins s σ H _ I h) fun us s1 hh => ?_) he hpl
  obtain ⟨vs, H1, I1, r1, v, ev, q1⟩ := hh
  subst ev
  refine ⟨I1.kIn, ?_⟩
  cases r1 with
  | cons rv rn =>
    rename_i v' us'
    cases rn
    show wpAny _ _ (call (.ref C) [v']) _ _ _
    have hlim := I1.nolimit
    obtain ⟨hp, g, dr, tk, os⟩ := s1
    refine wpAny_call (PySem.Ermany.low_made T I1.kIn hlim (by have := hr.dp; omega) fun h' tk' e d M => ?_)
    show MkP X pins σ Q (.ref e) ⟨h', g, dr, tk', os⟩
    obtain ⟨oe, fv, hoe, hc, hd, hdat, h1⟩ := M.obj
    have hns := M.ns
    obtain ⟨G', g1, g2⟩ := restrict h' fun b => decide (b ≠ e)
    have gk : ∀ b, b ≠ e → G'.get? b = h'.get? b := fun b hb => g1 b (decide_eq_true hb)
    have ge : G'.get? e = none := g2 e (by simp)
    have old : ∀ b o, hp.get? b = some o → G'.get? b = some o := fun b o q => (gk b (Nat.ne_of_lt (Nat.lt_of_lt_of_le (Heap.lt_size q) M.new))).trans (M.keep b o q)
    have ob : ObjOk X.prog X.w (upd H1 d (.xd [(("many" : Str), v)])) G' d (.xd [(("many" : Str), v)]) :=
      ⟨_, hns.at (fun o q => (gk d M.dne).trans q), fun f => relO_low_many rv f⟩
    have J : Inv X pins σ (upd H1 d (.xd [(("many" : Str), v)])) ⟨G', g, dr, tk', os⟩ := I1.laid (t' := tk') old M.dbig ob
    refine ⟨e, oe, fv, ⟨G', g, dr, tk', os⟩, _, .ref C, some d, rfl, J, fun b o q => ?_, ge, hoe, ⟨hc, hd⟩, hdat, h1, ?_, rfl, I1.bare, raises_own T.exC T.tyC, q1 d (I1.hok.fresh M.dbig)⟩
    · by_cases hb : b = e
      · have q' : G'.get? b = some o := q
        rw [hb, ge] at q'; cases q'
      · exact (gk b hb).symm.trans q
    · rw [upd_ne (Ne.symm M.dne)]
      exact I1.hok.fresh M.new
/-- raise Low(e) -/
def tRaiseLow_many (C : Addr) (W : WX) (ta : TA) : TS := fun _ σ H => tMkLow_many C ta σ H fun cls d H' => W cls d σ H'
theorem ps_raiseLow_many {a : Expr} {ta : TA} {W : WX} {p pos pos2 : Pos} {k : Nat} (hc : X.calm = true) (T : PySem.Ermany.ErTxt X.K X.mg cn qn C fI) (hr : Room k X.A) (tk : Takes X W) (ha : PA X [a] ta) (hg : Gl X cn) (hdb : (cn == ("__debug__" : Str)) = false)
    (he : starEach (a :: []) X.env = (false, eval a X.env) :: starEach [] X.env := by rfl) (hpl : (backTo pos (starEach [] X.env)).any (·.1) = false := by rfl) :
    PS X (.Raise (some (.Call (.Name cn p) [a] [] pos)) none pos2) (tRaiseLow_many C W ta) := ps_raise hc tk (pmk_low_many T hr ha hg hdb he hpl)
/-- low.by, low the exception that the suite holds (at a; its class cls, its dict d) -/
def tByLow_many (C : Addr) (a : Addr) (cls : Value) (d : Option Addr) (te : TE) : TE := fun σ H Q => te σ H fun x H1 => x = .ref a ∧ cls = .ref C ∧ ∃ (dd : Addr) (v : V), d = some dd ∧ H1 dd = some (.xd [(("many" : Str), v)]) ∧ Q v H1
theorem pe_byLow_many {a : Addr} {oe : Obj} {cls : Value} {d : Option Addr} {pn : List (Addr × Obj)} {e : Expr} {te : TE} {pos : Pos} (T : PySem.Ermany.ErTxt X.K X.mg cn qn C fI) (hz : Zc cls d oe) (hf : ∃ vs, oe.data = .fields vs) (he : PE (X.suite a ((a, oe) :: pn)) e te)
    (hb : attributeBase e "many" X.env (eval e X.env) = eval e X.env := by rfl) :
    PE (X.suite a ((a, oe) :: pn)) (.Attribute e "many" pos) (tByLow_many C a cls d te) := by
  refine ⟨fun pins s σ H Q I h => ?_⟩
  refine attr_of hb (thn (he.run pins s σ H _ I h) fun u s1 hh => ?_)
  obtain ⟨x, H1, I1, rx, ex, ec, dd, v, ed, ea, q⟩ := hh
  subst ex
  obtain rfl : u = Value.ref a := rx
  subst ec
  subst ed
  obtain ⟨ha, _⟩ := I1.pin (a, oe) (List.mem_append_left _ List.mem_cons_self)
  obtain ⟨vs, hd⟩ := hf
  have hx : ObjOk X.prog X.w H1 s1.heap dd (.xd [(("many" : Str), v)]) := I1.hok dd _ ea
  obtain ⟨mA, hns, hr⟩ := hx
  obtain ⟨od, ho, hl⟩ := lookIn_ns hns
  have l : List.lookup ("many" : Str) [(("many" : Str), v)] = some v := by simp [List.lookup]
  obtain ⟨u, hu, ru⟩ := RelO.some_of (v := v) (o := mA "many") (by rw [← l]; exact hr "many")
  have J : PySem.W.InstAt s1.heap a oe C (some od) := ⟨ha, hz.1, by unfold PySem.W.notCls; rw [hd] <;> rfl, by rw [hz.2]; exact ho⟩
  exact HandSPX.exc_get I1.kIn J T.ga T.gg T.exC (PySem.W.findObj_own T.hdC T.noN rfl (by rw [hl, hu])) (handed_of ru) ⟨v, H1, I1.tok _, ru, q⟩
end
end L2
set_option maxRecDepth 100000
set_option maxHeartbeats 2000000
/-! own errors without a field: def __init__(self): pass -/
namespace PySem
namespace Er0
open PySem.W PySem.Calls PyProof.Rows PySem.HandSPX
def iA (p1 : Pos) : Arguments := { posonlyargs := [], args := [{ arg := "self", annotation := none, pos := p1 }], vararg := none, kwonlyargs := [], kw_defaults := [], kwarg := none, defaults := [] }
def iB (q1 : Pos) : List Stmt := [.Pass q1]
def iS : Scope := { kind := .function, names := [(PySem.Str.ofString "self", .local)], isGenerator := false, isCoroutine := false, more := [] }
structure ErTxt (K : Frag) (mg : Str → Option Value) (cn qn : Str) (C fI : Addr) : Prop where
  gC : mg cn = some (.ref C)
  cls : ∃ nm q N bs bm sn sub ab col dd k0 k1 k2 k3 k5, K.lookup C = some (excClassObj nm q C N bs bm true sn sub ab col dd k0 k1 k2 k3 k5 "ValueError.__new__") ∧ refsVE bm = true
  iC : findIn K (.ref C) "__init__" = some (some (.ref fI))
  tC : typeIn K (.ref fI) = some (.type "function")
  kC : keepIn K (.ref C) = true
  exC : subIn K (.ref C) (.type "BaseException") = some true
  tyC : typeIn K (.ref C) = some (.type "type")
  hdC : hasDictIn K C = true
  fn : ∃ (oc : Value) (od : Option Addr) (doc pm : Value) (an : Option Addr) (cdv ct : Value) (osl : Array (Option Value)) (p1 q1 : Pos),
    K.lookup fI = some ⟨oc, od, .func (fnOf "__init__" qn (iA p1) (iB q1) iS .none .none doc pm an cdv ct), osl⟩ ∧ codeIn K cdv qn = true
section
variable {prog : Program} {w : World} {A : Around} {R : Result → Shared → Prop} {s : Shared} {K : Frag} {mg : Str → Option Value} {cn qn : Str} {C fI : Addr}
theorem init0 (T : ErTxt K mg cn qn C fI) {x : Addr} (X : K.In s.heap) (hlim : s.heap.NoLimit) (hroom : A.depth < recursionLimit)
    (hq : ∀ h' tk, (∀ b o, s.heap.get? b = some o → h'.get? b = some o) → R (.ok (.ret .none)) { s with heap := h', toks := tk }) :
    codeAny (model prog w) A (.call (.ref fI) ⟨[.ref x], []⟩) R s := by
  obtain ⟨oc, od, doc, pm, an, cdv, ct, osl, p1, q1, ho, hcd⟩ := T.fn
  refine Att.call_fn (binds := [("self", .ref x)]) X hlim ho hcd hroom (BindsTo.of_eq (by first | rfl | with_unfolding_all rfl)) (by first | rfl | decide | with_unfolding_all rfl) (fun s₁ IC => ?_) rfl rfl rfl
  obtain ⟨h₁, tk₁, rfl⟩ := IC.toInCall.same
  show wpAny _ _ (execs _ _) _ _ _
  refine wpAny_execs_cons (wpAny_Pass ?_)
  exact wpAny_execs_nil (hq h₁ tk₁ IC.toInCall.keep)
/-- a made one -/
structure Made0 (h h' : Heap) (e C : Addr) : Prop where
  keep : ∀ b o, h.get? b = some o → h'.get? b = some o
  new : h.objs.size ≤ e
  obj : ∃ oe vs, h'.get? e = some oe ∧ oe.cls = .ref C ∧ oe.dict = none ∧ oe.data = .fields vs ∧ vs[1]? = some .none
theorem made0 (T : ErTxt K mg cn qn C fI) (X : K.In s.heap) (hlim : s.heap.NoLimit) (hroom : A.depth + 1 < recursionLimit)
    (hq : ∀ h' tk e, Made0 s.heap h' e C → R (.ok (.ret (.ref e))) { s with heap := h', toks := tk }) :
    codeAny (model prog w) A (.call (.ref C) ⟨[], []⟩) R s := by
  obtain ⟨nm, q, N, bs, bm, sn, sub, ab, col, dd, k0, k1, k2, k3, k5, hC, hbm⟩ := T.cls
  obtain ⟨hp, g, dr, tk, os⟩ := s
  have k : ∀ b o, hp.get? b = some o → ((hp.push (kdv_tup [])).push (excO C hp.objs.size)).get? b = some o := fun b o e => Heap.get?_push_of_some _ (Heap.get?_push_of_some _ e)
  have hget : ((hp.push (kdv_tup [])).push (excO C hp.objs.size)).get? (hp.objs.size + 1) = some (excO C hp.objs.size) := by heap_get
  refine call_own F.excBase_ValueError (fun X => refsVE_contains X bm hbm) (X _ _ hC) (looks_findIn X T.iC) (fun self => bind_fn X self T.tC) (Nat.zero_le _) ?_
  refine init0 (s := ⟨(hp.push (kdv_tup [])).push (excO C hp.objs.size), g, dr, tk, os⟩) T (X.keeps k) (hlim.keeps k) ?_ fun h' tk' k' => ?_
  · show A.depth + 1 < recursionLimit
    exact hroom
  · exact ⟨rfl, hq h' tk' (hp.objs.size + 1) ⟨fun b o e => k' b o (k b o e), Nat.le_succ _, ⟨_, _, k' _ _ hget, rfl, rfl, rfl, rfl⟩⟩⟩
end
end Er0
end PySem
namespace L2
open PySem PySem.Spec PyProof.Rows
section
variable {X : Cx} {cn qn : Str} {C fI : Addr}
/-- C() -/
def tMk0 (C : Addr) : St → Hp → XK → Prop := fun _ H Q => Q (.ref C) none H
theorem pmk_0 {p pos : Pos} {k : Nat} (T : PySem.Er0.ErTxt X.K X.mg cn qn C fI) (hr : Room k X.A) (hg : Gl X cn) (hdb : (cn == ("__debug__" : Str)) = false)
    (hpl : (backTo pos (starEach [] X.env)).any (·.1) = false := by rfl) :
    PMk X (.Call (.Name cn p) [] [] pos) (tMk0 C) := by
  intro pins s σ H Q I h
  have hlim := I.nolimit
  have kin := I.kIn
  obtain ⟨hp, g, dr, tk, os⟩ := s
  refine wpAny_Call_Name_kw (ld_glob I hg T.gC ?_ hdb)
  refine PySem.W.callWith_K0 I.kIn T.kC (wpAny_call (PySem.Er0.made0 T kin hlim (by have := hr.dp; omega) fun h' tk' e M => ?_))
  show MkP X pins σ Q (.ref e) ⟨h', g, dr, tk', os⟩
  obtain ⟨oe, fv, hoe, hc, hd, hdat, h1⟩ := M.obj
  obtain ⟨G', g1, g2⟩ := restrict h' fun b => decide (b ≠ e)
  have gk : ∀ b, b ≠ e → G'.get? b = h'.get? b := fun b hb => g1 b (decide_eq_true hb)
  have ge : G'.get? e = none := g2 e (by simp)
  have old : ∀ b o, hp.get? b = some o → G'.get? b = some o := fun b o q => (gk b (Nat.ne_of_lt (Nat.lt_of_lt_of_le (Heap.lt_size q) M.new))).trans (M.keep b o q)
  have J : Inv X pins σ H ⟨G', g, dr, tk', os⟩ := I.kept (t' := tk') old
  refine ⟨e, oe, fv, ⟨G', g, dr, tk', os⟩, H, .ref C, none, rfl, J, fun b o q => ?_, ge, hoe, ⟨hc, hd⟩, hdat, h1, I.hok.fresh M.new, rfl, I.bare, raises_own T.exC T.tyC, h⟩
  by_cases hb : b = e
  · have q' : G'.get? b = some o := q
    rw [hb, ge] at q'
    cases q'
  · exact (gk b hb).symm.trans q
/-- raise C() -/
def tRaise0 (C : Addr) (W : WX) : TS := fun _ σ H => tMk0 C σ H fun cls d H' => W cls d σ H'
theorem ps_raise0 {W : WX} {p pos pos2 : Pos} {k : Nat} (hc : X.calm = true) (T : PySem.Er0.ErTxt X.K X.mg cn qn C fI) (hr : Room k X.A) (tk : Takes X W) (hg : Gl X cn) (hdb : (cn == ("__debug__" : Str)) = false)
    (hpl : (backTo pos (starEach [] X.env)).any (·.1) = false := by rfl) :
    PS X (.Raise (some (.Call (.Name cn p) [] [] pos)) none pos2) (tRaise0 C W) := ps_raise hc tk (pmk_0 T hr hg hdb hpl)
end
end L2
set_option maxRecDepth 100000
set_option maxHeartbeats 2000000
/-! an exception that is caught and given back: try: .. except X as n: return n -/
namespace L2
open PySem PySem.Spec PyProof.Rows
/-- an exception object of a class, with its dict, at an address -/
def XH (cls : Value) (d : Option Addr) (a : Addr) : HO := .ext fun h => ∃ (oe : Obj) (vs : Array Value), h.get? a = some oe ∧ Zc cls d oe ∧ oe.data = .fields vs
theorem xh_ok {P : Program} {w : World} {H : Hp} {h : Heap} {a : Addr} {cls : Value} {d : Option Addr} {oe : Obj} {vs : Array Value} (e : h.get? a = some oe) (z : Zc cls d oe) (q : oe.data = .fields vs) : ObjOk P w H h a (XH cls d a) :=
  ⟨⟨oe, vs, e, z, q⟩, ⟨oe, e⟩, fun _ _ ⟨o, v, y, r⟩ k => ⟨o, v, k o y, r⟩⟩
/-- what such a try wishes of an exception of its body -/
def wRet (K : PySem.W.Frag) (c : Value) (D : Ends) : WX := fun cls d σ H => PySem.W.exmOne K cls c = some true ∧ ∀ a, H a = none → D.rt (.ref a) (upd H a (XH cls d a))
section
variable {X : Cx} {pins : List (Addr × Obj)} {σ : St} {H : Hp} {s : Shared}
/-- an object that stands and is not tracked yet, and was not there at the entry, is tracked -/
theorem Inv.track {a : Addr} {cls : Value} {d : Option Addr} {oe : Obj} {vs : Array Value} (I : Inv X pins σ H s) (ha : s.heap.get? a = some oe) (z : Zc cls d oe) (q : oe.data = .fields vs) (hn : H a = none) (h0 : X.s_0.heap.get? a = none)
    (nl : a ≠ X.env.locals) (np : ∀ p ∈ X.pn ++ pins, p.1 ≠ a) : Inv X pins σ (upd H a (XH cls d a)) s := by
  have B := I.base
  refine ⟨I.ok, I.os, I.bare, ⟨B.keep, B.slot, fun b o e n hx => ?_, B.there, fun b xs e => ?_, fun b o u e => ?_, fun b ps e => ?_⟩, I.loc, I.cell, ?_, fun x c e => ?_, fun p hp => ?_, HOk.laidN I.hok (fun _ _ e => e) hn (xh_ok ha z q), I.len⟩
  · have nb : b ≠ a := fun y => by
      rw [y, h0] at e
      cases e
    rw [upd_ne nb]
    exact B.free b o e n hx
  · have y := B.tups b xs e
    rw [upd_ne (ne_of_none y hn)]
    exact y
  · have y := B.frzs b o u e
    rw [upd_ne (ne_of_none y hn)]
    exact y
  · obtain ⟨more, y⟩ := B.tbls b ps e
    refine ⟨more, ?_⟩
    rw [upd_ne (ne_of_none y hn)]
    exact y
  · rw [upd_ne (Ne.symm nl)]
    exact I.free
  · obtain ⟨v, w⟩ := I.cell x c e
    have nc : c ≠ a := fun y => by
      obtain ⟨oc, w1, w2⟩ := w
      rw [y, ha] at w1
      have w3 := Option.some.inj w1
      rw [← w3, q] at w2
      cases w2
    rw [upd_ne nc]
    exact I.freeC x c e
  · obtain ⟨e, n, r⟩ := I.pin p hp
    refine ⟨e, ?_, r⟩
    rw [upd_ne (np p hp)]
    exact n
end
section
variable {X : Cx} {x n : Str} {c : Value} {i : Nat} {body : List Stmt} {ep rp rpos pos pos' : Pos} {tb : WX → TS}
theorem ps_try_ret (hs : X.stack = X.env :: X.outer) (hf : X.env.frame = some X.env.locals) (hex : X.ex = []) (hN : X.N.Nodup) (hi : X.N[i]? = some n) (hln : X.env.kindOf n = some .local) (hc : Names X x c) (hd0 : (n == ("__debug__" : Str)) = false) (hd1 : (n == ("__classdict__" : Str)) = false)
    (hb : ∀ (W : WX) (pn : List (Addr × Obj)) (xe : Value → Shared → Prop), Takes (X.tr pn xe) W → PassesOwn (model X.prog X.w) X.A X.env xe → PSs (X.tr pn xe) body (tb W)) :
    PS X (.Try body [.ExceptHandler (some (.Name x ep)) (some n) [.Return (some (.Name n rp)) rpos] pos'] [] [] pos) (fun D σ H => tb (wRet X.K c D) D σ H) := by
  refine ⟨fun pins s σ H D I h => ?_⟩
  have fr : X.A.frames = some (X.env :: X.outer) := by
    rw [I.ok.frames, hs]
  have run := (hb (wRet X.K c D) (X.pn ++ pins) (fun e s₁ => wpAny (model X.prog X.w) X.A (noteFrame e X.env) (fun _ s₂ => wpAny (model X.prog X.w) X.A (setFlight e none)
    (fun _ s₃ => wpAny (model X.prog X.w) X.A (handleBy e X.env [.ExceptHandler (some (.Name x ep)) (some n) [.Return (some (.Name n rp)) rpos] pos']) (SP X pins D) X.xe s₃) X.xe s₂) X.xe s₁)
    (fun u s' caught => ?_) PassesOwn.looking).run [] s σ H D (I.toTry _) h
  · refine wpAny_Try_except (wpAny_mono run (fun f s1 sp => ?_) fun _ _ y => y)
    cases f with
    | next =>
      obtain ⟨σ', H', J, y⟩ := sp
      exact wpAny_execs_nil ⟨σ', H', J.ofTry I.ok, y⟩
    | brk =>
      obtain ⟨σ', H', J, y⟩ := sp
      exact ⟨σ', H', J.ofTry I.ok, y⟩
    | cont =>
      obtain ⟨σ', H', J, y⟩ := sp
      exact ⟨σ', H', J.ofTry I.ok, y⟩
    | ret u =>
      obtain ⟨v, σ', H', J, r, y⟩ := sp
      exact ⟨v, σ', H', J.ofTry I.ok, r, y⟩
  · obtain ⟨a, B, sI, pins', σ', H', cls, d, rfl, J', nb, up, sky, na, os, ag, hm, hw⟩ := caught
    have ok := I.ok
    have J : Inv X pins σ' H' sI := J'.ofTry ok
    have sky2 : Sky B (X.env :: X.outer) a (Zc cls d) X.env.locals s'.heap := hs ▸ sky
    show wpAny (model X.prog X.w) X.A (noteFrame (.ref a) X.env) _ _ _
    refine Sky.land Zc.steady fr hf sky2 fun h3 fly up3 => ?_
    have K3 : Inv X pins σ' H' { s' with heap := h3 } := J.landed nb fly.1 (up.trans up3) os ag
    obtain ⟨oe3, vs3, he3, hz3, hd3⟩ := fly.there
    -- it is none of the frames, and was not there before
    have out : a ∉ frs (X.env :: X.outer) := fun m => by
      obtain ⟨_, o', e', no⟩ := fly.2.2.1.mem m
      rw [he3] at e'
      cases e'
      exact no _ hd3
    have nl : a ≠ X.env.locals := fun y => out (List.mem_filterMap.mpr ⟨X.env, List.mem_cons_self, by rw [hf, y]⟩)
    have nF : a ∉ X.fs := fun m => by
      obtain ⟨e, he, y⟩ := List.mem_filterMap.mp m
      exact out (List.mem_filterMap.mpr ⟨e, List.mem_cons_of_mem _ he, y⟩)
    have newI : sI.heap.get? a = none := by
      cases e : sI.heap.get? a with
      | none => rfl
      | some o =>
        have y := nb a o e (show a ∉ frs X.stack by rw [hs]; exact out)
        rw [fly.2.1] at y
        cases y
    have new0 : X.s_0.heap.get? a = none := by
      cases e : X.s_0.heap.get? a with
      | none => rfl
      | some o =>
        obtain ⟨o', y⟩ := J.base.there a o e (by rw [hex]; simp)
        rw [newI] at y
        cases y
    have np : ∀ p ∈ X.pn ++ pins, p.1 ≠ a := fun p hp y => by
      have z := (J.pin p hp).1
      rw [y, newI] at z
      cases z
    have S3 := K3.suite he3 hd3 na nl nF
    refine wpAny_handleBy_cons (codeAny_handlers_test ?_) (by intro y; cases y)
    have LT : PySem.W.Looks (model X.prog X.w) h3 (typeOf (.ref a)) cls := fun A Q E s k y => wpAny_typeOf_ref (k _ _ he3) (by rw [hz3.1]; exact y)
    have LM := PySem.W.exm_one (M := model X.prog X.w) (K3.kIn) LT hm
    have test : ∀ {Q : Value → Shared → Prop} {E : Value → Shared → Prop}, Q c { s' with heap := h3 } → wpAny (model X.prog X.w) (X.A.mark (some (.ref a))) (eval (.Name x ep) X.env) Q E { s' with heap := h3 } := fun {Q E} y => by
      obtain ⟨g1, g2, g3 | ⟨g3, g4, g5⟩⟩ := hc
      · exact ld_glob (X := X.suite a ((a, oe3) :: (X.pn ++ pins))) S3 g1 g3 y g2
      · exact ld_blt (X := X.suite a ((a, oe3) :: (X.pn ++ pins))) S3 g1 g3 g4 y g5 g2
    refine test (LM.here (codeAny_handlers_suite_as ?_))
    refine HandSPX.lands_againZ fly fun h4 fly4 up4 => ?_
    have K4 : Inv X pins σ' H' { s' with heap := h4 } := J.landed nb fly4.1 ((up.trans up3).trans up4) os ag
    obtain ⟨oe4, vs4, he4, hz4, hd4⟩ := fly4.there
    have S4 := K4.suite he4 hd4 na nl nF
    refine store_ok (X := X.suite a ((a, oe4) :: (X.pn ++ pins))) (v := .ref a) S4 hN hi (.inl hln) rfl (fun s5 S5 => ?_) (.inr hln)
    have li : i < σ'.length := by
      rw [J.len]
      exact (List.getElem?_eq_some_iff.mp hi).1
    have row : PSs (X.suite a ((a, oe4) :: (X.pn ++ pins))) [.Return (some (.Name n rp)) rpos] (tRet (tVar i)) := pss_one (ps_ret (pe_var (X := X.suite a ((a, oe4) :: (X.pn ++ pins))) hi (.inl hln) hd0 hd1))
    refine wpAny_mono (row.run [] s5 _ H' ⟨fun _ _ => False, fun v H2 => v = .ref a ∧ H2 = H', fun _ _ => False, fun _ _ => False⟩ S5 ⟨_, by rw [List.getElem?_set_self li], rfl, rfl⟩) (fun f s6 sp => ?_) (fun _ _ y => False.elim y)
    cases f with
    | next =>
      obtain ⟨_, _, _, y⟩ := sp
      exact False.elim y
    | brk =>
      obtain ⟨_, _, _, y⟩ := sp
      exact False.elim y
    | cont =>
      obtain ⟨_, _, _, y⟩ := sp
      exact False.elim y
    | ret u =>
      obtain ⟨v6, σ6, H6, S6, r6, e1, e2⟩ := sp
      subst e1 e2
      obtain rfl : u = Value.ref a := r6
      refine gone_ok (X := X.suite a ((a, oe4) :: (X.pn ++ pins))) S6 hN hi hln fun s7 S7 => ?_
      obtain ⟨at7, _⟩ := S7.pin (a, oe4) (List.mem_append_left _ List.mem_cons_self)
      exact ⟨.ref a, _, _, (S7.unsuite ok).track at7 hz4 hd4 na new0 nl np, rfl, hw a na⟩
end
end L2
set_option maxRecDepth 100000
set_option maxHeartbeats 2000000
/-! exceptions that are held as values: isinstance, fields, made -/
namespace L2
open PySem PySem.Spec PyProof.Rows
/-- a value's type, an exception's too -/
inductive TyE (K : PySem.W.Frag) (H : Hp) : V → Value → Prop where
  | base {x : V} {t : Value} (h : TyX K H x t) : TyE K H x t
  | bare {a D : Addr} (e : H a = some (XH (.ref D) none a)) (c : ExcC K D) : TyE K H (.ref a) (.ref D)
  | full {a D dd : Addr} {fs : List (Str × V)} (e : H a = some (XH (.ref D) (some dd) a)) (ed : H dd = some (.xd fs)) (c : ExcC K D) : TyE K H (.ref a) (.ref D)
section
variable {X : Cx} {pins : List (Addr × Obj)} {σ : St} {H : Hp} {s : Shared}
theorem xh_at {a : Addr} {cls : Value} {d : Option Addr} (I : Inv X pins σ H s) (e : H a = some (XH cls d a)) : ∃ (oe : Obj) (vs : Array Value), s.heap.get? a = some oe ∧ Zc cls d oe ∧ oe.data = .fields vs := by
  have y : ObjOk X.prog X.w H s.heap a (XH cls d a) := I.hok a _ e
  exact y.1
theorem kitx_held {a D : Addr} {oe : Obj} {od : Option Obj} (c : ExcC X.K D) : PySem.W.KitX X.K (.ref a) (.ref D) (fun h => PySem.W.InstAt h a oe D od) := by
  refine PySem.W.kitx_exc ?_ c.hg c.hk c.hs c.ha c.hn c.ht c.hm
  have y := c.hd
  unfold PySem.W.hasDictIn at y
  cases z : PySem.W.clsIn X.K D with
  | none => rw [z] at y; cases y
  | some cd => rfl
theorem kit_ofE {x : V} {u t : Value} (I : Inv X pins σ H s) (rx : RelV x u) (ty : TyE X.K H x t) : ∃ P : Heap → Prop, PySem.W.KitX X.K u t P ∧ P s.heap ∧ u ≠ .builtin "__main__.__loader__#opaque" := by
  cases ty with
  | base h => exact kit_of I rx h
  | @bare a D e c =>
    cases (show u = Value.ref a from rx)
    obtain ⟨oe, vs, h1, h2, h3⟩ := xh_at I e
    exact ⟨_, kitx_held (od := none) c, ⟨h1, h2.1, by unfold PySem.W.notCls; rw [h3] <;> rfl, by rw [h2.2]; exact True.intro⟩, fun z => nomatch z⟩
  | @full a D dd fs e ed c =>
    cases (show u = Value.ref a from rx)
    obtain ⟨oe, vs, h1, h2, h3⟩ := xh_at I e
    obtain ⟨mA, hns, _⟩ := (show ObjOk X.prog X.w H s.heap dd (.xd fs) from I.hok dd _ ed)
    obtain ⟨od, ho, _⟩ := lookIn_ns hns
    exact ⟨_, kitx_held (od := some od) c, ⟨h1, h2.1, by unfold PySem.W.notCls; rw [h3] <;> rfl, by rw [h2.2]; exact ho⟩, fun z => nomatch z⟩
end
/-- isinstance(x, c), one class, x an exception perhaps -/
def rIsiE (K : PySem.W.Frag) : List V → Hp → VK → Prop := fun xs H Q => ∃ (x c : V) (t u : Value) (b : Bool), xs = [x, c] ∧ ClsV c u ∧ TyE K H x t ∧ PySem.W.kitOne K t u = some b ∧ Q (.bl b) H
section
variable {X : Cx}
theorem call_isiE : CallR X (.builtin "isinstance") (rIsiE X.K) := by
  intro pins s σ H xs us Q I r h
  obtain ⟨x, c, t, u, b, rfl, k, ty, e, q⟩ := h
  obtain ⟨u1, u2, rfl, r1, r2⟩ := vals2 r
  obtain rfl := k.eq r2
  obtain ⟨P, Z, p, hx⟩ := kit_ofE I r1 ty
  exact PySem.W.kia_one Z I.kIn p e hx fun tk => ⟨.bl b, H, I.tok tk, rfl, q⟩
/-- e.f, e an exception that is held -/
def tXh (K : PySem.W.Frag) (f : Str) (te : TE) : TE := fun σ H Q => te σ H fun x H1 => ∃ (a C dd : Addr) (fs : List (Str × V)) (v : V), x = .ref a ∧ XfC K C ∧ PySem.W.findIn K (.ref C) f = some none ∧ H1 a = some (XH (.ref C) (some dd) a) ∧ H1 dd = some (.xd fs) ∧ fs.lookup f = some v ∧ Q v H1
theorem pe_xh {e : Expr} {te : TE} {pos : Pos} {f : Str} (he : PE X e te) (hb : attributeBase e f X.env (eval e X.env) = eval e X.env := by rfl) : PE X (.Attribute e f pos) (tXh X.K f te) := by
  refine ⟨fun pins s σ H Q I h => ?_⟩
  refine attr_of hb (thn (he.run pins s σ H _ I h) fun u s1 hh => ?_)
  obtain ⟨x, H1, I1, rx, a, C, dd, fs, v, rfl, T, hno, ea, ed, l, q⟩ := hh
  cases (show u = Value.ref a from rx)
  obtain ⟨oe, vs, h1, h2, h3⟩ := xh_at I1 ea
  obtain ⟨mA, hns, hr⟩ := (show ObjOk X.prog X.w H1 s1.heap dd (.xd fs) from I1.hok dd _ ed)
  obtain ⟨od, ho, hl⟩ := lookIn_ns hns
  obtain ⟨w, hw, rw'⟩ := RelO.some_of (v := v) (o := mA f) (by rw [← l]; exact hr f)
  have J : PySem.W.InstAt s1.heap a oe C (some od) := ⟨h1, h2.1, by unfold PySem.W.notCls; rw [h3] <;> rfl, by rw [h2.2]; exact ho⟩
  exact HandSPX.exc_get I1.kIn J T.ga T.gg T.exC (PySem.W.findObj_own T.hdC hno rfl (by rw [hl, hw])) (handed_of rw') ⟨v, H1, I1.tok _, rw', q⟩
/-- C(), an error without a field, as a value -/
def tErr0 (C : Addr) : TE := fun _ H Q => ∀ e, H e = none → Q (.ref e) (upd H e (XH (.ref C) none e))
theorem pe_err0 {cn qn : Str} {C fI : Addr} {p pos : Pos} {k : Nat} (T : PySem.Er0.ErTxt X.K X.mg cn qn C fI) (hr : Room k X.A) (hg : Gl X cn) (hdb : (cn == ("__debug__" : Str)) = false) : PE X (.Call (.Name cn p) [] [] pos) (tErr0 C) := by
  refine ⟨fun pins s σ H Q I h => ?_⟩
  have hlim := I.nolimit
  have kin := I.kIn
  obtain ⟨hp, g, dr, tk, os⟩ := s
  refine wpAny_Call_Name_kw (ld_glob I hg T.gC ?_ hdb)
  refine PySem.W.callWith_K0 I.kIn T.kC (wpAny_call (PySem.Er0.made0 T kin hlim (by have := hr.dp; omega) fun h' tk' e M => ?_))
  obtain ⟨oe, fv, hoe, hc, hd, hdat, h1⟩ := M.obj
  exact ⟨.ref e, _, I.laid (t' := tk') M.keep M.new (xh_ok hoe ⟨hc, hd⟩ hdat), rfl, h e (I.hok.fresh M.new)⟩
end
end L2
set_option maxRecDepth 100000
set_option maxHeartbeats 2000000
/-! == and != by an own __eq__, both answers -/
namespace L2
open PySem PySem.Spec PyProof.Rows
/-- x == y, x an instance of C with an own __eq__ that promises sp -/
def rOwnEq (K : PySem.W.Frag) (C : Addr) (sp : Sp) (E : XK) : R2 := fun x y H Q => ∃ a dx fs t, x = .ref a ∧ H a = some (.ins C dx fs) ∧ TyE K H y t ∧ PySem.W.notFirst K C t = true ∧ sp [x, y] H (fun v H' => ∃ c, v = .bl c ∧ Q v H') E
section
variable {X : Cx}
theorem op_eqOwn {CX : CXT} {C f : Addr} {fd : FuncData} {ps : List Str} {sp : Sp} {E : XK} {n : Nat} (F : FnOk X.prog X.w X.K X.mg X.base CX n f fd ps sp)
    (hs : PySem.W.findIn X.K (.ref C) "__eq__" = some (some (.ref f))) (hf : PySem.W.isFn X.K (.ref f) = true) (hb : Binds X.K fd ps []) (hx : Passes CX X E) (hr : Room n X.A) : OpR X (compareOp .Eq) (rOwnEq X.K C sp E) := by
  intro pins s σ H x y v u Q I rx ry hq
  obtain ⟨a, dx, fs, t, rfl, ha, ty, nf, hsp⟩ := hq
  cases (show v = Value.ref a from rx)
  obtain ⟨mA, J, _⟩ := ins_get I.hok ha
  obtain ⟨od, J, _⟩ := J.look
  obtain ⟨m, hF⟩ := I.fr
  obtain ⟨P, Z, p, _⟩ := kit_ofE I ry ty
  show wpAny (model X.prog X.w) X.A (richCompare .Eq (.ref a) u) (EP X pins σ Q) X.xe s
  refine PySem.W.cmp_K (op := .Eq) (tb := t) hr.units0 hF I.ok.mod.kin J (Z.ty _ _ I.kIn p) nf hs hf ?_
  have hl := F.len _ _ _ _ hsp
  have r2 : Vals [V.ref a, y] [Value.ref a, u] := .cons rfl (.cons ry .nil)
  refine wpAny_call (codeAny_mono (F.run X.A X.stack s H ⟨[.ref a, u], []⟩ [.ref a, u] [.ref a, y] _ E hr I.env0 (by
    have := hb s [.ref a, u] I.kIn (by simpa using hl)
    simpa using this) r2 hsp) fun r s' hq => ?_)
  cases r with
  | error e => exact hx pins σ H s e s' I hq
  | ok fl =>
    cases fl with
    | ret w =>
      obtain ⟨z, H', I', rz, c, ez, q⟩ := I.after hq
      subst ez
      cases rz
      exact ⟨.bl c, H', I', rfl, q⟩
    | next => exact False.elim hq
    | brk => exact False.elim hq
    | cont => exact False.elim hq
end
end L2
set_option maxRecDepth 100000
set_option maxHeartbeats 4000000
/-! == of two tuples of one length within one model, both answers -/
namespace GQ
open PySem PySem.SeqAt
open AutoSeq1 (wpAny_loadPart')
open MeetsSeq MeetsSeq2 MeetsSeq3 SeqRoads2
section
variable {prog : Program} {w : World} {A : Around} {R : Result → Shared → Prop}
theorem tuple_eqP (l b : Addr) (items items2 : Array Value) (n n2 : Nat) (dd dd2 : Option Addr) (sl sl2 : Array (Option Value)) (hsz : items.size = items2.size) (e : Nat → Bool) {s : Shared}
    (he : ∀ i (h1 : i < items.size) (h2 : i < items2.size), EqP prog w A.in1 s items[i] items2[i] (e i))
    (fin : R (.ok (.ret (.bool ((List.range items.size).all e)))) s) (hl1 : s.heap.get? l = some { cls := .type "tuple", dict := dd, data := .seq items n, slots := sl }) (hb1 : s.heap.get? b = some { cls := .type "tuple", dict := dd2, data := .seq items2 n2, slots := sl2 }) :
    wpAny (model prog w) A.in1 (Builtin.«tuple.__eq__» ⟨[.ref l, .ref b], []⟩) (FinOf prog w A R) (fun e s' => R (.error e) s') s := by
  have f2 := AutoSeq1.sub_tuple_tuple
  have hZ : (items.toList.zip items2.toList).length = items.size := by simp [hsz]
  have no : ∀ i, i < items.size → e i = false → (List.range items.size).all e = false := fun i hi hf => by
    rw [List.all_eq_false]
    exact ⟨i, List.mem_range.mpr hi, by rw [hf]; exact fun c => nomatch c⟩
  have s0 : s = s := rfl
  generalize hs : s = t at he fin hl1 hb1 ⊢
  have hst : s = t := hs
  obtain ⟨hp, g, d, tk, os⟩ := t
  wp_walk using wpAny_loadPart' hl1, wpAny_loadPart' hb1, wpAny_forIn_list _ (fun rest b s' => b.1 = none ∧ ∃ i, rest = (items.toList.zip items2.toList).drop i ∧ i ≤ items.size ∧ (∀ j, j < i → e j = true) ∧ s' = ⟨hp, g, d, tk, os⟩) _
  case turn =>
    rintro ⟨y, x⟩ rest b s' ⟨hb', i, hz, hi, hI, rfl⟩
    have hlt : i < (items.toList.zip items2.toList).length := by
      rcases Nat.lt_or_ge i (items.toList.zip items2.toList).length with h' | h'
      · exact h'
      · rw [List.drop_of_length_le h'] at hz; cases hz
    have h1 : i < items.size := hZ ▸ hlt
    have h2 : i < items2.size := hsz ▸ h1
    rw [List.drop_eq_getElem_cons hlt] at hz
    injection hz with hyx hrest
    have hy : y = items[i] := by have := congrArg Prod.fst hyx; simpa using this
    have hx : x = items2[i] := by have := congrArg Prod.snd hyx; simpa using this
    subst hy hx
    refine wpAny_bind (he i h1 h2 _ _ ?_)
    cases hei : e i with
    | true =>
      wp_walk
      refine ⟨rfl, i + 1, hrest, h1, fun j hj => ?_, rfl⟩
      by_cases c : j = i
      · rw [c]; exact hei
      · exact hI j (by omega)
    | false =>
      have hR := fin
      rw [no i h1 hei] at hR
      wp_walk
      exact hR
  case fin =>
    rintro ⟨b1, b2⟩ s' ⟨hb', i, hz, hi, hI, rfl⟩
    simp only at hb'
    subst hb'
    have hge : items.size ≤ i := by
      rcases Nat.lt_or_ge i (items.toList.zip items2.toList).length with h' | h'
      · rw [List.drop_eq_getElem_cons h'] at hz; cases hz
      · exact hZ ▸ h'
    have hi' : i = items.size := by omega
    have hall : (List.range items.size).all e = true := List.all_eq_true.mpr fun j hj => hI j (by have := List.mem_range.mp hj; omega)
    rw [hall] at fin
    wp_walk
    simpa [Builtin.Tuple.tupleCompareSizes, hsz] using fin
  case h =>
    exact ⟨rfl, 0, rfl, Nat.zero_le _, fun j hj => absurd hj (Nat.not_lt_zero j), rfl⟩
theorem rcP_tuples {A : Around} {s : Shared} {l b : Addr} {items items2 : Array Value} {e : Nat → Bool} (hl : s.heap.IsTuple l items) (hb : s.heap.IsTuple b items2) (hsz : items.size = items2.size) (hu : A.units < cLine)
    (he : ∀ j (h1 : j < items.size) (h2 : j < items2.size), EqP prog w A.in1 s items[j] items2[j] (e j)) (E Q : Value → Shared → Prop) (h : Q (.bool ((List.range items.size).all e)) s) : wpAny (model prog w) A (richCompare .Eq (.ref l) (.ref b)) Q E s := by
  obtain ⟨⟨cls, dd, data, sl⟩, ho, hc, n, hd⟩ := id hl
  obtain ⟨⟨cls2, dd2, data2, sl2⟩, ho2, hc2, n2, hd2⟩ := id hb
  simp only at hc hd hc2 hd2
  subst hc hd hc2 hd2
  refine wpAny_richCompare_same_room (op := .Eq) ⟨_, ho, rfl⟩ ⟨_, ho2, rfl⟩ F.slot_tuple_eq (call_here F.slot_tuple_eq ⟨_, ho, rfl⟩ F.entry_tuple_eq (F.args_tuple_eq_2 _ _) ?_) hu
  exact tuple_eqP (R := wants (fun v s' => v ≠ .notImplemented ∧ Q v s') E) l b items items2 n n2 dd dd2 sl sl2 hsz e he ⟨(fun x => nomatch x), h⟩ ho ho2
end
end GQ
set_option maxRecDepth 100000
set_option maxHeartbeats 2000000
/-! == of nested dicts and tuples, both answers -/
namespace L2
open PySem PySem.Spec PyProof.Rows
/-- the pairs of one dict looked up in the other -/
inductive HitsB (F : V → V → Bool → Prop) (ls : List (Key × V)) : List (Key × V) → Bool → Prop
  | nil : HitsB F ls [] true
  | miss {k : Key} {v : V} {r : List (Key × V)} : valV ls k = none → HitsB F ls ((k, v) :: r) false
  | hit {k : Key} {v u : V} {r : List (Key × V)} {e b : Bool} : valV ls k = some u → F v u e → HitsB F ls r b → HitsB F ls ((k, v) :: r) (e && b)
/-- items side by side -/
inductive PrsB (F : V → V → Bool → Prop) : List V → List V → List Bool → Prop
  | nil : PrsB F [] [] []
  | cons {x y : V} {xs ys : List V} {b : Bool} {bs : List Bool} : F x y b → PrsB F xs ys bs → PrsB F (x :: xs) (y :: ys) (b :: bs)
/-- two tuples of one length, or two dicts -/
def EqRB (K : PySem.W.Frag) (H : Hp) (F : V → V → Bool → Prop) (x y : V) (b : Bool) : Prop :=
  (∃ a c xs ys bs, x = .ref a ∧ y = .ref c ∧ SqT K H a xs ∧ SqT K H c ys ∧ PrsB F xs ys bs ∧ b = bs.all id) ∨
    ∃ a c ks ls r, x = .ref a ∧ y = .ref c ∧ H a = some (.dK ks) ∧ H c = some (.dK ls) ∧ (ks.length = ls.length → HitsB F ls ks r) ∧ b = (ks.length == ls.length && r)
/-- of nesting below n -/
def EqVB (K : PySem.W.Frag) (H : Hp) : Nat → V → V → Bool → Prop
  | 0 => fun _ _ _ => False
  | n + 1 => fun x y b => (flatV x = true ∧ flatV y = true ∧ b = eqV x y) ∨ (∃ a, x = .ref a ∧ y = .ref a ∧ b = true) ∨ ((∀ a, x = .ref a → y = .ref a → b = true) ∧ EqRB K H (EqVB K H n) x y b)
theorem PrsB.run {P : Program} {w : World} {A : Around} {s : Shared} {F : V → V → Bool → Prop} (ih : ∀ x y b v u, F x y b → RelV x v → RelV y u → SeqAt.EqP P w A s v u b) {xs ys : List V} {bs : List Bool} (hp : PrsB F xs ys bs) :
    ∀ {us ws : List Value}, Vals xs us → Vals ys ws → us.length = ws.length ∧ bs.length = us.length ∧ ∀ j (h1 : j < us.length) (h2 : j < ws.length), SeqAt.EqP P w A s us[j] ws[j] (bs.getD j true) := by
  induction hp with
  | nil =>
    intro us ws r1 r2
    cases r1
    cases r2
    exact ⟨rfl, rfl, fun j h1 h2 => absurd h1 (Nat.not_lt_zero j)⟩
  | cons h _ k =>
    intro us ws r1 r2
    cases r1 with
    | cons a1 b1 =>
      cases r2 with
      | cons a2 b2 =>
        obtain ⟨e1, e2, k⟩ := k b1 b2
        refine ⟨congrArg (· + 1) e1, congrArg (· + 1) e2, fun j h1 h2 => ?_⟩
        cases j with
        | zero => exact ih _ _ _ _ _ h a1 a2
        | succ j => exact k j (Nat.lt_of_succ_lt_succ h1) (Nat.lt_of_succ_lt_succ h2)
theorem HitsB.run {P : Program} {w : World} {A : Around} {s : Shared} {F : V → V → Bool → Prop} (ih : ∀ x y b v u, F x y b → RelV x v → RelV y u → SeqAt.EqP P w A s v u b) {ls : List (Key × V)} {vb : List (Key × Value)} (rb : KV ls vb) {ks : List (Key × V)} {b : Bool}
    (hp : HitsB F ls ks b) : ∀ {va : List (Key × Value)}, KV ks va → PySem.W.KeqHitsP P w A s vb va b := by
  induction hp with
  | nil =>
    intro va ra
    cases ra
    exact .nil
  | @miss k v r hn =>
    intro va ra
    cases ra with
    | @cons p q ps qs h t =>
      obtain ⟨h1, h2⟩ := h
      obtain ⟨key, w'⟩ := q
      have h1' : k = key := h1
      have rr : RelO none (valueAt vb k) := by rw [← hn]; exact rb.val k
      rw [h1'] at rr
      exact .miss (RelO.none_of rr)
  | @hit k v u r e b hu hf _ kk =>
    intro va ra
    cases ra with
    | @cons p q ps qs h t =>
      obtain ⟨h1, h2⟩ := h
      obtain ⟨key, w'⟩ := q
      have h1' : k = key := h1
      have rr : RelO (some u) (valueAt vb k) := by rw [← hu]; exact rb.val k
      obtain ⟨y, hy, ry⟩ := rr.some_of
      rw [h1'] at hy
      exact .hit hy (ih _ _ _ _ _ hf h2 ry) (kk t)
section
variable {X : Cx} {pins : List (Addr × Obj)} {σ : St} {H : Hp} {s : Shared}
theorem all_getD (bs : List Bool) : (List.range bs.length).all (fun j => bs.getD j true) = bs.all id := by
  induction bs with
  | nil => rfl
  | cons b bs ih =>
    rw [List.length_cons, List.range_succ_eq_map, List.all_cons, List.all_map]
    show (b && (List.range bs.length).all _) = (b && bs.all id)
    rw [← ih]
    rfl
theorem eqRB_run (I : Inv X pins σ H s) {A : Around} {F : V → V → Bool → Prop} (hu : A.units < cLine) (ih : ∀ x y b v u, F x y b → RelV x v → RelV y u → SeqAt.EqP X.prog X.w A.in1 s v u b) {x y : V} {b : Bool} {v u : Value} (h : EqRB X.K H F x y b) (rx : RelV x v) (ry : RelV y u)
    (E Q : Value → Shared → Prop) (q : Q (.bool b) s) : wpAny (model X.prog X.w) A (richCompare .Eq v u) Q E s := by
  rcases h with ⟨a, c, xs, ys, bs, rfl, rfl, ha, hb, hp, rfl⟩ | ⟨a, c, ks, ls, r, rfl, rfl, ha, hb, hp, rfl⟩
  · cases (show v = Value.ref a from rx)
    cases (show u = Value.ref c from ry)
    obtain ⟨us, r1, p1, _⟩ := I.tuple ha
    obtain ⟨ws, r2, p2, _⟩ := I.tuple hb
    obtain ⟨e1, e2, k⟩ := hp.run ih r1 r2
    refine GQ.rcP_tuples (e := fun j => bs.getD j true) p1 p2 (by simpa using e1) hu (fun j h1 h2 => ?_) E Q ?_
    · have := k j (by simpa using h1) (by simpa using h2)
      simpa using this
    · rw [List.size_toArray, ← e2, all_getD]
      exact q
  · cases (show v = Value.ref a from rx)
    cases (show u = Value.ref c from ry)
    obtain ⟨_, ya, va, ra, da⟩ := (show ObjOk X.prog X.w H s.heap a (.dK ks) from I.hok a _ ha)
    obtain ⟨_, yb, vb, rb, db⟩ := (show ObjOk X.prog X.w H s.heap c (.dK ls) from I.hok c _ hb)
    refine PySem.W.rcP_dicts (knd := mixKind X.prog X.w) (r := r) ya yb da db hu (fun e => (hp (by rw [ra.length, rb.length]; exact e)).run ih rb ra) E Q ?_
    have e1 := ra.length
    have e2 := rb.length
    rw [← e1, ← e2]
    exact q
theorem eqVB_run (I : Inv X pins σ H s) : ∀ (n : Nat) (A : Around), A.units + n < cLine → ∀ (x y : V) (b : Bool) (v u : Value), EqVB X.K H n x y b → RelV x v → RelV y u → SeqAt.EqP X.prog X.w A s v u b
  | 0, _, _, _, _, _, _, _, h, _, _ => (show False from h).elim
  | n + 1, A, hu, x, y, b, v, u, h, rx, ry => by
    rcases h with ⟨f1, f2, rfl⟩ | ⟨a, rfl, rfl, rfl⟩ | ⟨same, h⟩
    · exact (eqAt_V rx ry f1 f2).eqP
    · cases (show v = Value.ref a from rx)
      cases (show u = Value.ref a from ry)
      exact (SeqAt.EqAt.same _).eqP
    · have step := eqRB_run I (A := A) (by omega) (eqVB_run I n A.in1 (by show A.units + 1 + n < cLine; omega)) h rx ry
      obtain ⟨a, c, rfl, rfl⟩ : ∃ a c, x = .ref a ∧ y = .ref c := by
        rcases h with ⟨a, c, _, _, _, e1, e2, _⟩ | ⟨a, c, _, _, _, e1, e2, _⟩
        · exact ⟨a, c, e1, e2⟩
        · exact ⟨a, c, e1, e2⟩
      cases (show v = Value.ref a from rx)
      cases (show u = Value.ref c from ry)
      by_cases e : a = c
      · subst e
        rw [same a rfl rfl]
        exact (SeqAt.EqAt.same _).eqP
      · exact SeqAt.eqP_refs e step
end
section
variable {X : Cx}
/-- a == b, dicts or tuples of one length -/
def rEqVB (K : PySem.W.Frag) : R2 := fun x y H Q => ∃ n b, n ≤ 60 ∧ EqRB K H (EqVB K H n) x y b ∧ Q (.bl b) H
theorem op_eqVB (hu : X.A.units + 64 < cLine) : OpR X (compareOp .Eq) (rEqVB X.K) := by
  intro pins s σ H x y v u Q I rx ry h
  obtain ⟨n, b, hn, h, q⟩ := h
  exact eqRB_run I (A := X.A) (by omega) (eqVB_run I n X.A.in1 (by show X.A.units + 1 + n < cLine; omega)) h rx ry _ _ ⟨.bl b, H, I, rfl, q⟩
end
end L2
set_option maxRecDepth 100000
set_option maxHeartbeats 2000000
namespace Fm
open PySem PySem.Spec PyProof.Rows L2
def leaf : D → List Int
  | .int u => [u]
  | .tup (_ :: r) => leaves r
  | _ => []
theorem leaves_app (a b : List D) : leaves (a ++ b) = leaves a ++ leaves b := by
  unfold leaves
  rw [flats_app, List.filterMap_append]
theorem leaves_one (d : D) : leaves [d] = leaf d := by
  unfold leaves
  simp only [flats, List.append_nil]
  rw [flat_eq]
  cases d with
  | int u => rfl
  | tup ds => cases ds <;> rfl
  | _ => rfl
theorem leaves_len (ds : List D) : (leaves ds).length ≤ sizes ds := by
  have h1 := List.length_filterMap_le intOf (flats ds)
  have h2 := flats_len ds
  unfold leaves
  omega
def opOf : D → Nat
  | .tup (_ :: r) => 1 + opsOf r
  | .tup [] => 1
  | _ => 0
theorem ops_app (a b : List D) : opsOf (a ++ b) = opsOf a + opsOf b := by
  unfold opsOf
  rw [flats_app, List.filter_append, List.length_append]
theorem ops_one (d : D) : opsOf [d] = opOf d := by
  unfold opsOf
  simp only [flats, List.append_nil]
  rw [flat_eq]
  cases d with
  | tup ds =>
    cases ds with
    | nil => rfl
    | cons x r =>
      simp only [parts, List.filter_cons, isT, if_true, List.length_cons, opOf, opsOf]
      omega
  | _ => rfl
theorem ops_sum (ds : List D) : ((ds.map fun d => (opOf d : Int))).sum = (opsOf ds : Int) := by
  induction ds with
  | nil => rfl
  | cons d r ih =>
    have e : opsOf (d :: r) = opOf d + opsOf r := by
      rw [← ops_one, ← ops_app]
      rfl
    rw [List.map_cons, List.sum_cons, ih, e]
    omega
theorem dvl_intsOf {H : Hp} : ∀ {ns : List Int} {zs : List V}, DvL H zs (ns.map D.int) → zs = ns.map V.int
  | [], _, h => by cases h; rfl
  | n :: r, _, h => by
    cases h with
    | cons a b =>
      cases a
      rw [dvl_intsOf b]
      rfl
/-- _law_leaves -/
def spLeaves (K : PySem.W.Frag) (m : Nat) : Sp := fun vs H Q _ => ∃ a us ds, vs = [.ref a] ∧ (SqL K H a us ∨ SqT K H a us) ∧ DvL H us ds ∧ (∀ d ∈ ds, Tm d) ∧ deeps ds < m ∧ sizes ds ≤ 100000 ∧
  ∀ l H', Same H H' → H l = none → H' l = some (.lst ((leaves ds).map V.int)) → Q (.ref l) H'
/-- _law_size -/
def spLSize (K : PySem.W.Frag) (m : Nat) : Sp := fun vs H Q _ => ∃ a us ds, vs = [.ref a] ∧ (SqL K H a us ∨ SqT K H a us) ∧ DvL H us ds ∧ (∀ d ∈ ds, Tm d) ∧ deeps ds < m ∧ sizes ds ≤ 100000 ∧ ∀ H', Same H H' → Q (.int (opsOf ds : Nat)) H'
theorem inV_ints (u : Int) (us : List Int) : inV (.int u) (us.map V.int) = decide (u ∈ us) := by
  induction us with
  | nil => rfl
  | cons v r ih =>
    have e : inV (.int u) ((v :: r).map V.int) = ((v == u) || inV (.int u) (r.map V.int)) := rfl
    rw [e, ih, Bool.eq_iff_iff]
    simp only [Bool.or_eq_true, beq_iff_eq, decide_eq_true_iff, List.mem_cons]
    constructor
    · rintro (h | h)
      · exact .inl h.symm
      · exact .inr h
    · rintro (h | h)
      · exact .inl h.symm
      · exact .inr h
theorem flat_ints (us : List Int) : (us.map V.int).all flatV = true := by
  induction us with
  | nil => rfl
  | cons v r ih => rw [List.map_cons, List.all_cons, ih]; rfl
theorem addI_nodup {us : List Int} {u : Int} (h : us.Nodup) : (addI us u).Nodup := by
  unfold addI
  split
  · exact h
  · rename_i m
    rw [List.nodup_append]
    refine ⟨h, by simp, ?_⟩
    intro a ha b hb
    simp at hb
    subst hb
    rintro rfl
    exact m ha
theorem foldl_addI_nodup (ls : List Int) : ∀ {us : List Int}, us.Nodup → (ls.foldl addI us).Nodup := by
  induction ls with
  | nil => exact fun h => h
  | cons u r ih => exact fun h => ih (addI_nodup h)
theorem firstsOf_nodup (ds : List D) : (firstsOf ds).Nodup := foldl_addI_nodup _ List.nodup_nil
theorem merge_ord : ∀ (us pre : List Int), (pre ++ us).Nodup → mergeK (ordK pre 0) (ordK us pre.length) = ordK (pre ++ us) 0
  | [], pre, _ => by rw [List.append_nil]; rfl
  | u :: r, pre, h => by
    have nu : u ∉ pre := fun m => by
      rw [List.nodup_append] at h
      exact h.2.2 u m u List.mem_cons_self rfl
    have e1 : valV (ordK pre 0) (.inl u) = none := by rw [ordK_val, if_neg nu]
    have e2 : mergeK (ordK pre 0) (ordK (u :: r) pre.length) = mergeK (putK (ordK pre 0) (.inl u) (.int (pre.length : Int))) (ordK r (pre.length + 1)) := rfl
    have e3 : ordK pre 0 ++ [(.inl u, .int (pre.length : Int))] = ordK (pre ++ [u]) 0 := by rw [ordK_app, Nat.zero_add]
    have e4 : pre.length + 1 = (pre ++ [u]).length := by simp
    rw [e2, putK_new _ e1, e3, e4, merge_ord r (pre ++ [u]) (by rw [List.append_assoc]; exact h), List.append_assoc]
    rfl
theorem walk_rangeA {n : Nat} : Walk (Itr 0 n) ((List.range n).map fun i : Nat => V.int (i : Int)).length (fun _ => True) (YAt ((List.range n).map fun i : Nat => V.int (i : Int))) := by
  rw [List.length_map, List.length_range]
  refine walk_range.mono (fun _ h => h) fun i H x H' hi _ ⟨e, y⟩ => ⟨e, ?_⟩
  rw [List.getElem?_map, List.getElem?_range hi, y]
  show some (V.int (i : Int)) = some (.int (0 + (i : Int)))
  rw [Int.zero_add]
/-- a list of pairs as a dict's entries -/
theorem dvl_pairs {K : PySem.W.Frag} {H : Hp} : ∀ {us : List Int} {n : Nat} {zs : List V}, DvL H zs ((us.zipIdx n).map fun p => D.tup [.int p.1, .int (p.2 : Int)]) → ∃ ps : List Addr, zs = ps.map V.ref ∧ Paired (fun p kv => SqT K H p [kV kv.1, kv.2]) ps (ordK us n)
  | [], n, zs, h => by cases h; exact ⟨[], rfl, .nil⟩
  | u :: r, n, zs, h => by
    rw [List.zipIdx_cons, List.map_cons] at h
    cases h with
    | cons a b =>
      obtain ⟨ps, rfl, h2⟩ := dvl_pairs b
      cases a with
      | @tup p xs _ h3 h4 =>
      cases h4 with
      | cons a1 b1 =>
      cases b1 with
      | cons a2 b2 =>
      cases a1
      cases a2
      cases b2
      exact ⟨p :: ps, rfl, .cons (SqT.of h3) h2⟩
def pairAt (us : List Int) (d : D) : D := .tup [.int (us.getD (match d with | .int i => i.toNat | _ => 0) 0), d]
theorem pairs_eq (us : List Int) : ((List.range us.length).map fun i : Nat => D.int (i : Int)).map (pairAt us) = (us.zipIdx 0).map fun p => D.tup [.int p.1, .int (p.2 : Int)] := by
  apply List.ext_getElem?
  intro i
  rw [List.getElem?_map, List.getElem?_map, List.getElem?_map, List.getElem?_zipIdx]
  by_cases h : i < us.length
  · rw [List.getElem?_range h, List.getElem?_eq_getElem h]
    simp only [Option.map_some, pairAt, Int.toNat_natCast, Nat.zero_add]
    rw [List.getD_eq_getElem?_getD, List.getElem?_eq_getElem h]
    rfl
  · rw [List.getElem?_eq_none (by rw [List.length_range]; omega), List.getElem?_eq_none (by omega)]
    rfl
theorem pairAt_get {us : List Int} {i : Nat} (h : i < us.length) : pairAt us (.int (i : Int)) = .tup [.int us[i], .int (i : Int)] := by
  simp only [pairAt, Int.toNat_natCast]
  rw [List.getD_eq_getElem?_getD, List.getElem?_eq_getElem h]
  rfl
theorem mem_flats {d e : D} {ds : List D} (hd : d ∈ ds) (h : e ∈ flat d) : e ∈ flats ds := by
  induction ds with
  | nil => cases hd
  | cons c r ih =>
    simp only [flats, List.mem_append]
    rcases List.mem_cons.mp hd with rfl | hd
    · exact .inl h
    · exact .inr (ih hd)
/-- _law_numbered -/
def spLNum (K : PySem.W.Frag) (m : Nat) : Sp := fun vs H Q _ => ∃ a us ds, vs = [.ref a] ∧ SqL K H a us ∧ DvL H us ds ∧ (∀ d ∈ ds, Tm d) ∧ deeps ds < m ∧ sizes ds ≤ 100000 ∧
  ∀ l H' ws, Same H H' → H l = none → H' l = some (.lst ws) → DvL H' ws (puts (numF ds) ds) → Q (.ref l) H'
/-- unknowns from 0 on, below n -/
def Unk (n : Int) (d : D) : Prop := ∀ u, D.int u ∈ flat d → 0 ≤ u ∧ u < n
theorem Unk.int {n i : Int} (h0 : 0 ≤ i) (h1 : i < n) : Unk n (.int i) := fun u hu => by
  simp [flat] at hu
  subst hu
  exact ⟨h0, h1⟩
theorem flats_mem {e : D} {ds : List D} (h : e ∈ flats ds) : ∃ d ∈ ds, e ∈ flat d := by
  induction ds with
  | nil => simp [flats] at h
  | cons c r ih =>
    simp only [flats, List.mem_append] at h
    rcases h with h | h
    · exact ⟨c, List.mem_cons_self, h⟩
    · obtain ⟨d, h1, h2⟩ := ih h
      exact ⟨d, List.mem_cons_of_mem _ h1, h2⟩
theorem Unk.tup {n : Int} {x : Str} {ds : List D} (h : ∀ d ∈ ds, Unk n d) : Unk n (.tup (.str x :: ds)) := fun u hu => by
  have e : flat (.tup (.str x :: ds)) = .tup (.str x :: ds) :: flats ds := by simp [flat, flatT]
  rw [e] at hu
  rcases List.mem_cons.mp hu with z | hu
  · cases z
  · obtain ⟨d, h1, h2⟩ := flats_mem hu
    exact h d h1 u h2
theorem Unk.mono {n m : Int} {d : D} (h : Unk n d) (k : n ≤ m) : Unk m d := fun u hu => let ⟨a, b⟩ := h u hu; ⟨a, by omega⟩
def spTermU (m : Nat) : Sp := fun vs H Q _ => ∃ (b p nm : Addr) (xs : List Str) (many : Int) (k : Nat) (deep : Int), vs = [.ref b, .ref nm, .int many, .int deep] ∧ deep = (k : Int) ∧ Bag b p H ∧ Names nm b H xs ∧ 0 < many ∧ many ≤ 1000 ∧ k < m ∧ k ≤ 100 ∧
  ∀ v H' d, Go b p H H' → Dv (newof H H') v d → Tm d → Sized k d → Unk many d → Q v H'
/-- _law_great -/
def spGreat : Sp := fun vs H Q _ => ∃ (b p nm : Addr) (xs : List Str), vs = [.ref b, .ref nm] ∧ Bag b p H ∧ Names nm b H xs ∧
  ∀ v H' d, Go b p H H' → Dv (newof H H') v d → Tm d → d.deep ≤ 30 → d.size ≤ 3000 → Unk 5 d → Q v H'
end Fm
set_option maxRecDepth 100000
set_option maxHeartbeats 2000000
/-! Fm: what data are as Python's values, and how long they are shown. -/
namespace Fm
open PySem PySem.Spec PyProof.Rows L2
mutual
def pdOf : D → PyData
  | .non => .none
  | .bl b => .bool b
  | .int i => .int i
  | .str x => .str x
  | .tup ds => .tuple (pdsOf ds)
  | .lst ds => .list (pdsOf ds)
  | .dic => .none
def pdsOf : List D → List PyData
  | [] => []
  | d :: r => pdOf d :: pdsOf r
end
mutual
theorem dp_pd {K : PySem.W.Frag} {H : Hp} : ∀ (d : D) (v : V), Dv H v d → noDic d = true → Dp K H v (pdOf d) ∧ (pdOf d).canLay0 = true
  | .non, _, h, _ => by cases h; exact ⟨.non, rfl⟩
  | .bl _, _, h, _ => by cases h; exact ⟨.bl _, rfl⟩
  | .int _, _, h, _ => by cases h; exact ⟨.int _, rfl⟩
  | .str _, _, h, _ => by
    cases h with
    | str _ o => exact ⟨.str _, by simpa [pdOf, PyData.canLay0] using o⟩
  | .tup ds, _, h, n => by
    cases h with
    | tup a b =>
      obtain ⟨h1, h2⟩ := dps_pd ds _ b (by simpa [noDic] using n)
      exact ⟨.tup (SqT.of a) h1, by simpa [pdOf, PyData.canLay0] using h2⟩
  | .lst ds, _, h, n => by
    cases h with
    | lst a b =>
      obtain ⟨h1, h2⟩ := dps_pd ds _ b (by simpa [noDic] using n)
      exact ⟨.lst (SqL.of a) h1, by simpa [pdOf, PyData.canLay0] using h2⟩
  | .dic, _, _, n => by simp [noDic] at n
theorem dps_pd {K : PySem.W.Frag} {H : Hp} : ∀ (ds : List D) (vs : List V), DvL H vs ds → noDics ds = true → DpAll K H vs (pdsOf ds) ∧ PyData.canLayAll0 (pdsOf ds) = true
  | [], _, h, _ => by cases h; exact ⟨.nil, by simp [pdsOf, PyData.canLayAll0]⟩
  | d :: ds, _, h, n => by
    cases h with
    | cons a b =>
      have n' : noDic d = true ∧ noDics ds = true := by simpa [noDics] using n
      obtain ⟨h1, h2⟩ := dp_pd d _ a n'.1
      obtain ⟨h4, h5⟩ := dps_pd ds _ b n'.2
      exact ⟨.cons h1 h4, by simp [pdsOf, PyData.canLayAll0, h2, h5]⟩
end
mutual
theorem pd_depth : ∀ d : D, (pdOf d).depth ≤ d.deep + 1
  | .non => by simp [pdOf, PyData.depth]
  | .bl _ => by simp [pdOf, PyData.depth]
  | .int _ => by simp [pdOf, PyData.depth]
  | .str _ => by simp [pdOf, PyData.depth]
  | .dic => by simp [pdOf, PyData.depth]
  | .tup ds => by
    have := pds_depth ds
    simp only [pdOf, PyData.depth, D.deep]
    omega
  | .lst ds => by
    have := pds_depth ds
    simp only [pdOf, PyData.depth, D.deep]
    omega
theorem pds_depth : ∀ ds : List D, PyData.depthAll (pdsOf ds) ≤ deeps ds + 1
  | [] => by simp [pdsOf, PyData.depthAll]
  | d :: r => by
    have h1 := pd_depth d
    have h2 := pds_depth r
    simp only [pdsOf, PyData.depthAll, deeps]
    omega
end
mutual
/-- the ints in data -/
def intsIn : D → List Int
  | .int i => [i]
  | .tup ds => intsOf ds
  | .lst ds => intsOf ds
  | _ => []
def intsOf : List D → List Int
  | [] => []
  | d :: r => intsIn d ++ intsOf r
end
/-- ints of at most so many bits, and no longer shown than B -/
def Short (B bits : Nat) (i : Int) : Prop := i.natAbs.log2 + 1 ≤ bits ∧ bits ≤ 1900 ∧ (PyData.shown (.int i)).length ≤ B
mutual
theorem pd_short {B bits : Nat} : ∀ d : D, (∀ i ∈ intsIn d, Short B bits i) → (pdOf d).intsShort B = true ∧ (pdOf d).showable = true ∧ (pdOf d).weight + 1 ≤ 2 * d.size + bits * (intsIn d).length
  | .non, _ => by
    simp [pdOf, PyData.intsShort, PyData.showable, PyData.weight, D.size]
    omega
  | .bl _, _ => by
    simp [pdOf, PyData.intsShort, PyData.showable, PyData.weight, D.size]
    omega
  | .dic, _ => by
    simp [pdOf, PyData.intsShort, PyData.showable, PyData.weight, D.size]
    omega
  | .str x, _ => by
    refine ⟨by simp [pdOf, PyData.intsShort], by simp [pdOf, PyData.showable], ?_⟩
    simp only [pdOf, PyData.weight, D.size]
    have : x.cps.size = x.length := rfl
    omega
  | .int i, h => by
    have := h i (by simp [intsIn])
    obtain ⟨h1, h2, h3⟩ := this
    refine ⟨by simpa only [pdOf, PyData.intsShort, decide_eq_true_eq] using h3, ?_, ?_⟩
    · simp only [pdOf, PyData.showable, decide_eq_true_eq]
      omega
    · simp only [pdOf, PyData.weight, D.size, intsIn, List.length_singleton]
      split <;> omega
  | .tup ds, h => by
    obtain ⟨h1, h2, h3⟩ := pds_short ds (by simpa [intsIn] using h)
    refine ⟨by simpa only [pdOf, PyData.intsShort] using h1, by simpa only [pdOf, PyData.showable] using h2, ?_⟩
    have h4 : PyData.weight (pdOf (.tup ds)) = PyData.weightAll (pdsOf ds) := rfl
    have h5 : intsIn (.tup ds) = intsOf ds := by simp [intsIn]
    rw [h4, h5]
    simp only [D.size]
    omega
  | .lst ds, h => by
    obtain ⟨h1, h2, h3⟩ := pds_short ds (by simpa [intsIn] using h)
    refine ⟨by simpa only [pdOf, PyData.intsShort] using h1, by simpa only [pdOf, PyData.showable] using h2, ?_⟩
    have h4 : PyData.weight (pdOf (.lst ds)) = PyData.weightAll (pdsOf ds) := rfl
    have h5 : intsIn (.lst ds) = intsOf ds := by simp [intsIn]
    rw [h4, h5]
    simp only [D.size]
    omega
theorem pds_short {B bits : Nat} : ∀ ds : List D, (∀ i ∈ intsOf ds, Short B bits i) → PyData.intsShortAll B (pdsOf ds) = true ∧ PyData.showableAll (pdsOf ds) = true ∧ PyData.weightAll (pdsOf ds) ≤ 2 * sizes ds + bits * (intsOf ds).length
  | [], _ => by simp [pdsOf, PyData.intsShortAll, PyData.showableAll, PyData.weightAll]
  | d :: r, h => by
    obtain ⟨a1, a2, a3⟩ := pd_short d fun i hi => h i (by simp [intsOf, hi])
    obtain ⟨b1, b2, b3⟩ := pds_short r fun i hi => h i (by simp [intsOf, hi])
    refine ⟨by simp [pdsOf, PyData.intsShortAll, a1, b1], by simp [pdsOf, PyData.showableAll, a2, b2], ?_⟩
    have := size_pos d
    simp only [pdsOf, PyData.weightAll, sizes, intsOf, List.length_append, Nat.mul_add]
    omega
end
/-- what is asked of data that are compared and shown -/
theorem pd_ok {B bits : Nat} (hB : 8 ≤ B) {d : D} {K : PySem.W.Frag} {H : Hp} {v : V} (h : Dv H v d) (hs : ∀ i ∈ intsIn d, Short B bits i) (nd : noDic d = true) (dz : d.deep ≤ 58) (hz : (B + 2) * (2 * d.size + bits * (intsIn d).length) + B ≤ 16000000) :
    Dp K H v (pdOf d) ∧ SeqAt.shaped (pdOf d) = true ∧ (pdOf d).showable = true ∧ (pdOf d).hasDict = false ∧ (pdOf d).depth ≤ 60 ∧ (pdOf d).shown.length ≤ sizeLine := by
  obtain ⟨h1, h2⟩ := dp_pd (K := K) d v h nd
  obtain ⟨a1, a2, a3⟩ := pd_short d hs
  have dd := pd_depth d
  refine ⟨h1, ?_, a2, PyData.hasDict_of_canLay _ h2, by omega, ?_⟩
  · unfold SeqAt.shaped
    simp [h2]
    omega
  · have e := PyData.shown_le B hB (pdOf d) (PyData.leavesShort_of_canLay0 B _ h2 a1)
    have e2 : (B + 2) * (pdOf d).weight ≤ (B + 2) * (2 * d.size + bits * (intsIn d).length) := Nat.mul_le_mul_left _ (by omega)
    have e3 : sizeLine = 16777216 := by decide
    omega
theorem short_small {i : Int} (h0 : 0 ≤ i) (h1 : i < 1000000) : Short 13 20 i := by
  have e12 : (10 : Nat) ^ 12 = 1000000000000 := by decide
  refine ⟨?_, by decide, PyData.shown_int_le (by omega)⟩
  have : i.natAbs.log2 < 20 := by
    by_cases z : i.natAbs = 0
    · rw [z]; decide
    · rw [Nat.log2_lt z]
      have : (2 : Nat) ^ 20 = 1048576 := by decide
      omega
  omega
theorem short_far : Short 41 130 (10 ^ 39) := by
  refine ⟨by decide +kernel, by decide, by decide +kernel⟩
theorem Short.wide {B bits B' bits' : Nat} {i : Int} (h : Short B bits i) (h1 : B ≤ B') (h2 : bits ≤ bits') (h3 : bits' ≤ 1900) : Short B' bits' i := ⟨Nat.le_trans h.1 h2, h3, Nat.le_trans h.2.2 h1⟩
/-- unknowns below n, of at most so many places -/
def UnkL (n : Int) (k : Nat) (d : D) : Prop := Unk n d ∧ (intsIn d).length ≤ 3 ^ k
theorem UnkL.int {n i : Int} {k : Nat} (h0 : 0 ≤ i) (h1 : i < n) : UnkL n k (.int i) := ⟨Unk.int h0 h1, by
  have : 1 ≤ 3 ^ k := Nat.one_le_pow _ _ (by decide)
  simpa [intsIn] using this⟩
theorem intsOf_len {ds : List D} {m : Nat} (h : ∀ d ∈ ds, (intsIn d).length ≤ m) : (intsOf ds).length ≤ ds.length * m := by
  induction ds with
  | nil => simp [intsOf]
  | cons d r ih =>
    have h1 := h d List.mem_cons_self
    have h2 := ih fun e he => h e (List.mem_cons_of_mem _ he)
    simp only [intsOf, List.length_append, List.length_cons, Nat.add_mul, Nat.one_mul]
    omega
theorem UnkL.tup {n : Int} {k : Nat} {x : Str} {ds : List D} (l : ds.length ≤ 3) (h : ∀ d ∈ ds, UnkL n k d) : UnkL n (k + 1) (.tup (.str x :: ds)) := by
  refine ⟨Unk.tup fun d hd => (h d hd).1, ?_⟩
  have h1 := intsOf_len fun d hd => (h d hd).2
  have h2 : ds.length * 3 ^ k ≤ 3 * 3 ^ k := Nat.mul_le_mul_right _ l
  have e : intsIn (.tup (.str x :: ds)) = intsOf ds := by simp [intsIn, intsOf]
  rw [e, Nat.pow_succ]
  omega
def spTermV (m : Nat) : Sp := fun vs H Q _ => ∃ (b p nm : Addr) (xs : List Str) (many : Int) (k : Nat) (deep : Int), vs = [.ref b, .ref nm, .int many, .int deep] ∧ deep = (k : Int) ∧ Bag b p H ∧ Names nm b H xs ∧ 0 < many ∧ many ≤ 1000 ∧ k < m ∧ k ≤ 100 ∧
  ∀ v H' d, Go b p H H' → Dv (newof H H') v d → Tm d → Sized k d → UnkL many k d → Q v H'
/-- a term as _law_great makes it -/
structure Grt (d : D) : Prop where
  tm : Tm d
  dp : d.deep ≤ 20
  sz : d.size ≤ 1400
  un : Unk 5 d
  few : (intsIn d).length ≤ 81
def spGreatV : Sp := fun vs H Q _ => ∃ (b p nm : Addr) (xs : List Str), vs = [.ref b, .ref nm] ∧ Bag b p H ∧ Names nm b H xs ∧
  ∀ v H' d, Go b p H H' → Dv (newof H H') v d → Grt d → Q v H'
def FarI (z : Int) : Prop := z = 0 ∨ z = 5 ∨ z = 7 ∨ z = 10 ^ 39
/-- a term with far unknowns -/
structure Far (d : D) : Prop where
  tm : Tm d
  dp : d.deep ≤ 30
  sz : d.size ≤ 1400
  un : ∀ i ∈ intsIn d, FarI i
  few : (intsIn d).length ≤ 81
structure Kept (f : Int → D) (d : D) : Prop where
  tm : Tm (putD f d)
  dp : (putD f d).deep = d.deep
  sz : (putD f d).size = d.size
  len : (intsIn (putD f d)).length = (intsIn d).length
theorem kept_list {f : Int → D} {ds : List D} (h : ∀ d ∈ ds, Kept f d) : deeps (puts f ds) = deeps ds ∧ sizes (puts f ds) = sizes ds ∧ (intsOf (puts f ds)).length = (intsOf ds).length := by
  induction ds with
  | nil => exact ⟨rfl, rfl, rfl⟩
  | cons d r ih =>
    obtain ⟨a, b, c⟩ := ih fun e he => h e (List.mem_cons_of_mem _ he)
    have hd := h d List.mem_cons_self
    simp only [puts, deeps, sizes, intsOf, List.length_append, a, b, c, hd.dp, hd.sz, hd.len, and_self]
theorem kept_of {f : Int → D} (hf : ∀ u, ∃ z, f u = .int z) {d : D} (t : Tm d) : Kept f d := by
  induction t with
  | int u =>
    obtain ⟨z, hz⟩ := hf u
    have e : putD f (.int u) = .int z := hz
    exact ⟨by rw [e]; exact .int z, by rw [e]; rfl, by rw [e]; rfl, by rw [e]; rfl⟩
  | tup x ds _ ih =>
    obtain ⟨a, b, c⟩ := kept_list ih
    have e : putD f (.tup (.str x :: ds)) = .tup (.str x :: puts f ds) := rfl
    refine ⟨?_, ?_, ?_, ?_⟩
    · rw [e]
      refine .tup x _ fun d hd => ?_
      rw [puts_map] at hd
      obtain ⟨d', h1, rfl⟩ := List.mem_map.mp hd
      exact (ih d' h1).tm
    · rw [e]
      simp only [D.deep, deeps, a]
    · rw [e]
      simp only [D.size, sizes, b]
    · rw [e]
      simp only [intsIn, intsOf, List.nil_append, c]
theorem ints_put {f : Int → D} {Pz : Int → Prop} (hf : ∀ u, ∃ z, f u = .int z ∧ Pz z) {d : D} (t : Tm d) : ∀ i ∈ intsIn (putD f d), Pz i := by
  induction t with
  | int u =>
    obtain ⟨z, hz, pz⟩ := hf u
    have e : putD f (.int u) = .int z := hz
    rw [e]
    intro i hi
    simp [intsIn] at hi
    subst hi
    exact pz
  | tup x ds _ ih =>
    have e : intsIn (putD f (.tup (.str x :: ds))) = intsOf (puts f ds) := by
      show intsIn (.tup (.str x :: puts f ds)) = _
      simp [intsIn, intsOf]
    rw [e]
    clear e
    induction ds with
    | nil => intro i hi; simp [puts, intsOf] at hi
    | cons d r ih2 =>
      intro i hi
      simp only [puts, intsOf, List.mem_append] at hi
      rcases hi with hi | hi
      · exact ih d List.mem_cons_self i hi
      · exact ih2 (fun c hc => by rename_i hall; exact hall c (List.mem_cons_of_mem _ hc)) (fun c hc => ih c (List.mem_cons_of_mem _ hc)) i hi
/-- _law_far -/
def spFar : Sp := fun vs H Q _ => ∃ (Hb : Hp) (b p : Addr) (v : V) (d : D), vs = [.ref b, v] ∧ Bag b p H ∧ Same Hb (mask b H) ∧ Dv Hb v d ∧ Grt d ∧
  ∀ v' H' d', Go b p H H' → Dv (ovl Hb (newof H H')) v' d' → Far d' → Q v' H'
theorem ints_flat {d : D} (t : Tm d) : ∀ i ∈ intsIn d, D.int i ∈ flat d := by
  induction t with
  | int u => intro i hi; simp [intsIn] at hi; subst hi; simp [flat]
  | tup x ds _ ih =>
    have e : intsIn (.tup (.str x :: ds)) = intsOf ds := by simp [intsIn, intsOf]
    have e2 : flat (.tup (.str x :: ds)) = .tup (.str x :: ds) :: flats ds := by simp [flat, flatT]
    rw [e, e2]
    intro i hi
    refine List.mem_cons_of_mem _ ?_
    clear e e2
    have go : ∀ cs : List D, (∀ c ∈ cs, c ∈ ds) → i ∈ intsOf cs → D.int i ∈ flats cs := by
      intro cs
      induction cs with
      | nil => intro _ h; simp [intsOf] at h
      | cons c r ih2 =>
        intro hc h
        simp only [intsOf, List.mem_append] at h
        simp only [flats, List.mem_append]
        rcases h with h | h
        · exact .inl (ih c (hc c List.mem_cons_self) i h)
        · exact .inr (ih2 (fun z hz => hc z (List.mem_cons_of_mem _ hz)) h)
    exact go ds (fun _ h => h) hi
theorem Grt.short {d : D} (g : Grt d) : ∀ i ∈ intsIn d, Short 13 20 i := fun i hi => by
  obtain ⟨a, b⟩ := g.un i (ints_flat g.tm i hi)
  exact short_small a (by omega)
/-- what putting values in makes of sizes -/
structure PutOk (f : Int → D) (d : D) : Prop where
  tm : Tm (putD f d)
  dp : (putD f d).deep ≤ d.deep + 20
  sz : (putD f d).size ≤ d.size + (intsIn d).length * 1400
  len : (intsIn (putD f d)).length ≤ (intsIn d).length * 81
  sh : ∀ i ∈ intsIn (putD f d), Short 13 20 i
theorem putOk_list {f : Int → D} {ds : List D} (h : ∀ d ∈ ds, PutOk f d) : deeps (puts f ds) ≤ deeps ds + 20 ∧ sizes (puts f ds) ≤ sizes ds + (intsOf ds).length * 1400 ∧ (intsOf (puts f ds)).length ≤ (intsOf ds).length * 81 ∧ ∀ i ∈ intsOf (puts f ds), Short 13 20 i := by
  induction ds with
  | nil => exact ⟨Nat.zero_le _, Nat.le_refl _, Nat.le_refl _, fun i hi => by simp [puts, intsOf] at hi⟩
  | cons d r ih =>
    obtain ⟨a, b, c, e⟩ := ih fun x hx => h x (List.mem_cons_of_mem _ hx)
    have hd := h d List.mem_cons_self
    have h1 := hd.dp
    have h2 := hd.sz
    have h3 := hd.len
    simp only [puts, deeps, sizes, intsOf, List.length_append, Nat.add_mul]
    refine ⟨by omega, by omega, by omega, fun i hi => ?_⟩
    rcases List.mem_append.mp hi with hi | hi
    · exact hd.sh i hi
    · exact e i hi
theorem putOk_of {f : Int → D} (hf : ∀ u, Grt (f u)) {d : D} (t : Tm d) : PutOk f d := by
  induction t with
  | int u =>
    have g := hf u
    have e : putD f (.int u) = f u := rfl
    have h1 := g.dp
    have h2 := g.sz
    have h3 := g.few
    refine ⟨by rw [e]; exact g.tm, by rw [e]; omega, ?_, ?_, by rw [e]; exact g.short⟩
    · rw [e]
      simp only [intsIn, List.length_singleton]
      omega
    · rw [e]
      simp only [intsIn, List.length_singleton]
      omega
  | tup x ds _ ih =>
    obtain ⟨a, b, c, e5⟩ := putOk_list ih
    have e : putD f (.tup (.str x :: ds)) = .tup (.str x :: puts f ds) := rfl
    have e2 : intsIn (.tup (.str x :: ds)) = intsOf ds := by simp [intsIn, intsOf]
    have e3 : intsIn (.tup (.str x :: puts f ds)) = intsOf (puts f ds) := by simp [intsIn, intsOf]
    refine ⟨?_, ?_, ?_, ?_, ?_⟩
    · rw [e]
      refine .tup x _ fun d hd => ?_
      rw [puts_map] at hd
      obtain ⟨d', h1, rfl⟩ := List.mem_map.mp hd
      exact (ih d' h1).tm
    · rw [e]
      simp only [D.deep, deeps]
      omega
    · rw [e, e2]
      simp only [D.size, sizes]
      omega
    · rw [e, e2, e3]
      exact c
    · rw [e, e3]
      exact e5
theorem intsOf_mem {i : Int} {ds : List D} (h : i ∈ intsOf ds) : ∃ d ∈ ds, i ∈ intsIn d := by
  induction ds with
  | nil => simp [intsOf] at h
  | cons c r ih =>
    simp only [intsOf, List.mem_append] at h
    rcases h with h | h
    · exact ⟨c, List.mem_cons_self, h⟩
    · obtain ⟨d, h1, h2⟩ := ih h
      exact ⟨d, List.mem_cons_of_mem _ h1, h2⟩
structure Grts (ds : List D) (n : Nat) : Prop where
  sz : sizes ds ≤ n * 1400
  dp : deeps ds ≤ 20
  few : (intsOf ds).length ≤ n * 81
  sh : ∀ i ∈ intsOf ds, Short 13 20 i
  nd : noDics ds = true
theorem grts_of {ds : List D} {n : Nat} (h : ∀ d ∈ ds, Grt d) (hn : ds.length ≤ n) : Grts ds n := by
  have h1 := sizes_le (n := 1416) fun d hd => by have := (h d hd).sz; omega
  have h2 := deeps_le fun d hd => (h d hd).dp
  have h3 := intsOf_len fun d hd => (h d hd).few
  have h4 : 1416 * ds.length ≤ 1416 * n := Nat.mul_le_mul_left _ hn
  have h5 : ds.length * 81 ≤ n * 81 := Nat.mul_le_mul_right _ hn
  refine ⟨?_, h2, by omega, fun i hi => ?_, noDics_of fun d hd => (h d hd).tm.noDic⟩
  · have : sizes ds ≤ 1400 * ds.length := by omega
    have : 1400 * ds.length ≤ 1400 * n := Nat.mul_le_mul_left _ hn
    omega
  · obtain ⟨d, h6, h7⟩ := intsOf_mem hi
    exact (h d h6).short i h7
/-- _law_put_right -/
def spPutRight : Sp := fun vs H Q _ => ∃ (b p nm : Addr) (xs : List Str) (la : Addr) (us : List V) (ds : List D), vs = [.ref b, .ref nm, .ref la] ∧ Bag b p H ∧ Names nm b H xs ∧ la ≠ b ∧ H la = some (.lst us) ∧ DvL (mask b H) us ds ∧ (∀ d ∈ ds, Grt d) ∧ ds.length ≤ 4 ∧
  ∀ H', Go b p H H' → Q (.bl true) H'
end Fm
set_option maxRecDepth 100000
set_option maxHeartbeats 3200000
/-! Fm: set(xs), xs a list of ints. -/
namespace Fm
open PySem PySem.Spec PyProof.Rows L2
section
variable {P : Program} {w : World} {A : Around} {E : Value → Shared → Prop} {s : Shared}
/-- set(x): what the new set's init does of x, in the heap with the new set -/
theorem set_of {a : Value} {Q : Value → Shared → Prop} (Z : Shared → Prop)
    (hi : wpAny (model P w) A.in1.in1 (Builtin.«set.__init__» ⟨[.ref s.heap.objs.size, a], []⟩) (fun fin s' => match fin with
        | Fin.done f => wants (fun r s₂ => r = .none ∧ Z s₂) E (.ok f) s'
        | Fin.again c' => c'.quiet = true ∧ codeAny (model P w) A.in1 c' (wants (fun r s₂ => r = .none ∧ Z s₂) E) s') (fun e s' => wants (fun r s₂ => r = .none ∧ Z s₂) E (.error e) s') { s with heap := s.heap.push (noSet w) })
    (h : ∀ s', Z s' → Q (.ref s.heap.objs.size) s') : wpAny (model P w) A (call (.type "set") [a]) Q E s := by
  have c := F.called_set
  obtain ⟨c0, tl, hmro⟩ := c.mro
  have hmade := c.made
  have hsub := c.sub
  have h1 := c.notType
  have h2 := c.canCreate
  have hct := F.typeCall_set_1 a
  refine wpAny_call (codeAny_of_tree ?_)
  show wpAny _ _ (callAny (.type "set") _) _ _ _
  refine wpAny_pure ⟨Code.quiet_builtin _ (by decide +kernel), codeAny_builtin F.entry_type_call ?_⟩
  rw [Around.under_plain (weight_type_call_type "set" [a] []) rfl]
  repeat (any_goals (first | assumption | wp_step))
  refine codeAny_mono (code_set_led1 a (E := E) (Q₁ := fun obj s₁ => obj = .ref s.heap.objs.size ∧ s₁ = { s with heap := s.heap.push (noSet w) }) ⟨rfl, rfl⟩) fun r s₁ hr => ?_
  cases r with
  | error e => exact hr
  | ok fl =>
    cases fl with
    | ret obj =>
      obtain ⟨rfl, rfl⟩ := hr
      have hS : (s.heap.push (noSet w)).get? s.heap.objs.size = some (noSet w) := Heap.get?_push_size _ rfl
      have hT : Shared.TypeIs { s with heap := s.heap.push (noSet w) } (.ref s.heap.objs.size) "set" := ⟨_, hS, rfl⟩
      have hli := F.called_set.init.lookup
      have hbi := F.called_set.init.bind (.ref s.heap.objs.size)
      repeat (any_goals (first | assumption | wp_step))
      refine codeAny_mono (codeAny_call_builtin (R := wants (fun r s₂ => r = .none ∧ Z s₂) E) F.called_set.init.plain F.entry_set_init (check_set_init_1 hT ?_)) fun r₂ s₂ hr₂ => ?_
      · exact hi
      · cases r₂ with
        | error e => exact hr₂
        | ok fl₂ =>
          cases fl₂ with
          | ret r =>
            obtain ⟨rfl, z⟩ := hr₂
            have hq := h _ z
            repeat (any_goals (first | assumption | wp_step))
          | _ => exact hr₂.elim
    | _ => exact hr.elim
/-- set(xs) of a list of ints: its members, at most as many as the ints -/
theorem set_ints {l : Addr} {items : Array Value} (ns : List Int) {Q : Value → Shared → Prop} (hh : A.handled = none) (hl : s.heap.IsList l items) (hit : IntsAre items.toList ns) (hb : ns.length + 1 < scanBound)
    (h : ∀ (h' : Heap) (tk c : Nat), SetR w h' s.heap.objs.size (fun j => decide (j ∈ ns)) c → c ≤ ns.length → (∀ b o, s.heap.get? b = some o → h'.get? b = some o) → Q (.ref s.heap.objs.size) { s with heap := h', toks := tk }) :
    wpAny (model P w) A (call (.type "set") [.ref l]) Q E s := by
  have hn : items.size = ns.length := by rw [← IntsAre.length hit, Array.length_toList]
  refine set_of (fun s' => ∃ h' tk c, s' = { s with heap := h', toks := tk } ∧ SetR w h' s.heap.objs.size (fun j => decide (j ∈ ns)) c ∧ c ≤ ns.length ∧ ∀ b o, s.heap.get? b = some o → h'.get? b = some o) ?_ ?_
  · have l1 : (s.heap.push (noSet w)).IsList l items := by
      obtain ⟨o, e, c1, c2, c3⟩ := hl
      exact ⟨o, Heap.get?_push_of_some _ e, c1, c2, c3⟩
    have lt : l < s.heap.objs.size := by
      obtain ⟨o, e, _⟩ := hl
      exact Heap.lt_size e
    have new : (s.heap.push (noSet w)).get? s.heap.objs.size = some (noSet w) := Heap.get?_push_size _ rfl
    have n1 : (s.heap.push (noSet w)).objs.size = s.heap.objs.size + 1 := Heap.size_push ..
    obtain ⟨⟨ocls, odict, odata, oslots⟩, e, c1, nl, c3⟩ := id l1
    simp only at c1 c3
    subst c1 c3
    have t1 := F.sub_list_set
    have t2 := F.sub_list_frozenset
    have t3 : (Value.type "list" == Value.type "dict") = false := by decide
    unfold Builtin.«set.__init__» noKeywords Builtin.Frozenset.updateFrom
    generalize hPI : pyIter = PI
    wp_walk
    subst hPI
    refine wpAny_pyIter_list l1 ?_
    refine wpAny_bind (wpAny_runValue ?_)
    have n2 : l ≠ (s.heap.push (noSet w)).objs.size := by
      rw [n1]
      exact Nat.ne_of_lt (Nat.lt_succ_of_lt lt)
    have n3 : s.heap.objs.size ∉ [(s.heap.push (noSet w)).objs.size, l] := by
      rw [n1]
      simp only [List.mem_cons, List.not_mem_nil, or_false, not_or]
      exact ⟨Nat.ne_of_lt (Nat.lt_succ_self _), Nat.ne_of_gt lt⟩
    have val : ∀ (i : Nat) (v : Value), items[i]? = some v → ∃ k t, ns[i]? = some k ∧ v = .int k t := fun i v hv => by
      have hi : i < ns.length := by rw [← hn]; exact (Array.getElem?_eq_some_iff.mp hv).1
      obtain ⟨t, e⟩ := PyProof.Rows.IntsAre.int_at hit i v (by rw [Array.getElem?_toList]; exact hv)
      refine ⟨ns[i], t, List.getElem?_eq_getElem hi, ?_⟩
      rw [e, List.getD_eq_getElem?_getD, List.getElem?_eq_getElem hi]
      rfl
    have hh3 : A.in1.in1.in1.handled = none := by simp [hh]
    refine set_update_ints ((Walks.list hh3 _ l n2 items).toS) s.heap.objs.size n3 ns hn hb val (items.size - 0) 0 _ (by omega) (Nat.zero_le _) ⟨⟨_, Heap.get?_push_size _ rfl, rfl, rfl⟩, l1.push _⟩ ⟨0, Nat.le_refl 0, setR_new_at (Heap.get?_push_of_some _ new)⟩ ?_
    intro s' c' hm hc' hS'
    obtain ⟨h', g2, d', tk', os'⟩ := s'
    have eg : g2 = s.gens := hm.gens
    have ed : d' = s.drawn := hm.drawn
    have eo : os' = s.os := hm.os
    subst eg ed eo
    rw [hn] at hc'
    refine wpAny_pure (wpAny_pure ⟨rfl, h', tk', c', rfl, hS', hc', fun b o eb => ?_⟩)
    have lb := Heap.lt_size eb
    refine hm.heap b o ?_ (Heap.get?_push_of_some _ (Heap.get?_push_of_some _ eb))
    simp only [List.mem_cons, List.not_mem_nil, or_false, not_or]
    exact ⟨Nat.ne_of_lt lb, by rw [n1]; exact Nat.ne_of_lt (Nat.lt_succ_of_lt lb)⟩
  · rintro s' ⟨h', tk, c, rfl, h1, h2, h3⟩
    exact h h' tk c h1 h2 h3
end
theorem nodup_len : ∀ {xs ys : List Int}, xs.Nodup → (∀ x ∈ xs, x ∈ ys) → xs.length ≤ ys.length
  | [], _, _, _ => Nat.zero_le _
  | x :: r, ys, h, k => by
    rw [List.nodup_cons] at h
    have hx := k x List.mem_cons_self
    have ih := nodup_len (xs := r) (ys := ys.erase x) h.2 fun y hy => by
      have ne : y ≠ x := fun e => h.1 (e ▸ hy)
      exact (List.mem_erase_of_ne ne).mpr (k y (List.mem_cons_of_mem _ hy))
    rw [List.length_erase_of_mem hx] at ih
    have pos : 0 < ys.length := List.length_pos_of_mem hx
    simp only [List.length_cons]
    omega
theorem setR_few {w : World} {h : Heap} {a : Addr} {ns : List Int} {c : Nat} (R : SetR w h a (fun j => decide (j ∈ ns)) c) : c ≤ (ns.foldl addI []).length := by
  obtain ⟨o, es, ep, t, _, _, _, _, nd, hm, _, _, hn, _⟩ := R
  have := nodup_len nd (ys := ns.foldl addI []) fun x hx => by
    have h1 := (hm x).mpr hx
    have h2 := of_decide_eq_true h1
    exact foldl_addI_mem.mpr (.inr h2)
  rw [List.length_map, Array.length_toList, hn] at this
  exact this
/-- two ascending lists with the same members are one -/
theorem asc_eq : ∀ {xs ys : List Int}, xs.Pairwise (· < ·) → ys.Pairwise (· < ·) → (∀ k, k ∈ xs ↔ k ∈ ys) → xs = ys
  | [], [], _, _, _ => rfl
  | [], y :: r, _, _, h => by have := (h y).mpr List.mem_cons_self; cases this
  | x :: r, [], _, _, h => by have := (h x).mp List.mem_cons_self; cases this
  | x :: r, y :: t, hx, hy, h => by
    rw [List.pairwise_cons] at hx hy
    have e : x = y := by
      have h1 := (h x).mp List.mem_cons_self
      have h2 := (h y).mpr List.mem_cons_self
      rcases List.mem_cons.mp h1 with e | h1
      · exact e
      · rcases List.mem_cons.mp h2 with e | h2
        · exact e.symm
        · have := hx.1 y h2
          have := hy.1 x h1
          omega
    subst e
    rw [asc_eq hx.2 hy.2 fun k => ?_]
    constructor
    · intro hk
      rcases List.mem_cons.mp ((h k).mp (List.mem_cons_of_mem _ hk)) with e | z
      · have := hx.1 k hk
        omega
      · exact z
    · intro hk
      rcases List.mem_cons.mp ((h k).mpr (List.mem_cons_of_mem _ hk)) with e | z
      · have := hy.1 k hk
        omega
      · exact z
section
variable {X : Cx}
/-- set(xs), a list of ints -/
def rSetI (K : PySem.W.Frag) (w : World) : List V → Hp → VK → Prop := fun xs H Q => ∃ (a : Addr) (ns : List Int), xs = [.ref a] ∧ SqL K H a (ns.map V.int) ∧ ns.length + 1 < scanBound ∧
  ∀ (p : Addr) (c : Nat), H p = none → c ≤ (ns.foldl addI []).length → Q (.ref p) (upd H p (SetO w p (fun j => decide (j ∈ ns)) c))
theorem cr_setI (hc : X.calm = true) : CallR X (.type "set") (rSetI X.K X.w) := by
  intro pins s σ H xs us Q I r h
  obtain ⟨a, ns, rfl, hs, hb, q⟩ := h
  rw [Vals.ref1 r]
  obtain ⟨its, rv, hl, hz⟩ := I.list hs
  have fresh : H s.heap.objs.size = none := I.hok.fresh (Nat.le_refl _)
  refine set_ints ns (I.ok.hd hc) hl.isList (by simpa using ints_of_vals rv) hb fun h' tk c R lc k => ?_
  exact ⟨.ref _, upd H s.heap.objs.size (SetO X.w s.heap.objs.size (fun j => decide (j ∈ ns)) c), I.laid (t' := tk) k (Nat.le_refl _) (setO_new R), rfl, q _ c fresh (setR_few R)⟩
end
/-- [f(bag, x) for x in xs]: each turn draws from the bag and gives new data over a base -/
theorem lc_bagN {K : PySem.W.Frag} {te : TE} {tt : TT} {σ : L2.St} {H Hb : Hp} {a b p : Addr} {xs : List V} {ds : List D} {j : Nat} {vs : List Nat} {Dl : Addr} {Qd : Hp → Prop} (good : D → Prop) (B : Bag b p H) (na : a ≠ b) (hT : H a = some (.lst xs)) (hd : DvL Hb xs ds) (hD : H Dl = none) (hz : xs.length ≤ 100000)
    (hw : ∀ x, wipe ((wipe σ vs).set j (some x)) vs = wipe σ vs) (he : ∀ σ' H' (R : Bool → Hp → Prop), R true H' → tt σ' H' R)
    (hv : ∀ (x : V) (d : D) (H' : Hp) (R : VK), Go b p H H' → d ∈ ds → Dv Hb x d → (∀ y H2 e, Go b p H' H2 → Dv (ovl Hb (newof H' H2)) y e → good e → R y H2) → te ((wipe σ vs).set j (some x)) H' R)
    (q : ∀ H' zs es, Go b p H H' → H' Dl = some (.lst zs) → DvL (ovl Hb (newof (upd H Dl (.lst [])) H')) zs es → (∀ e ∈ es, good e) → es.length = ds.length → Qd H') :
    ∃ W : Nat → Nat → Hp → Prop, (∃ m, W 0 m (upd H Dl (.lst []))) ∧ ∀ i m H, W i m H → ((Itl K a).stop i H ∧ Qd H) ∨ ((Itl K a).go i H ∧ ∃ Nx : Hp → Prop, (∀ H', Nx H' → ∃ m', m' < m ∧ W (i + 1) m' H') ∧
      ∀ x H', (Itl K a).yld i H x H' → gName j x (wipe σ vs) H' fun σ2 H2 => wipe σ2 vs = wipe σ vs ∧ tt σ2 H2 fun b H3 => if b = true then te σ2 H3 fun y H4 => ∃ acc, H4 Dl = some (.lst acc) ∧ acc.length < sizeLine ∧ Nx (upd H4 Dl (.lst (acc ++ [y]))) else Nx H3) := by
  have hlen := hd.len
  have nb := B.b_ne hD
  have h0 : (upd H Dl (.lst [])) Dl = some (.lst []) := upd_same
  have B1 : Bag b p (upd H Dl (.lst [])) := ((Go.refl B).new hD).B
  refine lc_it (walk_list (K := K) (a := a) (xs := xs)) (fun i H' => Go b p H H' ∧ ∃ zs es, H' Dl = some (.lst zs) ∧ DvL (ovl Hb (newof (upd H Dl (.lst [])) H')) zs es ∧ (∀ e ∈ es, good e) ∧ es.length = i)
    ⟨(Go.refl B).new hD, [], [], upd_same, .nil, fun _ h => (by cases h), rfl⟩ (fun i H' _ h => SqL.of (h.1.at na hT)) ?_ ?_
  · rintro i x H1 H1' hi ⟨g, zs, es, hl, hz2, hg, hn⟩ ⟨rfl, hx⟩
    obtain ⟨d, e1, hd1⟩ := hd.get hx
    refine ⟨hw _, he _ _ _ ?_⟩
    rw [if_pos rfl]
    refine hv x d H1' _ g (tk e1) hd1 fun y H2 e g2 hy ge => ⟨zs, g2.at nb hl, ?_, (g.trans g2).mut B hD, zs ++ [y], es ++ [e], upd_same, ?_, ?_, ?_⟩
    · have := hz2.len
      exact szl (by omega)
    · rw [newof_upd h0]
      refine (hz2.same (ovl_mono (newof_go B1 g2)) _ _).snoc (hy.same (ovl_mono (newof_lift fun c hc => ?_)) _ _)
      have n1 : c ≠ Dl := fun z => by
        rw [z, hl] at hc
        cases hc
      rw [upd_ne n1]
      exact g.free hc
    · intro e' he'
      rcases List.mem_append.mp he' with h | h
      · exact hg e' h
      · rw [List.mem_singleton.mp h]
        exact ge
    · rw [List.length_append, hn]
      rfl
  · rintro H' ⟨g, zs, es, hl, hz2, hg, hn⟩
    exact q H' zs es g hl hz2 hg (by omega)
end Fm
set_option maxRecDepth 100000
set_option maxHeartbeats 2000000
namespace Fm
open PySem PySem.Spec PyProof.Rows L2
theorem ints_of_flat {d : D} (t : Tm d) : ∀ i, D.int i ∈ flat d → i ∈ intsIn d := by
  induction t with
  | int u => intro i hi; simp [flat] at hi; subst hi; simp [intsIn]
  | tup x ds _ ih =>
    have e : intsIn (.tup (.str x :: ds)) = intsOf ds := by simp [intsIn, intsOf]
    have e2 : flat (.tup (.str x :: ds)) = .tup (.str x :: ds) :: flats ds := by simp [flat, flatT]
    rw [e, e2]
    intro i hi
    rcases List.mem_cons.mp hi with h | h
    · cases h
    clear e e2 hi
    induction ds with
    | nil => simp [flats] at h
    | cons c r ih2 =>
      simp only [flats, List.mem_append] at h
      simp only [intsOf, List.mem_append]
      rcases h with h | h
      · exact .inl (ih c List.mem_cons_self i h)
      · exact .inr (ih2 (fun c hc => by rename_i hall; exact hall c (List.mem_cons_of_mem _ hc)) (fun c hc => ih c (List.mem_cons_of_mem _ hc)) h)
theorem intsOf_in {i : Int} {d : D} : ∀ {ds : List D}, d ∈ ds → i ∈ intsIn d → i ∈ intsOf ds
  | [], h, _ => by cases h
  | x :: r, h, k => by
    simp only [intsOf, List.mem_append]
    rcases List.mem_cons.mp h with rfl | h
    · exact .inl k
    · exact .inr (intsOf_in h k)
/-- a list of terms whose told things can be shown -/
structure CaseOk (ds : List D) : Prop where
  tm : ∀ d ∈ ds, Tm d
  dp : deeps ds ≤ 30
  sz : sizes ds ≤ 5700
  few : (intsOf ds).length ≤ 324
  sh : ∀ i ∈ intsOf ds, Short 41 130 i
  nd : noDics ds = true
  un : (firstsOf ds).length ≤ 5
  len : ds.length ≤ 4
theorem caseOk_grt {ds : List D} (h : ∀ d ∈ ds, Grt d) (hn : ds.length ≤ 4) : CaseOk ds := by
  have g := grts_of h hn
  have h1 := g.sz
  have h2 := g.dp
  have h3 := g.few
  refine ⟨fun d hd => (h d hd).tm, by omega, by omega, by omega, fun i hi => (g.sh i hi).wide (by decide) (by decide) (by decide), g.nd, ?_, hn⟩
  have := nodup_len (firstsOf_nodup ds) (ys := [0, 1, 2, 3, 4]) fun u hu => by
    obtain ⟨d, hd, hf⟩ := flats_mem (firstsOf_mem.mp hu)
    obtain ⟨a, b⟩ := (h d hd).un u hf
    have : u = 0 ∨ u = 1 ∨ u = 2 ∨ u = 3 ∨ u = 4 := by omega
    simpa using this
  simpa using this
theorem caseOk_far {ds : List D} (h : ∀ d ∈ ds, Far d) (hn : ds.length ≤ 4) : CaseOk ds := by
  have h1 := sizes_le (n := 1416) fun d hd => by have := (h d hd).sz; omega
  have h2 := deeps_le fun d hd => (h d hd).dp
  have h3 := intsOf_len fun d hd => (h d hd).few
  have h4 : 1416 * ds.length ≤ 1416 * 4 := Nat.mul_le_mul_left _ hn
  have h5 : ds.length * 81 ≤ 4 * 81 := Nat.mul_le_mul_right _ hn
  refine ⟨fun d hd => (h d hd).tm, h2, by omega, by omega, fun i hi => ?_, noDics_of fun d hd => (h d hd).tm.noDic, ?_, hn⟩
  · obtain ⟨d, h6, h7⟩ := intsOf_mem hi
    rcases (h d h6).un i h7 with e | e | e | e
    · rw [e]; exact (short_small (by decide) (by decide)).wide (by decide) (by decide) (by decide)
    · rw [e]; exact (short_small (by decide) (by decide)).wide (by decide) (by decide) (by decide)
    · rw [e]; exact (short_small (by decide) (by decide)).wide (by decide) (by decide) (by decide)
    · rw [e]; exact short_far
  · have := nodup_len (firstsOf_nodup ds) (ys := [0, 5, 7, 10 ^ 39]) fun u hu => by
      obtain ⟨d, hd, hf⟩ := flats_mem (firstsOf_mem.mp hu)
      have : u = 0 ∨ u = 5 ∨ u = 7 ∨ u = 10 ^ 39 := (h d hd).un u (ints_of_flat (h d hd).tm u hf)
      simp only [List.mem_cons, List.not_mem_nil, or_false]
      exact this
    simp only [List.length_cons, List.length_nil] at this
    omega
theorem ops_len (ds : List D) : opsOf ds ≤ sizes ds := by
  have h1 := List.length_filter_le isT (flats ds)
  have h2 := flats_len ds
  unfold opsOf
  omega
theorem leaves_ints : ∀ {ds : List D}, (∀ d ∈ ds, Tm d) → leaves ds = intsOf ds := by
  have one : ∀ d, Tm d → leaf d = intsIn d := by
    intro d t
    induction t with
    | int u => simp [leaf, intsIn]
    | tup x ds _ ih =>
      have e : intsIn (.tup (.str x :: ds)) = intsOf ds := by simp [intsIn, intsOf]
      rw [e]
      show leaves ds = _
      clear e
      induction ds with
      | nil => rfl
      | cons c r ih2 =>
        have e3 : leaves (c :: r) = leaf c ++ leaves r := by rw [← leaves_one, ← leaves_app]; rfl
        rw [e3, ih c List.mem_cons_self, ih2 (fun c hc => by rename_i hall; exact hall c (List.mem_cons_of_mem _ hc)) (fun c hc => ih c (List.mem_cons_of_mem _ hc))]
        rfl
  intro ds
  induction ds with
  | nil => intro _; rfl
  | cons c r ih =>
    intro h
    have e3 : leaves (c :: r) = leaf c ++ leaves r := by rw [← leaves_one, ← leaves_app]; rfl
    rw [e3, one c (h c List.mem_cons_self), ih fun d hd => h d (List.mem_cons_of_mem _ hd)]
    rfl
theorem dvl_nums {H : Hp} : ∀ ns : List Int, DvL H (ns.map V.int) (ns.map D.int)
  | [] => .nil
  | n :: r => .cons (.int n) (dvl_nums r)
/-- what is told of terms -/
def dueD (ds : List D) (ns : List Int) : D := .lst [.int (opsOf ds : Nat), .lst (ns.map D.int), .lst (puts (numF ds) ds)]
theorem ints_facts : ∀ ns : List Int, sizes (ns.map D.int) = ns.length ∧ deeps (ns.map D.int) ≤ 1 ∧ intsOf (ns.map D.int) = ns ∧ noDics (ns.map D.int) = true
  | [] => ⟨rfl, Nat.zero_le _, rfl, rfl⟩
  | n :: r => by
    obtain ⟨a, b, c, e⟩ := ints_facts r
    refine ⟨?_, ?_, ?_, ?_⟩
    · simp only [List.map_cons, sizes, D.size, a, List.length_cons]; omega
    · simp only [List.map_cons, deeps, D.deep]; omega
    · simp only [List.map_cons, intsOf, intsIn, c]; rfl
    · simp only [List.map_cons, noDics, noDic, e]; rfl
theorem due_ok {ds : List D} {ns : List Int} {K : PySem.W.Frag} {H : Hp} {v : V} (c : CaseOk ds) (hn : ns.length ≤ 5) (hs : ∀ k ∈ ns, D.int k ∈ flats ds) (h : Dv H v (dueD ds ns)) :
    Dp K H v (pdOf (dueD ds ns)) ∧ SeqAt.shaped (pdOf (dueD ds ns)) = true ∧ (pdOf (dueD ds ns)).showable = true ∧ (pdOf (dueD ds ns)).hasDict = false ∧ (pdOf (dueD ds ns)).depth ≤ 60 ∧ (pdOf (dueD ds ns)).shown.length ≤ sizeLine := by
  obtain ⟨a1, a2, a3, a4⟩ := ints_facts ns
  have kf : ∀ u : Int, ∃ z : Int, numF ds u = .int z ∧ Short 13 20 z := fun u => ⟨_, rfl, short_small (by omega) (by
    have : (firstsOf ds).idxOf u ≤ (firstsOf ds).length := List.idxOf_le_length
    have := c.un
    omega)⟩
  have kf2 : ∀ u : Int, ∃ z : Int, numF ds u = .int z := fun u => ⟨_, rfl⟩
  obtain ⟨b1, b2, b3⟩ := kept_list fun d hd => kept_of kf2 (c.tm d hd)
  have b4 : noDics (puts (numF ds) ds) = true := noDics_of fun e he => by
    rw [puts_map] at he
    obtain ⟨d, hd, rfl⟩ := List.mem_map.mp he
    exact (kept_of kf2 (c.tm d hd)).tm.noDic
  have b5 : ∀ i ∈ intsOf (puts (numF ds) ds), Short 41 130 i := fun i hi => by
    obtain ⟨e, he, hi2⟩ := intsOf_mem hi
    rw [puts_map] at he
    obtain ⟨d, hd, rfl⟩ := List.mem_map.mp he
    exact (ints_put kf (c.tm d hd) i hi2).wide (by decide) (by decide) (by decide)
  have fi : intsIn (dueD ds ns) = (opsOf ds : Int) :: (ns ++ intsOf (puts (numF ds) ds)) := by
    simp [dueD, intsIn, intsOf, a3]
  have c1 := c.dp
  have c2 := c.sz
  have c3 := c.few
  have c4 := ops_len ds
  refine pd_ok (B := 41) (bits := 130) (by decide) h ?_ ?_ ?_ ?_
  · rw [fi]
    intro i hi
    rcases List.mem_cons.mp hi with rfl | hi
    · exact (short_small (by omega) (by omega)).wide (by decide) (by decide) (by decide)
    · rcases List.mem_append.mp hi with hi | hi
      · obtain ⟨d, hd, hf⟩ := flats_mem (hs i hi)
        refine c.sh i ?_
        have := ints_of_flat (c.tm d hd) i hf
        exact intsOf_in hd this
      · exact b5 i hi
  · simp [dueD, noDic, noDics, a4, b4]
  · simp only [dueD, D.deep, deeps, b1]
    omega
  · rw [fi]
    simp only [dueD, D.size, sizes, b2, a1, List.length_cons, List.length_append, b3]
    omega
theorem kept_ok {ds : List D} {K : PySem.W.Frag} {H : Hp} {v : V} (c : CaseOk ds) (h : Dv H v (.lst ds)) :
    Dp K H v (pdOf (.lst ds)) ∧ SeqAt.shaped (pdOf (.lst ds)) = true ∧ (pdOf (.lst ds)).showable = true ∧ (pdOf (.lst ds)).hasDict = false ∧ (pdOf (.lst ds)).depth ≤ 60 ∧ (pdOf (.lst ds)).shown.length ≤ sizeLine := by
  have c1 := c.dp
  have c2 := c.sz
  have c3 := c.few
  have fi : intsIn (.lst ds) = intsOf ds := by simp [intsIn]
  refine pd_ok (B := 41) (bits := 130) (by decide) h ?_ ?_ ?_ ?_
  · rw [fi]; exact c.sh
  · simp [noDic, c.nd]
  · simp only [D.deep]; omega
  · rw [fi]
    simp only [D.size]
    omega
end Fm
set_option maxRecDepth 100000
set_option maxHeartbeats 2000000
namespace Fm
open PySem PySem.Spec PyProof.Rows L2
open PySem.Builtin PySem.Builtin.Str
/-- a text of small letters -/
def Low (x : Str) : Prop := ∀ c ∈ x.cps.toList, 97 ≤ c ∧ c ≤ 122
/-- terms of names of small letters and of small unknowns -/
inductive TmL : D → Prop
  | int (i : Nat) : i < 10 → TmL (.int (i : Int))
  | tup (x : Str) (ds : List D) : Low x → (∀ d ∈ ds, TmL d) → TmL (.tup (.str x :: ds))
theorem low_prints : ∀ k, k < 26 → Unicode.isPrintable (97 + k) = true := by decide +kernel
theorem reprChar_low {c : Nat} (h : 97 ≤ c ∧ c ≤ 122) : reprChar 39 c = [c] := by
  have hp : Unicode.isPrintable c = true := by
    have := low_prints (c - 97) (by omega)
    rwa [show 97 + (c - 97) = c by omega] at this
  unfold reprChar
  rw [if_neg (by simp; omega), if_neg (by simp; omega), if_neg (by simp; omega), if_neg (by simp; omega), if_pos hp]
theorem fold_low : ∀ (l : List Nat) (acc : Array Nat), (∀ c ∈ l, 97 ≤ c ∧ c ≤ 122) → (l.foldl (fun out c => out ++ (reprChar 39 c).toArray) acc).toList = acc.toList ++ l
  | [], acc, _ => by simp
  | c :: r, acc, h => by
    rw [List.foldl_cons, fold_low r _ fun d hd => h d (List.mem_cons_of_mem _ hd), reprChar_low (h c List.mem_cons_self)]
    simp
theorem reprText_low {x : Str} (h : Low x) : (reprText x).cps.toList = 39 :: (x.cps.toList ++ [39]) := by
  have q : reprQuote x = 39 := by
    unfold reprQuote
    have : x.cps.contains 39 = false := by
      rw [Bool.eq_false_iff]
      intro e
      rw [Array.contains_iff_mem] at e
      have := h 39 (Array.mem_toList_iff.mpr e)
      omega
    rw [this]
    rfl
  unfold reprText
  rw [q]
  show (Array.push _ 39).toList = _
  rw [Array.toList_push, ← Array.foldl_toList, fold_low _ _ h]
  simp
mutual
def rt : D → List Nat
  | .int i => [48 + i.toNat]
  | .tup (.str x :: []) => 40 :: 39 :: (x.cps.toList ++ [39, 44, 41])
  | .tup (.str x :: d :: r) => 40 :: 39 :: (x.cps.toList ++ 39 :: (44 :: 32 :: rt d ++ rts r ++ [41]))
  | _ => []
def rts : List D → List Nat
  | [] => []
  | d :: r => 44 :: 32 :: rt d ++ rts r
end
def tails (ds : List D) : List Nat := match ds with
  | [] => [44, 41]
  | d :: r => rts (d :: r) ++ [41]
theorem rt_tup (x : Str) (ds : List D) : rt (.tup (.str x :: ds)) = 40 :: 39 :: (x.cps.toList ++ 39 :: tails ds) := by
  cases ds with
  | nil => simp [rt, tails]
  | cons d r => simp [rt, rts, tails]
theorem low_split : ∀ {xs ys : List Nat} {s t : List Nat}, (∀ c ∈ xs, 97 ≤ c ∧ c ≤ 122) → (∀ c ∈ ys, 97 ≤ c ∧ c ≤ 122) → xs ++ 39 :: s = ys ++ 39 :: t → xs = ys ∧ s = t
  | [], [], _, _, _, _, h => by simpa using h
  | [], y :: r, _, _, _, hy, h => by
    have := hy y List.mem_cons_self
    simp at h
    omega
  | x :: r, [], _, _, hx, _, h => by
    have := hx x List.mem_cons_self
    simp at h
    omega
  | x :: r, y :: r2, _, _, hx, hy, h => by
    simp only [List.cons_append, List.cons.injEq] at h
    obtain ⟨rfl, h⟩ := h
    obtain ⟨e, k⟩ := low_split (fun c hc => hx c (List.mem_cons_of_mem _ hc)) (fun c hc => hy c (List.mem_cons_of_mem _ hc)) h
    exact ⟨by rw [e], k⟩
/-- what one term's text and what stands behind it say -/
def Tells (a : D) : Prop := ∀ (b : D) (s t : List Nat), TmL b → rt a ++ s = rt b ++ t → a = b ∧ s = t
theorem rts_tell : ∀ {ds es : List D} {s t : List Nat}, (∀ d ∈ ds, Tells d) → (∀ e ∈ es, TmL e) → rts ds ++ 41 :: s = rts es ++ 41 :: t → ds = es ∧ s = t
  | [], [], _, _, _, _, h => by simpa [rts] using h
  | [], e :: r, _, _, _, _, h => by simp [rts] at h
  | d :: r, [], _, _, _, _, h => by simp [rts] at h
  | d :: r, e :: r2, s, t, hd, he, h => by
    simp only [rts, List.cons_append, List.append_assoc, List.cons.injEq, true_and] at h
    obtain ⟨rfl, k⟩ := hd d List.mem_cons_self e _ _ (he e List.mem_cons_self) h
    obtain ⟨rfl, k2⟩ := rts_tell (fun x hx => hd x (List.mem_cons_of_mem _ hx)) (fun x hx => he x (List.mem_cons_of_mem _ hx)) k
    exact ⟨rfl, k2⟩
theorem str_ext {x y : Str} (h : x.cps.toList = y.cps.toList) : x = y := by
  cases x
  cases y
  simp only [Str.mk.injEq]
  exact Array.toList_inj.mp h
theorem rt_tells {a : D} (h : TmL a) : Tells a := by
  induction h with
  | int i hi =>
    intro b s t hb e
    cases hb with
    | int j hj =>
      simp only [rt, List.cons_append, List.nil_append, List.cons.injEq, Int.toNat_natCast] at e
      obtain ⟨e, k⟩ := e
      exact ⟨by rw [show i = j by omega], k⟩
    | tup y es hy hes =>
      rw [rt_tup] at e
      simp only [rt, List.cons_append, List.nil_append, List.cons.injEq, Int.toNat_natCast] at e
      omega
  | tup x ds hx _ ih =>
    intro b s t hb e
    cases hb with
    | int j hj =>
      rw [rt_tup] at e
      simp only [rt, List.cons_append, List.nil_append, List.cons.injEq, Int.toNat_natCast] at e
      omega
    | tup y es hy hes =>
      rw [rt_tup, rt_tup] at e
      simp only [List.cons_append, List.append_assoc, List.cons.injEq, true_and] at e
      obtain ⟨e1, e2⟩ := low_split hx hy e
      cases str_ext e1
      cases ds with
      | nil =>
        cases es with
        | nil => simpa [tails] using e2
        | cons f r => simp [tails, rts] at e2
      | cons d r =>
        cases es with
        | nil => simp [tails, rts] at e2
        | cons f r2 =>
          simp only [tails, List.append_assoc, List.singleton_append] at e2
          obtain ⟨e3, e4⟩ := rts_tell ih hes e2
          exact ⟨by rw [e3], e4⟩
theorem cps_app (x y : Str) : (x ++ y).cps.toList = x.cps.toList ++ y.cps.toList := Array.toList_append
theorem join_rts : ∀ (ds : List D) (y : Str), (∀ d ∈ ds, (PyData.shown (pdOf d)).cps.toList = rt d) → (Str.join ", " (y :: PyData.shownAll (pdsOf ds))).cps.toList = y.cps.toList ++ rts ds
  | [], y, _ => by simp [PyData.shownAll, pdsOf, Str.join, rts]
  | d :: r, y, h => by
    have e : Str.join ", " (y :: PyData.shownAll (pdsOf (d :: r))) = y ++ ", " ++ Str.join ", " (PyData.shown (pdOf d) :: PyData.shownAll (pdsOf r)) := rfl
    rw [e, cps_app, cps_app, join_rts r _ fun x hx => h x (List.mem_cons_of_mem _ hx), h d List.mem_cons_self]
    have c : ((", " : String) : Str).cps.toList = [44, 32] := by decide
    rw [c]
    simp [rts]
theorem digit_text : ∀ i : Nat, i < 10 → (PyData.shown (.int (i : Int))).cps.toList = [48 + i] := by decide
theorem shown_rt {a : D} (h : TmL a) : (PyData.shown (pdOf a)).cps.toList = rt a := by
  induction h with
  | int i hi =>
    show (PyData.shown (.int (i : Int))).cps.toList = _
    rw [digit_text i hi]
    simp [rt]
  | tup x ds hx _ ih =>
    rw [rt_tup]
    have e : PyData.shown (pdOf (.tup (.str x :: ds))) = ("(" : Str) ++ Str.join ", " (reprText x :: PyData.shownAll (pdsOf ds)) ++ (if (reprText x :: PyData.shownAll (pdsOf ds)).length == 1 then ",)" else ")" : String) := rfl
    rw [e, cps_app, cps_app, join_rts ds _ ih, reprText_low hx]
    have c1 : ((("(" : String) : Str)).cps.toList = [40] := by decide
    have c2 : (((",)" : String) : Str)).cps.toList = [44, 41] := by decide
    have c3 : (((")" : String) : Str)).cps.toList = [41] := by decide
    rw [c1]
    cases ds with
    | nil =>
      have : ((reprText x :: PyData.shownAll (pdsOf [])).length == 1) = true := rfl
      rw [if_pos this, c2]
      simp [rts, tails]
    | cons d r =>
      have : ¬ ((reprText x :: PyData.shownAll (pdsOf (d :: r))).length == 1) = true := by
        simp [pdsOf, PyData.shownAll]
      rw [if_neg this, c3]
      simp [rts, tails]
/-- what is shown of terms tells them -/
theorem shown_inj {a b : D} (ha : TmL a) (hb : TmL b) (h : PyData.shown (pdOf a) = PyData.shown (pdOf b)) : a = b := by
  have e : rt a ++ [] = rt b ++ [] := by rw [← shown_rt ha, ← shown_rt hb, h]
  exact (rt_tells ha b [] [] hb e).1
end Fm
set_option maxRecDepth 100000
set_option maxHeartbeats 2000000
namespace Fm
open PySem PySem.Spec PyProof.Rows L2
def okL (x : Str) : Bool := x.cps.all fun c => decide (97 ≤ c) && decide (c ≤ 122)
theorem okL_iff {x : Str} : okL x = true ↔ Low x := by
  unfold okL Low
  rw [Array.all_eq_true_iff_forall_mem]
  constructor
  · intro h c hc
    have := h c (Array.mem_toList_iff.mp hc)
    simpa using this
  · intro h c hc
    simpa using h c (Array.mem_toList_iff.mpr hc)
theorem okL_ok {x : Str} (h : okL x = true) : PyData.strOk x = true := by
  have l := okL_iff.mp h
  unfold PyData.strOk
  rw [Array.all_eq_true_iff_forall_mem]
  intro c hc
  have := l c (Array.mem_toList_iff.mpr hc)
  simp
  omega
theorem okL_part {x y : Str} (h : okL x = true) (k : ∀ c ∈ y.cps.toList, c ∈ x.cps.toList) : okL y = true :=
  okL_iff.mpr fun c hc => okL_iff.mp h c (k c hc)
theorem okL_app {x y : Str} (hx : okL x = true) (hy : okL y = true) : okL (x ++ y) = true := by
  refine okL_iff.mpr fun c hc => ?_
  rw [cps_app] at hc
  rcases List.mem_append.mp hc with h | h
  · exact okL_iff.mp hx c h
  · exact okL_iff.mp hy c h
theorem okL_join {ys : List Str} (h : ∀ y ∈ ys, okL y = true) : okL (Txt.join "" ys) = true := by
  have e : Txt.join "" ys = Str.join "" ys := StrLaws.glued_eq_join _ _
  rw [e]
  clear e
  induction ys with
  | nil => decide +kernel
  | cons x r ih =>
    cases r with
    | nil => exact h x List.mem_cons_self
    | cons y r => exact okL_app (okL_app (h x List.mem_cons_self) (by decide +kernel)) (ih fun z hz => h z (List.mem_cons_of_mem _ hz))
theorem okL_cut {x : Str} {lo hi : Option Int} (h : okL x = true) : okL (cutS x lo hi) = true := by
  refine okL_part h fun c hc => ?_
  have e : (cutS x lo hi).cps.toList = (x.cps.toList.drop (HT.sIx x.cps.toList.length 0 lo)).take (HT.sIx x.cps.toList.length x.cps.toList.length hi - HT.sIx x.cps.toList.length 0 lo) := by
    first | rfl | simp [cutS]
  rw [e] at hc
  exact List.mem_of_mem_drop (List.mem_of_mem_take hc)
theorem dvl_strsL {H : Hp} {m : Nat} : ∀ {acc : List V} {ds : List D}, DvL H acc ds → (∀ d ∈ ds, ∃ x, d = .str x ∧ okL x = true ∧ x.length ≤ m) → ∃ ys : List Str, acc = ys.map V.str ∧ (∀ y ∈ ys, okL y = true ∧ y.length ≤ m) ∧ ys.length = ds.length
  | _, _, .nil, _ => ⟨[], rfl, fun _ h => (by cases h), rfl⟩
  | _, _, .cons a b, h => by
    obtain ⟨ys, e, f, g⟩ := dvl_strsL b fun d hd => h d (List.mem_cons_of_mem _ hd)
    obtain ⟨x, rfl, o, l⟩ := h _ List.mem_cons_self
    cases a
    refine ⟨x :: ys, by rw [e]; rfl, fun y hy => ?_, by simp [g]⟩
    rcases List.mem_cons.mp hy with rfl | hy
    · exact ⟨o, l⟩
    · exact f y hy
theorem sign_atL {x : Str} {i : Int} (h0 : 0 ≤ i) (h1 : i < x.length) : ∃ c, atI x.cps.toList i = some c ∧ (okL x = true → okL ⟨#[c]⟩ = true) := by
  obtain ⟨k, rfl⟩ := Int.eq_ofNat_of_zero_le h0
  have l : x.cps.toList.length = x.length := by simp [Str.length]
  have lt : k < x.cps.toList.length := by omega
  refine ⟨x.cps.toList[k], atI_nat (List.getElem?_eq_getElem lt), fun o => okL_part o fun c hc => ?_⟩
  simp only [List.mem_singleton] at hc
  rw [hc]
  exact List.getElem_mem lt
/-- some names of small letters -/
def spNamesL : Sp := fun vs H Q _ => ∃ b p n, vs = [.ref b, .int n] ∧ Bag b p H ∧ 0 ≤ n ∧ n ≤ 20 ∧
  ∀ (l : Addr) (H' : Hp) (xs : List Str), Go b p H H' → newof H H' l = some (.lst (xs.map V.str)) → (xs.length : Int) = n → (∀ x ∈ xs, okL x = true ∧ x.length ≤ 30) → Q (.ref l) H'
structure NamesL (nm b : Addr) (H : Hp) (xs : List Str) : Prop where
  at_ : H nm = some (.lst (xs.map V.str))
  ne : nm ≠ b
  pos : 1 ≤ xs.length
  few : xs.length ≤ 20
  ok : ∀ x ∈ xs, okL x = true ∧ x.length ≤ 30
theorem NamesL.go {nm b p : Addr} {H H' : Hp} {xs : List Str} (N : NamesL nm b H xs) (g : Go b p H H') : NamesL nm b H' xs := ⟨g.at N.ne N.at_, N.ne, N.pos, N.few, N.ok⟩
theorem NamesL.get {nm b : Addr} {H : Hp} {xs : List Str} (N : NamesL nm b H xs) {i : Int} (h0 : 0 ≤ i) (h1 : i < xs.length) : ∃ x, atI (xs.map V.str) i = some (.str x) ∧ okL x = true ∧ x.length ≤ 30 := by
  obtain ⟨k, rfl⟩ := Int.eq_ofNat_of_zero_le h0
  have lt : k < xs.length := by omega
  refine ⟨xs[k], atI_nat ?_, N.ok _ (List.getElem_mem lt)⟩
  rw [List.getElem?_map, List.getElem?_eq_getElem lt]
  rfl
def spTermL (m : Nat) : Sp := fun vs H Q _ => ∃ (b p nm : Addr) (xs : List Str) (many : Int) (k : Nat) (deep : Int), vs = [.ref b, .ref nm, .int many, .int deep] ∧ deep = (k : Int) ∧ Bag b p H ∧ NamesL nm b H xs ∧ 0 < many ∧ many ≤ 10 ∧ k < m ∧ k ≤ 100 ∧
  ∀ v H' d, Go b p H H' → Dv (newof H H') v d → TmL d → Sized k d → UnkL many k d → Q v H'
theorem TmL.tm {d : D} (h : TmL d) : Tm d := by
  induction h with
  | int i _ => exact .int _
  | tup x ds _ _ ih => exact .tup x ds ih
section
variable {X : Cx}
/-- x in a list of data -/
def rInD (K : PySem.W.Frag) (neg : Bool) : R2 := fun x y H Q => ∃ (d : PyData) (ds : List PyData), Dp K H x d ∧ Dp K H y (.list ds) ∧ PyData.canLayAll0 ds = true ∧ d.canLay0 = true ∧ min (PyData.depthAll ds) d.depth < 60 ∧
  Q (.bl (if neg then !(ds.any fun e => PyData.eqv e d) else ds.any fun e => PyData.eqv e d)) H
theorem op_inD (hu : X.A.units + 64 < cLine) : OpR X (compareOp .In) (rInD X.K false) := by
  intro pins s σ H x y v u Q I rx ry h
  obtain ⟨d, ds, hd, he, sd, se, dz, q⟩ := h
  obtain ⟨as, r1⟩ := Dp.reads I d x v hd rx
  obtain ⟨bs, r2⟩ := Dp.reads I _ y u he ry
  exact SeqAt.in_list_reads r2 r1 sd se (by omega) ⟨.bl _, H, I, rfl, q⟩
theorem op_niD (hu : X.A.units + 64 < cLine) : OpR X (compareOp .NotIn) (rInD X.K true) := by
  intro pins s σ H x y v u Q I rx ry h
  obtain ⟨d, ds, hd, he, sd, se, dz, q⟩ := h
  obtain ⟨as, r1⟩ := Dp.reads I d x v hd rx
  obtain ⟨bs, r2⟩ := Dp.reads I _ y u he ry
  exact SeqAt.notIn_list_reads r2 r1 sd se (by omega) ⟨.bl _, H, I, rfl, q⟩
end
end Fm
set_option maxRecDepth 100000
set_option maxHeartbeats 2000000
namespace K20
open PySem PySem.Spec PyProof.Rows L2 Fm
/-- the i-th statement of the text -/
def top (i : Nat) : Stmt := PySem.Challenge.pw_framemoves_k20_worlds_made.main.body.getD i (.Pass ⟨0, 0, 0, 0⟩)
abbrev s_is_integer : Stmt := top 6
abbrev N_is_integer : List Str := ["thing"]
theorem sc_is_integer : FnScope N_is_integer ["thing"] (defScope s_is_integer) := ⟨rfl, rfl, rfl, by decide +kernel, rfl, by decide +kernel, by decide +kernel⟩
abbrev s_is_below : Stmt := top 7
abbrev N_is_below : List Str := ["thing", "bound"]
theorem sc_is_below : FnScope N_is_below ["thing", "bound"] (defScope s_is_below) := ⟨rfl, rfl, rfl, by decide +kernel, rfl, by decide +kernel, by decide +kernel⟩
abbrev s_is_name : Stmt := top 8
abbrev N_is_name : List Str := ["thing", "letter"]
theorem sc_is_name : FnScope N_is_name ["thing"] (defScope s_is_name) := ⟨rfl, rfl, rfl, by decide +kernel, rfl, by decide +kernel, by decide +kernel⟩
abbrev s_is_outcome : Stmt := top 9
abbrev N_is_outcome : List Str := ["thing"]
theorem sc_is_outcome : FnScope N_is_outcome ["thing"] (defScope s_is_outcome) := ⟨rfl, rfl, rfl, by decide +kernel, rfl, by decide +kernel, by decide +kernel⟩
abbrev s_are_outcomes : Stmt := top 11
abbrev N_are_outcomes : List Str := ["thing", "outcome", "brought"]
theorem sc_are_outcomes : FnScope N_are_outcomes ["thing"] (defScope s_are_outcomes) := ⟨rfl, rfl, rfl, by decide +kernel, rfl, by decide +kernel, by decide +kernel⟩
abbrev s_is_act : Stmt := top 12
abbrev N_is_act : List Str := ["thing"]
theorem sc_is_act : FnScope N_is_act ["thing"] (defScope s_is_act) := ⟨rfl, rfl, rfl, by decide +kernel, rfl, by decide +kernel, by decide +kernel⟩
abbrev s_World_init : Stmt := inClass (top 13) 0
abbrev N_World_init : List Str := ["self", "acts", "name"]
theorem sc_World_init : FnScope N_World_init ["self", "acts"] (defScope s_World_init) := ⟨rfl, rfl, rfl, by decide +kernel, rfl, by decide +kernel, by decide +kernel⟩
abbrev s_World_acts : Stmt := inClass (top 13) 1
abbrev N_World_acts : List Str := ["self"]
theorem sc_World_acts : FnScope N_World_acts ["self"] (defScope s_World_acts) := ⟨rfl, rfl, rfl, by decide +kernel, rfl, by decide +kernel, by decide +kernel⟩
abbrev s_World_arguments : Stmt := inClass (top 13) 2
abbrev N_World_arguments : List Str := ["self", "act"]
theorem sc_World_arguments : FnScope N_World_arguments ["self", "act"] (defScope s_World_arguments) := ⟨rfl, rfl, rfl, by decide +kernel, rfl, by decide +kernel, by decide +kernel⟩
abbrev s_World_outcomes : Stmt := inClass (top 13) 3
abbrev N_World_outcomes : List Str := ["self", "act"]
theorem sc_World_outcomes : FnScope N_World_outcomes ["self", "act"] (defScope s_World_outcomes) := ⟨rfl, rfl, rfl, by decide +kernel, rfl, by decide +kernel, by decide +kernel⟩
abbrev s_World_brings : Stmt := inClass (top 13) 4
abbrev N_World_brings : List Str := ["self", "act", "outcome"]
theorem sc_World_brings : FnScope N_World_brings ["self", "act", "outcome"] (defScope s_World_brings) := ⟨rfl, rfl, rfl, by decide +kernel, rfl, by decide +kernel, by decide +kernel⟩
abbrev s_World_eq : Stmt := inClass (top 13) 5
abbrev N_World_eq : List Str := ["self", "other"]
theorem sc_World_eq : FnScope N_World_eq ["self", "other"] (defScope s_World_eq) := ⟨rfl, rfl, rfl, by decide +kernel, rfl, by decide +kernel, by decide +kernel⟩
abbrev s__law_bag : Stmt := top 15
abbrev N__law_bag : List Str := ["_law_script", "_law_cell"]
theorem sc__law_bag : FnScope N__law_bag ["_law_script"] (defScope s__law_bag) := ⟨rfl, rfl, rfl, by decide +kernel, rfl, by decide +kernel, by decide +kernel⟩
abbrev s__law_take : Stmt := top 16
abbrev N__law_take : List Str := ["_law_bag_here", "_law_many", "_law_cell", "_law_mixed_here", "_law_value", "_law_begin", "_law_second"]
theorem sc__law_take : FnScope N__law_take ["_law_bag_here", "_law_many"] (defScope s__law_take) := ⟨rfl, rfl, rfl, by decide +kernel, rfl, by decide +kernel, by decide +kernel⟩
abbrev s__law_alike : Stmt := top 17
abbrev N__law_alike : List Str := ["_law_found", "_law_due"]
theorem sc__law_alike : FnScope N__law_alike ["_law_found", "_law_due"] (defScope s__law_alike) := ⟨rfl, rfl, rfl, by decide +kernel, rfl, by decide +kernel, by decide +kernel⟩
abbrev s__law_mixed : Stmt := top 18
abbrev N__law_mixed : List Str := ["_law_bag_here", "_law_things", "_law_found", "_law_thing"]
theorem sc__law_mixed : FnScope N__law_mixed ["_law_bag_here", "_law_things"] (defScope s__law_mixed) := ⟨rfl, rfl, rfl, by decide +kernel, rfl, by decide +kernel, by decide +kernel⟩
abbrev s__law_names : Stmt := top 19
abbrev N__law_names : List Str := ["_law_bag_here", "_law_many", "_law_letters", "_law_words", "_law_way", "_law_turn", "_law_base", "_law_at", "_law_k"]
theorem sc__law_names : FnScope N__law_names ["_law_bag_here", "_law_many"] (defScope s__law_names) := ⟨rfl, rfl, rfl, by decide +kernel, rfl, by decide +kernel, by decide +kernel⟩
abbrev s__law_acts : Stmt := top 20
abbrev N__law_acts : List Str := ["_law_bag_here", "_law_many", "_law_names_here", "_law_words", "_law_acts_here", "_law_name", "_law_outcomes", "_law_word"]
theorem sc__law_acts : FnScope N__law_acts ["_law_bag_here", "_law_many"] (defScope s__law_acts) := ⟨rfl, rfl, rfl, by decide +kernel, rfl, by decide +kernel, by decide +kernel⟩
abbrev s__law_world_of : Stmt := top 21
abbrev N__law_world_of : List Str := ["_law_bag_here", "_law_acts_here", "_law_rows", "_law_name"]
theorem sc__law_world_of : FnScope N__law_world_of ["_law_bag_here", "_law_acts_here"] (defScope s__law_world_of) := ⟨rfl, rfl, rfl, by decide +kernel, rfl, by decide +kernel, by decide +kernel⟩
abbrev s__law_more : Stmt := top 22
abbrev N__law_more : List Str := ["_law_bag_here", "_law_acts_here", "_law_found", "_law_act", "_law_outcome"]
theorem sc__law_more : FnScope N__law_more ["_law_bag_here", "_law_acts_here"] (defScope s__law_more) := ⟨rfl, rfl, rfl, by decide +kernel, rfl, by decide +kernel, by decide +kernel⟩
abbrev s__law_fourth : Stmt := top 23
abbrev N__law_fourth : List Str := ["_law_bag_here", "_law_acts_here", "_law_found", "_law_names_here", "_law_one"]
theorem sc__law_fourth : FnScope N__law_fourth ["_law_bag_here", "_law_acts_here"] (defScope s__law_fourth) := ⟨rfl, rfl, rfl, by decide +kernel, rfl, by decide +kernel, by decide +kernel⟩
abbrev s__law_near : Stmt := top 24
abbrev N__law_near : List Str := ["_law_bag_here", "_law_acts_here", "_law_found", "_law_way", "_law_act", "_law_outcome", "_law_one"]
theorem sc__law_near : FnScope N__law_near ["_law_bag_here", "_law_acts_here"] (defScope s__law_near) := ⟨rfl, rfl, rfl, by decide +kernel, rfl, by decide +kernel, by decide +kernel⟩
abbrev s__law_right : Stmt := top 25
abbrev N__law_right : List Str := ["_law_world", "_law_acts_here", "_law_found", "_law_act", "_law_told", "_law_one"]
theorem sc__law_right : FnScope N__law_right ["_law_world", "_law_acts_here"] (defScope s__law_right) := ⟨rfl, rfl, rfl, by decide +kernel, rfl, by decide +kernel, by decide +kernel⟩
abbrev s_law : Stmt := top 26
abbrev N_law : List Str := ["_law_script", "_law_bag_here", "_law_turn", "_law_acts_here", "_law_sides", "_law_worlds", "_law_side", "_law_handed", "_law_act", "_law_at", "_law_due", "_law_again", "_law_truths", "_law_other"]
theorem sc_law : FnScope N_law ["_law_script"] (defScope s_law) := ⟨rfl, rfl, rfl, by decide +kernel, rfl, by decide +kernel, by decide +kernel⟩
/-- what the top has written: where each def stands, what names are still the built-in ones -/
structure Txt (K : PySem.W.Frag) (mg : Str → Option Value) where
  a_is_integer : Addr
  d_is_integer : FuncData
  F_is_integer : Fun K "is_integer" "is_integer" s_is_integer a_is_integer d_is_integer
  f_is_integer : mg "is_integer" = some (.ref a_is_integer)
  b_is_integer : Binds K d_is_integer ["thing"] []
  a_is_below : Addr
  d_is_below : FuncData
  F_is_below : Fun K "is_below" "is_below" s_is_below a_is_below d_is_below
  f_is_below : mg "is_below" = some (.ref a_is_below)
  b_is_below : Binds K d_is_below ["thing", "bound"] []
  a_is_name : Addr
  d_is_name : FuncData
  F_is_name : Fun K "is_name" "is_name" s_is_name a_is_name d_is_name
  f_is_name : mg "is_name" = some (.ref a_is_name)
  b_is_name : Binds K d_is_name ["thing"] []
  a_is_outcome : Addr
  d_is_outcome : FuncData
  F_is_outcome : Fun K "is_outcome" "is_outcome" s_is_outcome a_is_outcome d_is_outcome
  f_is_outcome : mg "is_outcome" = some (.ref a_is_outcome)
  b_is_outcome : Binds K d_is_outcome ["thing"] []
  a_are_outcomes : Addr
  d_are_outcomes : FuncData
  F_are_outcomes : Fun K "are_outcomes" "are_outcomes" s_are_outcomes a_are_outcomes d_are_outcomes
  f_are_outcomes : mg "are_outcomes" = some (.ref a_are_outcomes)
  b_are_outcomes : Binds K d_are_outcomes ["thing"] []
  a_is_act : Addr
  d_is_act : FuncData
  F_is_act : Fun K "is_act" "is_act" s_is_act a_is_act d_is_act
  f_is_act : mg "is_act" = some (.ref a_is_act)
  b_is_act : Binds K d_is_act ["thing"] []
  a_World_init : Addr
  d_World_init : FuncData
  F_World_init : Fun K "__init__" "World.__init__" s_World_init a_World_init d_World_init
  b_World_init : Binds K d_World_init ["self", "acts"] []
  a_World_acts : Addr
  d_World_acts : FuncData
  F_World_acts : Fun K "acts" "World.acts" s_World_acts a_World_acts d_World_acts
  b_World_acts : Binds K d_World_acts ["self"] []
  a_World_arguments : Addr
  d_World_arguments : FuncData
  F_World_arguments : Fun K "arguments" "World.arguments" s_World_arguments a_World_arguments d_World_arguments
  b_World_arguments : Binds K d_World_arguments ["self", "act"] []
  a_World_outcomes : Addr
  d_World_outcomes : FuncData
  F_World_outcomes : Fun K "outcomes" "World.outcomes" s_World_outcomes a_World_outcomes d_World_outcomes
  b_World_outcomes : Binds K d_World_outcomes ["self", "act"] []
  a_World_brings : Addr
  d_World_brings : FuncData
  F_World_brings : Fun K "brings" "World.brings" s_World_brings a_World_brings d_World_brings
  b_World_brings : Binds K d_World_brings ["self", "act", "outcome"] []
  a_World_eq : Addr
  d_World_eq : FuncData
  F_World_eq : Fun K "__eq__" "World.__eq__" s_World_eq a_World_eq d_World_eq
  b_World_eq : Binds K d_World_eq ["self", "other"] []
  a__law_bag : Addr
  d__law_bag : FuncData
  F__law_bag : Fun K "_law_bag" "_law_bag" s__law_bag a__law_bag d__law_bag
  f__law_bag : mg "_law_bag" = some (.ref a__law_bag)
  b__law_bag : Binds K d__law_bag ["_law_script"] []
  a__law_take : Addr
  d__law_take : FuncData
  F__law_take : Fun K "_law_take" "_law_take" s__law_take a__law_take d__law_take
  f__law_take : mg "_law_take" = some (.ref a__law_take)
  b__law_take : Binds K d__law_take ["_law_bag_here", "_law_many"] []
  a__law_alike : Addr
  d__law_alike : FuncData
  F__law_alike : Fun K "_law_alike" "_law_alike" s__law_alike a__law_alike d__law_alike
  f__law_alike : mg "_law_alike" = some (.ref a__law_alike)
  b__law_alike : Binds K d__law_alike ["_law_found", "_law_due"] []
  a__law_mixed : Addr
  d__law_mixed : FuncData
  F__law_mixed : Fun K "_law_mixed" "_law_mixed" s__law_mixed a__law_mixed d__law_mixed
  f__law_mixed : mg "_law_mixed" = some (.ref a__law_mixed)
  b__law_mixed : Binds K d__law_mixed ["_law_bag_here", "_law_things"] []
  a__law_names : Addr
  d__law_names : FuncData
  F__law_names : Fun K "_law_names" "_law_names" s__law_names a__law_names d__law_names
  f__law_names : mg "_law_names" = some (.ref a__law_names)
  b__law_names : Binds K d__law_names ["_law_bag_here", "_law_many"] []
  a__law_acts : Addr
  d__law_acts : FuncData
  F__law_acts : Fun K "_law_acts" "_law_acts" s__law_acts a__law_acts d__law_acts
  f__law_acts : mg "_law_acts" = some (.ref a__law_acts)
  b__law_acts : Binds K d__law_acts ["_law_bag_here", "_law_many"] []
  a__law_world_of : Addr
  d__law_world_of : FuncData
  F__law_world_of : Fun K "_law_world_of" "_law_world_of" s__law_world_of a__law_world_of d__law_world_of
  f__law_world_of : mg "_law_world_of" = some (.ref a__law_world_of)
  b__law_world_of : Binds K d__law_world_of ["_law_bag_here", "_law_acts_here"] []
  a__law_more : Addr
  d__law_more : FuncData
  F__law_more : Fun K "_law_more" "_law_more" s__law_more a__law_more d__law_more
  f__law_more : mg "_law_more" = some (.ref a__law_more)
  b__law_more : Binds K d__law_more ["_law_bag_here", "_law_acts_here"] []
  a__law_fourth : Addr
  d__law_fourth : FuncData
  F__law_fourth : Fun K "_law_fourth" "_law_fourth" s__law_fourth a__law_fourth d__law_fourth
  f__law_fourth : mg "_law_fourth" = some (.ref a__law_fourth)
  b__law_fourth : Binds K d__law_fourth ["_law_bag_here", "_law_acts_here"] []
  a__law_near : Addr
  d__law_near : FuncData
  F__law_near : Fun K "_law_near" "_law_near" s__law_near a__law_near d__law_near
  f__law_near : mg "_law_near" = some (.ref a__law_near)
  b__law_near : Binds K d__law_near ["_law_bag_here", "_law_acts_here"] []
  a__law_right : Addr
  d__law_right : FuncData
  F__law_right : Fun K "_law_right" "_law_right" s__law_right a__law_right d__law_right
  f__law_right : mg "_law_right" = some (.ref a__law_right)
  b__law_right : Binds K d__law_right ["_law_world", "_law_acts_here"] []
  a_law : Addr
  d_law : FuncData
  F_law : Fun K "law" "law" s_law a_law d_law
  f_law : mg "law" = some (.ref a_law)
  b_law : Binds K d_law ["_law_script"] []
  C_World : Addr
  g_World : mg "World" = some (.ref C_World)
  cl_World : Cls K C_World
  mk_World : Mk K C_World a_World_init
  me_World_acts : Meth K C_World "acts" a_World_acts
  me_World_arguments : Meth K C_World "arguments" a_World_arguments
  me_World_outcomes : Meth K C_World "outcomes" a_World_outcomes
  me_World_brings : Meth K C_World "brings" a_World_brings
  sp_World_eq : PySem.W.findIn K (.ref C_World) "__eq__" = some (some (.ref a_World_eq))
  fn_World_eq : PySem.W.isFn K (.ref a_World_eq) = true
  na_World__arguments : NoAttr K C_World "_arguments"
  na_World__brings : NoAttr K C_World "_brings"
  ne_World : PySem.W.findIn K (.ref C_World) "__ne__" = some (some (.builtin "object.__ne__"))
  m_abs : mg "abs" = none
  m_all : mg "all" = none
  m_bool : mg "bool" = none
  m_dict : mg "dict" = none
  m_int : mg "int" = none
  m_isinstance : mg "isinstance" = none
  m_len : mg "len" = none
  m_min : mg "min" = none
  m_range : mg "range" = none
  m_repr : mg "repr" = none
  m_sorted : mg "sorted" = none
  m_str : mg "str" = none
  m_tuple : mg "tuple" = none
  t_LETTERS : Tok
  g_LETTERS : mg "LETTERS" = some (.str "abcdefghijklmnopqrstuvwxyz" t_LETTERS)
end K20
set_option maxRecDepth 100000
set_option maxHeartbeats 2000000
/-! worlds: what the law's dicts are -/
namespace Fm
open PySem PySem.Spec PyProof.Rows L2
abbrev Outs := List (Str × Int)
abbrev Acts := List (Str × (Int × Outs))
/-- the names of an association list differ -/
def Nds {α : Type} (l : List (Str × α)) : Prop := (l.map (·.1)).Nodup
structure OutsOk (o : Outs) : Prop where
  nd : Nds o
  lo : 1 ≤ o.length
  hi : o.length ≤ 6
  ok : ∀ p ∈ o, isOutS p.1 = true ∧ PyData.strOk p.1 = true ∧ p.1.length ≤ 20 ∧ 0 ≤ p.2 ∧ p.2 < 3
structure ActsOk (l : Acts) : Prop where
  nd : Nds l
  hi : l.length ≤ 20
  ok : ∀ p ∈ l, isNameS p.1 = true ∧ PyData.strOk p.1 = true ∧ p.1.length ≤ 20 ∧ 0 ≤ p.2.1 ∧ p.2.1 < 3 ∧ OutsOk p.2.2
def kO (o : Outs) : List (Key × V) := o.map fun p => (.inr p.1, V.int p.2)
/-- a dict of outcomes -/
def OutsAt (H : Hp) (d : Addr) (o : Outs) : Prop := H d = some (.dK (kO o))
/-- an act: a pair of a number and such a dict -/
def ActAt (H : Hp) (v : V) (a : Int × Outs) : Prop := ∃ t d, v = .ref t ∧ H t = some (.tup [.int a.1, .ref d]) ∧ OutsAt H d a.2
inductive ActsL (H : Hp) : List (Key × V) → Acts → Prop
  | nil : ActsL H [] []
  | cons {n : Str} {v : V} {a : Int × Outs} {ks : List (Key × V)} {l : Acts} : ActAt H v a → ActsL H ks l → ActsL H ((.inr n, v) :: ks) ((n, a) :: l)
/-- a dict of acts -/
def ActsAt (H : Hp) (p : Addr) (l : Acts) : Prop := ∃ ks, H p = some (.dK ks) ∧ ActsL H ks l
theorem OutsAt.same {H H' : Hp} {d : Addr} {o : Outs} (h : OutsAt H d o) (k : Same H H') : OutsAt H' d o := k _ _ h
theorem ActAt.same {H H' : Hp} {v : V} {a : Int × Outs} (h : ActAt H v a) (k : Same H H') : ActAt H' v a := by
  obtain ⟨t, d, e, h1, h2⟩ := h
  exact ⟨t, d, e, k _ _ h1, h2.same k⟩
theorem ActsL.same {H H' : Hp} {ks : List (Key × V)} {l : Acts} (h : ActsL H ks l) (k : Same H H') : ActsL H' ks l := by
  induction h with
  | nil => exact .nil
  | cons a _ ih => exact .cons (a.same k) ih
theorem ActsAt.same {H H' : Hp} {p : Addr} {l : Acts} (h : ActsAt H p l) (k : Same H H') : ActsAt H' p l := by
  obtain ⟨ks, h1, h2⟩ := h
  exact ⟨ks, k _ _ h1, h2.same k⟩
theorem ActsL.keys {H : Hp} {ks : List (Key × V)} {l : Acts} (h : ActsL H ks l) : ks.map (·.1) = (l.map (·.1)).map Sum.inr := by
  induction h with
  | nil => rfl
  | cons a _ ih => simp only [List.map_cons, ih]
theorem ActsL.len {H : Hp} {ks : List (Key × V)} {l : Acts} (h : ActsL H ks l) : ks.length = l.length := by
  have := congrArg List.length h.keys
  simpa using this
/-- what stands at the i-th place -/
theorem ActsL.get {H : Hp} {ks : List (Key × V)} {l : Acts} (h : ActsL H ks l) : ∀ {i : Nat} {k : Key} {v : V}, ks[i]? = some (k, v) → ∃ n a, l[i]? = some (n, a) ∧ k = .inr n ∧ ActAt H v a := by
  induction h with
  | nil => intro i k v e; simp at e
  | cons a _ ih =>
    intro i k v e
    cases i with
    | zero =>
      cases e
      exact ⟨_, _, rfl, rfl, a⟩
    | succ i => exact ih e
/-- looked up by name -/
theorem ActsL.look {H : Hp} {ks : List (Key × V)} {l : Acts} (h : ActsL H ks l) (n : Str) : (valV ks (.inr n) = none ∧ l.lookup n = none) ∨ ∃ v a, valV ks (.inr n) = some v ∧ l.lookup n = some a ∧ ActAt H v a := by
  induction h with
  | nil => exact .inl ⟨rfl, rfl⟩
  | @cons m v a ks l ha _ ih =>
    by_cases c : n = m
    · subst c
      refine .inr ⟨v, a, ?_, ?_, ha⟩
      · simp [valV]
      · simp [List.lookup]
    · have e1 : valV ((.inr m, v) :: ks) (.inr n : Key) = valV ks (.inr n) := by
        simp [valV, Ne.symm c]
      have e2 : List.lookup n ((m, a) :: l) = List.lookup n l := by
        rw [List.lookup_cons]
        have : (n == m) = false := by simpa using c
        rw [this]
      rw [e1, e2]
      exact ih
/-- a comprehension whose turns give f 0, f 1, .. and leave what stood -/
theorem lc_itF {J : It} {n : Nat} {G : Hp → Prop} {Y : Nat → Hp → V → Hp → Prop} (w : Walk J n G Y) {g : TG} {tt : TT} {te : TE} {vs : List Nat} {σ : L2.St} {H : Hp} {Dl : Addr} {Qd : Hp → Prop} (f : Nat → V) (hD : H Dl = none) (hz : n ≤ 100000)
    (hG : ∀ H', Same H H' → G H')
    (hv : ∀ (i : Nat) (x : V) (H' H2 : Hp) (R : VK) (Nx : Hp → Prop), i < n → Same H H' → Y i H' x H2 → (∀ H3, Same H' H3 → R (f i) H3) → g x (wipe σ vs) H2 fun σ2 H3 => wipe σ2 vs = wipe σ vs ∧ tt σ2 H3 fun b H4 => if b = true then te σ2 H4 R else Nx H4)
    (q : ∀ H', Same H H' → H' Dl = some (.lst ((List.range n).map f)) → Qd H') :
    ∃ W : Nat → Nat → Hp → Prop, (∃ m, W 0 m (upd H Dl (.lst []))) ∧ ∀ i m H, W i m H →
      (J.stop i H ∧ Qd H) ∨ (J.go i H ∧ ∃ Nx : Hp → Prop, (∀ H', Nx H' → ∃ m', m' < m ∧ W (i + 1) m' H') ∧ ∀ x H', J.yld i H x H' → g x (wipe σ vs) H' fun σ2 H2 => wipe σ2 vs = wipe σ vs ∧ tt σ2 H2 fun b H3 =>
        if b = true then te σ2 H3 fun y H4 => ∃ acc, H4 Dl = some (.lst acc) ∧ acc.length < sizeLine ∧ Nx (upd H4 Dl (.lst (acc ++ [y]))) else Nx H3) := by
  refine lc_it w (fun i H' => Same H H' ∧ H' Dl = some (.lst ((List.range i).map f))) ⟨Same.new hD, upd_same⟩ (fun i H' _ h => hG H' h.1) ?_ (fun H' h => q H' h.1 h.2)
  rintro i x H1 H2 hi ⟨k, hl⟩ y
  refine hv i x H1 H2 _ _ hi k y fun H3 k3 => ⟨_, k3 _ _ hl, ?_, Same.upd (k.trans k3) hD, ?_⟩
  · rw [List.length_map, List.length_range]
    exact szl (by omega)
  · rw [List.range_succ, List.map_append]
    exact upd_same
/-- behind a locked dict: what stood stands -/
theorem lock_back {H H' : Hp} {d : Addr} {u : HO} {od : Obj} (hu : H d = some u) (k : Same (upd H d (.frz od u)) H') : Same H (upd H' d u) := fun a o e => by
  by_cases c : a = d
  · rw [c] at e ⊢
    rw [upd_same, ← e]
    exact hu.symm
  · rw [upd_ne c]
    exact k a o (by rw [upd_ne c]; exact e)
theorem acts_mem {l : Acts} {n : Str} {a : Int × Outs} (h : l.lookup n = some a) : (n, a) ∈ l := by
  induction l with
  | nil => cases h
  | cons p l ih =>
    obtain ⟨m, b⟩ := p
    rw [List.lookup_cons] at h
    by_cases c : n = m
    · subst c
      simp only [beq_self_eq_true] at h
      cases h
      exact List.mem_cons_self
    · have : (n == m) = false := by simpa using c
      rw [this] at h
      exact List.mem_cons_of_mem _ (ih h)
theorem acts_look {l : Acts} {n : Str} (h : n ∈ l.map (·.1)) : ∃ a, l.lookup n = some a := by
  induction l with
  | nil => cases h
  | cons p l ih =>
    obtain ⟨m, b⟩ := p
    rw [List.lookup_cons]
    by_cases c : n = m
    · subst c
      simp
    · have : (n == m) = false := by simpa using c
      rw [this]
      rcases List.mem_cons.mp h with h | h
      · exact absurd h c
      · exact ih h
/-- a dict comprehension over what is walked -/
theorem dc_it {J : It} {n : Nat} {G : Hp → Prop} {Y : Nat → Hp → V → Hp → Prop} (w : Walk J n G Y) {g : TG} {tt : TT} {tk tv : TE} {vs : List Nat} {σ : L2.St} {H1 : Hp} {D : Addr} {Qd : Hp → Prop} (Pv : Nat → Hp → Prop) (h0 : Pv 0 (upd H1 D (.dK []))) (hG : ∀ i H, i ≤ n → Pv i H → G H)
    (hs : ∀ i x H H', i < n → Pv i H → Y i H x H' → g x (wipe σ vs) H' fun σ2 H2 => wipe σ2 vs = wipe σ vs ∧ tt σ2 H2 fun b H3 =>
      if b = true then tk σ2 H3 fun y H4 => tv σ2 H4 fun z H5 => ∃ kvs k, y = kV k ∧ H5 D = some (.dK kvs) ∧ kvs.length < sizeLine ∧ Pv (i + 1) (upd H5 D (.dK (putK kvs k z))) else Pv (i + 1) H3) (hd : ∀ H, Pv n H → Qd H) :
    ∃ W : Nat → Nat → Hp → Prop, (∃ m, W 0 m (upd H1 D (.dK []))) ∧ ∀ i m H, W i m H →
      (J.stop i H ∧ Qd H) ∨ (J.go i H ∧ ∃ Nx : Hp → Prop, (∀ H', Nx H' → ∃ m', m' < m ∧ W (i + 1) m' H') ∧ ∀ x H', J.yld i H x H' → g x (wipe σ vs) H' fun σ2 H2 => wipe σ2 vs = wipe σ vs ∧ tt σ2 H2 fun b H3 =>
        if b = true then tk σ2 H3 fun y H4 => tv σ2 H4 fun z H5 => ∃ kvs k, y = kV k ∧ H5 D = some (.dK kvs) ∧ kvs.length < sizeLine ∧ Nx (upd H5 D (.dK (putK kvs k z))) else Nx H3) := by
  refine ⟨fun i m H => m = n - i ∧ i ≤ n ∧ Pv i H, ⟨n, rfl, Nat.zero_le _, h0⟩, fun i m H y => ?_⟩
  obtain ⟨rfl, hi, p⟩ := y
  have gg := hG i H hi p
  rcases Nat.lt_or_ge i n with lt | ge
  · exact .inr ⟨w.goes i H lt gg, Pv (i + 1), fun H' p' => ⟨n - (i + 1), by omega, rfl, lt, p'⟩, fun x H' y => hs i x H H' lt p (w.yields i H x H' lt gg y)⟩
  · have e : i = n := by omega
    subst e
    exact .inl ⟨w.stops H gg, hd H p⟩
theorem valV_no {kvs : List (Key × V)} {k : Key} (h : ∀ p ∈ kvs, p.1 ≠ k) : valV kvs k = none := by
  induction kvs with
  | nil => rfl
  | cons p r ih =>
    rw [valV_neg (h p List.mem_cons_self)]
    exact ih fun q hq => h q (List.mem_cons_of_mem _ hq)
theorem nds_take {α : Type} {l : List (Str × α)} (nd : Nds l) {i : Nat} {n : Str} {a : α} (h : l[i]? = some (n, a)) : ∀ p ∈ l.take i, p.1 ≠ n := by
  intro p hp e
  obtain ⟨j, hj, hpj⟩ := List.mem_iff_getElem.mp hp
  have lj : j < i := by rw [List.length_take] at hj; omega
  have pw := List.pairwise_iff_getElem.mp nd
  obtain ⟨hi, hv⟩ := List.getElem?_eq_some_iff.mp h
  have q := pw j i (by rw [List.length_map]; omega) (by rw [List.length_map]; exact hi) lj
  rw [List.getElem_map, List.getElem_map, hv] at q
  rw [List.getElem_take] at hpj
  rw [hpj] at q
  exact q e
theorem look_get {l : Acts} (nd : Nds l) {i : Nat} {n : Str} {a : Int × Outs} (h : l[i]? = some (n, a)) : l.lookup n = some a := by
  induction l generalizing i with
  | nil => simp at h
  | cons p l ih =>
    obtain ⟨m, b⟩ := p
    rw [List.lookup_cons]
    obtain ⟨n1, n2⟩ := List.nodup_cons.mp nd
    cases i with
    | zero =>
      cases h
      simp
    | succ i =>
      have h' : l[i]? = some (n, a) := h
      have mem : n ∈ l.map (·.1) := List.mem_map.mpr ⟨_, List.mem_of_getElem? h', rfl⟩
      have ne : (n == m) = false := by
        rw [beq_eq_false_iff_ne]
        intro e
        rw [e] at mem
        exact n1 mem
      rw [ne]
      exact ih n2 h'
/-- the numbers of the acts -/
def kA (l : Acts) : List (Key × V) := l.map fun p => (.inr p.1, V.int p.2.1)
theorem kA_step {l : Acts} (nd : Nds l) {i : Nat} {n : Str} {a : Int × Outs} (h : l[i]? = some (n, a)) : putK ((kA l).take i) (.inr n) (.int a.1) = (kA l).take (i + 1) := by
  have e1 : (kA l)[i]? = some (.inr n, .int a.1) := by
    unfold kA
    rw [List.getElem?_map, h]
    rfl
  rw [putK_new _ (valV_no ?_), List.take_add_one, e1]
  · rfl
  · intro p hp e
    unfold kA at hp
    rw [← List.map_take] at hp
    obtain ⟨q, hq, rfl⟩ := List.mem_map.mp hp
    exact nds_take nd h q hq (Sum.inr.inj e)
/-- the dict of what the acts bring: each act's outcomes in a dict of their own -/
inductive BringsL (H : Hp) : List (Key × V) → Acts → Prop
  | nil : BringsL H [] []
  | cons {n : Str} {d : Addr} {a : Int × Outs} {ks : List (Key × V)} {l : Acts} : OutsAt H d a.2 → BringsL H ks l → BringsL H ((.inr n, .ref d) :: ks) ((n, a) :: l)
theorem BringsL.same {H H' : Hp} {ks : List (Key × V)} {l : Acts} (h : BringsL H ks l) (k : Same H H') : BringsL H' ks l := by
  induction h with
  | nil => exact .nil
  | cons a _ ih => exact .cons (a.same k) ih
theorem BringsL.keys {H : Hp} {ks : List (Key × V)} {l : Acts} (h : BringsL H ks l) : ks.map (·.1) = (l.map (·.1)).map Sum.inr := by
  induction h with
  | nil => rfl
  | cons a _ ih => simp only [List.map_cons, ih]
theorem BringsL.len {H : Hp} {ks : List (Key × V)} {l : Acts} (h : BringsL H ks l) : ks.length = l.length := by
  have := congrArg List.length h.keys
  simpa using this
theorem BringsL.snoc {H : Hp} {ks : List (Key × V)} {l : Acts} (h : BringsL H ks l) {n : Str} {d : Addr} {a : Int × Outs} (o : OutsAt H d a.2) : BringsL H (ks ++ [(.inr n, .ref d)]) (l ++ [(n, a)]) := by
  induction h with
  | nil => exact .cons o .nil
  | cons b _ ih => exact .cons b ih
theorem BringsL.step {H : Hp} {ks : List (Key × V)} {l : Acts} (nd : Nds l) {i : Nat} (h : BringsL H ks (l.take i)) {n : Str} {d : Addr} {a : Int × Outs} (e : l[i]? = some (n, a)) (o : OutsAt H d a.2) : BringsL H (putK ks (.inr n) (.ref d)) (l.take (i + 1)) := by
  rw [putK_new _ (valV_no ?_), List.take_add_one, e]
  · exact h.snoc o
  · intro p hp e2
    have m : p.1 ∈ ks.map (·.1) := List.mem_map.mpr ⟨p, hp, rfl⟩
    rw [h.keys] at m
    obtain ⟨x, hx, hx2⟩ := List.mem_map.mp m
    obtain ⟨q, hq, rfl⟩ := List.mem_map.mp hx
    rw [← hx2] at e2
    exact nds_take nd e q hq (Sum.inr.inj e2)
theorem BringsL.mono {H H' : Hp} {ks : List (Key × V)} {l : Acts} (h : BringsL H ks l) (f : ∀ d o, OutsAt H d o → OutsAt H' d o) : BringsL H' ks l := by
  induction h with
  | nil => exact .nil
  | cons a _ ih => exact .cons (f _ _ a) ih
end Fm
set_option maxRecDepth 100000
set_option maxHeartbeats 2000000
namespace K20
open PySem L2 Fm
section
variable {P : Program} {w : World} {K : PySem.W.Frag} {mg : Str → Option Value} {base : Heap} (T : Txt K mg)
/-- a def over one value of data that hands back a bool and leaves what stood -/
def sp1 (f : D → Bool) (n m : Nat) : Sp := fun vs H Q _ => ∃ v d, vs = [v] ∧ Dv H v d ∧ d.size ≤ n ∧ d.deep ≤ m ∧ ∀ H', Same H H' → Q (.bl (f d)) H'
theorem sp1_len {f : D → Bool} {n m : Nat} : ∀ vs H Q E, sp1 f n m vs H Q E → vs.length = 1 := by
  rintro vs H Q E ⟨v, d, rfl, _⟩
  rfl
theorem ok_is_integer : FnOk P w K mg base CX0 1 T.a_is_integer T.d_is_integer ["thing"] (sp1 isWhole 1000000 100) := by
  refine T.F_is_integer.ok sc_is_integer sp1_len (fun cdv A outer s H vs Q E hr h => ?_)
  obtain ⟨v, d, rfl, hd, hz, hm, q⟩ := h
  refine ⟨_, 
    (pss_one (ps_ret (pe_and (pe_isD (fun _ => kit_I) T.m_isinstance (pv 0) (pe_bltn (v := .ty "int") (u := .type "int") (by rfl) T.m_int (by decide +kernel) rfl) mon_var) (pe_one (pe_not (pe_isD (fun _ => kit_B) T.m_isinstance (pv 0) (pe_bltn (v := .ty "bool") (u := .type "bool") (by rfl) T.m_bool (by decide +kernel) rfl) mon_var)))))), ?_⟩
  refine ⟨_, rfl, d, hd, _, rfl, ite_b (fun hI => ?_) (fun hI => ?_)⟩
  · refine ⟨_, rfl, d, hd, _, rfl, ?_⟩
    have : isWhole d = !isB d := by cases d <;> simp_all [isI, isWhole, isB]
    rw [← this]
    exact q _ (Same.refl _)
  · have : isWhole d = false := by cases d <;> simp_all [isI, isWhole]
    rw [← this]
    exact q _ (Same.refl _)
def spBelow : Sp := fun vs H Q _ => ∃ i j : Int, vs = [.int i, .int j] ∧ ∀ H', Same H H' → Q (.bl (decide (0 ≤ i) && decide (i < j))) H'
theorem ok_is_below : FnOk P w K mg base CX0 2 T.a_is_below T.d_is_below ["thing", "bound"] spBelow := by
  have G_is_integer := ok_is_integer (P := P) (w := w) (base := base) T
  refine T.F_is_below.ok sc_is_below ?_ (fun cdv A outer s H vs Q E hr h => ?_)
  · rintro vs H Q E ⟨i, j, rfl, _⟩
    rfl
  obtain ⟨i, j, rfl, q⟩ := h
  refine ⟨_, 
    (pss_one (ps_ret (pe_and (pe_call G_is_integer (hr.mono (by omega)) (by rfl) T.f_is_integer T.F_is_integer.kp T.b_is_integer .nil pass0 (pa_cons (pv 0) pa_nil)) (pe_one (pe_chain op_le op_lt pe_int (pv 0) (pv 1)))))), ?_⟩
  refine ⟨_, rfl, _, .int i, rfl, .int i, (by simp only [D.size]; omega), (by simp only [D.deep]; omega), fun H1 k1 => ⟨_, rfl, ite_b (fun _ => ?_) (fun c => nomatch c)⟩⟩
  refine ⟨_, rfl, _, _, rfl, rfl, _, rfl, ite_b (fun h1 => ?_) (fun h1 => ?_)⟩
  · refine ⟨_, rfl, _, _, rfl, rfl, ?_⟩
    have := q H1 k1
    rw [h1, Bool.true_and] at this
    exact this
  · have := q H1 k1
    rw [h1, Bool.false_and] at this
    exact this
theorem ok_is_name : FnOk P w K mg base CX0 1 T.a_is_name T.d_is_name ["thing"] (sp1 isName 1000000 100) := by
  refine T.F_is_name.ok sc_is_name sp1_len (fun cdv A outer s H vs Q E hr h => ?_)
  obtain ⟨v, d, rfl, hd, hz, hm, q⟩ := h
  refine ⟨_, 
    (pss_one (ps_ret (pe_and (pe_isD (fun _ => kit_S) T.m_isinstance (pv 0) (pe_bltn (v := .ty "str") (u := .type "str") (by rfl) T.m_str (by decide +kernel) rfl) mon_var) (pe_and (pe_chain op_le op_le pe_int (pe_callB call_len_str (by rfl) T.m_len (by decide +kernel) (pa_cons (pv 0) pa_nil)) pe_int) (pe_one (pe_callB (cr_all rfl) (by rfl) T.m_all (by decide +kernel) (pa_cons (pe_lc (own := [("letter", 1)]) (g := gName 1) (tt := tYes) rfl sc_is_name.nd (pi_str (pv 0)) (blkOk_by (N := N_is_name) (sc := defScope s_is_name) (by decide +kernel)) (fun _ _ _ _ _ => pg_name (i := 1) sc_is_name.nd rfl (Or.inl rfl)) (fun _ _ _ _ _ => pts_nil) (fun _ _ _ _ _ => pe_cmpR op_in_str (pv 1) (pe_glob (v := .str "abcdefghijklmnopqrstuvwxyz") rfl T.g_LETTERS ⟨_, rfl⟩) (by rfl))) pa_nil))))))), ?_⟩
  refine ⟨_, rfl, d, hd, _, rfl, ite_b (fun hS => ?_) (fun hS => ?_)⟩
  · obtain ⟨x, rfl⟩ : ∃ x, d = .str x := by cases d <;> simp_all [isS]
    cases hd
    have lx : x.length ≤ 1000000 := by simp only [D.size] at hz; omega
    refine ⟨_, rfl, x, rfl, sz (by omega), _, _, rfl, rfl, _, rfl, ite_b (fun h1 => ?_) (fun h1 => ?_)⟩
    · refine ⟨_, _, rfl, rfl, _, rfl, ite_b (fun h2 => ?_) (fun h2 => ?_)⟩
      · have l8 : x.length ≤ 8 := by have := of_decide_eq_true h2; omega
        refine ⟨_, rfl, x, rfl, ?_⟩
        intro Dl hD
        refine lc_signs (K := K) (fun y => .bl (signOk y)) (fun _ => true) hD (by omega) (fun _ => rfl) (fun _ _ _ _ r => r) (fun y H' R _ _ r => ⟨_, rfl, _, _, rfl, rfl, r⟩) (fun H' k hl => ?_)
        refine ⟨Dl, (signs x).map signOk, rfl, SqL.of ?_, ?_⟩
        · rw [hl]
          rw [filt]
          simp [List.map_map, Function.comp_def]
        · have e : isName (.str x) = ((signs x).map signOk).all id := by
            have a1 : 1 ≤ x.length := by have := of_decide_eq_true h1; omega
            simp [isName, isNameS, a1, l8, List.all_map, Function.comp_def]
          rw [← e]
          exact q _ k
      · have e : isName (.str x) = false := by
          have : ¬ x.length ≤ 8 := by have := of_decide_eq_false h2; omega
          simp [isName, isNameS, this]
        rw [← e]
        exact q _ (Same.refl _)
    · have e : isName (.str x) = false := by
        have : ¬ 1 ≤ x.length := by have := of_decide_eq_false h1; omega
        simp only [isName, isNameS, decide_eq_false this, Bool.false_and]
      refine ⟨_, rfl, iteF ?_⟩
      rw [← e]
      exact q _ (Same.refl _)
  · have : isName d = false := by cases d <;> simp_all [isS, isName]
    rw [← this]
    exact q _ (Same.refl _)
theorem ok_is_outcome : FnOk P w K mg base CX0 2 T.a_is_outcome T.d_is_outcome ["thing"] (sp1 isOut 100000 100) := by
  have G_is_name := ok_is_name (P := P) (w := w) (base := base) T
  refine T.F_is_outcome.ok sc_is_outcome sp1_len (fun cdv A outer s H vs Q E hr h => ?_)
  obtain ⟨v, d, rfl, hd, hz, hm, q⟩ := h
  refine ⟨_, 
    (pss_one (ps_ret (pe_and (pe_isD (fun _ => kit_S) T.m_isinstance (pv 0) (pe_bltn (v := .ty "str") (u := .type "str") (by rfl) T.m_str (by decide +kernel) rfl) mon_var) (pe_one (pe_or (pe_call G_is_name (hr.mono (by omega)) (by rfl) T.f_is_name T.F_is_name.kp T.b_is_name .nil pass0 (pa_cons (pv 0) pa_nil)) (pe_one (pe_and (pe_bm PySem.F.plainAttrs_str PySem.F.slot_str_endswith PySem.F.type_str_endswith mt_endswith (pv 0) (pa_cons pe_str pa_nil)) (pe_one (pe_call G_is_name (hr.mono (by omega)) (by rfl) T.f_is_name T.F_is_name.kp T.b_is_name .nil pass0 (pa_cons (pe_slice sl_str (pv 0) po_none (po_some (pe_un un_neg pe_int))) pa_nil)))))))))), ?_⟩
  refine ⟨_, rfl, d, hd, _, rfl, ite_b (fun hS => ?_) (fun hS => ?_)⟩
  · obtain ⟨x, rfl⟩ : ∃ x, d = .str x := by cases d <;> simp_all [isS]
    cases hd with
    | str _ ox =>
    have lx : x.length ≤ 100000 := by simp only [D.size] at hz; omega
    refine ⟨_, rfl, _, _, rfl, .str x ox, by omega, by simp only [D.deep]; omega, fun H1 k1 => ⟨_, rfl, ite_b (fun h1 => ?_) (fun h1 => ?_)⟩⟩
    · have e : isOut (.str x) = true := by
        have h1' : isNameS x = true := h1
        simp [isOut, isOutS, h1']
      rw [← e]
      exact q _ k1
    · have h1' : isNameS x = false := h1
      refine ⟨_, rfl, rfl, _, _, rfl, rfl, _, rfl, ite_b (fun h2 => ?_) (fun h2 => ?_)⟩
      · have ll := len_last (x := x)
        refine ⟨_, rfl, _, rfl, _, rfl, x, rfl, sz (by omega), _, _, rfl, (.str (cutLast x) (ok_cut ox)), by simp only [D.size]; omega, by simp only [D.deep]; omega, fun H2 k2 => ?_⟩
        have e : isOut (.str x) = isNameS (cutLast x) := by
          simp [isOut, isOutS, h1', h2]
        have q2 := q _ (k1.trans k2)
        rw [e] at q2
        exact q2
      · have e : isOut (.str x) = false := by
          simp [isOut, isOutS, h1', h2]
        have q2 := q _ k1
        rw [e] at q2
        exact q2
  · have : isOut d = false := by cases d <;> simp_all [isS, isOut]
    rw [← this]
    exact q _ (Same.refl _)
def spOutsOk : Sp := fun vs H Q _ => ∃ (d : Addr) (o : Outs), vs = [.ref d] ∧ OutsAt H d o ∧ OutsOk o ∧ ∀ H', Same H H' → Q (.bl true) H'
theorem ok_are_outcomes : FnOk P w K mg base CX0 3 T.a_are_outcomes T.d_are_outcomes ["thing"] spOutsOk := by
  have G_is_below := ok_is_below (P := P) (w := w) (base := base) T
  have G_is_outcome := ok_is_outcome (P := P) (w := w) (base := base) T
  refine T.F_are_outcomes.ok sc_are_outcomes ?_ (fun cdv A outer s H vs Q E hr h => ?_)
  · rintro vs H Q E ⟨i, o, rfl, _⟩
    rfl
  obtain ⟨d, o, rfl, ho, ok, q⟩ := h
  refine ⟨_, 
    (pss_cons (ps_if (pt_not (PW.pt (pw_and (pt_val (pe_callB call_isiE (by rfl) T.m_isinstance (by decide +kernel) (pa_cons (pv 0) (pa_cons (pe_bltn (v := .ty "dict") (u := .type "dict") (by rfl) T.m_dict (by decide +kernel) rfl) pa_nil)))) (pw_and1 (pt_chain op_le op_le pe_int (pe_callB call_lenD (by rfl) T.m_len (by decide +kernel) (pa_cons (pv 0) pa_nil)) pe_int))))) (pss_one (ps_ret pe_bl)) pss_nil)
    (pss_one (ps_ret (pe_callB (cr_all rfl) (by rfl) T.m_all (by decide +kernel) (pa_cons (pe_lock (pe_lc (own := [("outcome", 1), ("brought", 2)]) (g := gTup K 2 (gCons (gName 1) (gCons (gName 2) gNil))) (tt := tYes) rfl sc_are_outcomes.nd (pi_items (pv 0)) (blkOk_by (N := N_are_outcomes) (sc := defScope s_are_outcomes) (by decide +kernel)) (fun _ _ _ _ _ => pg_tup rfl (pgs_cons (pg_name (i := 1) sc_are_outcomes.nd rfl (Or.inl rfl)) (pgs_cons (pg_name (i := 2) sc_are_outcomes.nd rfl (Or.inl rfl)) pgs_nil))) (fun _ _ _ _ _ => pts_nil) (fun _ _ _ _ _ => pe_and (pe_call G_is_outcome (hr.mono (by omega)) (by rfl) T.f_is_outcome T.F_is_outcome.kp T.b_is_outcome .nil pass0 (pa_cons (pv 1) pa_nil)) (pe_one (pe_call G_is_below (hr.mono (by omega)) (by rfl) T.f_is_below T.F_is_below.kp T.b_is_below .nil pass0 (pa_cons (pv 2) (pa_cons pe_int pa_nil))))))) pa_nil))))), ?_⟩
  have hl : (kO o).length = o.length := by simp [kO]
  have l1 := ok.lo
  have l2 := ok.hi
  refine ⟨_, rfl, _, _, _, _, true, rfl, .ty _, .base (.base (.dK ho)), rfl, true, rfl, ite_b (fun _ => ?_) (fun c => nomatch c)⟩
  refine ⟨_, rfl, d, _, rfl, ho, _, _, rfl, rfl, _, rfl, ite_b (fun _ => ?_) (fun c => absurd (of_decide_eq_false c) (by rw [hl]; omega))⟩
  refine ⟨_, _, rfl, rfl, _, rfl, ite_b (fun c => by have := hl; simp at c; omega) (fun _ => ?_)⟩
  refine ⟨d, _, ho, trivial, fun od => ?_⟩
  refine ⟨_, rfl, d, od, _, rfl, upd_same, fun Dl hD => ?_⟩
  have kf : ∀ H', Same (upd H d (.frz od (.dK (kO o)))) H' → H' d = some (.frz od (.dK (kO o))) := fun H' k => k _ _ upd_same
  have back : ∀ H', Same (upd H d (.frz od (.dK (kO o)))) H' → Same H (upd H' d (.dK (kO o))) := fun H' k a u e => by
    by_cases c : a = d
    · rw [c] at e ⊢
      rw [upd_same, ← e]
      exact ho.symm
    · rw [upd_ne c]
      exact k a u (by rw [upd_ne c]; exact e)
  refine lc_itF walk_items (fun _ => .bl true) hD (by omega) kf (fun i x H' H2 R Nx hi k y r => ?_) (fun H' k hl2 => ?_)
  · obtain ⟨T2, kk, vv, rfl, hT, rfl, e1, e2⟩ := y
    obtain ⟨p, hp⟩ : ∃ p, o[i]? = some p := ⟨_, List.getElem?_eq_getElem (by rw [← hl]; exact hi)⟩
    have hk : (kO o)[i]? = some (.inr p.1, .int p.2) := by
      unfold kO
      rw [List.getElem?_map, hp]
      rfl
    have f1 : kk = .str p.1 := by
      have z := e1
      dsimp only at z
      rw [hk] at z
      exact (Option.some.inj z).symm
    have f2 : vv = .int p.2 := by
      have z := e2
      dsimp only at z
      rw [hk] at z
      exact (Option.some.inj z).symm
    subst f1 f2
    obtain ⟨b1, b2, b3, b4, b5⟩ := ok.ok p (List.mem_of_getElem? hp)
    have kT : Same H' (upd H' T2 (.tup [.str p.1, .int p.2])) := Same.new hT
    refine ⟨T2, _, rfl, SqT.of upd_same, rfl, _, _, rfl, _, _, rfl, rfl, rfl, ?_⟩
    refine ⟨_, rfl, _, _, rfl, .str p.1 b2, (by simp only [D.size]; omega), (by simp only [D.deep]; omega), fun H3 k3 => ⟨_, rfl, ite_b (fun _ => ?_) (fun c => absurd (c.symm.trans b1) (fun z => nomatch z))⟩⟩
    refine ⟨_, rfl, _, _, rfl, fun H4 k4 => ?_⟩
    have e3 : (decide (0 ≤ p.2) && decide (p.2 < 3)) = true := by simp [b4, b5]
    rw [e3]
    exact r H4 (kT.trans (k3.trans k4))
  · refine ⟨kf H' k, ?_⟩
    have nd : Dl ≠ d := fun z => by rw [z, upd_same] at hD; cases hD
    refine ⟨Dl, (List.range (kO o).length).map (fun _ => true), rfl, SqL.of ?_, ?_⟩
    · rw [upd_ne nd, hl2, List.map_map]
      rfl
    · have e : ((List.range (kO o).length).map (fun _ => true)).all id = true := by simp
      rw [e]
      exact q _ (back H' k)
def spActOk : Sp := fun vs H Q _ => ∃ (v : V) (a : Int × Outs), vs = [v] ∧ ActAt H v a ∧ 0 ≤ a.1 ∧ a.1 < 3 ∧ OutsOk a.2 ∧ ∀ H', Same H H' → Q (.bl true) H'
theorem ok_is_act : FnOk P w K mg base CX0 4 T.a_is_act T.d_is_act ["thing"] spActOk := by
  have G_is_below := ok_is_below (P := P) (w := w) (base := base) T
  have G_are_outcomes := ok_are_outcomes (P := P) (w := w) (base := base) T
  refine T.F_is_act.ok sc_is_act ?_ (fun cdv A outer s H vs Q E hr h => ?_)
  · rintro vs H Q E ⟨i, o, rfl, _⟩
    rfl
  obtain ⟨v, a, rfl, ⟨t, d, rfl, ht, ho⟩, a0, a3, ok, q⟩ := h
  refine ⟨_, 
    (pss_one (ps_ret (pe_and (pe_callB call_isiE (by rfl) T.m_isinstance (by decide +kernel) (pa_cons (pv 0) (pa_cons (pe_bltn (v := .ty "tuple") (u := .type "tuple") (by rfl) T.m_tuple (by decide +kernel) rfl) pa_nil))) (pe_and (pe_cmpR op_eq (pe_callB call_len_seq (by rfl) T.m_len (by decide +kernel) (pa_cons (pv 0) pa_nil)) pe_int (nomark _)) (pe_and (pe_call G_is_below (hr.mono (by omega)) (by rfl) T.f_is_below T.F_is_below.kp T.b_is_below .nil pass0 (pa_cons (pe_ix ix_tup (pv 0) pe_int (fun _ _ => rfl)) (pa_cons pe_int pa_nil))) (pe_one (pe_call G_are_outcomes (hr.mono (by omega)) (by rfl) T.f_are_outcomes T.F_are_outcomes.kp T.b_are_outcomes .nil pass0 (pa_cons (pe_ix ix_tup (pv 0) pe_int (fun _ _ => rfl)) pa_nil)))))))), ?_⟩
  refine ⟨_, rfl, _, _, _, _, true, rfl, .ty _, .base (.base (.tup ht)), rfl, true, rfl, ite_b (fun _ => ?_) (fun c => nomatch c)⟩
  refine ⟨_, rfl, t, _, rfl, .inr (SqT.of ht), rfl, _, rfl, ite_b (fun _ => ?_) (fun c => absurd c (by simp))⟩
  refine ⟨_, rfl, t, _, 0, _, rfl, rfl, SqT.of ht, atI_nat (j := 0) rfl, _, _, rfl, fun H1 k1 => ⟨_, rfl, ite_b (fun _ => ?_) (fun c => absurd c (by simp [a0, a3]))⟩⟩
  refine ⟨_, rfl, t, _, 1, _, rfl, rfl, SqT.of (k1 _ _ ht), atI_nat (j := 1) rfl, d, a.2, rfl, ho.same k1, ok, fun H2 k2 => q H2 (k1.trans k2)⟩
end
end K20
set_option maxRecDepth 100000
set_option maxHeartbeats 2000000
/-! names that the document calls names -/
namespace Fm
open PySem PySem.Spec PyProof.Rows L2
theorem sign_low : ∀ k, k < 26 → signOk ⟨#[97 + k]⟩ = true := by decide +kernel
theorem isNameS_low {x : Str} (h : okL x = true) (h1 : 1 ≤ x.length) (h8 : x.length ≤ 8) : isNameS x = true := by
  unfold isNameS
  rw [decide_eq_true h1, decide_eq_true h8, Bool.true_and, Bool.true_and, List.all_eq_true]
  intro y hy
  unfold signs at hy
  obtain ⟨c, hc, rfl⟩ := List.mem_map.mp hy
  obtain ⟨l1, l2⟩ := okL_iff.mp h c hc
  obtain ⟨k, rfl⟩ : ∃ k, c = 97 + k := ⟨c - 97, by omega⟩
  exact sign_low k (by omega)
theorem cut_len {x : Str} {lo hi : Option Int} : (cutS x lo hi).length = min (HT.sIx x.length x.length hi - HT.sIx x.length 0 lo) (x.length - HT.sIx x.length 0 lo) := by
  have l : x.cps.toList.length = x.length := by simp [Str.length]
  unfold cutS
  show (List.toArray _).size = _
  rw [List.size_toArray, List.length_take, List.length_drop, l]
theorem cut_two {x : Str} {a : Int} (h0 : 0 ≤ a) : (cutS x none (some a)).length + (cutS x (some a) none).length = x.length := by
  rw [cut_len, cut_len, sIx_none, sIx_none, sIx_at h0, sIx_at h0]
  omega
theorem dvl_strsK {H : Hp} : ∀ {acc : List V} {ds : List D}, DvL H acc ds → (∀ d ∈ ds, ∃ x, d = .str x ∧ okL x = true ∧ 1 ≤ x.length ∧ x.length ≤ 8) → ∃ ys : List Str, acc = ys.map V.str ∧ (∀ y ∈ ys, okL y = true ∧ 1 ≤ y.length ∧ y.length ≤ 8) ∧ ys.length = ds.length
  | _, _, .nil, _ => ⟨[], rfl, fun _ h => (by cases h), rfl⟩
  | _, _, .cons a b, h => by
    obtain ⟨ys, e, f, g⟩ := dvl_strsK b fun d hd => h d (List.mem_cons_of_mem _ hd)
    obtain ⟨x, rfl, o, l⟩ := h _ List.mem_cons_self
    cases a
    refine ⟨x :: ys, by rw [e]; rfl, fun y hy => ?_, by simp [g]⟩
    rcases List.mem_cons.mp hy with rfl | hy
    · exact ⟨o, l⟩
    · exact f y hy
/-- some names of one to eight small letters -/
def spNamesK : Sp := fun vs H Q _ => ∃ b p n, vs = [.ref b, .int n] ∧ Bag b p H ∧ 0 ≤ n ∧ n ≤ 20 ∧
  ∀ (l : Addr) (H' : Hp) (xs : List Str), Go b p H H' → newof H H' l = some (.lst (xs.map V.str)) → (xs.length : Int) = n → (∀ x ∈ xs, okL x = true ∧ 1 ≤ x.length ∧ x.length ≤ 8) → Q (.ref l) H'
/-- stored under a name -/
def putS {α : Type} (l : List (Str × α)) (n : Str) (a : α) : List (Str × α) := if (l.any fun p => decide (p.1 = n)) = true then l.map (fun p => if p.1 = n then (p.1, a) else p) else l ++ [(n, a)]
section
variable {α : Type} {l : List (Str × α)} {n : Str} {a : α}
theorem mem_putS {p : Str × α} (h : p ∈ putS l n a) : p ∈ l ∨ p = (n, a) := by
  unfold putS at h
  split at h
  · obtain ⟨q, hq, rfl⟩ := List.mem_map.mp h
    by_cases c : q.1 = n
    · rw [if_pos c, c]; exact .inr rfl
    · rw [if_neg c]; exact .inl hq
  · rcases List.mem_append.mp h with h | h
    · exact .inl h
    · exact .inr (List.mem_singleton.mp h)
theorem len_putS : (putS l n a).length ≤ l.length + 1 ∧ 1 ≤ (putS l n a).length := by
  unfold putS
  split
  · rename_i h
    rw [List.length_map]
    refine ⟨Nat.le_succ _, ?_⟩
    cases l with
    | nil => simp at h
    | cons _ _ => simp
  · rw [List.length_append]
    exact ⟨Nat.le_refl _, Nat.le_add_left _ _⟩
theorem nds_putS (nd : Nds l) : Nds (putS l n a) := by
  unfold putS Nds
  split
  · have e : (l.map fun p => if p.1 = n then (p.1, a) else p).map (·.1) = l.map (·.1) := by
      rw [List.map_map]
      refine List.map_congr_left fun p _ => ?_
      show (if p.1 = n then (p.1, a) else p).1 = p.1
      split <;> rfl
    rw [e]
    exact nd
  · rename_i h
    rw [List.map_append]
    refine List.nodup_append.mpr ⟨nd, by simp, fun x hx y hy => ?_⟩
    obtain ⟨p, hp, rfl⟩ := List.mem_map.mp hx
    simp only [List.map_cons, List.map_nil, List.mem_singleton] at hy
    subst hy
    intro e
    exact h (List.any_eq_true.mpr ⟨p, hp, decide_eq_true e⟩)
end
theorem any_keys {α : Type} {l : List (Str × α)} {ks : List (Key × V)} (h : ks.map (·.1) = (l.map (·.1)).map Sum.inr) (n : Str) : (ks.any fun kv => decide (kv.1 = (.inr n : Key))) = l.any fun p => decide (p.1 = n) := by
  induction ks generalizing l with
  | nil =>
    cases l with
    | nil => rfl
    | cons p l => simp at h
  | cons k ks ih =>
    cases l with
    | nil => simp at h
    | cons p l =>
      simp only [List.map_cons, List.cons.injEq] at h
      rw [List.any_cons, List.any_cons, ih h.2, h.1]
      congr 1
      rw [Bool.eq_iff_iff, decide_eq_true_iff, decide_eq_true_iff]
      exact ⟨fun e => Sum.inr.inj e, fun e => congrArg Sum.inr e⟩
theorem kO_put (o : Outs) (n : Str) (i : Int) : putK (kO o) (.inr n) (.int i) = kO (putS o n i) := by
  have e := any_keys (l := o) (ks := kO o) (by unfold kO; rw [List.map_map, List.map_map]; rfl) n
  unfold putK putS
  rw [e]
  split
  · unfold kO
    rw [List.map_map, List.map_map]
    refine List.map_congr_left fun p _ => ?_
    show (if (Sum.inr p.1 : Key) = Sum.inr n then ((Sum.inr p.1 : Key), V.int i) else (Sum.inr p.1, V.int p.2)) = (Sum.inr (if p.1 = n then (p.1, i) else p).1, V.int (if p.1 = n then (p.1, i) else p).2)
    by_cases c : p.1 = n
    · rw [if_pos c, if_pos (congrArg Sum.inr c)]
    · rw [if_neg c, if_neg (fun z => c (Sum.inr.inj z))]
  · unfold kO
    rw [List.map_append]
    rfl
theorem ActsL.app {H : Hp} {ks : List (Key × V)} {l : Acts} (h : ActsL H ks l) {n : Str} {v : V} {a : Int × Outs} (o : ActAt H v a) : ActsL H (ks ++ [(.inr n, v)]) (l ++ [(n, a)]) := by
  induction h with
  | nil => exact .cons o .nil
  | cons b _ ih => exact .cons b ih
theorem ActsL.map {H : Hp} {ks : List (Key × V)} {l : Acts} (h : ActsL H ks l) {n : Str} {v : V} {a : Int × Outs} (o : ActAt H v a) :
    ActsL H (ks.map fun kv => if kv.1 = (.inr n : Key) then (kv.1, v) else kv) (l.map fun p => if p.1 = n then (p.1, a) else p) := by
  induction h with
  | nil => exact .nil
  | @cons m w b ks l hb _ ih =>
    rw [List.map_cons, List.map_cons]
    by_cases c : m = n
    · rw [if_pos (congrArg Sum.inr c), if_pos c]
      exact .cons o ih
    · rw [if_neg (fun z => c (Sum.inr.inj z)), if_neg c]
      exact .cons hb ih
theorem ActsL.put {H : Hp} {ks : List (Key × V)} {l : Acts} (h : ActsL H ks l) {n : Str} {v : V} {a : Int × Outs} (o : ActAt H v a) : ActsL H (putK ks (.inr n) v) (putS l n a) := by
  unfold putK putS
  rw [any_keys h.keys n]
  split
  · exact h.map o
  · exact h.app o
/-- a name of the law -/
def NmOk (x : Str) : Prop := okL x = true ∧ 1 ≤ x.length ∧ x.length ≤ 8
structure OutsSm (o : Outs) : Prop where
  nd : Nds o
  lo : 1 ≤ o.length
  hi : o.length ≤ 3
  ok : ∀ p ∈ o, NmOk p.1 ∧ 0 ≤ p.2 ∧ p.2 < 3
structure ActsSm (k : Nat) (l : Acts) : Prop where
  nd : Nds l
  hi : l.length ≤ k
  ok : ∀ p ∈ l, NmOk p.1 ∧ 0 ≤ p.2.1 ∧ p.2.1 < 3 ∧ OutsSm p.2.2
theorem newof_updn {H H2 : Hp} {l : Addr} {o : HO} (h : H l = none) : newof H (upd H2 l o) = upd (newof H H2) l o := by
  funext a
  unfold newof
  by_cases c : a = l
  · rw [c, h, upd_same, upd_same]
  · rw [upd_ne c, upd_ne c]
end Fm
set_option maxRecDepth 100000
set_option maxHeartbeats 2000000
namespace K20
open PySem L2 Fm
section
variable {P : Program} {w : World} {K : PySem.W.Frag} {mg : Str → Option Value} {base : Heap} (T : Txt K mg)
/-- a World of these acts -/
def WorldAt (C : Addr) (H : Hp) (x : Addr) (l : Acts) : Prop := ∃ dx d1 d2 ks, H x = some (.ins C dx (putF "_brings" (.ref d2) (putF "_arguments" (.ref d1) []))) ∧ H d1 = some (.dK (kA l)) ∧ H d2 = some (.dK ks) ∧ BringsL H ks l
/-- what stands in H' and not yet in H, and what stands at x -/
def newx (H H' : Hp) (x : Addr) : Hp := fun a => if a = x then H' a else newof H H' a
theorem newx_sub {H H' : Hp} {x : Addr} : Same (newx H H' x) H' := fun a o e => by
  unfold newx at e
  split at e
  · exact e
  · exact newof_sub _ _ e
theorem newx_of {H H' : Hp} {x a : Addr} {o : HO} (n : a ≠ x) (h : H a = none) (h2 : H' a = some o) : newx H H' x a = some o := by
  unfold newx
  rw [if_neg n]
  exact newof_of h h2
def spInit : Sp := fun vs H Q _ => ∃ (x dx p : Addr) (l : Acts), vs = [.ref x, .ref p] ∧ H x = some (.ins T.C_World dx []) ∧ ActsAt H p l ∧ ActsOk l ∧ ∀ H', (∀ b o, H b = some o → b ≠ x → H' b = some o) → WorldAt T.C_World (newx H H' x) x l → Q .non H'
theorem ok_World_init : FnOk P w K mg base CX0 5 T.a_World_init T.d_World_init ["self", "acts"] (spInit T) := by
  have G_is_act := ok_is_act (P := P) (w := w) (base := base) T
  have G_is_name := ok_is_name (P := P) (w := w) (base := base) T
  refine T.F_World_init.ok sc_World_init ?_ (fun cdv A outer s H vs Q E hr h => ?_)
  · rintro vs H Q E ⟨x, dx, p, l, rfl, _⟩
    rfl
  obtain ⟨x, dx, p, l, rfl, hx, hp, ok, q⟩ := h
  refine ⟨_, 
    (pss_cons (ps_if (pt_not (PW.pt (pw_and (pt_val (pe_callB call_isiE (by rfl) T.m_isinstance (by decide +kernel) (pa_cons (pv 1) (pa_cons (pe_bltn (v := .ty "dict") (u := .type "dict") (by rfl) T.m_dict (by decide +kernel) rfl) pa_nil)))) (pw_and1 (pt_val (pe_callB (cr_all rfl) (by rfl) T.m_all (by decide +kernel) (pa_cons (pe_lock (pe_lc (own := [("name", 2)]) (g := gName 2) (tt := tYes) rfl sc_World_init.nd (pi_keys (pv 1)) (blkOk_by (N := N_World_init) (sc := defScope s_World_init) (by decide +kernel)) (fun _ _ _ _ _ => pg_name (i := 2) sc_World_init.nd rfl (Or.inl rfl)) (fun _ _ _ _ _ => pts_nil) (fun _ _ _ _ _ => pe_call G_is_name (hr.mono (by omega)) (by rfl) T.f_is_name T.F_is_name.kp T.b_is_name .nil pass0 (pa_cons (pv 2) pa_nil)))) pa_nil))))))) (pss_one ps_never) pss_nil)
    (pss_cons (ps_for PassesOwn.never rfl (pi_list (pe_callB (call_sortedD rfl) (by rfl) T.m_sorted (by decide +kernel) (pa_cons (pv 1) pa_nil))) (pg_name (i := 2) sc_World_init.nd rfl (Or.inl rfl)) (pss_one (ps_if (pt_not (pt_val (pe_call G_is_act (hr.mono (by omega)) (by rfl) T.f_is_act T.F_is_act.kp T.b_is_act .nil pass0 (pa_cons (pe_dget (hu1 hr) (pv 1) (pv 2) (fun _ _ => rfl)) pa_nil)))) (pss_one ps_never) pss_nil)))
    (pss_cons (ps_fld (pv 0) (pe_lock (pe_dc (own := [("name", 2)]) (g := gName 2) (tt := tYes) rfl sc_World_init.nd (pi_keys (pv 1)) (blkOk_by (N := N_World_init) (sc := defScope s_World_init) (by decide +kernel)) (fun _ _ _ _ _ => pg_name (i := 2) sc_World_init.nd rfl (Or.inl rfl)) (fun _ _ _ _ _ => pts_nil) (fun _ _ _ _ _ => pv 2) (fun _ _ _ _ _ => pe_ix (r := rIxT K) ix_tup (pe_dget (hu1 hr) (pv 1) (pv 2) (fun _ _ => rfl)) pe_int (fun _ _ => rfl)))) rfl)
    (pss_one (ps_fld (pv 0) (pe_lock (pe_dc (own := [("name", 2)]) (g := gName 2) (tt := tYes) rfl sc_World_init.nd (pi_keys (pv 1)) (blkOk_by (N := N_World_init) (sc := defScope s_World_init) (by decide +kernel)) (fun _ _ _ _ _ => pg_name (i := 2) sc_World_init.nd rfl (Or.inl rfl)) (fun _ _ _ _ _ => pts_nil) (fun _ _ _ _ _ => pv 2) (fun _ _ _ _ _ => pe_callTy call_dictD (by rfl) T.m_dict (by decide +kernel) (pa_cons (pe_ix (r := rIxT K) ix_tup (pe_dget (hu1 hr) (pv 1) (pv 2) (fun _ _ => rfl)) pe_int (fun _ _ => rfl)) pa_nil)))) rfl))))), ?_⟩
  obtain ⟨ks, hks, hL⟩ := hp
  have llen := hL.len
  have lhi := ok.hi
  -- isinstance(acts, dict)
  refine ⟨_, rfl, _, _, _, _, true, rfl, .ty _, .base (.base (.dK hks)), rfl, true, rfl, ite_b (fun _ => ?_) (fun c => nomatch c)⟩
  -- all names
  refine ⟨p, _, hks, trivial, fun od => ⟨_, rfl, p, od, rfl, .inl ⟨_, upd_same, fun Dl hD => ?_⟩⟩⟩
  refine lc_itF walk_keys (fun _ => .bl true) hD (by omega) (fun H' k => k _ _ upd_same) (fun i y H' H2 R Nx hi k yy r => ?_) (fun H' k hl2 => ?_)
  · obtain ⟨rfl, kk, vv, e1, rfl⟩ := yy
    obtain ⟨n, a, e2, rfl, _⟩ := hL.get e1
    obtain ⟨b1, b2, b3, _⟩ := ok.ok _ (List.mem_of_getElem? e2)
    refine ⟨rfl, ?_⟩
    refine ⟨_, rfl, _, _, rfl, .str n b2, (by simp only [D.size]; dsimp only at b3; omega), (by simp only [D.deep]; omega), fun H3 k3 => ?_⟩
    have e3 : isName (.str n) = true := b1
    rw [e3]
    exact r H3 k3
  refine ⟨k _ _ upd_same, ?_⟩
  have nd : Dl ≠ p := fun z => by rw [z, upd_same] at hD; cases hD
  refine ⟨Dl, (List.range ks.length).map (fun _ => true), rfl, SqL.of (by rw [upd_ne nd, hl2, List.map_map]; rfl), ?_⟩
  have e : ((List.range ks.length).map (fun _ => true)).all id = true := by simp
  rw [e]
  refine ⟨true, rfl, ite_b (fun c => nomatch c) (fun _ => ?_)⟩
  have k1 := lock_back hks k
  generalize upd H' p (.dK ks) = H1 at k1 ⊢
  -- for name in sorted(acts)
  refine ⟨_, rfl, p, ks, l.map (·.1), rfl, .of (k1 _ _ hks), hL.keys, (by rw [List.length_map]; omega), fun ys pl perm srt hpl => ?_⟩
  have k2 : Same H1 (upd H1 pl (.lst (ys.map V.str))) := Same.new hpl
  refine ⟨pl, rfl, ⟨_, SqL.of upd_same⟩, ?_⟩
  refine for_list (xs := ys.map V.str) (fun i σ H' => ∃ o2, σ = [some (.ref x), some (.ref p), o2] ∧ Same (upd H1 pl (.lst (ys.map V.str))) H') ⟨none, rfl, Same.refl _⟩ (fun i σ H' _ h => by obtain ⟨_, _, k⟩ := h; exact SqL.of (k _ _ upd_same)) ?_ ?_
  · rintro i y σ H3 hy ⟨o2, rfl, k3⟩
    obtain ⟨n, hn, rfl⟩ : ∃ n, n ∈ ys ∧ y = .str n := by
      obtain ⟨n, h1, h2⟩ := List.mem_map.mp (List.mem_of_getElem? hy)
      exact ⟨n, h1, h2.symm⟩
    obtain ⟨a, ha⟩ := acts_look (perm.mem_iff.mp hn)
    have k03 := (k1.trans k2).trans k3
    rcases hL.look n with ⟨_, z⟩ | ⟨v, a', hv, ha', act⟩
    · rw [ha] at z; cases z
    · obtain ⟨_, _, _, c1, c2, c3⟩ := ok.ok _ (acts_mem ha')
      refine ⟨_, rfl, _, rfl, p, v, rfl, (by rw [← hv]; exact DGet.k (k := .inr n) (k03 _ _ hks)), v, a', rfl, act.same k03, c1, c2, c3, fun H4 k4 => ⟨true, rfl, ite_b (fun c => nomatch c) (fun _ => ⟨_, rfl, k3.trans k4⟩)⟩⟩
  · rintro σ H3 ⟨o2, rfl, k3⟩
    have k03 := (k1.trans k2).trans k3
    have hks3 := k03 _ _ hks
    have hL3 := hL.same k03
    -- self._arguments
    refine ⟨p, _, hks3, trivial, fun od2 => ⟨_, rfl, p, od2, rfl, .inl ⟨_, upd_same, fun D1 hD1 => ?_⟩⟩⟩
    have nd1 : D1 ≠ p := fun z => by rw [z, upd_same] at hD1; cases hD1
    refine dc_it walk_keys (fun i H' => Same (upd H3 p (.frz od2 (.dK ks))) H' ∧ H' D1 = some (.dK ((kA l).take i))) ⟨Same.new hD1, upd_same⟩ (fun i H' _ h => h.1 _ _ upd_same) ?_ (fun H4 h => ?_)
    · rintro i y H4 H4' hi ⟨k4, hD4⟩ ⟨rfl, kk, vv, e1, rfl⟩
      obtain ⟨n, a, e2, rfl, act⟩ := hL3.get e1
      obtain ⟨v', a', hv, ha', ⟨t, d, rfl, ht, _⟩⟩ : ∃ v' a', valV ks (.inr n) = some v' ∧ l.lookup n = some a' ∧ ActAt H3 v' a' := by
        rcases hL3.look n with ⟨_, z⟩ | ⟨v', a', h1, h2, h3⟩
        · rw [look_get ok.nd e2] at z; cases z
        · exact ⟨v', a', h1, h2, h3⟩
      obtain rfl : a' = a := Option.some.inj (ha'.symm.trans (look_get ok.nd e2))
      have ntp : t ≠ p := fun z => by rw [z, hks3] at ht; cases ht
      have ht4 := k4 _ _ ((upd_ne ntp).trans ht)
      refine ⟨rfl, _, rfl, _, rfl, _, rfl, p, _, rfl, .inl ⟨ks, .inr n, .inr ⟨od2, k4 _ _ upd_same⟩, rfl, hv.symm⟩, t, _, 0, _, rfl, rfl, SqT.of ht4, atI_nat (j := 0) rfl, (kA l).take i, .inr n, rfl, hD4, ?_, Same.upd k4 hD1, ?_⟩
      · rw [List.length_take]
        exact szl (by omega)
      · rw [← kA_step ok.nd e2]
        exact upd_same
    · obtain ⟨k4, hD4⟩ := h
      refine ⟨k4 _ _ upd_same, ?_⟩
      have k34 := lock_back hks3 k4
      have k04 := k03.trans k34
      have hD5 : (upd H4 p (.dK ks)) D1 = some (.dK (kA l)) := by
        rw [upd_ne nd1, hD4, List.take_of_length_le (by unfold kA; rw [List.length_map]; omega)]
      generalize upd H4 p (.dK ks) = H5 at k34 k04 hD5 ⊢
      have hx5 := k04 _ _ hx
      refine ⟨_, rfl, x, _, dx, [], rfl, hx5, T.cl_World, T.na_World__arguments, (by show 0 < 1000; decide), ?_⟩
      have npx : p ≠ x := fun z => by rw [z] at hks; rw [hx] at hks; cases hks
      -- self._brings
      have hks5 := k04 _ _ hks
      have hL5 := hL.same k04
      obtain ⟨H6, hH6⟩ : ∃ H6, H6 = upd H5 x (.ins T.C_World dx (putF "_arguments" (.ref D1) [])) := ⟨_, rfl⟩
      have hx6 : H6 x = some (.ins T.C_World dx (putF "_arguments" (.ref D1) [])) := by rw [hH6]; exact upd_same
      have k56 : ∀ c o, H5 c = some o → c ≠ x → H6 c = some o := fun c o e n => by rw [hH6, upd_ne n]; exact e
      have hks6 := k56 _ _ hks5 npx
      rw [← hH6]
      refine ⟨p, _, hks6, trivial, fun od3 => ⟨_, rfl, p, od3, rfl, .inl ⟨_, upd_same, fun D2 hD2 => ?_⟩⟩⟩
      have nd2 : D2 ≠ p := fun z => by rw [z, upd_same] at hD2; cases hD2
      have ndx : D2 ≠ x := fun z => by
        rw [z, upd_ne npx.symm, hx6] at hD2
        cases hD2
      refine dc_it walk_keys (fun i H' => Same (upd H6 p (.frz od3 (.dK ks))) H' ∧ ∃ ks2, H' D2 = some (.dK ks2) ∧ BringsL (mask D2 (newof H H')) ks2 (l.take i)) ⟨Same.new hD2, [], upd_same, .nil⟩ (fun i H' _ h => h.1 _ _ upd_same) ?_ (fun H8 h => ?_)
      · rintro i y H7 H7' hi ⟨k7, ks2, hD7, br⟩ ⟨rfl, kk, vv, e1, rfl⟩
        obtain ⟨n, a, e2, rfl, act⟩ := hL5.get e1
        obtain ⟨v', a', hv, ha', ⟨t, d, rfl, ht, ho⟩⟩ : ∃ v' a', valV ks (.inr n) = some v' ∧ l.lookup n = some a' ∧ ActAt H5 v' a' := by
          rcases hL5.look n with ⟨_, z⟩ | ⟨v', a', h1, h2, h3⟩
          · rw [look_get ok.nd e2] at z; cases z
          · exact ⟨v', a', h1, h2, h3⟩
        obtain rfl : a' = a := Option.some.inj (ha'.symm.trans (look_get ok.nd e2))
        have ho' : H5 d = some (.dK (kO a'.2)) := ho
        have ntp : t ≠ p := fun z => by rw [z, hks5] at ht; cases ht
        have ntx : t ≠ x := fun z => by rw [z, hx5] at ht; cases ht
        have ndx' : d ≠ x := fun z => by rw [z, hx5] at ho'; cases ho'
        have ndp : d ≠ p := fun z => by
          rw [z, hks5] at ho'
          obtain ⟨_, _, vr, _, _⟩ := act
          have ek : ks = kO a'.2 := by injection ho' with q; injection q
          rw [ek, vr] at e1
          unfold kO at e1
          rw [List.getElem?_map] at e1
          cases z2 : a'.2[i]? with
          | none => rw [z2] at e1; cases e1
          | some q => rw [z2] at e1; cases e1
        have ht7 := k7 _ _ ((upd_ne ntp).trans (k56 _ _ ht ntx))
        have hd7 := k7 _ _ ((upd_ne ndp).trans (k56 _ _ ho' ndx'))
        refine ⟨rfl, _, rfl, _, rfl, _, rfl, p, _, rfl, .inl ⟨ks, .inr n, .inr ⟨od3, k7 _ _ upd_same⟩, rfl, hv.symm⟩, t, _, 1, _, rfl, rfl, SqT.of ht7, atI_nat (j := 1) rfl, d, kO a'.2, rfl, .of hd7, fun nw hnw => ?_⟩
        have nne : D2 ≠ nw := ne_of_none hD7 hnw
        have kn := Same.new (o := .dK (kO a'.2)) hnw
        have dom : ∀ c, H7' c = none → H c = none := fun c e => by
          cases z : H c with
          | none => rfl
          | some o =>
            exfalso
            by_cases cp : c = p
            · rw [cp, k7 _ _ upd_same] at e; cases e
            by_cases cx : c = x
            · rw [cx, k7 _ _ ((upd_ne npx.symm).trans hx6)] at e; cases e
            · rw [k7 _ _ ((upd_ne cp).trans (k56 _ _ (k04 _ _ z) cx))] at e; cases e
        have zD2 : H D2 = none := by
          cases z : H D2 with
          | none => rfl
          | some o =>
            have := k56 _ _ (k04 _ _ z) ndx
            rw [upd_ne nd2, this] at hD2
            cases hD2
        refine ⟨ks2, .inr n, rfl, kn _ _ hD7, ?_, Same.upd (k7.trans kn) hD2, _, upd_same, ?_⟩
        · have := br.len
          rw [List.length_take] at this
          exact szl (by omega)
        · rw [newof_updn zD2, mask_updb]
          refine BringsL.step ok.nd (br.same (mask_same (newof_same kn))) e2 ?_
          show mask D2 _ nw = _
          rw [mask_ne nne.symm]
          exact newof_of (dom nw hnw) upd_same
      · obtain ⟨k8, ks2, hD8, br⟩ := h
        refine ⟨k8 _ _ upd_same, ?_⟩
        have k69 := lock_back hks6 k8
        have hx9 := k69 _ _ hx6
        refine ⟨_, rfl, x, _, dx, _, rfl, hx9, T.cl_World, T.na_World__brings, (by show 1 < 1000; decide), ?_⟩
        have n1x : D1 ≠ x := fun z => by rw [z, hx5] at hD5; cases hD5
        have zD1 : H D1 = none := by
          rw [upd_ne nd1] at hD1
          exact Same.none k03 hD1
        have zD2 : H D2 = none := by
          cases z : H D2 with
          | none => rfl
          | some o =>
            have := k56 _ _ (k04 _ _ z) ndx
            rw [upd_ne nd2, this] at hD2
            cases hD2
        refine q _ (fun c o e n => ?_) ⟨dx, D1, D2, ks2, (if_pos rfl).trans upd_same, newx_of n1x zD1 ?_, newx_of ndx zD2 ?_, ?_⟩
        · rw [upd_ne n]
          exact k69 _ _ (k56 _ _ (k04 _ _ e) n)
        · rw [upd_ne n1x]
          exact k69 _ _ (k56 _ _ hD5 n1x)
        · rw [upd_ne ndx, upd_ne nd2]
          exact hD8
        · rw [List.take_of_length_le (by omega)] at br
          refine br.mono fun d o h => ?_
          have h' : mask D2 (newof H H8) d = some (.dK (kO o)) := h
          obtain ⟨z8, h8⟩ := newof_is (unmask _ _ h')
          have e1 : d ≠ p := fun z => by
            rw [z, k8 _ _ upd_same] at h8
            cases h8
          have e2 : d ≠ x := fun z => by
            have w1 := hx9
            rw [upd_ne npx.symm] at w1
            rw [z, w1] at h8
            cases h8
          refine newx_of e2 z8 ?_
          rw [upd_ne e2, upd_ne e1]
          exact h8
end
end K20
set_option maxRecDepth 100000
set_option maxHeartbeats 2000000
namespace K20
open PySem L2 Fm
section
variable {P : Program} {w : World} {K : PySem.W.Frag} {mg : Str → Option Value} {base : Heap} (T : Txt K mg)
/-- the names of l, sorted: a new list -/
def spActs : Sp := fun vs H Q _ => ∃ (x : Addr) (l : Acts), vs = [.ref x] ∧ WorldAt T.C_World H x l ∧ ActsOk l ∧ ∀ (ys : List Str) (pl : Addr), ys.Perm (l.map (·.1)) → PyProof.Rows.sortedS ys = true → H pl = none → Q (.ref pl) (upd H pl (.lst (ys.map V.str)))
theorem fld_a {d1 d2 : V} : (putF "_brings" d2 (putF "_arguments" d1 [])).lookup ("_arguments" : Str) = some d1 := by
  rw [lookup_putF, if_neg (by decide +kernel), lookup_putF, if_pos rfl]
theorem fld_b {d1 d2 : V} : (putF "_brings" d2 (putF "_arguments" d1 [])).lookup ("_brings" : Str) = some d2 := by
  rw [lookup_putF, if_pos rfl]
theorem ok_World_acts : FnOk P w K mg base CX0 1 T.a_World_acts T.d_World_acts ["self"] (spActs T) := by
  refine T.F_World_acts.ok sc_World_acts ?_ (fun cdv A outer s H vs Q E hr h => ?_)
  · rintro vs H Q E ⟨x, l, rfl, _⟩
    rfl
  obtain ⟨x, l, rfl, ⟨dx, d1, d2, ks, hx, h1, h2, br⟩, ok, q⟩ := h
  have hi := ok.hi
  refine ⟨_, 
    (pss_one (ps_ret (pe_callB (call_sortedD rfl) (by rfl) T.m_sorted (by decide +kernel) (pa_cons (pe_fld (pv 0) rfl) pa_nil)))), ?_⟩
  exact ⟨_, rfl, x, T.C_World, dx, _, _, rfl, hx, T.cl_World, T.na_World__arguments, fld_a, d1, kA l, l.map (·.1), rfl, .of h1, by unfold kA; rw [List.map_map, List.map_map]; rfl, by rw [List.length_map]; omega, fun ys p pm sr hp => q ys p pm sr hp⟩
def spArguments : Sp := fun vs H Q _ => ∃ (x : Addr) (l : Acts) (n : Str) (a : Int × Outs), vs = [.ref x, .str n] ∧ WorldAt T.C_World H x l ∧ l.lookup n = some a ∧ Q (.int a.1) H
theorem kA_look {l : Acts} {n : Str} {a : Int × Outs} (h : l.lookup n = some a) : valV (kA l) (.inr n) = some (.int a.1) := by
  induction l with
  | nil => cases h
  | cons p l ih =>
    obtain ⟨m, b⟩ := p
    rw [List.lookup_cons] at h
    by_cases c : n = m
    · subst c
      simp only [beq_self_eq_true] at h
      cases h
      exact valV_pos rfl
    · have : (n == m) = false := by simpa using c
      rw [this] at h
      show valV ((.inr m, V.int b.1) :: kA l) (.inr n) = _
      rw [valV_neg (fun e => c (Sum.inr.inj e).symm)]
      exact ih h
theorem ok_World_arguments : FnOk P w K mg base CX0 1 T.a_World_arguments T.d_World_arguments ["self", "act"] (spArguments T) := by
  refine T.F_World_arguments.ok sc_World_arguments ?_ (fun cdv A outer s H vs Q E hr h => ?_)
  · rintro vs H Q E ⟨x, l, n, a, rfl, _⟩
    rfl
  obtain ⟨x, l, n, a, rfl, ⟨dx, d1, d2, ks, hx, h1, h2, br⟩, ha, q⟩ := h
  refine ⟨_, 
    (pss_one (ps_ret (pe_dget (hu1 hr) (pe_fld (pv 0) rfl) (pv 1) (fun _ _ => rfl)))), ?_⟩
  exact ⟨_, rfl, x, T.C_World, dx, _, _, rfl, hx, T.cl_World, T.na_World__arguments, fld_a, _, rfl, d1, _, rfl, by rw [← kA_look ha]; exact DGet.k (k := .inr n) h1, q⟩
theorem BringsL.look {H : Hp} {ks : List (Key × V)} {l : Acts} (h : BringsL H ks l) {n : Str} {a : Int × Outs} (e : l.lookup n = some a) : ∃ d, valV ks (.inr n) = some (.ref d) ∧ OutsAt H d a.2 := by
  induction h with
  | nil => cases e
  | @cons m d b ks l ho _ ih =>
    rw [List.lookup_cons] at e
    by_cases c : n = m
    · subst c
      simp only [beq_self_eq_true] at e
      cases e
      exact ⟨d, valV_pos rfl, ho⟩
    · have : (n == m) = false := by simpa using c
      rw [this] at e
      obtain ⟨d', h1, h2⟩ := ih e
      exact ⟨d', by rw [valV_neg (fun e => c (Sum.inr.inj e).symm)]; exact h1, h2⟩
def spOutcomes : Sp := fun vs H Q _ => ∃ (x : Addr) (l : Acts) (n : Str) (a : Int × Outs), vs = [.ref x, .str n] ∧ WorldAt T.C_World H x l ∧ l.lookup n = some a ∧ a.2.length < 64 ∧ ∀ (ys : List Str) (pl : Addr), ys.Perm (a.2.map (·.1)) → PyProof.Rows.sortedS ys = true → H pl = none → Q (.ref pl) (upd H pl (.lst (ys.map V.str)))
theorem ok_World_outcomes : FnOk P w K mg base CX0 1 T.a_World_outcomes T.d_World_outcomes ["self", "act"] (spOutcomes T) := by
  refine T.F_World_outcomes.ok sc_World_outcomes ?_ (fun cdv A outer s H vs Q E hr h => ?_)
  · rintro vs H Q E ⟨x, l, n, a, rfl, _⟩
    rfl
  obtain ⟨x, l, n, a, rfl, ⟨dx, d1, d2, ks, hx, h1, h2, br⟩, ha, hz, q⟩ := h
  refine ⟨_, 
    (pss_one (ps_ret (pe_callB (call_sortedD rfl) (by rfl) T.m_sorted (by decide +kernel) (pa_cons (pe_dget (hu1 hr) (pe_fld (pv 0) rfl) (pv 1) (fun _ _ => rfl)) pa_nil)))), ?_⟩
  obtain ⟨d, hv, ho⟩ := BringsL.look br ha
  exact ⟨_, rfl, x, T.C_World, dx, _, _, rfl, hx, T.cl_World, T.na_World__brings, fld_b, _, rfl, d2, _, rfl, by rw [← hv]; exact DGet.k (k := .inr n) h2, d, kO a.2, a.2.map (·.1), rfl, .of ho, by unfold kO; rw [List.map_map, List.map_map]; rfl, by rw [List.length_map]; omega, fun ys p pm sr hp => q ys p pm sr hp⟩
def spBrings : Sp := fun vs H Q _ => ∃ (x : Addr) (l : Acts) (n m : Str) (a : Int × Outs) (i : Int), vs = [.ref x, .str n, .str m] ∧ WorldAt T.C_World H x l ∧ l.lookup n = some a ∧ a.2.lookup m = some i ∧ Q (.int i) H
theorem kO_look {l : Outs} {n : Str} {a : Int} (h : l.lookup n = some a) : valV (kO l) (.inr n) = some (.int a) := by
  induction l with
  | nil => cases h
  | cons p l ih =>
    obtain ⟨m, b⟩ := p
    rw [List.lookup_cons] at h
    by_cases c : n = m
    · subst c
      simp only [beq_self_eq_true] at h
      cases h
      exact valV_pos rfl
    · have : (n == m) = false := by simpa using c
      rw [this] at h
      show valV ((.inr m, V.int b) :: kO l) (.inr n) = _
      rw [valV_neg (fun e => c (Sum.inr.inj e).symm)]
      exact ih h
theorem ok_World_brings : FnOk P w K mg base CX0 1 T.a_World_brings T.d_World_brings ["self", "act", "outcome"] (spBrings T) := by
  refine T.F_World_brings.ok sc_World_brings ?_ (fun cdv A outer s H vs Q E hr h => ?_)
  · rintro vs H Q E ⟨x, l, n, m, a, i, rfl, _⟩
    rfl
  obtain ⟨x, l, n, m, a, i, rfl, ⟨dx, d1, d2, ks, hx, h1, h2, br⟩, ha, hi, q⟩ := h
  refine ⟨_, 
    (pss_one (ps_ret (pe_dget (hu1 hr) (pe_dget (hu1 hr) (pe_fld (pv 0) rfl) (pv 1) (fun _ _ => rfl)) (pv 2) (fun _ _ => rfl)))), ?_⟩
  obtain ⟨d, hv, ho⟩ := BringsL.look br ha
  exact ⟨_, rfl, x, T.C_World, dx, _, _, rfl, hx, T.cl_World, T.na_World__brings, fld_b, _, rfl, d2, _, rfl, by rw [← hv]; exact DGet.k (k := .inr n) h2, _, rfl, d, _, rfl, by rw [← kO_look hi]; exact DGet.k (k := .inr m) ho, q⟩
end
end K20
set_option maxRecDepth 100000
set_option maxHeartbeats 2000000
namespace K20
open PySem L2 Fm
section
variable {P : Program} {w : World} {K : PySem.W.Frag} {mg : Str → Option Value} {base : Heap} (T : Txt K mg)
/-- what isinstance asks of the class -/
structure WKit : Prop where
  ha : PySem.W.findIn K (.ref T.C_World) "__class__" = some (some (.builtin "object.__class__"))
  hn : PySem.W.specialIn K (.builtin "object.__class__") "__get__" = some (some (.builtin "getset_descriptor.__get__"))
  ht : PySem.W.takesIn K (.builtin "object.__class__") = some true
  hm : PySem.W.mroIn K T.C_World (.type "object") = some true
  hne : PySem.W.findIn K (.ref T.C_World) "__ne__" = some (some (.builtin "object.__ne__"))
  hk : ((PySem.W.clsIn K T.C_World).isSome && PySem.W.typeIn K (.ref T.C_World) == some (.type "type")) = true
/-- two dicts of outcomes, == -/
def eqO (o1 o2 : Outs) : Bool := o1.length == o2.length && o1.all fun p => o2.lookup p.1 == some p.2
def eqArgs (l1 l2 : Acts) : Bool := l1.length == l2.length && l1.all fun p => match l2.lookup p.1 with | some a => p.2.1 == a.1 | none => false
def eqBr (l1 l2 : Acts) : Bool := l1.length == l2.length && l1.all fun p => match l2.lookup p.1 with | some a => eqO p.2.2 a.2 | none => false
def eqW (l1 l2 : Acts) : Bool := eqArgs l1 l2 && eqBr l1 l2
theorem kO_none {l : Outs} {n : Str} (h : l.lookup n = none) : valV (kO l) (.inr n) = none := by
  refine valV_no fun p hp e => ?_
  unfold kO at hp
  obtain ⟨q, hq, rfl⟩ := List.mem_map.mp hp
  have e' : q.1 = n := Sum.inr.inj e
  rw [List.lookup_eq_none_iff] at h
  have := h q hq
  rw [e'] at this
  simp at this
theorem kA_none {l : Acts} {n : Str} (h : l.lookup n = none) : valV (kA l) (.inr n) = none := by
  refine valV_no fun p hp e => ?_
  unfold kA at hp
  obtain ⟨q, hq, rfl⟩ := List.mem_map.mp hp
  have e' : q.1 = n := Sum.inr.inj e
  rw [List.lookup_eq_none_iff] at h
  have := h q hq
  rw [e'] at this
  simp at this
theorem BringsL.none {H : Hp} {ks : List (Key × V)} {l : Acts} (h : BringsL H ks l) {n : Str} (e : l.lookup n = none) : valV ks (.inr n) = none := by
  refine valV_no fun p hp e2 => ?_
  have m : p.1 ∈ ks.map (·.1) := List.mem_map.mpr ⟨p, hp, rfl⟩
  rw [h.keys] at m
  obtain ⟨x, hx, hx2⟩ := List.mem_map.mp m
  obtain ⟨q, hq, rfl⟩ := List.mem_map.mp hx
  rw [← hx2] at e2
  have e' : q.1 = n := Sum.inr.inj e2
  rw [List.lookup_eq_none_iff] at e
  have := e q hq
  rw [e'] at this
  simp at this
theorem flat_int {H : Hp} {n : Nat} (i j : Int) : EqVB K H (n + 1) (.int i) (.int j) (i == j) := .inl ⟨rfl, rfl, rfl⟩
theorem hits_o {H : Hp} {n : Nat} (o2 : Outs) : ∀ o1 : Outs, HitsB (EqVB K H (n + 1)) (kO o2) (kO o1) (o1.all fun p => o2.lookup p.1 == some p.2)
  | [] => .nil
  | p :: o1 => by
    show HitsB _ (kO o2) ((.inr p.1, V.int p.2) :: kO o1) _
    rw [List.all_cons]
    cases e : o2.lookup p.1 with
    | none => exact .miss (kO_none e)
    | some j =>
      have e2 : ((some j == some p.2) : Bool) = (p.2 == j) := by
        rw [Bool.eq_iff_iff, beq_iff_eq, beq_iff_eq]
        exact ⟨fun h => (Option.some.inj h).symm, fun h => congrArg some h.symm⟩
      rw [e2]
      exact .hit (kO_look e) (flat_int p.2 j) (hits_o o2 o1)
theorem hits_a {H : Hp} {n : Nat} (l2 : Acts) : ∀ l1 : Acts, HitsB (EqVB K H (n + 1)) (kA l2) (kA l1) (l1.all fun p => match l2.lookup p.1 with | some a => p.2.1 == a.1 | none => false)
  | [] => .nil
  | p :: l1 => by
    show HitsB _ (kA l2) ((.inr p.1, V.int p.2.1) :: kA l1) _
    rw [List.all_cons]
    cases e : l2.lookup p.1 with
    | none => exact .miss (kA_none e)
    | some a => exact .hit (kA_look e) (flat_int p.2.1 a.1) (hits_a l2 l1)
theorem look_mem {α : Type} {l : List (Str × α)} (nd : Nds l) {p : Str × α} (h : p ∈ l) : l.lookup p.1 = some p.2 := by
  induction l with
  | nil => cases h
  | cons q l ih =>
    obtain ⟨m, b⟩ := q
    obtain ⟨n1, n2⟩ := List.nodup_cons.mp nd
    rw [List.lookup_cons]
    rcases List.mem_cons.mp h with e | e
    · rw [e]
      simp
    · have mem : p.1 ∈ l.map (·.1) := List.mem_map.mpr ⟨_, e, rfl⟩
      have ne : (p.1 == m) = false := by
        rw [beq_eq_false_iff_ne]
        intro z
        rw [z] at mem
        exact n1 mem
      rw [ne]
      exact ih n2 e
theorem kO_inj : ∀ {a b : Outs}, kO a = kO b → a = b
  | [], [], _ => rfl
  | [], _ :: _, h => by cases h
  | _ :: _, [], h => by cases h
  | (n, i) :: a, (m, j) :: b, h => by
    have h' : ((Sum.inr n : Key), V.int i) :: kO a = (Sum.inr m, V.int j) :: kO b := h
    obtain ⟨h1, h2⟩ := List.cons.inj h'
    cases h1
    rw [kO_inj h2]
theorem eqO_self {o : Outs} (nd : Nds o) : eqO o o = true := by
  unfold eqO
  rw [beq_self_eq_true, Bool.true_and, List.all_eq_true]
  intro p hp
  rw [look_mem nd hp]
  exact beq_self_eq_true _
theorem hits_b {H : Hp} {n : Nat} {ks2 : List (Key × V)} {l2 : Acts} (h2 : BringsL H ks2 l2) {ks1 : List (Key × V)} {l1 : Acts} (h1 : BringsL H ks1 l1) (nd : ∀ p ∈ l1, Nds p.2.2) : HitsB (EqVB K H (n + 2)) ks2 ks1 (l1.all fun p => match l2.lookup p.1 with | some a => eqO p.2.2 a.2 | none => false) := by
  induction h1 with
  | nil => exact .nil
  | @cons m d a ks l ho _ ih =>
    rw [List.all_cons]
    cases e : l2.lookup m with
    | none => exact .miss (BringsL.none h2 e)
    | some b =>
      obtain ⟨d2, hv, ho2⟩ := BringsL.look h2 e
      refine .hit hv (.inr (.inr ⟨fun c y1 y2 => ?_, .inr ⟨d, d2, kO a.2, kO b.2, _, rfl, rfl, ho, ho2, fun _ => hits_o b.2 a.2, ?_⟩⟩)) (ih fun p hp => nd p (List.mem_cons_of_mem _ hp))
      · cases y1
        cases y2
        have q1 : H d = some (.dK (kO a.2)) := ho
        have q2 : H d = some (.dK (kO b.2)) := ho2
        rw [q1] at q2
        have q3 : kO a.2 = kO b.2 := by injection q2 with z; injection z
        show eqO a.2 b.2 = true
        rw [← kO_inj q3]
        exact eqO_self (nd _ List.mem_cons_self)
      · unfold eqO kO
        simp only [List.length_map]
def spEqW : Sp := fun vs H Q _ => ∃ (x : Addr) (y : V) (l : Acts), vs = [.ref x, y] ∧ WorldAt T.C_World H x l ∧ (∀ p ∈ l, Nds p.2.2) ∧ ((∃ x2 l2, y = .ref x2 ∧ WorldAt T.C_World H x2 l2 ∧ Q (.bl (eqW l l2)) H) ∨ ∃ t, TyE K H y t ∧ PySem.W.kitOne K t (.ref T.C_World) = some false ∧ Q (.bl false) H)
theorem ok_World_eq (Kw : WKit T) : FnOk P w K mg base CX0 1 T.a_World_eq T.d_World_eq ["self", "other"] (spEqW T) := by
  refine T.F_World_eq.ok sc_World_eq ?_ (fun cdv A outer s H vs Q E hr h => ?_)
  · rintro vs H Q E ⟨x, y, l, rfl, _⟩
    rfl
  obtain ⟨x, y, l, rfl, ⟨dx, d1, d2, ks, hx, h1, h2, br⟩, nd, h⟩ := h
  refine ⟨_, 
    (pss_one (ps_ret (pe_and (pe_callB call_isiE (by rfl) T.m_isinstance (by decide +kernel) (pa_cons (pv 1) (pa_cons (pe_glob (v := .ref T.C_World) (u := .ref T.C_World) (by rfl) T.g_World rfl) pa_nil))) (pe_and (pe_cmpR (op_eqVB hr.units) (pe_fld (pv 0) rfl) (pe_fld (pv 1) rfl) (nomark _)) (pe_one (pe_cmpR (op_eqVB hr.units) (pe_fld (pv 0) rfl) (pe_fld (pv 1) rfl) (nomark _))))))), ?_⟩
  rcases h with ⟨x2, l2, rfl, ⟨dy, e1, e2, ks2, hy, g1, g2, br2⟩, q⟩ | ⟨t, ty, kt, q⟩
  · refine ⟨_, rfl, _, _, _, _, true, rfl, .own _, .base (.base (.ins hy T.cl_World Kw.ha Kw.hn Kw.ht Kw.hm)), (by unfold PySem.W.kitOne; rw [if_pos (beq_self_eq_true _)]), true, rfl, ite_b (fun _ => ?_) (fun c => nomatch c)⟩
    refine ⟨_, rfl, x, T.C_World, dx, _, _, rfl, hx, T.cl_World, T.na_World__arguments, fld_a, _, rfl, x2, T.C_World, dy, _, _, rfl, hy, T.cl_World, T.na_World__arguments, fld_a, 1, eqArgs l l2, by decide, .inr ⟨d1, e1, kA l, kA l2, _, rfl, rfl, h1, g1, fun _ => hits_a l2 l, (by unfold eqArgs kA; simp only [List.length_map])⟩, eqArgs l l2, rfl, ite_b (fun c => ?_) (fun c => ?_)⟩
    · refine ⟨_, rfl, x, T.C_World, dx, _, _, rfl, hx, T.cl_World, T.na_World__brings, fld_b, _, rfl, x2, T.C_World, dy, _, _, rfl, hy, T.cl_World, T.na_World__brings, fld_b, 2, eqBr l l2, by decide, .inr ⟨d2, e2, ks, ks2, _, rfl, rfl, h2, g2, fun _ => hits_b br2 br nd, (by unfold eqBr; rw [br.len, br2.len])⟩, ?_⟩
      unfold eqW at q
      rw [c, Bool.true_and] at q
      exact q
    · unfold eqW at q
      rw [c, Bool.false_and] at q
      exact q
  · exact ⟨_, rfl, _, _, _, _, false, rfl, .own _, ty, kt, false, rfl, ite_b (fun c => nomatch c) (fun _ => q)⟩
end
end K20
set_option maxRecDepth 100000
set_option maxHeartbeats 4000000
namespace K20
open PySem L2 Fm
section
variable {P : Program} {w : World} {K : PySem.W.Frag} {mg : Str → Option Value} {base : Heap} (T : Txt K mg)
theorem ok_law_take : FnOk P w K mg base CX0 1 T.a__law_take T.d__law_take ["_law_bag_here", "_law_many"] spTake := by
  refine T.F__law_take.ok sc__law_take ?_ (fun cdv A outer s H vs Q E hr h => ?_)
  · rintro vs H Q E ⟨b, p, n, rfl, _⟩
    rfl
  obtain ⟨b, p, n, rfl, B0, n0, n1, q⟩ := h
  refine ⟨_, 
    (Evl.pss_cut (ps_if (pt_cmpR op_eq (pe_ix ix_list (pv 0) pe_int (fun _ _ => rfl)) pe_int (nomark _)) (pss_cons (ps_set (i := 2) sc__law_take.nd rfl (Or.inl rfl) pe_int) (Evl.pss_cut (ps_if (pt_cmpR op_lt (pe_ix ix_list (pv 0) pe_int (fun _ _ => rfl)) (pe_callB call_len_seq (by rfl) T.m_len (by decide +kernel) (pa_cons (pe_ix ix_list (pv 0) pe_int (fun _ _ => rfl)) pa_nil)) (nomark _)) (pss_one (ps_set (i := 2) sc__law_take.nd rfl (Or.inl rfl) (pe_ix ix_list (pe_ix ix_list (pv 0) pe_int (fun _ _ => rfl)) (pe_ix ix_list (pv 0) pe_int (fun _ _ => rfl)) (fun _ _ => rfl)))) pss_nil) (pss_cons (ps_augS (pv 0) pe_int pg_list pe_int ip_add set_list) (Evl.pss_cut (ps_if (pt_cmpR op_ge (pv 2) pe_int (nomark _)) (pss_one (ps_asg (pv 2) (pg_sub (pv 0) pe_int set_list))) pss_nil) (pss_cons (ps_set (i := 3) sc__law_take.nd rfl (Or.inl rfl) (pe_op op_add (pe_op op_add (pe_op op_mul (pe_ix ix_list (pv 0) pe_int (fun _ _ => rfl)) pe_int) (pe_op op_mod (pe_callTy call_int1 (by rfl) T.m_int (by decide +kernel) (pa_cons (pv 2) pa_nil)) pe_int)) (pe_op op_mul pe_int (pe_ix ix_list (pv 0) pe_int (fun _ _ => rfl))))) (pss_one (ps_asg (pe_op op_mod (pe_callTy call_int1 (by rfl) T.m_int (by decide +kernel) (pa_cons (pv 3) pa_nil)) pe_int) (pg_sub (pv 0) pe_int set_list)))))))) pss_nil)
    (pss_cons (ps_if (pt_cmpR op_gt (pe_ix ix_list (pv 0) pe_int (fun _ _ => rfl)) pe_int (nomark _)) (pss_cons (ps_set (i := 4) sc__law_take.nd rfl (Or.inl rfl) (pe_op op_mod (pe_callTy call_int1 (by rfl) T.m_int (by decide +kernel) (pa_cons (pe_ix ix_list (pv 0) pe_int (fun _ _ => rfl)) pa_nil)) (pv 1))) (pss_cons (ps_asg (pe_op op_fdiv (pe_ix ix_list (pv 0) pe_int (fun _ _ => rfl)) (pv 1)) (pg_sub (pv 0) pe_int set_list)) (pss_one (ps_ret (pv 4))))) pss_nil)
    (pss_cons (ps_set (i := 5) sc__law_take.nd rfl (Or.inl rfl) (pe_op op_mod (pe_callTy call_int1 (by rfl) T.m_int (by decide +kernel) (pa_cons (pe_op op_mul (pe_op op_add (pe_ix ix_list (pv 0) pe_int (fun _ _ => rfl)) pe_int) pe_int) pa_nil)) pe_int))
    (pss_cons (ps_set (i := 6) sc__law_take.nd rfl (Or.inl rfl) (pe_op op_mod (pe_callTy call_int1 (by rfl) T.m_int (by decide +kernel) (pa_cons (pe_op op_mul (pe_op op_mod (pe_callTy call_int1 (by rfl) T.m_int (by decide +kernel) (pa_cons (pe_op op_mul (pv 5) (pv 5)) pa_nil)) pe_int) pe_int) pa_nil)) pe_int))
    (pss_cons (ps_if (pt_cmpR op_gt (pv 1) pe_int (nomark _)) (pss_one (ps_ret (pe_op op_mod (pe_callTy call_int1 (by rfl) T.m_int (by decide +kernel) (pa_cons (pe_op op_add (pe_op op_mul (pv 6) pe_int) (pv 5)) pa_nil)) (pv 1)))) pss_nil)
    (pss_one (ps_ret (pe_op op_mod (pe_callTy call_int1 (by rfl) T.m_int (by decide +kernel) (pa_cons (pe_op op_fdiv (pv 6) pe_int) pa_nil)) (pv 1))))))))), ?_⟩
  -- the first if: the state behind it
  refine ⟨fun σ H' => ∃ c mx, σ = [some (.ref b), some (.int n), c, mx, none, none, none] ∧ Go b p H H', ?_, ?_⟩
  · obtain ⟨st, m, k, cells, hb, hp, ne, s0, m0, m1, k0, c0⟩ := id B0
    obtain ⟨kn, rfl⟩ := Int.eq_ofNat_of_zero_le k0
    refine ⟨_, rfl, b, _, 0, _, rfl, rfl, SqL.of hb, atI_nat (j := 0) rfl, rfl, _, rfl, ite_b (fun h1 => ?_) (fun h1 => ?_)⟩
    · refine ⟨fun σ H' => ∃ c, σ = [some (.ref b), some (.int n), some (.int c), none, none, none, none] ∧ H' = H ∧ 0 ≤ c, ?_, ?_⟩
      · refine ⟨_, rfl, b, _, 2, _, rfl, rfl, SqL.of hb, atI_nat (j := 2) rfl, _, rfl, b, _, 3, _, rfl, rfl, SqL.of hb, atI_nat (j := 3) rfl, p, cells.map V.int, rfl, .inl (SqL.of hp), _, _, rfl, rfl, _, rfl, ite_b (fun h2 => ?_) (fun h2 => ?_)⟩
        · have lt : kn < cells.length := by
            have := of_decide_eq_true h2
            rw [List.length_map] at this
            omega
          have ga : (cells.map V.int)[kn]? = some (.int cells[kn]) := by
            rw [List.getElem?_map]
            simp [lt]
          refine ⟨_, rfl, b, _, 3, _, rfl, rfl, SqL.of hb, atI_nat (j := 3) rfl, _, rfl, b, _, 2, _, rfl, rfl, SqL.of hb, atI_nat (j := 2) rfl, p, cells.map V.int, kn, _, rfl, rfl, SqL.of hp, atI_nat ga, ?_⟩
          exact ⟨_, rfl, rfl, c0 _ (List.getElem_mem lt)⟩
        · exact ⟨0, rfl, rfl, Int.le_refl _⟩
      · rintro σ H' ⟨c, rfl, rfl, c1⟩
        refine ⟨_, rfl, b, _, 2, _, rfl, rfl, hb, by decide, rfl, _, _, rfl, rfl, b, _, 2, 2, rfl, rfl, hb, rfl, ?_⟩
        refine ⟨fun σ H2 => σ = [some (.ref b), some (.int n), some (.int c), none, none, none, none] ∧ ∃ s1, H2 = upd H' b (.lst [.int s1, .int m, .int ((kn : Int) + 1), .ref p]) ∧ 0 ≤ s1, ?_, ?_⟩
        · refine ⟨_, rfl, _, _, rfl, rfl, _, rfl, ite_b (fun h2 => ?_) (fun h2 => ?_)⟩
          · refine ⟨_, rfl, _, rfl, b, _, 0, 0, rfl, rfl, upd_same, rfl, ?_⟩
            exact ⟨rfl, c, upd_upd, c1⟩
          · exact ⟨rfl, st, rfl, s0⟩
        · rintro σ H2 ⟨rfl, s1, rfl, s2⟩
          have e1 : (upd H' b (.lst [.int s1, .int m, .int ((kn : Int) + 1), .ref p])) b = some (.lst [.int s1, .int m, .int ((kn : Int) + 1), .ref p]) := upd_same
          refine ⟨_, rfl, b, _, 1, _, rfl, rfl, SqL.of e1, atI_nat (j := 1) rfl, _, _, rfl, rfl, .inl ⟨by omega, by omega⟩, _, rfl, .inl ⟨_, rfl, _, _, rfl, rfl, (by show (0 : Int) < _; decide), _, _, rfl, rfl, _, rfl, b, _, 2, _, rfl, rfl, SqL.of e1, atI_nat (j := 2) rfl, _, _, rfl, rfl, .inl ⟨by decide, by decide⟩, _, _, rfl, rfl, ?_⟩⟩
          refine ⟨_, rfl, .inl ⟨_, rfl, _, _, rfl, rfl, (by show (0 : Int) < _; decide), _, rfl, b, _, 1, 1, rfl, rfl, e1, rfl, ?_⟩⟩
          refine ⟨_, _, rfl, ?_, s1, _, (kn : Int) + 1, cells, upd_same, ?_, ne, s2, Int.emod_nonneg _ (by decide), Int.emod_lt_of_pos _ (by decide), by omega, c0⟩
          · rw [upd_upd, mask_updb]
            exact Same.refl _
          · rw [upd_ne ne, upd_ne ne]
            exact hp
    · exact ⟨none, none, rfl, .refl B0⟩
  · rintro σ H' ⟨c, mx, rfl, g⟩
    obtain ⟨st, m, k, cells, hb, hp, ne, s0, m0, m1, k0, c0⟩ := g.B
    refine ⟨_, rfl, b, _, 0, _, rfl, rfl, SqL.of hb, atI_nat (j := 0) rfl, _, _, rfl, rfl, _, rfl, ite_b (fun h1 => ?_) (fun h1 => ?_)⟩
    · refine ⟨_, rfl, b, _, 0, _, rfl, rfl, SqL.of hb, atI_nat (j := 0) rfl, .inl ⟨_, rfl, _, rfl, _, _, rfl, rfl, n0, ?_⟩⟩
      refine ⟨_, rfl, b, _, 0, _, rfl, rfl, SqL.of hb, atI_nat (j := 0) rfl, _, rfl, _, _, rfl, rfl, ⟨n0, by omega⟩, _, rfl, b, _, 0, 0, rfl, rfl, hb, rfl, ?_⟩
      refine ⟨_, rfl, q _ _ (Int.emod_nonneg _ (by omega)) (Int.emod_lt_of_pos _ n0) ⟨?_, st / n, m, k, cells, upd_same, ?_, ne, Int.ediv_nonneg s0 (by omega), m0, m1, k0, c0⟩⟩
      · rw [mask_updb]
        exact g.k
      · rw [upd_ne ne]
        exact hp
    · refine ⟨_, rfl, b, _, 1, _, rfl, rfl, SqL.of hb, atI_nat (j := 1) rfl, _, _, rfl, rfl, _, _, rfl, rfl, .inl ⟨by omega, by omega⟩, .inl ⟨_, rfl, _, _, rfl, rfl, (by show (0 : Int) < _; decide), ?_⟩⟩
      refine ⟨_, rfl, _, rfl, _, _, rfl, rfl, .inl ⟨?_, ?_⟩, .inl ⟨_, rfl, _, _, rfl, rfl, (by show (0 : Int) < _; decide), _, _, rfl, rfl, .inl ⟨?_, ?_⟩, .inl ⟨_, rfl, _, _, rfl, rfl, (by show (0 : Int) < _; decide), ?_⟩⟩⟩
      · have := Int.emod_nonneg ((m + 1) * 39373) (show (1000000007 : Int) ≠ 0 by decide)
        omega
      · have := Int.emod_lt_of_pos ((m + 1) * 39373) (show (0 : Int) < 1000000007 by decide)
        omega
      · have := Int.emod_nonneg ((m + 1) * 39373 % 1000000007 * ((m + 1) * 39373 % 1000000007)) (show (998244353 : Int) ≠ 0 by decide)
        omega
      · have := Int.emod_lt_of_pos ((m + 1) * 39373 % 1000000007 * ((m + 1) * 39373 % 1000000007)) (show (0 : Int) < 998244353 by decide)
        omega
      · refine ⟨_, rfl, _, _, rfl, rfl, _, rfl, ite_b (fun h2 => ?_) (fun h2 => ?_)⟩
        · have := of_decide_eq_true h2
          omega
        · refine ⟨_, rfl, _, _, rfl, rfl, ⟨by decide, by decide⟩, .inl ⟨_, rfl, _, rfl, _, _, rfl, rfl, n0, ?_⟩⟩
          exact q _ _ (Int.emod_nonneg _ (by omega)) (Int.emod_lt_of_pos _ n0) g
end
end K20
namespace K20
open PySem L2 Fm
section
variable {P : Program} {w : World} {K : PySem.W.Frag} {mg : Str → Option Value} {base : Heap} (T : Txt K mg)
theorem ok_law_bag : FnOk P w K mg base CX0 1 T.a__law_bag T.d__law_bag ["_law_script"] (spBag K) := by
  refine T.F__law_bag.ok sc__law_bag ?_ (fun cdv A outer s H vs Q E hr h => ?_)
  · rintro vs H Q E ⟨a, ns, rfl, _⟩
    rfl
  obtain ⟨a, ns, rfl, hs, hl, q⟩ := h
  refine ⟨_, 
    (pss_one (ps_ret (pe_lst (pa_cons pe_int (pa_cons pe_int (pa_cons pe_int (pa_cons (pe_lc (own := [("_law_cell", 1)]) (g := gName 1) (tt := tYes) rfl sc__law_bag.nd (pi_list (pe_slice sl_list (pv 0) po_none (po_some pe_int))) (blkOk_by (N := N__law_bag) (sc := defScope s__law_bag) (by decide +kernel)) (fun _ _ _ _ _ => pg_name (i := 1) sc__law_bag.nd rfl (Or.inl rfl)) (fun _ _ _ _ _ => pts_nil) (fun _ _ _ _ _ => pe_callB call_abs (by rfl) T.m_abs (by decide +kernel) (pa_cons (pv 1) pa_nil))) pa_nil))))))), ?_⟩
  refine ⟨_, rfl, _, rfl, a, _, rfl, hs, fun c hc => ⟨c, rfl, ⟨_, SqL.of upd_same⟩, fun Dl hD => ?_⟩⟩
  obtain ⟨ms, em, lm⟩ : ∃ ms : List Int, cutV (ns.map V.int) none (some 63) = ms.map V.int ∧ ms.length ≤ 63 := by
    unfold cutV
    rw [← List.map_drop, ← List.map_take]
    refine ⟨_, rfl, ?_⟩
    rw [List.length_take, List.length_drop]
    omega
  have k1 : Same H (upd H c (.lst (cutV (ns.map V.int) none (some 63)))) := Same.new hc
  rw [em] at hD k1 ⊢
  refine lc_listF (K := K) (fun v => match v with | .int i => .int (if i < 0 then -i else i) | v => v) (SqL.of upd_same) hD (by rw [List.length_map]; omega) (fun _ => rfl) (fun _ _ _ r => r) ?_ ?_
  · intro x H' R k hx r
    obtain ⟨i, _, rfl⟩ := List.mem_map.mp hx
    exact ⟨_, rfl, i, rfl, r _ (Same.refl _)⟩
  · intro H' k hl2
    refine ⟨(by show 4 ≤ sizeLine; decide), fun b hb => ?_⟩
    have k2 := k1.trans k
    have k3 : Same H' (upd H' b (.lst [.int 0, .int 1234567891, .int 0, .ref Dl])) := Same.new hb
    refine q b Dl _ (Same.free k2 hb) (k2.trans k3) ⟨0, 1234567891, 0, ms.map fun i => if i < 0 then -i else i, upd_same, k3 _ _ ?_, ne_of_none hl2 hb, by decide, by decide, by decide, by decide, ?_⟩
    · rw [hl2]
      simp [List.map_map, Function.comp_def]
    · intro z hz
      obtain ⟨i, _, rfl⟩ := List.mem_map.mp hz
      by_cases hi : i < 0
      · rw [if_pos hi]
        omega
      · rw [if_neg hi]
        omega
end
end K20
namespace K20
open PySem L2 Fm
section
variable {P : Program} {w : World} {K : PySem.W.Frag} {mg : Str → Option Value} {base : Heap} (T : Txt K mg)
def spAlike (K : PySem.W.Frag) : Sp := fun vs H Q _ => ∃ v1 v2 d, vs = [v1, v2] ∧ Dp K H v1 d ∧ Dp K H v2 d ∧ SeqAt.shaped d = true ∧ d.showable = true ∧ d.hasDict = false ∧ d.depth ≤ 60 ∧ d.shown.length ≤ sizeLine ∧ Q (.bl true) H
theorem ok_law_alike : FnG P w K mg base 1 T.a__law_alike T.d__law_alike ["_law_found", "_law_due"] (spAlike K) := by
  refine fnG T.F__law_alike sc__law_alike ?_ (fun cdv A outer s H vs Q gd hr h => ?_)
  · rintro vs H Q E ⟨v1, v2, d, rfl, _⟩
    rfl
  obtain ⟨v1, v2, d, rfl, h1, h2, sh, so, nd, dz, sl, q⟩ := h
  refine ⟨_, 
    (pss_one (ps_ret (pe_and (pe_cmpR (op_eqD hr.units) (pv 0) (pv 1) (nomark _)) (pe_one (pe_cmpR op_eq (pe_callB (call_repr hr gd) (by rfl) T.m_repr (by decide +kernel) (pa_cons (pv 0) pa_nil)) (pe_callB (call_repr hr gd) (by rfl) T.m_repr (by decide +kernel) (pa_cons (pv 1) pa_nil)) (nomark _)))))), ?_⟩
  refine ⟨_, rfl, _, rfl, d, d, h1, h2, sh, sh, _, rfl, ite_b (fun c => ?_) (fun c => ?_)⟩
  · refine ⟨_, rfl, v1, d, rfl, h1, so, nd, dz, sl, _, rfl, v2, d, rfl, h2, so, nd, dz, sl, rfl, ?_⟩
    rw [decide_eq_true rfl]
    exact q
  · rw [SeqAt.eqv_refl d (SeqAt.canLay_of_shaped sh)] at c
    cases c
def ws : List Str := Txt.split (("set ask end nil may must go begin move drop version back call silent same" : Str) ++ (" a b ab ba z" : Str)) " "
theorem ws_len : ws.length = 20 := by decide +kernel
theorem ws_ok : ∀ x ∈ ws, okL x = true ∧ 1 ≤ x.length ∧ x.length ≤ 8 := by decide +kernel
theorem lt_len : letters.length = 26 := by decide +kernel
theorem lt_ok : okL letters = true := by decide +kernel
theorem ok_law_names : FnOk P w K mg base CX0 2 T.a__law_names T.d__law_names ["_law_bag_here", "_law_many"] spNamesK := by
  have G__law_take := ok_law_take (P := P) (w := w) (base := base) T
  refine T.F__law_names.ok sc__law_names ?_ (fun cdv A outer s H vs Q E hr h => ?_)
  · rintro vs H Q E ⟨b, p, n, rfl, _⟩
    rfl
  obtain ⟨b, p, n, rfl, B, n0, n1, q⟩ := h
  refine ⟨_, 
    (pss_cons (ps_set (i := 2) sc__law_names.nd rfl (Or.inr rfl) pe_str)
    (pss_cons (ps_set (i := 3) sc__law_names.nd rfl (Or.inl rfl) pe_str)
    (pss_cons (ps_set (i := 3) sc__law_names.nd rfl (Or.inl rfl) (pe_bm PySem.F.plainAttrs_str PySem.F.slot_str_split PySem.F.type_str_split mt_split (pe_op op_add_str (pv 3) pe_str) (pa_cons pe_str pa_nil)))
    (pss_cons (ps_asg (pe_tup (pa_cons (pe_call G__law_take (hr.mono (by omega)) (by rfl) T.f__law_take T.F__law_take.kp T.b__law_take .nil pass0 (pa_cons (pv 0) (pa_cons pe_int pa_nil))) (pa_cons (pe_call G__law_take (hr.mono (by omega)) (by rfl) T.f__law_take T.F__law_take.kp T.b__law_take .nil pass0 (pa_cons (pv 0) (pa_cons pe_int pa_nil))) pa_nil))) (pg_tup rfl (pgs_cons (pg_name (i := 4) sc__law_names.nd rfl (Or.inl rfl)) (pgs_cons (pg_name (i := 5) sc__law_names.nd rfl (Or.inr rfl)) pgs_nil))))
    (pss_cons (ps_set (i := 6) sc__law_names.nd rfl (Or.inr rfl) (pe_bm PySem.F.plainAttrs_str PySem.F.slot_str_join PySem.F.type_str_join mt_join pe_str (pa_cons (pe_lc (own := [("_law_k", 8)]) (g := gName 8) (tt := tYes) rfl sc__law_names.nd (pi_range1 (by rfl) T.m_range (pa_cons (pe_op op_add pe_int (pe_call G__law_take (hr.mono (by omega)) (by rfl) T.f__law_take T.F__law_take.kp T.b__law_take .nil pass0 (pa_cons (pv 0) (pa_cons pe_int pa_nil)))) pa_nil)) (blkOk_by (N := N__law_names) (sc := defScope s__law_names) (by decide +kernel)) (fun _ _ _ _ _ => pg_name (i := 8) sc__law_names.nd rfl (Or.inl rfl)) (fun _ _ _ _ _ => pts_nil) (fun _ _ _ _ _ => pe_ix ix_str (pv 2) (pe_call G__law_take (hr.mono (by omega)) (by rfl) T.f__law_take T.F__law_take.kp T.b__law_take .nil pass0 (pa_cons (pv 0) (pa_cons pe_int pa_nil))) (fun _ _ => rfl))) pa_nil)))
    (pss_cons (ps_set (i := 7) sc__law_names.nd rfl (Or.inr rfl) (pe_call G__law_take (hr.mono (by omega)) (by rfl) T.f__law_take T.F__law_take.kp T.b__law_take .nil pass0 (pa_cons (pv 0) (pa_cons (pe_op op_add (pe_callB call_len_str (by rfl) T.m_len (by decide +kernel) (pa_cons (pv 6) pa_nil)) pe_int) pa_nil))))
    (pss_cons (ps_if (pt_cmpR op_eq (pv 4) pe_int (nomark _)) (pss_one (ps_ret (pe_slice sl_list (pe_op op_cat (pe_slice sl_list (pv 3) (po_some (pv 5)) po_none) (pe_slice sl_list (pv 3) po_none (po_some (pv 5)))) po_none (po_some (pv 1))))) pss_nil)
    (pss_cons (ps_if (pt_cmpR op_eq (pv 4) pe_int (nomark _)) (pss_one (ps_ret (pe_lc (own := [("_law_k", 8)]) (g := gName 8) (tt := tYes) rfl sc__law_names.nd (pi_range1 (by rfl) T.m_range (pa_cons (pv 1) pa_nil)) (blkOk_by (N := N__law_names) (sc := defScope s__law_names) (by decide +kernel)) (fun _ _ _ _ _ => pg_name (i := 8) sc__law_names.nd rfl (Or.inl rfl)) (fun _ _ _ _ _ => pts_nil) (fun _ _ _ _ _ => pe_ix ix_str (pv 2) (pe_op op_mod (pe_callTy call_int1 (by rfl) T.m_int (by decide +kernel) (pa_cons (pe_op op_add (pv 5) (pe_op op_mul pe_int (pv 8))) pa_nil)) pe_int) (fun _ _ => rfl))))) pss_nil)
    (pss_one (ps_ret (pe_lc (own := [("_law_k", 8)]) (g := gName 8) (tt := tYes) rfl sc__law_names.nd (pi_range1 (by rfl) T.m_range (pa_cons (pv 1) pa_nil)) (blkOk_by (N := N__law_names) (sc := defScope s__law_names) (by decide +kernel)) (fun _ _ _ _ _ => pg_name (i := 8) sc__law_names.nd rfl (Or.inl rfl)) (fun _ _ _ _ _ => pts_nil) (fun _ _ _ _ _ => pe_op op_add_str (pe_op op_add_str (pe_slice sl_str (pv 6) po_none (po_some (pv 7))) (pe_ix ix_str (pv 2) (pe_op op_mod (pe_callTy call_int1 (by rfl) T.m_int (by decide +kernel) (pa_cons (pe_op op_add (pv 5) (pe_op op_mul pe_int (pv 8))) pa_nil)) pe_int) (fun _ _ => rfl))) (pe_slice sl_str (pv 6) (po_some (pv 7)) po_none))))))))))))), ?_⟩
  refine ⟨_, rfl, _, _, rfl, rfl, (by decide +kernel), rfl, _, _, rfl, rfl, (by decide +kernel), (by decide +kernel), fun p1 hp1 => ?_⟩
  have g1 : Go b p H (upd H p1 (.lst (ws.map V.str))) := (Go.refl B).new hp1
  have w1 : newof H (upd H p1 (.lst (ws.map V.str))) p1 = some (.lst (ws.map V.str)) := newof_of hp1 upd_same
  refine ⟨_, rfl, b, p, 4, rfl, g1.B, by decide, by decide, fun way H2 a0 a1 g2 => ?_⟩
  refine ⟨_, rfl, b, p, 20, rfl, g2.B, by decide, by decide, fun turn H3 b0 b1 g3 => ⟨(by show 2 ≤ sizeLine; decide), fun tp htp => ?_⟩⟩
  have g4 : Go b p (upd H p1 (.lst (ws.map V.str))) (upd H3 tp (.tup [.int way, .int turn])) := (g2.trans g3).new htp
  have w4 := newof_go B g4 _ _ w1
  refine ⟨tp, _, rfl, SqT.of upd_same, rfl, _, _, rfl, _, _, rfl, rfl, ?_⟩
  have g5 := g1.trans g4
  clear g4 g3 g2 w1 htp
  generalize upd H3 tp (.tup [.int way, .int turn]) = H4 at g5 w4
  -- the base
  refine ⟨rfl, _, rfl, b, p, 7, rfl, g5.B, by decide, by decide, fun i7 H5 c0 c1 g6 => ⟨_, _, rfl, rfl, _, rfl, by omega, by omega, fun Dl hD => ?_⟩⟩
  refine lc_bag (fun d => ∃ x, d = .str x ∧ okL x = true ∧ x.length ≤ 1) g6.B hD (by omega) (fun _ => rfl) (fun _ _ _ r => r) ?_ ?_
  · intro i H' R hi g r
    refine ⟨_, rfl, _, rfl, b, p, 26, rfl, g.B, by decide, by decide, fun j H2 d0 d1 g7 => ?_⟩
    obtain ⟨c, e1, e2⟩ := sign_atL (x := letters) d0 (by rw [lt_len]; exact d1)
    have e3 := e2 lt_ok
    exact ⟨_, _, c, rfl, rfl, (by decide +kernel), e1, r _ (.str ⟨#[c]⟩) H2 g7 (.str _ (okL_ok e3)) ⟨_, rfl, e3, Nat.le_refl _⟩⟩
  intro H6 acc ds g7 hl hds hg hn
  obtain ⟨ys, rfl, ok, ln⟩ := dvl_strsL hds hg
  have l8 : ys.length ≤ 7 := by omega
  have sl := sum_len fun y hy => (ok y hy).2
  refine ⟨_, Dl, ys, rfl, rfl, .inl (SqL.of hl), ?_, ?_⟩
  · have z : (("" : String) : Str).length = 0 := rfl
    rw [z]
    omega
  have g8 := g5.trans (g6.trans g7)
  have w8 := newof_go B (g6.trans g7) _ _ w4
  obtain ⟨base, hb1, hb2, hb3⟩ : ∃ base, Txt.join "" ys = base ∧ okL base = true ∧ base.length ≤ 7 :=
    ⟨_, rfl, okL_join fun y hy => (ok y hy).1, Nat.le_trans (len_join fun y hy => (ok y hy).2) l8⟩
  rw [hb1]
  refine ⟨_, rfl, _, rfl, base, rfl, sz (by omega), _, _, rfl, rfl, b, p, _, rfl, g8.B, by omega, by omega, fun at_ H7 f0 f1 g9 => ?_⟩
  have gA := g8.trans g9
  have wA := newof_go B g9 _ _ w8
  obtain ⟨np1, wB⟩ := newof_is wA
  refine ⟨_, rfl, rfl, _, rfl, ite_b (fun h1 => ?_) (fun h1 => ?_)⟩
  · obtain ⟨z1, e1, m1, l1⟩ := cut_strs ws (some turn) none
    obtain ⟨z2, e2, m2, l2⟩ := cut_strs ws none (some turn)
    rw [ws_len, sIx_none, sIx_at b0] at l1 l2
    refine ⟨_, rfl, _, rfl, _, rfl, p1, _, rfl, SqL.of wB, fun q1 hq1 => ?_⟩
    have s1 : Same H7 (upd H7 q1 (.lst (cutV (ws.map V.str) (some turn) none))) := Same.new hq1
    refine ⟨_, rfl, _, rfl, _, rfl, p1, _, rfl, SqL.of (s1 _ _ wB), fun q2 hq2 => ?_⟩
    refine ⟨q1, q2, _, _, rfl, rfl, Same.new hq2 _ _ upd_same, upd_same, ?_, fun q3 hq3 => ?_⟩
    · rw [e1, e2, List.length_map, List.length_map]
      exact sz (by omega)
    rw [e1, e2] at *
    have s2 := s1.trans ((Same.new (o := .lst (z2.map V.str)) hq2).trans (Same.new (o := .lst (z1.map V.str ++ z2.map V.str)) hq3))
    rw [← List.map_append] at *
    obtain ⟨z3, e3, m3, l3⟩ := cut_strs (z1 ++ z2) none (some n)
    rw [List.length_append, sIx_none, sIx_at n0] at l3
    refine ⟨_, rfl, _, rfl, q3, _, rfl, SqL.of upd_same, fun q4 hq4 => ?_⟩
    rw [e3]
    refine q q4 _ z3 ((gA.same s2).new hq4) (newof_of ((gA.same s2).free hq4) upd_same) (by omega) fun x hx => ?_
    rcases List.mem_append.mp (m3 x hx) with h | h
    · exact ws_ok x (m1 x h)
    · exact ws_ok x (m2 x h)
  · refine ⟨_, rfl, rfl, _, rfl, ite_b (fun h2 => ?_) (fun h2 => ?_)⟩
    · refine ⟨_, rfl, n, rfl, by omega, by omega, fun Dl hD => ?_⟩
      refine lc_bag (fun d => ∃ x, d = .str x ∧ okL x = true ∧ 1 ≤ x.length ∧ x.length ≤ 8) gA.B hD (by omega) (fun _ => rfl) (fun _ _ _ r => r) ?_ ?_
      · intro i H' R hi g r
        obtain ⟨c, e1, e2⟩ := sign_atL (x := letters) (i := (turn + 3 * (i : Int)) % 26) (Int.emod_nonneg _ (by decide)) (by rw [lt_len]; exact Int.emod_lt_of_pos _ (by decide))
        have e3 := e2 lt_ok
        refine ⟨_, rfl, _, rfl, _, rfl, _, _, rfl, rfl, .inl ⟨by decide, by decide⟩, _, _, rfl, rfl, .inl ⟨_, rfl, _, _, rfl, rfl, (by show (0 : Int) < _; decide), _, _, c, rfl, rfl, (by decide +kernel), e1, ?_⟩⟩
        exact r _ (.str ⟨#[c]⟩) H' (.refl g.B) (.str _ (okL_ok e3)) ⟨_, rfl, e3, by show 1 ≤ 1; decide, by show 1 ≤ 8; decide⟩
      · intro H' acc ds g hl hds hg hn
        obtain ⟨ys, rfl, ok, ln⟩ := dvl_strsK hds hg
        exact q Dl H' ys (gA.trans g) (newof_of (gA.free hD) hl) (by omega) ok
    · refine ⟨_, rfl, n, rfl, by omega, by omega, fun Dl hD => ?_⟩
      refine lc_bag (fun d => ∃ x, d = .str x ∧ okL x = true ∧ 1 ≤ x.length ∧ x.length ≤ 8) gA.B hD (by omega) (fun _ => rfl) (fun _ _ _ r => r) ?_ ?_
      · intro i H' R hi g r
        obtain ⟨c, e1, e2⟩ := sign_atL (x := letters) (i := (turn + 3 * (i : Int)) % 26) (Int.emod_nonneg _ (by decide)) (by rw [lt_len]; exact Int.emod_lt_of_pos _ (by decide))
        have e3 := e2 lt_ok
        have c1 := cut_len_le (x := base) (lo := none) (hi := some at_)
        have c2 := cut_len_le (x := base) (lo := some at_) (hi := none)
        have c4 := cut_two (x := base) f0
        have c3 : (⟨#[c]⟩ : Str).length = 1 := rfl
        have l4 := len_app (cutS base none (some at_)) ⟨#[c]⟩
        have l5 := len_app (cutS base none (some at_) ++ ⟨#[c]⟩) (cutS base (some at_) none)
        refine ⟨_, rfl, _, rfl, _, rfl, base, rfl, sz (by omega), _, rfl, _, rfl, _, rfl, _, _, rfl, rfl, .inl ⟨by decide, by decide⟩, _, _, rfl, rfl, .inl ⟨_, rfl, _, _, rfl, rfl, (by show (0 : Int) < _; decide), _, _, c, rfl, rfl, (by decide +kernel), e1, _, _, rfl, rfl, sz (by omega), ?_⟩⟩
        refine ⟨_, rfl, _, rfl, _, rfl, base, rfl, sz (by omega), _, _, rfl, rfl, sz (by omega), ?_⟩
        have ok := okL_app (okL_app (okL_cut (lo := none) (hi := some at_) hb2) e3) (okL_cut (lo := some at_) (hi := none) hb2)
        exact r _ _ H' (.refl g.B) (.str _ (okL_ok ok)) ⟨_, rfl, ok, by omega, by omega⟩
      · intro H' acc ds g hl hds hg hn
        obtain ⟨ys, rfl, ok, ln⟩ := dvl_strsK hds hg
        exact q Dl H' ys (gA.trans g) (newof_of (gA.free hD) hl) (by omega) ok
end
end K20
set_option maxRecDepth 100000
set_option maxHeartbeats 2000000
namespace K20
open PySem L2 Fm
section
variable {P : Program} {w : World} {K : PySem.W.Frag} {mg : Str → Option Value} {base : Heap} (T : Txt K mg)
/-- a list's items in a drawn order, in a new list -/
def spMixV (K : PySem.W.Frag) : Sp := fun vs H Q _ => ∃ (b p la : Addr) (xs : List V), vs = [.ref b, .ref la] ∧ Bag b p H ∧ la ≠ b ∧ H la = some (.lst xs) ∧ xs.length ≤ 100 ∧
  ∀ (l : Addr) (H' : Hp) (zs : List V), Go b p H H' → newof H H' l = some (.lst zs) → zs.Perm xs → Q (.ref l) H'
theorem ok_law_mixed : FnOk P w K mg base CX0 2 T.a__law_mixed T.d__law_mixed ["_law_bag_here", "_law_things"] (spMixV K) := by
  have G__law_take := ok_law_take (P := P) (w := w) (base := base) T
  refine T.F__law_mixed.ok sc__law_mixed ?_ (fun cdv A outer s H vs Q E hr h => ?_)
  · rintro vs H Q E ⟨b, p, la, xs, rfl, _⟩
    rfl
  obtain ⟨b, p, la, xs, rfl, B, na, hla, hj, q⟩ := h
  refine ⟨_, 
    (pss_cons (ps_set (i := 2) sc__law_mixed.nd rfl (Or.inl rfl) (pe_lst pa_nil))
    (pss_cons (ps_for PassesOwn.never rfl (pi_list (pv 1)) (pg_name (i := 3) sc__law_mixed.nd rfl (Or.inl rfl)) (pss_one (ps_expr (pe_bm PySem.F.plainAttrs_list PySem.F.slot_list_insert PySem.F.type_list_insert mt_insert (pv 2) (pa_cons (pe_call G__law_take (hr.mono (by omega)) (by rfl) T.f__law_take T.F__law_take.kp T.b__law_take .nil pass0 (pa_cons (pv 0) (pa_cons (pe_op op_add (pe_callB call_len_seq (by rfl) T.m_len (by decide +kernel) (pa_cons (pv 2) pa_nil)) pe_int) pa_nil))) (pa_cons (pv 3) pa_nil))))))
    (pss_one (ps_ret (pv 2))))), ?_⟩
  refine ⟨by decide, fun l hl => ?_⟩
  have g0 : Go b p H (upd H l (.lst [])) := (Go.refl B).new hl
  have nl : l ≠ b := B.b_ne hl
  refine ⟨_, rfl, la, rfl, ⟨_, SqL.of (g0.at na hla)⟩, ?_⟩
  refine for_list (xs := xs) (fun i σ H' => ∃ o3 zs, σ = [some (.ref b), some (.ref la), some (.ref l), o3] ∧ Go b p H H' ∧ H' l = some (.lst zs) ∧ zs.Perm (xs.take i))
    ⟨none, [], rfl, g0, upd_same, .nil⟩ (fun i σ H' _ ⟨_, _, _, g, _⟩ => SqL.of (g.at na hla)) ?_ ?_
  · rintro i x σ H1 hx ⟨o3, zs, rfl, g, hl1, hp⟩
    have li : i < xs.length := (List.getElem?_eq_some_iff.mp hx).1
    have hn : zs.length = i := by
      rw [hp.length_eq, List.length_take]
      omega
    refine ⟨_, rfl, .inl ⟨rfl, _, SqL.of hl1⟩, _, rfl, _, rfl, l, _, rfl, .inl (SqL.of hl1), _, _, rfl, rfl, b, p, _, rfl, g.B, by omega, by omega, fun at_ H2 a0 a1 g2 => ?_⟩
    have hl2 := g2.at nl hl1
    refine ⟨_, rfl, l, zs, at_, x, rfl, rfl, hl2, szl (by omega), a0, by omega, ?_⟩
    refine ⟨_, _, rfl, (g.trans g2).mut B hl, upd_same, ?_⟩
    have e : xs.take (i + 1) = xs.take i ++ [x] := by
      rw [List.take_add_one, hx]
      rfl
    rw [e]
    have p1 : (zs.take at_.toNat ++ [x] ++ zs.drop at_.toNat).Perm (zs ++ [x]) := by
      rw [List.append_assoc]
      refine (List.perm_middle).trans ?_
      show (x :: (zs.take at_.toNat ++ zs.drop at_.toNat)).Perm (zs ++ [x])
      rw [List.take_append_drop]
      exact (List.perm_append_singleton x zs).symm
    refine List.Perm.trans ?_ (List.Perm.append_right _ hp)
    first | exact p1 | (rw [← List.append_assoc] at *; exact p1) | trace_state
  · rintro σ H1 ⟨o3, zs, rfl, g, hl1, hp⟩
    rw [List.take_length] at hp
    exact ⟨_, rfl, q l H1 zs g (newof_of hl hl1) hp⟩
end
end K20
set_option maxRecDepth 100000
set_option maxHeartbeats 2000000
namespace K20
open PySem L2 Fm
section
variable {P : Program} {w : World} {K : PySem.W.Frag} {mg : Str → Option Value} {base : Heap} (T : Txt K mg)
/-- drawn acts -/
def spLActs : Sp := fun vs H Q _ => ∃ (b p : Addr) (m : Int), vs = [.ref b, .int m] ∧ Bag b p H ∧ 0 ≤ m ∧ m < 3 ∧
  ∀ (d : Addr) (H' : Hp) (l : Acts), Go b p H H' → ActsAt (newof H H') d l → ActsSm 3 l → 1 ≤ l.length → Q (.ref d) H'
theorem five {i : Int} (h0 : 0 ≤ i) (h1 : i < 5) : ∃ j : Int, atI ([.int 0, .int 1, .int 0, .int 1, .int 2] : List V) i = some (.int j) ∧ 0 ≤ j ∧ j < 3 := by
  obtain ⟨k, rfl⟩ := Int.eq_ofNat_of_zero_le h0
  rcases (by omega : k = 0 ∨ k = 1 ∨ k = 2 ∨ k = 3 ∨ k = 4) with rfl | rfl | rfl | rfl | rfl
  · exact ⟨0, atI_nat (j := 0) rfl, by decide, by decide⟩
  · exact ⟨1, atI_nat (j := 1) rfl, by decide, by decide⟩
  · exact ⟨0, atI_nat (j := 2) rfl, by decide, by decide⟩
  · exact ⟨1, atI_nat (j := 3) rfl, by decide, by decide⟩
  · exact ⟨2, atI_nat (j := 4) rfl, by decide, by decide⟩
theorem cutV_first {xs : List V} {k : Int} (h : 0 ≤ k) : cutV xs none (some (1 + k)) = xs.take (1 + k).toNat := by
  unfold cutV
  rw [sIx_none, sIx_at (by omega), List.drop_zero, Nat.sub_zero]
  rw [List.take_eq_take_iff]
  omega
theorem ok_law_acts : FnOk P w K mg base CX0 3 T.a__law_acts T.d__law_acts ["_law_bag_here", "_law_many"] spLActs := by
  have G__law_take := ok_law_take (P := P) (w := w) (base := base) T
  have G__law_names := ok_law_names (P := P) (w := w) (base := base) T
  have G__law_mixed := ok_law_mixed (P := P) (w := w) (base := base) T
  refine T.F__law_acts.ok sc__law_acts ?_ (fun cdv A outer s H vs Q E hr h => ?_)
  · rintro vs H Q E ⟨b, p, m, rfl, _⟩
    rfl
  obtain ⟨b, p, m, rfl, B, m0, m3, q⟩ := h
  refine ⟨_, 
    (pss_cons (ps_par3 (i := 2) (j := 3) (l := 4) (by rfl) sc__law_acts.nd rfl rfl rfl (by decide) (by decide) (by decide) rfl rfl rfl (pa_cons (pe_call G__law_names (hr.mono (by omega)) (by rfl) T.f__law_names T.F__law_names.kp T.b__law_names .nil pass0 (pa_cons (pv 0) (pa_cons pe_int pa_nil))) (pa_cons (pe_call G__law_names (hr.mono (by omega)) (by rfl) T.f__law_names T.F__law_names.kp T.b__law_names .nil pass0 (pa_cons (pv 0) (pa_cons pe_int pa_nil))) (pa_cons pe_dnewK pa_nil))) (by rfl))
    (pss_cons (ps_for PassesOwn.never rfl (pi_list (pe_slice sl_list (pv 2) po_none (po_some (pe_op op_add pe_int (pe_call G__law_take (hr.mono (by omega)) (by rfl) T.f__law_take T.F__law_take.kp T.b__law_take .nil pass0 (pa_cons (pv 0) (pa_cons pe_int pa_nil))))))) (pg_name (i := 5) sc__law_acts.nd rfl (Or.inl rfl)) (pss_cons (ps_set (i := 6) sc__law_acts.nd rfl (Or.inl rfl) pe_dnewK) (pss_cons (ps_for PassesOwn.never rfl (pi_list (pe_slice sl_list (pe_call G__law_mixed (hr.mono (by omega)) (by rfl) T.f__law_mixed T.F__law_mixed.kp T.b__law_mixed .nil pass0 (pa_cons (pv 0) (pa_cons (pv 3) pa_nil))) po_none (po_some (pe_op op_add pe_int (pe_call G__law_take (hr.mono (by omega)) (by rfl) T.f__law_take T.F__law_take.kp T.b__law_take .nil pass0 (pa_cons (pv 0) (pa_cons pe_int pa_nil))))))) (pg_name (i := 7) sc__law_acts.nd rfl (Or.inl rfl)) (pss_one (ps_dput (hu1 hr) (pv 6) (pv 7) (pe_callB (call_min2 rfl) (by rfl) T.m_min (by decide +kernel) (pa_cons (pv 1) (pa_cons (pe_ix ix_list (pe_lst (pa_cons pe_int (pa_cons pe_int (pa_cons pe_int (pa_cons pe_int (pa_cons pe_int pa_nil)))))) (pe_call G__law_take (hr.mono (by omega)) (by rfl) T.f__law_take T.F__law_take.kp T.b__law_take .nil pass0 (pa_cons (pv 0) (pa_cons pe_int pa_nil))) (fun _ _ => rfl)) pa_nil))) rfl))) (pss_one (ps_dput (hu1 hr) (pv 4) (pv 5) (pe_tup (pa_cons (pe_call G__law_take (hr.mono (by omega)) (by rfl) T.f__law_take T.F__law_take.kp T.b__law_take .nil pass0 (pa_cons (pv 0) (pa_cons pe_int pa_nil))) (pa_cons (pv 6) pa_nil))) rfl)))))
    (pss_one (ps_ret (pv 4))))), ?_⟩
  refine ⟨_, rfl, b, p, 3, rfl, B, by decide, by decide, fun nm H1 xs g1 hnm lx ox => ?_⟩
  refine ⟨_, rfl, b, p, 6, rfl, g1.B, by decide, by decide, fun wd H2 ys g2 hwd ly oy => ?_⟩
  have gA := g1.trans g2
  have nm2 := newof_go B g2 _ _ hnm
  have wd2 : newof H H2 wd = some (.lst (ys.map V.str)) := newof_lift (fun a h => g1.free h) _ _ hwd
  refine fun d4 hd4 => ⟨_, _, _, rfl, ?_⟩
  have z4 := gA.free hd4
  have gB := gA.new (o := .dK []) hd4
  have nB : newof H (upd H2 d4 (.dK [])) = upd (newof H H2) d4 (.dK []) := newof_updn z4
  have hn4 : newof H H2 d4 = none := by unfold newof; rw [z4]; exact hd4
  have kB : Same (newof H H2) (newof H (upd H2 d4 (.dK []))) := by rw [nB]; exact Same.new hn4
  have fd0 : newof H (upd H2 d4 (.dK [])) d4 = some (.dK []) := newof_of z4 upd_same
  have nm3 := kB _ _ nm2
  have wd3 := kB _ _ wd2
  generalize upd H2 d4 (.dK []) = H3 at gB fd0 nm3 wd3 ⊢
  have n_b4 : d4 ≠ b := B.b_ne z4
  have n_wd4 : wd ≠ d4 := fun z => by rw [z, fd0] at wd3; cases wd3
  refine ⟨_, rfl, _, rfl, b, p, 3, rfl, gB.B, by decide, by decide, fun k H4 k0 k1 g4 => ⟨_, _, rfl, rfl, _, rfl, nm, _, rfl, SqL.of (newof_is (newof_go B g4 _ _ nm3)).2, fun q1 hq1 => ?_⟩⟩
  rw [cutV_first k0, ← List.map_take]
  have gC := gB.trans g4
  have z1 := gC.free hq1
  have gD := gC.new (o := .lst ((xs.take (1 + k).toNat).map V.str)) hq1
  have fq0 : newof H (upd H4 q1 (.lst ((xs.take (1 + k).toNat).map V.str))) q1 = some (.lst ((xs.take (1 + k).toNat).map V.str)) := newof_of z1 upd_same
  have kD : Same (newof H H3) (newof H (upd H4 q1 (.lst ((xs.take (1 + k).toNat).map V.str)))) := (newof_go B g4).trans (by rw [newof_updn z1]; exact Same.new (by unfold newof; rw [z1]; exact hq1))
  have wd4 := kD _ _ wd3
  have fd4 := kD _ _ fd0
  have zl : (xs.take (1 + k).toNat).length ≤ 3 ∧ 1 ≤ (xs.take (1 + k).toNat).length := by rw [List.length_take]; omega
  have zok : ∀ x ∈ xs.take (1 + k).toNat, NmOk x := fun x hx => ox x (List.mem_of_mem_take hx)
  generalize xs.take (1 + k).toNat = zs at zl zok gD fq0 kD wd4 fd4 ⊢
  generalize upd H4 q1 (.lst (zs.map V.str)) = H5 at gD fq0 wd4 fd4 ⊢
  have n_q4 : q1 ≠ d4 := fun z => by rw [z, fd4] at fq0; cases fq0
  refine ⟨q1, rfl, ⟨_, SqL.of (newof_is fq0).2⟩, ?_⟩
  refine for_list (xs := zs.map V.str) (fun i σ H' => ∃ o5 o6 o7 ks l, σ = [some (.ref b), some (.int m), some (.ref nm), some (.ref wd), some (.ref d4), o5, o6, o7] ∧ Go b p H H' ∧ newof H H' wd = some (.lst (ys.map V.str)) ∧ newof H H' q1 = some (.lst (zs.map V.str)) ∧ newof H H' d4 = some (.dK ks) ∧
      ActsL (mask d4 (newof H H')) ks l ∧ Nds l ∧ l.length ≤ i ∧ (1 ≤ i → 1 ≤ l.length) ∧ ∀ p ∈ l, NmOk p.1 ∧ 0 ≤ p.2.1 ∧ p.2.1 < 3 ∧ OutsSm p.2.2)
    ⟨none, none, none, [], [], rfl, gD, wd4, fq0, fd4, .nil, List.nodup_nil, Nat.le_refl _, fun h => absurd h (by decide), fun _ h => by cases h⟩ (fun i σ H' _ h => by obtain ⟨_, _, _, _, _, _, _, _, h, _⟩ := h; exact SqL.of (newof_is h).2) ?_ ?_
  · rintro i y σ Ho hy ⟨o5, o6, o7, ks, l, rfl, go, fwd, fq, fd, hL, nd, ln, l1, okl⟩
    obtain ⟨n, hn, rfl⟩ : ∃ n, n ∈ zs ∧ y = .str n := by
      obtain ⟨n, h1, h2⟩ := List.mem_map.mp (List.mem_of_getElem? hy)
      exact ⟨n, h1, h2.symm⟩
    have hi3 : i < 3 := by
      have := (List.getElem?_eq_some_iff.mp hy).1
      rw [List.length_map] at this
      omega
    refine fun d6 hd6 => ?_
    have z6 := go.free hd6
    have nb6 : d6 ≠ b := B.b_ne z6
    obtain ⟨zwd, awd⟩ := newof_is fwd
    obtain ⟨zd, ad⟩ := newof_is fd
    have n64 : d6 ≠ d4 := fun z => by rw [z, ad] at hd6; cases hd6
    have gi0 := (Go.refl go.B).new (o := .dK []) hd6
    have a60 : (upd Ho d6 (.dK [])) d6 = some (.dK []) := upd_same
    generalize upd Ho d6 (.dK []) = H6 at gi0 a60 ⊢
    refine ⟨_, rfl, _, rfl, b, p, wd, ys.map V.str, rfl, gi0.B, B.b_ne zwd, gi0.at (B.b_ne zwd) awd, (by rw [List.length_map]; omega), fun l2 H7 zs2 g7 hz2 pm2 => ?_⟩
    obtain ⟨zl2, al2⟩ := newof_is hz2
    have nl2 : l2 ≠ b := gi0.B.b_ne zl2
    have len2 : zs2.length = 6 := by rw [pm2.length_eq, List.length_map]; omega
    refine ⟨_, rfl, b, p, 3, rfl, g7.B, by decide, by decide, fun k2 H8 j0 j1 g8 => ⟨_, _, rfl, rfl, _, rfl, l2, _, rfl, SqL.of (g8.at nl2 al2), fun q2 hq2 => ?_⟩⟩
    rw [cutV_first j0]
    have cl : (zs2.take (1 + k2).toNat).length ≤ 3 ∧ 1 ≤ (zs2.take (1 + k2).toNat).length := by rw [List.length_take]; omega
    have cm : ∀ y ∈ zs2.take (1 + k2).toNat, ∃ x, y = .str x ∧ NmOk x := fun y hy => by
      obtain ⟨x, h1, h2⟩ := List.mem_map.mp (pm2.mem_iff.mp (List.mem_of_mem_take hy))
      exact ⟨x, h2.symm, oy x h1⟩
    generalize zs2.take (1 + k2).toNat = cz at cl cm ⊢
    have g78 := g7.trans g8
    have gi8 := gi0.trans g78
    have a68 := g78.at nb6 a60
    have nq6 : q2 ≠ d6 := fun z => by rw [z, a68] at hq2; cases hq2
    have nbq : q2 ≠ b := gi8.B.b_ne hq2
    have gi9 := gi8.new (o := .lst cz) hq2
    have a69 : (upd H8 q2 (.lst cz)) d6 = some (.dK []) := (upd_ne nq6.symm).trans a68
    have aq9 : (upd H8 q2 (.lst cz)) q2 = some (.lst cz) := upd_same
    generalize upd H8 q2 (.lst cz) = H9 at gi9 a69 aq9 ⊢
    refine ⟨q2, rfl, ⟨_, SqL.of aq9⟩, ?_⟩
    refine for_list (xs := cz) (fun j σ H' => ∃ o7 o, σ = [some (.ref b), some (.int m), some (.ref nm), some (.ref wd), some (.ref d4), some (.str n), some (.ref d6), o7] ∧ Go b p Ho H' ∧ H' q2 = some (.lst cz) ∧ H' d6 = some (.dK (kO o)) ∧
        Nds o ∧ o.length ≤ j ∧ (1 ≤ j → 1 ≤ o.length) ∧ ∀ p ∈ o, NmOk p.1 ∧ 0 ≤ p.2 ∧ p.2 < 3)
      ⟨_, [], rfl, gi9, aq9, a69, List.nodup_nil, Nat.le_refl _, fun h => absurd h (by decide), fun _ h => by cases h⟩ (fun j σ H' _ h => by obtain ⟨_, _, _, _, h, _⟩ := h; exact SqL.of h) ?_ ?_
    · rintro j y σ H10 hy ⟨o7, o, rfl, gi, aq, a6, ndo, lo, o1, oko⟩
      have hj3 : j < 3 := by
        have := (List.getElem?_eq_some_iff.mp hy).1
        omega
      obtain ⟨x, rfl, hx⟩ := cm y (List.mem_of_getElem? hy)
      refine ⟨_, rfl, (by show 5 ≤ sizeLine; decide), fun lp hlp => ⟨_, rfl, b, p, 5, rfl, (gi.new hlp).B, by decide, by decide, fun k5 H12 v0 v1 g12 => ?_⟩⟩
      have nlb : lp ≠ b := gi.B.b_ne hlp
      have n6p : d6 ≠ lp := fun z => by rw [← z, a6] at hlp; cases hlp
      have nqp : q2 ≠ lp := fun z => by rw [← z, aq] at hlp; cases hlp
      obtain ⟨jv, e5, jv0, jv3⟩ := five v0 v1
      have a62 := g12.at nb6 ((upd_ne n6p).trans a6)
      have aq2 := g12.at nbq ((upd_ne nqp).trans aq)
      have gi2 := (gi.new (o := .lst [.int 0, .int 1, .int 0, .int 1, .int 2]) hlp).trans g12
      refine ⟨lp, _, k5, .int jv, rfl, rfl, SqL.of (g12.at nlb upd_same), e5, m, jv, rfl, ?_⟩
      refine ⟨_, rfl, _, rfl, d6, _, rfl, DPut.k (k := .inr x) a62 (szl (by unfold kO; rw [List.length_map]; omega)), ?_⟩
      have lp2 := len_putS (l := o) (n := x) (a := if jv < m then jv else m)
      refine ⟨_, putS o x (if jv < m then jv else m), rfl, Go.mut go.B gi2 hd6, (upd_ne nq6).trans aq2, ?_, nds_putS ndo, by omega, fun _ => lp2.2, fun p hp => ?_⟩
      · rw [← kO_put]
        exact upd_same
      · rcases mem_putS hp with h | rfl
        · exact oko p h
        · refine ⟨hx, ?_⟩
          show 0 ≤ (if jv < m then jv else m) ∧ (if jv < m then jv else m) < 3
          split <;> omega
    · rintro σ H10 ⟨o7, o, rfl, gi, aq, a6, ndo, lo, o1, oko⟩
      have so : OutsSm o := ⟨ndo, o1 cl.2, by omega, oko⟩
      refine ⟨_, rfl, b, p, 3, rfl, gi.B, by decide, by decide, fun k9 H13 v0 v1 g13 => ⟨_, rfl, (by show 2 ≤ sizeLine; decide), fun tp htp => ?_⟩⟩
      have gi3 := gi.trans g13
      have a63 := g13.at nb6 a6
      have ad3 := gi3.at n_b4 ad
      have zt := (go.trans gi3).free htp
      have nt4 : tp ≠ d4 := fun z => by rw [z, ad3] at htp; cases htp
      have nt6 : d6 ≠ tp := fun z => by rw [← z, a63] at htp; cases htp
      have gi4 := gi3.new (o := .tup [.int k9, .ref d6]) htp
      have ad4 := (upd_ne (o := .tup [.int k9, .ref d6]) nt4.symm).trans ad3
      have a64 := (upd_ne (o := .tup [.int k9, .ref d6]) nt6).trans a63
      have at4 : (upd H13 tp (.tup [.int k9, .ref d6])) tp = some (.tup [.int k9, .ref d6]) := upd_same
      generalize upd H13 tp (.tup [.int k9, .ref d6]) = H14 at gi4 ad4 a64 at4 ⊢
      have kk := newof_go B gi4
      refine ⟨_, rfl, _, rfl, d4, _, rfl, DPut.k (k := .inr n) ad4 (szl (by rw [hL.len]; omega)), ?_⟩
      have lp2 := len_putS (l := l) (n := n) (a := (k9, o))
      refine ⟨_, _, _, putK ks (.inr n) (.ref tp), putS l n (k9, o), rfl, Go.mut B (go.trans gi4) z4, ?_, ?_, ?_, ?_, nds_putS nd, by omega, fun _ => lp2.2, fun p hp => ?_⟩
      · rw [newof_updn z4, upd_ne n_wd4]
        exact kk _ _ fwd
      · rw [newof_updn z4, upd_ne n_q4]
        exact kk _ _ fq
      · rw [newof_updn z4]
        exact upd_same
      · rw [newof_updn z4, mask_updb]
        refine (hL.same (mask_same kk)).put ⟨tp, d6, rfl, ?_, ?_⟩
        · rw [mask_ne nt4]
          exact newof_of zt at4
        · show mask d4 _ d6 = _
          rw [mask_ne n64]
          exact newof_of z6 a64
      · rcases mem_putS hp with h | rfl
        · exact okl p h
        · exact ⟨zok n hn, v0, v1, so⟩
  · rintro σ Ho ⟨o5, o6, o7, ks, l, rfl, go, fwd, fq, fd, hL, nd, ln, l1, okl⟩
    rw [List.length_map] at ln l1
    exact ⟨_, rfl, q d4 Ho l go ⟨ks, fd, hL.same unmask⟩ ⟨nd, by omega, okl⟩ (l1 (by omega))⟩
end
end K20
set_option maxRecDepth 100000
set_option maxHeartbeats 2000000
/-! sorted names: one order -/
namespace Fm
open PySem PySem.Spec PyProof.Rows L2
def leS (a b : Str) : Prop := a.cps.toList ≤ b.cps.toList
theorem leS_of {a b : Str} (h : ltCps b.cps.toList a.cps.toList = false) : leS a b := by
  rw [ltCps_eq] at h
  have h' := of_decide_eq_false h
  unfold leS
  exact List.not_lt.mp h'
theorem rising_pw : ∀ (l : List Str) (p : Str), risingS p l = true → (p :: l).Pairwise leS
  | [], p, _ => List.pairwise_singleton _ _
  | x :: r, p, h => by
    have h' : (!ltCps x.cps.toList p.cps.toList && risingS x r) = true := h
    obtain ⟨h1, h2⟩ := Bool.and_eq_true_iff.mp h'
    have ih := rising_pw r x h2
    have px : leS p x := leS_of (by simpa using h1)
    refine List.pairwise_cons.mpr ⟨fun y hy => ?_, ih⟩
    rcases List.mem_cons.mp hy with rfl | hy
    · exact px
    · exact List.le_trans px (List.rel_of_pairwise_cons ih hy)
theorem sorted_pw {l : List Str} (h : sortedS l = true) : l.Pairwise leS := by
  cases l with
  | nil => exact .nil
  | cons x r => exact rising_pw r x h
theorem sorted_one {l m : List Str} (h1 : sortedS l = true) (h2 : sortedS m = true) (p : l.Perm m) : l = m := by
  refine List.Perm.eq_of_pairwise (le := leS) (fun a b _ _ x y => ?_) (sorted_pw h1) (sorted_pw h2) p
  have e : a.cps.toList = b.cps.toList := List.le_antisymm x y
  cases a
  cases b
  simp only at e
  congr 1
  exact Array.ext' e
/-- a list of names as data -/
def dS (ys : List Str) : D := .lst (ys.map D.str)
theorem dvl_names {H : Hp} : ∀ {ys : List Str}, (∀ y ∈ ys, PyData.strOk y = true) → DvL H (ys.map V.str) (ys.map D.str)
  | [], _ => .nil
  | y :: ys, h => .cons (.str y (h y List.mem_cons_self)) (dvl_names fun z hz => h z (List.mem_cons_of_mem _ hz))
theorem strs_d : ∀ {ys : List Str}, (∀ y ∈ ys, y.length ≤ 20) → noDics (ys.map D.str) = true ∧ sizes (ys.map D.str) ≤ 21 * ys.length ∧ deeps (ys.map D.str) = 0 ∧ intsOf (ys.map D.str) = []
  | [], _ => ⟨rfl, Nat.le_refl _, rfl, rfl⟩
  | y :: ys, h => by
    obtain ⟨h1, h2, h3, h4⟩ := strs_d fun z hz => h z (List.mem_cons_of_mem _ hz)
    have ly := h y List.mem_cons_self
    refine ⟨?_, ?_, ?_, ?_⟩
    · simp only [List.map_cons, noDics, noDic, h1, Bool.and_self]
    · simp only [List.map_cons, sizes, D.size, List.length_cons]; omega
    · simp only [List.map_cons, deeps, D.deep, h3]; rfl
    · simp only [List.map_cons, intsOf, intsIn, h4]; rfl
/-- what _law_alike asks of two equal lists of names -/
theorem names_pd {K : PySem.W.Frag} {H : Hp} {v : V} {ys : List Str} (h : Dv H v (dS ys)) (hy : ∀ y ∈ ys, y.length ≤ 20) (n : ys.length ≤ 20) :
    Dp K H v (pdOf (dS ys)) ∧ SeqAt.shaped (pdOf (dS ys)) = true ∧ (pdOf (dS ys)).showable = true ∧ (pdOf (dS ys)).hasDict = false ∧ (pdOf (dS ys)).depth ≤ 60 ∧ (pdOf (dS ys)).shown.length ≤ sizeLine := by
  obtain ⟨h1, h2, h3, h4⟩ := strs_d hy
  have e : intsIn (dS ys) = [] := h4
  refine pd_ok (B := 13) (bits := 20) (by decide) h (by rw [e]; intro i hi; cases hi) h1 (by simp only [dS, D.deep, h3]; omega) ?_
  rw [e]
  simp only [dS, D.size, List.length_nil]
  omega
/-- .. and of two equal pairs of a number and such a list -/
theorem told_pd {K : PySem.W.Frag} {H : Hp} {v : V} {i : Int} {ys : List Str} (h : Dv H v (.lst [.int i, dS ys])) (i0 : 0 ≤ i) (i1 : i < 1000000) (hy : ∀ y ∈ ys, y.length ≤ 20) (n : ys.length ≤ 20) :
    Dp K H v (pdOf (.lst [.int i, dS ys])) ∧ SeqAt.shaped (pdOf (.lst [.int i, dS ys])) = true ∧ (pdOf (.lst [.int i, dS ys])).showable = true ∧ (pdOf (.lst [.int i, dS ys])).hasDict = false ∧ (pdOf (.lst [.int i, dS ys])).depth ≤ 60 ∧ (pdOf (.lst [.int i, dS ys])).shown.length ≤ sizeLine := by
  obtain ⟨h1, h2, h3, h4⟩ := strs_d hy
  have e : intsIn (.lst [.int i, dS ys]) = [i] := by simp only [intsIn, intsOf, dS, h4]; rfl
  refine pd_ok (B := 13) (bits := 20) (by decide) h (by rw [e]; intro j hj; rw [List.mem_singleton.mp hj]; exact short_small i0 i1) ?_ (by simp only [dS, D.deep, deeps, h3]; omega) ?_
  · simp only [noDic, noDics, dS, h1]; rfl
  · rw [e]
    simp only [dS, D.size, sizes, List.length_singleton]
    omega
end Fm
set_option maxRecDepth 100000
set_option maxHeartbeats 2000000
namespace K20
open PySem L2 Fm
section
variable {P : Program} {w : World} {K : PySem.W.Frag} {mg : Str → Option Value} {base : Heap} (T : Txt K mg)
theorem WorldAt.same {C : Addr} {H H' : Hp} {x : Addr} {l : Acts} (h : WorldAt C H x l) (k : Same H H') : WorldAt C H' x l := by
  obtain ⟨dx, d1, d2, ks, h1, h2, h3, h4⟩ := h
  exact ⟨dx, d1, d2, ks, k _ _ h1, k _ _ h2, k _ _ h3, h4.same k⟩
/-- the same acts, in another order perhaps -/
structure SameA (l la : Acts) : Prop where
  perm : (l.map (·.1)).Perm (la.map (·.1))
  at_ : ∀ n b, la.lookup n = some b → ∃ a, l.lookup n = some a ∧ a.1 = b.1 ∧ (a.2.map (·.1)).Perm (b.2.map (·.1)) ∧ ∀ m i, b.2.lookup m = some i → a.2.lookup m = some i
def spRight : Sp := fun vs H Q _ => ∃ (x pd : Addr) (l la : Acts), vs = [.ref x, .ref pd] ∧ WorldAt T.C_World H x l ∧ ActsOk l ∧ ActsAt H pd la ∧ ActsOk la ∧ SameA l la ∧ ∀ H', Same H H' → Q (.bl true) H'
theorem no_m {d1 d2 : V} {m : Str} (h1 : ¬ m = "_brings") (h2 : ¬ m = "_arguments") : (putF "_brings" d2 (putF "_arguments" d1 [])).lookup m = none := by
  rw [lookup_putF, if_neg h1, lookup_putF, if_neg h2]
  rfl
theorem ok_law_right : FnG P w K mg base 4 T.a__law_right T.d__law_right ["_law_world", "_law_acts_here"] (spRight T) := by
  have G__law_alike := ok_law_alike (P := P) (w := w) (base := base) T
  have G_World_acts := ok_World_acts (P := P) (w := w) (base := base) T
  have G_World_arguments := ok_World_arguments (P := P) (w := w) (base := base) T
  have G_World_outcomes := ok_World_outcomes (P := P) (w := w) (base := base) T
  have G_World_brings := ok_World_brings (P := P) (w := w) (base := base) T
  refine fnG T.F__law_right sc__law_right ?_ (fun cdv A outer s H vs Q gd hr h => ?_)
  · rintro vs H Q E ⟨x, pd, l, la, rfl, _⟩
    rfl
  obtain ⟨x, pd, l, la, rfl, W, okl, hA, oka, S, q⟩ := h
  refine ⟨_, 
    (pss_cons (ps_set (i := 2) sc__law_right.nd rfl (Or.inl rfl) (pe_meth0 (pv 0) T.cl_World T.me_World_acts G_World_acts (hr.mono (by omega)) T.b_World_acts .nil pass0))
    (pss_cons (ps_if (pt_not (pt_val (pe_callG G__law_alike (hr.mono (by omega)) gd (by rfl) T.f__law_alike T.F__law_alike.kp T.b__law_alike (pa_cons (pv 2) (pa_cons (pe_callB (call_sortedD rfl) (by rfl) T.m_sorted (by decide +kernel) (pa_cons (pv 1) pa_nil)) pa_nil))))) (pss_one (ps_ret pe_bl)) pss_nil)
    (pss_cons (ps_expr (pe_bm PySem.F.plainAttrs_list PySem.F.slot_list_append PySem.F.type_list_append mt_append (pv 2) (pa_cons pe_str pa_nil)))
    (pss_cons (ps_for PassesOwn.never rfl (pi_list (pe_callB (call_sortedD rfl) (by rfl) T.m_sorted (by decide +kernel) (pa_cons (pv 1) pa_nil))) (pg_name (i := 3) sc__law_right.nd rfl (Or.inl rfl)) (pss_cons (ps_set (i := 4) sc__law_right.nd rfl (Or.inl rfl) (pe_meth (pv 0) T.cl_World T.me_World_outcomes G_World_outcomes (hr.mono (by omega)) T.b_World_outcomes .nil pass0 (pa_cons (pv 3) pa_nil))) (pss_cons (ps_if (pt_not (pt_val (pe_callG G__law_alike (hr.mono (by omega)) gd (by rfl) T.f__law_alike T.F__law_alike.kp T.b__law_alike (pa_cons (pe_lst (pa_cons (pe_meth (pv 0) T.cl_World T.me_World_arguments G_World_arguments (hr.mono (by omega)) T.b_World_arguments .nil pass0 (pa_cons (pv 3) pa_nil)) (pa_cons (pv 4) pa_nil))) (pa_cons (pe_lst (pa_cons (pe_ix ix_tup (pe_dget (hu1 hr) (pv 1) (pv 3) (fun _ _ => rfl)) pe_int (fun _ _ => rfl)) (pa_cons (pe_callB (call_sortedD rfl) (by rfl) T.m_sorted (by decide +kernel) (pa_cons (pe_ix ix_tup (pe_dget (hu1 hr) (pv 1) (pv 3) (fun _ _ => rfl)) pe_int (fun _ _ => rfl)) pa_nil)) pa_nil))) pa_nil))))) (pss_one (ps_ret pe_bl)) pss_nil) (pss_cons (ps_expr (pe_bm0 PySem.F.plainAttrs_list PySem.F.slot_list_reverse PySem.F.type_list_reverse mt_reverse (pv 4))) (pss_cons (ps_expr (pe_bm PySem.F.plainAttrs_list PySem.F.slot_list_append PySem.F.type_list_append mt_append (pv 4) (pa_cons pe_str pa_nil))) (pss_one (ps_for PassesOwn.never rfl (pi_list (pe_callB (call_sortedD rfl) (by rfl) T.m_sorted (by decide +kernel) (pa_cons (pe_ix ix_tup (pe_dget (hu1 hr) (pv 1) (pv 3) (fun _ _ => rfl)) pe_int (fun _ _ => rfl)) pa_nil))) (pg_name (i := 5) sc__law_right.nd rfl (Or.inl rfl)) (pss_one (ps_if (pt_not (pt_val (pe_callG G__law_alike (hr.mono (by omega)) gd (by rfl) T.f__law_alike T.F__law_alike.kp T.b__law_alike (pa_cons (pe_meth (pv 0) T.cl_World T.me_World_brings G_World_brings (hr.mono (by omega)) T.b_World_brings .nil pass0 (pa_cons (pv 3) (pa_cons (pv 5) pa_nil))) (pa_cons (pe_dget (hu1 hr) (pe_ix ix_tup (pe_dget (hu1 hr) (pv 1) (pv 3) (fun _ _ => rfl)) pe_int (fun _ _ => rfl)) (pv 5) (fun _ _ => rfl)) pa_nil))))) (pss_one (ps_ret pe_bl)) pss_nil)))))))))
    (pss_one (ps_ret pe_bl)))))), ?_⟩
  obtain ⟨dx, d1, d2, ks, hx, h1, h2, br⟩ := id W
  obtain ⟨kz, hp, hL⟩ := id hA
  have lhi := okl.hi
  have ahi := oka.hi
  refine ⟨_, rfl, x, dx, _, rfl, hx, no_m (by decide +kernel) (by decide +kernel), x, l, rfl, W, okl, fun ys pl pm sr hpl => ?_⟩
  have kA := Same.new (o := .lst (ys.map V.str)) hpl
  have npl : pl ≠ pd := fun z => by rw [z, hp] at hpl; cases hpl
  refine ⟨_, rfl, _, rfl, pd, kz, la.map (·.1), rfl, .of (kA _ _ hp), hL.keys, (by rw [List.length_map]; omega), fun ys2 p2 pm2 sr2 hp2 => ?_⟩
  obtain rfl : ys2 = ys := sorted_one sr2 sr ((pm2.trans S.perm.symm).trans pm.symm)
  have kB := Same.new (o := .lst (ys2.map V.str)) hp2
  have yok : ∀ y ∈ ys2, PyData.strOk y = true ∧ y.length ≤ 20 := fun y hy => by
    obtain ⟨p, hp, rfl⟩ := List.mem_map.mp (pm2.mem_iff.mp hy)
    obtain ⟨_, b2, b3, _⟩ := oka.ok p hp
    exact ⟨b2, b3⟩
  have ly : ys2.length ≤ 20 := by rw [pm2.length_eq, List.length_map]; exact ahi
  have D1 : Dv (upd (upd H pl (.lst (ys2.map V.str))) p2 (.lst (ys2.map V.str))) (.ref pl) (dS ys2) := .lst (kB _ _ upd_same) (dvl_names fun y hy => (yok y hy).1)
  have D2 : Dv (upd (upd H pl (.lst (ys2.map V.str))) p2 (.lst (ys2.map V.str))) (.ref p2) (dS ys2) := .lst upd_same (dvl_names fun y hy => (yok y hy).1)
  obtain ⟨e1, e2, e3, e4, e5, e6⟩ := names_pd (K := K) D1 (fun y hy => (yok y hy).2) ly
  obtain ⟨f1, _⟩ := names_pd (K := K) D2 (fun y hy => (yok y hy).2) ly
  refine ⟨_, _, _, rfl, e1, f1, e2, e3, e4, e5, e6, true, rfl, ite_b (fun c => nomatch c) (fun _ => ?_)⟩
  have hpl3 := kB pl (.lst (ys2.map V.str)) upd_same
  have k03 := kA.trans kB
  generalize upd (upd H pl (.lst (ys2.map V.str))) p2 (.lst (ys2.map V.str)) = H3 at hpl3 k03 ⊢
  refine ⟨_, rfl, .inl ⟨rfl, _, SqL.of hpl3⟩, pl, _, _, rfl, rfl, hpl3, szl (by rw [List.length_map]; omega), ?_⟩
  have k04 : Same H (upd H3 pl (.lst (ys2.map V.str ++ [.str "zz"]))) := Same.upd k03 hpl
  generalize upd H3 pl (.lst (ys2.map V.str ++ [.str "zz"])) = H4 at k04 ⊢
  refine ⟨_, rfl, pd, kz, la.map (·.1), rfl, .of (k04 _ _ hp), hL.keys, (by rw [List.length_map]; omega), fun ys p3 pm3 sr3 hp3 => ?_⟩
  have k45 := Same.new (o := .lst (ys.map V.str)) hp3
  refine ⟨p3, rfl, ⟨_, SqL.of upd_same⟩, ?_⟩
  refine for_list (xs := ys.map V.str) (fun i σ H' => ∃ o3 o4 o5, σ = [some (.ref x), some (.ref pd), some (.ref pl), o3, o4, o5] ∧ Same (upd H4 p3 (.lst (ys.map V.str))) H') ⟨none, none, none, rfl, Same.refl _⟩ (fun i σ H' _ h => by obtain ⟨_, _, _, _, h⟩ := h; exact SqL.of (h _ _ upd_same)) ?_ ?_
  · rintro i y σ H5 hy ⟨o3, o4, o5, rfl, k5⟩
    obtain ⟨n, hn, rfl⟩ : ∃ n, n ∈ ys ∧ y = .str n := by
      obtain ⟨n, h1, h2⟩ := List.mem_map.mp (List.mem_of_getElem? hy)
      exact ⟨n, h1, h2.symm⟩
    obtain ⟨bb, hb⟩ := acts_look (pm3.mem_iff.mp hn)
    obtain ⟨aa, ha, eab, pab, mab⟩ := S.at_ n bb hb
    obtain ⟨t, db, hv, ht, ho⟩ : ∃ t db, valV kz (.inr n) = some (.ref t) ∧ H t = some (.tup [.int bb.1, .ref db]) ∧ OutsAt H db bb.2 := by
      rcases hL.look n with ⟨_, z⟩ | ⟨v', a', q1, q2, ⟨t, d, rfl, q3, q4⟩⟩
      · rw [hb] at z; cases z
      · rw [hb] at q2
        cases q2
        exact ⟨t, d, q1, q3, q4⟩
    obtain ⟨_, _, _, c1, c2, oa⟩ := okl.ok _ (acts_mem ha)
    obtain ⟨_, _, _, c3, c4, ob⟩ := oka.ok _ (acts_mem hb)
    have la6 : aa.2.length ≤ 6 := oa.hi
    have lb6 : bb.2.length ≤ 6 := ob.hi
    have c1 : 0 ≤ aa.1 := c1
    have c2 : aa.1 < 3 := c2
    have k05 := (k04.trans k45).trans k5
    refine ⟨_, rfl, x, dx, _, rfl, k05 _ _ hx, no_m (by decide +kernel) (by decide +kernel), _, rfl, x, l, n, aa, rfl, W.same k05, ha, by omega, fun zs lz pmz srz hlz => ?_⟩
    have k56 := Same.new (o := .lst (zs.map V.str)) hlz
    have k06 := k05.trans k56
    have lz6 : (upd H5 lz (.lst (zs.map V.str))) lz = some (.lst (zs.map V.str)) := upd_same
    generalize upd H5 lz (.lst (zs.map V.str)) = H6 at k56 k06 lz6 ⊢
    refine ⟨_, rfl, x, dx, _, rfl, k06 _ _ hx, no_m (by decide +kernel) (by decide +kernel), _, rfl, x, l, n, aa, rfl, W.same k06, ha, _, rfl, (by show 2 ≤ sizeLine; decide), fun q1 hq1 => ?_⟩
    have k67 := Same.new (o := .lst [.int aa.1, .ref lz]) hq1
    have k07 := k06.trans k67
    refine ⟨_, rfl, _, rfl, pd, _, rfl, (by rw [← hv]; exact DGet.k (k := .inr n) (k07 _ _ hp)), t, _, 0, _, rfl, rfl, SqT.of (k07 _ _ ht), atI_nat (j := 0) rfl, ?_⟩
    refine ⟨_, rfl, _, rfl, pd, _, rfl, (by rw [← hv]; exact DGet.k (k := .inr n) (k07 _ _ hp)), t, _, 1, _, rfl, rfl, SqT.of (k07 _ _ ht), atI_nat (j := 1) rfl, db, kO bb.2, bb.2.map (·.1), rfl, .of (k07 _ _ ho), (by unfold kO; rw [List.map_map, List.map_map]; rfl), (by rw [List.length_map]; omega), fun zs2 l3 pmz2 srz2 hl3 => ?_⟩
    obtain rfl : zs2 = zs := sorted_one srz2 srz ((pmz2.trans pab.symm).trans pmz.symm)
    have k78 := Same.new (o := .lst (zs2.map V.str)) hl3
    refine ⟨(by show 2 ≤ sizeLine; decide), fun q2 hq2 => ?_⟩
    have k89 := Same.new (o := .lst [.int bb.1, .ref l3]) hq2
    have k69 := k67.trans (k78.trans k89)
    have zok : ∀ y ∈ zs2, PyData.strOk y = true ∧ y.length ≤ 20 := fun y hy => by
      obtain ⟨p, hp, rfl⟩ := List.mem_map.mp (pmz2.mem_iff.mp hy)
      obtain ⟨_, b2, b3, _⟩ := ob.ok p hp
      exact ⟨b2, b3⟩
    have lzs : zs2.length ≤ 20 := by rw [pmz2.length_eq, List.length_map]; omega
    have aq1 := k89 _ _ (k78 _ _ (upd_same (H := H6) (o := .lst [.int aa.1, .ref lz])))
    have a3 := k89 l3 (.lst (zs2.map V.str)) upd_same
    have aq2 : (upd (upd (upd H6 q1 (.lst [.int aa.1, .ref lz])) l3 (.lst (zs2.map V.str))) q2 (.lst [.int bb.1, .ref l3])) q2 = some (.lst [.int bb.1, .ref l3]) := upd_same
    have k09 := k06.trans k69
    have lz9 := k69 _ _ lz6
    have k59 := k56.trans k69
    generalize upd (upd (upd H6 q1 (.lst [.int aa.1, .ref lz])) l3 (.lst (zs2.map V.str))) q2 (.lst [.int bb.1, .ref l3]) = H9 at aq1 a3 aq2 k09 lz9 k59 ⊢
    have E1 : Dv H9 (.ref q1) (.lst [.int aa.1, dS zs2]) := .lst aq1 (.cons (.int _) (.cons (.lst lz9 (dvl_names fun y hy => (zok y hy).1)) .nil))
    have E2 : Dv H9 (.ref q2) (.lst [.int aa.1, dS zs2]) := by
      rw [← eab] at aq2
      exact .lst aq2 (.cons (.int _) (.cons (.lst a3 (dvl_names fun y hy => (zok y hy).1)) .nil))
    obtain ⟨e1, e2, e3, e4, e5, e6⟩ := told_pd (K := K) E1 c1 (by omega) (fun y hy => (zok y hy).2) lzs
    obtain ⟨f1, _⟩ := told_pd (K := K) E2 c1 (by omega) (fun y hy => (zok y hy).2) lzs
    refine ⟨_, _, _, rfl, e1, f1, e2, e3, e4, e5, e6, true, rfl, ite_b (fun c => nomatch c) (fun _ => ?_)⟩
    -- told.reverse(), told.append('zz')
    refine ⟨_, rfl, .inl ⟨rfl, _, SqL.of lz9⟩, lz, _, rfl, rfl, lz9, ?_⟩
    have k5a : Same H5 (upd H9 lz (.lst (zs2.map V.str).reverse)) := Same.upd k59 hlz
    have lza : (upd H9 lz (.lst (zs2.map V.str).reverse)) lz = some (.lst (zs2.map V.str).reverse) := upd_same
    generalize upd H9 lz (.lst (zs2.map V.str).reverse) = Ha at k5a lza ⊢
    refine ⟨_, rfl, .inl ⟨rfl, _, SqL.of lza⟩, lz, _, _, rfl, rfl, lza, szl (by rw [List.length_reverse, List.length_map]; omega), ?_⟩
    have k5b : Same H5 (upd Ha lz (.lst ((zs2.map V.str).reverse ++ [.str "zz"]))) := Same.upd k5a hlz
    generalize upd Ha lz (.lst ((zs2.map V.str).reverse ++ [.str "zz"])) = Hb at k5b ⊢
    have k0b := k05.trans k5b
    -- each outcome
    refine ⟨_, rfl, _, rfl, pd, _, rfl, (by rw [← hv]; exact DGet.k (k := .inr n) (k0b _ _ hp)), t, _, 1, _, rfl, rfl, SqT.of (k0b _ _ ht), atI_nat (j := 1) rfl, db, kO bb.2, bb.2.map (·.1), rfl, .of (k0b _ _ ho), (by unfold kO; rw [List.map_map, List.map_map]; rfl), (by rw [List.length_map]; omega), fun ws pw pmw srw hpw => ?_⟩
    have kbc := Same.new (o := .lst (ws.map V.str)) hpw
    refine ⟨pw, rfl, ⟨_, SqL.of upd_same⟩, ?_⟩
    refine for_list (xs := ws.map V.str) (fun j σ H' => ∃ o5, σ = [some (.ref x), some (.ref pd), some (.ref pl), some (.str n), some (.ref lz), o5] ∧ Same (upd Hb pw (.lst (ws.map V.str))) H') ⟨_, rfl, Same.refl _⟩ (fun j σ H' _ h => by obtain ⟨_, _, h⟩ := h; exact SqL.of (h _ _ upd_same)) ?_ ?_
    · rintro j y σ Hc hy2 ⟨o5', rfl, kc⟩
      obtain ⟨mm, hm, rfl⟩ : ∃ mm, mm ∈ ws ∧ y = .str mm := by
        obtain ⟨mm, h1, h2⟩ := List.mem_map.mp (List.mem_of_getElem? hy2)
        exact ⟨mm, h1, h2.symm⟩
      obtain ⟨pp, hpp, rfl⟩ := List.mem_map.mp (pmw.mem_iff.mp hm)
      have hi := look_mem ob.nd hpp
      have k0c := (k0b.trans kbc).trans kc
      refine ⟨_, rfl, x, dx, _, rfl, k0c _ _ hx, no_m (by decide +kernel) (by decide +kernel), _, rfl, _, rfl, x, l, n, pp.1, aa, pp.2, rfl, W.same k0c, ha, mab _ _ hi, ?_⟩
      refine ⟨_, rfl, _, rfl, pd, _, rfl, (by rw [← hv]; exact DGet.k (k := .inr n) (k0c _ _ hp)), t, _, 1, _, rfl, rfl, SqT.of (k0c _ _ ht), atI_nat (j := 1) rfl, _, rfl, db, _, rfl, (by rw [← kO_look hi]; exact DGet.k (k := .inr pp.1) (k0c _ _ ho)), ?_⟩
      obtain ⟨_, _, _, i0, i3⟩ := ob.ok pp hpp
      obtain ⟨e1, e2, e3, e4, e5, e6⟩ := pd_ok (K := K) (B := 13) (bits := 20) (by decide) (.int pp.2 : Dv Hc (.int pp.2) (.int pp.2)) (by intro j hj; rw [List.mem_singleton.mp hj]; exact short_small i0 (by omega)) rfl (by show 0 ≤ 58; decide) (by show (13 + 2) * (2 * 1 + 20 * 1) + 13 ≤ 16000000; decide)
      exact ⟨_, _, _, rfl, e1, e1, e2, e3, e4, e5, e6, true, rfl, ite_b (fun c => nomatch c) (fun _ => ⟨_, rfl, kc⟩)⟩
    · rintro σ Hc ⟨o5', rfl, kc⟩
      exact ⟨_, _, _, rfl, k5.trans ((k5b.trans kbc).trans kc)⟩
  · rintro σ H5 ⟨o3, o4, o5, rfl, k5⟩
    exact q _ ((k04.trans k45).trans k5)
end
end K20
set_option maxRecDepth 100000
set_option maxHeartbeats 2000000
namespace Fm
open PySem PySem.Spec PyProof.Rows L2
/-- the first place of a keep at which a term stands -/
noncomputable def kAt (es : List D) (ks : List Nat) (d : D) : Option Nat := ks.find? fun a => open Classical in decide (es[a]? = some d)
def isNon : D → Bool
  | .non => true
  | _ => false
mutual
/-- what is built of a term, or nothing -/
def blt (k : D → Option Nat) : D → D
  | .tup (x :: ps) => match k (.tup (x :: ps)) with
    | some a => .int (a : Int)
    | none => if (blts k ps).any isNon then .non else .tup (x :: blts k ps)
  | d => match k d with
    | some a => .int (a : Int)
    | none => .non
def blts (k : D → Option Nat) : List D → List D
  | [] => []
  | d :: r => blt k d :: blts k r
end
theorem blts_map (k : D → Option Nat) (ds : List D) : blts k ds = ds.map (blt k) := by
  induction ds with
  | nil => rfl
  | cons d r ih => simp only [blts, List.map_cons, ih]
theorem blt_some {k : D → Option Nat} {d : D} {a : Nat} (h : k d = some a) : blt k d = .int (a : Int) := by
  unfold blt
  split
  · rw [h]
  · rw [h]
theorem blt_int {k : D → Option Nat} {u : Int} (h : k (.int u) = none) : blt k (.int u) = .non := by
  unfold blt
  rw [h]
theorem blt_tup {k : D → Option Nat} {x : D} {ps : List D} (h : k (.tup (x :: ps)) = none) : blt k (.tup (x :: ps)) = if (blts k ps).any isNon then .non else .tup (x :: blts k ps) := by
  unfold blt
  rw [h]
theorem kAt_some {es : List D} {ks : List Nat} {d : D} {a : Nat} (h : kAt es ks d = some a) : a ∈ ks ∧ es[a]? = some d := by
  unfold kAt at h
  refine ⟨List.mem_of_find?_eq_some h, ?_⟩
  have := List.find?_some h
  simpa using this
theorem kAt_none {es : List D} {ks : List Nat} {d : D} (h : kAt es ks d = none) : ∀ a ∈ ks, es[a]? ≠ some d := by
  unfold kAt at h
  intro a ha
  have := List.find?_eq_none.mp h a ha
  simpa using this
theorem kAt_snoc (es : List D) (ks : List Nat) (a : Nat) (d : D) : kAt es (ks ++ [a]) d = (kAt es ks d).or (open Classical in if es[a]? = some d then some a else none) := by
  unfold kAt
  rw [List.find?_append]
  congr 1
  by_cases h : es[a]? = some d
  · rw [List.find?_cons_of_pos (by simpa using h), if_pos h]
  · rw [List.find?_cons_of_neg (by simpa using h), if_neg h]
    rfl
theorem D.size_pos (d : D) : 1 ≤ d.size := by
  cases d <;> simp [D.size]
/-- what is built, put together, is the term again; its unknowns are kept places; it is a term -/
structure Bltd (es : List D) (ks : List Nat) (d : D) : Prop where
  tm : Tm (blt (kAt es ks) d)
  put : putD (fun u => es.getD u.toNat (.int 0)) (blt (kAt es ks) d) = d
  at_ : ∀ i ∈ intsIn (blt (kAt es ks) d), ∃ a ∈ ks, i = (a : Int)
  sz : (blt (kAt es ks) d).size ≤ d.size
  dp : (blt (kAt es ks) d).deep ≤ d.deep
  few : (intsIn (blt (kAt es ks) d)).length ≤ d.size
theorem bltd_int {es : List D} {ks : List Nat} {d : D} {a : Nat} (h : kAt es ks d = some a) : Bltd es ks d := by
  obtain ⟨h1, h2⟩ := kAt_some h
  have e := blt_some h
  have p := d.size_pos
  refine ⟨by rw [e]; exact .int _, ?_, ?_, by rw [e]; simp only [D.size]; exact p, by rw [e]; simp [D.deep], by rw [e]; simp only [intsIn, List.length_singleton]; exact p⟩
  · rw [e]
    show es.getD (a : Int).toNat (.int 0) = d
    rw [Int.toNat_natCast, List.getD_eq_getElem?_getD, h2]
    rfl
  · rw [e]
    intro i hi
    simp only [intsIn, List.mem_singleton] at hi
    exact ⟨a, h1, hi⟩
theorem bltds {es : List D} {ks : List Nat} : ∀ {ds : List D}, (∀ d ∈ ds, Bltd es ks d) → puts (fun u => es.getD u.toNat (.int 0)) (blts (kAt es ks) ds) = ds ∧ (∀ i ∈ intsOf (blts (kAt es ks) ds), ∃ a ∈ ks, i = (a : Int)) ∧ sizes (blts (kAt es ks) ds) ≤ sizes ds ∧ deeps (blts (kAt es ks) ds) ≤ deeps ds ∧ (intsOf (blts (kAt es ks) ds)).length ≤ sizes ds
  | [], _ => ⟨rfl, fun i hi => by simp [blts, intsOf] at hi, Nat.le_refl _, Nat.le_refl _, Nat.le_refl _⟩
  | d :: r, h => by
    obtain ⟨a, b, c, e, f⟩ := bltds fun x hx => h x (List.mem_cons_of_mem _ hx)
    have g := h d List.mem_cons_self
    have g1 := g.sz
    have g2 := g.dp
    have g3 := g.few
    refine ⟨?_, ?_, ?_, ?_, ?_⟩
    · simp only [blts, puts, g.put, a]
    · intro i hi
      simp only [blts, intsOf, List.mem_append] at hi
      rcases hi with hi | hi
      · exact g.at_ i hi
      · exact b i hi
    · simp only [blts, sizes]; omega
    · simp only [blts, deeps]; omega
    · simp only [blts, intsOf, sizes, List.length_append]; omega
theorem bltd {es : List D} {ks : List Nat} {d : D} (t : Tm d) : blt (kAt es ks) d = .non ∨ Bltd es ks d := by
  induction t with
  | int u =>
    cases h : kAt es ks (.int u) with
    | none => exact .inl (blt_int h)
    | some a => exact .inr (bltd_int h)
  | tup x ds _ ih =>
    cases h : kAt es ks (.tup (.str x :: ds)) with
    | some a => exact .inr (bltd_int h)
    | none =>
      have e := blt_tup h
      by_cases n : (blts (kAt es ks) ds).any isNon = true
      · exact .inl (by rw [e, if_pos n])
      · rw [if_neg n] at e
        have all : ∀ d ∈ ds, Bltd es ks d := fun d hd => by
          rcases ih d hd with z | z
          · refine absurd ?_ n
            rw [List.any_eq_true]
            refine ⟨.non, ?_, rfl⟩
            rw [blts_map]
            exact List.mem_map.mpr ⟨d, hd, z⟩
          · exact z
        obtain ⟨p1, p2, p3, p4, p5⟩ := bltds all
        refine .inr ⟨?_, ?_, ?_, ?_, ?_, ?_⟩
        · rw [e]
          refine .tup x _ fun c hc => ?_
          rw [blts_map] at hc
          obtain ⟨d, hd, rfl⟩ := List.mem_map.mp hc
          exact (all d hd).tm
        · rw [e]
          show D.tup (.str x :: puts _ _) = _
          rw [p1]
        · rw [e]
          intro i hi
          simp only [intsIn, intsOf, List.nil_append] at hi
          exact p2 i hi
        · rw [e]; simp only [D.size, sizes]; omega
        · rw [e]; simp only [D.deep, deeps]; omega
        · rw [e]; simp only [intsIn, intsOf, List.nil_append, D.size, sizes]; omega
/-- built -/
def spBuilt (K : PySem.W.Frag) : Sp := fun vs H Q _ => ∃ (v : V) (va ka : Addr) (ws : List V) (d : D) (es : List D) (ks : List Nat), vs = [v, .ref va, .ref ka] ∧ (SqL K H va ws ∨ SqT K H va ws) ∧ DvL H ws es ∧ Dv H v d ∧ Tm d ∧ (∀ e ∈ es, Tm e) ∧
  H ka = some (.lst (ks.map vI)) ∧ (∀ a ∈ ks, a < es.length) ∧ ks.length ≤ 100 ∧ d.size ≤ 10000 ∧ (∀ e ∈ es, e.size ≤ 450) ∧ ∀ (v' : V) (H' : Hp), Same H H' → Dv H' v' (blt (kAt es ks) d) → Q v' H'
/-- _law_built -/
def spLBuilt (K : PySem.W.Frag) (m : Nat) : Sp := fun vs H Q _ => ∃ (Hb : Hp) (v : V) (va ka : Addr) (ws : List V) (d : D) (es : List D) (ks : List Nat), vs = [v, .ref va, .ref ka] ∧ Same Hb H ∧ Hb va = some (.lst ws) ∧ DvL Hb ws es ∧ Dv Hb v d ∧ Tm d ∧ (∀ e ∈ es, Tm e) ∧
  Hb ka = some (.lst (ks.map vI)) ∧ (∀ a ∈ ks, a < es.length) ∧ ks.length ≤ 100 ∧ d.deep < m ∧ d.deep ≤ 30 ∧ d.size ≤ 10000 ∧ (∀ e ∈ es, e.size ≤ 10000 ∧ e.deep ≤ 30) ∧ ∀ (v' : V) (H' : Hp), Same H H' → Dv (ovl Hb (newof H H')) v' (blt (kAt es ks) d) → Q v' H'
end Fm
set_option maxRecDepth 100000
set_option maxHeartbeats 2000000
namespace Fm
open PySem PySem.Spec PyProof.Rows L2
theorem eqvs_tm : ∀ {as bs : List D}, (∀ a ∈ as, ∀ b, Tm b → (PyData.eqv (pdOf a) (pdOf b) = true ↔ a = b)) → (∀ b ∈ bs, Tm b) → (PyData.eqvAll (pdsOf as) (pdsOf bs) = true ↔ as = bs)
  | [], [], _, _ => by simp [pdsOf, PyData.eqvAll]
  | [], b :: r, _, _ => by simp [pdsOf, PyData.eqvAll]
  | a :: r, [], _, _ => by simp [pdsOf, PyData.eqvAll]
  | a :: r, b :: s, ha, hb => by
    simp only [pdsOf, PyData.eqvAll, Bool.and_eq_true]
    rw [ha a List.mem_cons_self b (hb b List.mem_cons_self), eqvs_tm (fun x hx => ha x (List.mem_cons_of_mem _ hx)) (fun x hx => hb x (List.mem_cons_of_mem _ hx))]
    simp
theorem eqv_tm {a : D} (t : Tm a) : ∀ b, Tm b → (PyData.eqv (pdOf a) (pdOf b) = true ↔ a = b) := by
  induction t with
  | int i =>
    intro b hb
    cases hb with
    | int j => simp [pdOf, PyData.eqv]
    | tup x ds _ => simp [pdOf, PyData.eqv]
  | tup x ds _ ih =>
    intro b hb
    cases hb with
    | int j => simp [pdOf, PyData.eqv]
    | tup y es he =>
      have e1 : pdOf (.tup (.str x :: ds)) = .tuple (.str x :: pdsOf ds) := rfl
      have e2 : pdOf (.tup (.str y :: es)) = .tuple (.str y :: pdsOf es) := rfl
      rw [e1, e2]
      simp only [PyData.eqv, PyData.eqvAll, Bool.and_eq_true, beq_iff_eq]
      rw [eqvs_tm ih he]
      simp
theorem tm_data {K : PySem.W.Frag} {H : Hp} {v : V} {d : D} (h : Dv H v d) (n : noDic d = true) (dz : d.deep ≤ 58) : Dp K H v (pdOf d) ∧ SeqAt.shaped (pdOf d) = true := by
  obtain ⟨a, b⟩ := dp_pd (K := K) d v h n
  refine ⟨a, ?_⟩
  unfold SeqAt.shaped
  rw [b]
  have := pd_depth d
  simp only [Bool.true_and, decide_eq_true_eq]
  omega
theorem any_non : ∀ {ds : List D}, (∀ d ∈ ds, d = .non ∨ Tm d) → ((pdsOf ds).any fun e => PyData.eqv e .none) = ds.any isNon
  | [], _ => rfl
  | d :: r, h => by
    have e : (pdsOf (d :: r)) = pdOf d :: pdsOf r := rfl
    rw [e, List.any_cons, List.any_cons, any_non fun x hx => h x (List.mem_cons_of_mem _ hx)]
    congr 1
    rcases h d List.mem_cons_self with rfl | t
    · rfl
    · cases t <;> rfl
theorem blt_or {es : List D} {ks : List Nat} {d : D} (t : Tm d) : blt (kAt es ks) d = .non ∨ Tm (blt (kAt es ks) d) := by
  rcases bltd (es := es) (ks := ks) t with h | h
  · exact .inl h
  · exact .inr h.tm
theorem blt_dp {es : List D} {ks : List Nat} {d : D} (t : Tm d) : (blt (kAt es ks) d).deep ≤ d.deep := by
  rcases bltd (es := es) (ks := ks) t with h | h
  · rw [h]; simp [D.deep]
  · exact h.dp
theorem blts_dp {es : List D} {ks : List Nat} {ds : List D} (t : ∀ d ∈ ds, Tm d) : deeps (blts (kAt es ks) ds) ≤ deeps ds := by
  induction ds with
  | nil => exact Nat.le_refl _
  | cons d r ih =>
    have h1 := blt_dp (es := es) (ks := ks) (t d List.mem_cons_self)
    have h2 := ih fun x hx => t x (List.mem_cons_of_mem _ hx)
    simp only [blts, deeps]
    omega
theorem noDic_or {d : D} (h : d = .non ∨ Tm d) : noDic d = true := by
  rcases h with rfl | t
  · rfl
  · exact t.noDic
/-- a list of built things as data -/
theorem blts_data {K : PySem.W.Frag} {H : Hp} {l : Addr} {zs : List V} {es : List D} {ks : List Nat} {ds : List D} (hl : H l = some (.lst zs)) (hz : DvL H zs (blts (kAt es ks) ds)) (t : ∀ d ∈ ds, Tm d) (dz : deeps ds ≤ 55) :
    Dp K H (.ref l) (.list (pdsOf (blts (kAt es ks) ds))) ∧ PyData.canLayAll0 (pdsOf (blts (kAt es ks) ds)) = true := by
  have n : noDics (blts (kAt es ks) ds) = true := noDics_of fun e he => by
    rw [blts_map] at he
    obtain ⟨d, hd, rfl⟩ := List.mem_map.mp he
    exact noDic_or (blt_or (t d hd))
  have nd : noDic (.lst (blts (kAt es ks) ds)) = true := by simp [noDic, n]
  obtain ⟨a, b⟩ := dp_pd (K := K) (.lst (blts (kAt es ks) ds)) (.ref l) (.lst hl hz) nd
  exact ⟨a, (dps_pd (K := K) _ _ hz n).2⟩
theorem blts_any {es : List D} {ks : List Nat} {ds : List D} (t : ∀ d ∈ ds, Tm d) : ((pdsOf (blts (kAt es ks) ds)).any fun e => PyData.eqv e .none) = (blts (kAt es ks) ds).any isNon :=
  any_non fun e he => by
    rw [blts_map] at he
    obtain ⟨d, hd, rfl⟩ := List.mem_map.mp he
    exact blt_or (t d hd)
theorem dv_non {H : Hp} {v : V} {d : D} (h : Dv H v d) : decide (v = .non) = isNon d := by
  cases h <;> simp [isNon]
theorem dvl_non {H : Hp} : ∀ {vs : List V} {ds : List D}, DvL H vs ds → (vs.map fun x => !decide (x = .non)).all id = !ds.any isNon
  | _, _, .nil => rfl
  | _, _, .cons a b => by
    rw [List.map_cons, List.all_cons, List.any_cons, dvl_non b, dv_non a]
    simp
theorem made_partsG {H : Hp} {ts : List D} {i : Nat} {g : D → D} {mv : List V} (hm : DvL H mv ((ts.take i).map g)) {js : List Nat} {ds : List D} (h : Ats (ts.take i) js ds) :
    DvL H ((js.map fun j : Nat => D.int (j : Int)).map (atV mv)) (ds.map g) := by
  induction h with
  | nil => exact .nil
  | @cons j d js ds a _ ih =>
    have e : ((ts.take i).map g)[j]? = some (g d) := by rw [List.getElem?_map, a]; rfl
    obtain ⟨v, e1, e2⟩ := hm.getD e
    have lt := (List.getElem?_eq_some_iff.mp e1).1
    have e3 := atV_get lt
    rw [e1] at e3
    injection e3 with e3
    refine .cons ?_ ih
    show Dv H (atV mv (.int (j : Int))) (g d)
    rw [← e3]
    exact e2
end Fm
namespace Fm
open PySem PySem.Spec PyProof.Rows L2
def spMixed : Sp := fun vs H Q _ => ∃ (b p la : Addr) (js : List Nat), vs = [.ref b, .ref la] ∧ Bag b p H ∧ la ≠ b ∧ H la = some (.lst (js.map vI)) ∧ js.length ≤ 100 ∧
  ∀ (l : Addr) (H' : Hp) (zs : List Nat), Go b p H H' → newof H H' l = some (.lst (zs.map vI)) → (∀ z ∈ zs, z ∈ js) → zs.length = js.length → Q (.ref l) H'
def spLParts (K : PySem.W.Frag) (m : Nat) : Sp := fun vs H Q _ => ∃ (Hb : Hp) (v : V) (d : D), vs = [v] ∧ Same Hb H ∧ Dv Hb v d ∧ Tm d ∧ d.deep < m ∧ d.size ≤ 10000 ∧
  ∀ (l : Addr) (H' : Hp) (us : List V), Same H H' → H l = none → H' l = some (.lst us) → DvL Hb us (flat d) → Q (.ref l) H'
/-- a term or value of the law -/
structure Drawn (d : D) : Prop where
  tm : TmL d
  dp : d.deep ≤ 3
  sz : d.size ≤ 450
def spLValues : Sp := fun vs H Q _ => ∃ (b p nm la : Addr) (xs : List Str) (us : List V) (ds : List D), vs = [.ref b, .ref nm, .ref la] ∧ Bag b p H ∧ NamesL nm b H xs ∧ la ≠ b ∧ H la = some (.lst us) ∧ DvL (mask b H) us ds ∧ (∀ d ∈ ds, Drawn d) ∧ 1 ≤ ds.length ∧ ds.length ≤ 3 ∧
  ∀ (l : Addr) (H' : Hp) (ws : List V) (es : List D), Go b p H H' → l ≠ b → H' l = some (.lst ws) → DvL (mask b H') ws es → (∀ e ∈ es, Drawn e) → es.length ≤ 6 → Q (.ref l) H'
theorem tmL_parts : ∀ {ds : List D} {e : D}, (∀ d ∈ ds, TmL d → ∀ x ∈ flat d, TmL x) → (∀ d ∈ ds, TmL d) → e ∈ flats ds → TmL e
  | [], e, _, _, h => by simp [flats] at h
  | d :: r, e, ih, ht, h => by
    simp only [flats, List.mem_append] at h
    rcases h with h | h
    · exact ih d List.mem_cons_self (ht d List.mem_cons_self) e h
    · exact tmL_parts (fun x hx => ih x (List.mem_cons_of_mem _ hx)) (fun x hx => ht x (List.mem_cons_of_mem _ hx)) h
theorem tmL_flat {d e : D} (t : TmL d) (h : e ∈ flat d) : TmL e := by
  induction t generalizing e with
  | int i hi =>
    simp only [flat, List.mem_singleton] at h
    rw [h]
    exact .int i hi
  | tup x ds lx ht ih =>
    have e2 : flat (.tup (.str x :: ds)) = .tup (.str x :: ds) :: flats ds := by simp [flat, flatT]
    rw [e2] at h
    rcases List.mem_cons.mp h with rfl | h
    · exact .tup x ds lx ht
    · exact tmL_parts (fun d hd _ x hx => ih d hd hx) ht h
theorem size_flats : ∀ (n : Nat) {ds : List D} {e : D}, sizes ds ≤ n → e ∈ flats ds → e.size ≤ sizes ds ∧ e.deep ≤ deeps ds
  | _, [], _, _, h => by simp [flats] at h
  | 0, d :: r, _, hn, _ => by
    have := d.size_pos
    simp only [sizes] at hn
    omega
  | n + 1, d :: r, e, hn, h => by
    simp only [flats, List.mem_append] at h
    have hp := d.size_pos
    simp only [sizes] at hn
    rcases h with h | h
    · rw [flat_eq] at h
      rcases List.mem_cons.mp h with rfl | h
      · simp only [sizes, deeps]; omega
      · have hs : sizes (parts d) + 1 ≤ d.size ∧ deeps (parts d) ≤ d.deep := by
          cases d with
          | tup ds =>
            cases ds with
            | nil => simp [parts, sizes, deeps, D.size, D.deep]
            | cons x r => simp only [parts, D.size, sizes, D.deep, deeps]; have := x.size_pos; omega
          | _ => simp [parts, sizes, deeps, D.size, D.deep]
        have := size_flats n (ds := parts d) (by omega) h
        simp only [sizes, deeps]
        omega
    · have := size_flats n (ds := r) (by omega) h
      simp only [sizes, deeps]
      omega
theorem size_flat {d e : D} (h : e ∈ flat d) : e.size ≤ d.size := by
  have := (size_flats _ (ds := [d]) (e := e) (Nat.le_refl _) (by simpa [flats] using h)).1
  simpa [sizes] using this
theorem deep_flat {d e : D} (h : e ∈ flat d) : e.deep ≤ d.deep := by
  have := (size_flats _ (ds := [d]) (e := e) (Nat.le_refl _) (by simpa [flats] using h)).2
  simpa [deeps] using this
end Fm
set_option maxRecDepth 100000
set_option maxHeartbeats 2000000
namespace Fm
open PySem PySem.Spec PyProof.Rows L2
/-- what is shown of a term -/
def sh (d : D) : Str := PyData.shown (pdOf d)
theorem nodup_lenA {α : Type} [DecidableEq α] : ∀ {xs ys : List α}, xs.Nodup → (∀ x ∈ xs, x ∈ ys) → xs.length ≤ ys.length
  | [], _, _, _ => Nat.zero_le _
  | x :: r, ys, h, k => by
    rw [List.nodup_cons] at h
    have hx := k x List.mem_cons_self
    have ih := nodup_lenA (xs := r) (ys := ys.erase x) h.2 fun y hy => by
      have ne : y ≠ x := fun e => h.1 (e ▸ hy)
      exact (List.mem_erase_of_ne ne).mpr (k y (List.mem_cons_of_mem _ hy))
    rw [List.length_erase_of_mem hx] at ih
    have pos : 0 < ys.length := List.length_pos_of_mem hx
    simp only [List.length_cons]
    omega
/-- the texts of what is known so far -/
structure Kn (es : List D) (ks : List Nat) (ds : List D) (kn : List Str) : Prop where
  ok : ∀ x ∈ kn, ∃ d, TmL d ∧ x = sh d ∧ blt (kAt es ks) d ≠ .non
  base : ∀ a ∈ ks, ∀ e, es[a]? = some e → sh e ∈ kn
  len : ∃ ex : List Str, kn.length = ks.length + ex.length ∧ ex.Nodup ∧ (∀ x ∈ ex, x ∈ (flats ds).map sh) ∧ ∀ x ∈ ex, x ∈ kn
/-- nothing is to be added for this part -/
def Clo (kn : List Str) (t : D) : Prop := ∀ x ps, t = .tup (x :: ps) → sh t ∈ kn ∨ ∃ p ∈ ps, sh p ∉ kn
theorem Kn.le {es : List D} {ks : List Nat} {ds : List D} {kn : List Str} (k : Kn es ks ds kn) : kn.length ≤ ks.length + (flats ds).length := by
  obtain ⟨ex, h1, h2, h3, _⟩ := k.len
  have := nodup_lenA h2 h3
  rw [List.length_map] at this
  omega
theorem blt_tup_non {k : D → Option Nat} {x : D} {ps : List D} (h : ∀ p ∈ ps, blt k p ≠ .non) : blt k (.tup (x :: ps)) ≠ .non := by
  cases c : k (.tup (x :: ps)) with
  | some a =>
    rw [blt_some c]
    exact fun e => by cases e
  | none =>
    rw [blt_tup c]
    have : (blts k ps).any isNon = false := by
      rw [Bool.eq_false_iff]
      intro e
      obtain ⟨y, hy, e2⟩ := List.any_eq_true.mp e
      rw [blts_map] at hy
      obtain ⟨p, hp, rfl⟩ := List.mem_map.mp hy
      refine h p hp ?_
      cases z : blt k p <;> rw [z] at e2 <;> first | rfl | cases e2
    rw [if_neg (by rw [this]; decide)]
    exact fun e => by cases e
theorem Kn.add {es : List D} {ks : List Nat} {ds : List D} {kn : List Str} (k : Kn es ks ds kn) {x : Str} {ps : List D} (t : TmL (.tup (.str x :: ps))) (ht : .tup (.str x :: ps) ∈ flats ds) (hn : sh (.tup (.str x :: ps)) ∉ kn)
    (hp : ∀ p ∈ ps, sh p ∈ kn) : Kn es ks ds (kn ++ [sh (.tup (.str x :: ps))]) := by
  obtain ⟨ex, h1, h2, h3, h4⟩ := k.len
  refine ⟨fun y hy => ?_, fun a ha e he => List.mem_append_left _ (k.base a ha e he), ex ++ [sh (.tup (.str x :: ps))], ?_, ?_, fun y hy => ?_, fun y hy => ?_⟩
  · rcases List.mem_append.mp hy with h | h
    · exact k.ok y h
    · rw [List.mem_singleton.mp h]
      refine ⟨_, t, rfl, blt_tup_non fun p hpm => ?_⟩
      obtain ⟨d, td, e, nb⟩ := k.ok _ (hp p hpm)
      have tp : TmL p := by
        cases t with
        | tup _ _ _ h => exact h p hpm
      rw [shown_inj tp td e]
      exact nb
  · simp only [List.length_append, List.length_singleton]
    omega
  · rw [List.nodup_append]
    refine ⟨h2, by simp, fun a ha b hb => ?_⟩
    rw [List.mem_singleton.mp hb]
    exact fun e => hn (e ▸ h4 a ha)
  · rcases List.mem_append.mp hy with h | h
    · exact h3 y h
    · rw [List.mem_singleton.mp h]
      exact List.mem_map.mpr ⟨_, ht, rfl⟩
  · rcases List.mem_append.mp hy with h | h
    · exact List.mem_append_left _ (h4 y h)
    · exact List.mem_append_right _ h
theorem flats_parts : ∀ (n : Nat) {ds : List D} {x : D} {ps : List D}, sizes ds ≤ n → .tup (x :: ps) ∈ flats ds → ∀ p ∈ ps, p ∈ flats ds
  | _, [], _, _, _, h => by simp [flats] at h
  | 0, d :: r, _, _, hn, _ => by
    have := d.size_pos
    simp only [sizes] at hn
    omega
  | n + 1, d :: r, x, ps, hn, h => by
    intro p hp
    simp only [flats, List.mem_append] at h ⊢
    have hz := d.size_pos
    simp only [sizes] at hn
    rcases h with h | h
    · left
      rw [flat_eq] at h ⊢
      rcases List.mem_cons.mp h with e | h
      · refine List.mem_cons_of_mem _ ?_
        rw [← e]
        exact mem_flats hp (by rw [flat_eq]; exact List.mem_cons_self)
      · have hs : sizes (parts d) + 1 ≤ d.size := by
          cases d with
          | tup ds =>
            cases ds with
            | nil => simp [parts, sizes, D.size]
            | cons x r => simp only [parts, D.size, sizes]; have := x.size_pos; omega
          | _ => simp [parts, sizes, D.size]
        exact List.mem_cons_of_mem _ (flats_parts n (ds := parts d) (by omega) h p hp)
    · exact .inr (flats_parts n (ds := r) (by omega) h p hp)
/-- at the end what is known is what can be built -/
theorem Kn.done {es : List D} {ks : List Nat} {ds : List D} {kn : List Str} (k : Kn es ks ds kn) (cl : ∀ t ∈ flats ds, Clo kn t) {d : D} (t : TmL d) (hd : d ∈ flats ds) : sh d ∈ kn ↔ blt (kAt es ks) d ≠ .non := by
  constructor
  · intro h
    obtain ⟨e, te, ee, nb⟩ := k.ok _ h
    rw [shown_inj t te ee]
    exact nb
  · induction t with
    | int i hi =>
      intro nb
      cases c : kAt es ks (.int (i : Int)) with
      | some a => exact k.base a (kAt_some c).1 _ (kAt_some c).2
      | none => exact absurd (blt_int c) nb
    | tup x ps lx _ ih =>
      intro nb
      cases c : kAt es ks (.tup (.str x :: ps)) with
      | some a => exact k.base a (kAt_some c).1 _ (kAt_some c).2
      | none =>
        rw [blt_tup c] at nb
        have nn : ¬ (blts (kAt es ks) ps).any isNon = true := fun e => nb (if_pos e)
        rcases cl _ hd _ _ rfl with h | ⟨p, hp, hn⟩
        · exact h
        · refine absurd (ih p hp (flats_parts _ (Nat.le_refl _) hd p hp) fun e => nn ?_) hn
          rw [List.any_eq_true]
          refine ⟨.non, ?_, rfl⟩
          rw [blts_map]
          exact List.mem_map.mpr ⟨p, hp, e⟩
theorem tmL_short {d : D} (t : TmL d) : ∀ i ∈ intsIn d, Short 13 20 i := by
  induction t with
  | int n hn =>
    intro i hi
    simp only [intsIn, List.mem_singleton] at hi
    rw [hi]
    exact short_small (by omega) (by omega)
  | tup x ds _ _ ih =>
    have e : intsIn (.tup (.str x :: ds)) = intsOf ds := by simp [intsIn, intsOf]
    rw [e]
    intro i hi
    obtain ⟨d, hd, h⟩ := intsOf_mem hi
    exact ih d hd i h
mutual
theorem ints_size : ∀ d : D, (intsIn d).length ≤ d.size
  | .non => by simp [intsIn]
  | .bl _ => by simp [intsIn]
  | .int _ => by simp [intsIn, D.size]
  | .str _ => by simp [intsIn]
  | .dic => by simp [intsIn]
  | .lst ds => by
    have := ints_sizes ds
    simp only [intsIn, D.size]
    omega
  | .tup ds => by
    have := ints_sizes ds
    simp only [intsIn, D.size]
    omega
theorem ints_sizes : ∀ ds : List D, (intsOf ds).length ≤ sizes ds
  | [] => by simp [intsOf]
  | d :: r => by
    have h1 := ints_size d
    have h2 := ints_sizes r
    simp only [intsOf, sizes, List.length_append]
    omega
end
theorem drawn_ok {K : PySem.W.Frag} {H : Hp} {v : V} {d : D} (dr : Drawn d) (h : Dv H v d) :
    Dp K H v (pdOf d) ∧ SeqAt.shaped (pdOf d) = true ∧ (pdOf d).showable = true ∧ (pdOf d).hasDict = false ∧ (pdOf d).depth ≤ 60 ∧ (pdOf d).shown.length ≤ sizeLine := by
  have h1 := dr.dp
  have h2 := dr.sz
  have h3 := ints_size d
  exact pd_ok (B := 13) (bits := 20) (by decide) h (tmL_short dr.tm) dr.tm.tm.noDic (by omega) (by omega)
theorem Drawn.flat {d e : D} (h : Drawn d) (he : e ∈ Fm.flat d) : Drawn e := by
  have h1 := h.dp
  have h2 := h.sz
  have h3 := size_flat he
  have h4 := deep_flat he
  exact ⟨tmL_flat h.tm he, by omega, by omega⟩
theorem drawn_flats {ds : List D} (h : ∀ d ∈ ds, Drawn d) : ∀ e ∈ flats ds, Drawn e := fun e he => by
  obtain ⟨d, hd, h2⟩ := flats_mem he
  exact (h d hd).flat h2
theorem drawn_sizes {ds : List D} {n : Nat} (h : ∀ d ∈ ds, Drawn d) (hn : ds.length ≤ n) : sizes ds ≤ n * 466 := by
  have h5 := sizes_le (n := 466) (ds := ds) fun e he => by have := (h e he).sz; omega
  have h7 : 466 * ds.length ≤ 466 * n := Nat.mul_le_mul_left _ hn
  omega
/-- the text of the value at a place -/
def shAt (es : List D) : V → V
  | .int j => .str (sh (es.getD j.toNat (.int 0)))
  | _ => .non
theorem shAt_map (es : List D) (ks : List Nat) : (ks.map vI).map (shAt es) = (ks.map fun a => sh (es.getD a (.int 0))).map V.str := by
  rw [List.map_map, List.map_map]
  refine List.map_congr_left fun a _ => ?_
  show V.str (sh (es.getD (a : Int).toNat (.int 0))) = _
  rw [Int.toNat_natCast]
  rfl
theorem Kn.first {es : List D} {ks : List Nat} {ds : List D} (hes : ∀ e ∈ es, Drawn e) (hks : ∀ a ∈ ks, a < es.length) : Kn es ks ds (ks.map fun a => sh (es.getD a (.int 0))) := by
  have at_ : ∀ a ∈ ks, es[a]? = some (es.getD a (.int 0)) := fun a ha => by
    rw [List.getD_eq_getElem?_getD, List.getElem?_eq_getElem (hks a ha)]
    rfl
  refine ⟨fun x hx => ?_, fun a ha e he => ?_, [], by simp, List.nodup_nil, fun x h => (by cases h), fun x h => by cases h⟩
  · obtain ⟨a, ha, rfl⟩ := List.mem_map.mp hx
    have h1 := at_ a ha
    refine ⟨_, (hes _ (List.mem_of_getElem? h1)).tm, rfl, ?_⟩
    cases c : kAt es ks (es.getD a (.int 0)) with
    | none => exact absurd h1 (kAt_none c a ha)
    | some b =>
      rw [blt_some c]
      exact fun e => by cases e
  · have h1 := at_ a ha
    rw [he] at h1
    rw [Option.some.inj h1]
    exact List.mem_map.mpr ⟨a, ha, rfl⟩
theorem inV_strs (x : Str) (ks : List Str) : inV (.str x) (ks.map V.str) = decide (x ∈ ks) := by
  unfold inV
  induction ks with
  | nil => simp
  | cons y r ih =>
    rw [List.map_cons, List.any_cons, ih]
    show (y == x || decide (x ∈ r)) = _
    by_cases e : y = x
    · subst e
      simp
    · have e2 : ¬ x = y := fun z => e z.symm
      simp [e, e2]
/-- _law_can -/
def spCan (K : PySem.W.Frag) : Sp := fun vs H Q _ => ∃ (lt lv lk : Addr) (us ws : List V) (ds es : List D) (ks : List Nat), vs = [.ref lt, .ref lv, .ref lk] ∧ H lt = some (.lst us) ∧ DvL H us ds ∧ (∀ d ∈ ds, Drawn d) ∧ ds.length ≤ 3 ∧ H lv = some (.lst ws) ∧ DvL H ws es ∧ (∀ e ∈ es, Drawn e) ∧ es.length ≤ 6 ∧
  H lk = some (.lst (ks.map vI)) ∧ (∀ a ∈ ks, a < es.length) ∧ ks.length ≤ 100 ∧
  ∀ (l : Addr) (H' : Hp) (kn : List Str), Same H H' → H l = none → H' l = some (.lst (kn.map V.str)) → (∀ d ∈ ds, (sh d ∈ kn ↔ blt (kAt es ks) d ≠ .non)) → Q (.ref l) H'
theorem rgV_vI (n : Nat) : rgV 0 (n : Int) = (List.range n).map vI := by
  unfold rgV
  rw [show ((n : Int) - 0).toNat = n by omega]
  refine List.map_congr_left fun i _ => ?_
  show V.int (0 + (i : Int)) = V.int (i : Int)
  rw [Int.zero_add]
theorem vI_ints (zs : List Nat) : zs.map vI = (zs.map fun z : Nat => (z : Int)).map V.int := by
  rw [List.map_map]
  rfl
theorem perm_nats {zs : List Nat} {ns : List Int} (h : ns.Perm (zs.map fun z : Nat => (z : Int))) : ∃ ks : List Nat, ns.map V.int = ks.map vI ∧ (∀ a ∈ ks, a ∈ zs) ∧ ks.length = zs.length := by
  have mem : ∀ n ∈ ns, ∃ z ∈ zs, n = (z : Int) := fun n hn => by
    obtain ⟨z, hz, e⟩ := List.mem_map.mp (h.mem_iff.mp hn)
    exact ⟨z, hz, e.symm⟩
  refine ⟨ns.map Int.toNat, ?_, fun a ha => ?_, by rw [List.length_map, h.length_eq, List.length_map]⟩
  · rw [List.map_map]
    refine List.map_congr_left fun n hn => ?_
    obtain ⟨z, _, rfl⟩ := mem n hn
    show V.int (z : Int) = V.int (((z : Int).toNat : Nat) : Int)
    rw [Int.toNat_natCast]
  · obtain ⟨n, hn, rfl⟩ := List.mem_map.mp ha
    obtain ⟨z, hz, rfl⟩ := mem n hn
    rw [Int.toNat_natCast]
    exact hz
theorem cut_nats (zs : List Nat) (lo hi : Option Int) : ∃ ys : List Nat, cutV (zs.map vI) lo hi = ys.map vI ∧ (∀ y ∈ ys, y ∈ zs) ∧ ys.length ≤ zs.length := by
  unfold cutV
  rw [List.length_map, ← List.map_drop, ← List.map_take]
  refine ⟨_, rfl, fun z hz => List.mem_of_mem_drop (List.mem_of_mem_take hz), ?_⟩
  rw [List.length_take, List.length_drop]
  omega
theorem drawn_of {k : Nat} {d : D} (t : TmL d) (s : Sized k d) (h : k ≤ 3) : Drawn d := by
  obtain ⟨a, b⟩ := s
  refine ⟨t, by omega, ?_⟩
  have : 3 ^ k ≤ 3 ^ 3 := Nat.pow_le_pow_right (by decide) h
  omega
theorem drawn_noDics {ds : List D} (h : ∀ d ∈ ds, Drawn d) : noDics ds = true := noDics_of fun d hd => (h d hd).tm.tm.noDic
theorem drawn_shorts {ds : List D} (h : ∀ d ∈ ds, Drawn d) : ∀ i ∈ intsOf ds, Short 13 20 i := fun i hi => by
  obtain ⟨d, hd, h2⟩ := intsOf_mem hi
  exact tmL_short (h d hd).tm i h2
/-- [values, keep, terms] -/
def allD (es ds : List D) (ks : List Nat) : D := .lst [.lst es, .lst ((ks.map fun a : Nat => (a : Int)).map D.int), .lst ds]
theorem all_ok {K : PySem.W.Frag} {H : Hp} {v : V} {es ds : List D} {ks : List Nat} (h : Dv H v (allD es ds ks)) (hes : ∀ e ∈ es, Drawn e) (les : es.length ≤ 6) (hds : ∀ d ∈ ds, Drawn d) (lds : ds.length ≤ 3) (hks : ∀ a ∈ ks, a < es.length) (hkl : ks.length ≤ 100) :
    Dp K H v (pdOf (allD es ds ks)) ∧ SeqAt.shaped (pdOf (allD es ds ks)) = true ∧ (pdOf (allD es ds ks)).showable = true ∧ (pdOf (allD es ds ks)).hasDict = false ∧ (pdOf (allD es ds ks)).depth ≤ 60 ∧ (pdOf (allD es ds ks)).shown.length ≤ sizeLine := by
  obtain ⟨a1, a2, a3, a4⟩ := ints_facts (ks.map fun a : Nat => (a : Int))
  rw [List.length_map] at a1
  have z1 := drawn_sizes hes les
  have z2 := drawn_sizes hds lds
  have i1 := ints_sizes es
  have i2 := ints_sizes ds
  have d1 := deeps_le fun d hd => (hes d hd).dp
  have d2 := deeps_le fun d hd => (hds d hd).dp
  have n1 := drawn_noDics hes
  have n2 := drawn_noDics hds
  have fi : intsIn (allD es ds ks) = intsOf es ++ ((ks.map fun a : Nat => (a : Int)) ++ intsOf ds) := by
    simp only [allD, intsIn, intsOf, a3, List.append_nil]
  refine pd_ok (B := 13) (bits := 20) (by decide) h ?_ ?_ ?_ ?_
  · rw [fi]
    intro i hi
    rcases List.mem_append.mp hi with hi | hi
    · exact drawn_shorts hes i hi
    · rcases List.mem_append.mp hi with hi | hi
      · obtain ⟨a, ha, rfl⟩ := List.mem_map.mp hi
        have := hks a ha
        exact short_small (by omega) (by omega)
      · exact drawn_shorts hds i hi
  · simp only [allD, noDic, noDics, a4, n1, n2, Bool.and_self]
  · simp only [allD, D.deep, deeps]
    omega
  · rw [fi]
    simp only [allD, D.size, sizes, a1, List.length_append, List.length_map]
    omega
theorem all_dv {H : Hp} {q lv lk ld : Addr} {ws us : List V} {es ds : List D} {ks : List Nat} (hq : H q = some (.lst [.ref lv, .ref lk, .ref ld])) (h1 : H lv = some (.lst ws)) (h2 : DvL H ws es) (h3 : H lk = some (.lst (ks.map vI))) (h4 : H ld = some (.lst us)) (h5 : DvL H us ds) : Dv H (.ref q) (allD es ds ks) := by
  refine .lst hq (.cons (.lst h1 h2) (.cons (.lst h3 ?_) (.cons (.lst h4 h5) .nil)))
  rw [vI_ints]
  exact dvl_nums _
theorem blt_ok {K : PySem.W.Frag} {H : Hp} {v : V} {es : List D} {ks : List Nat} {d : D} (dr : Drawn d) (les : es.length ≤ 6) (hks : ∀ a ∈ ks, a < es.length) (h : Dv H v (blt (kAt es ks) d)) :
    Dp K H v (pdOf (blt (kAt es ks) d)) ∧ SeqAt.shaped (pdOf (blt (kAt es ks) d)) = true ∧ (pdOf (blt (kAt es ks) d)).showable = true ∧ (pdOf (blt (kAt es ks) d)).hasDict = false ∧ (pdOf (blt (kAt es ks) d)).depth ≤ 60 ∧ (pdOf (blt (kAt es ks) d)).shown.length ≤ sizeLine := by
  have d1 := dr.dp
  have d2 := dr.sz
  rcases bltd (es := es) (ks := ks) dr.tm.tm with e | b
  · rw [e] at h ⊢
    exact pd_ok (B := 13) (bits := 20) (by decide) h (fun i hi => by simp [intsIn] at hi) rfl (by simp [D.deep]) (by simp [D.size, intsIn])
  · have b1 := b.sz
    have b2 := b.dp
    have b3 := b.few
    refine pd_ok (B := 13) (bits := 20) (by decide) h (fun i hi => ?_) b.tm.noDic (by omega) (by omega)
    obtain ⟨a, ha, rfl⟩ := b.at_ i hi
    have := hks a ha
    exact short_small (by omega) (by omega)
theorem isNon_iff (e : D) : Fm.isNon e = true ↔ e = .non := by
  cases e <;> simp [Fm.isNon]
end Fm
set_option maxRecDepth 100000
set_option maxHeartbeats 2000000
namespace K20
open PySem L2 Fm
section
variable {P : Program} {w : World} {K : PySem.W.Frag} {mg : Str → Option Value} {base : Heap} (T : Txt K mg)
def cands : List Str := ["more", "other", "nil", "a", "b"]
theorem cands_nd : cands.Nodup := by decide +kernel
theorem cands_ok : ∀ n ∈ cands, NmOk n := by
  have h : ∀ n ∈ cands, okL n = true ∧ 1 ≤ n.length ∧ n.length ≤ 8 := by decide +kernel
  exact h
def newO : Outs := [("ok", 0), ("x", 2)]
theorem newO_sm : OutsSm newO := by
  have h : ∀ p ∈ newO, (okL p.1 = true ∧ 1 ≤ p.1.length ∧ p.1.length ≤ 8) ∧ 0 ≤ p.2 ∧ p.2 < 3 := by decide +kernel
  exact ⟨by show (newO.map (·.1)).Nodup; decide +kernel, by decide, by decide, h⟩
theorem newO_mk : mergeK [] [((.inr "ok" : Key), V.int 0), (.inr "x", .int 2)] = kO newO := by decide +kernel
def freeN (l : Acts) (n : Str) : Bool := (l.lookup n).isNone
/-- these acts, or with one more in a new dict -/
def spFourth : Sp := fun vs H Q _ => ∃ (b p d : Addr) (l : Acts), vs = [.ref b, .ref d] ∧ Bag b p H ∧ ActsAt (mask b H) d l ∧ ActsSm 3 l ∧
  ∀ (d' : Addr) (H' : Hp) (l' : Acts), Go b p H H' → ActsAt (mask b H') d' l' → ActsSm 4 l' → Q (.ref d') H'
theorem ok_law_fourth : FnOk P w K mg base CX0 3 T.a__law_fourth T.d__law_fourth ["_law_bag_here", "_law_acts_here"] spFourth := by
  have G__law_take := ok_law_take (P := P) (w := w) (base := base) T
  refine T.F__law_fourth.ok sc__law_fourth ?_ (fun cdv A outer s H vs Q E hr h => ?_)
  · rintro vs H Q E ⟨b, p, d, l, rfl, _⟩
    rfl
  obtain ⟨b, p, d, l, rfl, B, hA, sm, q⟩ := h
  refine ⟨_, 
    (pss_cons (ps_if (PW.pt (pw_or (pt_cmpR op_gt (pe_callB call_lenD (by rfl) T.m_len (by decide +kernel) (pa_cons (pv 1) pa_nil)) pe_int (nomark _)) (pw_or1 (pt_cmpR op_gt (pe_call G__law_take (hr.mono (by omega)) (by rfl) T.f__law_take T.F__law_take.kp T.b__law_take .nil pass0 (pa_cons (pv 0) (pa_cons pe_int pa_nil))) pe_int (nomark _))))) (pss_one (ps_ret (pv 1))) pss_nil)
    (pss_cons (ps_par (i := 2) (j := 3) (by rfl) sc__law_fourth.nd rfl rfl (by decide) rfl rfl (pa_cons (pe_callTy call_dictD (by rfl) T.m_dict (by decide +kernel) (pa_cons (pv 1) pa_nil)) (pa_cons (pe_lc (own := [("_law_one", 4)]) (g := gName 4) rfl sc__law_fourth.nd (pi_tup (pe_tup (pa_cons pe_str (pa_cons pe_str (pa_cons pe_str (pa_cons pe_str (pa_cons pe_str pa_nil))))))) (blkOk_by (N := N__law_fourth) (sc := defScope s__law_fourth) (by decide +kernel)) (fun _ _ _ _ _ => pg_name (i := 4) sc__law_fourth.nd rfl (Or.inl rfl)) (fun _ _ _ _ _ => pts_one (pt_cmp (pc_dnotin (hu1 hr) (pv 4) (pv 1)))) (fun _ _ _ _ _ => pv 4)) pa_nil)) (by rfl))
    (pss_cons (ps_dput (hu1 hr) (pv 2) (pe_ix ix_list (pv 3) pe_int (fun _ _ => rfl)) (pe_tup (pa_cons (pe_call G__law_take (hr.mono (by omega)) (by rfl) T.f__law_take T.F__law_take.kp T.b__law_take .nil pass0 (pa_cons (pv 0) (pa_cons pe_int pa_nil))) (pa_cons (pe_disp (pps_cons pe_str pe_int (pps_cons pe_str pe_int pps_nil)) (by rfl) (by rfl) (fun z => by cases z) (by decide)) pa_nil))) rfl)
    (pss_one (ps_ret (pv 2)))))), ?_⟩
  obtain ⟨ks, hd, hL⟩ := id hA
  have hi := sm.hi
  have len := hL.len
  have hd1 : H d = some (.dK ks) := unmask _ _ hd
  have nb : d ≠ b := fun z => by
    rw [z] at hd
    unfold mask at hd
    rw [if_pos rfl] at hd
    cases hd
  refine ⟨_, rfl, d, ks, rfl, hd1, _, _, rfl, rfl, _, rfl, ite_b (fun c => absurd (of_decide_eq_true c) (by omega)) (fun _ => ?_)⟩
  refine ⟨_, rfl, b, p, 3, rfl, B, by decide, by decide, fun k H1 k0 k1 g1 => ⟨_, _, rfl, rfl, _, rfl, ite_b (fun _ => ?_) (fun _ => ?_)⟩⟩
  · exact ⟨_, rfl, q d H1 l g1 (hA.same g1.k) ⟨sm.nd, by omega, sm.ok⟩⟩
  have hd2 := g1.at nb hd1
  refine ⟨_, rfl, d, ks, rfl, .of hd2, fun f hf => ?_⟩
  have k12 := Same.new (o := .dK ks) hf
  have nfd : f ≠ d := fun z => by rw [z, hd2] at hf; cases hf
  have gf := g1.new (o := .dK ks) hf
  have af : (upd H1 f (.dK ks)) f = some (.dK ks) := upd_same
  have ad := k12 _ _ hd2
  have zf := g1.free hf
  generalize upd H1 f (.dK ks) = H2 at gf af ad ⊢
  refine ⟨(by show 5 ≤ sizeLine; decide), fun tp htp => ⟨tp, rfl, ⟨_, SqT.of upd_same⟩, fun Dl hD => ?_⟩⟩
  have gt := gf.new (o := .tup (cands.map V.str)) htp
  have kt := Same.new (o := .tup (cands.map V.str)) htp
  refine lc_it (walk_tup (xs := cands.map V.str)) (fun i H' => Same (upd H2 tp (.tup (cands.map V.str))) H' ∧ H' Dl = some (.lst (((cands.take i).filter (freeN l)).map V.str))) ⟨Same.new hD, upd_same⟩ (fun i H' _ h => SqT.of (h.1 _ _ upd_same)) ?_ (fun H3 h => ?_)
  · rintro i y H3 H3' hi ⟨k3, hl3⟩ ⟨rfl, hy⟩
    obtain ⟨n, hn, rfl⟩ : ∃ n, cands[i]? = some n ∧ y = .str n := by
      rw [List.getElem?_map] at hy
      obtain ⟨n, e1, e2⟩ := Option.map_eq_some_iff.mp hy
      exact ⟨n, e1, e2.symm⟩
    have ad3 := k3 _ _ (kt _ _ ad)
    have tk1 : cands.take (i + 1) = cands.take i ++ [n] := by rw [List.take_add_one, hn]; rfl
    refine ⟨rfl, _, rfl, _, rfl, d, _, rfl, DGet.k (k := .inr n) ad3, _, rfl, ?_⟩
    rw [tk1, List.filter_append]
    rcases hL.look n with ⟨e1, e2⟩ | ⟨v, a, e1, e2, _⟩
    · rw [e1]
      refine ite_b (fun _ => ?_) (fun c => nomatch c)
      refine ⟨_, rfl, _, hl3, ?_, Same.upd k3 hD, ?_⟩
      · have : ((cands.take i).filter (freeN l)).length ≤ 5 := Nat.le_trans (List.length_filter_le _ _) (by rw [List.length_take]; exact Nat.le_trans (Nat.min_le_right _ _) (by decide))
        rw [List.length_map]
        exact szl (by omega)
      · have fr : freeN l n = true := by unfold freeN; rw [e2]; rfl
        rw [List.filter_cons_of_pos fr, List.filter_nil, List.map_append]
        exact upd_same
    · rw [e1]
      refine ite_b (fun c => nomatch c) (fun _ => ⟨k3, ?_⟩)
      have fr : ¬ freeN l n = true := by unfold freeN; rw [e2]; exact fun c => nomatch c
      rw [List.filter_cons_of_neg fr, List.filter_nil, List.append_nil]
      exact hl3
  · obtain ⟨k3, hl3⟩ := h
    rw [List.length_map, List.take_length] at hl3
    obtain ⟨n0, r0, efr⟩ : ∃ n0 r0, cands.filter (freeN l) = n0 :: r0 := by
      cases e : cands.filter (freeN l) with
      | cons n0 r0 => exact ⟨n0, r0, rfl⟩
      | nil =>
        have all : ∀ n ∈ cands, n ∈ l.map (·.1) := fun n hn => by
          have z := List.filter_eq_nil_iff.mp e n hn
          unfold freeN at z
          cases w2 : l.lookup n with
          | none => rw [w2] at z; exact absurd rfl z
          | some a => exact List.mem_map.mpr ⟨_, acts_mem w2, rfl⟩
        have := nodup_lenA cands_nd all
        rw [List.length_map] at this
        have c5 : cands.length = 5 := rfl
        omega
    have n0mf : n0 ∈ cands.filter (freeN l) := by rw [efr]; exact List.mem_cons_self
    have n0m : n0 ∈ cands := (List.mem_filter.mp n0mf).1
    have n0f : l.lookup n0 = none := by
      have z := (List.mem_filter.mp n0mf).2
      unfold freeN at z
      exact Option.isNone_iff_eq_none.mp z
    rw [efr] at hl3
    have g3 := gt.same k3
    have af3 := k3 _ _ (kt _ _ af)
    refine ⟨_, _, rfl, ?_⟩
    refine ⟨_, rfl, b, p, 3, rfl, g3.B, by decide, by decide, fun k9 H5 v0 v1 g5 => fun d6 hd6 => ?_⟩
    have nfb : f ≠ b := B.b_ne zf
    have nDb : Dl ≠ b := gt.B.b_ne hD
    have af5 := g5.at nfb af3
    have aD5 := g5.at nDb hl3
    have z6 := (g3.trans g5).free hd6
    have nf6 : f ≠ d6 := ne_of_none af5 hd6
    have nD6 : Dl ≠ d6 := ne_of_none aD5 hd6
    refine ⟨upd_same, [(.inr "ok", .int 0), (.inr "x", .int 2)], rfl, (by show 2 ≤ 15; decide), (by show 2 ≤ sizeLine; decide), fun t6 ht6 => ?_⟩
    rw [newO_mk] at ht6 ⊢
    have g6 : Go b p H (upd (upd H5 d6 (.dK [])) d6 (.dK (kO newO))) := Go.mut B ((g3.trans g5).new hd6) z6
    have af6 : (upd (upd H5 d6 (.dK [])) d6 (.dK (kO newO))) f = some (.dK ks) := by rw [upd_ne nf6, upd_ne nf6]; exact af5
    have aD6 : (upd (upd H5 d6 (.dK [])) d6 (.dK (kO newO))) Dl = some (.lst ((n0 :: r0).map V.str)) := by rw [upd_ne nD6, upd_ne nD6]; exact aD5
    have a66 : (upd (upd H5 d6 (.dK [])) d6 (.dK (kO newO))) d6 = some (.dK (kO newO)) := upd_same
    generalize upd (upd H5 d6 (.dK [])) d6 (.dK (kO newO)) = H6 at ht6 g6 af6 aD6 a66 ⊢
    have zt := g6.free ht6
    have g7 := g6.new (o := .tup [.int k9, .ref d6]) ht6
    have nft : f ≠ t6 := ne_of_none af6 ht6
    have n6t : d6 ≠ t6 := ne_of_none a66 ht6
    have nDt : Dl ≠ t6 := ne_of_none aD6 ht6
    have af7 := (upd_ne (o := .tup [.int k9, .ref d6]) nft).trans af6
    have aD7 := (upd_ne (o := .tup [.int k9, .ref d6]) nDt).trans aD6
    have a67 := (upd_ne (o := .tup [.int k9, .ref d6]) n6t).trans a66
    have at7 : (upd H6 t6 (.tup [.int k9, .ref d6])) t6 = some (.tup [.int k9, .ref d6]) := upd_same
    generalize upd H6 t6 (.tup [.int k9, .ref d6]) = H7 at g7 af7 aD7 a67 at7 ⊢
    refine ⟨_, rfl, _, rfl, Dl, _, 0, _, rfl, rfl, SqL.of aD7, atI_nat (j := 0) rfl, f, _, rfl, DPut.k (k := .inr n0) af7 (szl (by omega)), ?_⟩
    have g8 : Go b p H (upd H7 f (.dK (putK ks (.inr n0) (.ref t6)))) := Go.mut B g7 zf
    have lp := len_putS (l := l) (n := n0) (a := (k9, newO))
    refine ⟨_, rfl, q f _ (putS l n0 (k9, newO)) g8 ⟨putK ks (.inr n0) (.ref t6), ?_, (hL.same g8.k).put ⟨t6, d6, rfl, ?_, ?_⟩⟩ ⟨nds_putS sm.nd, by omega, fun p hp => ?_⟩⟩
    · rw [mask_ne nfb]
      exact upd_same
    · rw [mask_ne (B.b_ne zt), upd_ne nft.symm]
      exact at7
    · show mask b _ d6 = _
      rw [mask_ne (B.b_ne z6), upd_ne nf6.symm]
      exact a67
    · rcases mem_putS hp with h | rfl
      · exact sm.ok p h
      · exact ⟨cands_ok n0 n0m, v0, v1, newO_sm⟩
end
end K20
set_option maxRecDepth 100000
set_option maxHeartbeats 2000000
namespace K20
open PySem L2 Fm
theorem Paired.snoc {α β : Type} {F : α → β → Prop} {xs : List α} {ys : List β} {x : α} {y : β} (h : Paired F xs ys) (e : F x y) : Paired F (xs ++ [x]) (ys ++ [y]) := by
  induction h with
  | nil => exact .cons e .nil
  | cons a _ ih => exact .cons a ih
theorem Paired.imp' {α β : Type} {F G : α → β → Prop} {xs : List α} {ys : List β} (h : Paired F xs ys) (f : ∀ x y, F x y → G x y) : Paired G xs ys := by
  induction h with
  | nil => exact .nil
  | cons a _ ih => exact .cons (f _ _ a) ih
theorem newof_frz {H H' : Hp} {d : Addr} {u o : HO} (hd : H d = some u) : newof (upd H d o) H' = newof H H' := by
  funext a
  unfold newof
  by_cases c : a = d
  · rw [c, upd_same, hd]
  · rw [upd_ne c]
theorem merge_go (ks : List (Key × V)) : ∀ (more : List (Key × V)) (acc : List (Key × V)), ((acc ++ more).map (·.1)).Nodup → mergeK acc more = acc ++ more
  | [], acc, _ => (List.append_nil acc).symm
  | kv :: more, acc, nd => by
    have e : putK acc kv.1 kv.2 = acc ++ [kv] := by
      rw [putK_new _ (valV_no ?_)]
      intro p hp c
      rw [List.map_append] at nd
      have := (List.nodup_append.mp nd).2.2 p.1 (List.mem_map.mpr ⟨p, hp, rfl⟩) kv.1 (List.mem_map.mpr ⟨kv, List.mem_cons_self, rfl⟩)
      exact this c
    have e2 : acc ++ kv :: more = (acc ++ [kv]) ++ more := by rw [List.append_assoc]; rfl
    rw [e2] at nd ⊢
    show mergeK (putK acc kv.1 kv.2) more = _
    rw [e]
    exact merge_go ks more (acc ++ [kv]) nd
theorem merge_nd {kvs : List (Key × V)} (nd : (kvs.map (·.1)).Nodup) : mergeK [] kvs = kvs := by
  rw [merge_go kvs kvs [] (by simpa using nd), List.nil_append]
/-- acts whose dicts of outcomes stand each at a place of its own -/
inductive ActsD (H : Hp) : List (Key × V) → Acts → List Addr → Prop
  | nil : ActsD H [] [] []
  | cons {n : Str} {t d : Addr} {a : Int × Outs} {ks : List (Key × V)} {l : Acts} {ds : List Addr} : H t = some (.tup [.int a.1, .ref d]) → H d = some (.dK (kO a.2)) → ActsD H ks l ds → ActsD H ((.inr n, .ref t) :: ks) ((n, a) :: l) (d :: ds)
section
variable {H : Hp} {ks : List (Key × V)} {l : Acts} {ds : List Addr}
theorem ActsD.toL (h : ActsD H ks l ds) : ActsL H ks l := by
  induction h with
  | nil => exact .nil
  | cons h1 h2 _ ih => exact .cons ⟨_, _, rfl, h1, h2⟩ ih
theorem ActsD.same {H' : Hp} (h : ActsD H ks l ds) (k : Same H H') : ActsD H' ks l ds := by
  induction h with
  | nil => exact .nil
  | cons h1 h2 _ ih => exact .cons (k _ _ h1) (k _ _ h2) ih
theorem ActsD.mem (h : ActsD H ks l ds) : ∀ d ∈ ds, ∃ o, H d = some (.dK (kO o)) := by
  induction h with
  | nil => exact fun _ h => by cases h
  | cons h1 h2 _ ih =>
    intro e he
    rcases List.mem_cons.mp he with rfl | he
    · exact ⟨_, h2⟩
    · exact ih e he
theorem ActsD.app (h : ActsD H ks l ds) {n : Str} {t d : Addr} {a : Int × Outs} (h1 : H t = some (.tup [.int a.1, .ref d])) (h2 : H d = some (.dK (kO a.2))) : ActsD H (ks ++ [(.inr n, .ref t)]) (l ++ [(n, a)]) (ds ++ [d]) := by
  induction h with
  | nil => exact .cons h1 h2 .nil
  | cons a b _ ih => exact .cons a b ih
theorem ActsD.off (h : ActsD H ks l ds) {d : Addr} {x : List (Key × V)} {o : HO} (hd : H d = some (.dK x)) (nd : d ∉ ds) : ActsD (upd H d o) ks l ds := by
  induction h with
  | nil => exact .nil
  | @cons n t e a ks l ds h1 h2 _ ih =>
    refine .cons ((upd_ne fun z => ?_).trans h1) ((upd_ne fun z => nd ?_).trans h2) (ih fun z => nd (List.mem_cons_of_mem _ z))
    · rw [z, hd] at h1; cases h1
    · rw [z]; exact List.mem_cons_self
theorem putS_hd {α : Type} {n : Str} {a x : α} {l : List (Str × α)} (nd : Nds ((n, a) :: l)) : putS ((n, a) :: l) n x = (n, x) :: l := by
  have n1 := (List.nodup_cons.mp nd).1
  unfold putS
  rw [List.any_cons, decide_eq_true rfl, Bool.true_or, if_pos rfl, List.map_cons, if_pos rfl]
  congr 1
  conv => rhs; rw [← List.map_id l]
  refine List.map_congr_left fun p hp => ?_
  exact if_neg fun c => n1 (List.mem_map.mpr ⟨p, hp, c⟩)
theorem putS_tl {α : Type} {n m : Str} {a x : α} {l : List (Str × α)} (c : n ≠ m) : putS ((n, a) :: l) m x = (n, a) :: putS l m x := by
  unfold putS
  rw [List.any_cons, decide_eq_false c, Bool.false_or]
  split
  · rw [List.map_cons, if_neg c]
  · rfl
theorem lookup_putS {α : Type} {l : List (Str × α)} {n q : Str} {a : α} : (putS l n a).lookup q = if q = n then some a else l.lookup q := by
  induction l with
  | nil =>
    show List.lookup q [(n, a)] = _
    rw [List.lookup_cons]
    by_cases c : q = n
    · rw [if_pos c, c]; simp
    · rw [if_neg c]
      have : (q == n) = false := by simpa using c
      rw [this]
  | cons p l ih =>
    obtain ⟨m, b⟩ := p
    by_cases e : m = n
    · subst e
      have h2 : putS ((m, b) :: l) m a = (m, a) :: l.map fun p => if p.1 = m then (p.1, a) else p := by
        unfold putS
        rw [List.any_cons, decide_eq_true rfl, Bool.true_or, if_pos rfl, List.map_cons, if_pos rfl]
      rw [h2, List.lookup_cons, List.lookup_cons]
      by_cases c : q = m
      · rw [if_pos c, c]; simp
      · have : (q == m) = false := by simpa using c
        rw [if_neg c, this]
        show List.lookup q (l.map _) = List.lookup q l
        clear ih h2
        induction l with
        | nil => rfl
        | cons p l ih =>
          obtain ⟨r, b⟩ := p
          rw [List.map_cons]
          by_cases e : r = m
          · have z : (q == r) = false := by rw [e]; exact this
            rw [if_pos e, List.lookup_cons, List.lookup_cons, z]
            exact ih
          · rw [if_neg e, List.lookup_cons, List.lookup_cons, ih]
    · rw [putS_tl e, List.lookup_cons, List.lookup_cons, ih]
      by_cases c : q = m
      · have z : (q == m) = true := by simpa using c
        simp only [z, if_neg (fun y : q = n => e (c.symm.trans y))]
      · have z : (q == m) = false := by simpa using c
        simp only [z]
theorem names_putS {α : Type} {l : List (Str × α)} {n : Str} {a : α} (h : n ∈ l.map (·.1)) : (putS l n a).map (·.1) = l.map (·.1) := by
  unfold putS
  have e : (l.any fun p => decide (p.1 = n)) = true := by
    obtain ⟨p, hp, e⟩ := List.mem_map.mp h
    exact List.any_eq_true.mpr ⟨p, hp, decide_eq_true e⟩
  rw [if_pos e, List.map_map]
  refine List.map_congr_left fun p _ => ?_
  show (if p.1 = n then (p.1, a) else p).1 = p.1
  split <;> rfl
/-- what stands for a name, and what a change of its outcomes makes -/
theorem ActsD.at_ (h : ActsD H ks l ds) (nd : ds.Nodup) (nl : Nds l) {n : Str} {a : Int × Outs} (e : l.lookup n = some a) :
    ∃ t d, d ∈ ds ∧ valV ks (.inr n) = some (.ref t) ∧ H t = some (.tup [.int a.1, .ref d]) ∧ H d = some (.dK (kO a.2)) ∧ ∀ o, ActsD (upd H d (.dK (kO o))) ks (putS l n (a.1, o)) ds := by
  induction h with
  | nil => cases e
  | @cons m t d b ks l ds h1 h2 h3 ih =>
    obtain ⟨d1, d2⟩ := List.nodup_cons.mp nd
    obtain ⟨l1, l2⟩ := List.nodup_cons.mp nl
    have ntd : t ≠ d := fun z => by rw [z, h2] at h1; cases h1
    by_cases c : n = m
    · subst c
      rw [List.lookup_cons] at e
      simp only [beq_self_eq_true] at e
      cases e
      refine ⟨t, d, List.mem_cons_self, by simp [valV], h1, h2, fun o => ?_⟩
      rw [putS_hd nl]
      exact .cons ((upd_ne ntd).trans h1) upd_same (h3.off h2 d1)
    · rw [List.lookup_cons] at e
      have z : (n == m) = false := by simpa using c
      rw [z] at e
      obtain ⟨t', d', m1, q1, q2, q3, q4⟩ := ih d2 l2 e
      have dd : d ≠ d' := fun z => d1 (z ▸ m1)
      have td : t ≠ d' := fun z => by rw [z, q3] at h1; cases h1
      refine ⟨t', d', List.mem_cons_of_mem _ m1, ?_, q2, q3, fun o => ?_⟩
      · rw [valV_neg (fun z => c (Sum.inr.inj z).symm)]
        exact q1
      · rw [putS_tl (Ne.symm c)]
        exact .cons ((upd_ne td).trans h1) ((upd_ne dd).trans h2) (q4 o)
end
section
variable {K : PySem.W.Frag}
/-- dict([(n, (acts[n][0], dict(acts[n][1]))) for n in acts]) -/
theorem copy_acts {σ : L2.St} {H : Hp} {R : VK} {d : Addr} {ia ij : Nat} {ks : List (Key × V)} {l : Acts} (hd : H d = some (.dK ks)) (hL : ActsL H ks l) (nd : Nds l) (hn : l.length ≤ 20)
    (ha : σ[ia]? = some (some (.ref d))) (hw : ∀ v, wipe ((wipe σ [ij]).set ij (some v)) [ij] = wipe σ [ij]) (h1 : ∀ v, ((wipe σ [ij]).set ij (some v))[ia]? = some (some (.ref d))) (h2 : ∀ v, ((wipe σ [ij]).set ij (some v))[ij]? = some (some v))
    (q : ∀ p H' ks' ds, Same H H' → newof H H' p = some (.dK ks') → ActsD (mask p (newof H H')) ks' l ds → ds.Nodup → R (.ref p) H') :
    tCB (fun xs H_1 Q => ∃ a ps kvs, xs = [V.ref a] ∧ SqL K H_1 a (List.map V.ref ps) ∧ Paired (fun (p : Addr) (kv : Key × V) => SqT K H_1 p [kV kv.fst, kv.snd]) ps kvs ∧ ∀ (p : Addr), H_1 p = none → Q (V.ref p) (upd H_1 p (HO.dK (mergeK [] kvs))))
      (tCons (tLockE (tLc (iKeys (tVar ia)) (gName ij) tYes
        (tTup (tCons (tVar ij) (tCons (tTup (tCons (tOp (rIxT K) (tDGet (tVar ia) (tVar ij)) (tC (V.int 0)))
          (tCons (tCB (fun xs H Q => ∃ a kvs, xs = [V.ref a] ∧ Rd H a (HO.dK kvs) ∧ ∀ (p : Addr), H p = none → Q (V.ref p) (upd H p (HO.dK kvs))) (tCons (tOp (rIxT K) (tDGet (tVar ia) (tVar ij)) (tC (V.int 1))) tNil)) tNil))) tNil))) [ij])) tNil) σ H R := by
  have hlen := hL.len
  refine ⟨d, _, hd, trivial, fun od => ⟨_, ha, d, od, rfl, .inl ⟨_, upd_same, fun Dl hD => ?_⟩⟩⟩
  have nDd : Dl ≠ d := fun z => by rw [z, upd_same] at hD; cases hD
  refine lc_it walk_keys (fun i H' => Same (upd H d (.frz od (.dK ks))) H' ∧ ∃ ps kvs ds, H' Dl = some (.lst (ps.map V.ref)) ∧ Paired (fun (p : Addr) (kv : Key × V) => mask Dl H' p = some (.tup [kV kv.1, kv.2])) ps kvs ∧ ps.length = i ∧ ActsD (mask Dl (newof (upd H d (.frz od (.dK ks))) H')) kvs (l.take i) ds ∧ ds.Nodup)
    ⟨Same.new hD, [], [], [], upd_same, .nil, rfl, .nil, List.nodup_nil⟩ (fun i H' _ h => h.1 _ _ upd_same) ?_ (fun H3 h => ?_)
  · rintro i y H4 H4' hi ⟨k4, ps, kvs, ds, hl4, hp4, hn4, hL4, nD4⟩ ⟨rfl, kk, vv, e1, rfl⟩
    obtain ⟨n, a, e2, rfl, act0⟩ := hL.get e1
    obtain ⟨t, db, hv, ht, ho⟩ : ∃ t db, valV ks (.inr n) = some (.ref t) ∧ H t = some (.tup [.int a.1, .ref db]) ∧ H db = some (.dK (kO a.2)) := by
      rcases hL.look n with ⟨_, z⟩ | ⟨v', a', q1, q2, ⟨t, d', rfl, q3, q4⟩⟩
      · rw [look_get nd e2] at z; cases z
      · rw [look_get nd e2] at q2
        cases q2
        exact ⟨t, d', q1, q3, q4⟩
    have ntd : t ≠ d := fun z => by rw [z, hd] at ht; cases ht
    have ht4 := k4 _ _ ((upd_ne ntd).trans ht)
    have hg : DGet H4' d (kV (.inr n)) (some (.ref t)) := .inl ⟨ks, .inr n, .inr ⟨od, k4 _ _ upd_same⟩, rfl, hv.symm⟩
    have rd : Rd H4' db (.dK (kO a.2)) := by
      by_cases c : db = d
      · rw [c, hd] at ho
        rw [c]
        injection ho with z
        rw [← z]
        exact .inr ⟨od, k4 _ _ upd_same⟩
      · exact .of (k4 _ _ ((upd_ne c).trans ho))
    refine ⟨hw _, ?_⟩
    refine ⟨_, h2 _, _, h1 _, _, h2 _, d, _, rfl, hg, t, _, 0, _, rfl, rfl, SqT.of ht4, atI_nat (j := 0) rfl, _, h1 _, _, h2 _, d, _, rfl, hg, t, _, 1, _, rfl, rfl, SqT.of ht4, atI_nat (j := 1) rfl, db, kO a.2, rfl, rd, fun nw hnw => ?_⟩
    have nDw : Dl ≠ nw := ne_of_none hl4 hnw
    have kw := Same.new (o := .dK (kO a.2)) hnw
    have aw : (upd H4' nw (.dK (kO a.2))) nw = some (.dK (kO a.2)) := upd_same
    have hlw := kw _ _ hl4
    have zw : (upd H d (.frz od (.dK ks))) nw = none := Same.none k4 hnw
    generalize upd H4' nw (.dK (kO a.2)) = H5 at kw aw hlw ⊢
    refine ⟨(by show 2 ≤ sizeLine; decide), fun nt hnt => ?_⟩
    have nDt : Dl ≠ nt := ne_of_none hlw hnt
    have kt := Same.new (o := .tup [.int a.1, .ref nw]) hnt
    have at_ : (upd H5 nt (.tup [.int a.1, .ref nw])) nt = some (.tup [.int a.1, .ref nw]) := upd_same
    have hlt := kt _ _ hlw
    have aw2 := kt _ _ aw
    have k6 := k4.trans (kw.trans kt)
    have zt : (upd H d (.frz od (.dK ks))) nt = none := Same.none (k4.trans kw) hnt
    have k46 := kw.trans kt
    generalize upd H5 nt (.tup [.int a.1, .ref nw]) = H6 at k6 k46 at_ hlt aw2 ⊢
    refine ⟨(by show 2 ≤ sizeLine; decide), fun np hnp => ?_⟩
    have nDp : Dl ≠ np := ne_of_none hlt hnp
    have kp := Same.new (o := .tup [kV (.inr n), .ref nt]) hnp
    have ap : (upd H6 np (.tup [kV (.inr n), .ref nt])) np = some (.tup [kV (.inr n), .ref nt]) := upd_same
    have k47 := k46.trans kp
    have k7 := k6.trans kp
    have hl7 := kp _ _ hlt
    have at7 := kp _ _ at_
    have aw7 := kp _ _ aw2
    generalize upd H6 np (.tup [kV (.inr n), .ref nt]) = H7 at k47 k7 ap hl7 at7 aw7 ⊢
    have tk1 : l.take (i + 1) = l.take i ++ [(n, a)] := by rw [List.take_add_one, e2]; rfl
    refine ⟨_, hl7, szl (by rw [List.length_map]; omega), Same.upd k7 hD, ps ++ [np], kvs ++ [(.inr n, .ref nt)], ds ++ [nw], ?_, ?_, ?_, ?_, ?_⟩
    · rw [List.map_append]
      exact upd_same
    · refine Paired.snoc (Paired.imp' hp4 fun p kv e => ?_) ?_
      · rw [mask_updb]
        exact mask_same k47 _ _ e
      · rw [mask_updb, mask_ne nDp.symm]
        exact ap
    · rw [List.length_append, hn4]
      rfl
    · rw [tk1, newof_updn hD, mask_updb]
      refine (hL4.same (mask_same (newof_same k47))).app ?_ ?_
      · rw [mask_ne nDt.symm]
        exact newof_of zt at7
      · show mask Dl _ nw = _
        rw [mask_ne nDw.symm]
        exact newof_of zw aw7
    · refine List.nodup_append.mpr ⟨nD4, by simp, fun x hx y hy c => ?_⟩
      rw [List.mem_singleton.mp hy] at c
      obtain ⟨o, e⟩ := hL4.mem x hx
      have e3 := unmask _ _ e
      rw [c] at e3
      rw [(newof_is e3).2] at hnw
      cases hnw
  · obtain ⟨k3, ps, kvs, ds, hl3, hp3, hn3, hL3, nD3⟩ := h
    rw [List.take_of_length_le (by omega)] at hL3
    rw [newof_frz hd] at hL3
    refine ⟨k3 _ _ upd_same, ?_⟩
    have back := lock_back hd k3
    have fz := k3 _ _ (upd_same (H := H) (o := .frz od (.dK ks)))
    have nv : newof H (upd H3 d (.dK ks)) = newof H H3 := newof_upd hd
    have zD : H Dl = none := by rw [upd_ne nDd] at hD; exact hD
    refine ⟨Dl, ps, kvs, rfl, SqL.of (by rw [upd_ne nDd]; exact hl3), Paired.imp' hp3 fun p kv e => SqT.of ?_, fun p hp => ?_⟩
    · have e3 : H3 p = some (.tup [kV kv.1, kv.2]) := unmask _ _ e
      have npd : p ≠ d := fun z => by rw [z, fz] at e3; cases e3
      rw [upd_ne npd]
      exact e3
    · have ndk : (kvs.map (·.1)).Nodup := by
        rw [hL3.toL.keys]
        exact List.Pairwise.map _ (fun x y h c => h (Sum.inr.inj c)) nd
      rw [merge_nd ndk]
      have zp : H p = none := Same.none back hp
      refine q p _ kvs ds (Same.upd back zp) (newof_of zp upd_same) ?_ nD3
      rw [newof_updn zp, mask_updb, nv]
      have pnone : newof H H3 p = none := by
        have npd : p ≠ d := fun z => by rw [z, upd_same] at hp; cases hp
        rw [upd_ne npd] at hp
        unfold newof
        rw [zp]
        exact hp
      refine hL3.same fun c o e => ?_
      have e3 := unmask _ _ e
      have nc : c ≠ p := fun z => by rw [z, pnone] at e3; cases e3
      rw [mask_ne nc]
      exact e3
end
end K20
set_option maxRecDepth 100000
set_option maxHeartbeats 2000000
namespace K20
open PySem L2 Fm
theorem mask_updn {b d : Addr} {H : Hp} {o : HO} (h : d ≠ b) : mask b (upd H d o) = upd (mask b H) d o := by
  funext a
  unfold mask
  by_cases c : a = b
  · rw [if_pos c, c, upd_ne h.symm, if_pos rfl]
  · rw [if_neg c]
    by_cases e : a = d
    · rw [e, upd_same, upd_same]
    · rw [upd_ne e, upd_ne e, if_neg c]
/-- outcomes on the way from those that were -/
structure Mid (k : Nat) (o : Outs) : Prop where
  nd : Nds o
  lo : 1 ≤ o.length
  hi : o.length ≤ k
  ok : ∀ p ∈ o, isOutS p.1 = true ∧ PyData.strOk p.1 = true ∧ p.1.length ≤ 20 ∧ 0 ≤ p.2 ∧ p.2 < 3
theorem Mid.ok6 {k : Nat} {o : Outs} (m : Mid k o) (h : k ≤ 6) : OutsOk o := ⟨m.nd, m.lo, Nat.le_trans m.hi h, m.ok⟩
theorem isOutS_of {x : Str} (h : isNameS x = true) : isOutS x = true := by
  unfold isOutS
  rw [h]
  rfl
theorem nm_name {x : Str} (h : NmOk x) : isNameS x = true ∧ PyData.strOk x = true ∧ x.length ≤ 20 := ⟨isNameS_low h.1 h.2.1 h.2.2, okL_ok h.1, Nat.le_trans h.2.2 (by decide)⟩
theorem outs_mid {o : Outs} (s : OutsSm o) : Mid o.length o := ⟨s.nd, s.lo, Nat.le_refl _, fun p hp => by
  obtain ⟨h1, h2, h3⟩ := s.ok p hp
  obtain ⟨a, b, c⟩ := nm_name h1
  exact ⟨isOutS_of a, b, c, h2, h3⟩⟩
theorem acts_ok6 {k : Nat} {l : Acts} (s : ActsSm k l) (h : k ≤ 20) : ActsOk l := ⟨s.nd, Nat.le_trans s.hi h, fun p hp => by
  obtain ⟨h1, h2, h3, h4⟩ := s.ok p hp
  obtain ⟨a, b, c⟩ := nm_name h1
  exact ⟨a, b, c, h2, h3, (outs_mid h4).ok6 (Nat.le_trans h4.hi (by decide))⟩⟩
/-- acts on the way from those that were: names and numbers stay, outcomes come at names that are done -/
def Mor (l l' : Acts) (done : List Str) : Prop := l'.map (·.1) = l.map (·.1) ∧ ∀ n a', l'.lookup n = some a' → ∃ a, l.lookup n = some a ∧ a'.1 = a.1 ∧ Mid 6 a'.2 ∧ (n ∉ done → a'.2 = a.2)
theorem Mid.le {k m : Nat} {o : Outs} (h : Mid k o) (c : k ≤ m) : Mid m o := ⟨h.nd, h.lo, Nat.le_trans h.hi c, h.ok⟩
theorem Mor.first {k : Nat} {l : Acts} (s : ActsSm k l) : Mor l l [] := ⟨rfl, fun n a h => ⟨a, h, rfl, by
  have so := (s.ok _ (acts_mem h)).2.2.2
  exact (outs_mid so).le (Nat.le_trans so.hi (by decide)), fun _ => rfl⟩⟩
theorem Mor.acts {k : Nat} {l l' : Acts} {done : List Str} (s : ActsSm k l) (hk : k ≤ 20) (m : Mor l l' done) : ActsOk l' := by
  obtain ⟨h1, h2⟩ := m
  have nd : Nds l' := by unfold Nds; rw [h1]; exact s.nd
  have ln := congrArg List.length h1
  rw [List.length_map, List.length_map] at ln
  have hi := s.hi
  refine ⟨nd, by omega, fun p hp => ?_⟩
  obtain ⟨i, hi, e⟩ := List.mem_iff_getElem.mp hp
  obtain ⟨a, e1, e2, e3, _⟩ := h2 p.1 p.2 (look_get nd (List.getElem?_eq_some_iff.mpr ⟨hi, e⟩))
  obtain ⟨o1, o2, o3, o4, o5, o6⟩ := (acts_ok6 s hk).ok _ (acts_mem e1)
  exact ⟨o1, o2, o3, by rw [e2]; exact o4, by rw [e2]; exact o5, e3.ok6 (Nat.le_refl _)⟩
theorem out_dash {x : Str} (h : NmOk x) : isOutS (x ++ "-") = true ∧ PyData.strOk (x ++ "-") = true ∧ (x ++ "-").length ≤ 20 := by
  have lx : x.cps.toList.length = x.length := by simp [Str.length]
  have lm : (Str.ofString "-").length = 1 := by decide +kernel
  have la : (x ++ ("-" : Str)).length = x.length + 1 := by
    have h1 : (x ++ ("-" : Str)).cps.toList.length = (x ++ ("-" : Str)).length := by simp [Str.length]
    rw [← h1, cps_app, List.length_append, lx]
    congr 1
  refine ⟨?_, ?_, by rw [la]; have := h.2.2; omega⟩
  · unfold isOutS
    have e1 : Txt.endswith (x ++ "-") "-" = true := by
      obtain ⟨c, hc, e⟩ := last_sign (x := x ++ "-") (by rw [la]; omega)
      rw [la, cps_app, Nat.add_sub_cancel, List.getElem?_append_right (by rw [lx]; exact Nat.le_refl _), lx, Nat.sub_self] at hc
      have : c = 45 := by
        have z : (("-" : Str).cps.toList)[0]? = some 45 := by decide +kernel
        rw [z] at hc
        exact (Option.some.inj hc).symm
      rw [e, this]
      decide +kernel
    have e2 : cutLast (x ++ "-") = x := by
      refine str_ext ?_
      unfold cutLast cutS
      have f1 : HT.sIx (x ++ ("-" : Str)).length 0 none = 0 := rfl
      have f2 : HT.sIx (x ++ ("-" : Str)).length (x ++ ("-" : Str)).length (some (-1)) = x.length := by
        show (if (-1 : Int) < 0 then ((-1 : Int) + ((x ++ ("-" : Str)).length : Int)).toNat else min (-1 : Int).toNat (x ++ ("-" : Str)).length) = _
        rw [if_pos (by decide), la]
        omega
      rw [f1, f2, Nat.sub_zero, List.drop_zero, cps_app, List.take_append_of_le_length (by rw [lx]; exact Nat.le_refl _), ← lx, List.take_length]
    rw [e1, e2, isNameS_low h.1 h.2.1 h.2.2, Bool.true_and, Bool.or_true]
  · unfold PyData.strOk
    rw [Array.all_eq_true_iff_forall_mem]
    intro c hc
    have hc2 : c ∈ (x ++ ("-" : Str)).cps.toList := Array.mem_toList_iff.mpr hc
    rw [cps_app] at hc2
    rcases List.mem_append.mp hc2 with h1 | h1
    · have := okL_iff.mp h.1 c h1
      simp
      omega
    · have z : ("-" : Str).cps.toList = [45] := by decide +kernel
      rw [z] at h1
      rw [List.mem_singleton.mp h1]
      decide
section
variable {P : Program} {w : World} {K : PySem.W.Frag} {mg : Str → Option Value} {base : Heap} (T : Txt K mg)
/-- new acts: some outcomes with a sign more -/
def spMore : Sp := fun vs H Q _ => ∃ (b p d : Addr) (l : Acts), vs = [.ref b, .ref d] ∧ Bag b p H ∧ ActsAt (mask b H) d l ∧ ActsSm 4 l ∧
  ∀ (d' : Addr) (H' : Hp) (l' : Acts), Go b p H H' → ActsAt (newof H H') d' l' → ActsOk l' → l'.length ≤ 4 → Q (.ref d') H'
theorem ok_law_more : FnOk P w K mg base CX0 3 T.a__law_more T.d__law_more ["_law_bag_here", "_law_acts_here"] spMore := by
  have G__law_take := ok_law_take (P := P) (w := w) (base := base) T
  refine T.F__law_more.ok sc__law_more ?_ (fun cdv A outer s H vs Q E hr h => ?_)
  · rintro vs H Q E ⟨b, p, d, l, rfl, _⟩
    rfl
  obtain ⟨b, p, d, l, rfl, B, hA, sm, q⟩ := h
  refine ⟨_, 
    (pss_cons (ps_set (i := 2) sc__law_more.nd rfl (Or.inl rfl) (pe_callTy (call_dictP rfl) (by rfl) T.m_dict (by decide +kernel) (pa_cons (pe_lock (pe_lc (own := [("_law_act", 3)]) (g := gName 3) (tt := tYes) rfl sc__law_more.nd (pi_keys (pv 1)) (blkOk_by (N := N__law_more) (sc := defScope s__law_more) (by decide +kernel)) (fun _ _ _ _ _ => pg_name (i := 3) sc__law_more.nd rfl (Or.inl rfl)) (fun _ _ _ _ _ => pts_nil) (fun _ _ _ _ _ => pe_tup (pa_cons (pv 3) (pa_cons (pe_tup (pa_cons (pe_ix (r := rIxT K) ix_tup (pe_dget (hu1 hr) (pv 1) (pv 3) (fun _ _ => rfl)) pe_int (fun _ _ => rfl)) (pa_cons (pe_callTy call_dictD (by rfl) T.m_dict (by decide +kernel) (pa_cons (pe_ix (r := rIxT K) ix_tup (pe_dget (hu1 hr) (pv 1) (pv 3) (fun _ _ => rfl)) pe_int (fun _ _ => rfl)) pa_nil)) pa_nil))) pa_nil))))) pa_nil)))
    (pss_cons (ps_for PassesOwn.never rfl (pi_list (pe_callB (call_sortedD rfl) (by rfl) T.m_sorted (by decide +kernel) (pa_cons (pv 2) pa_nil))) (pg_name (i := 3) sc__law_more.nd rfl (Or.inl rfl)) (pss_one (ps_for PassesOwn.never rfl (pi_list (pe_callB (call_sortedD rfl) (by rfl) T.m_sorted (by decide +kernel) (pa_cons (pe_ix ix_tup (pe_dget (hu1 hr) (pv 2) (pv 3) (fun _ _ => rfl)) pe_int (fun _ _ => rfl)) pa_nil))) (pg_name (i := 4) sc__law_more.nd rfl (Or.inl rfl)) (pss_one (ps_if (pt_cmpR op_eq (pe_call G__law_take (hr.mono (by omega)) (by rfl) T.f__law_take T.F__law_take.kp T.b__law_take .nil pass0 (pa_cons (pv 0) (pa_cons pe_int pa_nil))) pe_int (nomark _)) (pss_one (ps_dput (hu1 hr) (pe_ix ix_tup (pe_dget (hu1 hr) (pv 2) (pv 3) (fun _ _ => rfl)) pe_int (fun _ _ => rfl)) (pe_op op_add_str (pv 4) pe_str) (pe_call G__law_take (hr.mono (by omega)) (by rfl) T.f__law_take T.F__law_take.kp T.b__law_take .nil pass0 (pa_cons (pv 0) (pa_cons pe_int pa_nil))) rfl)) pss_nil)))))
    (pss_one (ps_ret (pv 2))))), ?_⟩
  obtain ⟨ks, hdm, hLm⟩ := hA
  have hd := unmask _ _ hdm
  have hL := hLm.same unmask
  have hi := sm.hi
  unfold tSeq tAsg
  refine copy_acts (K := K) (ia := 1) (ij := 3) hd hL sm.nd (by omega) ?_ ?_ ?_ ?_ (fun p1 H1 ks1 ds k1 f1 hD nD => ?_)
  · rfl
  · intro _; rfl
  · intro _; rfl
  · intro _; rfl
  have hDL := hD.toL.len
  have g1 : Go b p H H1 := (Go.refl B).same k1
  refine ⟨_, rfl, p1, ks1, l.map (·.1), rfl, .of (newof_is f1).2, hD.toL.keys, (by rw [List.length_map]; omega), fun ys pl pm sr hpl => ?_⟩
  have zl := g1.free hpl
  have g2 := g1.new (o := .lst (ys.map V.str)) hpl
  have np1 : p1 ≠ pl := ne_of_none (newof_is f1).2 hpl
  have n2 : newof H (upd H1 pl (.lst (ys.map V.str))) = upd (newof H H1) pl (.lst (ys.map V.str)) := newof_updn zl
  have fl2 : newof H (upd H1 pl (.lst (ys.map V.str))) pl = some (.lst (ys.map V.str)) := newof_of zl upd_same
  have k2 : Same (newof H H1) (newof H (upd H1 pl (.lst (ys.map V.str)))) := newof_same (Same.new hpl)
  have f2 := k2 _ _ f1
  have hD2 := hD.same (mask_same k2)
  generalize upd H1 pl (.lst (ys.map V.str)) = H2 at g2 fl2 f2 hD2 ⊢
  refine ⟨pl, rfl, ⟨_, SqL.of (newof_is fl2).2⟩, ?_⟩
  have ynd : ys.Nodup := pm.nodup_iff.mpr sm.nd
  refine for_list (xs := ys.map V.str) (fun i σ H' => ∃ o3 o4 l', σ = [some (.ref b), some (.ref d), some (.ref p1), o3, o4] ∧ Go b p H H' ∧ newof H H' pl = some (.lst (ys.map V.str)) ∧ newof H H' p1 = some (.dK ks1) ∧ ActsD (mask p1 (newof H H')) ks1 l' ds ∧ Mor l l' (ys.take i))
    ⟨none, none, l, rfl, g2, fl2, f2, hD2, Mor.first sm⟩ (fun i σ H' _ h => by obtain ⟨_, _, _, _, _, h, _⟩ := h; exact SqL.of (newof_is h).2) ?_ ?_
  · rintro i y σ H3 hy ⟨o3, o4, l', rfl, g3, fl3, f3, hD3, mo⟩
    obtain ⟨n, hn, rfl⟩ : ∃ n, ys[i]? = some n ∧ y = .str n := by
      rw [List.getElem?_map] at hy
      obtain ⟨n, e1, e2⟩ := Option.map_eq_some_iff.mp hy
      exact ⟨n, e1, e2.symm⟩
    have hnl : n ∈ l'.map (·.1) := by rw [mo.1]; exact pm.mem_iff.mp (List.mem_of_getElem? hn)
    obtain ⟨a', ha'⟩ := acts_look hnl
    obtain ⟨a, ha, ea, _, eo⟩ := mo.2 n a' ha'
    have nty : n ∉ ys.take i := fun c => by
      obtain ⟨j, hj, e⟩ := List.mem_iff_getElem.mp c
      rw [List.getElem_take] at e
      rw [List.length_take] at hj
      obtain ⟨h1, h2⟩ := List.getElem?_eq_some_iff.mp hn
      have := (List.getElem_inj ynd).mp (e.trans h2.symm)
      omega
    have eo := eo nty
    have so := (sm.ok _ (acts_mem ha)).2.2.2
    have so3 := so.hi
    have nl' : Nds l' := by unfold Nds; rw [mo.1]; exact sm.nd
    obtain ⟨t, dO, mds, hv, ht, hdO, _⟩ := hD3.at_ nD nl' ha'
    have ht3 := (newof_is (unmask _ _ ht)).2
    have hdO3 := (newof_is (unmask _ _ hdO)).2
    have hp13 := (newof_is f3).2
    refine ⟨_, rfl, _, rfl, p1, _, rfl, (by rw [← hv]; exact DGet.k (k := .inr n) hp13), t, _, 1, _, rfl, rfl, SqT.of ht3, atI_nat (j := 1) rfl, dO, kO a'.2, a'.2.map (·.1), rfl, .of hdO3, (by unfold kO; rw [List.map_map, List.map_map]; rfl), (by rw [List.length_map, eo]; exact Nat.lt_of_le_of_lt so3 (by decide)), fun ws pw pmw srw hpw => ?_⟩
    have aa : a' = a := Prod.ext ea eo
    subst aa
    have g4 := g3.new (o := .lst (ws.map V.str)) hpw
    have zw := g3.free hpw
    have k4 : Same (newof H H3) (newof H (upd H3 pw (.lst (ws.map V.str)))) := newof_same (Same.new hpw)
    have fl4 := k4 _ _ fl3
    have f4 := k4 _ _ f3
    have hD4 := hD3.same (mask_same k4)
    have fw4 : newof H (upd H3 pw (.lst (ws.map V.str))) pw = some (.lst (ws.map V.str)) := newof_of zw upd_same
    generalize upd H3 pw (.lst (ws.map V.str)) = H4 at g4 fl4 f4 hD4 fw4 ⊢
    refine ⟨pw, rfl, ⟨_, SqL.of (newof_is fw4).2⟩, ?_⟩
    refine for_list (xs := ws.map V.str) (fun j σ H' => ∃ o4 l2 o2, σ = [some (.ref b), some (.ref d), some (.ref p1), some (.str n), o4] ∧ Go b p H H' ∧ newof H H' pl = some (.lst (ys.map V.str)) ∧ newof H H' p1 = some (.dK ks1) ∧ newof H H' pw = some (.lst (ws.map V.str)) ∧
        ActsD (mask p1 (newof H H')) ks1 l2 ds ∧ l2.map (·.1) = l.map (·.1) ∧ l2.lookup n = some (a'.1, o2) ∧ Mid (a'.2.length + j) o2 ∧ ∀ q, q ≠ n → l2.lookup q = l'.lookup q)
      ⟨_, l', a'.2, rfl, g4, fl4, f4, fw4, hD4, mo.1, ha', outs_mid so, fun _ _ => rfl⟩ (fun j σ H' _ h => by obtain ⟨_, _, _, _, _, _, _, h, _⟩ := h; exact SqL.of (newof_is h).2) ?_ ?_
    · rintro j y σ H5 hy2 ⟨o4', l2, o2, rfl, g5, fl5, f5, fw5, hD5, nm2, hl2, mid2, oth2⟩
      obtain ⟨x, hx, rfl⟩ : ∃ x, x ∈ ws ∧ y = .str x := by
        obtain ⟨x, h1, h2⟩ := List.mem_map.mp (List.mem_of_getElem? hy2)
        exact ⟨x, h1, h2.symm⟩
      have hj : j < a'.2.length := by
        have h1 := (List.getElem?_eq_some_iff.mp hy2).1
        rw [List.length_map, pmw.length_eq, List.length_map] at h1
        exact h1
      have xok : NmOk x := by
        obtain ⟨p, hp, rfl⟩ := List.mem_map.mp (pmw.mem_iff.mp hx)
        exact (so.ok p hp).1
      obtain ⟨xo1, xo2, xo3⟩ := out_dash xok
      refine ⟨_, rfl, b, p, 2, rfl, g5.B, by decide, by decide, fun k H6 c0 c1 g6 => ⟨rfl, _, rfl, ite_b (fun _ => ?_) (fun _ => ?_)⟩⟩
      · refine ⟨_, rfl, b, p, 3, rfl, g6.B, by decide, by decide, fun v H7 v0 v1 g7 => ?_⟩
        have g57 := g6.trans g7
        have k7 := newof_go (H := H) B g57
        have g07 := g5.trans g57
        have fl7 := k7 _ _ fl5
        have f7 := k7 _ _ f5
        have fw7 := k7 _ _ fw5
        have hD7 := hD5.same (mask_same k7)
        have nl2 : Nds l2 := by unfold Nds; rw [nm2]; exact sm.nd
        obtain ⟨t2, d2, md2, hv2, ht2, hd2, up2⟩ := hD7.at_ nD nl2 hl2
        have ht7 := (newof_is (unmask _ _ ht2)).2
        have hd7 := newof_is (unmask _ _ hd2)
        have np12 : p1 ≠ d2 := fun z => by
          rw [← z] at hd2
          unfold mask at hd2
          rw [if_pos rfl] at hd2
          cases hd2
        have lx : x.length + (Str.ofString "-").length ≤ sizeLine := by
          have := xok.2.2
          have e1 : (Str.ofString "-").length = 1 := by decide +kernel
          rw [e1]
          exact Nat.le_trans (Nat.add_le_add_right this 1) (by decide)
        have lo2 := mid2.hi
        have lk2 : (kO o2).length ≤ 10 := by unfold kO; rw [List.length_map]; have h3 : a'.2.length ≤ 3 := so3; omega
        have so3' : a'.2.length ≤ 3 := so3
        refine ⟨_, rfl, _, rfl, p1, _, rfl, (by rw [← hv2]; exact DGet.k (k := .inr n) (newof_is f7).2), t2, _, 1, _, rfl, rfl, SqT.of ht7, atI_nat (j := 1) rfl, _, rfl, _, _, rfl, rfl, lx, d2, _, rfl, DPut.k (k := .inr (x ++ "-")) hd7.2 (szl (Nat.le_trans lk2 (by decide))), ?_⟩
        rw [kO_put]
        have g8 : Go b p H (upd H7 d2 (.dK (kO (putS o2 (x ++ "-") v)))) := Go.mut B g07 hd7.1
        have n8 : newof H (upd H7 d2 (.dK (kO (putS o2 (x ++ "-") v)))) = upd (newof H H7) d2 (.dK (kO (putS o2 (x ++ "-") v))) := newof_updn hd7.1
        have npl : pl ≠ d2 := fun z => by rw [z, unmask _ _ hd2] at fl7; cases fl7
        have npw : pw ≠ d2 := fun z => by rw [z, unmask _ _ hd2] at fw7; cases fw7
        have lp := len_putS (l := o2) (n := x ++ "-") (a := v)
        refine ⟨_, putS l2 n (a'.1, putS o2 (x ++ "-") v), putS o2 (x ++ "-") v, rfl, g8, ?_, ?_, ?_, ?_, ?_, ?_, ⟨nds_putS mid2.nd, lp.2, by omega, fun p hp => ?_⟩, fun q hq => ?_⟩
        · rw [n8, upd_ne npl]; exact fl7
        · rw [n8, upd_ne np12]; exact f7
        · rw [n8, upd_ne npw]; exact fw7
        · rw [n8, mask_updn np12.symm]; exact up2 _
        · rw [names_putS (List.mem_map.mpr ⟨_, acts_mem hl2, rfl⟩)]; exact nm2
        · rw [lookup_putS, if_pos rfl]
        · rcases mem_putS hp with h | rfl
          · exact mid2.ok p h
          · exact ⟨xo1, xo2, xo3, v0, v1⟩
        · rw [lookup_putS, if_neg hq]; exact oth2 q hq
      · have k6 := newof_go (H := H) B g6
        exact ⟨_, l2, o2, rfl, g5.trans g6, k6 _ _ fl5, k6 _ _ f5, k6 _ _ fw5, hD5.same (mask_same k6), nm2, hl2, mid2.le (by omega), oth2⟩
    · rintro σ H5 ⟨o4', l2, o2, rfl, g5, fl5, f5, fw5, hD5, nm2, hl2, mid2, oth2⟩
      have lw : (ws.map V.str).length = a'.2.length := by rw [List.length_map, pmw.length_eq, List.length_map]
      rw [lw] at mid2
      have tk1 : ys.take (i + 1) = ys.take i ++ [n] := by rw [List.take_add_one, hn]; rfl
      refine ⟨_, _, l2, rfl, g5, fl5, f5, hD5, nm2, fun m z hz => ?_⟩
      by_cases c : m = n
      · subst c
        rw [hl2] at hz
        cases hz
        exact ⟨a', ha, rfl, mid2.le (by have : a'.2.length ≤ 3 := so3; omega), fun h => absurd (by rw [tk1]; exact List.mem_append_right _ (List.mem_singleton.mpr rfl)) h⟩
      · rw [oth2 m c] at hz
        obtain ⟨a2, e1, e2, e3, e4⟩ := mo.2 m z hz
        exact ⟨a2, e1, e2, e3, fun h => e4 fun h2 => h (by rw [tk1]; exact List.mem_append_left _ h2)⟩
  · rintro σ H3 ⟨o3, o4, l', rfl, g3, fl3, f3, hD3, mo⟩
    refine ⟨_, rfl, q p1 H3 l' g3 ⟨ks1, f3, hD3.toL.same unmask⟩ (mo.acts sm (by decide)) (by have h1 := congrArg List.length mo.1; rw [List.length_map, List.length_map] at h1; omega)⟩
end
end K20
set_option maxRecDepth 100000
set_option maxHeartbeats 2000000
/-! sorted(d.items()): pairs of a text and an int -/
namespace Fm
open PySem PySem.Spec PyProof.Rows L2
section
variable {prog : Program} {w : World} {A : Around} {E : Value → Shared → Prop} {s : Shared}
/-- v is a tuple of a text and an int in the heap -/
def IsSI (h : Heap) (v : Value) (x : Str) (y : Int) : Prop := ∃ a o t u n, v = .ref a ∧ h.get? a = some o ∧ o.cls = .type "tuple" ∧ o.data = .seq #[.str x t, .int y u] n
theorem IsSI.keeps {h h' : Heap} {v : Value} {x : Str} {y : Int} (p : IsSI h v x y) (k : ∀ b o, h.get? b = some o → o.cls = .type "tuple" → h'.get? b = some o) : IsSI h' v x y := by
  obtain ⟨a, o, t, u, n, e, ho, hc, hd⟩ := p
  exact ⟨a, o, t, u, n, e, k _ _ ho hc, hc, hd⟩
theorem si_tot {vs : List Value} (hp : ∀ v ∈ vs, ∃ x y, IsSI s.heap v x y) : Srt.Tot prog w A s (tuples' true) (fun p => p.1 ∈ vs) := by
  intro p q hm hm'
  obtain ⟨x, y, a, o, t, u, n, e, ho, hc, hd⟩ := hp _ hm
  obtain ⟨x', y', a', o', t', u', n', e', ho', hc', hd'⟩ := hp _ hm'
  rw [e, e']
  refine ⟨if x = x' then (if y = y' then false else decide (y < y')) else decide (x.cps.toList < x'.cps.toList), ?_⟩
  refine PySem.W.kat_lt ho hd ho' hd' ?_
  show PySem.W.KatLex prog w A true (decide (2 < 2)) _ [(.str x t, .str x' t'), (.int y u, .int y' u')] 0 s
  refine PySem.W.kat_cons (SeqAt.EqAt.str_str x t x' t' prog w _ _ ?_)
  refine PySem.W.kat_go (fun e1 => ?_) (fun e1 => ?_)
  · have ex : x = x' := by simpa using e1
    refine PySem.W.kat_yes (PySem.W.kat_cons (SeqAt.EqAt.int_int y u y' u' prog w _ _ ?_))
    refine PySem.W.kat_go (fun e2 => ?_) (fun e2 => ?_)
    · have ey : y = y' := by simpa using e2
      have e3 : (if x = x' then (if y = y' then false else decide (y < y')) else decide (x.cps.toList < x'.cps.toList)) = false := by rw [if_pos ex, if_pos ey]
      exact PySem.W.kat_yes (PySem.W.kat_nil ⟨rfl, e3.symm⟩)
    · have ey : ¬ y = y' := by simpa using e2
      have e3 : (if x = x' then (if y = y' then false else decide (y < y')) else decide (x.cps.toList < x'.cps.toList)) = decide (y < y') := by rw [if_pos ex, if_neg ey]
      refine PySem.W.kat_no (PySem.W.kat_one _ _ (PyProof.Rows.lt_int ?_))
      exact (show s = s ∧ decide (y < y') = (if x = x' then (if y = y' then false else decide (y < y')) else decide (x.cps.toList < x'.cps.toList)) from ⟨rfl, e3.symm⟩)
  · have ex : ¬ x = x' := by simpa using e1
    have e3 : (if x = x' then (if y = y' then false else decide (y < y')) else decide (x.cps.toList < x'.cps.toList)) = decide (x.cps.toList < x'.cps.toList) := by rw [if_neg ex]
    exact PySem.W.kat_no (oneLt_any_str ⟨rfl, e3.symm⟩)
theorem si_firsts {h : Heap} : ∀ {vs : List Value}, (∀ v ∈ vs, ∃ x y, IsSI h v x y) → ∃ fs : List Value, PySem.W.KatTups h vs fs ∧ fs.length = vs.length ∧ ∀ f ∈ fs, ∃ x t, f = Value.str x t
  | [], _ => ⟨[], PySem.W.KatTups.nil, rfl, fun _ hm => by simp at hm⟩
  | v :: vs, hp => by
    obtain ⟨fs, h1, h2, h3⟩ := si_firsts (vs := vs) fun v' hm => hp v' (List.mem_cons_of_mem _ hm)
    obtain ⟨x, y, a, o, t, u, n, e, ho, hc, hd⟩ := hp v (List.mem_cons_self ..)
    subst e
    refine ⟨.str x t :: fs, PySem.W.KatTups.cons ho hc hd rfl h1, by rw [List.length_cons, List.length_cons, h2], fun f hm => ?_⟩
    rcases List.mem_cons.mp hm with rfl | hm
    · exact ⟨x, t, rfl⟩
    · exact h3 f hm
theorem si_sortable {a : Addr} {vs : List Value} (h0 : 0 < vs.length) (hp : ∀ v ∈ vs, ∃ x y, IsSI s.heap v x y) (ha : ∀ o, s.heap.get? a = some o → o.cls ≠ .type "tuple") : Srt.Sortable prog w A s a vs := by
  intro h' keep
  have hp' : ∀ v ∈ vs, ∃ x y, IsSI h' v x y := fun v hm => by
    obtain ⟨x, y, p⟩ := hp v hm
    exact ⟨x, y, p.keeps fun b o e c => keep b o (fun z => by subst z; exact ha o e c) e⟩
  obtain ⟨fs, h1, h2, h3⟩ := si_firsts hp'
  refine ⟨tuples' true, fun Q E hq => ?_, si_tot hp'⟩
  refine PySem.W.kat_kind (T := .type "str") h1 (by omega) (fun f hm => ?_) (by rfl) ?_
  · obtain ⟨x, t, rfl⟩ := h3 f hm
    exact PySem.W.Looks.now
  · have e : (Value.type "str" != Value.type "tuple") = true := by first | decide +kernel | rfl | decide
    rw [e]
    exact hq
end
section
variable {X : Cx}
/-- d.items() of a dict of names -/
def rItemsK : V → List V → Hp → VK → Prop := fun x xs H Q => ∃ (a : Addr) (kvs : List (Key × V)), x = .ref a ∧ xs = [] ∧ H a = some (.dK kvs) ∧ ∀ p, H p = none → Q (.ref p) (upd H p (L2.DX.itemsO p a))
theorem mt_itemsK : MtR X "dict.items" rItemsK := by
  intro pins s σ H x xs v us Q I rx rxs h
  obtain ⟨a, kvs, rfl, rfl, ha, q⟩ := h
  cases rx
  cases rxs
  obtain ⟨hz, hs0, vs, kv, hdo⟩ := I.hok a _ ha
  have hf : H s.heap.objs.size = none := I.hok.fresh (Nat.le_refl _)
  refine call_meetsIn PySem.F.slot_dict_items hdo.typeIs PySem.F.entry_dict_items (PySem.F.args_dict_items_1 _) (meets_dict_items (mixKind X.prog X.w) a hs0) ⟨⟨vs, hdo⟩, ?_⟩
  exact ⟨.ref s.heap.objs.size, upd H s.heap.objs.size (L2.DX.itemsO s.heap.objs.size a), I.laid (t' := s.toks) (fun b u e => Heap.get?_push_of_some _ e) (Nat.le_refl _) (L2.DX.itemsO_ok (Heap.get?_push_size _ rfl)), rfl, q _ hf⟩
/-- sorted(d.items()): the same pairs in some order -/
def rSortIK : List V → Hp → VK → Prop := fun vs H Q => ∃ (p a : Addr) (ks : Outs), vs = [.ref p] ∧ H p = some (L2.DX.itemsO p a) ∧ H a = some (.dK (kO ks)) ∧ 1 ≤ ks.length ∧ ks.length < 64 ∧
  ∀ (H' : Hp) (l : Addr) (zs : List (Addr × (Str × Int))), Same H H' → H l = none → (zs.map (·.2)).Perm ks → H' l = some (.lst (zs.map fun z => V.ref z.1)) → (∀ z ∈ zs, H' z.1 = some (.tup [.str z.2.1, .int z.2.2])) → Q (.ref l) H'
theorem cr_sortIK (hc : X.calm = true) : CallR X (.builtin "sorted") rSortIK := by
  intro pins s σ H xs us Q I r h
  obtain ⟨p, a, ks, rfl, hp, ha, h1k, h64, q⟩ := h
  obtain rfl := Vals.ref1 r
  have view : s.heap.IsItemsView p a := (show ObjOk X.prog X.w H s.heap p (L2.DX.itemsO p a) from I.hok p _ hp).1
  obtain ⟨hz, hs0, vs, kv, hdo⟩ := I.hok a _ ha
  obtain ⟨ep, hat⟩ := hdo.dictAt
  have lk : (kO ks).length = vs.length := Paired.length kv
  have lks : ks.length = vs.length := by rw [← lk]; unfold kO; rw [List.length_map]
  have hh : X.A.handled = none := I.ok.hd hc
  refine Calls.call_function_entry kind_sorted plain_sorted entry_sorted (args_sorted1 _) ?_
  unfold Builtin.«sorted»
  refine wpAny_bind (m := checkCount "sorted" 1 1 _) (wpAny_pure ?_)
  refine wpAny_bind (PySem.W.kdx_collect (A := X.A.in1) (knd := mixKind X.prog X.w) (kvs := vs) (ep := ep) hh view hat (by omega) fun h' tk as hk hl hG => ?_)
  have lak : as.length = ks.length := by omega
  have nd : as.Nodup := List.Pairwise.imp (fun {a b} (h : a < b) => Nat.ne_of_lt h) hG.rise
  refine wpAny_bind (wpAny_newList ?_ (by rw [List.length_map, sizeLine_eq]; omega))
  -- the pairs that were made
  have pr : ∀ (j : Nat) (b : Addr), as[j]? = some b → ∃ (e : Str × Int) (t u : Tok), ks[j]? = some e ∧ h'.get? b = some { cls := .type "tuple", data := .seq #[Value.str e.1 t, Value.int e.2 u] } := by
    intro j b hj
    obtain ⟨key, k, x, f1, f2, f3⟩ := hG.pairs j b hj
    obtain ⟨e0, g1, g2, g3⟩ := L2.DX.pget kv f1
    unfold kO at g1
    rw [List.getElem?_map] at g1
    cases hkj : ks[j]? with
    | none => rw [hkj] at g1; exact nomatch (show (none : Option (Key × V)) = some e0 from g1)
    | some e =>
      rw [hkj] at g1
      have ee : ((.inr e.1 : Key), V.int e.2) = e0 := Option.some.inj g1
      rw [← ee] at g2 g3
      have g2' : (.inr e.1 : Key) = k := g2
      have rk : RelV (kV (.inr e.1)) key := by
        rw [g2']
        exact relV_key (show keyIs k key = true from f2)
      obtain ⟨t, rfl⟩ := rk
      obtain ⟨u, rfl⟩ := g3
      exact ⟨e, t, u, rfl, f3⟩
  have hob : (h'.push { cls := .type "list", data := .seq (as.map Value.ref).toArray }).get? h'.objs.size = some (seqObj "list" (as.map Value.ref).toArray 0) := Heap.get?_push_size _ rfl
  have kb : ∀ b o, s.heap.get? b = some o → (h'.push { cls := .type "list", data := .seq (as.map Value.ref).toArray }).get? b = some o := fun b o e => Heap.get?_push_of_some _ (hk b o e)
  have ne0 : ∀ b o, h'.get? b = some o → b ≠ h'.objs.size := fun b o e => Nat.ne_of_lt (Heap.lt_size e)
  have hle : s.heap.objs.size ≤ h'.objs.size := by
    obtain ⟨b, hb⟩ : ∃ b, b ∈ as := by
      cases as with
      | nil => simp at lak; omega
      | cons b _ => exact ⟨b, List.mem_cons_self⟩
    exact Nat.le_of_lt (Nat.lt_trans (hG.above b hb) (hG.there hb))
  generalize hh2 : h'.push { cls := .type "list", data := .seq (as.map Value.ref).toArray } = h2 at hob kb ⊢
  have ka : ∀ b o, h'.get? b = some o → h2.get? b = some o := fun b o e => by rw [← hh2]; exact Heap.get?_push_of_some _ e
  refine wpAny_bind (wpAny_holding (wpAny_call_entry slot_list_sort ⟨_, hob, rfl⟩ entry_list_sort (Srt.list_sort_any (s := { s with heap := h2, toks := tk }) hob (by rw [List.length_map, sizeLine_eq]; omega) (fun h2' => ?_) fun out hp2 => ⟨_, rfl, ?_⟩) (args_list_sort _)))
  · refine si_sortable (s := { s with heap := h2, toks := tk }) (by omega) (fun v hv => ?_) fun o e c => ?_
    · obtain ⟨b, hb, rfl⟩ := List.mem_map.mp hv
      obtain ⟨j, hj⟩ := List.mem_iff_getElem?.mp hb
      obtain ⟨e, t, u, _, hg⟩ := pr j b hj
      exact ⟨e.1, e.2, b, _, t, u, 0, rfl, ka _ _ hg, rfl, rfl⟩
    · have e' : some o = some (seqObj "list" (as.map Value.ref).toArray 0) := e.symm.trans hob
      cases e'
      exact absurd (Value.type.inj c) (by decide)
  · refine wpAny_pure ⟨_, rfl, ?_⟩
    show EP X pins σ Q (.ref h'.objs.size) { s with heap := sortedHeap h2 h'.objs.size (as.map Value.ref) out.toArray, toks := tk }
    -- the order of the pairs
    obtain ⟨zs, pz, ez⟩ := perm_lift (fun z : Addr × Str × Int => Value.ref z.1) hp2 (as.zip ks) (by
      have : (as.zip ks).map (fun z : Addr × Str × Int => Value.ref z.1) = ((as.zip ks).map (·.1)).map Value.ref := by rw [List.map_map]; rfl
      rw [this, List.map_fst_zip (by rw [lak]; exact Nat.le_refl _)])
    have idx : ∀ z ∈ zs, ∃ j : Nat, as[j]? = some z.1 ∧ ks[j]? = some z.2 := by
      intro z' hz'
      obtain ⟨j, hj⟩ := List.mem_iff_getElem?.mp (pz.mem_iff.mp hz')
      exact ⟨j, List.getElem?_zip_eq_some.mp hj⟩
    have hperm : (zs.map (·.2)).Perm ks := by
      have e := pz.map (·.2)
      have m2 : (as.zip ks).map (·.2) = ks := List.map_snd_zip (by rw [lak]; exact Nat.le_refl _)
      rw [m2] at e
      exact e
    have kF : ∀ b o, b ≠ h'.objs.size → h2.get? b = some o → (sortedHeap h2 h'.objs.size (as.map Value.ref) out.toArray).get? b = some o := fun b o hb e => (PyProof.Rows.sortedHeap_old hb (Heap.lt_size e)).trans e
    have kS : ∀ b o, s.heap.get? b = some o → (sortedHeap h2 h'.objs.size (as.map Value.ref) out.toArray).get? b = some o := fun b o e => kF b o (ne0 _ _ (hk b o e)) (kb b o e)
    obtain ⟨eF, heF⟩ := PyProof.Rows.sortedHeap_at (vs := as.map Value.ref) (out := out.toArray) hob
    have I1 : Inv X pins σ H { s with heap := sortedHeap h2 h'.objs.size (as.map Value.ref) out.toArray, toks := tk } := I.kept (t' := tk) kS
    have hn0 : H h'.objs.size = none := I.hok.fresh hle
    have hlen : (zs.map fun z => V.ref z.1).length ≤ sizeLine := by
      have e := hperm.length_eq
      rw [List.length_map] at e
      rw [List.length_map, sizeLine_eq]
      omega
    have rv : Vals (zs.map fun z => V.ref z.1) out := by
      rw [← ez]
      exact vals_maps (fun z : Addr × Str × Int => V.ref z.1) (fun z => Value.ref z.1) zs fun _ _ => rfl
    have I2 : Inv X pins σ (upd H h'.objs.size (.lst (zs.map fun z => V.ref z.1))) { s with heap := sortedHeap h2 h'.objs.size (as.map Value.ref) out.toArray, toks := tk } :=
      I1.take (h' := sortedHeap h2 h'.objs.size (as.map Value.ref) out.toArray) (t' := tk) (fun b ob _ e => e) (I.fpOk hle hn0) ⟨hlen, out, eF, rv, heF⟩
    obtain ⟨H2, I3, g, qt⟩ := L2.DX.takeT (P := fun b vs => ∃ (j : Nat) (e : Str × Int), as[j]? = some b ∧ ks[j]? = some e ∧ vs = [.str e.1, .int e.2]) I as _ I2 nd fun b hb => by
      obtain ⟨j, hj⟩ := List.mem_iff_getElem?.mp hb
      obtain ⟨e, t, u, he, hg⟩ := pr j b hj
      have hbl : s.heap.objs.size ≤ b := Nat.le_of_lt (hG.above b hb)
      refine ⟨hbl, ?_, [.str e.1, .int e.2], ⟨j, e, hj, he, rfl⟩, fun H3 => ⟨(by rw [sizeLine_eq]; show 2 ≤ 16777216; omega), [Value.str e.1 t, Value.int e.2 u], .cons ⟨t, rfl⟩ (.cons ⟨u, rfl⟩ .nil), ⟨_, kF _ _ (ne0 _ _ hg) (ka _ _ hg), rfl, 0, rfl⟩⟩⟩
      rw [upd_ne (ne0 _ _ hg)]
      exact I.hok.fresh hbl
    have gr : ∀ b o, H b = some o → H2 b = some o := fun b o e => g b o (by rw [upd_ne (ne_of_none e hn0)]; exact e)
    refine ⟨.ref h'.objs.size, H2, I3, rfl, q H2 h'.objs.size zs gr hn0 hperm (g _ _ upd_same) fun z' hz' => ?_⟩
    obtain ⟨i, i1, i2⟩ := idx z' hz'
    obtain ⟨vs, ⟨j, e, j1, j2, ev⟩, hH⟩ := qt z'.1 (List.mem_of_getElem? i1)
    have eij : i = j := (List.getElem?_inj (List.getElem?_eq_some_iff.mp i1).1 nd).mp (i1.trans j1.symm)
    subst eij
    have ee : e = z'.2 := Option.some.inj (j2.symm.trans i2)
    rw [ev, ee] at hH
    exact hH
theorem pe_itemsK {K : PySem.W.Frag} {o : Expr} {to : TE} {apos cpos : Pos} (hK : X.K = K) (ho : PE X o to) (hbase : attributeBase o "items" X.env (eval o X.env) = eval o X.env := by rfl) (hline : (apos.endLine == cpos.line) = true := by rfl) :
    PE X (.Call (.Attribute o "items" apos) [] [] cpos) (tBM0 K "dict" rItemsK to) := by
  subst hK
  exact pe_bm0 PySem.F.plainAttrs_dict PySem.F.slot_dict_items PySem.F.type_dict_items mt_itemsK ho hbase hline
/-- dict(l) of pairs -/
def rDictP (K : PySem.W.Frag) : List V → Hp → VK → Prop := fun xs H Q => ∃ (a : Addr) (ps : List Addr) (kvs : List (Key × V)), xs = [.ref a] ∧ SqL K H a (ps.map V.ref) ∧ Paired (fun (p : Addr) (kv : Key × V) => SqT K H p [kV kv.1, kv.2]) ps kvs ∧ ∀ p, H p = none → Q (.ref p) (upd H p (.dK (mergeK [] kvs)))
end
end Fm
set_option maxRecDepth 100000
set_option maxHeartbeats 2000000
namespace K20
open PySem L2 Fm
/-- what stood under a name is taken out -/
def dropS {α : Type} (l : List (Str × α)) (n : Str) : List (Str × α) := l.filter fun p => decide (p.1 ≠ n)
section
variable {α : Type} {l : List (Str × α)} {n : Str}
theorem mem_dropS {p : Str × α} (h : p ∈ dropS l n) : p ∈ l ∧ p.1 ≠ n := by
  obtain ⟨h1, h2⟩ := List.mem_filter.mp h
  exact ⟨h1, of_decide_eq_true h2⟩
theorem nds_dropS (nd : Nds l) : Nds (dropS l n) := List.Pairwise.sublist (List.Sublist.map _ List.filter_sublist) nd
theorem len_dropS : (dropS l n).length ≤ l.length := List.length_filter_le _ _
theorem dropS_off (h : n ∉ l.map (·.1)) : dropS l n = l := by
  refine List.filter_eq_self.mpr fun p hp => decide_eq_true fun e => h (List.mem_map.mpr ⟨p, hp, e⟩)
theorem dropS_lo (nd : Nds l) : l.length ≤ (dropS l n).length + 1 := by
  induction l with
  | nil => exact Nat.zero_le _
  | cons p l ih =>
    obtain ⟨n1, n2⟩ := List.nodup_cons.mp nd
    by_cases c : p.1 = n
    · have e : dropS (p :: l) n = dropS l n := List.filter_cons_of_neg (by simp [c])
      have e2 : dropS l n = l := dropS_off (by rw [← c]; exact n1)
      rw [e, e2]
      exact Nat.le_refl _
    · have e : dropS (p :: l) n = p :: dropS l n := List.filter_cons_of_pos (by simp [c])
      rw [e, List.length_cons, List.length_cons]
      exact Nat.succ_le_succ (ih n2)
end
theorem ActsL.drop {H : Hp} {ks : List (Key × V)} {l : Acts} (h : ActsL H ks l) (n : Str) : ActsL H (dropK ks (.inr n)) (dropS l n) := by
  induction h with
  | nil => exact .nil
  | @cons m v a ks l ha _ ih =>
    by_cases c : m = n
    · have e1 : dropK ((.inr m, v) :: ks) (.inr n : Key) = dropK ks (.inr n) := List.filter_cons_of_neg (by simp [c])
      have e2 : dropS ((m, a) :: l) n = dropS l n := List.filter_cons_of_neg (by simp [c])
      rw [e1, e2]
      exact ih
    · have e1 : dropK ((.inr m, v) :: ks) (.inr n : Key) = (.inr m, v) :: dropK ks (.inr n) := List.filter_cons_of_pos (by simp [c])
      have e2 : dropS ((m, a) :: l) n = (m, a) :: dropS l n := List.filter_cons_of_pos (by simp [c])
      rw [e1, e2]
      exact .cons ha ih
theorem kO_drop (n : Str) : ∀ o : Outs, dropK (kO o) (.inr n) = kO (dropS o n)
  | [] => rfl
  | (m, i) :: o => by
    by_cases c : m = n
    · have e1 : dropK (kO ((m, i) :: o)) (.inr n : Key) = dropK (kO o) (.inr n) := List.filter_cons_of_neg (by simp [c])
      have e2 : dropS ((m, i) :: o) n = dropS o n := List.filter_cons_of_neg (by simp [c])
      rw [e1, e2]
      exact kO_drop n o
    · have e1 : dropK (kO ((m, i) :: o)) (.inr n : Key) = (.inr m, V.int i) :: dropK (kO o) (.inr n) := List.filter_cons_of_pos (by simp [c])
      have e2 : dropS ((m, i) :: o) n = (m, i) :: dropS o n := List.filter_cons_of_pos (by simp [c])
      rw [e1, e2, kO_drop n o]
      rfl
theorem get_str {ys : List Str} {i : Int} (h0 : 0 ≤ i) (h1 : i < ys.length) : ∃ x, x ∈ ys ∧ atI (ys.map V.str) i = some (.str x) := by
  obtain ⟨k, rfl⟩ := Int.eq_ofNat_of_zero_le h0
  have lt : k < ys.length := by omega
  refine ⟨ys[k], List.getElem_mem lt, atI_nat (j := k) ?_⟩
  rw [List.getElem?_map, List.getElem?_eq_getElem lt]
  rfl
theorem skip_if {D : Ends} {σ : L2.St} {H : Hp} {body : TS} {i : Nat} {way k : Int} (hs : σ[i]? = some (some (.int way))) (ne : way ≠ k) (h : D.nx σ H) : tIfS (tTest (tOp rEq (tVar i) (tC (.int k)))) body tNext D σ H :=
  ⟨_, hs, rfl, _, rfl, ite_b (fun c => absurd (V.int.inj (of_decide_eq_true c)) ne) fun _ => h⟩
theorem take_if {D : Ends} {σ : L2.St} {H : Hp} {body : TS} {i : Nat} {k : Int} (hs : σ[i]? = some (some (.int k))) (h : body D σ H) : tIfS (tTest (tOp rEq (tVar i) (tC (.int k)))) body tNext D σ H :=
  ⟨_, hs, rfl, _, rfl, ite_b (fun _ => h) fun c => absurd (decide_eq_true rfl) (by rw [c]; exact Bool.false_ne_true)⟩
theorem acts_put {l : Acts} {n : Str} {x : Int × Outs} (okl : ActsOk l) (hl : l.length ≤ 19) (h : isNameS n = true ∧ PyData.strOk n = true ∧ n.length ≤ 20 ∧ 0 ≤ x.1 ∧ x.1 < 3 ∧ OutsOk x.2) : ActsOk (putS l n x) := by
  have := len_putS (l := l) (n := n) (a := x)
  refine ⟨nds_putS okl.nd, by omega, fun p hp => ?_⟩
  rcases mem_putS hp with e | rfl
  · exact okl.ok p e
  · exact h
theorem acts_drop {l : Acts} {n : Str} (okl : ActsOk l) : ActsOk (dropS l n) := ⟨nds_dropS okl.nd, Nat.le_trans len_dropS okl.hi, fun p hp => okl.ok p (mem_dropS hp).1⟩
theorem near_at {b p p1 : Addr} {H H' : Hp} {ks1 : List (Key × V)} {l : Acts} {ds : List Addr} (B : Bag b p H) (g : Go b p H H') (f : newof H H' p1 = some (.dK ks1)) (hD : ActsD (mask p1 (newof H H')) ks1 l ds) (nD : ds.Nodup) (okl : ActsOk l) (l4 : l.length ≤ 4) {n : Str} {a : Int × Outs} (ha : l.lookup n = some a) :
    ∃ t d, valV ks1 (.inr n) = some (.ref t) ∧ (mask p1 (newof H H')) t = some (.tup [.int a.1, .ref d]) ∧ (mask p1 (newof H H')) d = some (.dK (kO a.2)) ∧ ∀ o, OutsOk o → Go b p H (upd H' d (.dK (kO o))) ∧ ∃ l', ActsAt (newof H (upd H' d (.dK (kO o)))) p1 l' ∧ ActsOk l' := by
  obtain ⟨t, d, md, hv, ht, hd, up⟩ := hD.at_ nD okl.nd ha
  refine ⟨t, d, hv, ht, hd, fun o oo => ?_⟩
  have z := newof_is (unmask _ _ hd)
  have np : p1 ≠ d := fun y => by
    rw [← y] at hd
    unfold mask at hd
    rw [if_pos rfl] at hd
    cases hd
  obtain ⟨o1, o2, o3, o4, o5, _⟩ := okl.ok _ (acts_mem ha)
  refine ⟨Go.mut B g z.1, putS l n (a.1, o), ⟨ks1, ?_, ?_⟩, acts_put okl (by omega) ⟨o1, o2, o3, o4, o5, oo⟩⟩
  · rw [newof_updn z.1, upd_ne np]; exact f
  · have u := (up o).toL
    rw [← mask_updn np.symm, ← newof_updn z.1] at u
    exact u.same unmask
theorem outs_put {o : Outs} {m : Str} {i v : Int} (oo : OutsOk o) (hm : o.lookup m = some i) (v0 : 0 ≤ v) (v3 : v < 3) : OutsOk (putS o m v) := by
  have mm : (m, i) ∈ o := by
    clear oo
    induction o with
    | nil => cases hm
    | cons p o ih =>
      obtain ⟨q, j⟩ := p
      rw [List.lookup_cons] at hm
      by_cases c : m = q
      · subst c
        simp only [beq_self_eq_true] at hm
        cases hm
        exact List.mem_cons_self
      · have : (m == q) = false := by simpa using c
        rw [this] at hm
        exact List.mem_cons_of_mem _ (ih hm)
  have ln : (putS o m v).length = o.length := by
    have := congrArg List.length (names_putS (a := v) (List.mem_map.mpr ⟨_, mm, rfl⟩))
    rw [List.length_map, List.length_map] at this
    exact this
  refine ⟨nds_putS oo.nd, by rw [ln]; exact oo.lo, by rw [ln]; exact oo.hi, fun p hp => ?_⟩
  rcases mem_putS hp with e | rfl
  · exact oo.ok p e
  · obtain ⟨o1, o2, o3, _⟩ := oo.ok _ mm
    exact ⟨o1, o2, o3, v0, v3⟩
theorem outs_drop {o : Outs} {m : Str} (oo : OutsOk o) (h : 1 < o.length) : OutsOk (dropS o m) := by
  have := dropS_lo (n := m) oo.nd
  exact ⟨nds_dropS oo.nd, by omega, Nat.le_trans len_dropS oo.hi, fun p hp => oo.ok p (mem_dropS hp).1⟩
theorem mod3 {i : Int} : 0 ≤ i % 3 ∧ i % 3 < 3 := ⟨Int.emod_nonneg _ (by decide), Int.emod_lt_of_pos _ (by decide)⟩
/-- found behind the k-th question: changed, or as it was copied -/
def NearSt (b p d p1 : Addr) (way : Int) (n m : Str) (H : Hp) (ks1 : List (Key × V)) (l : Acts) (ds : List Addr) (k : Int) (σ : L2.St) (H' : Hp) : Prop := ∃ o6, σ = [some (.ref b), some (.ref d), some (.ref p1), some (.int way), some (.str n), some (.str m), o6] ∧ Go b p H H' ∧
  ((way ≤ k ∧ ∃ l', ActsAt (newof H H') p1 l' ∧ ActsOk l') ∨ (k < way ∧ newof H H' p1 = some (.dK ks1) ∧ ActsD (mask p1 (newof H H')) ks1 l ds))
def cands5 : List Str := ["zz", "yy", "xx", "ww", "vv"]
theorem cands5_nd : cands5.Nodup := by decide +kernel
theorem cands5_ok : ∀ n ∈ cands5, NmOk n := by
  have h : ∀ n ∈ cands5, okL n = true ∧ 1 ≤ n.length ∧ n.length ≤ 8 := by decide +kernel
  exact h
section
variable {P : Program} {w : World} {K : PySem.W.Frag} {mg : Str → Option Value} {base : Heap} (T : Txt K mg)
/-- acts with something otherwise, in a new dict -/
def spNear : Sp := fun vs H Q _ => ∃ (b p d : Addr) (l : Acts), vs = [.ref b, .ref d] ∧ Bag b p H ∧ ActsAt (mask b H) d l ∧ ActsOk l ∧ l.length ≤ 4 ∧
  ∀ (d' : Addr) (H' : Hp) (l' : Acts), Go b p H H' → ActsAt (newof H H') d' l' → ActsOk l' → Q (.ref d') H'
theorem ok_law_near : FnOk P w K mg base CX0 3 T.a__law_near T.d__law_near ["_law_bag_here", "_law_acts_here"] spNear := by
  have G__law_take := ok_law_take (P := P) (w := w) (base := base) T
  refine T.F__law_near.ok sc__law_near ?_ (fun cdv A outer s H vs Q E hr h => ?_)
  · rintro vs H Q E ⟨b, p, d, l, rfl, _⟩
    rfl
  obtain ⟨b, p, d, l, rfl, B, hA, okl, l4, q⟩ := h
  refine ⟨_, 
    (pss_cons (ps_par (i := 2) (j := 3) (by rfl) sc__law_near.nd rfl rfl (by decide) rfl rfl (pa_cons (pe_callTy (call_dictP rfl) (by rfl) T.m_dict (by decide +kernel) (pa_cons (pe_lock (pe_lc (own := [("_law_act", 4)]) (g := gName 4) (tt := tYes) rfl sc__law_near.nd (pi_keys (pv 1)) (blkOk_by (N := N__law_near) (sc := defScope s__law_near) (by decide +kernel)) (fun _ _ _ _ _ => pg_name (i := 4) sc__law_near.nd rfl (Or.inl rfl)) (fun _ _ _ _ _ => pts_nil) (fun _ _ _ _ _ => pe_tup (pa_cons (pv 4) (pa_cons (pe_tup (pa_cons (pe_ix (r := rIxT K) ix_tup (pe_dget (hu1 hr) (pv 1) (pv 4) (fun _ _ => rfl)) pe_int (fun _ _ => rfl)) (pa_cons (pe_callTy call_dictD (by rfl) T.m_dict (by decide +kernel) (pa_cons (pe_ix (r := rIxT K) ix_tup (pe_dget (hu1 hr) (pv 1) (pv 4) (fun _ _ => rfl)) pe_int (fun _ _ => rfl)) pa_nil)) pa_nil))) pa_nil))))) pa_nil)) (pa_cons (pe_call G__law_take (hr.mono (by omega)) (by rfl) T.f__law_take T.F__law_take.kp T.b__law_take .nil pass0 (pa_cons (pv 0) (pa_cons pe_int pa_nil))) pa_nil)) (by rfl))
    (pss_cons (ps_if (PW.pt (pw_or (pt_cmpR (op_eqVB hr.units) (pv 1) pe_dnewK (nomark _)) (pw_or1 (pt_cmpR op_eq (pv 3) pe_int (nomark _))))) (pss_one (ps_ret (pv 2))) pss_nil)
    (pss_cons (ps_set (i := 4) sc__law_near.nd rfl (Or.inl rfl) (pe_ix ix_list (pe_callB (call_sortedD rfl) (by rfl) T.m_sorted (by decide +kernel) (pa_cons (pv 1) pa_nil)) (pe_call G__law_take (hr.mono (by omega)) (by rfl) T.f__law_take T.F__law_take.kp T.b__law_take .nil pass0 (pa_cons (pv 0) (pa_cons (pe_callB call_lenD (by rfl) T.m_len (by decide +kernel) (pa_cons (pv 1) pa_nil)) pa_nil))) (fun _ _ => rfl)))
    (pss_cons (ps_set (i := 5) sc__law_near.nd rfl (Or.inl rfl) (pe_ix ix_list (pe_callB (call_sortedD rfl) (by rfl) T.m_sorted (by decide +kernel) (pa_cons (pe_ix ix_tup (pe_dget (hu1 hr) (pv 1) (pv 4) (fun _ _ => rfl)) pe_int (fun _ _ => rfl)) pa_nil)) (pe_call G__law_take (hr.mono (by omega)) (by rfl) T.f__law_take T.F__law_take.kp T.b__law_take .nil pass0 (pa_cons (pv 0) (pa_cons (pe_callB call_lenD (by rfl) T.m_len (by decide +kernel) (pa_cons (pe_ix ix_tup (pe_dget (hu1 hr) (pv 1) (pv 4) (fun _ _ => rfl)) pe_int (fun _ _ => rfl)) pa_nil)) pa_nil))) (fun _ _ => rfl)))
    (Evl.pss_cut (ps_if (pt_cmpR op_eq (pv 3) pe_int (nomark _)) (pss_one (ps_dput (hu1 hr) (pv 2) (pv 4) (pe_tup (pa_cons (pe_op op_mod (pe_callTy call_int1 (by rfl) T.m_int (by decide +kernel) (pa_cons (pe_op op_add (pe_ix ix_tup (pe_dget (hu1 hr) (pv 1) (pv 4) (fun _ _ => rfl)) pe_int (fun _ _ => rfl)) pe_int) pa_nil)) pe_int) (pa_cons (pe_ix ix_tup (pe_dget (hu1 hr) (pv 2) (pv 4) (fun _ _ => rfl)) pe_int (fun _ _ => rfl)) pa_nil))) rfl)) pss_nil)
    (Evl.pss_cut (ps_if (pt_cmpR op_eq (pv 3) pe_int (nomark _)) (pss_one (ps_dput (hu1 hr) (pe_ix ix_tup (pe_dget (hu1 hr) (pv 2) (pv 4) (fun _ _ => rfl)) pe_int (fun _ _ => rfl)) (pv 5) (pe_op op_mod (pe_callTy call_int1 (by rfl) T.m_int (by decide +kernel) (pa_cons (pe_op op_add (pe_dget (hu1 hr) (pe_ix ix_tup (pe_dget (hu1 hr) (pv 2) (pv 4) (fun _ _ => rfl)) pe_int (fun _ _ => rfl)) (pv 5) (fun _ _ => rfl)) pe_int) pa_nil)) pe_int) rfl)) pss_nil)
    (Evl.pss_cut (ps_if (pt_cmpR op_eq (pv 3) pe_int (nomark _)) (pss_one (ps_expr (pe_dpop1 (pv 2) (pv 4) ⟨by rfl, by rfl, by rfl, by rfl⟩))) pss_nil)
    (Evl.pss_cut (ps_if (PW.pt (pw_and (pt_cmpR op_eq (pv 3) pe_int (nomark _)) (pw_and1 (pt_cmpR op_gt (pe_callB call_lenD (by rfl) T.m_len (by decide +kernel) (pa_cons (pe_ix ix_tup (pe_dget (hu1 hr) (pv 2) (pv 4) (fun _ _ => rfl)) pe_int (fun _ _ => rfl)) pa_nil)) pe_int (nomark _))))) (pss_one (ps_expr (pe_dpop1 (pe_ix ix_tup (pe_dget (hu1 hr) (pv 2) (pv 4) (fun _ _ => rfl)) pe_int (fun _ _ => rfl)) (pv 5) ⟨by rfl, by rfl, by rfl, by rfl⟩))) pss_nil)
    (Evl.pss_cut (ps_if (pt_cmpR op_eq (pv 3) pe_int (nomark _)) (pss_one (ps_dput (hu1 hr) (pv 2) (pe_ix ix_list (pe_lc (own := [("_law_one", 6)]) (g := gName 6) rfl sc__law_near.nd (pi_tup (pe_tup (pa_cons pe_str (pa_cons pe_str (pa_cons pe_str (pa_cons pe_str (pa_cons pe_str pa_nil))))))) (blkOk_by (N := N__law_near) (sc := defScope s__law_near) (by decide +kernel)) (fun _ _ _ _ _ => pg_name (i := 6) sc__law_near.nd rfl (Or.inl rfl)) (fun _ _ _ _ _ => pts_one (pt_cmp (pc_dnotin (hu1 hr) (pv 6) (pv 1)))) (fun _ _ _ _ _ => pv 6)) pe_int (fun _ _ => rfl)) (pe_dpop1 (pv 2) (pv 4) ⟨by rfl, by rfl, by rfl, by rfl⟩) rfl)) pss_nil)
    (pss_one (ps_ret (pv 2)))))))))))), ?_⟩
  obtain ⟨ks, hdm, hLm⟩ := hA
  have hd := unmask _ _ hdm
  have hL := hLm.same unmask
  have nb : d ≠ b := fun z => by
    rw [z] at hdm
    unfold mask at hdm
    rw [if_pos rfl] at hdm
    cases hdm
  have lks := hL.len
  unfold tSeq tAsg tPar
  refine copy_acts (K := K) (ia := 1) (ij := 4) hd hL okl.nd (by omega) ?_ ?_ ?_ ?_ (fun p1 H1 ks1 ds k1 f1 hD nD => ?_)
  · rfl
  · intro _; rfl
  · intro _; rfl
  · intro _; rfl
  have g1 : Go b p H H1 := (Go.refl B).same k1
  refine ⟨_, rfl, b, p, 6, rfl, g1.B, by decide, by decide, fun way H2 w0 w6 g2 => ⟨_, _, rfl, ?_⟩⟩
  have g02 := g1.trans g2
  have k2 := newof_go (H := H) B g2
  have f2 := k2 _ _ f1
  have hD2 := hD.same (mask_same k2)
  have hd2 := g02.at nb hd
  generalize hσ : ((L2.start N__law_near [.ref b, .ref d]).set 2 (some (.ref p1))).set 3 (some (.int way)) = σ0
  have s0 : σ0 = [some (.ref b), some (.ref d), some (.ref p1), some (.int way), none, none, none] := hσ.symm
  subst s0
  clear hσ
  refine ⟨_, rfl, fun pe hpe => ⟨1, ks.length == 0 && true, by decide, .inr ⟨d, pe, ks, [], true, rfl, rfl, ?_, upd_same, fun e => ?_, rfl⟩, _, rfl, ite_b (fun _ => ?_) (fun cE => ?_)⟩⟩
  · exact (upd_ne (ne_of_none hd2 hpe)).trans hd2
  · cases ks with
    | nil => exact .nil
    | cons k r => exact absurd e (by simp)
  · refine ite_b (fun _ => ?_) (fun c => nomatch c)
    have g3 := g02.new (o := .dK []) hpe
    have k3 : Same (newof H H2) (newof H (upd H2 pe (.dK []))) := newof_same (Same.new hpe)
    exact ⟨_, rfl, q p1 _ l g3 ⟨ks1, k3 _ _ f2, (hD2.toL.same unmask).same k3⟩ okl⟩
  have g3 := g02.new (o := .dK []) hpe
  have k3 : Same (newof H H2) (newof H (upd H2 pe (.dK []))) := newof_same (Same.new hpe)
  have f3 := k3 _ _ f2
  have hD3 := hD2.same (mask_same k3)
  have hd3 := (upd_ne (o := .dK []) (ne_of_none hd2 hpe)).trans hd2
  generalize upd H2 pe (.dK []) = H3 at g3 f3 hD3 hd3 ⊢
  refine ⟨_, rfl, rfl, _, rfl, ite_b (fun _ => ⟨_, rfl, q p1 _ l g3 ⟨ks1, f3, hD3.toL.same unmask⟩ okl⟩) (fun cW => ?_)⟩
  have lpos : 0 < l.length := by
    have : ¬ ks.length = 0 := fun z => by rw [z] at cE; exact absurd cE (by decide)
    omega
  -- act
  refine ⟨_, rfl, d, ks, l.map (·.1), rfl, .of hd3, hL.keys, (by rw [List.length_map]; omega), fun ys pl pm sr hpl => ?_⟩
  have npb : pl ≠ b := g3.B.b_ne hpl
  have g4 := g3.new (o := .lst (ys.map V.str)) hpl
  have hd4 := (upd_ne (o := .lst (ys.map V.str)) (ne_of_none hd3 hpl)).trans hd3
  have k4 : Same (newof H H3) (newof H (upd H3 pl (.lst (ys.map V.str)))) := newof_same (Same.new hpl)
  have al4 : (upd H3 pl (.lst (ys.map V.str))) pl = some (.lst (ys.map V.str)) := upd_same
  generalize upd H3 pl (.lst (ys.map V.str)) = H4 at g4 hd4 k4 al4 ⊢
  refine ⟨_, rfl, _, rfl, d, ks, rfl, hd4, b, p, _, rfl, g4.B, (by omega), (by omega), fun i1 H5 i0 i2 g5 => ?_⟩
  have ly : ys.length = l.length := by rw [pm.length_eq, List.length_map]
  obtain ⟨n, hn, en⟩ := get_str (ys := ys) i0 (by omega)
  have g05 := g4.trans g5
  have hd5 := g5.at nb hd4
  have k5 := k4.trans (newof_go (H := H) B g5)
  have f5 := k5 _ _ f3
  have hD5 := hD3.same (mask_same k5)
  refine ⟨pl, _, i1, .str n, rfl, rfl, SqL.of (g5.at npb al4), en, ?_⟩
  obtain ⟨a, ha⟩ := acts_look (pm.mem_iff.mp hn)
  obtain ⟨on1, on2, on3, on4, on5, oo⟩ := okl.ok _ (acts_mem ha)
  have oo6 := oo.hi
  have oo1 := oo.lo
  obtain ⟨t, dO, hv, ht, ho⟩ : ∃ t dO, valV ks (.inr n) = some (.ref t) ∧ (mask b H) t = some (.tup [.int a.1, .ref dO]) ∧ (mask b H) dO = some (.dK (kO a.2)) := by
    rcases hLm.look n with ⟨_, z⟩ | ⟨v', a', q1, q2, ⟨t, d', rfl, q3, q4⟩⟩
    · rw [ha] at z; cases z
    · rw [ha] at q2
      cases q2
      exact ⟨t, d', q1, q3, q4⟩
  have ht5 : H5 t = some (.tup [.int a.1, .ref dO]) := unmask _ _ (g05.k _ _ ht)
  have ho5 : H5 dO = some (.dK (kO a.2)) := unmask _ _ (g05.k _ _ ho)
  -- outcome
  refine ⟨_, rfl, _, rfl, d, _, rfl, (by rw [← hv]; exact DGet.k (k := .inr n) hd5), t, _, 1, _, rfl, rfl, SqT.of ht5, atI_nat (j := 1) rfl, dO, kO a.2, a.2.map (·.1), rfl, .of ho5, (by unfold kO; rw [List.map_map, List.map_map]; rfl), (by rw [List.length_map]; exact Nat.lt_of_le_of_lt oo6 (by decide)), fun zs pz pmz srz hpz => ?_⟩
  have npz : pz ≠ b := g05.B.b_ne hpz
  have g6 := g05.new (o := .lst (zs.map V.str)) hpz
  have kk6 := Same.new (o := .lst (zs.map V.str)) hpz
  have hd6 := kk6 _ _ hd5
  have ht6 := kk6 _ _ ht5
  have ho6 := kk6 _ _ ho5
  have k6 : Same (newof H H5) (newof H (upd H5 pz (.lst (zs.map V.str)))) := newof_same kk6
  have al6 : (upd H5 pz (.lst (zs.map V.str))) pz = some (.lst (zs.map V.str)) := upd_same
  generalize upd H5 pz (.lst (zs.map V.str)) = H6 at g6 hd6 ht6 ho6 k6 al6 ⊢
  have lko : (kO a.2).length = a.2.length := by unfold kO; rw [List.length_map]
  refine ⟨_, rfl, _, rfl, _, rfl, d, _, rfl, (by rw [← hv]; exact DGet.k (k := .inr n) hd6), t, _, 1, _, rfl, rfl, SqT.of ht6, atI_nat (j := 1) rfl, dO, kO a.2, rfl, ho6, b, p, _, rfl, g6.B, (by rw [lko]; exact Int.ofNat_lt.mpr oo1), (by rw [lko]; have h6 : a.2.length ≤ 6 := oo6; omega), fun j1 H7 j0 j2 g7 => ?_⟩
  have lz : zs.length = a.2.length := by rw [pmz.length_eq, List.length_map]
  obtain ⟨m, hm, em⟩ := get_str (ys := zs) j0 (by rw [lz]; rw [lko] at j2; exact j2)
  have g07 := g6.trans g7
  have hd7 := g7.at nb hd6
  have k7 := k6.trans (newof_go (H := H) B g7)
  have f7 := k7 _ _ f5
  have hD7 := hD5.same (mask_same k7)
  refine ⟨pz, _, j1, .str m, rfl, rfl, SqL.of (g7.at npz al6), em, ?_⟩
  obtain ⟨pm0, hpm, hpm2⟩ := List.mem_map.mp (pmz.mem_iff.mp hm)
  have hmo : a.2.lookup m = some pm0.2 := by rw [← hpm2]; exact look_mem oo.nd hpm
  have way0 : 0 < way := by
    rcases Int.lt_or_eq_of_le w0 with c | c
    · exact c
    · rw [← c] at cW
      exact absurd cW (by decide)
  have S0 : NearSt b p d p1 way n m H ks1 l ds 0 [some (.ref b), some (.ref d), some (.ref p1), some (.int way), some (.str n), some (.str m), none] H7 := ⟨none, rfl, g07, .inr ⟨way0, f7, hD7⟩⟩
  show Evl.tCut _ _ _ [some (.ref b), some (.ref d), some (.ref p1), some (.int way), some (.str n), some (.str m), none] H7
  clear f7 hD7 f5 hD5 f3 hD3 f2 hD2 g02 g1 g2 g3 g4 g5 g6 g05 k2 k3 k4 k5 k6 k7 hd3 hd4 hd5 hd6 hd7 ht5 ho5 ht6 ho6 al4 al6 g7
  generalize [some (V.ref b), some (.ref d), some (.ref p1), some (.int way), some (.str n), some (.str m), none] = σ7 at S0 ⊢
  refine ⟨NearSt b p d p1 way n m H ks1 l ds 1, ?_, fun σ8 H8 S1 => ⟨NearSt b p d p1 way n m H ks1 l ds 2, ?_, fun σ9 H9 S2 => ⟨NearSt b p d p1 way n m H ks1 l ds 3, ?_, fun σA HA S3 => ⟨NearSt b p d p1 way n m H ks1 l ds 4, ?_, fun σB HB S4 => ⟨NearSt b p d p1 way n m H ks1 l ds 5, ?_, fun σC HC S5 => ?_⟩⟩⟩⟩⟩
  · obtain ⟨o6, rfl, g, ⟨c, l', hA', ok'⟩ | ⟨c, f, hD⟩⟩ := S0
    · exact absurd way0 (by omega)
    by_cases e : way = 1
    · subst e
      refine take_if rfl ?_
      obtain ⟨t2, d2, hv2, ht2, hd2, _⟩ := near_at B g f hD nD okl l4 ha
      have hd7 := g.at nb hd
      have ht7 : H7 t = some (.tup [.int a.1, .ref dO]) := unmask _ _ (g.k _ _ ht)
      have f7 := (newof_is f).2
      have ht27 := (newof_is (unmask _ _ ht2)).2
      have lk1 := hD.toL.len
      refine ⟨_, rfl, _, rfl, d, _, rfl, (by rw [← hv]; exact DGet.k (k := .inr n) hd7), t, _, 0, _, rfl, rfl, SqT.of ht7, atI_nat (j := 0) rfl, _, _, rfl, rfl, .inl ⟨_, rfl, _, _, rfl, rfl, (by show (0 : Int) < 3; decide), _, rfl, _, rfl, p1, _, rfl, (by rw [← hv2]; exact DGet.k (k := .inr n) f7), t2, _, 1, _, rfl, rfl, SqT.of ht27, atI_nat (j := 1) rfl, (by show 2 ≤ sizeLine; decide), fun tp htp => ?_⟩⟩
      have kt := Same.new (o := .tup [.int ((a.1 + 1) % 3), .ref d2]) htp
      have f8 := kt _ _ f7
      refine ⟨_, rfl, _, rfl, p1, _, rfl, DPut.k (k := .inr n) f8 (szl (by omega)), ?_⟩
      have zp := (newof_is f).1
      have zt := g.free htp
      have ntp : tp ≠ p1 := fun z => by rw [z, f7] at htp; cases htp
      have nd2 : d2 ≠ p1 := fun z => by
        rw [z] at hd2
        unfold mask at hd2
        rw [if_pos rfl] at hd2
        cases hd2
      refine ⟨_, rfl, Go.mut B (g.new htp) zp, .inl ⟨by omega, putS l n ((a.1 + 1) % 3, a.2), ⟨_, newof_of zp upd_same, ?_⟩, acts_put okl (by omega) ⟨on1, on2, on3, mod3.1, mod3.2, oo⟩⟩⟩
      have kn : Same (mask p1 (newof H H7)) (newof H (upd (upd H7 tp (.tup [.int ((a.1 + 1) % 3), .ref d2])) p1 (.dK (putK ks1 (.inr n) (.ref tp))))) := fun x o e => by
        have nx : x ≠ p1 := fun z => by
          rw [z] at e
          unfold mask at e
          rw [if_pos rfl] at e
          cases e
        obtain ⟨e1, e2⟩ := newof_is (unmask _ _ e)
        exact newof_of e1 ((upd_ne nx).trans (kt _ _ e2))
      refine (hD.toL.same kn).put ⟨tp, d2, rfl, newof_of zt ((upd_ne ntp).trans upd_same), ?_⟩
      exact kn _ _ hd2
    · exact skip_if rfl e ⟨_, rfl, g, .inr ⟨by omega, f, hD⟩⟩
  · obtain ⟨o6, rfl, g, ⟨c, l', hA', ok'⟩ | ⟨c, f, hD⟩⟩ := S1
    · exact skip_if rfl (by omega) ⟨_, rfl, g, .inl ⟨by omega, l', hA', ok'⟩⟩
    by_cases e : way = 2
    · subst e
      refine take_if rfl ?_
      obtain ⟨t2, d2, hv2, ht2, hd2, up⟩ := near_at B g f hD nD okl l4 ha
      have f7 := (newof_is f).2
      have ht27 := (newof_is (unmask _ _ ht2)).2
      have hd27 := (newof_is (unmask _ _ hd2)).2
      refine ⟨_, rfl, _, rfl, p1, _, rfl, (by rw [← hv2]; exact DGet.k (k := .inr n) f7), t2, _, 1, _, rfl, rfl, SqT.of ht27, atI_nat (j := 1) rfl, _, rfl, d2, _, rfl, (by rw [← kO_look hmo]; exact DGet.k (k := .inr m) hd27), _, _, rfl, rfl, .inl ⟨_, rfl, _, _, rfl, rfl, (by show (0 : Int) < 3; decide), ?_⟩⟩
      refine ⟨_, rfl, _, rfl, p1, _, rfl, (by rw [← hv2]; exact DGet.k (k := .inr n) f7), t2, _, 1, _, rfl, rfl, SqT.of ht27, atI_nat (j := 1) rfl, _, rfl, d2, _, rfl, DPut.k (k := .inr m) hd27 (szl (by rw [lko]; exact Nat.le_trans oo6 (by decide))), ?_⟩
      rw [kO_put]
      obtain ⟨g', l', hA', ok'⟩ := up _ (outs_put oo hmo (mod3 (i := pm0.2 + 1)).1 mod3.2)
      exact ⟨_, rfl, g', .inl ⟨by omega, l', hA', ok'⟩⟩
    · exact skip_if rfl e ⟨_, rfl, g, .inr ⟨by omega, f, hD⟩⟩
  · obtain ⟨o6, rfl, g, ⟨c, l', hA', ok'⟩ | ⟨c, f, hD⟩⟩ := S2
    · exact skip_if rfl (by omega) ⟨_, rfl, g, .inl ⟨by omega, l', hA', ok'⟩⟩
    by_cases e : way = 3
    · subst e
      refine take_if rfl ?_
      obtain ⟨t2, d2, hv2, ht2, hd2, _⟩ := near_at B g f hD nD okl l4 ha
      have f7 := newof_is f
      refine ⟨_, rfl, p1, rfl, .inl ⟨_, .of f7.2⟩, _, rfl, ks1, .inr n, _, f7.2, rfl, hv2, ?_⟩
      refine ⟨_, rfl, Go.mut B g f7.1, .inl ⟨by omega, dropS l n, ⟨_, newof_of f7.1 upd_same, ?_⟩, acts_drop okl⟩⟩
      rw [newof_updn f7.1]
      refine (ActsL.drop hD.toL n).same fun x o e => ?_
      have nx : x ≠ p1 := fun z => by
        rw [z] at e
        unfold mask at e
        rw [if_pos rfl] at e
        cases e
      rw [upd_ne nx]
      exact unmask _ _ e
    · exact skip_if rfl e ⟨_, rfl, g, .inr ⟨by omega, f, hD⟩⟩
  · obtain ⟨o6, rfl, g, ⟨c, l', hA', ok'⟩ | ⟨c, f, hD⟩⟩ := S3
    · exact ⟨_, rfl, rfl, _, rfl, ite_b (fun c2 => absurd (V.int.inj (of_decide_eq_true c2)) (by omega)) fun _ => ite_b (fun c => nomatch c) fun _ => ⟨_, rfl, g, .inl ⟨by omega, l', hA', ok'⟩⟩⟩
    by_cases e : way = 4
    · subst e
      refine ⟨_, rfl, rfl, _, rfl, ite_b (fun _ => ?_) fun c2 => absurd (decide_eq_true rfl) (by rw [c2]; exact Bool.false_ne_true)⟩
      obtain ⟨t2, d2, hv2, ht2, hd2, up⟩ := near_at B g f hD nD okl l4 ha
      have f7 := (newof_is f).2
      have ht27 := (newof_is (unmask _ _ ht2)).2
      have hd27 := (newof_is (unmask _ _ hd2)).2
      refine ⟨_, rfl, _, rfl, p1, _, rfl, (by rw [← hv2]; exact DGet.k (k := .inr n) f7), t2, _, 1, _, rfl, rfl, SqT.of ht27, atI_nat (j := 1) rfl, d2, _, rfl, hd27, _, _, rfl, rfl, _, rfl, ite_b (fun cL => ?_) (fun _ => ⟨_, rfl, g, .inl ⟨by omega, l, ⟨ks1, f, hD.toL.same unmask⟩, okl⟩⟩)⟩
      have cL : (1 : Int) < ((kO a.2).length : Int) := of_decide_eq_true cL
      rw [lko] at cL
      refine ⟨_, rfl, _, rfl, p1, _, rfl, (by rw [← hv2]; exact DGet.k (k := .inr n) f7), t2, _, 1, _, rfl, rfl, SqT.of ht27, atI_nat (j := 1) rfl, d2, rfl, .inl ⟨_, .of hd27⟩, _, rfl, kO a.2, .inr m, _, hd27, rfl, kO_look hmo, ?_⟩
      rw [kO_drop]
      obtain ⟨g', l', hA', ok'⟩ := up _ (outs_drop (o := a.2) (m := m) oo (by have c2 := cL; omega))
      exact ⟨_, rfl, g', .inl ⟨by omega, l', hA', ok'⟩⟩
    · exact ⟨_, rfl, rfl, _, rfl, ite_b (fun c2 => absurd (V.int.inj (of_decide_eq_true c2)) e) fun _ => ite_b (fun c => nomatch c) fun _ => ⟨_, rfl, g, .inr ⟨by omega, f, hD⟩⟩⟩
  · obtain ⟨o6, rfl, g, ⟨c, l', hA', ok'⟩ | ⟨c, f, hD⟩⟩ := S4
    · exact skip_if rfl (by omega) ⟨_, rfl, g, .inl ⟨by omega, l', hA', ok'⟩⟩
    by_cases e : way = 5
    · subst e
      refine take_if rfl ?_
      obtain ⟨t2, d2, hv2, ht2, hd2, _⟩ := near_at B g f hD nD okl l4 ha
      have f7 := newof_is f
      have hd7 := g.at nb hd
      have npd : p1 ≠ d := fun z => by rw [z, hd] at f7; cases f7.1
      have lk1 := hD.toL.len
      refine ⟨_, rfl, p1, rfl, .inl ⟨_, .of f7.2⟩, _, rfl, ks1, .inr n, _, f7.2, rfl, hv2, ?_⟩
      have g8 : Go b p H (upd HB p1 (.dK (dropK ks1 (.inr n)))) := Go.mut B g f7.1
      have f8 : newof H (upd HB p1 (.dK (dropK ks1 (.inr n)))) p1 = some (.dK (dropK ks1 (.inr n))) := newof_of f7.1 upd_same
      have hd8 : (upd HB p1 (.dK (dropK ks1 (.inr n)))) d = some (.dK ks) := (upd_ne npd.symm).trans hd7
      have m8 : mask p1 (newof H (upd HB p1 (.dK (dropK ks1 (.inr n))))) = mask p1 (newof H HB) := by rw [newof_updn f7.1, mask_updb]
      have hL8 : ActsL (mask p1 (newof H (upd HB p1 (.dK (dropK ks1 (.inr n)))))) (dropK ks1 (.inr n)) (dropS l n) := by rw [m8]; exact ActsL.drop hD.toL n
      have ht8 : mask p1 (newof H (upd HB p1 (.dK (dropK ks1 (.inr n))))) t2 = some (.tup [.int a.1, .ref d2]) := by rw [m8]; exact ht2
      have hd28 : mask p1 (newof H (upd HB p1 (.dK (dropK ks1 (.inr n))))) d2 = some (.dK (kO a.2)) := by rw [m8]; exact hd2
      generalize upd HB p1 (.dK (dropK ks1 (.inr n))) = HC at g8 f8 hd8 hL8 ht8 hd28 ⊢
      clear m8
      refine ⟨_, rfl, ?_⟩
      refine ⟨(by show 5 ≤ sizeLine; decide), fun tp htp => ⟨tp, rfl, ⟨_, SqT.of upd_same⟩, fun Dl hDl => ?_⟩⟩
      have gt := g8.new (o := .tup (cands5.map V.str)) htp
      have kt := Same.new (o := .tup (cands5.map V.str)) htp
      refine lc_it (walk_tup (xs := cands5.map V.str)) (fun i H' => Same (upd HC tp (.tup (cands5.map V.str))) H' ∧ H' Dl = some (.lst (((cands5.take i).filter (freeN l)).map V.str))) ⟨Same.new hDl, upd_same⟩ (fun i H' _ h => SqT.of (h.1 _ _ upd_same)) ?_ (fun H3 h => ?_)
      · rintro i y H3 H3' hi ⟨k3, hl3⟩ ⟨rfl, hy⟩
        obtain ⟨x, hx, rfl⟩ : ∃ x, cands5[i]? = some x ∧ y = .str x := by
          rw [List.getElem?_map] at hy
          obtain ⟨x, e1, e2⟩ := Option.map_eq_some_iff.mp hy
          exact ⟨x, e1, e2.symm⟩
        have ad3 := k3 _ _ (kt _ _ hd8)
        have tk1 : cands5.take (i + 1) = cands5.take i ++ [x] := by rw [List.take_add_one, hx]; rfl
        refine ⟨rfl, _, rfl, _, rfl, d, _, rfl, DGet.k (k := .inr x) ad3, _, rfl, ?_⟩
        rw [tk1, List.filter_append]
        rcases hL.look x with ⟨e1, e2⟩ | ⟨v, a, e1, e2, _⟩
        · rw [e1]
          refine ite_b (fun _ => ?_) (fun c => nomatch c)
          refine ⟨_, rfl, _, hl3, ?_, Same.upd k3 hDl, ?_⟩
          · have : ((cands5.take i).filter (freeN l)).length ≤ 5 := Nat.le_trans (List.length_filter_le _ _) (by rw [List.length_take]; exact Nat.le_trans (Nat.min_le_right _ _) (by decide))
            rw [List.length_map]
            exact szl (by omega)
          · have fr : freeN l x = true := by unfold freeN; rw [e2]; rfl
            rw [List.filter_cons_of_pos fr, List.filter_nil, List.map_append]
            exact upd_same
        · rw [e1]
          refine ite_b (fun c => nomatch c) (fun _ => ⟨k3, ?_⟩)
          have fr : ¬ freeN l x = true := by unfold freeN; rw [e2]; exact fun c => nomatch c
          rw [List.filter_cons_of_neg fr, List.filter_nil, List.append_nil]
          exact hl3
      · obtain ⟨k3, hl3⟩ := h
        rw [List.length_map, List.take_length] at hl3
        obtain ⟨n0, r0, efr⟩ : ∃ n0 r0, cands5.filter (freeN l) = n0 :: r0 := by
          cases e : cands5.filter (freeN l) with
          | cons n0 r0 => exact ⟨n0, r0, rfl⟩
          | nil =>
            have all : ∀ n ∈ cands5, n ∈ l.map (·.1) := fun n hn => by
              have z := List.filter_eq_nil_iff.mp e n hn
              unfold freeN at z
              cases w2 : l.lookup n with
              | none => rw [w2] at z; exact absurd rfl z
              | some a => exact List.mem_map.mpr ⟨_, acts_mem w2, rfl⟩
            have := nodup_lenA cands5_nd all
            rw [List.length_map] at this
            have c5 : cands5.length = 5 := rfl
            omega
        have n0m : n0 ∈ cands5 := (List.mem_filter.mp (show n0 ∈ cands5.filter (freeN l) by rw [efr]; exact List.mem_cons_self)).1
        rw [efr] at hl3
        have g3 := gt.same k3
        have kn := newof_same (H := H) (kt.trans k3)
        have f3 := kn _ _ f8
        have ldk : (dropK ks1 (.inr n : Key)).length ≤ 10 := Nat.le_trans (List.length_filter_le _ _) (by omega)
        refine ⟨Dl, _, 0, _, rfl, rfl, SqL.of hl3, atI_nat (j := 0) rfl, p1, _, rfl, DPut.k (k := .inr n0) (newof_is f3).2 (szl (Nat.le_trans ldk (by decide))), ?_⟩
        have ld := len_dropS (l := l) (n := n)
        obtain ⟨nn1, nn2, nn3⟩ := nm_name (cands5_ok n0 n0m)
        refine ⟨_, rfl, Go.mut B g3 f7.1, .inl ⟨by omega, putS (dropS l n) n0 a, ⟨_, newof_of f7.1 upd_same, ?_⟩, acts_put (acts_drop okl) (by omega) ⟨nn1, nn2, nn3, on4, on5, oo⟩⟩⟩
        rw [newof_updn f7.1]
        have km : Same (mask p1 (newof H HC)) (upd (newof H H3) p1 (.dK (putK (dropK ks1 (.inr n)) (.inr n0) (.ref t2)))) := fun x o e => by
          have nx : x ≠ p1 := fun z => by
            rw [z] at e
            unfold mask at e
            rw [if_pos rfl] at e
            cases e
          rw [upd_ne nx]
          exact kn _ _ (unmask _ _ e)
        exact (hL8.same km).put ⟨t2, d2, rfl, km _ _ ht8, km _ _ hd28⟩
    · exact skip_if rfl e ⟨_, rfl, g, .inr ⟨by omega, f, hD⟩⟩
  · obtain ⟨o6, rfl, g, ⟨c, l', hA', ok'⟩ | ⟨c, f, hD⟩⟩ := S5
    · exact ⟨_, rfl, q p1 _ l' g hA' ok'⟩
    · omega
end
end K20
set_option maxRecDepth 100000
set_option maxHeartbeats 2000000
namespace K20
open PySem L2 Fm
theorem Bag.ne_tup {b p q : Addr} {H : Hp} {xs : List V} (B : Bag b p H) (h : H q = some (.tup xs)) : q ≠ b := by
  obtain ⟨s, m, n, cells, h1, _⟩ := B
  exact fun z => by rw [z, h1] at h; cases h
theorem Bag.ne_dK {b p q : Addr} {H : Hp} {ks : List (Key × V)} (B : Bag b p H) (h : H q = some (.dK ks)) : q ≠ b := by
  obtain ⟨s, m, n, cells, h1, _⟩ := B
  exact fun z => by rw [z, h1] at h; cases h
theorem pairs_of {G : Hp} {F : Addr → Key × V → Prop} : ∀ {zs : List (Addr × (Str × Int))}, (∀ z ∈ zs, F z.1 (.inr z.2.1, .int z.2.2)) → Paired F (zs.map (·.1)) (kO (zs.map (·.2)))
  | [], _ => .nil
  | z :: zs, h => .cons (h z List.mem_cons_self) (pairs_of (G := G) fun y hy => h y (List.mem_cons_of_mem _ hy))
theorem nds_perm {α : Type} {l m : List (Str × α)} (p : l.Perm m) (nd : Nds m) : Nds l := (p.map _).nodup_iff.mpr nd
theorem kO_keys (o : Outs) : (kO o).map (·.1) = (o.map (·.1)).map Sum.inr := by unfold kO; rw [List.map_map, List.map_map]; rfl
theorem kO_nd {o : Outs} (nd : Nds o) : ((kO o).map (·.1)).Nodup := by
  rw [kO_keys]
  exact List.Pairwise.map _ (fun x y h c => h (Sum.inr.inj c)) nd
section
variable {K : PySem.W.Frag}
/-- dict(_law_mixed(bag, sorted(d.items()))) -/
theorem mix_dict {σ : L2.St} {H : Hp} {R : VK} {K1 K2 : PySem.W.Frag} {E0 : XK} {te : TE} {b p dO : Addr} {o : Outs} {ib : Nat} (hb : σ[ib]? = some (some (.ref b))) (hte : ∀ Q : VK, Q (.ref dO) H → te σ H Q) (hd : H dO = some (.dK (kO o))) (B : Bag b p H) (nd : Nds o) (lo : 1 ≤ o.length) (hi : o.length ≤ 20)
    (q : ∀ (nw : Addr) (H' : Hp) (o' : Outs), Go b p H H' → newof H H' nw = some (.dK (kO o')) → o'.Perm o → R (.ref nw) H') :
    tCB (fun xs H_1 Q => ∃ a ps kvs, xs = [V.ref a] ∧ SqL K2 H_1 a (List.map V.ref ps) ∧ Paired (fun (p : Addr) (kv : Key × V) => SqT K2 H_1 p [kV kv.fst, kv.snd]) ps kvs ∧ ∀ (p : Addr), H_1 p = none → Q (V.ref p) (upd H_1 p (HO.dK (mergeK [] kvs))))
      (tCons (tCall (spMixV K) [] E0 (tCons (tVar ib) (tCons (tCB rSortIK (tCons (tBM0 K1 "dict" rItemsK te) tNil)) tNil))) tNil) σ H R := by
  refine ⟨_, hb, hte _ ⟨.inr (.inr (.inl ⟨rfl, .inl ⟨_, hd⟩⟩)), dO, kO o, rfl, rfl, hd, fun pv hpv => ?_⟩⟩
  have nv : dO ≠ pv := ne_of_none hd hpv
  refine ⟨pv, dO, o, rfl, upd_same, (upd_ne nv).trans hd, lo, by omega, fun H2 l zs k2 hl pz hlst htup => ?_⟩
  have kv := Same.new (o := L2.DX.itemsO pv dO) hpv
  have B2 : Bag b p H2 := B.same (kv.trans k2)
  have lz : zs.length = o.length := by have := pz.length_eq; rw [List.length_map] at this; exact this
  have nlb : l ≠ b := (B.same kv).b_ne hl
  refine ⟨b, p, l, zs.map fun z => V.ref z.1, rfl, B2, nlb, hlst, by rw [List.length_map]; omega, fun l2 H3 zs2 g3 hz2 pm2 => ?_⟩
  obtain ⟨zs', pz', ez⟩ := perm_lift (fun z : Addr × (Str × Int) => V.ref z.1) pm2 zs rfl
  have g : Go b p H H3 := ((Go.refl B).same (kv.trans k2)).trans g3
  have hop : (zs'.map (·.2)).Perm o := (pz'.map _).trans pz
  refine ⟨l2, zs'.map (·.1), kO (zs'.map (·.2)), rfl, SqL.of ?_, pairs_of (G := H3) fun z hz => ?_, fun nw hnw => ?_⟩
  · rw [List.map_map, (newof_is hz2).2, ← ez]
    rfl
  · have h2 := htup z (pz'.mem_iff.mp hz)
    exact SqT.of (g3.at (Bag.ne_tup B2 h2) h2)
  · rw [merge_nd (kO_nd (nds_perm hop nd))]
    exact q nw _ _ (g.new hnw) (newof_of (g.free hnw) upd_same) hop
end
/-- p is what l has under its name, its outcomes in another order perhaps -/
def Like (l : Acts) (p : Str × (Int × Outs)) : Prop := ∃ a, l.lookup p.1 = some a ∧ p.2.1 = a.1 ∧ p.2.2.Perm a.2
/-- l' is l in another order -/
structure LikeA (l l' : Acts) : Prop where
  perm : (l'.map (·.1)).Perm (l.map (·.1))
  at_ : ∀ p ∈ l', Like l p
theorem mem_look {α : Type} {o : List (Str × α)} {m : Str} {i : α} (hm : o.lookup m = some i) : (m, i) ∈ o := by
  induction o with
  | nil => cases hm
  | cons p o ih =>
    obtain ⟨q, j⟩ := p
    rw [List.lookup_cons] at hm
    by_cases c : m = q
    · subst c
      simp only [beq_self_eq_true] at hm
      cases hm
      exact List.mem_cons_self
    · have : (m == q) = false := by simpa using c
      rw [this] at hm
      exact List.mem_cons_of_mem _ (ih hm)
theorem outs_perm {o o' : Outs} (p : o'.Perm o) (h : OutsOk o) : OutsOk o' :=
  ⟨nds_perm p h.nd, by rw [p.length_eq]; exact h.lo, by rw [p.length_eq]; exact h.hi, fun x hx => h.ok x (p.mem_iff.mp hx)⟩
theorem LikeA.ok {l l' : Acts} (k : LikeA l l') (h : ActsOk l) : ActsOk l' := by
  have ln := k.perm.length_eq
  rw [List.length_map, List.length_map] at ln
  refine ⟨k.perm.nodup_iff.mpr h.nd, by rw [ln]; exact h.hi, fun p hp => ?_⟩
  obtain ⟨a, e1, e2, e3⟩ := k.at_ p hp
  obtain ⟨o1, o2, o3, o4, o5, o6⟩ := h.ok _ (mem_look e1)
  exact ⟨o1, o2, o3, by rw [e2]; exact o4, by rw [e2]; exact o5, outs_perm e3 o6⟩
theorem LikeA.look {l l' : Acts} (k : LikeA l l') (h : ActsOk l) {n : Str} {a : Int × Outs} (e : l.lookup n = some a) : ∃ a', l'.lookup n = some a' ∧ a'.1 = a.1 ∧ a'.2.Perm a.2 := by
  have hn : n ∈ l'.map (·.1) := k.perm.mem_iff.mpr (List.mem_map.mpr ⟨_, mem_look e, rfl⟩)
  obtain ⟨a', ha'⟩ := acts_look hn
  obtain ⟨b, e1, e2, e3⟩ := k.at_ _ (mem_look ha')
  have : b = a := Option.some.inj (e1.symm.trans e)
  subst this
  exact ⟨a', ha', e2, e3⟩
theorem look_perm {o o' : Outs} (p : o'.Perm o) (nd : Nds o) {m : Str} {i : Int} (h : o.lookup m = some i) : o'.lookup m = some i := look_mem (nds_perm p nd) (p.mem_iff.mpr (mem_look h))
theorem LikeA.same {l l' : Acts} (k : LikeA l l') (h : ActsOk l) : SameA l' l := by
  refine ⟨k.perm, fun n b e => ?_⟩
  obtain ⟨a', e1, e2, e3⟩ := k.look h e
  have oo := (h.ok _ (mem_look e)).2.2.2.2.2
  exact ⟨a', e1, e2, e3.map _, fun m i hi => look_perm e3 oo.nd hi⟩
/-- a pair of a name and an act -/
def RowAt (G : Hp) (r : Addr × (Str × (Int × Outs))) : Prop := ∃ t, G r.1 = some (.tup [.str r.2.1, .ref t]) ∧ ActAt G (.ref t) r.2.2
theorem RowAt.same {G G' : Hp} {r : Addr × (Str × (Int × Outs))} (h : RowAt G r) (k : Same G G') : RowAt G' r := by
  obtain ⟨t, h1, h2⟩ := h
  exact ⟨t, k _ _ h1, h2.same k⟩
theorem rows_of {G : Hp} : ∀ {rs : List (Addr × (Str × (Int × Outs)))}, (∀ r ∈ rs, RowAt G r) → ∃ kvs, Paired (fun (p : Addr) (kv : Key × V) => G p = some (.tup [kV kv.1, kv.2])) (rs.map (·.1)) kvs ∧ ActsL G kvs (rs.map (·.2))
  | [], _ => ⟨[], .nil, .nil⟩
  | r :: rs, h => by
    obtain ⟨kvs, h1, h2⟩ := rows_of fun y hy => h y (List.mem_cons_of_mem _ hy)
    obtain ⟨t, e1, e2⟩ := h r List.mem_cons_self
    exact ⟨(.inr r.2.1, .ref t) :: kvs, .cons e1 h1, .cons e2 h2⟩
theorem actsL_nd {H : Hp} {ks : List (Key × V)} {l : Acts} (h : ActsL H ks l) (nd : Nds l) : (ks.map (·.1)).Nodup := by
  rw [h.keys]
  exact List.Pairwise.map _ (fun x y h c => h (Sum.inr.inj c)) nd
section
variable {P : Program} {w : World} {K : PySem.W.Frag} {mg : Str → Option Value} {base : Heap} (T : Txt K mg)
/-- World(..) of a dict of acts: what it is made of is new -/
theorem world_new {H0 : Hp} {nw : Addr} {l : Acts} {Q : VK} {E : XK} (hA : ActsAt H0 nw l) (ok : ActsOk l) (q : ∀ x H', Same H0 H' → WorldAt T.C_World (newof H0 H') x l → Q (.ref x) H') :
    ∀ (x dx : Addr), H0 x = none → H0 dx = none → dx ≠ x → spInit T [.ref x, .ref nw] (upd (upd H0 dx (.own x)) x (.ins T.C_World dx [])) (fun v H2 => v = .non ∧ Q (.ref x) H2) E := by
  intro x dx hx hdx hne
  have k1 : Same H0 (upd (upd H0 dx (.own x)) x (.ins T.C_World dx [])) := (Same.new hdx).trans (Same.new ((upd_ne hne.symm).trans hx))
  refine ⟨x, dx, nw, l, rfl, upd_same, hA.same k1, ok, fun H' fr W => ⟨rfl, q x H' (fun a o e => fr a o (k1 _ _ e) (fun z => by rw [z, hx] at e; cases e)) (W.same fun a o e => ?_)⟩⟩
  unfold newx at e
  split at e
  · rename_i c
    rw [c] at e ⊢
    exact newof_of hx e
  · obtain ⟨e1, e2⟩ := newof_is e
    refine newof_of ?_ e2
    cases z : H0 a with
    | none => rfl
    | some u =>
      rw [k1 _ _ z] at e1
      cases e1
/-- the same acts made again, in another order -/
def spWorldOf : Sp := fun vs H Q _ => ∃ (b p d : Addr) (l : Acts), vs = [.ref b, .ref d] ∧ Bag b p H ∧ ActsAt (mask b H) d l ∧ ActsOk l ∧
  ∀ (x : Addr) (H' : Hp) (l' : Acts), Go b p H H' → WorldAt T.C_World (newof H H') x l' → LikeA l l' → Q (.ref x) H'
theorem ok_law_world_of : FnOk P w K mg base CX0 7 T.a__law_world_of T.d__law_world_of ["_law_bag_here", "_law_acts_here"] (spWorldOf T) := by
  have G__law_mixed := ok_law_mixed (P := P) (w := w) (base := base) T
  have G_World_init := ok_World_init (P := P) (w := w) (base := base) T
  refine T.F__law_world_of.ok sc__law_world_of ?_ (fun cdv A outer s H vs Q E hr h => ?_)
  · rintro vs H Q E ⟨b, p, d, l, rfl, _⟩
    rfl
  obtain ⟨b, p, d, l, rfl, B, hA, okl, q⟩ := h
  refine ⟨_, 
    (pss_cons (ps_set (i := 2) sc__law_world_of.nd rfl (Or.inl rfl) (pe_lst pa_nil))
    (pss_cons (ps_for PassesOwn.never rfl (pi_list (pe_callB (call_sortedD rfl) (by rfl) T.m_sorted (by decide +kernel) (pa_cons (pv 1) pa_nil))) (pg_name (i := 3) sc__law_world_of.nd rfl (Or.inl rfl)) (pss_one (ps_expr (pe_bm PySem.F.plainAttrs_list PySem.F.slot_list_append PySem.F.type_list_append mt_append (pv 2) (pa_cons (pe_tup (pa_cons (pv 3) (pa_cons (pe_tup (pa_cons (pe_ix ix_tup (pe_dget (hu1 hr) (pv 1) (pv 3) (fun _ _ => rfl)) pe_int (fun _ _ => rfl)) (pa_cons (pe_callTy (call_dictP rfl) (by rfl) T.m_dict (by decide +kernel) (pa_cons (pe_call G__law_mixed (hr.mono (by omega)) (by rfl) T.f__law_mixed T.F__law_mixed.kp T.b__law_mixed .nil pass0 (pa_cons (pv 0) (pa_cons (pe_callB (cr_sortIK rfl) (by rfl) T.m_sorted (by decide +kernel) (pa_cons (pe_bm0 PySem.F.plainAttrs_dict PySem.F.slot_dict_items PySem.F.type_dict_items mt_itemsK (pe_ix ix_tup (pe_dget (hu1 hr) (pv 1) (pv 3) (fun _ _ => rfl)) pe_int (fun _ _ => rfl))) pa_nil)) pa_nil))) pa_nil)) pa_nil))) pa_nil))) pa_nil)))))
    (pss_one (ps_ret (pe_make T.mk_World G_World_init (hr.mono (by omega)) (by rfl) T.g_World T.b_World_init .nil pass0 (pa_cons (pe_callTy (call_dictP rfl) (by rfl) T.m_dict (by decide +kernel) (pa_cons (pe_call G__law_mixed (hr.mono (by omega)) (by rfl) T.f__law_mixed T.F__law_mixed.kp T.b__law_mixed .nil pass0 (pa_cons (pv 0) (pa_cons (pv 2) pa_nil))) pa_nil)) pa_nil)))))), ?_⟩
  obtain ⟨ks, hdm, hLm⟩ := hA
  have hd := unmask _ _ hdm
  have hL := hLm.same unmask
  have lhi := okl.hi
  have nb := Bag.ne_dK B hd
  refine ⟨(by show 0 ≤ sizeLine; decide), fun Dr hDr => ?_⟩
  have g1 := (Go.refl B).new (o := .lst []) hDr
  have f1 : newof H (upd H Dr (.lst [])) Dr = some (.lst []) := newof_of hDr upd_same
  have hd1 := g1.at nb hd
  generalize upd H Dr (.lst []) = H1 at g1 f1 hd1 ⊢
  refine ⟨_, rfl, d, ks, l.map (·.1), rfl, .of hd1, hL.keys, (by rw [List.length_map]; omega), fun ys pl pm sr hpl => ?_⟩
  have zl := g1.free hpl
  have g2 := g1.new (o := .lst (ys.map V.str)) hpl
  have k2 : Same (newof H H1) (newof H (upd H1 pl (.lst (ys.map V.str)))) := newof_same (Same.new hpl)
  have f2 := k2 _ _ f1
  have fl2 : newof H (upd H1 pl (.lst (ys.map V.str))) pl = some (.lst (ys.map V.str)) := newof_of zl upd_same
  have nlr : pl ≠ Dr := fun z => by rw [z, (newof_is f1).2] at hpl; cases hpl
  generalize upd H1 pl (.lst (ys.map V.str)) = H2 at g2 f2 fl2 ⊢
  have ly : ys.length = l.length := by rw [pm.length_eq, List.length_map]
  refine ⟨pl, rfl, ⟨_, SqL.of (newof_is fl2).2⟩, ?_⟩
  refine for_list (xs := ys.map V.str) (fun i σ H' => ∃ o3 rs, σ = [some (.ref b), some (.ref d), some (.ref Dr), o3] ∧ Go b p H H' ∧ newof H H' pl = some (.lst (ys.map V.str)) ∧ newof H H' Dr = some (.lst (rs.map fun r => V.ref r.1)) ∧ rs.map (·.2.1) = ys.take i ∧ ∀ r ∈ rs, RowAt (mask Dr (newof H H')) r ∧ Like l r.2)
    ⟨none, [], rfl, g2, fl2, f2, rfl, fun _ h => by cases h⟩ (fun i σ H' _ h => by obtain ⟨_, _, _, _, h, _⟩ := h; exact SqL.of (newof_is h).2) ?_ ?_
  · rintro i y σ H3 hy ⟨o3, rs, rfl, g3, fl3, f3, nm, rows⟩
    obtain ⟨n, hn, rfl⟩ : ∃ n, ys[i]? = some n ∧ y = .str n := by
      rw [List.getElem?_map] at hy
      obtain ⟨n, e1, e2⟩ := Option.map_eq_some_iff.mp hy
      exact ⟨n, e1, e2.symm⟩
    have hi : i < ys.length := (List.getElem?_eq_some_iff.mp hn).1
    have lrs : rs.length = i := by
      have := congrArg List.length nm
      rw [List.length_map, List.length_take] at this
      omega
    obtain ⟨a, ha⟩ := acts_look (pm.mem_iff.mp (List.mem_of_getElem? hn))
    have oo := (okl.ok _ (mem_look ha)).2.2.2.2.2
    obtain ⟨t, dO, hv, ht, ho⟩ : ∃ t dO, valV ks (.inr n) = some (.ref t) ∧ H t = some (.tup [.int a.1, .ref dO]) ∧ H dO = some (.dK (kO a.2)) := by
      rcases hL.look n with ⟨_, z⟩ | ⟨v', a', q1, q2, ⟨t, d', rfl, q3, q4⟩⟩
      · rw [ha] at z; cases z
      · rw [ha] at q2
        cases q2
        exact ⟨t, d', q1, q3, q4⟩
    have hd3 := g3.at nb hd
    have ht3 := g3.at (Bag.ne_tup B ht) ht
    have ho3 := g3.at (Bag.ne_dK B ho) ho
    refine ⟨_, rfl, .inl ⟨rfl, _, SqL.of (newof_is f3).2⟩, _, rfl, _, rfl, _, rfl, d, _, rfl, (by rw [← hv]; exact DGet.k (k := .inr n) hd3), t, _, 0, _, rfl, rfl, SqT.of ht3, atI_nat (j := 0) rfl, ?_⟩
    refine mix_dict (K := K) (ib := 0) (b := b) (p := p) (dO := dO) (o := a.2) rfl (fun Q hq => ⟨_, rfl, _, rfl, d, _, rfl, (by rw [← hv]; exact DGet.k (k := .inr n) hd3), t, _, 1, _, rfl, rfl, SqT.of ht3, atI_nat (j := 1) rfl, hq⟩) ho3 g3.B oo.nd oo.lo (Nat.le_trans oo.hi (by decide)) (fun nw H4 o' g4 hnw hop => ?_)
    refine ⟨(by show 2 ≤ sizeLine; decide), fun t2 ht2 => ⟨(by show 2 ≤ sizeLine; decide), fun t3 ht3' => ?_⟩⟩
    have hg4 := newof_lift (fun a h => g3.free h) _ _ hnw
    have g04 := g3.trans g4
    have z2 := g04.free ht2
    have g5 := g04.new (o := .tup [.int a.1, .ref nw]) ht2
    have z3 := g5.free ht3'
    have g6 := g5.new (o := .tup [.str n, .ref t2]) ht3'
    have k46 : Same (newof H H4) (newof H (upd (upd H4 t2 (.tup [.int a.1, .ref nw])) t3 (.tup [.str n, .ref t2]))) := newof_same ((Same.new ht2).trans (Same.new ht3'))
    have k36 := (newof_go (H := H) B g4).trans k46
    have f6 := k36 _ _ f3
    have fl6 := k36 _ _ fl3
    have fn6 := k46 _ _ hg4
    have ft2 : newof H (upd (upd H4 t2 (.tup [.int a.1, .ref nw])) t3 (.tup [.str n, .ref t2])) t2 = some (.tup [.int a.1, .ref nw]) := newof_of z2 (Same.new ht3' _ _ upd_same)
    have ft3 : newof H (upd (upd H4 t2 (.tup [.int a.1, .ref nw])) t3 (.tup [.str n, .ref t2])) t3 = some (.tup [.str n, .ref t2]) := newof_of z3 upd_same
    generalize upd (upd H4 t2 (.tup [.int a.1, .ref nw])) t3 (.tup [.str n, .ref t2]) = H6 at g6 k46 k36 f6 fl6 fn6 ft2 ft3 ⊢
    have n2 : t2 ≠ Dr := fun z => by rw [z, f6] at ft2; cases ft2
    have n3 : t3 ≠ Dr := fun z => by rw [z, f6] at ft3; cases ft3
    have nn : nw ≠ Dr := fun z => by rw [z, f6] at fn6; cases fn6
    have zD := (newof_is f6).1
    have nm' : newof H (upd H6 Dr (.lst ((rs.map fun r => V.ref r.1) ++ [.ref t3]))) = upd (newof H H6) Dr (.lst ((rs.map fun r => V.ref r.1) ++ [.ref t3])) := newof_updn zD
    refine ⟨Dr, _, _, rfl, rfl, (newof_is f6).2, szl (by rw [List.length_map]; omega), _, rs ++ [(t3, n, (a.1, o'))], rfl, Go.mut B g6 zD, ?_, ?_, ?_, fun r hr => ?_⟩
    · rw [nm', upd_ne nlr]; exact fl6
    · rw [nm', upd_same, List.map_append]; rfl
    · rw [List.map_append, nm, List.take_add_one, hn]; rfl
    · rw [nm', mask_updb]
      rcases List.mem_append.mp hr with hr | hr
      · obtain ⟨r1, r2⟩ := rows r hr
        exact ⟨r1.same (mask_same k36), r2⟩
      · rw [List.mem_singleton.mp hr]
        exact ⟨⟨t2, (mask_ne n3).trans ft3, t2, nw, rfl, (mask_ne n2).trans ft2, (mask_ne nn).trans fn6⟩, a, ha, rfl, hop⟩
  · rintro σ H3 ⟨o3, rs, rfl, g3, fl3, f3, nm, rows⟩
    rw [List.length_map, List.take_length] at nm
    have lrs : rs.length = l.length := by
      have := congrArg List.length nm
      rw [List.length_map] at this
      omega
    refine ⟨_, rfl, _, rfl, b, p, Dr, _, rfl, g3.B, B.b_ne (newof_is f3).1, (newof_is f3).2, (by rw [List.length_map]; omega), fun l2 H6 zs2 g6 hz2 pm2 => ?_⟩
    obtain ⟨rs', pz, ez⟩ := perm_lift (fun r : Addr × (Str × (Int × Outs)) => V.ref r.1) pm2 rs rfl
    have k6 := newof_go (H := H) B g6
    have g06 := g3.trans g6
    obtain ⟨kvs, pk, aL⟩ := rows_of (G := newof H H6) (rs := rs') fun r hr => (rows r (pz.mem_iff.mp hr)).1.same fun a o e => k6 _ _ (unmask _ _ e)
    have lk : LikeA l (rs'.map (·.2)) := by
      refine ⟨?_, fun p hp => ?_⟩
      · have e1 : (rs'.map (·.2)).map (·.1) = rs'.map (·.2.1) := by rw [List.map_map]; rfl
        rw [e1]
        have e2 := pz.map (·.2.1)
        rw [nm] at e2
        exact e2.trans pm
      · obtain ⟨r, hr, rfl⟩ := List.mem_map.mp hp
        exact (rows r (pz.mem_iff.mp hr)).2
    have okn := lk.ok okl
    refine ⟨l2, rs'.map (·.1), kvs, rfl, SqL.of ?_, Paired.imp' pk fun x y e => SqT.of (newof_is e).2, fun nw hnw => ?_⟩
    · rw [List.map_map, (newof_is hz2).2, ← ez]
      rfl
    rw [merge_nd (actsL_nd aL okn.nd)]
    have g7 := g06.new (o := .dK kvs) hnw
    have k7 := Same.new (o := .dK kvs) hnw
    refine world_new T ⟨kvs, upd_same, aL.same fun a o e => k7 _ _ (newof_is e).2⟩ okn (fun x H' kx W => q x H' _ (g7.same kx) (W.same (newof_lift fun a h => g7.free h)) lk)
end
end K20
set_option maxRecDepth 100000
set_option maxHeartbeats 2000000
/-! != by an own __eq__ without a __ne__ -/
namespace L2
open PySem PySem.Spec PyProof.Rows PySem.W
theorem ne_bind (self : Value) : bindSpecial (.builtin "object.__ne__") self = pure (.builtin "object.__ne__", [self]) :=
  (Slot.of (T := "object") (name := "__ne__") (owner := "object") (n := "__ne__") (by rw [typeLookup_type, builtinLookup_eq_fast]; kernel_rfl) (by decide +kernel) (by decide +kernel) (by decide +kernel)
    (.inl (by decide +kernel)) (by rw [isSubtype_type]; kernel_rfl)).bind self
section
variable {prog : Program} {w : World} {A A₀ : Around} {E : Value → Shared → Prop} {s : Shared} {K : Frag} {x C L f : Addr} {h₀ : Heap} {m : Str → Option Value} {ox : Obj} {od : Option Obj} {b tb : Value}
theorem ne_body {Q : Fin → Shared → Prop} (hu : A.units < cLine) (X : K.In s.heap) (I : InstAt s.heap x ox C od) (hs : findIn K (.ref C) "__eq__" = some (some (.ref f))) (hf : isFn K (.ref f) = true)
    (h : wpAny (model prog w) A (call (.ref f) [.ref x, b]) (fun v s' => ∃ c, v = .bool c ∧ Q (.done (.ret (.bool (!c)))) s') E s) : wpAny (model prog w) A (Builtin.«object.__ne__» ⟨[.ref x, b], []⟩) Q E s := by
  unfold Builtin.«object.__ne__»
  refine wpAny_bind (wpAny_pure ?_)
  refine wpAny_bind (wpAny_cRoomFor hu ?_)
  refine wpAny_bind (ifBound_K X I hs hf (wpAny_mono h (fun v s' hv => ?_) fun _ _ e => e))
  obtain ⟨c, rfl, q⟩ := hv
  refine wpAny_bind (wpAny_truthy_bool ?_)
  exact wpAny_pure q
theorem cmp_neK {Q : Value → Shared → Prop} (hu : A.units + 1 < cLine) (F : Fr h₀ L s.heap m) (X₀ : K.In h₀) (I : InstAt s.heap x ox C od) (hb : Looks (model prog w) s.heap (typeOf b) tb) (hn : notFirst K C tb = true)
    (hne : findIn K (.ref C) "__ne__" = some (some (.builtin "object.__ne__"))) (hob : subIn K (.ref C) (.type "object") = some true) (hs : findIn K (.ref C) "__eq__" = some (some (.ref f))) (hf : isFn K (.ref f) = true)
    (h : wpAny (model prog w) A.in1 (call (.ref f) [.ref x, b]) (fun v s' => ∃ c, v = .bool c ∧ Q (.bool (!c)) s') E s) : wpAny (model prog w) A (richCompare .NotEq (.ref x) b) Q E s := by
  have X := X₀.keeps F.keep
  have one : wpAny (model prog w) A (tryCompare (.ref x) "__ne__" b) (fun r s' => ∃ v, r = some v ∧ Q v s') E s := by
    unfold tryCompare
    have t2 : Looks (model prog w) s.heap (isInstance (.ref x) (.type "object")) true := I.type.andThen (looks_subIn X hob)
    have body := ne_body (prog := prog) (w := w) (E := E) (A := A.in1) (b := b) (Q := fun fin s' => ∃ v, fin = .done (.ret v) ∧ ∃ c, v = .bool c ∧ Q v s') (by show A.units + 1 < cLine; exact hu) X I hs hf
      (wpAny_mono h (fun v s' hv => by obtain ⟨c, rfl, q⟩ := hv; exact ⟨c, rfl, _, rfl, _, rfl, q⟩) fun _ _ e => e)
    have run : wpAny (model prog w) A (callSpecialIfBound? (.ref x) "__ne__" [b]) (fun r s' => ∃ c, r = some (.bool c) ∧ Q (.bool c) s') E s := by
      simp only [callSpecialIfBound?, bindSpecialIfBound?]
      refine wpAny_holding (wpAny_bind (wpAny_bind (wpAny_bind (I.type.here ((looks_findIn X hne).here ?_)))))
      refine wpAny_bind (wpAny_askSetting (wpAny_ite ?_))
      have fin : wpAny (model prog w) A (call (.builtin "object.__ne__") ([.ref x] ++ [b]) >>= fun v => pure (some v)) (fun r s' => ∃ c, r = some (.bool c) ∧ Q (.bool c) s') E s := by
        refine wpAny_bind (wpAny_call (codeAny_call_builtin (by decide +kernel) PySem.F.cmpEntry_ne (@check_slot (model prog w) _ _ s "object.__ne__" "object" "__ne__" (.ref x) [b] [] _ PySem.F.cmpKind_ne PySem.F.cmpSplit_ne t2 (PySem.F.cmpArgs_ne _ _) ?_)))
        refine wpAny_mono body (fun fin s' hv => ?_) fun _ _ e => e
        obtain ⟨v, rfl, c, rfl, q⟩ := hv
        exact wpAny_pure ⟨c, rfl, q⟩
      split
      · exact wpAny_bind ((Looks.of_pure (ne_bind (.ref x))).here (wpAny_pure (by exact fin)))
      · exact wpAny_tryCatch (wpAny_bind ((Looks.of_pure (ne_bind (.ref x))).here (wpAny_pure (by exact fin))))
    refine wpAny_bind (wpAny_mono run (fun r s' hr => ?_) fun _ _ e => e)
    obtain ⟨c, rfl, q⟩ := hr
    exact wpAny_pure ⟨_, rfl, q⟩
  unfold richCompare
  simp only [oneThing_ref]
  refine wpAny_holding (wpAny_bind (wpAny_cRoomFor (by omega) ?_))
  refine wpAny_bind (I.type.here (wpAny_bind (hb.here ?_)))
  split
  · rename_i q
    have e : subIn K tb (.ref C) = some false := by
      rcases Bool.or_eq_true_iff.mp hn with e | e
      · rw [beq_iff_eq.mp e] at q; simp at q
      · exact beq_iff_eq.mp e
    refine wpAny_bind ((looks_subIn X e).here ?_)
    simp only [Bool.false_eq_true, if_false]
    refine wpAny_bind (wpAny_mono one (fun r s' z => ?_) fun _ _ e => e)
    obtain ⟨v, rfl, hq⟩ := z
    exact wpAny_pure hq
  · refine wpAny_bind (wpAny_pure ?_)
    simp only [Bool.false_eq_true, if_false]
    refine wpAny_bind (wpAny_mono one (fun r s' z => ?_) fun _ _ e => e)
    obtain ⟨v, rfl, hq⟩ := z
    exact wpAny_pure hq
end
/-- x != y, x an instance of C with an own __eq__ that promises sp, and no own __ne__ -/
def rOwnNe (K : PySem.W.Frag) (C : Addr) (sp : Sp) (E : XK) : R2 := fun x y H Q => ∃ a dx fs t, x = .ref a ∧ H a = some (.ins C dx fs) ∧ TyE K H y t ∧ PySem.W.notFirst K C t = true ∧ sp [x, y] H (fun v H' => ∃ c, v = .bl c ∧ Q (.bl (!c)) H') E
section
variable {X : Cx}
theorem op_neOwn {CX : CXT} {C f : Addr} {fd : FuncData} {ps : List Str} {sp : Sp} {E : XK} {n : Nat} (F : FnOk X.prog X.w X.K X.mg X.base CX n f fd ps sp)
    (hne : findIn X.K (.ref C) "__ne__" = some (some (.builtin "object.__ne__"))) (hob : subIn X.K (.ref C) (.type "object") = some true)
    (hs : PySem.W.findIn X.K (.ref C) "__eq__" = some (some (.ref f))) (hf : PySem.W.isFn X.K (.ref f) = true) (hb : Binds X.K fd ps []) (hx : Passes CX X E) (hr : Room (n + 1) X.A) : OpR X (compareOp .NotEq) (rOwnNe X.K C sp E) := by
  intro pins s σ H x y v u Q I rx ry hq
  obtain ⟨a, dx, fs, t, rfl, ha, ty, nf, hsp⟩ := hq
  cases (show v = Value.ref a from rx)
  obtain ⟨mA, J, _⟩ := ins_get I.hok ha
  obtain ⟨od, J, _⟩ := J.look
  obtain ⟨m, hF⟩ := I.fr
  obtain ⟨P, Z, p, _⟩ := kit_ofE I ry ty
  show wpAny (model X.prog X.w) X.A (richCompare .NotEq (.ref a) u) (EP X pins σ Q) X.xe s
  refine cmp_neK (tb := t) (by have := hr.un; omega) hF I.ok.mod.kin J (Z.ty _ _ I.kIn p) nf hne hob hs hf ?_
  have hl := F.len _ _ _ _ hsp
  have r2 : Vals [V.ref a, y] [Value.ref a, u] := .cons rfl (.cons ry .nil)
  have e0 : Env0 X.prog X.w X.K X.mg X.base X.A.in1 X.stack s H := by
    have e := I.env0
    exact ⟨e.frames, e.mod, e.bs, e.bsz, e.funs, e.frf, e.hok, e.bare⟩
  refine wpAny_call (codeAny_mono (F.run X.A.in1 X.stack s H ⟨[.ref a, u], []⟩ [.ref a, u] [.ref a, y] _ E hr.in1 e0 (by
    have := hb s [.ref a, u] I.kIn (by simpa using hl)
    simpa using this) r2 hsp) fun r s' hq => ?_)
  cases r with
  | error e => exact hx pins σ H s e s' I hq
  | ok fl =>
    cases fl with
    | ret w =>
      obtain ⟨z, H', I', rz, c, ez, q⟩ := I.after hq
      subst ez
      cases rz
      exact ⟨c, rfl, .bl (!c), H', I', rfl, q⟩
    | next => exact False.elim hq
    | brk => exact False.elim hq
    | cont => exact False.elim hq
end
end L2
set_option maxRecDepth 100000
set_option maxHeartbeats 2000000
namespace K20
open PySem L2 Fm
/-- the same outcomes -/
def LookO (o1 o2 : Outs) : Prop := o1.length = o2.length ∧ ∀ m i, o1.lookup m = some i → o2.lookup m = some i
/-- the same acts -/
def LookA (l1 l2 : Acts) : Prop := l1.length = l2.length ∧ ∀ n a, l1.lookup n = some a → ∃ b, l2.lookup n = some b ∧ b.1 = a.1 ∧ LookO a.2 b.2
theorem look_none {α : Type} {l : List (Str × α)} {n : Str} (h : n ∉ l.map (·.1)) : l.lookup n = none := by
  cases e : l.lookup n with
  | none => rfl
  | some a => exact absurd (List.mem_map.mpr ⟨_, mem_look e, rfl⟩) h
theorem look_some {α : Type} {l : List (Str × α)} {n : Str} (h : n ∈ l.map (·.1)) : ∃ a, l.lookup n = some a := by
  induction l with
  | nil => cases h
  | cons p l ih =>
    obtain ⟨m, b⟩ := p
    rw [List.lookup_cons]
    by_cases c : n = m
    · subst c; simp
    · have : (n == m) = false := by simpa using c
      rw [this]
      rcases List.mem_cons.mp h with h | h
      · exact absurd h c
      · exact ih h
theorem look_back {α β : Type} {l1 : List (Str × α)} {l2 : List (Str × β)} (nd : Nds l1) (ln : l1.length = l2.length) (h : ∀ n a, l1.lookup n = some a → ∃ b, l2.lookup n = some b) {n : Str} {b : β} (e : l2.lookup n = some b) : ∃ a, l1.lookup n = some a := by
  by_cases c : n ∈ l1.map (·.1)
  · exact look_some c
  · exfalso
    have nd2 : (n :: l1.map (·.1)).Nodup := List.nodup_cons.mpr ⟨c, nd⟩
    have sub : ∀ x ∈ n :: l1.map (·.1), x ∈ l2.map (·.1) := fun x hx => by
      rcases List.mem_cons.mp hx with rfl | hx
      · exact List.mem_map.mpr ⟨_, mem_look e, rfl⟩
      · obtain ⟨a, ha⟩ := look_some hx
        obtain ⟨b, hb⟩ := h _ _ ha
        exact List.mem_map.mpr ⟨_, mem_look hb, rfl⟩
    have := nodup_lenA nd2 sub
    rw [List.length_cons, List.length_map, List.length_map] at this
    omega
theorem LookO.symm {o1 o2 : Outs} (nd : Nds o1) (h : LookO o1 o2) : LookO o2 o1 := by
  refine ⟨h.1.symm, fun m i e => ?_⟩
  obtain ⟨j, hj⟩ := look_back nd h.1 (fun n a e => ⟨a, h.2 n a e⟩) e
  have := h.2 m j hj
  rw [e] at this
  cases this
  exact hj
theorem LookO.trans {o1 o2 o3 : Outs} (h : LookO o1 o2) (k : LookO o2 o3) : LookO o1 o3 := ⟨h.1.trans k.1, fun m i e => k.2 m i (h.2 m i e)⟩
theorem LookA.trans {l1 l2 l3 : Acts} (h : LookA l1 l2) (k : LookA l2 l3) : LookA l1 l3 := ⟨h.1.trans k.1, fun n a e => by
  obtain ⟨b, e1, e2, e3⟩ := h.2 n a e
  obtain ⟨c, f1, f2, f3⟩ := k.2 n b e1
  exact ⟨c, f1, f2.trans e2, e3.trans f3⟩⟩
theorem LookA.symm {l1 l2 : Acts} (nd : Nds l1) (no : ∀ p ∈ l1, Nds p.2.2) (h : LookA l1 l2) : LookA l2 l1 := by
  refine ⟨h.1.symm, fun n b e => ?_⟩
  obtain ⟨a, ha⟩ := look_back nd h.1 (fun n a e => by obtain ⟨b, e1, _⟩ := h.2 n a e; exact ⟨b, e1⟩) e
  obtain ⟨b', e1, e2, e3⟩ := h.2 n a ha
  rw [e] at e1
  cases e1
  exact ⟨a, ha, e2.symm, e3.symm (no _ (mem_look ha))⟩
theorem look_perm2 {o o' : Outs} (p : o'.Perm o) (nd : Nds o) : LookO o o' := ⟨p.length_eq.symm, fun m i h => look_perm p nd h⟩
theorem ActsOk.nds {l : Acts} (h : ActsOk l) : ∀ p ∈ l, Nds p.2.2 := fun p hp => (h.ok p hp).2.2.2.2.2.nd
theorem LikeA.look2 {l l' : Acts} (k : LikeA l l') (h : ActsOk l) : LookA l l' := by
  have ln := k.perm.length_eq
  rw [List.length_map, List.length_map] at ln
  refine ⟨ln.symm, fun n a e => ?_⟩
  obtain ⟨a', e1, e2, e3⟩ := k.look h e
  exact ⟨a', e1, e2, look_perm2 e3 (ActsOk.nds h _ (mem_look e))⟩
theorem eqO_iff {o1 o2 : Outs} (nd : Nds o1) : eqO o1 o2 = true ↔ LookO o1 o2 := by
  unfold eqO
  rw [Bool.and_eq_true, beq_iff_eq, List.all_eq_true]
  refine ⟨fun ⟨h1, h2⟩ => ⟨h1, fun m i e => ?_⟩, fun ⟨h1, h2⟩ => ⟨h1, fun p hp => ?_⟩⟩
  · exact beq_iff_eq.mp (h2 _ (mem_look e))
  · exact beq_iff_eq.mpr (h2 _ _ (look_mem nd hp))
theorem eqW_iff {l1 l2 : Acts} (nd : Nds l1) (no : ∀ p ∈ l1, Nds p.2.2) : eqW l1 l2 = true ↔ LookA l1 l2 := by
  unfold eqW eqArgs eqBr
  rw [Bool.and_eq_true, Bool.and_eq_true, Bool.and_eq_true, beq_iff_eq, List.all_eq_true, List.all_eq_true]
  refine ⟨fun ⟨⟨h1, h2⟩, _, h3⟩ => ⟨h1, fun n a e => ?_⟩, fun ⟨h1, h2⟩ => ⟨⟨h1, fun p hp => ?_⟩, h1, fun p hp => ?_⟩⟩
  · have g2 := h2 _ (mem_look e)
    have g3 := h3 _ (mem_look e)
    dsimp only at g2 g3
    cases e2 : l2.lookup n with
    | none => rw [e2] at g2; cases g2
    | some b =>
      rw [e2] at g2 g3
      exact ⟨b, rfl, (beq_iff_eq.mp g2).symm, (eqO_iff (no _ (mem_look e))).mp g3⟩
  · obtain ⟨b, e1, e2, e3⟩ := h2 _ _ (look_mem nd hp)
    rw [e1]
    exact beq_iff_eq.mpr e2.symm
  · obtain ⟨b, e1, e2, e3⟩ := h2 _ _ (look_mem nd hp)
    rw [e1]
    exact (eqO_iff (no p hp)).mpr e3
/-- two dicts of acts, == -/
def eqD (l1 l2 : Acts) : Bool := l1.length == l2.length && l1.all fun p => match l2.lookup p.1 with | some a => p.2.1 == a.1 && eqO p.2.2 a.2 | none => false
theorem eqD_iff {l1 l2 : Acts} (nd : Nds l1) (no : ∀ p ∈ l1, Nds p.2.2) : eqD l1 l2 = true ↔ LookA l1 l2 := by
  unfold eqD
  rw [Bool.and_eq_true, beq_iff_eq, List.all_eq_true]
  refine ⟨fun ⟨h1, h2⟩ => ⟨h1, fun n a e => ?_⟩, fun ⟨h1, h2⟩ => ⟨h1, fun p hp => ?_⟩⟩
  · have g2 := h2 _ (mem_look e)
    dsimp only at g2
    cases e2 : l2.lookup n with
    | none => rw [e2] at g2; cases g2
    | some b =>
      rw [e2] at g2
      obtain ⟨g3, g4⟩ := Bool.and_eq_true_iff.mp g2
      exact ⟨b, rfl, (beq_iff_eq.mp g3).symm, (eqO_iff (no _ (mem_look e))).mp g4⟩
  · obtain ⟨b, e1, e2, e3⟩ := h2 _ _ (look_mem nd hp)
    rw [e1]
    exact Bool.and_eq_true_iff.mpr ⟨beq_iff_eq.mpr e2.symm, (eqO_iff (no p hp)).mpr e3⟩
theorem bool_iff {a b : Bool} (h : a = true ↔ b = true) : a = b := by
  cases a <;> cases b <;> simp_all
theorem hits_d {K : PySem.W.Frag} {H : Hp} {n : Nat} {ks2 : List (Key × V)} {l2 : Acts} (h2 : ActsL H ks2 l2) {ks1 : List (Key × V)} {l1 : Acts} (h1 : ActsL H ks1 l1) (no : ∀ p ∈ l1, Nds p.2.2) :
    HitsB (EqVB K H (n + 3)) ks2 ks1 (l1.all fun p => match l2.lookup p.1 with | some a => p.2.1 == a.1 && eqO p.2.2 a.2 | none => false) := by
  induction h1 with
  | nil => exact .nil
  | @cons m v a ks l ha _ ih =>
    rw [List.all_cons]
    rcases h2.look m with ⟨e1, e2⟩ | ⟨v2, b, e1, e2, hb⟩
    · have z : (match l2.lookup (m, a).1 with | some c => (m, a).2.1 == c.1 && eqO (m, a).2.2 c.2 | none => false) = false := by
        show (match l2.lookup m with | some c => a.1 == c.1 && eqO a.2 c.2 | none => false) = false
        rw [e2]
      rw [z, Bool.false_and]
      exact .miss e1
    · have z : (match l2.lookup (m, a).1 with | some c => (m, a).2.1 == c.1 && eqO (m, a).2.2 c.2 | none => false) = (a.1 == b.1 && eqO a.2 b.2) := by
        show (match l2.lookup m with | some c => a.1 == c.1 && eqO a.2 c.2 | none => false) = _
        rw [e2]
      rw [z]
      obtain ⟨t1, d1, rfl, ht1, ho1⟩ := ha
      obtain ⟨t2, d2, rfl, ht2, ho2⟩ := hb
      have nda : Nds a.2 := no _ List.mem_cons_self
      have q1 : H d1 = some (.dK (kO a.2)) := ho1
      have q2 : H d2 = some (.dK (kO b.2)) := ho2
      refine .hit e1 (.inr (.inr ⟨fun c y1 y2 => ?_, .inl ⟨t1, t2, [.int a.1, .ref d1], [.int b.1, .ref d2], [a.1 == b.1, eqO a.2 b.2], rfl, rfl, SqT.of ht1, SqT.of ht2, .cons (flat_int a.1 b.1) (.cons (.inr (.inr ⟨fun c y1 y2 => ?_, .inr ⟨d1, d2, kO a.2, kO b.2, _, rfl, rfl, ho1, ho2, fun _ => hits_o b.2 a.2, ?_⟩⟩)) .nil), ?_⟩⟩)) (ih fun p hp => no p (List.mem_cons_of_mem _ hp))
      · cases y1
        cases y2
        rw [ht1] at ht2
        have y := Option.some.inj ht2
        injection y with y
        injection y with y1 y2
        injection y1 with y1
        injection y2 with y2 _
        injection y2 with y2
        rw [← y2, q1] at q2
        have q3 : kO a.2 = kO b.2 := by injection q2 with z; injection z
        rw [y1, ← kO_inj q3, eqO_self nda, beq_self_eq_true]
        rfl
      · cases y1
        cases y2
        rw [q1] at q2
        have q3 : kO a.2 = kO b.2 := by injection q2 with z; injection z
        show eqO a.2 b.2 = true
        rw [← kO_inj q3]
        exact eqO_self nda
      · unfold eqO kO
        simp only [List.length_map]
      · simp
end K20
set_option maxRecDepth 100000
set_option maxHeartbeats 2000000
namespace K20
open PySem L2 Fm
theorem Bag.p_ne {b p d : Addr} {H : Hp} {ks : List (Key × V)} (B : Bag b p H) (h : H d = some (.dK ks)) : d ≠ p := by
  obtain ⟨s, m, n, cells, _, h2, _⟩ := B
  exact fun z => by rw [z, h2] at h; cases h
theorem Bag.off {b p d : Addr} {H : Hp} {o : HO} (B : Bag b p H) (nb : d ≠ b) (np : d ≠ p) : Bag b p (upd H d o) := by
  obtain ⟨s, m, n, cells, h1, h2, h3, h4, h5, h6, h7, h8⟩ := B
  exact ⟨s, m, n, cells, (upd_ne nb.symm).trans h1, (upd_ne np.symm).trans h2, h3, h4, h5, h6, h7, h8⟩
theorem go_back {b p d : Addr} {H H' : Hp} {u : HO} {od : Obj} (hd : H d = some u) (nb : d ≠ b) (np : d ≠ p) (g : Go b p (upd H d (.frz od u)) H') : Go b p H (upd H' d u) := by
  refine ⟨fun a o e => ?_, Bag.off g.B nb np⟩
  by_cases c : a = b
  · rw [c] at e
    unfold mask at e
    rw [if_pos rfl] at e
    cases e
  rw [mask_ne c] at e ⊢
  by_cases z : a = d
  · rw [z] at e ⊢
    rw [upd_same, ← e]
    exact hd.symm
  · rw [upd_ne z]
    have := g.k a o (by rw [mask_ne c, upd_ne z]; exact e)
    rw [mask_ne c] at this
    exact this
section
variable {K : PySem.W.Frag}
/-- dict([(n, (side[n][0], dict(_law_mixed(bag, sorted(side[n][1].items()))))) for n in side]) -/
theorem handed {σ : L2.St} {H : Hp} {R : VK} {K0 K1 K2 K3 K4 : PySem.W.Frag} {E0 : XK} {b p d : Addr} {ib ia ij : Nat} {ks : List (Key × V)} {l : Acts} (hd : H d = some (.dK ks)) (hL : ActsL H ks l) (ok : ActsOk l) (B : Bag b p H)
    (ha : σ[ia]? = some (some (.ref d))) (hw : ∀ v, wipe ((wipe σ [ij]).set ij (some v)) [ij] = wipe σ [ij]) (h1 : ∀ v, ((wipe σ [ij]).set ij (some v))[ia]? = some (some (.ref d))) (h2 : ∀ v, ((wipe σ [ij]).set ij (some v))[ij]? = some (some v)) (h3 : ∀ v, ((wipe σ [ij]).set ij (some v))[ib]? = some (some (.ref b)))
    (q : ∀ p1 H' ks' l' ds, Go b p H H' → newof H H' p1 = some (.dK ks') → ActsD (mask p1 (newof H H')) ks' l' ds → ds.Nodup → l'.map (·.1) = l.map (·.1) → (∀ x ∈ l', Like l x) → R (.ref p1) H') :
    tCB (fun xs H_1 Q => ∃ a ps kvs, xs = [V.ref a] ∧ SqL K0 H_1 a (List.map V.ref ps) ∧ Paired (fun (p : Addr) (kv : Key × V) => SqT K0 H_1 p [kV kv.fst, kv.snd]) ps kvs ∧ ∀ (p : Addr), H_1 p = none → Q (V.ref p) (upd H_1 p (HO.dK (mergeK [] kvs))))
      (tCons (tLockE (tLc (iKeys (tVar ia)) (gName ij) tYes
        (tTup (tCons (tVar ij) (tCons (tTup (tCons (tOp (rIxT K1) (tDGet (tVar ia) (tVar ij)) (tC (V.int 0)))
          (tCons (tCB (fun xs H_1 Q => ∃ a ps kvs, xs = [V.ref a] ∧ SqL K2 H_1 a (List.map V.ref ps) ∧ Paired (fun (p : Addr) (kv : Key × V) => SqT K2 H_1 p [kV kv.fst, kv.snd]) ps kvs ∧ ∀ (p : Addr), H_1 p = none → Q (V.ref p) (upd H_1 p (HO.dK (mergeK [] kvs))))
            (tCons (tCall (spMixV K) [] E0 (tCons (tVar ib) (tCons (tCB rSortIK (tCons (tBM0 K3 "dict" rItemsK (tOp (rIxT K4) (tDGet (tVar ia) (tVar ij)) (tC (V.int 1)))) tNil)) tNil))) tNil)) tNil))) tNil))) [ij])) tNil) σ H R := by
  have hlen := hL.len
  have nb := Bag.ne_dK B hd
  have np := Bag.p_ne B hd
  have lhi := ok.hi
  refine ⟨d, _, hd, trivial, fun od => ⟨_, ha, d, od, rfl, .inl ⟨_, upd_same, fun Dl hD => ?_⟩⟩⟩
  have nDd : Dl ≠ d := fun z => by rw [z, upd_same] at hD; cases hD
  have Bf : Bag b p (upd H d (.frz od (.dK ks))) := Bag.off B nb np
  have zD : H Dl = none := by rw [upd_ne nDd] at hD; exact hD
  refine lc_it walk_keys (fun i H' => Go b p (upd H d (.frz od (.dK ks))) H' ∧ ∃ ps kvs l' ds, H' Dl = some (.lst (ps.map V.ref)) ∧ Paired (fun (p : Addr) (kv : Key × V) => mask Dl (newof H H') p = some (.tup [kV kv.1, kv.2])) ps kvs ∧ ps.length = i ∧ ActsD (mask Dl (newof H H')) kvs l' ds ∧ ds.Nodup ∧ l'.map (·.1) = (l.take i).map (·.1) ∧ ∀ x ∈ l', Like l x)
    ⟨(Go.refl Bf).new hD, [], [], [], [], upd_same, .nil, rfl, .nil, List.nodup_nil, rfl, fun _ h => by cases h⟩ (fun i H' _ h => h.1.at nb upd_same) ?_ (fun H3 h => ?_)
  · rintro i y H4 H4' hi ⟨g4, ps, kvs, l', ds, hl4, hp4, hn4, hL4, nD4, nm4, lk4⟩ ⟨rfl, kk, vv, e1, rfl⟩
    obtain ⟨n, a, e2, rfl, act0⟩ := hL.get e1
    have hln := look_get ok.nd e2
    have oo := (ok.ok _ (mem_look hln)).2.2.2.2.2
    obtain ⟨t, db, hv, ht, ho⟩ : ∃ t db, valV ks (.inr n) = some (.ref t) ∧ H t = some (.tup [.int a.1, .ref db]) ∧ H db = some (.dK (kO a.2)) := by
      rcases hL.look n with ⟨_, z⟩ | ⟨v', a', q1, q2, ⟨t, d', rfl, q3, q4⟩⟩
      · rw [hln] at z; cases z
      · rw [hln] at q2
        cases q2
        exact ⟨t, d', q1, q3, q4⟩
    have ntd : t ≠ d := fun z => by rw [z, hd] at ht; cases ht
    have ntb := Bag.ne_tup B ht
    have ht4 := g4.at ntb ((upd_ne ntd).trans ht)
    have hdf := g4.at nb (upd_same (H := H) (o := .frz od (.dK ks)))
    have ndb : db ≠ d := fun z => by
      rw [z, hd] at ho
      have ek : ks = kO a.2 := by injection ho with q; injection q
      rw [ek] at hv
      unfold kO valV at hv
      cases z2 : ((a.2.map fun p => ((.inr p.1 : Key), V.int p.2)).find? fun p => decide (p.1 = .inr n)) with
      | none => simp [z2] at hv
      | some x =>
        obtain ⟨y, _, hy⟩ := List.mem_map.mp (List.mem_of_find?_eq_some z2)
        rw [← hy] at z2
        simp [z2] at hv
    have ho4 := g4.at (Bag.ne_dK B ho) ((upd_ne ndb).trans ho)
    have hg : DGet H4' d (kV (.inr n)) (some (.ref t)) := .inl ⟨ks, .inr n, .inr ⟨od, hdf⟩, rfl, hv.symm⟩
    refine ⟨hw _, ?_⟩
    refine ⟨_, h2 _, _, h1 _, _, h2 _, d, _, rfl, hg, t, _, 0, _, rfl, rfl, SqT.of ht4, atI_nat (j := 0) rfl, ?_⟩
    refine mix_dict (K := K) (ib := ib) (b := b) (p := p) (dO := db) (o := a.2) (h3 _) (fun Q hq => ⟨_, h1 _, _, h2 _, d, _, rfl, hg, t, _, 1, _, rfl, rfl, SqT.of ht4, atI_nat (j := 1) rfl, hq⟩) ho4 g4.B oo.nd oo.lo (Nat.le_trans oo.hi (by decide)) (fun nw H5 o' g5 hnw hop => ?_)
    have nDb : Dl ≠ b := Bf.b_ne hD
    have hl5 := g5.at nDb hl4
    have g05 := g4.trans g5
    have gn : ∀ c, H4' c = none → H c = none := fun c e => by
      have z := g4.free e
      by_cases y : c = d
      · rw [y, hdf] at e; cases e
      · rw [upd_ne y] at z; exact z
    have hn5 : newof H H5 nw = some (.dK (kO o')) := newof_lift gn _ _ hnw
    have k45 : Same (newof H H4') (newof H H5) := newof_go B g5
    refine ⟨(by show 2 ≤ sizeLine; decide), fun nt hnt => ⟨(by show 2 ≤ sizeLine; decide), fun np' hnp => ?_⟩⟩
    have gn5 : ∀ c, H5 c = none → H c = none := fun c e => gn c (g5.free e)
    have kt := Same.new (o := .tup [.int a.1, .ref nw]) hnt
    have zt := gn5 _ hnt
    have zp := gn5 _ (Same.none kt hnp)
    have g6 := (g05.new (o := .tup [.int a.1, .ref nw]) hnt).new (o := .tup [kV (.inr n), .ref nt]) hnp
    have k57 := kt.trans (Same.new (o := .tup [kV (.inr n), .ref nt]) hnp)
    have at7 : newof H (upd (upd H5 nt (.tup [.int a.1, .ref nw])) np' (.tup [kV (.inr n), .ref nt])) nt = some (.tup [.int a.1, .ref nw]) := newof_of zt (Same.new hnp _ _ upd_same)
    have ap7 : newof H (upd (upd H5 nt (.tup [.int a.1, .ref nw])) np' (.tup [kV (.inr n), .ref nt])) np' = some (.tup [kV (.inr n), .ref nt]) := newof_of zp upd_same
    have aw7 := newof_same (H := H) k57 _ _ hn5
    have hl7 := k57 _ _ hl5
    have k47 := k45.trans (newof_same (H := H) k57)
    generalize upd (upd H5 nt (.tup [.int a.1, .ref nw])) np' (.tup [kV (.inr n), .ref nt]) = H7 at g6 k57 at7 ap7 aw7 hl7 k47 ⊢
    have nDt : Dl ≠ nt := fun z => by rw [← z, newof_of zD hl7] at at7; cases at7
    have nDp : Dl ≠ np' := fun z => by rw [← z, newof_of zD hl7] at ap7; cases ap7
    have nDw : Dl ≠ nw := fun z => by rw [← z, newof_of zD hl7] at aw7; cases aw7
    have tk1 : l.take (i + 1) = l.take i ++ [(n, a)] := by rw [List.take_add_one, e2]; rfl
    refine ⟨_, hl7, szl (by rw [List.length_map]; omega), Go.mut Bf g6 hD, ps ++ [np'], kvs ++ [(.inr n, .ref nt)], l' ++ [(n, (a.1, o'))], ds ++ [nw], ?_, ?_, ?_, ?_, ?_, ?_, fun x hx => ?_⟩
    · rw [List.map_append]
      exact upd_same
    · rw [newof_updn zD, mask_updb]
      refine Paired.snoc (Paired.imp' hp4 fun p kv e => mask_same k47 _ _ e) ((mask_ne nDp.symm).trans ap7)
    · rw [List.length_append, hn4]
      rfl
    · rw [newof_updn zD, mask_updb]
      exact (hL4.same (mask_same k47)).app ((mask_ne nDt.symm).trans at7) ((mask_ne nDw.symm).trans aw7)
    · refine List.nodup_append.mpr ⟨nD4, by simp, fun x hx y hy c => ?_⟩
      rw [List.mem_singleton.mp hy] at c
      obtain ⟨o, e⟩ := hL4.mem x hx
      have e3 := unmask _ _ e
      rw [c] at e3
      have z := (newof_is hnw).1
      rw [(newof_is e3).2] at z
      cases z
    · rw [tk1, List.map_append, List.map_append, nm4]
      rfl
    · rcases List.mem_append.mp hx with hx | hx
      · exact lk4 x hx
      · rw [List.mem_singleton.mp hx]
        exact ⟨a, hln, rfl, hop⟩
  · obtain ⟨g3, ps, kvs, l', ds, hl3, hp3, hn3, hL3, nD3, nm3, lk3⟩ := h
    rw [List.take_of_length_le (by omega)] at nm3
    have fz := g3.at nb (upd_same (H := H) (o := .frz od (.dK ks)))
    refine ⟨fz, ?_⟩
    have back := go_back hd nb np g3
    have nv : newof H (upd H3 d (.dK ks)) = newof H H3 := newof_upd hd
    have ndl' : Nds l' := by unfold Nds; rw [nm3]; exact ok.nd
    refine ⟨Dl, ps, kvs, rfl, SqL.of (by rw [upd_ne nDd]; exact hl3), Paired.imp' hp3 fun p kv e => SqT.of ?_, fun p' hp => ?_⟩
    · have e3 := newof_is (unmask _ _ e)
      have npd : p ≠ d := fun z => by rw [z, hd] at e3; cases e3.1
      rw [upd_ne npd]
      exact e3.2
    · rw [merge_nd (actsL_nd hL3.toL ndl')]
      have zp : H p' = none := back.free hp
      refine q p' _ kvs l' ds (back.new hp) (newof_of zp upd_same) ?_ nD3 nm3 lk3
      rw [newof_updn zp, mask_updb, nv]
      have npd : p' ≠ d := fun z => by rw [z, hd] at zp; cases zp
      have h3p : H3 p' = none := by rw [upd_ne npd] at hp; exact hp
      have pn : newof H H3 p' = none := by unfold newof; rw [zp]; exact h3p
      refine hL3.same fun c o e => ?_
      have e3 := unmask _ _ e
      have nc : c ≠ p' := fun z => by rw [z, pn] at e3; cases e3
      rw [mask_ne nc]
      exact e3
end
end K20
set_option maxRecDepth 100000
set_option maxHeartbeats 4000000
namespace K20
open PySem L2 Fm
theorem hk_of {K : PySem.W.Frag} {C : Addr} (h : PySem.W.hasDictIn K C = true) (t : PySem.W.typeIn K (.ref C) = some (.type "type")) : ((PySem.W.clsIn K C).isSome && PySem.W.typeIn K (.ref C) == some (.type "type")) = true := by
  unfold PySem.W.hasDictIn at h
  cases z : PySem.W.clsIn K C with
  | none => rw [z] at h; cases h
  | some cd =>
    rw [t]
    simp
theorem gname_at {i : Nat} {v : V} {σ : L2.St} {H : Hp} {Q : L2.St → Hp → Prop} (h : Q (σ.set i (some v)) H) : gName i v σ H Q := h
theorem seq_asg {te : TE} {i : Nat} {u : TS} {D : Ends} {σ : L2.St} {H : Hp} (h : te σ H (fun v H' => u D (σ.set i (some v)) H')) : tSeq (tAsg te (gName i)) u D σ H := h
theorem seq_of {t u : TS} {D : Ends} {σ : L2.St} {H : Hp} (h : t { D with nx := u D } σ H) : tSeq t u D σ H := h
theorem cons_at {ta : TE} {tr : TA} {σ : L2.St} {H : Hp} {Q : List V → Hp → Prop} (h : ta σ H fun x H1 => tr σ H1 fun xs H2 => Q (x :: xs) H2) : tCons ta tr σ H Q := h
/-- the acts of a turn -/
theorem draw_acts {σ : L2.St} {H : Hp} {R : VK} {E1 E2 E3 E4 : XK} {b p : Addr} (hb : σ[1]? = some (some (.ref b))) (B : Bag b p H) (q : ∀ d H' l, Go b p H H' → ActsAt (mask b H') d l → ActsOk l → l.length ≤ 4 → R (.ref d) H') :
    tIf (tTest (tOp (rI0 fun i j => V.bl (decide (j < i))) (tCall spTake [] E1 (tCons (tVar 1) (tCons (tC (V.int 8)) tNil))) (tC (V.int 0))))
      (tCall spMore [] E2 (tCons (tVar 1) (tCons (tCall spFourth [] E3 (tCons (tVar 1) (tCons (tCall spLActs [] E4 (tCons (tVar 1) (tCons (tC (V.int 2)) tNil))) tNil))) tNil))) tDNewK σ H R := by
  refine ⟨_, hb, b, p, 8, rfl, B, by decide, by decide, fun k H1 k0 k1 g1 => ⟨_, _, rfl, rfl, _, rfl, ite_b (fun _ => ?_) (fun _ => ?_)⟩⟩
  · refine ⟨_, hb, _, hb, _, hb, b, p, 2, rfl, g1.B, by decide, by decide, fun d Ha l ga hA sm l1 => ?_⟩
    refine ⟨b, p, d, l, rfl, ga.B, ?_, sm, fun d2 Hb l2 gb hB sm4 => ?_⟩
    · exact hA.same (newof_mask g1.B)
    refine ⟨b, p, d2, l2, rfl, gb.B, hB, sm4, fun d3 Hc l3 gc hC ok len4 => ?_⟩
    exact q d3 Hc l3 (g1.trans (ga.trans (gb.trans gc))) (hC.same (newof_mask gb.B)) ok len4
  · refine fun d hd => q d _ [] (g1.new hd) ⟨[], mask_new (g1.B.b_ne hd), .nil⟩ ⟨List.nodup_nil, by decide, fun _ h => by cases h⟩ (by decide)
/-- all but S stands -/
def Off (S : List Addr) (H H' : Hp) : Prop := ∀ a o, a ∉ S → H a = some o → H' a = some o
theorem Off.refl {S : List Addr} {H : Hp} : Off S H H := fun _ _ _ e => e
theorem Off.upd {S : List Addr} {H H' : Hp} {a : Addr} {o : HO} (f : Off S H H') (h : a ∈ S) : Off S H (upd H' a o) := fun c u n e => by
  rw [upd_ne (fun z => n (by rw [z]; exact h))]
  exact f c u n e
theorem Off.le {S S' : List Addr} {H H' : Hp} (f : Off S H H') (h : ∀ a ∈ S, a ∈ S') : Off S' H H' := fun c u n e => f c u (fun z => n (h c z)) e
theorem go_off {b p : Addr} {Hn H8 H9 : Hp} {S : List Addr} (Bn : Bag b p Hn) (g : Go b p Hn H8) (z : ∀ a ∈ S, Hn a = none) (f : Off S H8 H9) : Go b p Hn H9 := by
  have nS : ∀ a o, Hn a = some o → a ∉ S := fun a o e c => by rw [z a c] at e; cases e
  refine ⟨fun a o e => ?_, ?_⟩
  · by_cases c : a = b
    · rw [c] at e
      unfold mask at e
      rw [if_pos rfl] at e
      cases e
    have e2 := g.k a o e
    rw [mask_ne c] at e e2 ⊢
    exact f a o (nS a o e) e2
  · obtain ⟨s, m, n, cells, h1, h2, _⟩ := Bn
    have nb := nS b _ h1
    have np := nS p _ h2
    obtain ⟨s, m, n, cells, h1, h2, h3, h4, h5, h6, h7, h8⟩ := g.B
    exact ⟨s, m, n, cells, f _ _ nb h1, f _ _ np h2, h3, h4, h5, h6, h7, h8⟩
section
variable {P : Program} {w : World} {K : PySem.W.Frag} {mg : Str → Option Value} {base : Heap} (T : Txt K mg)
theorem make_world {σ : L2.St} {H0 : Hp} {nw : Addr} {l : Acts} {R : VK} {E1 : XK} {i : Nat} (hv : σ[i]? = some (some (.ref nw))) (hA : ActsAt H0 nw l) (ok : ActsOk l) (q : ∀ x H', Same H0 H' → WorldAt T.C_World (newof H0 H') x l → R (.ref x) H') :
    tMake T.C_World (spInit T) [] E1 (tCons (tVar i) tNil) σ H0 R := ⟨_, hv, world_new T hA ok q⟩
theorem truths_pd {H : Hp} {v : V} (c : Bool) (h : Dv H v (.lst [.bl c, .bl c, .bl true, .bl (!c)])) :
    Dp K H v (pdOf (.lst [.bl c, .bl c, .bl true, .bl (!c)])) ∧ SeqAt.shaped (pdOf (.lst [.bl c, .bl c, .bl true, .bl (!c)])) = true ∧ (pdOf (.lst [.bl c, .bl c, .bl true, .bl (!c)])).showable = true ∧ (pdOf (.lst [.bl c, .bl c, .bl true, .bl (!c)])).hasDict = false ∧ (pdOf (.lst [.bl c, .bl c, .bl true, .bl (!c)])).depth ≤ 60 ∧ (pdOf (.lst [.bl c, .bl c, .bl true, .bl (!c)])).shown.length ≤ sizeLine :=
  pd_ok (B := 13) (bits := 20) (by decide) h (by intro i hi; have e : intsIn (.lst [.bl c, .bl c, .bl true, .bl (!c)]) = [] := (by cases c <;> rfl); rw [e] at hi; cases hi) (by cases c <;> rfl) (by cases c <;> decide) (by cases c <;> decide)
/-- what isinstance and != say of a value of another type -/
theorem other_ty (Kw : WKit T) {s : String} (h : (PySem.fastBuiltinMro s).map (·.contains (.ref T.C_World)) = some false) : PySem.W.kitOne K (.type s) (.ref T.C_World) = some false ∧ PySem.W.notFirst K T.C_World (.type s) = true := by
  have e : PySem.W.subIn K (.type s) (.ref T.C_World) = some false := h
  constructor
  · unfold PySem.W.kitOne
    rw [if_neg (by simp)]
    show (if ((PySem.W.clsIn K T.C_World).isSome && PySem.W.typeIn K (.ref T.C_World) == some (.type "type")) = true then PySem.W.subIn K (.type s) (.ref T.C_World) else none) = _
    rw [if_pos Kw.hk, e]
  · unfold PySem.W.notFirst
    rw [e]
    simp
theorem ok_law (Kw : WKit T) : FnG P w K mg base 64 T.a_law T.d_law ["_law_script"] (spLaw K) := by
  have G__law_acts := ok_law_acts (P := P) (w := w) (base := base) T
  have G__law_alike := ok_law_alike (P := P) (w := w) (base := base) T
  have G__law_bag := ok_law_bag (P := P) (w := w) (base := base) T
  have G__law_fourth := ok_law_fourth (P := P) (w := w) (base := base) T
  have G__law_mixed := ok_law_mixed (P := P) (w := w) (base := base) T
  have G__law_more := ok_law_more (P := P) (w := w) (base := base) T
  have G__law_near := ok_law_near (P := P) (w := w) (base := base) T
  have G__law_right := ok_law_right (P := P) (w := w) (base := base) T
  have G__law_take := ok_law_take (P := P) (w := w) (base := base) T
  have G__law_world_of := ok_law_world_of (P := P) (w := w) (base := base) T
  have G_World_init := ok_World_init (P := P) (w := w) (base := base) T
  have G_World_eq := ok_World_eq (P := P) (w := w) (base := base) T Kw
  refine fnG T.F_law sc_law ?_ (fun cdv A outer s H vs Q gd hr h => ?_)
  · rintro vs H Q E ⟨a, ns, rfl, _⟩
    rfl
  obtain ⟨a, ns, rfl, hs, hl, q⟩ := h
  refine ⟨_, 
    (pss_cons (ps_set (i := 1) sc_law.nd rfl (Or.inr rfl) (pe_call G__law_bag (hr.mono (by omega)) (by rfl) T.f__law_bag T.F__law_bag.kp T.b__law_bag .nil pass0 (pa_cons (pv 0) pa_nil)))
    (pss_cons (ps_for PassesOwn.never rfl (pi_range1 (by rfl) T.m_range (pa_cons pe_int pa_nil)) (pg_name (i := 2) sc_law.nd rfl (Or.inl rfl)) (pss_cons (ps_set (i := 3) sc_law.nd rfl (Or.inl rfl) (pe_ifExp (pt_cmpR op_gt (pe_call G__law_take (hr.mono (by omega)) (by rfl) T.f__law_take T.F__law_take.kp T.b__law_take .nil pass0 (pa_cons (pv 1) (pa_cons pe_int pa_nil))) pe_int (nomark _)) (pe_call G__law_more (hr.mono (by omega)) (by rfl) T.f__law_more T.F__law_more.kp T.b__law_more .nil pass0 (pa_cons (pv 1) (pa_cons (pe_call G__law_fourth (hr.mono (by omega)) (by rfl) T.f__law_fourth T.F__law_fourth.kp T.b__law_fourth .nil pass0 (pa_cons (pv 1) (pa_cons (pe_call G__law_acts (hr.mono (by omega)) (by rfl) T.f__law_acts T.F__law_acts.kp T.b__law_acts .nil pass0 (pa_cons (pv 1) (pa_cons pe_int pa_nil))) pa_nil))) pa_nil))) pe_dnewK)) (pss_cons (ps_asg (pe_tup (pa_cons (pe_lst (pa_cons (pv 3) (pa_cons (pe_call G__law_near (hr.mono (by omega)) (by rfl) T.f__law_near T.F__law_near.kp T.b__law_near .nil pass0 (pa_cons (pv 1) (pa_cons (pv 3) pa_nil))) pa_nil))) (pa_cons (pe_lst pa_nil) pa_nil))) (pg_tup rfl (pgs_cons (pg_name (i := 4) sc_law.nd rfl (Or.inl rfl)) (pgs_cons (pg_name (i := 5) sc_law.nd rfl (Or.inr rfl)) pgs_nil)))) (pss_cons (ps_for PassesOwn.never rfl (pi_list (pv 4)) (pg_name (i := 6) sc_law.nd rfl (Or.inr rfl)) (pss_cons (ps_set (i := 7) sc_law.nd rfl (Or.inl rfl) (pe_callTy (call_dictP rfl) (by rfl) T.m_dict (by decide +kernel) (pa_cons (pe_lock (pe_lc (own := [("_law_act", 8)]) (g := gName 8) (tt := tYes) rfl sc_law.nd (pi_keys (pv 6)) (blkOk_by (N := N_law) (sc := defScope s_law) (by decide +kernel)) (fun _ _ _ _ _ => pg_name (i := 8) sc_law.nd rfl (Or.inl rfl)) (fun _ _ _ _ _ => pts_nil) (fun _ _ _ _ _ => pe_tup (pa_cons (pv 8) (pa_cons (pe_tup (pa_cons (pe_ix (r := rIxT K) ix_tup (pe_dget (hu1 hr) (pv 6) (pv 8) (fun _ _ => rfl)) pe_int (fun _ _ => rfl)) (pa_cons (pe_callTy (r := rDictP K) (call_dictP rfl) (by rfl) T.m_dict (by decide +kernel) (pa_cons (pe_call G__law_mixed (hr.mono (by omega)) (by rfl) T.f__law_mixed T.F__law_mixed.kp T.b__law_mixed .nil pass0 (pa_cons (pv 1) (pa_cons (pe_callB (cr_sortIK rfl) (by rfl) T.m_sorted (by decide +kernel) (pa_cons (pe_itemsK (K := K) rfl (pe_ix (r := rIxT K) ix_tup (pe_dget (hu1 hr) (pv 6) (pv 8) (fun _ _ => rfl)) pe_int (fun _ _ => rfl))) pa_nil)) pa_nil))) pa_nil)) pa_nil))) pa_nil))))) pa_nil))) (pss_cons (ps_expr (pe_bm PySem.F.plainAttrs_list PySem.F.slot_list_append PySem.F.type_list_append mt_append (pv 5) (pa_cons (pe_make T.mk_World G_World_init (hr.mono (by omega)) (by rfl) T.g_World T.b_World_init .nil pass0 (pa_cons (pv 7) pa_nil)) pa_nil))) (pss_cons (ps_for PassesOwn.never rfl (pi_list (pe_callB (call_sortedD rfl) (by rfl) T.m_sorted (by decide +kernel) (pa_cons (pv 7) pa_nil))) (pg_name (i := 8) sc_law.nd rfl (Or.inl rfl)) (pss_one (ps_expr (pe_dclear (pe_ix ix_tup (pe_dget (hu1 hr) (pv 7) (pv 8) (fun _ _ => rfl)) pe_int (fun _ _ => rfl)))))) (pss_one (ps_dput (hu1 hr) (pv 7) pe_str pe_non rfl)))))) (pss_cons (ps_for PassesOwn.never rfl (pi_tup (pe_tup (pa_cons pe_int (pa_cons pe_int (pa_cons pe_int (pa_cons pe_int (pa_cons pe_int pa_nil))))))) (pg_name (i := 9) sc_law.nd rfl (Or.inl rfl)) (pss_one (ps_if (pt_not (pt_val (pe_callG G__law_right (hr.mono (by omega)) gd (by rfl) T.f__law_right T.F__law_right.kp T.b__law_right (pa_cons (pe_ix ix_list (pv 5) (pv 9) (fun _ _ => rfl)) (pa_cons (pe_ix ix_list (pv 4) (pv 9) (fun _ _ => rfl)) pa_nil))))) (pss_one (ps_ret pe_bl)) pss_nil))) (pss_cons (ps_par (i := 10) (j := 11) (by rfl) sc_law.nd rfl rfl (by decide) rfl rfl (pa_cons (pe_cmpR (op_eqVB hr.units) (pe_ix ix_list (pv 4) pe_int (fun _ _ => rfl)) (pe_ix ix_list (pv 4) pe_int (fun _ _ => rfl)) (nomark _)) (pa_cons (pe_call G__law_world_of (hr.mono (by omega)) (by rfl) T.f__law_world_of T.F__law_world_of.kp T.b__law_world_of .nil pass0 (pa_cons (pv 1) (pa_cons (pv 3) pa_nil))) pa_nil)) (by rfl)) (pss_cons (ps_set (i := 12) sc_law.nd rfl (Or.inl rfl) (pe_lst (pa_cons (pe_cmpR (op_eqOwn G_World_eq T.sp_World_eq T.fn_World_eq T.b_World_eq pass0 (hr.mono (by omega))) (pe_ix ix_list (pv 5) pe_int (fun _ _ => rfl)) (pe_ix ix_list (pv 5) pe_int (fun _ _ => rfl)) (nomark _)) (pa_cons (pe_cmpR (op_eqOwn G_World_eq T.sp_World_eq T.fn_World_eq T.b_World_eq pass0 (hr.mono (by omega))) (pe_ix ix_list (pv 5) pe_int (fun _ _ => rfl)) (pe_ix ix_list (pv 5) pe_int (fun _ _ => rfl)) (nomark _)) (pa_cons (pe_cmpR (op_eqOwn G_World_eq T.sp_World_eq T.fn_World_eq T.b_World_eq pass0 (hr.mono (by omega))) (pe_ix ix_list (pv 5) pe_int (fun _ _ => rfl)) (pv 11) (nomark _)) (pa_cons (pe_cmpR (op_neOwn G_World_eq Kw.hne (show PySem.W.subIn K (.ref T.C_World) (.type "object") = some true from Kw.hm) T.sp_World_eq T.fn_World_eq T.b_World_eq pass0 (hr.mono (by omega))) (pe_ix ix_list (pv 5) pe_int (fun _ _ => rfl)) (pe_ix ix_list (pv 5) pe_int (fun _ _ => rfl)) (nomark _)) pa_nil)))))) (pss_cons (ps_if (pt_not (pt_val (pe_callG G__law_alike (hr.mono (by omega)) gd (by rfl) T.f__law_alike T.F__law_alike.kp T.b__law_alike (pa_cons (pv 12) (pa_cons (pe_lst (pa_cons (pv 10) (pa_cons (pv 10) (pa_cons pe_bl (pa_cons (pe_not (pv 10)) pa_nil))))) pa_nil))))) (pss_one (ps_ret pe_bl)) pss_nil) (pss_one (ps_if (pt_cmpR (op_neD hr.units) (pe_lc (own := [("_law_other", 13)]) (g := gName 13) rfl sc_law.nd (pi_tup (pe_tup (pa_cons pe_non (pa_cons (pv 3) (pa_cons (pe_tup pa_nil) (pa_cons pe_str (pa_cons pe_int pa_nil))))))) (blkOk_by (N := N_law) (sc := defScope s_law) (by decide +kernel)) (fun _ _ _ _ _ => pg_name (i := 13) sc_law.nd rfl (Or.inl rfl)) (fun _ _ _ _ _ => pts_one (PW.pt (pw_or (pt_cmpR (r := rOwnEq K T.C_World (spEqW T) E0) (op_eqOwn G_World_eq T.sp_World_eq T.fn_World_eq T.b_World_eq pass0 (hr.mono (by omega))) (pe_ix (r := rIxL K) ix_list (pv 5) pe_int (fun _ _ => rfl)) (pv 13) (nomark _)) (pw_or1 (pt_not (pt_cmpR (r := rOwnNe K T.C_World (spEqW T) E0) (op_neOwn G_World_eq Kw.hne (show PySem.W.subIn K (.ref T.C_World) (.type "object") = some true from Kw.hm) T.sp_World_eq T.fn_World_eq T.b_World_eq pass0 (hr.mono (by omega))) (pe_ix (r := rIxL K) ix_list (pv 5) pe_int (fun _ _ => rfl)) (pv 13) (nomark _))))))) (fun _ _ _ _ _ => pe_int)) (pe_lst pa_nil) (nomark _)) (pss_one (ps_ret pe_bl)) pss_nil))))))))))
    (pss_one (ps_ret pe_bl)))), ?_⟩
  refine ⟨_, rfl, a, ns, rfl, hs, hl, fun b p H1 _ _ B1 => ?_⟩
  refine ⟨4, rfl, by decide, by decide, ?_⟩
  refine for_range (lo := 0) (n := 4) (fun i σ H' => ∃ o2 o3 o4 o5 o6 o7 o8 o9 o10 o11 o12, σ = [some (.ref a), some (.ref b), o2, o3, o4, o5, o6, o7, o8, o9, o10, o11, o12, none] ∧ Go b p H1 H') ⟨none, none, none, none, none, none, none, none, none, none, none, rfl, Go.refl B1⟩ ?_ ?_
  · rintro i σ H2 hi ⟨o2, o3, o4, o5, o6, o7, o8, o9, o10, o11, o12, rfl, g2⟩
    refine gname_at (seq_asg (draw_acts (b := b) (p := p) rfl g2.B (fun d Hc l gc hA okl l4 => seq_of ?_)))
    refine ⟨_, rfl, _, rfl, _, rfl, b, p, d, l, rfl, gc.B, hA, okl, l4, fun dn Hn ln gn hN okn => ⟨(by show 2 ≤ sizeLine; decide), fun Ls hLs => ⟨(by show 0 ≤ sizeLine; decide), fun Wl hWl => ⟨(by show 2 ≤ sizeLine; decide), fun tp htp => ?_⟩⟩⟩⟩
    refine ⟨tp, _, rfl, SqT.of upd_same, rfl, _, _, rfl, _, _, rfl, rfl, seq_of ?_⟩
    have gT := ((gn.B |> Go.refl).new (o := .lst [.ref d, .ref dn]) hLs |>.new (o := .lst []) hWl).new (o := .tup [.ref Ls, .ref Wl]) htp
    have A0 : ActsAt (mask b Hn) d l := hA.same gn.k
    have A1 : ActsAt (mask b Hn) dn ln := hN.same (newof_mask gc.B)
    have kWT := Same.new (o := .tup [.ref Ls, .ref Wl]) htp
    have zW : Hn Wl = none := Same.none (Same.new (o := .lst [.ref d, .ref dn]) hLs) hWl
    have nLW : Ls ≠ Wl := fun z => by rw [← z, upd_same] at hWl; cases hWl
    have fL := newof_of hLs (kWT _ _ ((upd_ne nLW).trans upd_same : (upd (upd Hn Ls (.lst [.ref d, .ref dn])) Wl (.lst [])) Ls = some (.lst [.ref d, .ref dn])))
    have fW := newof_of zW (kWT _ _ (upd_same : (upd (upd Hn Ls (.lst [.ref d, .ref dn])) Wl (.lst [])) Wl = some (.lst [])))
    generalize upd (upd (upd Hn Ls (.lst [.ref d, .ref dn])) Wl (.lst [])) tp (.tup [.ref Ls, .ref Wl]) = HT at gT fL fW ⊢
    clear kWT htp hWl hLs
    have nbL : Ls ≠ b := gn.B.b_ne (newof_is fL).1
    have nbW : Wl ≠ b := gn.B.b_ne zW
    refine seq_of ⟨_, rfl, Ls, rfl, ⟨_, SqL.of (newof_is fL).2⟩, ?_⟩
    have all : ∀ x ∈ [(d, l), (dn, ln)], ActsAt (mask b Hn) x.1 x.2 ∧ ActsOk x.2 := fun x hx => by
      rcases List.mem_cons.mp hx with rfl | hx
      · exact ⟨A0, okl⟩
      · rw [List.mem_singleton.mp hx]; exact ⟨A1, okn⟩
    refine for_list (xs := [(d, l), (dn, ln)].map fun x => V.ref x.1) (fun i σ H' => ∃ o6 o7 o8 ws, σ = [some (.ref a), some (.ref b), some (.int (0 + ((_ : Nat) : Int))), some (.ref d), some (.ref Ls), some (.ref Wl), o6, o7, o8, o9, o10, o11, o12, none] ∧ Go b p Hn H' ∧ newof Hn H' Ls = some (.lst [.ref d, .ref dn]) ∧ newof Hn H' Wl = some (.lst (ws.map V.ref)) ∧
        Paired (fun (x : Addr) (s : Addr × Acts) => ∃ lw, WorldAt T.C_World (mask Wl (newof Hn H')) x lw ∧ LikeA s.2 lw) ws ([(d, l), (dn, ln)].take i))
      ⟨_, _, _, [], rfl, gT, fL, fW, .nil⟩ (fun i σ H' _ h => by obtain ⟨_, _, _, _, _, _, h, _⟩ := h; exact SqL.of (newof_is h).2) ?_ ?_
    · rintro j y σ H5 hy ⟨o6, o7, o8, ws, rfl, g5, fL5, fW5, pw5⟩
      obtain ⟨s, hs5, rfl⟩ : ∃ s, [(d, l), (dn, ln)][j]? = some s ∧ y = .ref s.1 := by
        rw [List.getElem?_map] at hy
        obtain ⟨n, e1, e2⟩ := Option.map_eq_some_iff.mp hy
        exact ⟨n, e1, e2.symm⟩
      obtain ⟨⟨ks, hks, hLs0⟩, oks⟩ := all s (List.mem_of_getElem? hs5)
      have hd5 : H5 s.1 = some (.dK ks) := unmask _ _ (g5.k _ _ hks)
      have hL5 : ActsL H5 ks s.2 := hLs0.same (g5.k.trans unmask)
      refine gname_at (seq_asg (handed (K := K) (ib := 1) (ia := 6) (ij := 8) (b := b) (p := p) (d := s.1) hd5 hL5 oks g5.B ?_ ?_ ?_ ?_ ?_ (fun p1 H6 ks' l' dsl g6 f6 hD nD nm lk => seq_of ?_)))
      · rfl
      · intro _; rfl
      · intro _; rfl
      · intro _; rfl
      · intro _; rfl
      have lk' : LikeA s.2 l' := ⟨by rw [nm], lk⟩
      have ok' := lk'.ok oks
      have g06 := g5.trans g6
      obtain ⟨zp1, hp16⟩ := newof_is f6
      have hW6 := g6.at nbW (newof_is fW5).2
      have aL6 : ActsL H6 ks' l' := hD.toL.same fun a o e => (newof_is (unmask _ _ e)).2
      refine ⟨_, rfl, .inl ⟨rfl, _, SqL.of hW6⟩, cons_at (make_world T rfl ⟨ks', hp16, aL6⟩ ok' (fun x H7 k7 W => ?_))⟩
      have zW5 := (newof_is fW5).1
      have hW7 := k7 _ _ hW6
      have lws : ws.length ≤ 2 := by
        have e1 := Paired.length pw5
        rw [e1, List.length_take]
        exact Nat.min_le_right _ _
      refine ⟨Wl, _, _, rfl, rfl, hW7, szl (by rw [List.length_map]; omega), seq_of ?_⟩
      have nW1 : p1 ≠ Wl := fun z => by rw [z, hW6] at hp16; cases hp16
      have hp18 : (upd H7 Wl (.lst (ws.map V.ref ++ [.ref x]))) p1 = some (.dK ks') := (upd_ne nW1).trans (k7 _ _ hp16)
      refine ⟨_, rfl, p1, ks', l'.map (·.1), rfl, .of hp18, aL6.keys, (by rw [List.length_map]; have := ok'.hi; omega), fun ys pl pm sr hpl => ⟨pl, rfl, ⟨_, SqL.of upd_same⟩, ?_⟩⟩
      -- what stands at the dicts of outcomes that were handed in
      have dsAt : ∀ e ∈ dsl, H5 e = none ∧ (∃ o, H6 e = some (.dK (kO o))) ∧ e ≠ p1 := fun e he => by
        obtain ⟨o, eo⟩ := hD.mem e he
        have e2 := newof_is (unmask _ _ eo)
        refine ⟨e2.1, ⟨o, e2.2⟩, fun z => ?_⟩
        rw [z] at eo
        unfold mask at eo
        rw [if_pos rfl] at eo
        cases eo
      have nWd : ∀ e ∈ dsl, e ≠ Wl := fun e he z => by
        have := (dsAt e he).1
        rw [z, (newof_is fW5).2] at this
        cases this
      have d8 : ∀ e ∈ dsl, ∃ kvs, (upd (upd H7 Wl (.lst (ws.map V.ref ++ [.ref x]))) pl (.lst (ys.map V.str))) e = some (.dK kvs) := fun e he => by
        obtain ⟨_, ⟨o, ho⟩, _⟩ := dsAt e he
        exact ⟨_, Same.new hpl _ _ ((upd_ne (nWd e he)).trans (k7 _ _ ho))⟩
      have npd : pl ∉ dsl := fun c => by
        obtain ⟨_, ⟨o, ho⟩, _⟩ := dsAt pl c
        rw [(upd_ne (nWd pl c)).trans (k7 _ _ ho)] at hpl
        cases hpl
      have k8 := Same.new (o := .lst (ys.map V.str)) hpl
      refine for_list (xs := ys.map V.str) (fun i' σ H' => ∃ o8', σ = [some (.ref a), some (.ref b), some (.int (0 + (i : Int))), some (.ref d), some (.ref Ls), some (.ref Wl), some (.ref s.1), some (.ref p1), o8', o9, o10, o11, o12, none] ∧ Off dsl (upd (upd H7 Wl (.lst (ws.map V.ref ++ [.ref x]))) pl (.lst (ys.map V.str))) H' ∧ ∀ e ∈ dsl, ∃ kvs, H' e = some (.dK kvs))
        ⟨_, rfl, Off.refl, d8⟩ (fun i' σ H' _ h => by obtain ⟨_, _, h, _⟩ := h; exact SqL.of (h pl _ npd upd_same)) ?_ ?_
      · rintro i' y σ H9 hy9 ⟨o8', rfl, off9, d9⟩
        obtain ⟨n, hn, rfl⟩ : ∃ n, n ∈ ys ∧ y = .str n := by
          obtain ⟨n, h1, h2⟩ := List.mem_map.mp (List.mem_of_getElem? hy9)
          exact ⟨n, h1, h2.symm⟩
        obtain ⟨aa, haa⟩ := acts_look (pm.mem_iff.mp hn)
        obtain ⟨t, e, he, hv, ht, hte, _⟩ := hD.at_ nD ok'.nd haa
        have ht6 := (newof_is (unmask _ _ ht)).2
        have ntd : t ∉ dsl := fun c => by
          obtain ⟨_, ⟨o, ho⟩, _⟩ := dsAt t c
          rw [ht6] at ho
          cases ho
        have ntW : t ≠ Wl := fun z => by rw [z, hW6] at ht6; cases ht6
        have ht9 := off9 t _ ntd (k8 _ _ ((upd_ne ntW).trans (k7 _ _ ht6)))
        have hp9 := off9 p1 _ (fun c => (dsAt p1 c).2.2 rfl) (k8 _ _ hp18)
        obtain ⟨kvs, he9⟩ := d9 e he
        refine ⟨_, rfl, _, rfl, p1, _, rfl, (by rw [← hv]; exact DGet.k (k := .inr n) hp9), t, _, 1, _, rfl, rfl, SqT.of ht9, atI_nat (j := 1) rfl, .inr (.inr (.inl ⟨rfl, .inl ⟨_, he9⟩⟩)), e, kvs, rfl, rfl, he9, ?_⟩
        refine ⟨_, rfl, off9.upd he, fun e' he' => ?_⟩
        by_cases c : e' = e
        · rw [c]; exact ⟨_, upd_same⟩
        · rw [upd_ne c]; exact d9 e' he'
      · rintro σ H9 ⟨o8', rfl, off9, d9⟩
        have hp9 := off9 p1 _ (fun c => (dsAt p1 c).2.2 rfl) (k8 _ _ hp18)
        have lk1 := aL6.len
        refine ⟨_, rfl, p1, _, rfl, DPut.k (k := .inr "zz") hp9 (szl (by have := ok'.hi; omega)), ?_⟩
        have offA : Off (p1 :: dsl) (upd (upd H7 Wl (.lst (ws.map V.ref ++ [.ref x]))) pl (.lst (ys.map V.str))) (upd H9 p1 (.dK (putK ks' (.inr "zz") .non))) := (off9.le fun a h => List.mem_cons_of_mem _ h).upd List.mem_cons_self
        generalize upd H9 p1 (.dK (putK ks' (.inr "zz") .non)) = HA at offA ⊢
        have zS : ∀ e ∈ p1 :: dsl, H5 e = none ∧ ∃ u, H6 e = some u := fun e he => by
          rcases List.mem_cons.mp he with rfl | he
          · exact ⟨zp1, _, hp16⟩
          · obtain ⟨z1, ⟨o, z2⟩, _⟩ := dsAt e he
            exact ⟨z1, _, z2⟩
        have g8 : Go b p Hn (upd (upd H7 Wl (.lst (ws.map V.ref ++ [.ref x]))) pl (.lst (ys.map V.str))) := (Go.mut gn.B (g06.same k7) zW).new hpl
        have gA := go_off gn.B g8 (fun e he => g5.free (zS e he).1) offA
        have keep : ∀ c o, c ≠ Wl → H7 c = some o → (∀ e ∈ p1 :: dsl, c ≠ e) → HA c = some o := fun c o n1 e1 n2 =>
          offA c o (fun h => n2 c h rfl) (k8 _ _ ((upd_ne n1).trans e1))
        have nS5 : ∀ c o, H5 c = some o → ∀ e ∈ p1 :: dsl, c ≠ e := fun c o e1 e he z => by
          rw [z, (zS e he).1] at e1
          cases e1
        obtain ⟨zL, eL⟩ := newof_is fL5
        have kO1 : Same (mask Wl (newof Hn H5)) (mask Wl (newof Hn HA)) := fun c o e => by
          by_cases z : c = Wl
          · rw [z] at e
            unfold mask at e
            rw [if_pos rfl] at e
            cases e
          · obtain ⟨e1, e2⟩ := newof_is (unmask _ _ e)
            rw [mask_ne z]
            exact newof_of e1 (keep c o z (k7 _ _ (g6.at (gn.B.b_ne e1) e2)) (nS5 c o e2))
        have kO2 : Same (newof H6 H7) (mask Wl (newof Hn HA)) := fun c o e => by
          obtain ⟨e1, e2⟩ := newof_is e
          have z : c ≠ Wl := fun z => by rw [z, hW6] at e1; cases e1
          rw [mask_ne z]
          refine newof_of (g06.free e1) (keep c o z e2 fun e' he' zz => ?_)
          obtain ⟨u, hu⟩ := (zS e' he').2
          rw [zz, hu] at e1
          cases e1
        have tk1 : [(d, l), (dn, ln)].take (j + 1) = [(d, l), (dn, ln)].take j ++ [s] := by rw [List.take_add_one, hs5]; rfl
        refine ⟨_, _, _, ws ++ [x], rfl, gA, newof_of zL (keep Ls _ nLW (k7 _ _ (g6.at nbL eL)) (nS5 _ _ eL)), newof_of zW ?_, ?_⟩
        · rw [List.map_append]
          exact offA Wl _ (fun h => nS5 Wl _ (newof_is fW5).2 Wl h rfl) (k8 _ _ upd_same)
        · rw [tk1]
          refine Paired.snoc (Paired.imp' pw5 fun x s h => ?_) ⟨l', W.same kO2, lk'⟩
          obtain ⟨lw, h1, h2⟩ := h
          exact ⟨lw, h1.same kO1, h2⟩
    · rintro σ HB ⟨o6, o7, o8, ws, rfl, gB, fLB, fWB, pwB⟩
      have pw2 : Paired (fun (x : Addr) (s : Addr × Acts) => ∃ lw, WorldAt T.C_World (mask Wl (newof Hn HB)) x lw ∧ LikeA s.2 lw) ws [(d, l), (dn, ln)] := pwB
      obtain ⟨x0, x1, rfl, ⟨w0, W0, lk0⟩, ⟨w1, W1, lk1⟩⟩ : ∃ x0 x1, ws = [x0, x1] ∧ (∃ lw, WorldAt T.C_World (mask Wl (newof Hn HB)) x0 lw ∧ LikeA l lw) ∧ ∃ lw, WorldAt T.C_World (mask Wl (newof Hn HB)) x1 lw ∧ LikeA ln lw := by
        cases pw2 with
        | cons h0 t =>
          cases t with
          | cons h1 t =>
            cases t
            exact ⟨_, _, rfl, h0, h1⟩
      have N0 := W0.same (unmask (b := Wl))
      have N1 := W1.same (unmask (b := Wl))
      have okw0 := lk0.ok okl
      have okw1 := lk1.ok okn
      refine seq_of ⟨(by show 5 ≤ sizeLine; decide), fun tq htq => ⟨tq, rfl, ⟨_, SqT.of upd_same⟩, ?_⟩⟩
      have gC := gB.new (o := .tup [.int 0, .int 1, .int 0, .int 1, .int 0]) htq
      have kBC : Same (newof Hn HB) (newof Hn (upd HB tq (.tup [.int 0, .int 1, .int 0, .int 1, .int 0]))) := newof_same (Same.new htq)
      have fLC := kBC _ _ fLB
      have fWC := kBC _ _ fWB
      have N0C := N0.same kBC
      have N1C := N1.same kBC
      have aqC : (upd HB tq (.tup [.int 0, .int 1, .int 0, .int 1, .int 0])) tq = some (.tup [.int 0, .int 1, .int 0, .int 1, .int 0]) := upd_same
      generalize upd HB tq (.tup [.int 0, .int 1, .int 0, .int 1, .int 0]) = HC at gC fLC fWC N0C N1C aqC ⊢
      clear kBC W0 W1 N0 N1 fLB fWB pwB pw2
      have two : ∀ y : V, y ∈ ([.int 0, .int 1, .int 0, .int 1, .int 0] : List V) → ∃ (k : Nat) (x dd : Addr) (ww ll : Acts), y = .int (k : Int) ∧ ([x0, x1].map V.ref)[k]? = some (.ref x) ∧ ([.ref d, .ref dn] : List V)[k]? = some (.ref dd) ∧ WorldAt T.C_World (newof Hn HC) x ww ∧ ActsOk ww ∧ ActsAt (mask b Hn) dd ll ∧ ActsOk ll ∧ SameA ww ll := fun y hy => by
        have c0 : ∃ (k : Nat) (x dd : Addr) (ww ll : Acts), V.int 0 = .int (k : Int) ∧ ([x0, x1].map V.ref)[k]? = some (.ref x) ∧ ([.ref d, .ref dn] : List V)[k]? = some (.ref dd) ∧ WorldAt T.C_World (newof Hn HC) x ww ∧ ActsOk ww ∧ ActsAt (mask b Hn) dd ll ∧ ActsOk ll ∧ SameA ww ll := ⟨0, x0, d, w0, l, rfl, rfl, rfl, N0C, okw0, A0, okl, lk0.same okl⟩
        have c1 : ∃ (k : Nat) (x dd : Addr) (ww ll : Acts), V.int 1 = .int (k : Int) ∧ ([x0, x1].map V.ref)[k]? = some (.ref x) ∧ ([.ref d, .ref dn] : List V)[k]? = some (.ref dd) ∧ WorldAt T.C_World (newof Hn HC) x ww ∧ ActsOk ww ∧ ActsAt (mask b Hn) dd ll ∧ ActsOk ll ∧ SameA ww ll := ⟨1, x1, dn, w1, ln, rfl, rfl, rfl, N1C, okw1, A1, okn, lk1.same okn⟩
        rcases List.mem_cons.mp hy with rfl | hy
        · exact c0
        rcases List.mem_cons.mp hy with rfl | hy
        · exact c1
        rcases List.mem_cons.mp hy with rfl | hy
        · exact c0
        rcases List.mem_cons.mp hy with rfl | hy
        · exact c1
        rw [List.mem_singleton.mp hy]
        exact c0
      refine for_tup (xs := [.int 0, .int 1, .int 0, .int 1, .int 0]) (fun j σ H' => ∃ o9', σ = [some (.ref a), some (.ref b), some (.int (0 + (i : Int))), some (.ref d), some (.ref Ls), some (.ref Wl), o6, o7, o8, o9', o10, o11, o12, none] ∧ Same HC H') ⟨_, rfl, Same.refl _⟩ (fun j σ H' _ h => by obtain ⟨_, _, h⟩ := h; exact SqT.of (h _ _ aqC)) ?_ ?_
      · rintro j y σ HD hy ⟨o9', rfl, kD⟩
        obtain ⟨k, x, dd, ww, ll, rfl, ex, ed, Wx, okx, Ad, okd, sm⟩ := two y (List.mem_of_getElem? hy)
        have gD := gC.same kD
        have kN := newof_same (H := Hn) kD
        refine ⟨_, rfl, _, rfl, Wl, _, k, _, rfl, rfl, SqL.of (newof_is (kN _ _ fWC)).2, atI_nat ex, _, rfl, _, rfl, Ls, _, k, _, rfl, rfl, SqL.of (newof_is (kN _ _ fLC)).2, atI_nat ed, x, dd, ww, ll, rfl, (Wx.same kN).same newof_sub, okx, Ad.same (gD.k.trans unmask), okd, sm, fun H' k' => ⟨true, rfl, ite_b (fun c => nomatch c) (fun _ => ⟨_, rfl, kD.trans k'⟩)⟩⟩
      · rintro σ HD ⟨o9', rfl, kD⟩
        have gD := gC.same kD
        have kN := newof_same (H := Hn) kD
        have fLD := kN _ _ fLC
        have fWD := kN _ _ fWC
        have N0D := N0C.same kN
        have N1D := N1C.same kN
        have nds0 := ActsOk.nds okl
        have ndw0 := ActsOk.nds okw0
        have ndw1 := ActsOk.nds okw1
        obtain ⟨ksd, hdm, hLm⟩ := A0
        obtain ⟨ksn, hnm, hNm⟩ := A1
        have hdD := unmask _ _ (gD.k _ _ hdm)
        have hnD := unmask _ _ (gD.k _ _ hnm)
        have hLD : ActsL HD ksd l := hLm.same (gD.k.trans unmask)
        have hND : ActsL HD ksn ln := hNm.same (gD.k.trans unmask)
        have eLL := hLD.len
        have eNN := hND.len
        refine seq_of ⟨_, rfl, Ls, _, 0, _, rfl, rfl, SqL.of (newof_is fLD).2, atI_nat (j := 0) rfl, _, rfl, Ls, _, 1, _, rfl, rfl, SqL.of (newof_is fLD).2, atI_nat (j := 1) rfl, 3, eqD l ln, by decide, .inr ⟨d, dn, ksd, ksn, _, rfl, rfl, hdD, hnD, fun _ => hits_d (n := 0) hND hLD nds0, (by unfold eqD; rw [eLL, eNN])⟩, ?_⟩
        refine ⟨_, rfl, _, rfl, b, p, d, l, rfl, gD.B, ⟨ksd, gD.k _ _ hdm, hLm.same gD.k⟩, okl, fun xa HE la gE WE lkE => ⟨_, _, rfl, seq_of ?_⟩⟩
        have gDE := gD.trans gE
        have kE := newof_go (H := Hn) gn.B gE
        have fWE := (newof_is (kE _ _ fWD)).2
        have V0 : WorldAt T.C_World HE x0 w0 := (N0D.same kE).same newof_sub
        have V1 : WorldAt T.C_World HE x1 w1 := (N1D.same kE).same newof_sub
        have Va : WorldAt T.C_World HE xa la := WE.same newof_sub
        have oka := lkE.ok okl
        obtain ⟨dx0, _, _, _, hx0, _⟩ := id V0
        obtain ⟨dx1, _, _, _, hx1, _⟩ := id V1
        obtain ⟨dxa, _, _, _, hxa, _⟩ := id Va
        have nfW : PySem.W.notFirst K T.C_World (.ref T.C_World) = true := by simp [PySem.W.notFirst]
        have a01 : eqW w0 w1 = eqD l ln := bool_iff (((eqW_iff okw0.nd ndw0).trans ⟨fun h => ((lk0.look2 okl).trans h).trans ((lk1.look2 okn).symm okn.nd (ActsOk.nds okn)), fun h => (((lk0.look2 okl).symm okl.nd nds0).trans h).trans (lk1.look2 okn)⟩).trans (eqD_iff okl.nd nds0).symm)
        have a10 : eqW w1 w0 = eqD l ln := by
          rw [← a01]
          exact bool_iff (((eqW_iff okw1.nd ndw1).trans ⟨fun h => h.symm okw1.nd ndw1, fun h => h.symm okw0.nd ndw0⟩).trans (eqW_iff okw0.nd ndw0).symm)
        have a0a : eqW w0 la = true := (eqW_iff okw0.nd ndw0).mpr (((lk0.look2 okl).symm okl.nd nds0).trans (lkE.look2 okl))
        refine ⟨_, rfl, Wl, _, 0, _, rfl, rfl, SqL.of fWE, atI_nat (j := 0) rfl, _, rfl, Wl, _, 1, _, rfl, rfl, SqL.of fWE, atI_nat (j := 1) rfl, x0, dx0, _, _, rfl, hx0, .base (.base (.ins hx1 T.cl_World Kw.ha Kw.hn Kw.ht Kw.hm)), nfW, x0, _, w0, rfl, V0, ndw0, .inl ⟨x1, w1, rfl, V1, eqW w0 w1, rfl, ?_⟩⟩
        refine ⟨_, rfl, Wl, _, 1, _, rfl, rfl, SqL.of fWE, atI_nat (j := 1) rfl, _, rfl, Wl, _, 0, _, rfl, rfl, SqL.of fWE, atI_nat (j := 0) rfl, x1, dx1, _, _, rfl, hx1, .base (.base (.ins hx0 T.cl_World Kw.ha Kw.hn Kw.ht Kw.hm)), nfW, x1, _, w1, rfl, V1, ndw1, .inl ⟨x0, w0, rfl, V0, eqW w1 w0, rfl, ?_⟩⟩
        refine ⟨_, rfl, Wl, _, 0, _, rfl, rfl, SqL.of fWE, atI_nat (j := 0) rfl, _, rfl, x0, dx0, _, _, rfl, hx0, .base (.base (.ins hxa T.cl_World Kw.ha Kw.hn Kw.ht Kw.hm)), nfW, x0, _, w0, rfl, V0, ndw0, .inl ⟨xa, la, rfl, Va, eqW w0 la, rfl, ?_⟩⟩
        refine ⟨_, rfl, Wl, _, 0, _, rfl, rfl, SqL.of fWE, atI_nat (j := 0) rfl, _, rfl, Wl, _, 1, _, rfl, rfl, SqL.of fWE, atI_nat (j := 1) rfl, x0, dx0, _, _, rfl, hx0, .base (.base (.ins hx1 T.cl_World Kw.ha Kw.hn Kw.ht Kw.hm)), nfW, x0, _, w0, rfl, V0, ndw0, .inl ⟨x1, w1, rfl, V1, eqW w0 w1, rfl, ?_⟩⟩
        rw [a01, a10, a0a]
        generalize eqD l ln = due
        refine ⟨(by show 4 ≤ sizeLine; decide), fun lt hlt => ?_⟩
        refine gname_at (seq_of ?_)
        have kEF := Same.new (o := .lst [.bl due, .bl due, .bl true, .bl (!due)]) hlt
        have alt : (upd HE lt (.lst [.bl due, .bl due, .bl true, .bl (!due)])) lt = some (.lst [.bl due, .bl due, .bl true, .bl (!due)]) := upd_same
        generalize upd HE lt (.lst [.bl due, .bl due, .bl true, .bl (!due)]) = HF at kEF alt ⊢
        refine ⟨_, rfl, _, rfl, _, rfl, _, rfl, due, rfl, (by show 4 ≤ sizeLine; decide), fun l2 hl2 => ?_⟩
        have kFG := Same.new (o := .lst [.bl due, .bl due, .bl true, .bl (!due)]) hl2
        have B1' : ∀ {Hx : Hp} {q : Addr}, Hx q = some (.lst [.bl due, .bl due, .bl true, .bl (!due)]) → Dv Hx (.ref q) (.lst [.bl due, .bl due, .bl true, .bl (!due)]) := fun e => .lst e (.cons (.bl _) (.cons (.bl _) (.cons (.bl _) (.cons (.bl _) .nil))))
        obtain ⟨e1, e2, e3, e4, e5, e6⟩ := truths_pd (K := K) due (B1' (kFG _ _ alt))
        obtain ⟨f1, _⟩ := truths_pd (K := K) due (B1' (upd_same (H := HF) (a := l2)))
        refine ⟨_, _, _, rfl, e1, f1, e2, e3, e4, e5, e6, true, rfl, ite_b (fun c => nomatch c) (fun _ => ?_)⟩
        have kEG := kEF.trans kFG
        generalize upd HF l2 (.lst [.bl due, .bl due, .bl true, .bl (!due)]) = HG at kEG ⊢
        clear e1 f1 e2 e3 e4 e5 e6 alt kFG kEF B1'
        -- other values
        refine ⟨_, rfl, ?_⟩
        refine ⟨(by show 0 ≤ sizeLine; decide), fun t0 ht0 => ⟨(by show 5 ≤ sizeLine; decide), fun tz htz => ⟨tz, rfl, ⟨_, SqT.of upd_same⟩, fun Dl hDl => ?_⟩⟩⟩
        have kz := (Same.new (o := .tup []) ht0).trans (Same.new (o := .tup [.non, .ref d, .ref t0, .str "world", .int 5]) htz)
        have at0 : (upd (upd HG t0 (.tup [])) tz (.tup [.non, .ref d, .ref t0, .str "world", .int 5])) t0 = some (.tup []) := Same.new htz _ _ upd_same
        have atz : (upd (upd HG t0 (.tup [])) tz (.tup [.non, .ref d, .ref t0, .str "world", .int 5])) tz = some (.tup [.non, .ref d, .ref t0, .str "world", .int 5]) := upd_same
        generalize upd (upd HG t0 (.tup [])) tz (.tup [.non, .ref d, .ref t0, .str "world", .int 5]) = HZ at kz at0 atz hDl ⊢
        have kEZ := kEG.trans kz
        have hdZ := kEZ _ _ (gE.at (Bag.ne_dK gD.B hdD) hdD)
        refine lc_it (walk_tup (xs := [.non, .ref d, .ref t0, .str "world", .int 5])) (fun i H' => Same HZ H' ∧ H' Dl = some (.lst [])) ⟨Same.new hDl, upd_same⟩ (fun i H' _ h => SqT.of (h.1 _ _ atz)) ?_ (fun HY h => ?_)
        · rintro i' y HY HY' hi' ⟨kY, hlY⟩ ⟨rfl, hy⟩
          obtain ⟨s', ty, sn⟩ : ∃ s' : String, TyE K HY' y (.type s') ∧ (PySem.fastBuiltinMro s').map (·.contains (.ref T.C_World)) = some false := by
            have hm := List.mem_of_getElem? hy
            rcases List.mem_cons.mp hm with rfl | hm
            · exact ⟨"NoneType", .base (.base .non), by rfl⟩
            rcases List.mem_cons.mp hm with rfl | hm
            · exact ⟨"dict", .base (.base (.dK (kY _ _ hdZ))), by rfl⟩
            rcases List.mem_cons.mp hm with rfl | hm
            · exact ⟨"tuple", .base (.base (.tup (kY _ _ at0))), by rfl⟩
            rcases List.mem_cons.mp hm with rfl | hm
            · exact ⟨"str", .base (.base (.str _)), by rfl⟩
            rw [List.mem_singleton.mp hm]
            exact ⟨"int", .base (.base (.int _)), by rfl⟩
          obtain ⟨ko, nf⟩ := other_ty T Kw sn
          have kEY := kEZ.trans kY
          have fWY := kEY _ _ fWE
          have V0Y := V0.same kEY
          have hxY := kEY _ _ hx0
          refine ⟨rfl, _, rfl, Wl, _, 0, _, rfl, rfl, SqL.of fWY, atI_nat (j := 0) rfl, _, rfl, x0, dx0, _, _, rfl, hxY, ty, nf, x0, _, w0, rfl, V0Y, ndw0, .inr ⟨_, ty, ko, false, rfl, false, rfl, ite_b (fun c => nomatch c) (fun _ => ?_)⟩⟩
          refine ⟨_, rfl, Wl, _, 0, _, rfl, rfl, SqL.of fWY, atI_nat (j := 0) rfl, _, rfl, x0, dx0, _, _, rfl, hxY, ty, nf, x0, _, w0, rfl, V0Y, ndw0, .inr ⟨_, ty, ko, false, rfl, true, rfl, ite_b (fun c => nomatch c) (fun _ => ⟨kY, hlY⟩)⟩⟩
        · obtain ⟨kY, hlY⟩ := h
          refine ⟨(by show 0 ≤ sizeLine; decide), fun le hle => ?_⟩
          have kL := Same.new (o := .lst []) hle
          obtain ⟨e1, e2, _⟩ := pd_ok (K := K) (B := 13) (bits := 20) (by decide) (.lst (kL _ _ hlY) .nil : Dv (upd HY le (.lst [])) (.ref Dl) (.lst [])) (fun i hi => by cases hi) rfl (by decide) (by decide)
          obtain ⟨f1, _⟩ := pd_ok (K := K) (B := 13) (bits := 20) (by decide) (.lst upd_same .nil : Dv (upd HY le (.lst [])) (.ref le) (.lst [])) (fun i hi => by cases hi) rfl (by decide) (by decide)
          refine ⟨_, _, e1, f1, e2, e2, false, rfl, ite_b (fun c => nomatch c) (fun _ => ?_)⟩
          exact ⟨_, _, _, _, _, _, _, _, _, _, _, rfl, g2.trans (gc.trans (gn.trans ((gDE.same (kEZ.trans (kY.trans kL))))))⟩
  · rintro σ H2 ⟨o2, o3, o4, o5, o6, o7, o8, o9, o10, o11, o12, rfl, g2⟩
    exact q H2
end
end K20
set_option maxRecDepth 100000
set_option maxHeartbeats 4000000
namespace K20
open PySem L2 Fm
theorem all_mk {P : Program} {w : World} {K : PySem.W.Frag} {h : Heap} {mg : Str → Option Value} {fa : Addr} (X : K.In h) (G : h.Ns mainGlobals mg) (hfa : mg "law" = some (.ref fa))
    {a0 a1 a2 a3 a4 a5 a6 a7 a8 a9 a10 a11 a12 a13 a14 a15 a16 a17 a18 a19 a20 a21 a22 a23 : Addr} {od0 an0 od1 an1 od2 an2 od3 an3 od4 an4 od5 an5 od6 an6 od7 an7 od8 an8 od9 an9 od10 an10 od11 an11 od12 an12 od13 an13 od14 an14 od15 an15 od16 an16 od17 an17 od18 an18 od19 an19 od20 an20 od21 an21 od22 an22 od23 an23 : Option Addr} {sl0 sl1 sl2 sl3 sl4 sl5 sl6 sl7 sl8 sl9 sl10 sl11 sl12 sl13 sl14 sl15 sl16 sl17 sl18 sl19 sl20 sl21 sl22 sl23 : Array (Option Value)}
    {oc0 kV0 dc0 pm0 cd0 ct0 oc1 kV1 dc1 pm1 cd1 ct1 oc2 kV2 dc2 pm2 cd2 ct2 oc3 kV3 dc3 pm3 cd3 ct3 oc4 kV4 dc4 pm4 cd4 ct4 oc5 kV5 dc5 pm5 cd5 ct5 oc6 kV6 dc6 pm6 cd6 ct6 oc7 kV7 dc7 pm7 cd7 ct7 oc8 kV8 dc8 pm8 cd8 ct8 oc9 kV9 dc9 pm9 cd9 ct9 oc10 kV10 dc10 pm10 cd10 ct10 oc11 kV11 dc11 pm11 cd11 ct11 oc12 kV12 dc12 pm12 cd12 ct12 oc13 kV13 dc13 pm13 cd13 ct13 oc14 kV14 dc14 pm14 cd14 ct14 oc15 kV15 dc15 pm15 cd15 ct15 oc16 kV16 dc16 pm16 cd16 ct16 oc17 kV17 dc17 pm17 cd17 ct17 oc18 kV18 dc18 pm18 cd18 ct18 oc19 kV19 dc19 pm19 cd19 ct19 oc20 kV20 dc20 pm20 cd20 ct20 oc21 kV21 dc21 pm21 cd21 ct21 oc22 kV22 dc22 pm22 cd22 ct22 oc23 kV23 dc23 pm23 cd23 ct23 : Value}
    {D0 : Addr}
    (n0 : PySem.W.nsIn K mainGlobals "is_integer" = some (some (.ref a0))) (l0 : K.lookup a0 = some ⟨oc0, od0, .func (PySem.W.fnOf "is_integer" "is_integer" (defArgs s_is_integer) (defBody s_is_integer) (defScope s_is_integer) .none kV0 dc0 pm0 an0 cd0 ct0), sl0⟩) (c0 : PySem.W.codeIn K cd0 "is_integer" = true) (k0 : PySem.W.keepIn K (.ref a0) = true)
    (n1 : PySem.W.nsIn K mainGlobals "is_below" = some (some (.ref a1))) (l1 : K.lookup a1 = some ⟨oc1, od1, .func (PySem.W.fnOf "is_below" "is_below" (defArgs s_is_below) (defBody s_is_below) (defScope s_is_below) .none kV1 dc1 pm1 an1 cd1 ct1), sl1⟩) (c1 : PySem.W.codeIn K cd1 "is_below" = true) (k1 : PySem.W.keepIn K (.ref a1) = true)
    (n2 : PySem.W.nsIn K mainGlobals "is_name" = some (some (.ref a2))) (l2 : K.lookup a2 = some ⟨oc2, od2, .func (PySem.W.fnOf "is_name" "is_name" (defArgs s_is_name) (defBody s_is_name) (defScope s_is_name) .none kV2 dc2 pm2 an2 cd2 ct2), sl2⟩) (c2 : PySem.W.codeIn K cd2 "is_name" = true) (k2 : PySem.W.keepIn K (.ref a2) = true)
    (n3 : PySem.W.nsIn K mainGlobals "is_outcome" = some (some (.ref a3))) (l3 : K.lookup a3 = some ⟨oc3, od3, .func (PySem.W.fnOf "is_outcome" "is_outcome" (defArgs s_is_outcome) (defBody s_is_outcome) (defScope s_is_outcome) .none kV3 dc3 pm3 an3 cd3 ct3), sl3⟩) (c3 : PySem.W.codeIn K cd3 "is_outcome" = true) (k3 : PySem.W.keepIn K (.ref a3) = true)
    (n4 : PySem.W.nsIn K mainGlobals "are_outcomes" = some (some (.ref a4))) (l4 : K.lookup a4 = some ⟨oc4, od4, .func (PySem.W.fnOf "are_outcomes" "are_outcomes" (defArgs s_are_outcomes) (defBody s_are_outcomes) (defScope s_are_outcomes) .none kV4 dc4 pm4 an4 cd4 ct4), sl4⟩) (c4 : PySem.W.codeIn K cd4 "are_outcomes" = true) (k4 : PySem.W.keepIn K (.ref a4) = true)
    (n5 : PySem.W.nsIn K mainGlobals "is_act" = some (some (.ref a5))) (l5 : K.lookup a5 = some ⟨oc5, od5, .func (PySem.W.fnOf "is_act" "is_act" (defArgs s_is_act) (defBody s_is_act) (defScope s_is_act) .none kV5 dc5 pm5 an5 cd5 ct5), sl5⟩) (c5 : PySem.W.codeIn K cd5 "is_act" = true) (k5 : PySem.W.keepIn K (.ref a5) = true)
    (n6 : PySem.W.findIn K (.ref D0) "__init__" = some (some (.ref a6))) (i6 : PySem.W.isFn K (.ref a6) = true) (l6 : K.lookup a6 = some ⟨oc6, od6, .func (PySem.W.fnOf "__init__" "World.__init__" (defArgs s_World_init) (defBody s_World_init) (defScope s_World_init) .none kV6 dc6 pm6 an6 cd6 ct6), sl6⟩) (c6 : PySem.W.codeIn K cd6 "World.__init__" = true) (k6 : PySem.W.keepIn K (.ref a6) = true)
    (n7 : PySem.W.findIn K (.ref D0) "acts" = some (some (.ref a7))) (i7 : PySem.W.isFn K (.ref a7) = true) (l7 : K.lookup a7 = some ⟨oc7, od7, .func (PySem.W.fnOf "acts" "World.acts" (defArgs s_World_acts) (defBody s_World_acts) (defScope s_World_acts) .none kV7 dc7 pm7 an7 cd7 ct7), sl7⟩) (c7 : PySem.W.codeIn K cd7 "World.acts" = true) (k7 : PySem.W.keepIn K (.ref a7) = true)
    (n8 : PySem.W.findIn K (.ref D0) "arguments" = some (some (.ref a8))) (i8 : PySem.W.isFn K (.ref a8) = true) (l8 : K.lookup a8 = some ⟨oc8, od8, .func (PySem.W.fnOf "arguments" "World.arguments" (defArgs s_World_arguments) (defBody s_World_arguments) (defScope s_World_arguments) .none kV8 dc8 pm8 an8 cd8 ct8), sl8⟩) (c8 : PySem.W.codeIn K cd8 "World.arguments" = true) (k8 : PySem.W.keepIn K (.ref a8) = true)
    (n9 : PySem.W.findIn K (.ref D0) "outcomes" = some (some (.ref a9))) (i9 : PySem.W.isFn K (.ref a9) = true) (l9 : K.lookup a9 = some ⟨oc9, od9, .func (PySem.W.fnOf "outcomes" "World.outcomes" (defArgs s_World_outcomes) (defBody s_World_outcomes) (defScope s_World_outcomes) .none kV9 dc9 pm9 an9 cd9 ct9), sl9⟩) (c9 : PySem.W.codeIn K cd9 "World.outcomes" = true) (k9 : PySem.W.keepIn K (.ref a9) = true)
    (n10 : PySem.W.findIn K (.ref D0) "brings" = some (some (.ref a10))) (i10 : PySem.W.isFn K (.ref a10) = true) (l10 : K.lookup a10 = some ⟨oc10, od10, .func (PySem.W.fnOf "brings" "World.brings" (defArgs s_World_brings) (defBody s_World_brings) (defScope s_World_brings) .none kV10 dc10 pm10 an10 cd10 ct10), sl10⟩) (c10 : PySem.W.codeIn K cd10 "World.brings" = true) (k10 : PySem.W.keepIn K (.ref a10) = true)
    (n11 : PySem.W.findIn K (.ref D0) "__eq__" = some (some (.ref a11))) (i11 : PySem.W.isFn K (.ref a11) = true) (l11 : K.lookup a11 = some ⟨oc11, od11, .func (PySem.W.fnOf "__eq__" "World.__eq__" (defArgs s_World_eq) (defBody s_World_eq) (defScope s_World_eq) .none kV11 dc11 pm11 an11 cd11 ct11), sl11⟩) (c11 : PySem.W.codeIn K cd11 "World.__eq__" = true) (k11 : PySem.W.keepIn K (.ref a11) = true)
    (n12 : PySem.W.nsIn K mainGlobals "_law_bag" = some (some (.ref a12))) (l12 : K.lookup a12 = some ⟨oc12, od12, .func (PySem.W.fnOf "_law_bag" "_law_bag" (defArgs s__law_bag) (defBody s__law_bag) (defScope s__law_bag) .none kV12 dc12 pm12 an12 cd12 ct12), sl12⟩) (c12 : PySem.W.codeIn K cd12 "_law_bag" = true) (k12 : PySem.W.keepIn K (.ref a12) = true)
    (n13 : PySem.W.nsIn K mainGlobals "_law_take" = some (some (.ref a13))) (l13 : K.lookup a13 = some ⟨oc13, od13, .func (PySem.W.fnOf "_law_take" "_law_take" (defArgs s__law_take) (defBody s__law_take) (defScope s__law_take) .none kV13 dc13 pm13 an13 cd13 ct13), sl13⟩) (c13 : PySem.W.codeIn K cd13 "_law_take" = true) (k13 : PySem.W.keepIn K (.ref a13) = true)
    (n14 : PySem.W.nsIn K mainGlobals "_law_alike" = some (some (.ref a14))) (l14 : K.lookup a14 = some ⟨oc14, od14, .func (PySem.W.fnOf "_law_alike" "_law_alike" (defArgs s__law_alike) (defBody s__law_alike) (defScope s__law_alike) .none kV14 dc14 pm14 an14 cd14 ct14), sl14⟩) (c14 : PySem.W.codeIn K cd14 "_law_alike" = true) (k14 : PySem.W.keepIn K (.ref a14) = true)
    (n15 : PySem.W.nsIn K mainGlobals "_law_mixed" = some (some (.ref a15))) (l15 : K.lookup a15 = some ⟨oc15, od15, .func (PySem.W.fnOf "_law_mixed" "_law_mixed" (defArgs s__law_mixed) (defBody s__law_mixed) (defScope s__law_mixed) .none kV15 dc15 pm15 an15 cd15 ct15), sl15⟩) (c15 : PySem.W.codeIn K cd15 "_law_mixed" = true) (k15 : PySem.W.keepIn K (.ref a15) = true)
    (n16 : PySem.W.nsIn K mainGlobals "_law_names" = some (some (.ref a16))) (l16 : K.lookup a16 = some ⟨oc16, od16, .func (PySem.W.fnOf "_law_names" "_law_names" (defArgs s__law_names) (defBody s__law_names) (defScope s__law_names) .none kV16 dc16 pm16 an16 cd16 ct16), sl16⟩) (c16 : PySem.W.codeIn K cd16 "_law_names" = true) (k16 : PySem.W.keepIn K (.ref a16) = true)
    (n17 : PySem.W.nsIn K mainGlobals "_law_acts" = some (some (.ref a17))) (l17 : K.lookup a17 = some ⟨oc17, od17, .func (PySem.W.fnOf "_law_acts" "_law_acts" (defArgs s__law_acts) (defBody s__law_acts) (defScope s__law_acts) .none kV17 dc17 pm17 an17 cd17 ct17), sl17⟩) (c17 : PySem.W.codeIn K cd17 "_law_acts" = true) (k17 : PySem.W.keepIn K (.ref a17) = true)
    (n18 : PySem.W.nsIn K mainGlobals "_law_world_of" = some (some (.ref a18))) (l18 : K.lookup a18 = some ⟨oc18, od18, .func (PySem.W.fnOf "_law_world_of" "_law_world_of" (defArgs s__law_world_of) (defBody s__law_world_of) (defScope s__law_world_of) .none kV18 dc18 pm18 an18 cd18 ct18), sl18⟩) (c18 : PySem.W.codeIn K cd18 "_law_world_of" = true) (k18 : PySem.W.keepIn K (.ref a18) = true)
    (n19 : PySem.W.nsIn K mainGlobals "_law_more" = some (some (.ref a19))) (l19 : K.lookup a19 = some ⟨oc19, od19, .func (PySem.W.fnOf "_law_more" "_law_more" (defArgs s__law_more) (defBody s__law_more) (defScope s__law_more) .none kV19 dc19 pm19 an19 cd19 ct19), sl19⟩) (c19 : PySem.W.codeIn K cd19 "_law_more" = true) (k19 : PySem.W.keepIn K (.ref a19) = true)
    (n20 : PySem.W.nsIn K mainGlobals "_law_fourth" = some (some (.ref a20))) (l20 : K.lookup a20 = some ⟨oc20, od20, .func (PySem.W.fnOf "_law_fourth" "_law_fourth" (defArgs s__law_fourth) (defBody s__law_fourth) (defScope s__law_fourth) .none kV20 dc20 pm20 an20 cd20 ct20), sl20⟩) (c20 : PySem.W.codeIn K cd20 "_law_fourth" = true) (k20 : PySem.W.keepIn K (.ref a20) = true)
    (n21 : PySem.W.nsIn K mainGlobals "_law_near" = some (some (.ref a21))) (l21 : K.lookup a21 = some ⟨oc21, od21, .func (PySem.W.fnOf "_law_near" "_law_near" (defArgs s__law_near) (defBody s__law_near) (defScope s__law_near) .none kV21 dc21 pm21 an21 cd21 ct21), sl21⟩) (c21 : PySem.W.codeIn K cd21 "_law_near" = true) (k21 : PySem.W.keepIn K (.ref a21) = true)
    (n22 : PySem.W.nsIn K mainGlobals "_law_right" = some (some (.ref a22))) (l22 : K.lookup a22 = some ⟨oc22, od22, .func (PySem.W.fnOf "_law_right" "_law_right" (defArgs s__law_right) (defBody s__law_right) (defScope s__law_right) .none kV22 dc22 pm22 an22 cd22 ct22), sl22⟩) (c22 : PySem.W.codeIn K cd22 "_law_right" = true) (k22 : PySem.W.keepIn K (.ref a22) = true)
    (n23 : PySem.W.nsIn K mainGlobals "law" = some (some (.ref a23))) (l23 : K.lookup a23 = some ⟨oc23, od23, .func (PySem.W.fnOf "law" "law" (defArgs s_law) (defBody s_law) (defScope s_law) .none kV23 dc23 pm23 an23 cd23 ct23), sl23⟩) (c23 : PySem.W.codeIn K cd23 "law" = true) (k23 : PySem.W.keepIn K (.ref a23) = true)
    (aC0 : PySem.W.nsIn K mainGlobals "World" = some (some (.ref D0)))
    (pg0 : PySem.W.plainGet K D0 Str.empty = true)
    (hd0 : PySem.W.hasDictIn K D0 = true)
    (po0 : PySem.W.plainOver K D0 = true)
    (sa0 : PySem.W.findIn K (.ref D0) "__setattr__" = some (some (.builtin "object.__setattr__")))
    (mk0 : PySem.W.makesIn K D0 = true)
    (kc0 : PySem.W.keepIn K (.ref D0) = true)
    (na0_0 : PySem.W.findIn K (.ref D0) "_arguments" = some none)
    (na0_1 : PySem.W.findIn K (.ref D0) "_brings" = some none)
    (ne0 : PySem.W.findIn K (.ref D0) "__ne__" = some (some (.builtin "object.__ne__")))
    (ha0 : PySem.W.findIn K (.ref D0) "__class__" = some (some (.builtin "object.__class__")))
    (hm0 : PySem.W.mroIn K D0 (.type "object") = some true)
    (hk0 : PySem.W.typeIn K (.ref D0) = some (.type "type"))
    (ghn : PySem.W.specialIn K (.builtin "object.__class__") "__get__" = some (some (.builtin "getset_descriptor.__get__")))
    (ght : PySem.W.takesIn K (.builtin "object.__class__") = some true)
    (z_abs : PySem.W.nsIn K mainGlobals "abs" = some none)
    (z_all : PySem.W.nsIn K mainGlobals "all" = some none)
    (z_bool : PySem.W.nsIn K mainGlobals "bool" = some none)
    (z_dict : PySem.W.nsIn K mainGlobals "dict" = some none)
    (z_int : PySem.W.nsIn K mainGlobals "int" = some none)
    (z_isinstance : PySem.W.nsIn K mainGlobals "isinstance" = some none)
    (z_len : PySem.W.nsIn K mainGlobals "len" = some none)
    (z_min : PySem.W.nsIn K mainGlobals "min" = some none)
    (z_range : PySem.W.nsIn K mainGlobals "range" = some none)
    (z_repr : PySem.W.nsIn K mainGlobals "repr" = some none)
    (z_sorted : PySem.W.nsIn K mainGlobals "sorted" = some none)
    (z_str : PySem.W.nsIn K mainGlobals "str" = some none)
    (z_tuple : PySem.W.nsIn K mainGlobals "tuple" = some none)
    {t_LETTERS : Tok} (z_LETTERS : PySem.W.nsIn K mainGlobals "LETTERS" = some (some (.str "abcdefghijklmnopqrstuvwxyz" t_LETTERS)))
    : ∃ fd : FuncData, (∀ (s : Shared) (u : Value), BindsTo s fd ⟨[u], []⟩ [("_law_script", u)]) ∧ ∀ bs : Heap, K.In bs → bs.Ns mainGlobals mg → FnG P w K mg bs 64 fa fd ["_law_script"] (spLaw K) := by
  have e := hfa.symm.trans (PySem.W.mg_of X G n23)
  cases e
  have F0 := fun_mk (st := s_is_integer) l0 c0 k0
  have F1 := fun_mk (st := s_is_below) l1 c1 k1
  have F2 := fun_mk (st := s_is_name) l2 c2 k2
  have F3 := fun_mk (st := s_is_outcome) l3 c3 k3
  have F4 := fun_mk (st := s_are_outcomes) l4 c4 k4
  have F5 := fun_mk (st := s_is_act) l5 c5 k5
  have F6 := fun_mk (st := s_World_init) l6 c6 k6
  have F7 := fun_mk (st := s_World_acts) l7 c7 k7
  have F8 := fun_mk (st := s_World_arguments) l8 c8 k8
  have F9 := fun_mk (st := s_World_outcomes) l9 c9 k9
  have F10 := fun_mk (st := s_World_brings) l10 c10 k10
  have F11 := fun_mk (st := s_World_eq) l11 c11 k11
  have F12 := fun_mk (st := s__law_bag) l12 c12 k12
  have F13 := fun_mk (st := s__law_take) l13 c13 k13
  have F14 := fun_mk (st := s__law_alike) l14 c14 k14
  have F15 := fun_mk (st := s__law_mixed) l15 c15 k15
  have F16 := fun_mk (st := s__law_names) l16 c16 k16
  have F17 := fun_mk (st := s__law_acts) l17 c17 k17
  have F18 := fun_mk (st := s__law_world_of) l18 c18 k18
  have F19 := fun_mk (st := s__law_more) l19 c19 k19
  have F20 := fun_mk (st := s__law_fourth) l20 c20 k20
  have F21 := fun_mk (st := s__law_near) l21 c21 k21
  have F22 := fun_mk (st := s__law_right) l22 c22 k22
  have F23 := fun_mk (st := s_law) l23 c23 k23
  let T : Txt K mg := { a_is_integer := a0, d_is_integer := _, F_is_integer := F0, f_is_integer := PySem.W.mg_of X G n0, b_is_integer := F0.binds (ps := ["thing"]) (fun _ _ _ _ _ _ us hl => match us, hl with | [_], _ => rfl), a_is_below := a1, d_is_below := _, F_is_below := F1, f_is_below := PySem.W.mg_of X G n1, b_is_below := F1.binds (ps := ["thing", "bound"]) (fun _ _ _ _ _ _ us hl => match us, hl with | [_, _], _ => rfl), a_is_name := a2, d_is_name := _, F_is_name := F2, f_is_name := PySem.W.mg_of X G n2, b_is_name := F2.binds (ps := ["thing"]) (fun _ _ _ _ _ _ us hl => match us, hl with | [_], _ => rfl), a_is_outcome := a3, d_is_outcome := _, F_is_outcome := F3, f_is_outcome := PySem.W.mg_of X G n3, b_is_outcome := F3.binds (ps := ["thing"]) (fun _ _ _ _ _ _ us hl => match us, hl with | [_], _ => rfl), a_are_outcomes := a4, d_are_outcomes := _, F_are_outcomes := F4, f_are_outcomes := PySem.W.mg_of X G n4, b_are_outcomes := F4.binds (ps := ["thing"]) (fun _ _ _ _ _ _ us hl => match us, hl with | [_], _ => rfl), a_is_act := a5, d_is_act := _, F_is_act := F5, f_is_act := PySem.W.mg_of X G n5, b_is_act := F5.binds (ps := ["thing"]) (fun _ _ _ _ _ _ us hl => match us, hl with | [_], _ => rfl), a_World_init := a6, d_World_init := _, F_World_init := F6, b_World_init := F6.binds (ps := ["self", "acts"]) (fun _ _ _ _ _ _ us hl => match us, hl with | [_, _], _ => rfl), a_World_acts := a7, d_World_acts := _, F_World_acts := F7, b_World_acts := F7.binds (ps := ["self"]) (fun _ _ _ _ _ _ us hl => match us, hl with | [_], _ => rfl), a_World_arguments := a8, d_World_arguments := _, F_World_arguments := F8, b_World_arguments := F8.binds (ps := ["self", "act"]) (fun _ _ _ _ _ _ us hl => match us, hl with | [_, _], _ => rfl), a_World_outcomes := a9, d_World_outcomes := _, F_World_outcomes := F9, b_World_outcomes := F9.binds (ps := ["self", "act"]) (fun _ _ _ _ _ _ us hl => match us, hl with | [_, _], _ => rfl), a_World_brings := a10, d_World_brings := _, F_World_brings := F10, b_World_brings := F10.binds (ps := ["self", "act", "outcome"]) (fun _ _ _ _ _ _ us hl => match us, hl with | [_, _, _], _ => rfl), a_World_eq := a11, d_World_eq := _, F_World_eq := F11, b_World_eq := F11.binds (ps := ["self", "other"]) (fun _ _ _ _ _ _ us hl => match us, hl with | [_, _], _ => rfl), a__law_bag := a12, d__law_bag := _, F__law_bag := F12, f__law_bag := PySem.W.mg_of X G n12, b__law_bag := F12.binds (ps := ["_law_script"]) (fun _ _ _ _ _ _ us hl => match us, hl with | [_], _ => rfl), a__law_take := a13, d__law_take := _, F__law_take := F13, f__law_take := PySem.W.mg_of X G n13, b__law_take := F13.binds (ps := ["_law_bag_here", "_law_many"]) (fun _ _ _ _ _ _ us hl => match us, hl with | [_, _], _ => rfl), a__law_alike := a14, d__law_alike := _, F__law_alike := F14, f__law_alike := PySem.W.mg_of X G n14, b__law_alike := F14.binds (ps := ["_law_found", "_law_due"]) (fun _ _ _ _ _ _ us hl => match us, hl with | [_, _], _ => rfl), a__law_mixed := a15, d__law_mixed := _, F__law_mixed := F15, f__law_mixed := PySem.W.mg_of X G n15, b__law_mixed := F15.binds (ps := ["_law_bag_here", "_law_things"]) (fun _ _ _ _ _ _ us hl => match us, hl with | [_, _], _ => rfl), a__law_names := a16, d__law_names := _, F__law_names := F16, f__law_names := PySem.W.mg_of X G n16, b__law_names := F16.binds (ps := ["_law_bag_here", "_law_many"]) (fun _ _ _ _ _ _ us hl => match us, hl with | [_, _], _ => rfl), a__law_acts := a17, d__law_acts := _, F__law_acts := F17, f__law_acts := PySem.W.mg_of X G n17, b__law_acts := F17.binds (ps := ["_law_bag_here", "_law_many"]) (fun _ _ _ _ _ _ us hl => match us, hl with | [_, _], _ => rfl), a__law_world_of := a18, d__law_world_of := _, F__law_world_of := F18, f__law_world_of := PySem.W.mg_of X G n18, b__law_world_of := F18.binds (ps := ["_law_bag_here", "_law_acts_here"]) (fun _ _ _ _ _ _ us hl => match us, hl with | [_, _], _ => rfl), a__law_more := a19, d__law_more := _, F__law_more := F19, f__law_more := PySem.W.mg_of X G n19, b__law_more := F19.binds (ps := ["_law_bag_here", "_law_acts_here"]) (fun _ _ _ _ _ _ us hl => match us, hl with | [_, _], _ => rfl), a__law_fourth := a20, d__law_fourth := _, F__law_fourth := F20, f__law_fourth := PySem.W.mg_of X G n20, b__law_fourth := F20.binds (ps := ["_law_bag_here", "_law_acts_here"]) (fun _ _ _ _ _ _ us hl => match us, hl with | [_, _], _ => rfl), a__law_near := a21, d__law_near := _, F__law_near := F21, f__law_near := PySem.W.mg_of X G n21, b__law_near := F21.binds (ps := ["_law_bag_here", "_law_acts_here"]) (fun _ _ _ _ _ _ us hl => match us, hl with | [_, _], _ => rfl), a__law_right := a22, d__law_right := _, F__law_right := F22, f__law_right := PySem.W.mg_of X G n22, b__law_right := F22.binds (ps := ["_law_world", "_law_acts_here"]) (fun _ _ _ _ _ _ us hl => match us, hl with | [_, _], _ => rfl), a_law := fa, d_law := _, F_law := F23, f_law := PySem.W.mg_of X G n23, b_law := F23.binds (ps := ["_law_script"]) (fun _ _ _ _ _ _ us hl => match us, hl with | [_], _ => rfl), C_World := D0, g_World := PySem.W.mg_of X G aC0, cl_World := ⟨pg0, hd0, po0, sa0⟩, mk_World := ⟨mk0, n6, i6, kc0⟩, me_World_acts := ⟨n7, i7, k7⟩, me_World_arguments := ⟨n8, i8, k8⟩, me_World_outcomes := ⟨n9, i9, k9⟩, me_World_brings := ⟨n10, i10, k10⟩, sp_World_eq := n11, fn_World_eq := i11, na_World__arguments := na0_0, na_World__brings := na0_1, ne_World := ne0, m_abs := PySem.W.mg_none_of X G z_abs, m_all := PySem.W.mg_none_of X G z_all, m_bool := PySem.W.mg_none_of X G z_bool, m_dict := PySem.W.mg_none_of X G z_dict, m_int := PySem.W.mg_none_of X G z_int, m_isinstance := PySem.W.mg_none_of X G z_isinstance, m_len := PySem.W.mg_none_of X G z_len, m_min := PySem.W.mg_none_of X G z_min, m_range := PySem.W.mg_none_of X G z_range, m_repr := PySem.W.mg_none_of X G z_repr, m_sorted := PySem.W.mg_none_of X G z_sorted, m_str := PySem.W.mg_none_of X G z_str, m_tuple := PySem.W.mg_none_of X G z_tuple, t_LETTERS := t_LETTERS, g_LETTERS := PySem.W.mg_of X G z_LETTERS }
  exact ⟨_, fun s u => .of_eq rfl, fun bs _ _ => ok_law T ⟨ha0, ghn, ght, hm0, ne0, hk_of hd0 hk0⟩⟩
theorem walk {l : PySem.W.OpenLaw} {q : Program} {loose : List Str} {XP : (Str → Option Value) → Heap → Prop} {YP : World → Heap → Prop} {d : DefRec} {K : Params → PySem.W.Frag} (hn : l.most = some 63) (hdf : d.params.defaults = [])
    (hY : ∀ (w : World) (h : Heap), YP w h → (K w.params).In h)
    (F : ∀ (w : World) (mg : Str → Option Value) (fa : Addr) (h : Heap), (K w.params).In h → h.Ns mainGlobals mg → mg d.name = some (.ref fa) →
      ∃ fd : FuncData, (∀ (s : Shared) (u : Value), BindsTo s fd ⟨[u], []⟩ [("_law_script", u)]) ∧ ∀ bs : Heap, (K w.params).In bs → bs.Ns mainGlobals mg → FnG l.prog w (K w.params) mg bs 64 fa fd ["_law_script"] (spLaw (K w.params))) :
    PySem.W.WalkO q loose XP YP l.row.toRowW d [] (fun f vs => PySem.call f vs) :=
  Fm.walkG (n := 63) (k := 64) (x := "_law_script") (sp := fun w => spLaw (K w.params)) hn (by decide) hdf ⟨rfl, by decide, by decide⟩ hY F fun _ _ a ns hl hS => ⟨a, ns, rfl, hS, hl, fun _ => rfl⟩
end K20
open PySem PySem.W PyProof.Rows in
set_option maxRecDepth 100000 in
set_option maxHeartbeats 0 in
theorem PySem.Challenge.cw_framemoves_k20_worlds_made_holds : PySem.Challenge.rw_framemoves_k20_worlds_made.Holds := by
  w_on; o_law; k_head; (case hw => w_witness2)
  k_fill
  refine K20.walk (l := PySem.Challenge.rw_framemoves_k20_worlds_made) rfl rfl (fun w h Y => PySem.W.kIn_of Y) ?F
  case F =>
    intro w mg fa h KX G hmg
    refine' K20.all_mk KX G hmg ?n0 ?l0 ?c0 ?k0 ?n1 ?l1 ?c1 ?k1 ?n2 ?l2 ?c2 ?k2 ?n3 ?l3 ?c3 ?k3 ?n4 ?l4 ?c4 ?k4 ?n5 ?l5 ?c5 ?k5 ?n6 ?i6 ?l6 ?c6 ?k6 ?n7 ?i7 ?l7 ?c7 ?k7 ?n8 ?i8 ?l8 ?c8 ?k8 ?n9 ?i9 ?l9 ?c9 ?k9 ?n10 ?i10 ?l10 ?c10 ?k10 ?n11 ?i11 ?l11 ?c11 ?k11 ?n12 ?l12 ?c12 ?k12 ?n13 ?l13 ?c13 ?k13 ?n14 ?l14 ?c14 ?k14 ?n15 ?l15 ?c15 ?k15 ?n16 ?l16 ?c16 ?k16 ?n17 ?l17 ?c17 ?k17 ?n18 ?l18 ?c18 ?k18 ?n19 ?l19 ?c19 ?k19 ?n20 ?l20 ?c20 ?k20 ?n21 ?l21 ?c21 ?k21 ?n22 ?l22 ?c22 ?k22 ?n23 ?l23 ?c23 ?k23 ?aC0 ?pg0 ?hd0 ?po0 ?sa0 ?mk0 ?kc0 ?na0_0 ?na0_1 ?ne0 ?ha0 ?hm0 ?hk0 ?ghn ?ght ?z_abs ?z_all ?z_bool ?z_dict ?z_int ?z_isinstance ?z_len ?z_min ?z_range ?z_repr ?z_sorted ?z_str ?z_tuple ?z_LETTERS
    (case aC0 => k_is)
    (case n0 => k_is)
    (case l0 => k_is)
    (case c0 => k_is)
    (case k0 => k_is)
    (case n1 => k_is)
    (case l1 => k_is)
    (case c1 => k_is)
    (case k1 => k_is)
    (case n2 => k_is)
    (case l2 => k_is)
    (case c2 => k_is)
    (case k2 => k_is)
    (case n3 => k_is)
    (case l3 => k_is)
    (case c3 => k_is)
    (case k3 => k_is)
    (case n4 => k_is)
    (case l4 => k_is)
    (case c4 => k_is)
    (case k4 => k_is)
    (case n5 => k_is)
    (case l5 => k_is)
    (case c5 => k_is)
    (case k5 => k_is)
    (case n6 => k_is)
    (case i6 => k_is)
    (case l6 => k_is)
    (case c6 => k_is)
    (case k6 => k_is)
    (case n7 => k_is)
    (case i7 => k_is)
    (case l7 => k_is)
    (case c7 => k_is)
    (case k7 => k_is)
    (case n8 => k_is)
    (case i8 => k_is)
    (case l8 => k_is)
    (case c8 => k_is)
    (case k8 => k_is)
    (case n9 => k_is)
    (case i9 => k_is)
    (case l9 => k_is)
    (case c9 => k_is)
    (case k9 => k_is)
    (case n10 => k_is)
    (case i10 => k_is)
    (case l10 => k_is)
    (case c10 => k_is)
    (case k10 => k_is)
    (case n11 => k_is)
    (case i11 => k_is)
    (case l11 => k_is)
    (case c11 => k_is)
    (case k11 => k_is)
    (case n12 => k_is)
    (case l12 => k_is)
    (case c12 => k_is)
    (case k12 => k_is)
    (case n13 => k_is)
    (case l13 => k_is)
    (case c13 => k_is)
    (case k13 => k_is)
    (case n14 => k_is)
    (case l14 => k_is)
    (case c14 => k_is)
    (case k14 => k_is)
    (case n15 => k_is)
    (case l15 => k_is)
    (case c15 => k_is)
    (case k15 => k_is)
    (case n16 => k_is)
    (case l16 => k_is)
    (case c16 => k_is)
    (case k16 => k_is)
    (case n17 => k_is)
    (case l17 => k_is)
    (case c17 => k_is)
    (case k17 => k_is)
    (case n18 => k_is)
    (case l18 => k_is)
    (case c18 => k_is)
    (case k18 => k_is)
    (case n19 => k_is)
    (case l19 => k_is)
    (case c19 => k_is)
    (case k19 => k_is)
    (case n20 => k_is)
    (case l20 => k_is)
    (case c20 => k_is)
    (case k20 => k_is)
    (case n21 => k_is)
    (case l21 => k_is)
    (case c21 => k_is)
    (case k21 => k_is)
    (case n22 => k_is)
    (case l22 => k_is)
    (case c22 => k_is)
    (case k22 => k_is)
    (case n23 => k_is)
    (case l23 => k_is)
    (case c23 => k_is)
    (case k23 => k_is)
    (case pg0 => k_is)
    (case hd0 => k_is)
    (case po0 => k_is)
    (case sa0 => k_is)
    (case mk0 => k_is)
    (case kc0 => k_is)
    (case na0_0 => k_is)
    (case na0_1 => k_is)
    (case ne0 => k_is)
    (case ha0 => k_is)
    (case hm0 => k_is)
    (case hk0 => k_is)
    (case ghn => k_is)
    (case ght => k_is)
    (case z_abs => k_is)
    (case z_all => k_is)
    (case z_bool => k_is)
    (case z_dict => k_is)
    (case z_int => k_is)
    (case z_isinstance => k_is)
    (case z_len => k_is)
    (case z_min => k_is)
    (case z_range => k_is)
    (case z_repr => k_is)
    (case z_sorted => k_is)
    (case z_str => k_is)
    (case z_tuple => k_is)
    (case z_LETTERS => k_is)
