import PyProof.Rows.All
import Wide.All
import OpenK.AllK
import Wide.FinOn
import HandS.ForMost
import HandS.IsInst
import HandS.Sort
import HandS.More
import HandS.TupAny
import HandS.TupMul
import HandS.Walk
import HandS.Evl
import HandS.Wide
import PyProof.ListMulRoad
import PyProof.FactsAll.tuple_2
import HandS.Style
import HandS.SetKeys
import HandS.Conv
import HandS.Rev
import HandS.Iter
import HandS.DictTup
import PyProof.DictMoreH
import HandS.TupLen
import HandS.WordsDict
import HandS.SetBool
import HandS.Strs
import HandS.ForSpec
import KE.OsGo
import Open.SpecLaws
import HandS.ExcValue
import HandS.ExcIs
import HandS.ExcField
import KE.KExcIs
import PySem.Challenge.RW_framemoves_k19_errors_kept
set_option Elab.async false
set_option linter.all false
set_option maxRecDepth 100000
set_option maxHeartbeats 2000000
/-! Fm: defs that are run where nothing is being shown (no guard on the stack), so that repr tells the whole text. -/
namespace Fm
open PySem PySem.Spec PyProof.Rows L2

/-- a def's promise, kept where no guard stands; no exception leaves it -/
structure FnG (P : Program) (w : World) (K : PySem.W.Frag) (mg : Str → Option Value) (bs : Heap) (k : Nat) (f : Addr) (fd : FuncData) (ps : List Str) (sp : Sp) : Prop where
  many : ∀ vs H Q E, sp vs H Q E → vs.length = ps.length
  runs : ∀ (A : Around) (fr : List Env) (s : Shared) (H : Hp) (ar : Args) (us : List Value) (vs : List V) (Q : VK),
    Room k A → A.guards = some [] → Env0 P w K mg bs A fr s H → BindsTo s fd ar (ps.zip us) → Vals vs us → sp vs H Q E0 → codeAny (model P w) A (.call (.ref f) ar) (CR CX0 fr P w H s Q E0) s
section
variable {P : Program} {w : World} {K : PySem.W.Frag} {mg : Str → Option Value} {bs : Heap} {k : Nat}
theorem FnG.of {f : Addr} {fd : FuncData} {ps : List Str} {sp : Sp} (F : FnOk P w K mg bs CX0 k f fd ps sp) : FnG P w K mg bs k f fd ps sp :=
  ⟨F.len, fun A fr s H ar us vs Q r _ e b v h => F.run A fr s H ar us vs Q E0 r e b v h⟩
/-- the rule for such a def -/
theorem fnG {x qual : Str} {st : Stmt} {f : Addr} {fd : FuncData} {N ps : List Str} {sp : Sp} (F : Fun K x qual st f fd) (S : FnScope N ps (defScope st)) (len : ∀ vs H Q E, sp vs H Q E → vs.length = ps.length)
    (body : ∀ (cdv : Value) (A : Around) (fr : List Env) (s : Shared) (H : Hp) (vs : List V) (Q : VK), A.guards = some [] → Room k (A.deeper (envOfC qual (defScope st) s.heap.objs.size f cdv)) → sp vs H Q E0 →
      ∃ t, PSs (cxOf CX0 P w K mg bs N qual (defScope st) f cdv A fr s H E0).nox (defBody st) t ∧ t { nx := fun _ H' => Q .non H', rt := Q } (start N vs) H) : FnG P w K mg bs (k + 1) f fd ps sp := by
  obtain ⟨oc, od, kV, doc, pm, an, cdv, ct, osl, rfl, lk, hcd⟩ := F.ex
  refine ⟨len, ?_⟩
  intro A fr s H ar us vs Q room gd env bound rel hyp
  have nvs := len _ _ _ _ hyp
  have kin : K.In s.heap := env.mod.kin.keeps (fun b o q => (env.bs b o q).1)
  have nl : s.heap.NoLimit := env.mod.nolimit.keeps (fun b o q => (env.bs b o q).1)
  have kinds : ∀ y ∈ ps.zip us, (defScope st).names.lookup y.1 = some .local ∨ ((defScope st).names.lookup y.1 = some .cell ∧
      ((cellsFrom (s.heap.objs.size + 1) (defScope st).names []).lookup y.1).isSome = true) := by
    rintro ⟨n, v⟩ hy
    have hp := S.par n (List.of_mem_zip hy).1
    cases hp with
    | inl q => exact Or.inl q
    | inr q => exact Or.inr ⟨q, PySem.W.cellsFrom_some _ _ _ (Or.inl q)⟩
  refine codeAny_call_function room.depth (kin _ _ lk) rfl S.co S.gen rfl (PySem.W.codeRec_of kin hcd) (bound _ _ _ _ ?_)
  refine wpAny_newFunctionEnv_cells S.kind kinds fun env1 he s1 x1 => ?_
  subst he
  refine ⟨nl.keeps x1.toInCall.keep, codeAny_func ?_⟩
  obtain ⟨t, ht, hq⟩ := body cdv A fr s H vs Q gd (room.deeper _) hyp
  have J := inv_start (CX := CX0) (E := E0) S room.hd env nvs rel x1
  refine wpAny_mono (ht.nox.run [] s1 (start N vs) H _ J hq) (fun fl s' hs => ?_) (fun _ _ z => z)
  cases fl with
  | ret u =>
    obtain ⟨v, σ', H', J2, rv, q⟩ := hs
    exact ⟨v, H', J2.os, J2.bare, J2.base, J2.hok, rv, q⟩
  | next =>
    obtain ⟨σ', H', J2, q⟩ := hs
    exact ⟨V.non, H', J2.os, J2.bare, J2.base, J2.hok, rfl, q⟩
  | brk =>
    obtain ⟨_, _, _, q⟩ := hs
    exact q.elim
  | cont =>
    obtain ⟨_, _, _, q⟩ := hs
    exact q.elim
end
section
variable {X : Cx} {k : Nat} {f : Addr} {fd : FuncData} {ps : List Str} {sp : Sp} {x : Str} {p pos : Pos} {e : Expr} {es : List Expr} {t : TA}
theorem goG {pins : List (Addr × Obj)} {σ : L2.St} {H : Hp} {s : Shared} {Q : VK} {us : List Value} {vs : List V} (F : FnG X.prog X.w X.K X.mg X.base k f fd ps sp) (hr : Room k X.A) (gd : X.A.guards = some []) (hb : Binds X.K fd ps [])
    (I : Inv X pins σ H s) (r : Vals vs us) (h : sp vs H Q E0) : wpAny (model X.prog X.w) X.A (call (.ref f) us) (EP X pins σ Q) X.xe s := by
  have n1 := F.many _ _ _ _ h
  have n2 : (us ++ []).length = ps.length := by rw [List.append_nil, ← r.length, n1]
  have b1 := hb s us I.kIn n2
  rw [List.append_nil] at b1
  refine wpAny_call (codeAny_mono (F.runs X.A X.stack s H ⟨us, []⟩ us vs Q hr gd I.env0 b1 r h) fun res s' hq => ?_)
  cases res with
  | error e => exact False.elim hq
  | ok fl =>
    cases fl with
    | ret u => exact I.after hq
    | next => exact False.elim hq
    | brk => exact False.elim hq
    | cont => exact False.elim hq
/-- f(e, ..) -/
theorem pe_callG (F : FnG X.prog X.w X.K X.mg X.base k f fd ps sp) (hr : Room k X.A) (gd : X.A.guards = some []) (hg : Gl X x) (hm : X.mg x = some (.ref f)) (kp : PySem.W.keepIn X.K (.ref f) = true) (hb : Binds X.K fd ps [])
    (ha : PA X (e :: es) t) (n0 : (x == ("__debug__" : Str)) = false := by decide) (n1 : starEach (e :: es) X.env = (false, eval e X.env) :: starEach es X.env := by rfl) (n2 : (backTo pos (starEach es X.env)).any (·.1) = false := by rfl) :
    PE X (.Call (.Name x p) (e :: es) [] pos) (fun σ H Q => t σ H fun vs H1 => sp vs H1 Q E0) := by
  constructor
  intro pins s σ H Q I h
  refine wpAny_Call_Name_kw (ld_glob I hg hm ?_ n0)
  refine PySem.W.callWith_K (h₀ := X.base) I.ok.mod.kin kp (thn (ha.run pos pins s σ H _ I h) ?_) n1 n2
  rintro us s1 ⟨vs, H1, I1, r, q⟩
  exact ⟨I1.kIn, goG F hr gd hb I1 r q⟩
end

/-! ### the end of a law's row, for a def that is run where no guard stands -/
section
variable {P : Program} {w : World} {K : PySem.W.Frag} {mg mb : Str → Option Value} {k : Nat}
theorem lawG {fa a : Addr} {fd : FuncData} {x : Str} {sp : Sp} {s1 : Shared} {vs : List Value} {ns : List Int}
    (kin : K.In s1.heap) (g0 : s1.heap.Ns mainGlobals mg) (g1 : s1.heap.Ns builtinsNs mb) (g2 : ∀ y : Str, y ≠ "__name__" → mb y = bootBuiltins y) (nl : s1.heap.NoLimit) (gens : s1.gens = #[])
    (obj : s1.heap.get? a = some { cls := .type "list", data := .seq vs.toArray }) (hin : IntsAre vs ns) (len : ns.length ≤ sizeLine) (room : Room k callerA)
    (F : ∀ bs : Heap, K.In bs → bs.Ns mainGlobals mg → FnG P w K mg bs k fa fd [x] sp) (bound : ∀ (s : Shared) (u : Value), BindsTo s fd ⟨[u], []⟩ [(x, u)])
    (hsp : ∀ H : Hp, SqL K H a (ns.map V.int) → sp [.ref a] H (fun v _ => v = .bl true) E0) :
    codeAny (model P w) callerA (.call (.ref fa) ⟨[.ref a], []⟩) (fun r s' => r = .ok (.ret (.bool true)) ∧ OldK s1.heap s'.heap ∧ s'.os = s1.os ∧ AllBare s'.gens) s1 := by
  have rv := vals_ints hin
  have nvs := hin.length
  -- over any abstract heap that tracks at most the script, frozen
  have main : ∀ H : Hp, (∀ b, H b = none ∨ ∃ o xs, H b = some (.frz o (.lst xs))) → SqL K H a (ns.map V.int) → HOk P w H s1.heap → (∀ b, H b ≠ none → b = a) → (H a ≠ none → K.lookup a = none) →
      codeAny (model P w) callerA (.call (.ref fa) ⟨[.ref a], []⟩) (fun r s' => r = .ok (.ret (.bool true)) ∧ OldK s1.heap s'.heap ∧ s'.os = s1.os ∧ AllBare s'.gens) s1 := by
    intro H only hS hok hA hK
    have hid : ∀ {b : Addr} {o : Obj}, s1.heap.get? b = some o → H b = none → (hidT s1.heap H).get? b = some o := fun q n => hidT_get q n
    have dicts : ∀ {b : Addr} {o : Obj} {es : Array DictEntry} {ep : Nat}, s1.heap.get? b = some o → o.data = .dict es ep → H b = none := by
      intro b o es ep q d
      cases z : H b with
      | none => rfl
      | some u =>
        have eb : b = a := hA b (by rw [z]; exact fun y => nomatch y)
        rw [eb, obj] at q
        cases q
        exact nomatch (show Data.seq vs.toArray _ = Data.dict es ep from d)
    have nss : ∀ {b : Addr} {m : Str → Option Value}, s1.heap.Ns b m → (hidT s1.heap H).Ns b m := by
      rintro b m ⟨o, es, ep, q, d, r⟩
      exact ⟨o, es, ep, hid q (dicts q d), d, r⟩
    have kinH : K.In (hidT s1.heap H) := by
      intro b o q
      refine hid (kin b o q) ?_
      cases z : H b with
      | none => rfl
      | some u =>
        have eb : b = a := hA b (by rw [z]; exact fun y => nomatch y)
        subst eb
        rw [hK (by rw [z]; exact fun y => nomatch y)] at q
        cases q
    have hM : Mod K mg (hidT s1.heap H) := by
      obtain ⟨mc, h1, h2⟩ := nl
      exact ⟨kinH, nss g0, ⟨mb, nss g1, g2⟩, ⟨mc, nss h1, h2⟩⟩
    have env : Env0 P w K mg (hidT s1.heap H) callerA [] s1 H :=
      ⟨rfl, hM, fun b o q => of_hidT q, Nat.le_of_eq (hidT_size _ _), trivial, fun b hb => (by simp [frs] at hb), hok, .of_eq gens⟩
    have fin := (F _ kinH (nss g0)).runs callerA [] s1 H ⟨[.ref a], []⟩ [.ref a] [.ref a] _ room rfl env (bound s1 (.ref a)) (.cons rfl .nil) (hsp H hS)
    refine codeAny_mono fin fun r s' h => ?_
    match r, h with
    | .ok (.ret u), h =>
      obtain ⟨v, H', os, bare, un, hok', r', q⟩ := h
      have q' : v = .bl true := q
      subst q'
      obtain rfl : u = Value.bool true := r'
      refine ⟨rfl, OldK.of_keep (fun b o e => ?_), os, bare⟩
      cases z : H b with
      | none => exact un.keep b o e z (by simp [frs]) (by simp)
      | some y =>
        rcases only b with z1 | ⟨ob, xs, z1⟩
        · rw [z] at z1
          cases z1
        · have e1 := (hok b _ z1).1
          have e2 := (hok' b _ (un.frzs b ob _ z1)).1
          rw [e] at e1
          cases e1
          exact e2
  cases hk : K.lookup a with
  | some o =>
    have e := kin a o hk
    rw [obj] at e
    cases e
    refine main (fun _ => none) (fun _ => Or.inl rfl) (Or.inr ⟨_, vs.toArray, _, hk, rfl, rfl, rfl, ?_, ?_⟩) (fun b u z => nomatch z) (fun b z => absurd rfl z) (fun z => absurd rfl z)
    · rw [List.size_toArray, nvs]
      exact len
    · simpa using rv
  | none =>
    refine main (fun b => if b = a then some (.frz { cls := .type "list", data := .seq vs.toArray } (.lst (ns.map V.int))) else none) ?_ ?_ ?_ ?_ (fun _ => hk)
    · intro b
      by_cases hb : b = a
      · exact Or.inr ⟨_, _, if_pos hb⟩
      · exact Or.inl (if_neg hb)
    · exact Or.inl (Or.inr ⟨{ cls := .type "list", data := .seq vs.toArray }, if_pos rfl⟩)
    · intro b u z
      by_cases hb : b = a
      · have z1 := (if_pos hb).symm.trans z
        cases z1
        rw [hb]
        exact ⟨obj, by rw [List.length_map]; exact len, vs, _, rv, obj⟩
      · have z1 := (if_neg hb).symm.trans z
        cases z1
    · intro b z
      by_cases hb : b = a
      · exact hb
      · exact absurd (if_neg hb) z
end
theorem walkG {l : PySem.W.OpenLaw} {n k : Nat} {q : Program} {loose : List Str} {XP : (Str → Option Value) → Heap → Prop} {YP : World → Heap → Prop} {d : DefRec} {K : Params → PySem.W.Frag} {sp : World → Sp} {x : Str}
    (hn : l.most = some n) (n2 : n ≤ sizeLine) (hdf : d.params.defaults = []) (room : Room k callerA) (hY : ∀ (w : World) (h : Heap), YP w h → (K w.params).In h)
    (F : ∀ (w : World) (mg : Str → Option Value) (fa : Addr) (h : Heap), (K w.params).In h → h.Ns mainGlobals mg → mg d.name = some (.ref fa) →
      ∃ fd : FuncData, (∀ (s : Shared) (u : Value), BindsTo s fd ⟨[u], []⟩ [(x, u)]) ∧ ∀ bs : Heap, (K w.params).In bs → bs.Ns mainGlobals mg → FnG l.prog w (K w.params) mg bs k fa fd [x] (sp w))
    (hsp : ∀ (w : World) (H : Hp) (a : Addr) (ns : List Int), ns.length ≤ n → SqL (K w.params) H a (ns.map V.int) → sp w [.ref a] H (fun v _ => v = .bl true) E0) :
    PySem.W.WalkO q loose XP YP l.row.toRowW d [] (fun f vs => PySem.call f vs) := by
  refine Att.attach_call hn hdf ?_
  intro w s0 s1 mg mb fa o pm cd doc a vs ns G Y ho hd hcd hmg hobj hints hlen hg
  obtain ⟨fd, hb, hF⟩ := F w mg fa _ (hY w _ Y) G.T.g hmg
  exact lawG (hY w _ Y) G.T.g G.T.b G.T.builtins G.T.nolimit hg hobj hints (Nat.le_trans hlen n2) room hF hb (fun H hS => hsp w H a ns hlen hS)

/-! ### repr of data -/
section
variable {X : Cx}
def rRepr (K : PySem.W.Frag) : List V → Hp → VK → Prop := fun vs H Q => ∃ v d, vs = [v] ∧ Dp K H v d ∧ d.showable = true ∧ d.hasDict = false ∧ d.depth ≤ 60 ∧ d.shown.length ≤ sizeLine ∧ Q (.str d.shown) H
theorem call_repr {k : Nat} (hr : Room k X.A) (gd : X.A.guards = some []) : CallR X (.builtin "repr") (rRepr X.K) := by
  intro pins s σ H xs us Q I r h
  obtain ⟨v, d, rfl, hd, hs, hn, hz, hl, q⟩ := h
  obtain ⟨u, rfl, ru⟩ := r.one
  obtain ⟨as, rd⟩ := Dp.reads I d v u hd ru
  have hu := hr.units
  have done : ∀ (tk : Tok) (t : Nat), EP X pins σ Q (.str d.shown tk) { s with toks := t } := fun tk t => ⟨.str d.shown, H, I.tok _, ⟨_, rfl⟩, q⟩
  cases hd with
  | non =>
    cases ru
    exact PySem.P.repr_of_none (done _ _)
  | bl b => cases b <;> (cases ru; exact PySem.P.repr_of_bool (done _ _))
  | int i =>
    obtain ⟨t, rfl⟩ := ru
    exact PySem.P.repr_of_int (by simpa [PyData.showable] using hs) (done _ _)
  | str z =>
    obtain ⟨t, rfl⟩ := ru
    exact PySem.P.repr_of_str (done _ _) hl
  | lst a b =>
    cases ru
    refine repr_of_reads' rd hs (PyData.noDict_hsm hn) gd (by omega) (fun _ _ e => e) (fun h' u tk hk => ?_) hl
    exact ⟨.str _, H, I.un (t' := tk) (Un.kept hk) (I.hok.kept hk), ⟨u, rfl⟩, q⟩
  | tup a b =>
    cases ru
    refine repr_of_reads' rd hs (PyData.noDict_hsm hn) gd (by omega) (fun _ _ e => e) (fun h' u tk hk => ?_) hl
    exact ⟨.str _, H, I.un (t' := tk) (Un.kept hk) (I.hok.kept hk), ⟨u, rfl⟩, q⟩
end

/-! ### further rules -/

theorem ext_tup (l : Addr) (xs : Array Value) (n : Nat) (b : Addr) (ys : Array Value) (m : Nat) (dd : Option Addr) (sl : Array (Option Value)) (c0 : ¬ (!xs.isEmpty && Builtin.List.listTooLong (xs.size + ys.size)) = true) (c1 : xs.size ≤ sizeLine)
    (c2 : xs.size + ys.size ≤ sizeLine + 1) :
    Meets (Builtin.«list.extend» ⟨[.ref l, .ref b], []⟩) (fun _ R s => s.heap.get? l = some { cls := .type "list", data := .seq xs n } ∧ s.heap.get? b = some { cls := .type "tuple", dict := dd, data := .seq ys m, slots := sl } ∧
      R (.ok (.ret Value.none)) { s with heap := s.heap.update l (Obj.mapSeq fun z => z ++ ys), toks := s.toks }) :=
  .of_wp fun prog w A R s h => by
    obtain ⟨hp, g, d, tk, os⟩ := s
    obtain ⟨hl, hb, h⟩ := h
    have i1 := AutoSeq1.idx_int
    have i2 := AutoSeq1.sub_tuple_tuple
    have i3 := AutoSeq1.sub_list_list
    have i4 := AutoSeq1.sub_tuple_list
    have i5 := AutoSeq1.sub_list_tuple
    have zz : (xs ++ ys).size ≤ sizeLine + 1 := by
      rw [Array.size_append]
      exact c2
    wp_walk using (wpAny_updateSeq hl rfl (hz := c1) (_hz' := zz)), wpAny_loadPart' hl, wpAny_loadPart' hb
    exact ⟨_, rfl, h⟩
section
variable {X : Cx}
/-- xs.extend(t), t a tuple -/
def rExtT (K : PySem.W.Frag) : V → List V → Hp → VK → Prop := fun x vs H Q => ∃ l b xs zs, x = .ref l ∧ vs = [.ref b] ∧ H l = some (.lst xs) ∧ SqT K H b zs ∧ xs.length + zs.length ≤ sizeLine ∧ Q .non (upd H l (.lst (xs ++ zs)))
theorem mt_extT : MtM X "list.extend" (rExtT X.K) := by
  intro pins s σ H x vs v us Q I rx rv h
  obtain ⟨l, b, xs, zs, rfl, rfl, hH, hB, hz, q⟩ := h
  cases rx
  obtain ⟨u, rfl, ru⟩ := rv.one
  cases ru
  obtain ⟨z, i1, n, r1, l1, e1⟩ := I.lstM hH
  obtain ⟨i2, r2, ⟨⟨cls, dd, data, sl⟩, e2, c2, n2, d2⟩, _⟩ := I.tuple hB
  simp only at c2 d2
  subst c2 d2
  have l2 := r2.length
  have sz : i1.toArray.size + i2.toArray.size ≤ sizeLine := by
    rw [List.size_toArray, List.size_toArray]
    omega
  have long : ¬ (!i1.toArray.isEmpty && Builtin.List.listTooLong (i1.toArray.size + i2.toArray.size)) = true := by
    rw [notLongL sz, Bool.and_false]
    exact Bool.false_ne_true
  refine call_meets F.slot_list_extend ⟨_, e1, rfl⟩ F.entry_list_extend (F.args_list_extend_2 _ _) (ext_tup l i1.toArray n b i2.toArray n2 dd sl long (by rw [List.size_toArray]; omega) (by omega)) ⟨e1, e2, ?_⟩
  refine ⟨.non, _, I.lset (its' := i1 ++ i2) hH e1 (by simp) (r1.append r2) ?_, rfl, q⟩
  rw [List.length_append]
  omega

/-- xs[i] as it is read by xs[i] op= e -/
def gL (K : PySem.W.Frag) : V → V → Hp → VK → Prop := fun x y H Q => ∃ l xs i v, x = .ref l ∧ y = .int i ∧ H l = some (.lst xs) ∧ 0 ≤ i ∧ xs[i.toNat]? = some v ∧ Q v H
theorem pg_list : PGet X (gL X.K) := by
  intro pins s σ H o i ov iv Q I ro ri h
  obtain ⟨l, xs, j, v, rfl, rfl, hH, h0, hv, q⟩ := h
  cases ro
  obtain ⟨t, rfl⟩ := ri
  obtain ⟨z, i1, n, r1, l1, e1⟩ := I.lstM hH
  obtain ⟨u, hu, ru⟩ := r1.get hv
  have lt := (List.getElem?_eq_some_iff.mp hv).1
  have b1 : (2 : Int) ^ 63 = 9223372036854775808 := by decide
  have b2 := sizeLine_eq
  exact wpAny_getItem_list ⟨_, e1, rfl, _, rfl⟩ h0 (by omega) (by simpa using hu) ⟨v, H, I, ru, q⟩

/-- i not in range(a, b) -/
theorem op_ni_rng : OpR X (compareOp .NotIn) (fun x y H Q => ∃ i a lo hi, x = V.int i ∧ y = V.ref a ∧ H a = some (.rng lo hi) ∧ Q (.bl (!decide (lo ≤ i ∧ i < hi))) H) := by
  intro pins s σ H x y v u Q I rx ry h
  obtain ⟨i, a, lo, hi, rfl, rfl, ha, q⟩ := h
  obtain ⟨k, rfl⟩ := rx
  cases (show u = Value.ref a from ry)
  obtain ⟨t1, t2, t3, ho⟩ := I.hok a _ ha
  have e1 : s.TypeIs (.ref a) "range" := ⟨_, ho, rfl⟩
  show wpAny _ _ (do return Value.bool (!(← contains (Value.ref a) (Value.int i k)))) _ _ s
  refine wpAny_bind (wpAny_contains_slot e1 F.slot_range_contains (call_meets F.slot_range_contains e1 F.entry_range_contains (F.args_range_contains_2 _ _) (q_contains a lo hi i t1 t2 t3 k) ⟨ho, wpAny_truthy_bool (wpAny_pure ?_)⟩))
  refine ⟨.bl _, H, I, rfl, ?_⟩
  rw [place1]
  exact q
/-- is not True, is not False, of an int or a bool -/
def rNotB2 : R2 := fun x y H Q => ∃ b : Bool, y = .bl b ∧ ((∃ i, x = .int i) ∨ ∃ a, x = .bl a) ∧ Q (.bl (!decide (x = y))) H
theorem op_notB2 : OpR X (compareOp .IsNot) rNotB2 := by
  intro pins s σ H x y v u Q I rx ry h
  obtain ⟨b, rfl, hx, q⟩ := h
  cases (show u = Value.bool b from ry)
  rcases hx with ⟨i, rfl⟩ | ⟨a, rfl⟩
  · obtain ⟨t, rfl⟩ := rx
    refine wpAny_isNot_other rfl (fun z => nomatch z) ⟨.bl true, H, I, rfl, ?_⟩
    simpa using q
  · cases (show v = Value.bool a from rx)
    by_cases e : a = b
    · subst e
      exact wpAny_isNot_self rfl ⟨.bl false, H, I, rfl, by simpa using q⟩
    · exact wpAny_isNot_other rfl (fun z => e (Value.bool.inj z)) ⟨.bl true, H, I, rfl, by simpa [e] using q⟩
end
end Fm
namespace Fm
open PySem PySem.Spec PyProof.Rows L2
theorem tupN_fill : fillsNumberSlot (.type "tuple") "mul" = pure false :=
  PySem.fillsNumberSlot_seq (id := "tuple.__mul__") (r := some (.builtin "tuple.__rmul__")) PySem.F.slot_tuple_mul.lookup (by decide +kernel)
    PySem.F.slot_tuple_rmul.lookup (by decide +kernel)
theorem tupN_rep : seqRepeat? (.type "tuple") = pure (some (.builtin "tuple.__mul__")) := by
  unfold seqRepeat?
  rw [PySem.seqSlot_of (T := "tuple") (name := "__mul__") (id := "tuple.__mul__") PySem.F.slot_tuple_mul.lookup (by decide +kernel)]
  rw [PySem.seqSlot_of (T := "tuple") (name := "__rmul__") (id := "tuple.__rmul__") PySem.F.slot_tuple_rmul.lookup (by decide +kernel)]
  rfl
theorem tupN_int (i : Int) (u : Tok) (b : Addr) (xs : Array Value) (n : Nat) (dd : Option Addr) (sl : Array (Option Value)) :
    Meets (Builtin.«int.__rmul__» ⟨[.int i u, .ref b], []⟩) (fun _ R s => s.heap.get? b = some { cls := .type "tuple", dict := dd, data := .seq xs n, slots := sl } ∧ R (.ok (.ret Value.notImplemented)) s) :=
  .of_wp fun prog w A R s h => by
    obtain ⟨hp, g, d, tk, os⟩ := s
    obtain ⟨hl, h⟩ := h
    wp_walk using wpAny_loadPart' hl
    exact ⟨_, rfl, h⟩
/-- t * 1 is t -/
theorem tupN_one (b : Addr) (xs : Array Value) (n : Nat) (dd : Option Addr) (sl : Array (Option Value)) (u : Tok) :
    Meets (Builtin.«tuple.__mul__» ⟨[.ref b, .int 1 u], []⟩) (fun _ R s => s.heap.get? b = some { cls := .type "tuple", dict := dd, data := .seq xs n, slots := sl } ∧ R (.ok (.ret (.ref b))) s) :=
  .of_wp fun prog w A R s h => by
    obtain ⟨hp, g, d, tk, os⟩ := s
    obtain ⟨hl, h⟩ := h
    have f1 := AutoSeq1.idx_int
    wp_walk using wpAny_loadPart' hl
    exact ⟨_, rfl, h⟩
/-- t * 0 is a new empty tuple -/
theorem tupN_zero (b : Addr) (xs : Array Value) (n : Nat) (dd : Option Addr) (sl : Array (Option Value)) (u : Tok) (hx : xs.isEmpty = false) :
    Meets (Builtin.«tuple.__mul__» ⟨[.ref b, .int 0 u], []⟩) (fun _ R s => s.heap.get? b = some { cls := .type "tuple", dict := dd, data := .seq xs n, slots := sl } ∧
      R (.ok (.ret (Value.ref s.heap.objs.size))) { s with heap := s.heap.push { cls := Value.type "tuple", data := Data.seq #[] }, toks := s.toks }) :=
  .of_wp fun prog w A R s h => by
    obtain ⟨hp, g, d, tk, os⟩ := s
    obtain ⟨hl, h⟩ := h
    have f1 := AutoSeq1.idx_int
    wp_walk using wpAny_loadPart' hl
    exact ⟨_, rfl, h⟩
section
variable {X : Cx}
/-- t * k, t one item, k 0 or 1 -/
def rRep1 (K : PySem.W.Frag) : R2 := fun x y H Q => ∃ l k v, x = .ref l ∧ y = .int k ∧ SqT K H l [v] ∧ (k = 0 ∨ k = 1) ∧ (k = 0 → ∀ p, H p = none → Q (.ref p) (upd H p (.tup []))) ∧ (k = 1 → Q (.ref l) H)
theorem op_rep1 : OpR X (binaryOp .Mult) (rRep1 X.K) := by
  intro pins s σ H x y v u Q I rx ry h
  obtain ⟨l, k, w1, rfl, rfl, hT, hk, q0, q1⟩ := h
  cases rx
  obtain ⟨t, rfl⟩ := ry
  obtain ⟨its, r, ⟨⟨cls, dd, data, sl⟩, ho, hc, n, hd⟩, hs⟩ := I.tuple hT
  simp only at hc hd
  subst hc hd
  have ne : its.toArray.isEmpty = false := by
    cases r with
    | cons r1 r2 => rfl
  have ty : s.TypeIs (.ref l) "tuple" := ⟨_, ho, rfl⟩
  rcases hk with rfl | rfl
  · refine wpAny_binaryOp_repeat_ref (T := "tuple") (U := "int") (by decide) ty (fun s' => typeIs_int s' 0 t) tupN_fill F.fills_int_mul F.slot_int_rmul tupN_rep F.slot_int_index.lookup
      (call_meets F.slot_int_rmul (typeIs_int s 0 t) F.entry_int_rmul (F.args_int_rmul_2 _ _) (tupN_int 0 t l its.toArray n dd sl) ⟨ho, rfl, ty, ?_⟩)
    refine call_meets F.slot_tuple_mul ty F.entry_tuple_mul (F.args_tuple_mul_2 _ _) (tupN_zero l its.toArray n dd sl t ne) ⟨ho, ?_⟩
    refine ⟨.ref s.heap.objs.size, _, I.laid (t' := s.toks) (o := .tup []) (fun b ob q => Heap.get?_push_of_some _ q) (Nat.le_refl _) ?_, rfl, q0 rfl _ (I.hok.fresh (Nat.le_refl _))⟩
    exact ⟨Nat.zero_le _, [], .nil, IsTup.new _ _⟩
  · refine wpAny_binaryOp_repeat_ref (T := "tuple") (U := "int") (by decide) ty (fun s' => typeIs_int s' 1 t) tupN_fill F.fills_int_mul F.slot_int_rmul tupN_rep F.slot_int_index.lookup
      (call_meets F.slot_int_rmul (typeIs_int s 1 t) F.entry_int_rmul (F.args_int_rmul_2 _ _) (tupN_int 1 t l its.toArray n dd sl) ⟨ho, rfl, ty, ?_⟩)
    exact call_meets F.slot_tuple_mul ty F.entry_tuple_mul (F.args_tuple_mul_2 _ _) (tupN_one l its.toArray n dd sl t) ⟨ho, ⟨.ref l, H, I, rfl, q1 rfl⟩⟩
end
end Fm
set_option maxRecDepth 100000
set_option maxHeartbeats 2000000
/-! Fm: values that a law makes, as trees over the abstract heap. -/
namespace Fm
open PySem PySem.Spec PyProof.Rows L2

inductive D where
  | non | bl (b : Bool) | int (i : Int) | str (x : Str) | tup (xs : List D) | lst (xs : List D) | dic
mutual
inductive Dv (H : Hp) : V → D → Prop
  | non : Dv H .non .non
  | bl (b : Bool) : Dv H (.bl b) (.bl b)
  | int (i : Int) : Dv H (.int i) (.int i)
  | str (x : Str) : PyData.strOk x = true → Dv H (.str x) (.str x)
  | tup {a : Addr} {xs : List V} {ds : List D} : H a = some (.tup xs) → DvL H xs ds → Dv H (.ref a) (.tup ds)
  | lst {a : Addr} {xs : List V} {ds : List D} : H a = some (.lst xs) → DvL H xs ds → Dv H (.ref a) (.lst ds)
  | dic {a : Addr} : H a = some (.dK []) → Dv H (.ref a) .dic
inductive DvL (H : Hp) : List V → List D → Prop
  | nil : DvL H [] []
  | cons {v : V} {vs : List V} {d : D} {ds : List D} : Dv H v d → DvL H vs ds → DvL H (v :: vs) (d :: ds)
end
mutual
theorem Dv.same {H H' : Hp} (k : Same H H') : ∀ (d : D) (v : V), Dv H v d → Dv H' v d
  | .non, _, h => by cases h; exact .non
  | .bl _, _, h => by cases h; exact .bl _
  | .int _, _, h => by cases h; exact .int _
  | .str _, _, h => by
    cases h with
    | str _ o => exact .str _ o
  | .tup ds, _, h => by
    cases h with
    | tup a b => exact .tup (k _ _ a) (DvL.same k ds _ b)
  | .lst ds, _, h => by
    cases h with
    | lst a b => exact .lst (k _ _ a) (DvL.same k ds _ b)
  | .dic, _, h => by
    cases h with
    | dic a => exact .dic (k _ _ a)
theorem DvL.same {H H' : Hp} (k : Same H H') : ∀ (ds : List D) (vs : List V), DvL H vs ds → DvL H' vs ds
  | [], _, h => by cases h; exact .nil
  | d :: ds, _, h => by
    cases h with
    | cons a b => exact .cons (Dv.same k d _ a) (DvL.same k ds _ b)
end
theorem DvL.len {H : Hp} : ∀ {vs : List V} {ds : List D}, DvL H vs ds → vs.length = ds.length
  | _, _, .nil => rfl
  | _, _, .cons _ h => congrArg (· + 1) (DvL.len h)
theorem DvL.app {H : Hp} : ∀ {vs : List V} {ds : List D} {us : List V} {es : List D}, DvL H vs ds → DvL H us es → DvL H (vs ++ us) (ds ++ es)
  | _, _, _, _, .nil, h => h
  | _, _, _, _, .cons a b, h => .cons a (DvL.app b h)
theorem DvL.get {H : Hp} : ∀ {vs : List V} {ds : List D} {i : Nat} {v : V}, DvL H vs ds → vs[i]? = some v → ∃ d, ds[i]? = some d ∧ Dv H v d
  | _, _, _, _, .nil, e => by simp at e
  | _, _, 0, _, .cons a b, e => by simp at e; subst e; exact ⟨_, rfl, a⟩
  | _, _, i + 1, _, .cons a b, e => by
    obtain ⟨d, h1, h2⟩ := DvL.get (i := i) b (by simpa using e)
    exact ⟨d, by simpa using h1, h2⟩
theorem DvL.getD {H : Hp} : ∀ {vs : List V} {ds : List D} {i : Nat} {d : D}, DvL H vs ds → ds[i]? = some d → ∃ v, vs[i]? = some v ∧ Dv H v d
  | _, _, _, _, .nil, e => by simp at e
  | _, _, 0, _, .cons a b, e => by simp at e; subst e; exact ⟨_, rfl, a⟩
  | _, _, i + 1, _, .cons a b, e => by
    obtain ⟨d, h1, h2⟩ := DvL.getD (i := i) b (by simpa using e)
    exact ⟨d, by simpa using h1, h2⟩
theorem DvL.drop {H : Hp} : ∀ {vs : List V} {ds : List D} (n : Nat), DvL H vs ds → DvL H (vs.drop n) (ds.drop n)
  | _, _, 0, h => h
  | _, _, _ + 1, .nil => .nil
  | _, _, n + 1, .cons _ h => DvL.drop n h
theorem DvL.take {H : Hp} : ∀ {vs : List V} {ds : List D} (n : Nat), DvL H vs ds → DvL H (vs.take n) (ds.take n)
  | _, _, 0, _ => .nil
  | _, _, _ + 1, .nil => .nil
  | _, _, n + 1, .cons a h => .cons a (DvL.take n h)
theorem DvL.set {H : Hp} {v : V} {d : D} (a : Dv H v d) : ∀ {vs : List V} {ds : List D} (n : Nat), DvL H vs ds → DvL H (vs.set n v) (ds.set n d)
  | _, _, _, .nil => .nil
  | _, _, 0, .cons _ h => .cons a h
  | _, _, n + 1, .cons b h => .cons b (DvL.set a n h)

/-! ### sizes, depths -/
mutual
def D.size : D → Nat
  | .str x => x.length + 1
  | .tup ds => sizes ds + 1
  | .lst ds => sizes ds + 1
  | _ => 1
def sizes : List D → Nat
  | [] => 0
  | d :: ds => d.size + sizes ds
end
mutual
def D.deep : D → Nat
  | .tup ds => deeps ds + 1
  | .lst ds => deeps ds + 1
  | _ => 0
def deeps : List D → Nat
  | [] => 0
  | d :: ds => max d.deep (deeps ds)
end
theorem sizes_app (a b : List D) : sizes (a ++ b) = sizes a + sizes b := by
  induction a with
  | nil => simp [sizes]
  | cons x r ih => simp only [List.cons_append, sizes, ih]; omega
theorem size_pos (d : D) : 1 ≤ d.size := by cases d <;> simp [D.size]
theorem len_sizes (ds : List D) : ds.length ≤ sizes ds := by
  induction ds with
  | nil => simp [sizes]
  | cons x r ih => have := size_pos x; simp only [List.length_cons, sizes]; omega
theorem sizes_drop (ds : List D) (n : Nat) : sizes (ds.drop n) ≤ sizes ds := by
  induction ds generalizing n with
  | nil => simp
  | cons x r ih =>
    cases n with
    | zero => simp
    | succ n => have := ih n; simp only [List.drop_succ_cons, sizes]; omega
theorem size_mem {d : D} {ds : List D} (h : d ∈ ds) : d.size ≤ sizes ds := by
  induction ds with
  | nil => cases h
  | cons x r ih =>
    simp only [sizes]
    rcases List.mem_cons.mp h with rfl | h
    · omega
    · have := ih h; omega
theorem deep_mem {d : D} {ds : List D} (h : d ∈ ds) : d.deep ≤ deeps ds := by
  induction ds with
  | nil => cases h
  | cons x r ih =>
    simp only [deeps]
    rcases List.mem_cons.mp h with rfl | h
    · omega
    · have := ih h; omega

/-! ### kinds -/
def tyN : D → String
  | .non => "NoneType" | .bl _ => "bool" | .int _ => "int" | .str _ => "str" | .tup _ => "tuple" | .lst _ => "list" | .dic => "dict"
theorem Dv.ty {K : PySem.W.Frag} {H : Hp} {v : V} {d : D} (h : Dv H v d) : TyX K H v (.type (tyN d)) := by
  cases h with
  | non => exact .base .non
  | bl b => exact .base (.bl b)
  | int i => exact .base (.int i)
  | str x _ => exact .base (.str x)
  | tup a _ => exact .base (.tup a)
  | lst a _ => exact .base (.lst a)
  | dic a => exact .base (.dK a)
def isI : D → Bool
  | .int _ => true | .bl _ => true | _ => false
def isB : D → Bool
  | .bl _ => true | _ => false
def isS : D → Bool
  | .str _ => true | _ => false
def isT : D → Bool
  | .tup _ => true | _ => false
def isL : D → Bool
  | .lst _ => true | _ => false
section
variable {K : PySem.W.Frag} (d : D)
theorem kit_I : PySem.W.kitOne K (.type (tyN d)) (.type "int") = some (isI d) := by cases d <;> exact kit_ty (by simp only [tyN, isI]; decide +kernel)
theorem kit_B : PySem.W.kitOne K (.type (tyN d)) (.type "bool") = some (isB d) := by cases d <;> exact kit_ty (by simp only [tyN, isB]; decide +kernel)
theorem kit_S : PySem.W.kitOne K (.type (tyN d)) (.type "str") = some (isS d) := by cases d <;> exact kit_ty (by simp only [tyN, isS]; decide +kernel)
theorem kit_T : PySem.W.kitOne K (.type (tyN d)) (.type "tuple") = some (isT d) := by cases d <;> exact kit_ty (by simp only [tyN, isT]; decide +kernel)
theorem kit_L : PySem.W.kitOne K (.type (tyN d)) (.type "list") = some (isL d) := by cases d <;> exact kit_ty (by simp only [tyN, isL]; decide +kernel)
end
/-- isinstance(x, T) of data, told -/
theorem isi_I {K : PySem.W.Frag} {H : Hp} {v : V} {d : D} {Q : VK} (h : Dv H v d) (q : Q (.bl (isI d)) H) : rIsi K [v, .ty "int"] H Q := ⟨_, _, _, _, _, rfl, .ty _, h.ty, kit_I d, q⟩
theorem isi_B {K : PySem.W.Frag} {H : Hp} {v : V} {d : D} {Q : VK} (h : Dv H v d) (q : Q (.bl (isB d)) H) : rIsi K [v, .ty "bool"] H Q := ⟨_, _, _, _, _, rfl, .ty _, h.ty, kit_B d, q⟩
theorem isi_S {K : PySem.W.Frag} {H : Hp} {v : V} {d : D} {Q : VK} (h : Dv H v d) (q : Q (.bl (isS d)) H) : rIsi K [v, .ty "str"] H Q := ⟨_, _, _, _, _, rfl, .ty _, h.ty, kit_S d, q⟩
theorem isi_T {K : PySem.W.Frag} {H : Hp} {v : V} {d : D} {Q : VK} (h : Dv H v d) (q : Q (.bl (isT d)) H) : rIsi K [v, .ty "tuple"] H Q := ⟨_, _, _, _, _, rfl, .ty _, h.ty, kit_T d, q⟩

/-! ### names, outcomes, terms -/
def letters : Str := "abcdefghijklmnopqrstuvwxyz"
def signOk (x : Str) : Bool := !(Builtin.Str.occurrences letters x 0 letters.length 1).isEmpty
def signs (s : Str) : List Str := s.cps.toList.map fun c => ⟨#[c]⟩
def isNameS (s : Str) : Bool := decide (1 ≤ s.length) && decide (s.length ≤ 8) && (signs s).all signOk
def isName : D → Bool
  | .str s => isNameS s
  | _ => false
def isWhole : D → Bool
  | .int _ => true | _ => false
def cutLast (s : Str) : Str := cutS s none (some (-1))
def isOutS (s : Str) : Bool := isNameS s || (Txt.endswith s "-" && isNameS (cutLast s))
def isOut : D → Bool
  | .str s => isOutS s
  | _ => false
mutual
def isTerm : D → Bool
  | .int i => decide (0 ≤ i)
  | .tup ds => isTermT ds
  | _ => false
def isTermT : List D → Bool
  | [] => false
  | x :: r => decide (r.length ≤ 3) && isName x && areTerms r
def areTerms : List D → Bool
  | [] => true
  | d :: ds => isTerm d && areTerms ds
end
theorem areTerms_app (a b : List D) : areTerms (a ++ b) = (areTerms a && areTerms b) := by
  induction a with
  | nil => simp [areTerms]
  | cons x r ih => simp only [List.cons_append, areTerms, ih, Bool.and_assoc]
theorem areTerms_all (a : List D) : areTerms a = a.all isTerm := by
  induction a with
  | nil => rfl
  | cons x r ih => simp only [areTerms, List.all_cons, ih]
end Fm
set_option maxRecDepth 100000
set_option maxHeartbeats 2000000
/-! Fm: rules in other readings. -/
namespace Fm
open PySem PySem.Spec PyProof.Rows L2
section
variable {X : Cx} {e c : Expr} {t t' te : TE} {p pos : Pos}
theorem peI (h : PE X e t) (k : ∀ σ H Q, t' σ H Q → t σ H Q) : PE X e t' := ⟨fun pins s σ H Q I q => h.run pins s σ H Q I (k σ H Q q)⟩
/-- isinstance(x, T) of data -/
def tIs (f : D → Bool) (te : TE) : TE := fun σ H Q => te σ H fun v H1 => ∃ d, Dv H1 v d ∧ Q (.bl (f d)) H1
/-- how a reading of an expression grows with what is wanted: asked where it is re-read -/
def MonE (te : TE) : Prop := ∀ σ H (Q Q' : VK), (∀ v H1, Q v H1 → Q' v H1) → te σ H Q → te σ H Q'
theorem mon_var {i : Nat} : MonE (tVar i) := fun _ _ _ _ k ⟨v, a, b⟩ => ⟨v, a, k _ _ b⟩
theorem pe_isD {n : String} {f : D → Bool} (hk : ∀ K d, PySem.W.kitOne K (.type (tyN d)) (.type n) = some (f d)) (hm : X.mg "isinstance" = none) (he : PE X e te) (hc : PE X c (tC (.ty n))) (mo : MonE te)
    (hg : Gl X "isinstance" := by rfl) (h1 : starEach [e, c] X.env = (false, eval e X.env) :: starEach [c] X.env := by rfl) (h2 : starEach [c] X.env = (false, eval c X.env) :: starEach [] X.env := by rfl)
    (h3 : (backTo pos (starEach [c] X.env)).any (·.1) = false := by rfl) : PE X (.Call (.Name "isinstance" p) [e, c] [] pos) (tIs f te) := by
  refine peI (pe_callB call_isi hg hm (by decide +kernel) (pa_cons he (pa_cons hc pa_nil h2) h1) (he := h1) (hpl := h3)) ?_
  intro σ H Q h
  refine mo σ H _ _ ?_ h
  rintro v H1 ⟨d, hd, q⟩
  exact ⟨v, .ty n, _, _, f d, rfl, .ty n, hd.ty, hk _ d, q⟩
def isTL : D → Bool
  | .tup _ => true | .lst _ => true | _ => false
/-- isinstance(x, (tuple, list)) -/
def tIs2 (te : TE) : TE := fun σ H Q => te σ H fun v H1 => ∃ d, Dv H1 v d ∧ ∀ p, H1 p = none → Q (.bl (isTL d)) (upd H1 p (.tup [.ty "tuple", .ty "list"]))
theorem pe_isD2 {a b : Expr} {k2} {pt : Pos} (hm : X.mg "isinstance" = none) (he : PE X e te) (ha : PE X a (tC (.ty "tuple"))) (hb : PE X b (tC (.ty "list"))) (mo : MonE te)
    (hg : Gl X "isinstance" := by rfl) (h1 : starEach [e, .Tuple [a, b] k2 pt] X.env = (false, eval e X.env) :: starEach [.Tuple [a, b] k2 pt] X.env := by rfl)
    (h2 : starEach [.Tuple [a, b] k2 pt] X.env = (false, eval (.Tuple [a, b] k2 pt) X.env) :: starEach [] X.env := by rfl) (h3 : (backTo pos (starEach [.Tuple [a, b] k2 pt] X.env)).any (·.1) = false := by rfl)
    (h4 : starEach [a, b] X.env = (false, eval a X.env) :: starEach [b] X.env := by rfl) (h5 : starEach [b] X.env = (false, eval b X.env) :: starEach [] X.env := by rfl) :
    PE X (.Call (.Name "isinstance" p) [e, .Tuple [a, b] k2 pt] [] pos) (tIs2 te) := by
  refine peI (pe_callB call_isiT hg hm (by decide +kernel) (pa_cons he (pa_cons (pe_tup (pa_cons ha (pa_cons hb pa_nil h5) h4)) pa_nil h2) h1) (he := h1) (hpl := h3)) ?_
  intro σ H Q h
  refine mo σ H _ _ ?_ h
  rintro v H1 ⟨d, hd, q⟩
  refine ⟨by decide, fun p hp => ?_⟩
  have hd' : Dv (upd H1 p (.tup [.ty "tuple", .ty "list"])) v d := hd.same (fun a o q => by rw [upd_ne (ne_of_none q hp)]; exact q) _ _
  refine ⟨v, p, _, _, [.type "tuple", .type "list"], isTL d, rfl, upd_same, .cons (.ty _) (.cons (.ty _) .nil), hd'.ty, ?_, q p hp⟩
  refine kitAny_cons (kit_T d) (fun z => kitAny_cons (kit_L d) (fun y => ?_) (fun y => ?_)) (fun z => ?_)
  · have : isTL d = false := by cases d <;> simp_all [isT, isL, isTL]
    rw [this]
    exact kitAny_nil
  · cases d <;> simp_all [isT, isL, isTL]
  · cases d <;> simp_all [isT, isTL]
end
end Fm
namespace Fm
open PySem PySem.Spec PyProof.Rows L2
theorem Same.new {H : Hp} {p : Addr} {o : HO} (h : H p = none) : Same H (upd H p o) := fun a u e => by
  rw [upd_ne (ne_of_none e h)]
  exact e
theorem Same.upd {H H' : Hp} {p : Addr} {o : HO} (k : Same H H') (h : H p = none) : Same H (upd H' p o) := fun a u e => by
  rw [upd_ne (ne_of_none e h)]
  exact k a u e
theorem sz {n : Nat} (h : n ≤ 10000000) : n ≤ sizeLine := Nat.le_trans h (by decide)
theorem szl {n : Nat} (h : n ≤ 10000000) : n < sizeLine := Nat.lt_of_le_of_lt h (by decide)
theorem signs_len (s : Str) : (signs s).length = s.length := by
  unfold signs Str.length
  simp
theorem signs_get {s : Str} {i c : Nat} (h : s.cps[i]? = some c) : (signs s)[i]? = some ⟨#[c]⟩ := by
  unfold signs
  rw [List.getElem?_map]
  have : s.cps.toList[i]? = some c := by simpa using h
  rw [this]
  rfl
theorem take_succ' {α : Type} {l : List α} {i : Nat} {x : α} (h : l[i]? = some x) : l.take (i + 1) = l.take i ++ [x] := by
  rw [List.take_add_one, h]
  rfl
/-- [f(c) for c in s], f read off each sign by its text -/
theorem lc_signs {K : PySem.W.Frag} {te : TE} {tt : TT} {σ : L2.St} {H : Hp} {s : Str} {j : Nat} {vs : List Nat} {Dl : Addr} {Qd : Hp → Prop} (f : Str → V) (keep : Str → Bool) (hD : H Dl = none) (hz : s.length ≤ 100000)
    (hw : ∀ x, wipe ((wipe σ vs).set j (some x)) vs = wipe σ vs)
    (he : ∀ (x : Str) (H' : Hp) (R : Bool → Hp → Prop), Same H H' → R (keep x) H' → tt ((wipe σ vs).set j (some (.str x))) H' R)
    (hv : ∀ (x : Str) (H' : Hp) (R : VK), Same H H' → keep x = true → R (f x) H' → te ((wipe σ vs).set j (some (.str x))) H' R)
    (q : ∀ H', Same H H' → H' Dl = some (.lst (((signs s).filter keep).map f)) → Qd H') :
    ∃ W : Nat → Nat → Hp → Prop, (∃ m, W 0 m (upd H Dl (.lst []))) ∧ ∀ i m H, W i m H → ((Its s).stop i H ∧ Qd H) ∨ ((Its s).go i H ∧ ∃ Nx : Hp → Prop, (∀ H', Nx H' → ∃ m', m' < m ∧ W (i + 1) m' H') ∧
      ∀ x H', (Its s).yld i H x H' → gName j x (wipe σ vs) H' fun σ2 H2 => wipe σ2 vs = wipe σ vs ∧ tt σ2 H2 fun b H3 => if b = true then te σ2 H3 fun y H4 => ∃ acc, H4 Dl = some (.lst acc) ∧ acc.length < sizeLine ∧ Nx (upd H4 Dl (.lst (acc ++ [y]))) else Nx H3) := by
  refine lc_it (walk_str (z := s)) (fun i H' => Same H H' ∧ H' Dl = some (.lst ((((signs s).take i).filter keep).map f))) ⟨Same.new hD, upd_same⟩ (fun _ _ _ _ => trivial) ?_ ?_
  · rintro i x H1 H2 hi ⟨k, hl⟩ ⟨rfl, c, hc, rfl⟩
    refine ⟨hw _, he _ _ _ k ?_⟩
    have e1 := take_succ' (signs_get hc)
    by_cases hk : keep ⟨#[c]⟩ = true
    · rw [hk]
      refine iteT (hv _ _ _ k hk ⟨_, hl, ?_, Same.upd k hD, ?_⟩)
      · rw [List.length_map]
        refine szl (Nat.le_trans (List.length_filter_le _ _) ?_)
        rw [List.length_take, signs_len]
        omega
      · rw [e1, List.filter_append, List.map_append, List.filter_cons, if_pos hk]
        exact upd_same
    · have hf : keep ⟨#[c]⟩ = false := by simpa using hk
      rw [hf]
      refine iteF ⟨k, ?_⟩
      rw [e1, List.filter_append, List.map_append, List.filter_cons, if_neg (by rw [hf]; decide)]
      simpa using hl
  · rintro H' ⟨k, hl⟩
    refine q H' k ?_
    have : (signs s).take s.cps.size = signs s := List.take_of_length_le (by rw [signs_len]; exact Nat.le_refl _)
    rw [this] at hl
    exact hl
end Fm
namespace Fm
open PySem PySem.Spec PyProof.Rows L2
theorem ite_b {c : Bool} {A B : Prop} (h1 : c = true → A) (h0 : c = false → B) : if c = true then A else B := by
  cases c with
  | true => exact iteT (h1 rfl)
  | false => exact iteF (h0 rfl)
theorem cutV_one (us : List V) (h : 1 ≤ us.length) : cutV us (some 1) none = us.drop 1 ∧ ¬ (HT.sIx us.length 0 (some 1) = 0 ∧ HT.sIx us.length us.length none = us.length) := by
  have e : HT.sIx us.length 0 (some 1) = 1 := by
    have := HT.sIx_nat us.length 0 1
    have z : ((1 : Nat) : Int) = 1 := rfl
    rw [z] at this
    rw [this]
    omega
  constructor
  · unfold cutV
    rw [e]
    exact List.take_of_length_le (by rw [List.length_drop]; exact Nat.le_refl _)
  · rintro ⟨a, _⟩
    rw [e] at a
    cases a
theorem last_split {vs : List V} {ds : List D} {H : Hp} (h : DvL H vs ds) (ne : vs ≠ []) : ∃ y d es, vs[vs.length - 1]? = some y ∧ ds = es ++ [d] ∧ DvL H vs.dropLast es ∧ Dv H y d := by
  have n1 : ds ≠ [] := by
    intro e
    have := h.len
    rw [e] at this
    exact ne (List.length_eq_zero_iff.mp this)
  have l := h.len
  have pos : 0 < vs.length := List.length_pos_iff.mpr ne
  have e0 : ds[vs.length - 1]? = some (ds.getLast n1) := by
    rw [List.getLast_eq_getElem, l]
    exact List.getElem?_eq_getElem (by omega)
  obtain ⟨y, hy, hd⟩ := h.getD e0
  refine ⟨y, ds.getLast n1, ds.dropLast, hy, (List.dropLast_concat_getLast n1).symm, ?_, hd⟩
  have t := h.take (vs.length - 1)
  rw [List.dropLast_eq_take, List.dropLast_eq_take, ← l]
  exact t
end Fm
namespace Fm
open PySem PySem.Spec PyProof.Rows L2
theorem filt {α : Type} (l : List α) : l.filter (fun _ => true) = l := List.filter_eq_self.mpr fun _ _ => rfl
theorem len_last {x : Str} : (cutLast x).length ≤ x.length := by
  unfold cutLast cutS Str.length
  simp
  omega
end Fm
namespace Fm
open PySem PySem.Spec PyProof.Rows L2
theorem deeps_app (a b : List D) : deeps (a ++ b) = max (deeps a) (deeps b) := by
  induction a with
  | nil => simp [deeps]
  | cons x r ih => simp only [List.cons_append, deeps, ih]; omega
end Fm
namespace Fm
open PySem PySem.Spec PyProof.Rows L2
theorem dp_strs {K : PySem.W.Frag} {H : Hp} {p : Addr} {xs : List Str} (h : SqL K H p (xs.map V.str)) : Dp K H (.ref p) (.list (xs.map PyData.str)) := by
  refine .lst h ?_
  clear h
  induction xs with
  | nil => exact .nil
  | cons x r ih => exact .cons (.str x) ih
theorem lay_strs {xs : List Str} (h : ∀ x ∈ xs, PyData.strOk x = true) : PyData.canLayAll0 (xs.map PyData.str) = true := by
  induction xs with
  | nil => simp [PyData.canLayAll0]
  | cons x r ih =>
    have h1 := h x List.mem_cons_self
    have h2 := ih fun y hy => h y (List.mem_cons_of_mem _ hy)
    simp [PyData.canLayAll0, PyData.canLay0, h1, h2]
theorem deep_strs (xs : List Str) : PyData.depthAll (xs.map PyData.str) ≤ 1 := by
  induction xs with
  | nil => simp [PyData.depthAll]
  | cons x r ih => simp [PyData.depthAll, PyData.depth]; omega
theorem shaped_strs {xs : List Str} (h : ∀ x ∈ xs, PyData.strOk x = true) : SeqAt.shaped (.list (xs.map PyData.str)) = true := by
  unfold SeqAt.shaped
  have h1 := lay_strs h
  have h2 := deep_strs xs
  simp [PyData.canLay0, PyData.depth, h1]
  omega
theorem ok_signs {x y : Str} (h : PyData.strOk x = true) (hy : y ∈ signs x) : PyData.strOk y = true := by
  unfold signs at hy
  obtain ⟨c, hc, rfl⟩ := List.mem_map.mp hy
  unfold PyData.strOk at h ⊢
  have := (Array.all_eq_true_iff_forall_mem.mp h) c (by simpa using hc)
  simpa using this
theorem ok_part {x y : Str} (h : PyData.strOk x = true) (hy : ∀ c ∈ y.cps.toList, c ∈ x.cps.toList) : PyData.strOk y = true := by
  unfold PyData.strOk at h ⊢
  refine Array.all_eq_true_iff_forall_mem.mpr fun c hc => ?_
  exact (Array.all_eq_true_iff_forall_mem.mp h) c (by simpa using hy c (by simpa using hc))
theorem ok_cut {x : Str} {lo hi : Option Int} (h : PyData.strOk x = true) : PyData.strOk (cutS x lo hi) = true := by
  refine ok_part h fun c hc => ?_
  unfold cutS at hc
  simp only [List.toList_toArray] at hc
  exact List.mem_of_mem_drop (List.mem_of_mem_take hc)
theorem eqv_nil (xs : List PyData) : PyData.eqv (.list xs) (.list []) = xs.isEmpty := by
  cases xs <;> simp [PyData.eqv, PyData.eqvAll]
end Fm
namespace Fm
open PySem PySem.Spec PyProof.Rows L2
theorem last_sign {x : Str} (h : 1 ≤ x.length) : ∃ c, x.cps.toList[x.length - 1]? = some c ∧ Txt.endswith x "-" = decide (V.str ⟨#[c]⟩ = V.str "-") := by
  have l : x.cps.toList.length = x.length := by simp [Str.length]
  have lt : x.length - 1 < x.cps.size := by
    have : x.cps.size = x.length := rfl
    omega
  refine ⟨x.cps[x.length - 1], by rw [List.getElem?_eq_getElem (by omega)]; simp, ?_⟩
  unfold Txt.endswith Builtin.Str.subAt
  have e1 : (("-" : String) : Str).length = 1 := rfl
  have e2 : x.cps.extract (x.length - 1) (x.length - 1 + 1) = #[x.cps[x.length - 1]] := by
    apply Array.ext
    · simp [Array.size_extract]
      have : x.cps.size = x.length := rfl
      omega
    · intro i h1 h2
      simp only [List.size_toArray, List.length_cons, List.length_nil] at h2
      have i0 : i = 0 := by omega
      subst i0
      simp [Array.getElem_extract]
  rw [e1, e2]
  have e3 : decide (0 + 1 ≤ x.length) = true := decide_eq_true (by omega)
  rw [e3, Bool.true_and]
  rw [Bool.eq_iff_iff, beq_iff_eq, decide_eq_true_iff]
  constructor
  · intro q
    rw [q]
  · intro q
    injection q with q
    exact congrArg Str.cps q
end Fm
namespace Fm
open PySem PySem.Spec PyProof.Rows L2
theorem cutLast_len (x : Str) : (cutLast x).length = x.length - 1 := by
  unfold cutLast cutS
  have e1 : HT.sIx x.length 0 none = 0 := rfl
  have e2 : HT.sIx x.length x.length (some (-1)) = x.length - 1 := by
    show (if (-1 : Int) < 0 then ((-1 : Int) + (x.length : Int)).toNat else min (-1 : Int).toNat x.length) = _
    rw [if_pos (by decide)]
    omega
  rw [e1, e2]
  have l : x.cps.toList.length = x.length := by simp [Str.length]
  show (List.toArray _).size = _
  rw [List.size_toArray, List.length_take, List.length_drop]
  omega
end Fm
namespace Fm
open PySem PySem.Spec PyProof.Rows L2
theorem in_1234 (n : Nat) : inV (.int (n : Int)) [.int 1, .int 2, .int 3, .int 4] = decide (1 ≤ n ∧ n ≤ 4) := by
  rw [Bool.eq_iff_iff]
  simp only [inV, List.any_cons, List.any_nil, eqV, Bool.or_false, Bool.or_eq_true, beq_iff_eq, decide_eq_true_iff]
  omega
theorem tk {α : Type} {l : List α} {i : Nat} {x : α} (h : l[i]? = some x) : x ∈ l := List.mem_of_getElem? h
/-- [f(x) for x in xs] over a tuple of data, f a def that leaves what stood -/
theorem lc_tupD {K : PySem.W.Frag} {te : TE} {tt : TT} {σ : L2.St} {H : Hp} {a : Addr} {xs : List V} {ds : List D} {j : Nat} {vs : List Nat} {Dl : Addr} {Qd : Hp → Prop} (f : D → V) (hT : SqT K H a xs) (hd : DvL H xs ds) (hD : H Dl = none) (hz : xs.length ≤ 100000)
    (hw : ∀ x, wipe ((wipe σ vs).set j (some x)) vs = wipe σ vs)
    (he : ∀ σ' H' (R : Bool → Hp → Prop), R true H' → tt σ' H' R)
    (hv : ∀ (x : V) (d : D) (H' : Hp) (R : VK), Same H H' → d ∈ ds → Dv H x d → (∀ H2, Same H' H2 → R (f d) H2) → te ((wipe σ vs).set j (some x)) H' R)
    (q : ∀ H', Same H H' → H' Dl = some (.lst (ds.map f)) → Qd H') :
    ∃ W : Nat → Nat → Hp → Prop, (∃ m, W 0 m (upd H Dl (.lst []))) ∧ ∀ i m H, W i m H → ((Itt K a).stop i H ∧ Qd H) ∨ ((Itt K a).go i H ∧ ∃ Nx : Hp → Prop, (∀ H', Nx H' → ∃ m', m' < m ∧ W (i + 1) m' H') ∧
      ∀ x H', (Itt K a).yld i H x H' → gName j x (wipe σ vs) H' fun σ2 H2 => wipe σ2 vs = wipe σ vs ∧ tt σ2 H2 fun b H3 => if b = true then te σ2 H3 fun y H4 => ∃ acc, H4 Dl = some (.lst acc) ∧ acc.length < sizeLine ∧ Nx (upd H4 Dl (.lst (acc ++ [y]))) else Nx H3) := by
  have hlen := hd.len
  have st : ∀ H', Same H H' → SqT K H' a xs := fun H' k => Evl.ex_t k hT
  refine lc_tup (fun i H' => Same H H' ∧ H' Dl = some (.lst ((ds.take i).map f))) ⟨Same.new hD, upd_same⟩ (fun i H' _ p => st H' p.1) ?_ ?_
  · rintro i x H1 hx ⟨k, hl⟩
    refine ⟨hw _, he _ _ _ ?_⟩
    rw [if_pos rfl]
    obtain ⟨d, e1, hd1⟩ := hd.get hx
    refine hv x d H1 _ k (tk e1) hd1 fun H2 k2 => ⟨_, k2 _ _ hl, ?_, Same.upd (k.trans k2) hD, ?_⟩
    · rw [List.length_map]
      refine szl ?_
      rw [List.length_take]
      omega
    · rw [take_succ' e1, List.map_append]
      exact upd_same
  · rintro H' ⟨k, hl⟩
    refine q H' k ?_
    have : ds.take xs.length = ds := List.take_of_length_le (by omega)
    rw [this] at hl
    exact hl
end Fm
set_option maxRecDepth 100000
set_option maxHeartbeats 2000000
/-! Fm: the bag that a law draws from: a list of three ints and a list of ints; what is drawn is any int below a bound. -/
namespace Fm
open PySem PySem.Spec PyProof.Rows L2
/-- the heap without the bag -/
def mask (b : Addr) (H : Hp) : Hp := fun a => if a = b then none else H a
theorem mask_ne {b a : Addr} {H : Hp} (h : a ≠ b) : mask b H a = H a := if_neg h
theorem unmask {b : Addr} {H : Hp} : Same (mask b H) H := fun a o e => by
  unfold mask at e
  split at e
  · cases e
  · exact e
theorem mask_same {b : Addr} {H H' : Hp} (k : Same H H') : Same (mask b H) (mask b H') := fun a o e => by
  have e' := unmask _ _ e
  have n : a ≠ b := fun z => by
    rw [z] at e
    simp [mask] at e
  rw [mask_ne n]
  exact k _ _ e'
theorem mask_updb {b : Addr} {H : Hp} {o : HO} : mask b (upd H b o) = mask b H := by
  funext a
  unfold mask
  split
  · rfl
  · rename_i n
    exact upd_ne n
structure BagAt (b p : Addr) (H : Hp) (s m k : Int) (cells : List Int) : Prop where
  at_b : H b = some (.lst [.int s, .int m, .int k, .ref p])
  at_p : H p = some (.lst (cells.map V.int))
  ne : p ≠ b
  s0 : 0 ≤ s
  m0 : 0 ≤ m
  m1 : m < 2147483647
  k0 : 0 ≤ k
  c0 : ∀ c ∈ cells, 0 ≤ c
def Bag (b p : Addr) (H : Hp) : Prop := ∃ s m k cells, BagAt b p H s m k cells
theorem Bag.same {b p : Addr} {H H' : Hp} (B : Bag b p H) (k : Same H H') : Bag b p H' := by
  obtain ⟨s, m, n, cells, h1, h2, h3, h4, h5, h6, h7, h8⟩ := B
  exact ⟨s, m, n, cells, k _ _ h1, k _ _ h2, h3, h4, h5, h6, h7, h8⟩
/-- the bag has gone on, all else stands -/
structure Go (b p : Addr) (H H' : Hp) : Prop where
  k : Same (mask b H) (mask b H')
  B : Bag b p H'
section
variable {b p : Addr} {H H' H2 : Hp}
theorem Go.of (B : Bag b p H) (k : Same H H') : Go b p H H' := ⟨mask_same k, B.same k⟩
theorem Go.refl (B : Bag b p H) : Go b p H H := ⟨Same.refl _, B⟩
theorem Go.trans (g : Go b p H H') (g2 : Go b p H' H2) : Go b p H H2 := ⟨g.k.trans g2.k, g2.B⟩
theorem Go.same (g : Go b p H H') (k : Same H' H2) : Go b p H H2 := g.trans (.of g.B k)
theorem Go.new {q : Addr} {o : HO} (g : Go b p H H') (h : H' q = none) : Go b p H (upd H' q o) := g.same (Same.new h)
theorem Bag.b_ne (B : Bag b p H) {l : Addr} (h : H l = none) : l ≠ b := by
  obtain ⟨s, m, n, cells, h1, _⟩ := B
  exact fun z => by
    rw [z, h1] at h
    cases h
theorem Go.free (g : Go b p H H') {l : Addr} (h : H' l = none) : H l = none := by
  have n := g.B.b_ne h
  cases e : H l with
  | none => rfl
  | some o =>
    have e1 := g.k l o (by rw [mask_ne n]; exact e)
    rw [mask_ne n, h] at e1
    cases e1
/-- an object that was not there at the start changes -/
theorem Go.mut {l : Addr} {o : HO} (B : Bag b p H) (g : Go b p H H') (h : H l = none) : Go b p H (upd H' l o) := by
  have nb := B.b_ne h
  obtain ⟨s, m, n, cells, h1, h2, h3, h4, h5, h6, h7, h8⟩ := B
  have np : p ≠ l := fun z => by
    rw [z, h] at h2
    cases h2
  obtain ⟨s', m', n', cells', g1, g2, g3, g4, g5, g6, g7, g8⟩ := g.B
  refine ⟨fun a u e => ?_, s', m', n', cells', ?_, ?_, g3, g4, g5, g6, g7, g8⟩
  · have na : a ≠ b := fun z => by
      rw [z] at e
      simp [mask] at e
    have nl : a ≠ l := fun z => by
      rw [z, mask_ne nb, h] at e
      cases e
    have e1 := g.k a u e
    rw [mask_ne na] at e1 ⊢
    rw [upd_ne nl]
    exact e1
  · rw [upd_ne nb.symm]
    exact g1
  · rw [upd_ne np]
    exact g2
theorem Go.dv {v : V} {d : D} (g : Go b p H H') (h : Dv (mask b H) v d) : Dv (mask b H') v d := h.same g.k _ _
theorem Go.dvl {vs : List V} {ds : List D} (g : Go b p H H') (h : DvL (mask b H) vs ds) : DvL (mask b H') vs ds := h.same g.k _ _
theorem Dv.un {v : V} {d : D} (h : Dv (mask b H) v d) : Dv H v d := h.same unmask _ _
theorem DvL.un {vs : List V} {ds : List D} (h : DvL (mask b H) vs ds) : DvL H vs ds := h.same unmask _ _
theorem Go.at {q : Addr} {o : HO} (g : Go b p H H') (n : q ≠ b) (h : H q = some o) : H' q = some o := by
  have := g.k q o (by rw [mask_ne n]; exact h)
  rw [mask_ne n] at this
  exact this
end
/-- _law_take: an int below n -/
def spTake : Sp := fun vs H Q _ => ∃ b p n, vs = [.ref b, .int n] ∧ Bag b p H ∧ 0 < n ∧ n ≤ 1000000 ∧ ∀ i H', 0 ≤ i → i < n → Go b p H H' → Q (.int i) H'
end Fm
namespace Fm
open PySem PySem.Spec PyProof.Rows L2
/-- what stands in H2 and not yet in H -/
def newof (H H2 : Hp) : Hp := fun a => match H a with
  | none => H2 a
  | some _ => none
section
variable {b p : Addr} {H H1 H2 H3 : Hp}
theorem newof_of {a : Addr} {o : HO} (h : H a = none) (h2 : H2 a = some o) : newof H H2 a = some o := by
  unfold newof
  rw [h]
  exact h2
theorem newof_is {a : Addr} {o : HO} (h : newof H H2 a = some o) : H a = none ∧ H2 a = some o := by
  unfold newof at h
  cases e : H a with
  | none =>
    rw [e] at h
    exact ⟨rfl, h⟩
  | some u =>
    rw [e] at h
    cases h
theorem newof_sub : Same (newof H H2) H2 := fun _ _ h => (newof_is h).2
theorem newof_mask (B : Bag b p H) : Same (newof H H2) (mask b H2) := fun a o h => by
  obtain ⟨h1, h2⟩ := newof_is h
  rw [mask_ne (B.b_ne h1)]
  exact h2
theorem newof_go (B : Bag b p H) (g : Go b p H1 H2) : Same (newof H H1) (newof H H2) := fun a o h => by
  obtain ⟨h1, h2⟩ := newof_is h
  exact newof_of h1 (g.at (B.b_ne h1) h2)
theorem newof_same (k : Same H1 H2) : Same (newof H H1) (newof H H2) := fun a o h => by
  obtain ⟨h1, h2⟩ := newof_is h
  exact newof_of h1 (k _ _ h2)
theorem newof_lift (f : ∀ a, H1 a = none → H a = none) : Same (newof H1 H2) (newof H H2) := fun a o h => by
  obtain ⟨h1, h2⟩ := newof_is h
  exact newof_of (f _ h1) h2
theorem newof_upd {l : Addr} {o u : HO} (h : H l = some u) : newof H (upd H2 l o) = newof H H2 := by
  funext a
  unfold newof
  cases e : H a with
  | none =>
    show upd H2 l o a = H2 a
    exact upd_ne fun z => by
      rw [z, h] at e
      cases e
  | some _ => rfl
end
/-- [e for k in range(n)], each turn draws from the bag and gives new data -/
theorem lc_bagS {te : TE} {tt : TT} {σ : L2.St} {H : Hp} {b p : Addr} {j n : Nat} {vs : List Nat} {Dl : Addr} {Qd : Hp → Prop} (good : D → Prop) (B : Bag b p H) (hD : H Dl = none) (hz : n ≤ 100000)
    (hw : ∀ x, wipe ((wipe σ vs).set j (some x)) vs = wipe σ vs) (he : ∀ σ' H' (R : Bool → Hp → Prop), R true H' → tt σ' H' R)
    (hv : ∀ (i : Nat) (H' : Hp) (R : VK), i < n → Go b p H H' → (∀ y d H2, Go b p H' H2 → Dv (newof H' H2) y d → good d → R y H2) → te ((wipe σ vs).set j (some (.int (i : Int)))) H' R)
    (q : ∀ H' acc ds, Go b p H H' → H' Dl = some (.lst acc) → DvL (newof (upd H Dl (.lst [])) H') acc ds → (∀ d ∈ ds, good d) → ds.length = n → Qd H') :
    ∃ W : Nat → Nat → Hp → Prop, (∃ m, W 0 m (upd H Dl (.lst []))) ∧ ∀ i m H, W i m H → ((Itr 0 n).stop i H ∧ Qd H) ∨ ((Itr 0 n).go i H ∧ ∃ Nx : Hp → Prop, (∀ H', Nx H' → ∃ m', m' < m ∧ W (i + 1) m' H') ∧
      ∀ x H', (Itr 0 n).yld i H x H' → gName j x (wipe σ vs) H' fun σ2 H2 => wipe σ2 vs = wipe σ vs ∧ tt σ2 H2 fun b H3 => if b = true then te σ2 H3 fun y H4 => ∃ acc, H4 Dl = some (.lst acc) ∧ acc.length < sizeLine ∧ Nx (upd H4 Dl (.lst (acc ++ [y]))) else Nx H3) := by
  have nb := B.b_ne hD
  refine lc_range (lo := 0) (fun i H' => Go b p H H' ∧ ∃ acc ds, H' Dl = some (.lst acc) ∧ DvL (newof (upd H Dl (.lst [])) H') acc ds ∧ (∀ d ∈ ds, good d) ∧ ds.length = i)
    ⟨(Go.refl B).new hD, [], [], upd_same, .nil, fun _ h => (by cases h), rfl⟩ ?_ ?_
  · rintro i H1 hi ⟨g, acc, ds, hl, hds, hg, hn⟩
    refine ⟨hw _, he _ _ _ ?_⟩
    rw [if_pos rfl]
    have e0 : (0 : Int) + (i : Int) = (i : Int) := by omega
    rw [e0]
    refine hv i H1 _ hi g fun y d H2 g2 hy gd => ⟨acc, g2.at nb hl, ?_, (g.trans g2).mut B hD, acc ++ [y], ds ++ [d], upd_same, ?_, ?_, ?_⟩
    · have := hds.len
      exact szl (by omega)
    · have hDl : (upd H Dl (.lst [])) Dl = some (.lst []) := upd_same
      rw [newof_upd hDl]
      have B1 : Bag b p (upd H Dl (.lst [])) := ((Go.refl B).new hD).B
      refine (hds.same (newof_go B1 g2) _ _).app (.cons (hy.same (newof_lift fun a ha => ?_) _ _) .nil)
      have n1 : a ≠ Dl := fun z => by
        rw [z, hl] at ha
        cases ha
      rw [upd_ne n1]
      exact g.free ha
    · intro d' hd'
      rcases List.mem_append.mp hd' with h | h
      · exact hg d' h
      · rw [List.mem_singleton.mp h]
        exact gd
    · rw [List.length_append, hn]
      rfl
  · rintro H' ⟨g, acc, ds, hl, hds, hg, hn⟩
    exact q H' acc ds g hl hds hg hn
/-- [e for k in range(n)], each turn draws from the bag and gives new data -/
theorem lc_bag {te : TE} {tt : TT} {σ : L2.St} {H : Hp} {b p : Addr} {j n : Nat} {vs : List Nat} {Dl : Addr} {Qd : Hp → Prop} (good : D → Prop) (B : Bag b p H) (hD : H Dl = none) (hz : n ≤ 100000)
    (hw : ∀ x, wipe ((wipe σ vs).set j (some x)) vs = wipe σ vs) (he : ∀ σ' H' (R : Bool → Hp → Prop), R true H' → tt σ' H' R)
    (hv : ∀ (i : Nat) (H' : Hp) (R : VK), i < n → Go b p H H' → (∀ y d H2, Go b p H' H2 → Dv (newof H' H2) y d → good d → R y H2) → te ((wipe σ vs).set j (some (.int (i : Int)))) H' R)
    (q : ∀ H' acc ds, Go b p H H' → H' Dl = some (.lst acc) → DvL (newof H H') acc ds → (∀ d ∈ ds, good d) → ds.length = n → Qd H') :
    ∃ W : Nat → Nat → Hp → Prop, (∃ m, W 0 m (upd H Dl (.lst []))) ∧ ∀ i m H, W i m H → ((Itr 0 n).stop i H ∧ Qd H) ∨ ((Itr 0 n).go i H ∧ ∃ Nx : Hp → Prop, (∀ H', Nx H' → ∃ m', m' < m ∧ W (i + 1) m' H') ∧
      ∀ x H', (Itr 0 n).yld i H x H' → gName j x (wipe σ vs) H' fun σ2 H2 => wipe σ2 vs = wipe σ vs ∧ tt σ2 H2 fun b H3 => if b = true then te σ2 H3 fun y H4 => ∃ acc, H4 Dl = some (.lst acc) ∧ acc.length < sizeLine ∧ Nx (upd H4 Dl (.lst (acc ++ [y]))) else Nx H3) :=
  lc_bagS good B hD hz hw he hv fun H' acc ds g hl hds hg hn => q H' acc ds g hl (hds.same (newof_lift fun a ha => by
    by_cases z : a = Dl
    · rw [z]
      exact hD
    · rwa [upd_ne z] at ha) _ _) hg hn
/-- [f(x) for x in xs] over a list, f leaves what stands -/
theorem lc_listF {K : PySem.W.Frag} {te : TE} {tt : TT} {σ : L2.St} {H : Hp} {a : Addr} {xs : List V} {j : Nat} {vs : List Nat} {Dl : Addr} {Qd : Hp → Prop} (f : V → V) (hT : SqL K H a xs) (hD : H Dl = none) (hz : xs.length ≤ 100000)
    (hw : ∀ x, wipe ((wipe σ vs).set j (some x)) vs = wipe σ vs) (he : ∀ σ' H' (R : Bool → Hp → Prop), R true H' → tt σ' H' R)
    (hv : ∀ (x : V) (H' : Hp) (R : VK), Same H H' → x ∈ xs → (∀ H2, Same H' H2 → R (f x) H2) → te ((wipe σ vs).set j (some x)) H' R)
    (q : ∀ H', Same H H' → H' Dl = some (.lst (xs.map f)) → Qd H') :
    ∃ W : Nat → Nat → Hp → Prop, (∃ m, W 0 m (upd H Dl (.lst []))) ∧ ∀ i m H, W i m H → ((Itl K a).stop i H ∧ Qd H) ∨ ((Itl K a).go i H ∧ ∃ Nx : Hp → Prop, (∀ H', Nx H' → ∃ m', m' < m ∧ W (i + 1) m' H') ∧
      ∀ x H', (Itl K a).yld i H x H' → gName j x (wipe σ vs) H' fun σ2 H2 => wipe σ2 vs = wipe σ vs ∧ tt σ2 H2 fun b H3 => if b = true then te σ2 H3 fun y H4 => ∃ acc, H4 Dl = some (.lst acc) ∧ acc.length < sizeLine ∧ Nx (upd H4 Dl (.lst (acc ++ [y]))) else Nx H3) := by
  refine lc_list (fun i H' => Same H H' ∧ H' Dl = some (.lst ((xs.take i).map f))) ⟨Same.new hD, upd_same⟩ (fun i H' _ h => Evl.ex_l h.1 hT) ?_ ?_
  · rintro i x H1 hx ⟨k, hl⟩
    refine ⟨hw _, he _ _ _ ?_⟩
    rw [if_pos rfl]
    refine hv x H1 _ k (tk hx) fun H2 k2 => ⟨_, k2 _ _ hl, ?_, Same.upd (k.trans k2) hD, ?_⟩
    · rw [List.length_map]
      refine szl ?_
      rw [List.length_take]
      omega
    · rw [take_succ' hx, List.map_append]
      exact upd_same
  · rintro H' ⟨k, hl⟩
    refine q H' k ?_
    rw [List.take_length] at hl
    exact hl
end Fm
namespace Fm
open PySem PySem.Spec PyProof.Rows L2
theorem ok_app {x y : Str} (hx : PyData.strOk x = true) (hy : PyData.strOk y = true) : PyData.strOk (x ++ y) = true := by
  unfold PyData.strOk at *
  show (x.cps ++ y.cps).all _ = true
  rw [Array.all_append, hx, hy]
  rfl
theorem ok_join {ys : List Str} (h : ∀ y ∈ ys, PyData.strOk y = true) : PyData.strOk (Txt.join "" ys) = true := by
  have e : Txt.join "" ys = Str.join "" ys := StrLaws.glued_eq_join _ _
  rw [e]
  clear e
  induction ys with
  | nil => decide +kernel
  | cons x r ih =>
    cases r with
    | nil => exact h x List.mem_cons_self
    | cons y r => exact ok_app (ok_app (h x List.mem_cons_self) (by decide +kernel)) (ih fun z hz => h z (List.mem_cons_of_mem _ hz))
theorem len_join {ys : List Str} (h : ∀ y ∈ ys, y.length ≤ 1) : (Txt.join "" ys).length ≤ ys.length := by
  have e : Txt.join "" ys = Str.join "" ys := StrLaws.glued_eq_join _ _
  rw [e]
  refine Nat.le_trans (StrLaws.join_length_le _ _) ?_
  have z : (("" : String) : Str).length = 0 := rfl
  rw [z, Nat.mul_zero, Nat.add_zero]
  clear e
  induction ys with
  | nil => simp
  | cons x r ih =>
    have h1 := h x List.mem_cons_self
    have h2 := ih fun y hy => h y (List.mem_cons_of_mem _ hy)
    rw [List.map_cons, List.sum_cons, List.length_cons]
    omega
theorem sum_len {ys : List Str} (h : ∀ y ∈ ys, y.length ≤ 1) : (ys.map (·.length)).sum ≤ ys.length := by
  induction ys with
  | nil => simp
  | cons x r ih =>
    have h1 := h x List.mem_cons_self
    have h2 := ih fun y hy => h y (List.mem_cons_of_mem _ hy)
    rw [List.map_cons, List.sum_cons, List.length_cons]
    omega
/-- strings as data, and back -/
theorem dvl_strs {H : Hp} {m : Nat} : ∀ {acc : List V} {ds : List D}, DvL H acc ds → (∀ d ∈ ds, ∃ x, d = .str x ∧ PyData.strOk x = true ∧ x.length ≤ m) → ∃ ys : List Str, acc = ys.map V.str ∧ (∀ y ∈ ys, PyData.strOk y = true ∧ y.length ≤ m) ∧ ys.length = ds.length
  | _, _, .nil, _ => ⟨[], rfl, fun _ h => (by cases h), rfl⟩
  | _, _, .cons a b, h => by
    obtain ⟨ys, e, f, g⟩ := dvl_strs b fun d hd => h d (List.mem_cons_of_mem _ hd)
    obtain ⟨x, rfl, o, l⟩ := h _ List.mem_cons_self
    cases a
    refine ⟨x :: ys, by rw [e]; rfl, fun y hy => ?_, by simp [g]⟩
    rcases List.mem_cons.mp hy with rfl | hy
    · exact ⟨o, l⟩
    · exact f y hy
/-- a sign of a written text at an int below its length -/
theorem sign_at {x : Str} {i : Int} (h0 : 0 ≤ i) (h1 : i < x.length) : ∃ c, atI x.cps.toList i = some c ∧ (PyData.strOk x = true → PyData.strOk ⟨#[c]⟩ = true) := by
  obtain ⟨k, rfl⟩ := Int.eq_ofNat_of_zero_le h0
  have l : x.cps.toList.length = x.length := by simp [Str.length]
  have lt : k < x.cps.toList.length := by omega
  refine ⟨x.cps.toList[k], atI_nat (List.getElem?_eq_getElem lt), fun o => ok_part o fun c hc => ?_⟩
  simp only [List.mem_singleton] at hc
  rw [hc]
  exact List.getElem_mem lt
theorem cut_len_le {x : Str} {lo hi : Option Int} : (cutS x lo hi).length ≤ x.length := by
  unfold cutS
  show (List.toArray _).size ≤ _
  rw [List.size_toArray, List.length_take, List.length_drop]
  have l : x.cps.toList.length = x.length := by simp [Str.length]
  omega
theorem len_app (x y : Str) : (x ++ y).length = x.length + y.length := by
  show (x.cps ++ y.cps).size = _
  rw [Array.size_append]
  rfl
/-- the law's bag made of the script -/
def spBag (K : PySem.W.Frag) : Sp := fun vs H Q _ => ∃ (a : Addr) (ns : List Int), vs = [.ref a] ∧ SqL K H a (ns.map V.int) ∧ ns.length ≤ 63 ∧ ∀ b p H', H b = none → Same H H' → Bag b p H' → Q (.ref b) H'
/-- some names -/
def spNames : Sp := fun vs H Q _ => ∃ b p n, vs = [.ref b, .int n] ∧ Bag b p H ∧ 0 ≤ n ∧ n ≤ 20 ∧
  ∀ (l : Addr) (H' : Hp) (xs : List Str), Go b p H H' → newof H H' l = some (.lst (xs.map V.str)) → (xs.length : Int) = n → (∀ x ∈ xs, PyData.strOk x = true ∧ x.length ≤ 30) → Q (.ref l) H'
end Fm
namespace Fm
open PySem PySem.Spec PyProof.Rows L2
theorem cut_strs (ws : List Str) (lo hi : Option Int) : ∃ zs : List Str, cutV (ws.map V.str) lo hi = zs.map V.str ∧ (∀ z ∈ zs, z ∈ ws) ∧ zs.length = min (HT.sIx ws.length ws.length hi - HT.sIx ws.length 0 lo) (ws.length - HT.sIx ws.length 0 lo) := by
  unfold cutV
  rw [List.length_map, ← List.map_drop, ← List.map_take]
  refine ⟨_, rfl, fun z hz => List.mem_of_mem_drop (List.mem_of_mem_take hz), ?_⟩
  rw [List.length_take, List.length_drop]
theorem sIx_none (n d : Nat) : HT.sIx n d none = d := rfl
theorem sIx_at {n d : Nat} {i : Int} (h : 0 ≤ i) : HT.sIx n d (some i) = min i.toNat n := by
  show (if i < 0 then (i + (n : Int)).toNat else min i.toNat n) = _
  rw [if_neg (by omega)]
end Fm
namespace Fm
open PySem PySem.Spec PyProof.Rows L2
/-- a term as a law makes it: an int, or a tuple of a text and terms -/
inductive Tm : D → Prop
  | int (i : Int) : Tm (.int i)
  | tup (x : Str) (ds : List D) : (∀ d ∈ ds, Tm d) → Tm (.tup (.str x :: ds))
/-- a list of names that stands in the heap -/
structure Names (nm b : Addr) (H : Hp) (xs : List Str) : Prop where
  at_ : H nm = some (.lst (xs.map V.str))
  ne : nm ≠ b
  pos : 1 ≤ xs.length
  few : xs.length ≤ 20
  ok : ∀ x ∈ xs, PyData.strOk x = true ∧ x.length ≤ 30
theorem Names.go {nm b p : Addr} {H H' : Hp} {xs : List Str} (N : Names nm b H xs) (g : Go b p H H') : Names nm b H' xs := ⟨g.at N.ne N.at_, N.ne, N.pos, N.few, N.ok⟩
theorem Names.get {nm b : Addr} {H : Hp} {xs : List Str} (N : Names nm b H xs) {i : Int} (h0 : 0 ≤ i) (h1 : i < xs.length) : ∃ x, atI (xs.map V.str) i = some (.str x) ∧ PyData.strOk x = true ∧ x.length ≤ 30 := by
  obtain ⟨k, rfl⟩ := Int.eq_ofNat_of_zero_le h0
  have lt : k < xs.length := by omega
  refine ⟨xs[k], atI_nat ?_, N.ok _ (List.getElem_mem lt)⟩
  rw [List.getElem?_map, List.getElem?_eq_getElem lt]
  rfl
/-- how great a term of so many levels may be -/
def Sized (k : Nat) (d : D) : Prop := d.deep ≤ k ∧ d.size + 16 ≤ 17 * 3 ^ k
theorem sizes_le {ds : List D} {n : Nat} (h : ∀ d ∈ ds, d.size + 16 ≤ n) : sizes ds + 16 * ds.length ≤ n * ds.length := by
  induction ds with
  | nil => simp [sizes]
  | cons x r ih =>
    have h1 := h x List.mem_cons_self
    have h2 := ih fun y hy => h y (List.mem_cons_of_mem _ hy)
    simp only [sizes, List.length_cons, Nat.mul_add, Nat.mul_one]
    omega
theorem deeps_le {ds : List D} {n : Nat} (h : ∀ d ∈ ds, d.deep ≤ n) : deeps ds ≤ n := by
  induction ds with
  | nil => simp [deeps]
  | cons x r ih =>
    have h1 := h x List.mem_cons_self
    have h2 := ih fun y hy => h y (List.mem_cons_of_mem _ hy)
    simp only [deeps]
    omega
theorem Sized.tup {k : Nat} {x : Str} {ds : List D} (lx : x.length ≤ 30) (l3 : ds.length ≤ 3) (h : ∀ d ∈ ds, Sized k d) : Sized (k + 1) (.tup (.str x :: ds)) := by
  have h1 := deeps_le fun d hd => (h d hd).1
  have h2 := sizes_le fun d hd => (h d hd).2
  have h3 : 17 * 3 ^ k * ds.length ≤ 17 * 3 ^ k * 3 := Nat.mul_le_mul_left _ l3
  have h4 : 1 ≤ 3 ^ k := Nat.one_le_pow _ _ (by decide)
  refine ⟨?_, ?_⟩
  · simp only [D.deep, deeps]
    omega
  · simp only [D.size, sizes]
    have e : 17 * 3 ^ (k + 1) = 17 * 3 ^ k * 3 := by rw [Nat.pow_succ]; omega
    rw [e]
    -- three parts, or fewer
    rcases (by omega : ds.length = 0 ∨ ds.length = 1 ∨ ds.length = 2 ∨ ds.length = 3) with z | z | z | z <;> rw [z] at h2 <;> omega
/-- _law_term of a bag, names, so many unknowns and k levels, k below m -/
def spTerm (m : Nat) : Sp := fun vs H Q _ => ∃ (b p nm : Addr) (xs : List Str) (many : Int) (k : Nat) (deep : Int), vs = [.ref b, .ref nm, .int many, .int deep] ∧ deep = (k : Int) ∧ Bag b p H ∧ Names nm b H xs ∧ 0 < many ∧ many ≤ 1000 ∧ k < m ∧ k ≤ 100 ∧
  ∀ v H' d, Go b p H H' → Dv (newof H H') v d → Tm d → Sized k d → Q v H'
end Fm
set_option maxRecDepth 100000
set_option maxHeartbeats 2000000
/-! Fm: written data. -/
namespace Fm
open PySem PySem.Spec PyProof.Rows L2
/-- an expression that makes this data anew, all that stood standing -/
def Ed (te : TE) (d : D) : Prop := ∀ σ H (Q : VK), (∀ v H', Same H H' → Dv (newof H H') v d → Q v H') → te σ H Q
def EdA (ta : TA) (ds : List D) : Prop := ∀ σ H (Q : List V → Hp → Prop), (∀ vs H', Same H H' → DvL (newof H H') vs ds → Q vs H') → ta σ H Q
theorem ed_non : Ed (tC .non) .non := fun _ H _ q => q _ _ (Same.refl H) .non
theorem ed_bl {b : Bool} : Ed (tC (.bl b)) (.bl b) := fun _ H _ q => q _ _ (Same.refl H) (.bl b)
theorem ed_int {i : Int} : Ed (tC (.int i)) (.int i) := fun _ H _ q => q _ _ (Same.refl H) (.int i)
theorem ed_str {x : Str} (h : PyData.strOk x = true) : Ed (tC (.str x)) (.str x) := fun _ H _ q => q _ _ (Same.refl H) (.str x h)
theorem ed_neg {i : Int} : Ed (tUn (rU fun i => .int (-i)) (tC (.int i))) (.int (-i)) := fun _ H _ q => ⟨i, rfl, q _ _ (Same.refl H) (.int _)⟩
theorem eda_nil : EdA tNil [] := fun _ H _ q => q _ _ (Same.refl H) .nil
theorem eda_cons {te : TE} {ta : TA} {d : D} {ds : List D} (h : Ed te d) (h2 : EdA ta ds) : EdA (tCons te ta) (d :: ds) := fun σ H Q q =>
  h σ H _ fun v H1 k1 h1 => h2 σ H1 _ fun vs H2 k2 h3 => q _ _ (k1.trans k2) (.cons (h1.same (newof_same k2) _ _) (h3.same (newof_lift fun _ ha => k1.free ha) _ _))
theorem ed_tup {ta : TA} {ds : List D} (h : EdA ta ds) (hl : ds.length ≤ 1000) : Ed (tTup ta) (.tup ds) := fun σ H Q q =>
  h σ H _ fun vs H1 k1 h1 => ⟨sz (by have := h1.len; omega), fun p hp => q _ _ (k1.trans (Same.new hp)) (.tup (newof_of (k1.free hp) upd_same) (h1.same (newof_same (Same.new hp)) _ _))⟩
theorem ed_lst {ta : TA} {ds : List D} (h : EdA ta ds) (hl : ds.length ≤ 1000) : Ed (tLst ta) (.lst ds) := fun σ H Q q =>
  h σ H _ fun vs H1 k1 h1 => ⟨sz (by have := h1.len; omega), fun p hp => q _ _ (k1.trans (Same.new hp)) (.lst (newof_of (k1.free hp) upd_same) (h1.same (newof_same (Same.new hp)) _ _))⟩
theorem ed_asg {te : TE} {d : D} {i : Nat} {D' : Ends} {σ : L2.St} {H : Hp} (h : Ed te d) (k : ∀ v H', Same H H' → Dv (newof H H') v d → D'.nx (σ.set i (some v)) H') : tAsg te (gName i) D' σ H := h σ H _ k
theorem ed_dic : Ed tDNewK .dic := fun _ H _ q p hp => q _ _ (Same.new hp) (.dic (newof_of hp upd_same))
theorem Ed.use {te : TE} {d : D} {σ : L2.St} {H : Hp} {Q : VK} (h : Ed te d) (k : ∀ v H', Same H H' → Dv (newof H H') v d → Q v H') : te σ H Q := h σ H Q k
/-- _law_odd: a small piece of data -/
def spOdd : Sp := fun vs H Q _ => ∃ b p, vs = [.ref b] ∧ Bag b p H ∧ ∀ v H' d, Go b p H H' → Dv (newof H H') v d → d.deep ≤ 3 → d.size ≤ 40 → Q v H'
end Fm
namespace Fm
open PySem PySem.Spec PyProof.Rows L2
theorem split_at {ds : List D} {k : Nat} (h : k < ds.length) : ds = ds.take k ++ (ds[k] :: ds.drop (k + 1)) := by
  have e := List.take_append_drop k ds
  rw [List.drop_eq_getElem_cons h] at e
  exact e.symm
theorem cut_to {us : List V} {k : Nat} (h : k < us.length) : cutV us none (some (k : Int)) = us.take k ∧ ¬ (HT.sIx us.length 0 none = 0 ∧ HT.sIx us.length us.length (some (k : Int)) = us.length) := by
  have e : HT.sIx us.length us.length (some (k : Int)) = k := by
    rw [HT.sIx_nat]
    omega
  have e0 : HT.sIx us.length 0 none = 0 := rfl
  constructor
  · unfold cutV
    rw [e, e0]
    rfl
  · rintro ⟨_, z⟩
    rw [e] at z
    omega
theorem cut_from {us : List V} {k : Nat} (h : 0 < k) (h2 : k ≤ us.length) : cutV us (some (k : Int)) none = us.drop k ∧ ¬ (HT.sIx us.length 0 (some (k : Int)) = 0 ∧ HT.sIx us.length us.length none = us.length) := by
  have e : HT.sIx us.length 0 (some (k : Int)) = k := by
    rw [HT.sIx_nat]
    omega
  constructor
  · unfold cutV
    rw [e]
    exact List.take_of_length_le (by rw [List.length_drop]; exact Nat.le_refl _)
  · rintro ⟨z, _⟩
    rw [e] at z
    omega
/-- _law_spoilt of a bag and a term -/
def spSpoilt (m : Nat) : Sp := fun vs H Q _ => ∃ b p v d, vs = [.ref b, v] ∧ Bag b p H ∧ Dv (mask b H) v d ∧ Tm d ∧ d.deep < m ∧ d.deep ≤ 90 ∧ d.size ≤ 50000 ∧
  ∀ v' H' d', Go b p H H' → Dv (mask b H') v' d' → d'.deep ≤ d.deep + 3 → d'.size ≤ d.size + 40 → Q v' H'
theorem mask_new {b q : Addr} {H : Hp} {o : HO} (n : q ≠ b) : mask b (upd H q o) q = some o := by
  rw [mask_ne n]
  exact upd_same
end Fm
namespace Fm
open PySem PySem.Spec PyProof.Rows L2
theorem ed_pow {i j : Int} (h : CPow i j) : Ed (tOp (rI CPow fun i j => .int (i ^ j.toNat)) (tC (.int i)) (tC (.int j))) (.int (i ^ j.toNat)) := fun _ H _ q => ⟨i, j, rfl, rfl, h, q _ _ (Same.refl H) (.int _)⟩
theorem op_or {X : Cx} {f : Value → Value → Sem Value} {r1 r2 : R2} (h1 : OpR X f r1) (h2 : OpR X f r2) : OpR X f (fun x y H Q => r1 x y H Q ∨ r2 x y H Q) := fun pins s σ H x y v u Q I rx ry h => by
  rcases h with h | h
  · exact h1 pins s σ H x y v u Q I rx ry h
  · exact h2 pins s σ H x y v u Q I rx ry h
/-- one of some written texts -/
theorem text_at {xs : List Str} {i : Int} (h0 : 0 ≤ i) (h1 : i < xs.length) : ∃ x, atI (xs.map V.str) i = some (.str x) ∧ x ∈ xs := by
  obtain ⟨k, rfl⟩ := Int.eq_ofNat_of_zero_le h0
  have lt : k < xs.length := by omega
  refine ⟨xs[k], atI_nat ?_, List.getElem_mem lt⟩
  rw [List.getElem?_map, List.getElem?_eq_getElem lt]
  rfl
mutual
def noDic : D → Bool
  | .tup ds => noDics ds
  | .lst ds => noDics ds
  | .dic => false
  | _ => true
def noDics : List D → Bool
  | [] => true
  | d :: ds => noDic d && noDics ds
end
theorem noDics_of {ds : List D} (h : ∀ d ∈ ds, noDic d = true) : noDics ds = true := by
  induction ds with
  | nil => rfl
  | cons x r ih =>
    simp only [noDics, h x List.mem_cons_self, Bool.true_and]
    exact ih fun y hy => h y (List.mem_cons_of_mem _ hy)
theorem Tm.noDic {d : D} (t : Tm d) : Fm.noDic d = true := by
  induction t with
  | int i => rfl
  | tup x ds _ ih =>
    simp only [Fm.noDic, noDics, Bool.true_and]
    exact noDics_of ih
mutual
theorem dp_of {K : PySem.W.Frag} {H : Hp} : ∀ (d : D) (v : V), Dv H v d → noDic d = true → ∃ pd, Dp K H v pd ∧ pd.canLay0 = true ∧ pd.depth ≤ d.deep + 1
  | .non, _, h, _ => by cases h; exact ⟨_, .non, rfl, by simp [PyData.depth]⟩
  | .bl _, _, h, _ => by cases h; exact ⟨_, .bl _, rfl, by simp [PyData.depth]⟩
  | .int _, _, h, _ => by cases h; exact ⟨_, .int _, rfl, by simp [PyData.depth]⟩
  | .str _, _, h, _ => by
    cases h with
    | str _ o => exact ⟨_, .str _, by simpa [PyData.canLay0] using o, by simp [PyData.depth]⟩
  | .tup ds, _, h, n => by
    cases h with
    | tup a b =>
      obtain ⟨ps, h1, h2, h3⟩ := dps_of ds _ b (by simpa [noDic] using n)
      exact ⟨_, .tup (SqT.of a) h1, by simpa [PyData.canLay0] using h2, by simp only [PyData.depth, D.deep]; omega⟩
  | .lst ds, _, h, n => by
    cases h with
    | lst a b =>
      obtain ⟨ps, h1, h2, h3⟩ := dps_of ds _ b (by simpa [noDic] using n)
      exact ⟨_, .lst (SqL.of a) h1, by simpa [PyData.canLay0] using h2, by simp only [PyData.depth, D.deep]; omega⟩
  | .dic, _, _, n => by simp [noDic] at n
theorem dps_of {K : PySem.W.Frag} {H : Hp} : ∀ (ds : List D) (vs : List V), DvL H vs ds → noDics ds = true → ∃ ps, DpAll K H vs ps ∧ PyData.canLayAll0 ps = true ∧ PyData.depthAll ps ≤ deeps ds + 1
  | [], _, h, _ => by cases h; exact ⟨[], .nil, by simp [PyData.canLayAll0], by simp [PyData.depthAll]⟩
  | d :: ds, _, h, n => by
    cases h with
    | cons a b =>
      have n' : noDic d = true ∧ noDics ds = true := by simpa [noDics] using n
      obtain ⟨p, h1, h2, h3⟩ := dp_of d _ a n'.1
      obtain ⟨ps, h4, h5, h6⟩ := dps_of ds _ b n'.2
      exact ⟨p :: ps, .cons h1 h4, by simp [PyData.canLayAll0, h2, h5], by simp only [PyData.depthAll, deeps]; omega⟩
end
def spText : Sp := fun vs H Q _ => ∃ b p, vs = [.ref b] ∧ Bag b p H ∧ ∀ x H', Go b p H H' → PyData.strOk x = true → x.length ≤ 13 → Q (.str x) H'
/-- a thing to look at -/
def spThing : Sp := fun vs H Q _ => ∃ b p nm xs, vs = [.ref b, .ref nm] ∧ Bag b p H ∧ Names nm b H xs ∧ ∀ v H' d, Go b p H H' → Dv (mask b H') v d → d.deep ≤ 50 → d.size ≤ 50000 → Q v H'
end Fm
namespace Fm
open PySem PySem.Spec PyProof.Rows L2
theorem sizes_set {ds : List D} {d : D} (n : Nat) : sizes (ds.set n d) ≤ sizes ds + d.size := by
  induction ds generalizing n with
  | nil => simp [sizes]
  | cons x r ih =>
    cases n with
    | zero => simp only [List.set_cons_zero, sizes]; omega
    | succ n => have := ih n; simp only [List.set_cons_succ, sizes]; omega
theorem deeps_set {ds : List D} {d : D} (n : Nat) : deeps (ds.set n d) ≤ max (deeps ds) d.deep := by
  induction ds generalizing n with
  | nil => simp [deeps]
  | cons x r ih =>
    cases n with
    | zero => simp only [List.set_cons_zero, deeps]; omega
    | succ n => have := ih n; simp only [List.set_cons_succ, deeps]; omega
theorem ixN_at {n k : Nat} (h : k < n) : ixN n (k : Int) = some k := by
  unfold ixN
  rw [if_pos (by omega), if_pos (by omega)]
  simp
end Fm
namespace Fm
open PySem PySem.Spec PyProof.Rows L2
/-- (v,) * k, k from 0 to 2 -/
def rRep3 : R2 := fun x y H Q => ∃ l k v, x = .ref l ∧ y = .int k ∧ H l = some (.tup [v]) ∧ 0 ≤ k ∧ k ≤ 2 ∧ ∀ r H', Same H H' → H' r = some (.tup (List.replicate k.toNat v)) → Q (.ref r) H'
theorem op_rep3 {X : Cx} : OpR X (binaryOp .Mult) rRep3 := by
  intro pins s σ H x y v u Q I rx ry h
  obtain ⟨l, k, w1, rfl, rfl, hl, k0, k2, q⟩ := h
  refine op_or op_rep1 op_repT pins s σ H _ _ v u Q I rx ry ?_
  rcases (by omega : k = 0 ∨ k = 1 ∨ k = 2) with rfl | rfl | rfl
  · exact .inl ⟨l, 0, w1, rfl, rfl, SqT.of hl, .inl rfl, fun _ p hp => q p _ (Same.new hp) upd_same, fun z => (by cases z)⟩
  · exact .inl ⟨l, 1, w1, rfl, rfl, SqT.of hl, .inr rfl, fun z => (by cases z), fun _ => q l H (Same.refl H) hl⟩
  · exact .inr ⟨l, 2, [w1], rfl, rfl, SqT.of hl, by simp, by decide, by decide, by simp, fun p hp => q p _ (Same.new hp) upd_same⟩
theorem dvl_rep {H : Hp} {v : V} {d : D} (h : Dv H v d) : ∀ n : Nat, DvL H (List.replicate n v) (List.replicate n d)
  | 0 => .nil
  | n + 1 => .cons h (dvl_rep h n)
end Fm
namespace Fm
open PySem PySem.Spec PyProof.Rows L2
theorem areTerms_set {ds : List D} {d : D} (n : Nat) (h : ∀ x ∈ ds, isTerm x = true) (lt : n < ds.length) : areTerms (ds.set n d) = isTerm d := by
  induction ds generalizing n with
  | nil => simp at lt
  | cons x r ih =>
    have hx := h x List.mem_cons_self
    have hr : areTerms r = true := by
      rw [areTerms_all]
      exact List.all_eq_true.mpr fun y hy => h y (List.mem_cons_of_mem _ hy)
    cases n with
    | zero => simp only [List.set_cons_zero, areTerms, hr, Bool.and_true]
    | succ n =>
      simp only [List.set_cons_succ, areTerms, hx, Bool.true_and]
      exact ih n (fun y hy => h y (List.mem_cons_of_mem _ hy)) (by simpa using lt)
/-- the list of bools, as data -/
def bools (bs : List Bool) : PyData := .list (bs.map .bool)
theorem dp_bools {K : PySem.W.Frag} {H : Hp} {l : Addr} {bs : List Bool} (h : H l = some (.lst (bs.map V.bl))) : Dp K H (.ref l) (bools bs) := by
  refine .lst (SqL.of h) ?_
  clear h
  induction bs with
  | nil => exact .nil
  | cons b r ih => exact .cons (.bl b) ih
def spMany : Sp := fun vs H Q _ => ∃ b p, vs = [.ref b] ∧ Bag b p H ∧ ∀ H', Q (.bl true) H'
def spLaw (K : PySem.W.Frag) : Sp := fun vs H Q _ => ∃ (a : Addr) (ns : List Int), vs = [.ref a] ∧ SqL K H a (ns.map V.int) ∧ ns.length ≤ 63 ∧ ∀ H', Q (.bl true) H'
end Fm
namespace Fm
open PySem PySem.Spec PyProof.Rows L2
theorem bools5 : ∀ b1 b2 b3 b4 b5 : Bool, SeqAt.shaped (bools [b1, b2, b3, b4, b5]) = true ∧ (bools [b1, b2, b3, b4, b5]).showable = true ∧ (bools [b1, b2, b3, b4, b5]).hasDict = false ∧ (bools [b1, b2, b3, b4, b5]).depth ≤ 60 ∧
    (bools [b1, b2, b3, b4, b5]).shown.length ≤ sizeLine := by decide +kernel
end Fm
set_option maxRecDepth 100000
set_option maxHeartbeats 2000000
/-! Fm: rules for terms as numbered nodes: setdefault with tuples as keys, t[:0:-1]. -/
namespace Fm
open PySem PySem.Spec PyProof.Rows L2
section
variable {X : Cx}
/-- d.setdefault(t, v), keys are tuples -/
def rSetdT : V → List V → Hp → VK → Prop := fun x vs H Q => ∃ (a : Addr) (kvs : List (List L2.Key × V)) (k : List L2.Key) (b : Addr) (v : V), x = .ref a ∧ vs = [.ref b, v] ∧ H a = some (.dT kvs) ∧ H b = some (.tup (k.map kV)) ∧ kvs.length < sizeLine ∧
  (∀ w, valV kvs k = some w → Q w H) ∧ (valV kvs k = none → Q v (upd H a (.dT (kvs ++ [(k, v)]))))
theorem mt_setdT (hu : X.A.units + 1 < cLine) : MtR X "dict.setdefault" rSetdT := by
  intro pins s σ H x xs v us Q I rx rxs h
  obtain ⟨a, kvs, k, b, d, rfl, rfl, ha, hb, hl, q1, q2⟩ := h
  cases rx
  obtain ⟨u1, u2, rfl, r1, r2⟩ := vals2 rxs
  cases r1
  obtain ⟨z, hd, xs', rel, dd⟩ := dt_of I.hok ha
  have hz : xs'.length ≤ sizeLine := by rw [← Paired.length rel]; exact z
  refine call_setdefault_heap (knd := tupleKind (mixKind X.prog X.w)) (tupleKind_room_in1 hu) (key_of I.hok hb) hd dd (fun p hp => ?_) (fun hn h' dd' hs => ?_) hz
  · have r := rel.val k
    rw [hp] at r
    obtain ⟨v0, ev, rv⟩ : ∃ v0, valV kvs k = some v0 ∧ RelV v0 p.2 := by
      cases ev : valV kvs k with
      | none =>
        rw [ev] at r
        exact (show False from r).elim
      | some v0 =>
        rw [ev] at r
        exact ⟨v0, rfl, r⟩
    exact ⟨v0, H, I.tok _, rv, q1 v0 ev⟩
  · have r := rel.val k
    rw [hn] at r
    have e : valV kvs k = none := by
      cases ev : valV kvs k with
      | none => rfl
      | some v0 =>
        rw [ev] at r
        exact (show False from r).elim
    obtain ⟨q, es, ep, hq, h2, h3, h4, _, h5⟩ := dd'
    have hl2 : (putK kvs k d).length ≤ sizeLine := by have := length_putK kvs k d; omega
    have I2 := d_write (t' := s.toks + (tupleKind (mixKind X.prog X.w)).draws k) (ob := .dT (putK kvs k d)) I (by rw [ha]; exact True.intro) hs ⟨q, hq⟩ ⟨hl2, hd, _, (rel.put k hb r2).keeps fun c ys ec => (by
      rw [upd_ne (ne_of ec ha (fun z => nomatch z))]
      exact ec), q, es, ep, hq, h2, h3, h4, h5⟩
    rw [putK_new d e] at I2
    exact ⟨d, _, I2, r2, q2 e⟩
end
/-! ### t[:0:-1] -/
section
variable {prog : Program} {w : World} {A : Around} {E : Value → Shared → Prop} {s : Shared}
theorem adjust_back (n : Nat) : Builtin.Slice.sliceAdjust none (some 0) (-1) (n : Int) = ((n : Int) - 1, min 0 ((n : Int) - 1)) := by
  unfold Builtin.Slice.sliceAdjust
  simp
theorem places_back {n : Nat} (h : 1 ≤ n) : Builtin.Slice.slicePlaces ((n : Int) - 1) (min 0 ((n : Int) - 1)) (-1) = n - 1 := by
  unfold Builtin.Slice.slicePlaces
  have e : min (0 : Int) ((n : Int) - 1) = 0 := by omega
  rw [e]
  simp only [show ¬ ((-1 : Int) > 0) by decide, if_false, show (-(-1) : Int) = 1 by decide, Int.ediv_one]
  split <;> omega
theorem sliceApplied_back {sl : Addr} {vu vs : Value} {n : Nat} {Q : Int × Int × Nat → Shared → Prop} (hn : 1 ≤ n) (hs : s.heap.IsSliceOf sl .none vu vs) (pu : IsPart vu (some 0)) (ps : IsPart vs (some (-1)))
    (h : Q ((n : Int) - 1, -1, n - 1) s) : wpAny (model prog w) A (Builtin.Slice.sliceApplied (.ref sl) (pure (n : Int))) Q E s := by
  obtain ⟨os, hos, hcs, hds⟩ := id hs
  unfold Builtin.Slice.sliceApplied Builtin.Slice.sliceFields
  refine wpAny_bind (wpAny_bind (wpAny_field hos hds (x := .none) rfl (wpAny_bind (wpAny_field hos hds (x := vu) rfl (wpAny_bind (wpAny_field hos hds (x := vs) rfl (wpAny_pure ?_)))))))
  refine wpAny_bind (HT.slicePart_ ps ?_)
  show wpAny _ _ (if ((-1 : Int) == 0) = true then _ else _) _ _ s
  rw [if_neg (by decide)]
  refine wpAny_bind (HT.slicePart_ .none (wpAny_bind (HT.slicePart_ pu (wpAny_bind (wpAny_pure ?_)))))
  show wpAny _ _ (match Builtin.Slice.sliceAdjust none (some 0) (-1) (n : Int) with | (lo, hi) => pure (lo, (-1 : Int), Builtin.Slice.slicePlaces lo hi (-1))) _ _ s
  rw [adjust_back n]
  show wpAny _ _ (pure ((n : Int) - 1, (-1 : Int), Builtin.Slice.slicePlaces ((n : Int) - 1) (min 0 ((n : Int) - 1)) (-1))) _ _ s
  rw [places_back hn]
  exact wpAny_pure h
theorem fm_map {α β : Type} {f : α → Option β} {g : α → β} {l : List α} (h : ∀ m ∈ l, f m = some (g m)) : l.filterMap f = l.map g := by
  induction l with
  | nil => rfl
  | cons x r ih => rw [List.filterMap_cons, h x List.mem_cons_self, ih fun m hm => h m (List.mem_cons_of_mem _ hm)]; rfl
theorem pick_back (xs : Array Value) (h : 1 ≤ xs.size) : ((List.range (xs.size - 1)).filterMap fun (m : Nat) => xs[(((xs.size : Int) - 1) + (m : Int) * (-1)).toNat]?).toArray = (xs.toList.drop 1).reverse.toArray := by
  congr 1
  apply List.ext_getElem?
  intro i
  have e : (List.range (xs.size - 1)).filterMap (fun (m : Nat) => xs[(((xs.size : Int) - 1) + (m : Int) * (-1)).toNat]?) = (List.range (xs.size - 1)).map fun m => xs[xs.size - 1 - m]! := by
    refine fm_map fun m hm => ?_
    have lm := List.mem_range.mp hm
    have e1 : (((xs.size : Int) - 1) + (m : Int) * (-1)).toNat = xs.size - 1 - m := by omega
    have lt : xs.size - 1 - m < xs.size := by omega
    rw [e1, getElem!_pos xs (xs.size - 1 - m) lt]
    exact Array.getElem?_eq_getElem lt
  rw [e, List.getElem?_map]
  have l : xs.toList.length = xs.size := Array.length_toList
  by_cases hi : i < xs.size - 1
  · have lt : xs.size - 1 - i < xs.size := by omega
    rw [List.getElem?_range hi, List.getElem?_reverse (by rw [List.length_drop]; omega), List.length_drop, List.getElem?_drop, Option.map_some, getElem!_pos xs (xs.size - 1 - i) lt]
    have e2 : 1 + (xs.toList.length - 1 - 1 - i) = xs.size - 1 - i := by omega
    rw [e2, List.getElem?_eq_getElem (by omega)]
    rfl
  · rw [List.getElem?_eq_none (by rw [List.length_range]; omega), List.getElem?_eq_none (by rw [List.length_reverse, List.length_drop]; omega)]
    rfl
theorem getItem_tuple_back {t sl : Addr} {items : Array Value} {vu vs : Value} {Q : Value → Shared → Prop} (ht : IsTup s.heap t items) (hs : s.heap.IsSliceOf sl .none vu vs) (pu : IsPart vu (some 0)) (ps : IsPart vs (some (-1))) (hn : 1 ≤ items.size)
    (h : Q (.ref s.heap.objs.size) { s with heap := s.heap.push { cls := .type "tuple", data := .seq (items.toList.drop 1).reverse.toArray } })
    (hsz : items.size ≤ sizeLine) : wpAny (model prog w) A (getItem (.ref t) (.ref sl)) Q E s := by
  have htake : sizeOk (.seq (items.toList.drop 1).reverse.toArray) := by
    show (items.toList.drop 1).reverse.toArray.size ≤ sizeLine
    rw [List.size_toArray, List.length_reverse, List.length_drop, Array.length_toList]
    omega
  obtain ⟨os, hos, hcs, hds⟩ := id hs
  have hTs : s.TypeIs (.ref sl) "slice" := ⟨os, hos, hcs⟩
  unfold getItem
  try with_reducible refine wpAny_holding ?_
  first | refine wpAny_bind (wpAny_pure ?_) | skip
  refine wpAny_bind (wpAny_sequenceKey ht.typeIs (by decide) ?_)
  refine wpAny_bind (wpAny_callSpecial?_slot (name := Str.ofString "__getitem__") ht.typeIs PyProof.Rows.slot_tuple_getitem
    (wpAny_call_entry PyProof.Rows.slot_tuple_getitem ht.typeIs entry_tuple_getitem ?_ (args_tuple_getitem _ _)))
  show wpAny _ _ (Builtin.Tuple.tupleItemsOf (.ref t) >>= _) _ _ s
  refine wpAny_bind (tupleItemsOf_ ht ?_)
  refine wpAny_bind (wpAny_typeOf hTs ?_)
  rw [if_pos (by decide)]
  refine wpAny_bind (sliceApplied_back hn hs pu ps ?_)
  have hno : ¬ ((((items.size : Int) - 1) == 0 && (-1 : Int) == 1 && (items.size - 1) == items.size) = true) := by
    intro q
    rw [Bool.and_eq_true, Bool.and_eq_true] at q
    exact absurd q.1.2 (by decide)
  show wpAny _ _ (if (((items.size : Int) - 1) == 0 && (-1 : Int) == 1 && (items.size - 1) == items.size) = true then _ else _) _ _ s
  rw [if_neg hno, pick_back items hn]
  first
    | exact wpAny_bind (m := Builtin.Tuple.tupleExact _) (wpAny_newObj_type (wpAny_pure ⟨_, rfl, wpAny_pure h⟩) htake)
    | exact wpAny_bind (m := Builtin.Tuple.tupleExact _) (wpAny_newObj_type (wpAny_bind (wpAny_pure (wpAny_pure ⟨_, rfl, wpAny_pure h⟩))) htake)
    | exact wpAny_bind (wpAny_bind (m := Builtin.Tuple.tupleExact _) (wpAny_newObj_type (wpAny_pure (wpAny_pure ⟨_, rfl, wpAny_pure h⟩)) htake))
    | exact wpAny_bind (wpAny_bind (m := Builtin.Tuple.tupleExact _) (wpAny_newObj_type (wpAny_pure ⟨_, rfl, wpAny_pure h⟩) htake))
end
/-- t[:0:-1] -/
def tBack (K : PySem.W.Frag) (te : TE) : TE := fun σ H Q => te σ H fun x H1 => ∃ a xs, x = .ref a ∧ SqT K H1 a xs ∧ 1 ≤ xs.length ∧ ∀ p, H1 p = none → Q (.ref p) (upd H1 p (.tup (xs.drop 1).reverse))
theorem pe_back {X : Cx} {e : Expr} {te : TE} {k k0 : Nat} {p0 p1 p2 p3 pos : Pos} (he : PE X e te) : PE X (.Subscript e (.Slice none (some (.Constant (.int 0) k0 p0)) (some (.UnaryOp .USub (.Constant (.int 1) k p1) p2)) p3) pos) (tBack X.K te) := by
  refine ⟨fun pins s σ H Q I h => ?_⟩
  refine Subscript_ (thn (he.run pins s σ H _ I h) fun v s1 ⟨x, H1, I1, r1, q1⟩ => ?_)
  obtain ⟨a, xs, ex, hx, hn, q⟩ := q1
  subst ex
  cases r1
  have hup : PO X (some (.Constant (.int 0) k0 p0)) (tPart (tC (.int 0))) := po_some pe_int
  have hst : PO X (some (.UnaryOp .USub (.Constant (.int 1) k p1) p2)) (tPart (tUn (rU fun i => .int (-i)) (tC (.int 1)))) := po_some (pe_un un_neg pe_int)
  refine wpAny_Slice (thn (po_none.run pins s1 σ H1 (fun o H2 => o = none ∧ H2 = H1) I1 ⟨rfl, rfl⟩) fun vl s2 ⟨l, H2, I2, pl, el, e2⟩ => ?_)
  subst el e2
  refine thn (hup.run pins s2 σ H2 (fun o H3 => o = some 0 ∧ H3 = H2) I2 ⟨0, rfl, rfl, rfl⟩) fun vu s3 ⟨u, H3, I3, pu, eu, e3⟩ => ?_
  subst eu e3
  refine thn (hst.run pins s3 σ H3 (fun o H4 => o = some (-1) ∧ H4 = H3) I3 ⟨1, rfl, -1, rfl, rfl, rfl⟩) fun vs s4 ⟨o, H4, I4, ps, eo, e4⟩ => ?_
  subst eo e4
  cases pl
  have I5 : Inv X pins σ H4 { s4 with heap := s4.heap.push { cls := .type "slice", data := .fields #[.none, vu, vs] } } := I4.kept (t' := s4.toks) fun b ob q => Heap.get?_push_of_some _ q
  obtain ⟨its, r, ht, hz⟩ := I5.tuple hx
  have hlen := r.length
  show wpAny (model X.prog X.w) X.A (subscriptTail e (.Slice none (some (.Constant (.int 0) k0 p0)) (some (.UnaryOp .USub (.Constant (.int 1) k p1) p2)) p3) (.ref a) (.ref s4.heap.objs.size)) (EP X pins σ Q) X.xe { s4 with heap := s4.heap.push { cls := .type "slice", data := .fields #[.none, vu, vs] } }
  refine tail_any (ops := [.ref a, .ref s4.heap.objs.size]) ht.typeIs (PyProof.Rows.slot_tuple_getitem.lookup) ?_ (by with_unfolding_all rfl)
  refine getItem_tuple_back ht (Heap.IsSliceOf.new _ .none vu vs) pu ps (by rw [List.size_toArray]; omega) ?_ (by rw [List.size_toArray]; omega)
  refine ⟨.ref _, _, I5.laid (t' := s4.toks) (o := .tup (xs.drop 1).reverse) (fun b ob q => Heap.get?_push_of_some _ q) (Nat.le_refl _) ?_, rfl, q _ (I5.hok.fresh (Nat.le_refl _))⟩
  exact ⟨by rw [List.length_reverse, List.length_drop]; omega, _, (r.drop 1).reverse, IsTup.new _ _⟩
end Fm
set_option maxRecDepth 100000
set_option maxHeartbeats 2000000
/-! Fm: terms and what is in them, as trees. -/
namespace Fm
open PySem PySem.Spec PyProof.Rows L2
mutual
/-- a term and each part in it, from left to right -/
def flat : D → List D
  | .tup ds => .tup ds :: flatT ds
  | d => [d]
def flatT : List D → List D
  | [] => []
  | _ :: r => flats r
def flats : List D → List D
  | [] => []
  | d :: r => flat d ++ flats r
end
theorem flats_app (a b : List D) : flats (a ++ b) = flats a ++ flats b := by
  induction a with
  | nil => simp [flats]
  | cons x r ih => simp only [List.cons_append, flats, ih, List.append_assoc]
mutual
theorem flat_len : ∀ d : D, (flat d).length ≤ d.size
  | .non => by simp [flat, D.size]
  | .bl _ => by simp [flat, D.size]
  | .int _ => by simp [flat, D.size]
  | .str _ => by simp [flat, D.size]
  | .dic => by simp [flat, D.size]
  | .lst _ => by simp [flat, D.size]
  | .tup ds => by
    have := flatT_len ds
    simp only [flat, D.size, List.length_cons]
    omega
theorem flatT_len : ∀ ds : List D, (flatT ds).length ≤ sizes ds
  | [] => by simp [flatT]
  | x :: r => by
    have := flats_len r
    simp only [flatT, sizes]
    omega
theorem flats_len : ∀ ds : List D, (flats ds).length ≤ sizes ds
  | [] => by simp [flats]
  | x :: r => by
    have h1 := flat_len x
    have h2 := flats_len r
    simp only [flats, sizes, List.length_append]
    omega
end
theorem DvL.rev {H : Hp} {vs : List V} {ds : List D} (h : DvL H vs ds) : DvL H vs.reverse ds.reverse := by
  induction vs generalizing ds with
  | nil => cases h; exact .nil
  | cons v r ih =>
    cases h with
    | cons a b =>
      rw [List.reverse_cons, List.reverse_cons]
      exact (ih b).app (.cons a .nil)
theorem sizes_rev (ds : List D) : sizes ds.reverse = sizes ds := by
  induction ds with
  | nil => rfl
  | cons x r ih => rw [List.reverse_cons, sizes_app, ih]; simp only [sizes]; omega
theorem hu1 {k : Nat} {A : Around} (hr : Room k A) : A.units + 1 < cLine := by have := hr.units; omega
theorem hu0 {k : Nat} {A : Around} (hr : Room k A) : A.units < cLine := by have := hr.units; omega
/-- laid_out: what is told stands where the terms stand -/
def spLaid (K : PySem.W.Frag) : Sp := fun vs H Q _ => ∃ Hb a us ds, vs = [.ref a] ∧ Same Hb H ∧ (SqL K H a us ∨ SqT K H a us) ∧ DvL Hb us ds ∧ (∀ d ∈ ds, Tm d) ∧ sizes ds ≤ 100000 ∧
  ∀ l H' ws, Same H H' → H l = none → H' l = some (.lst ws) → DvL Hb ws (flats ds) → Q (.ref l) H'

/-! ### nodes -/
def parts : D → List D
  | .tup (_ :: r) => r
  | _ => []
theorem flat_eq (d : D) : flat d = d :: flats (parts d) := by
  cases d with
  | tup ds => cases ds <;> simp [flat, flatT, parts, flats]
  | _ => simp [flat, parts, flats]
theorem flats_cons (d : D) (ds : List D) : flats (d :: ds) = d :: flats (parts d ++ ds) := by
  rw [flats_app]
  simp only [flats, flat_eq d, List.cons_append]
theorem flats_split {t : D} {suf : List D} : ∀ {pre ds : List D}, flats ds = pre ++ t :: suf → ∃ rest, suf = flats (parts t ++ rest)
  | [], [], h => by simp [flats] at h
  | [], d :: r, h => by
    rw [flats_cons, List.nil_append] at h
    injection h with h1 h2
    subst h1
    exact ⟨r, h2.symm⟩
  | p :: pre, [], h => by simp [flats] at h
  | p :: pre, d :: r, h => by
    rw [flats_cons, List.cons_append] at h
    injection h with h1 h2
    exact flats_split h2
theorem flats_inj : ∀ {es fs : List D}, flats es = flats fs → es = fs
  | [], [], _ => rfl
  | [], f :: fs, h => by rw [flats_cons] at h; simp [flats] at h
  | e :: es, [], h => by rw [flats_cons] at h; simp [flats] at h
  | e :: es, f :: fs, h => by
    rw [flats_cons, flats_cons] at h
    injection h with h1 h2
    subst h1
    rw [flats_app, flats_app] at h2
    rw [flats_inj (List.append_cancel_left h2)]
/-- the terms at these places -/
inductive Ats (ts : List D) : List Nat → List D → Prop
  | nil : Ats ts [] []
  | cons {j : Nat} {d : D} {js : List Nat} {ds : List D} : ts[j]? = some d → Ats ts js ds → Ats ts (j :: js) (d :: ds)
theorem Ats.len {ts : List D} {js : List Nat} {ds : List D} (h : Ats ts js ds) : js.length = ds.length := by
  induction h with
  | nil => rfl
  | cons _ _ ih => simp [ih]
theorem Ats.app {ts : List D} {js ks : List Nat} {ds es : List D} (h : Ats ts js ds) (g : Ats ts ks es) : Ats ts (js ++ ks) (ds ++ es) := by
  induction h with
  | nil => exact g
  | cons a _ ih => exact .cons a ih
theorem Ats.mono {ts us : List D} {js : List Nat} {ds : List D} (h : Ats ts js ds) (k : ∀ (j : Nat) (d : D), ts[j]? = some d → us[j]? = some d) : Ats us js ds := by
  induction h with
  | nil => exact .nil
  | cons a _ ih => exact .cons (k _ _ a) ih
theorem Ats.split {ts : List D} {js : List Nat} {ds es : List D} (h : Ats ts js (ds ++ es)) : Ats ts (js.take ds.length) ds ∧ Ats ts (js.drop ds.length) es := by
  induction ds generalizing js with
  | nil => exact ⟨.nil, h⟩
  | cons d r ih =>
    cases h with
    | cons a b => exact ⟨.cons a (ih b).1, (ih b).2⟩
theorem Ats.same {ts us : List D} {js : List Nat} {ds es : List D} (h : Ats ts js ds) (g : Ats us js es) (k : ∀ (j : Nat) (d : D), ts[j]? = some d → us[j]? = some d) : ds = es := by
  induction h generalizing es with
  | nil => cases g; rfl
  | cons a _ ih =>
    cases g with
    | cons b c =>
      rw [k _ _ a] at b
      injection b with b
      rw [b, ih c]
theorem Ats.inj {ts : List D} (nd : ts.Nodup) {js ks : List Nat} {ds : List D} (h : Ats ts js ds) (g : Ats ts ks ds) : js = ks := by
  induction h generalizing ks with
  | nil => cases g; rfl
  | cons a _ ih =>
    cases g with
    | cons b c =>
      rw [(List.getElem?_inj (List.getElem?_eq_some_iff.mp a).1 nd).mp (a.trans b.symm), ih c]
theorem Ats.get {ts : List D} {js : List Nat} {ds : List D} (h : Ats ts js ds) {i j : Nat} (e : js[i]? = some j) : ∃ d, ds[i]? = some d ∧ ts[j]? = some d := by
  induction h generalizing i with
  | nil => simp at e
  | cons a _ ih =>
    cases i with
    | zero => simp at e; subst e; exact ⟨_, rfl, a⟩
    | succ i =>
      obtain ⟨d, h1, h2⟩ := ih (i := i) (by simpa using e)
      exact ⟨d, by simpa using h1, h2⟩
def kI (j : Nat) : L2.Key := .inl (j : Int)
/-- the key of a term's node -/
inductive KeyOf (ts : List D) : List L2.Key → D → Prop
  | int (u : Int) : KeyOf ts [.inl u] (.int u)
  | tup (x : Str) (js : List Nat) (ds : List D) : PyData.strOk x = true → ds.length ≤ 100000 → Ats ts js ds → KeyOf ts (.inr x :: js.map kI) (.tup (.str x :: ds))
theorem keys_inj {js ks : List Nat} (h : js.map kI = ks.map kI) : js = ks := by
  refine (List.map_inj_right (f := kI) ?_).mp h
  intro a b e
  have := Sum.inl.inj e
  omega
theorem KeyOf.mono {ts us : List D} {k : List L2.Key} {d : D} (h : KeyOf ts k d) (m : ∀ (j : Nat) (d : D), ts[j]? = some d → us[j]? = some d) : KeyOf us k d := by
  cases h with
  | int u => exact .int u
  | tup x js ds o z a => exact .tup x js ds o z (a.mono m)
theorem KeyOf.fn {ts : List D} {k : List L2.Key} {d e : D} (h : KeyOf ts k d) (g : KeyOf ts k e) : d = e := by
  cases h with
  | int u => cases g; rfl
  | tup x js ds _ _ a =>
    generalize hk : ((Sum.inr x : L2.Key) :: js.map kI) = k' at g
    cases g with
    | int u => simp at hk
    | tup y ks es _ _ b =>
      injection hk with h1 h2
      injection h1 with h1
      have h3 := keys_inj h2
      subst h1 h3
      rw [a.same b (fun _ _ e => e)]
theorem KeyOf.inj {ts : List D} (nd : ts.Nodup) {k l : List L2.Key} {d : D} (h : KeyOf ts k d) (g : KeyOf ts l d) : k = l := by
  cases h with
  | int u => cases g; rfl
  | tup x js ds _ _ a =>
    cases g with
    | tup _ ks _ _ _ b => rw [a.inj nd b]
theorem take_get {ts : List D} {n j : Nat} {d : D} (h : (ts.take n)[j]? = some d) : ts[j]? = some d := by
  rw [List.getElem?_take] at h
  split at h
  · exact h
  · cases h
theorem app_get {ts us : List D} {j : Nat} {d : D} (h : ts[j]? = some d) : (ts ++ us)[j]? = some d := by
  rw [List.getElem?_append_left (List.getElem?_eq_some_iff.mp h).1]
  exact h
/-- a dict's entries are the nodes of these terms -/
structure NodesK (kvs : List (List L2.Key × V)) (ts : List D) : Prop where
  len : kvs.length = ts.length
  val : ∀ (n : Nat) (k : List L2.Key) (v : V), kvs[n]? = some (k, v) → v = .int (n : Int)
  key : ∀ (n : Nat) (k : List L2.Key) (v : V) (d : D), kvs[n]? = some (k, v) → ts[n]? = some d → KeyOf (ts.take n) k d
  nd : ts.Nodup
theorem valV_at {kvs : List (List L2.Key × V)} {k : List L2.Key} {v : V} (h : valV kvs k = some v) : ∃ n : Nat, kvs[n]? = some (k, v) := by
  unfold valV at h
  obtain ⟨⟨k', v'⟩, h1, h2⟩ := Option.map_eq_some_iff.mp h
  have h3 := List.find?_some h1
  simp only [decide_eq_true_eq] at h3 h2
  subst h3 h2
  exact List.mem_iff_getElem?.mp (List.mem_of_find?_eq_some h1)
theorem valV_none {kvs : List (List L2.Key × V)} {k : List L2.Key} (h : valV kvs k = none) {n : Nat} {v : V} : kvs[n]? ≠ some (k, v) := by
  intro e
  unfold valV at h
  rw [Option.map_eq_none_iff, List.find?_eq_none] at h
  have := h _ (List.mem_of_getElem? e)
  simp at this
theorem NodesK.nil : NodesK [] [] := ⟨rfl, fun _ _ _ h => by simp at h, fun _ _ _ _ h => by simp at h, List.nodup_nil⟩
theorem NodesK.old {kvs : List (List L2.Key × V)} {ts : List D} {k : List L2.Key} {v : V} {d : D} (N : NodesK kvs ts) (g : KeyOf ts k d) (h : valV kvs k = some v) : ∃ n : Nat, v = .int (n : Int) ∧ ts[n]? = some d := by
  obtain ⟨n, e⟩ := valV_at h
  have lt : n < ts.length := by
    have := (List.getElem?_eq_some_iff.mp e).1
    rw [N.len] at this
    exact this
  refine ⟨n, N.val _ _ _ e, ?_⟩
  have e2 : ts[n]? = some ts[n] := List.getElem?_eq_getElem lt
  have := (N.key _ _ _ _ e e2).mono (fun _ _ => take_get)
  rw [g.fn this]
  exact e2
theorem NodesK.new {kvs : List (List L2.Key × V)} {ts : List D} {k : List L2.Key} {d : D} (N : NodesK kvs ts) (g : KeyOf ts k d) (h : valV kvs k = none) : NodesK (kvs ++ [(k, .int (kvs.length : Int))]) (ts ++ [d]) := by
  have hd : d ∉ ts := by
    intro hm
    obtain ⟨n, e⟩ := List.mem_iff_getElem?.mp hm
    have lt : n < kvs.length := by
      rw [N.len]
      exact (List.getElem?_eq_some_iff.mp e).1
    have e2 : kvs[n]? = some (kvs[n].1, kvs[n].2) := List.getElem?_eq_getElem lt
    have g2 := (N.key _ _ _ _ e2 e).mono (fun _ _ => take_get)
    rw [g.inj N.nd g2] at h
    exact valV_none h e2
  refine ⟨by simp [N.len], ?_, ?_, ?_⟩
  · intro n k' v e
    by_cases lt : n < kvs.length
    · rw [List.getElem?_append_left lt] at e
      exact N.val _ _ _ e
    · rw [List.getElem?_append_right (by omega)] at e
      have : n - kvs.length = 0 := by
        have := (List.getElem?_eq_some_iff.mp e).1
        simp at this
        omega
      rw [this] at e
      simp at e
      rw [← e.2, show n = kvs.length by omega]
  · intro n k' v d' e f
    by_cases lt : n < kvs.length
    · rw [List.getElem?_append_left lt] at e
      rw [List.getElem?_append_left (by rw [← N.len]; exact lt)] at f
      rw [List.take_append_of_le_length (by rw [← N.len]; omega)]
      exact N.key _ _ _ _ e f
    · rw [List.getElem?_append_right (by omega)] at e
      rw [List.getElem?_append_right (by rw [← N.len]; omega)] at f
      have z : n - kvs.length = 0 := by
        have := (List.getElem?_eq_some_iff.mp e).1
        simp at this
        omega
      have z2 : n - ts.length = 0 := by rw [← N.len]; exact z
      rw [z] at e
      rw [z2] at f
      simp at e f
      rw [← e.1, ← f, show n = ts.length by rw [← N.len]; omega, List.take_left]
      exact g
  · rw [List.nodup_append]
    refine ⟨N.nd, by simp, ?_⟩
    intro a ha b hb
    simp at hb
    subst hb
    rintro rfl
    exact hd ha
/-- these tuples are the nodes of these terms -/
structure Nodes (H : Hp) (bs : List Addr) (ts : List D) : Prop where
  len : bs.length = ts.length
  node : ∀ (n : Nat) (b : Addr) (d : D), bs[n]? = some b → ts[n]? = some d → ∃ k, H b = some (.tup (k.map kV)) ∧ KeyOf (ts.take n) k d
  nd : ts.Nodup
theorem Nodes.same {H H' : Hp} {bs : List Addr} {ts : List D} (N : Nodes H bs ts) (k : Same H H') : Nodes H' bs ts :=
  ⟨N.len, fun n b d e f => let ⟨c, h1, h2⟩ := N.node n b d e f; ⟨c, k _ _ h1, h2⟩, N.nd⟩
theorem paired_get {α β : Type} {R : α → β → Prop} : ∀ {xs : List α} {ys : List β}, Paired R xs ys → ∀ (n : Nat) (y : β), ys[n]? = some y → ∃ x, xs[n]? = some x ∧ R x y
  | _, _, .nil, n, y, h => by simp at h
  | _, _, .cons a b, 0, y, h => by simp at h; subst h; exact ⟨_, rfl, a⟩
  | _, _, .cons a b, n + 1, y, h => by
    obtain ⟨x, h1, h2⟩ := paired_get b n y (by simpa using h)
    exact ⟨x, by simpa using h1, h2⟩
theorem NodesK.nodes {H : Hp} {kvs : List (List L2.Key × V)} {ts : List D} {bs : List Addr} (N : NodesK kvs ts) (h : IsKeys H kvs bs) : Nodes H bs ts := by
  refine ⟨by rw [← Paired.length h, N.len], fun n b d e f => ?_, N.nd⟩
  obtain ⟨⟨k, v⟩, h1, h2⟩ := paired_get h n b e
  exact ⟨k, h2, N.key _ _ _ _ h1 f⟩
theorem len_flats (ds : List D) : ds.length ≤ (flats ds).length := by
  induction ds with
  | nil => simp
  | cons d r ih =>
    rw [flats_cons, List.length_cons, List.length_cons, flats_app, List.length_append]
    omega
theorem flats_tm_go : ∀ (n : Nat) (ds : List D), (flats ds).length ≤ n → (∀ d ∈ ds, Tm d) → ∀ d ∈ flats ds, Tm d
  | _, [], _, _, d, h => by simp [flats] at h
  | 0, d :: r, hn, _, _, _ => by rw [flats_cons] at hn; simp at hn
  | n + 1, d :: r, hn, hm, e, he => by
    rw [flats_cons] at hn he
    rw [List.length_cons] at hn
    rcases List.mem_cons.mp he with rfl | he
    · exact hm _ List.mem_cons_self
    · refine flats_tm_go n _ (by omega) (fun f hf => ?_) e he
      rcases List.mem_append.mp hf with h | h
      · have := hm d List.mem_cons_self
        cases this with
        | int i => simp [parts] at h
        | tup x rs hr => exact hr f h
      · exact hm f (List.mem_cons_of_mem _ h)
theorem flats_tm {ds : List D} (h : ∀ d ∈ ds, Tm d) : ∀ d ∈ flats ds, Tm d := flats_tm_go _ ds (Nat.le_refl _) h
def vI (j : Nat) : V := .int (j : Int)
theorem pop_rev {js : List Nat} {j : Nat} (h : j < js.length) : ((js.drop j).reverse.map vI)[((js.drop j).reverse.map vI).length - 1]? = some (vI js[j]) ∧ ((js.drop j).reverse.map vI).dropLast = (js.drop (j + 1)).reverse.map vI := by
  rw [List.drop_eq_getElem_cons h, List.reverse_cons, List.map_append, List.map_singleton]
  refine ⟨?_, List.dropLast_concat⟩
  rw [List.length_append, List.length_singleton, Nat.add_sub_cancel, List.getElem?_append_right (Nat.le_refl _), Nat.sub_self]
  rfl
theorem kV_kI (js : List Nat) : (js.map kI).map kV = js.map vI := by
  rw [List.map_map]
  rfl
/-- shared -/
def spShared (K : PySem.W.Frag) : Sp := fun vs H Q _ => ∃ a us ds, vs = [.ref a] ∧ (SqL K H a us ∨ SqT K H a us) ∧ DvL H us ds ∧ (∀ d ∈ ds, Tm d) ∧ sizes ds ≤ 100000 ∧
  ∀ (p l1 l2 : Addr) (H' : Hp) (bs : List Addr) (ts : List D) (js : List Nat), Same H H' → H' p = some (.tup [.ref l1, .ref l2]) → H' l1 = some (.lst (bs.map V.ref)) → H' l2 = some (.lst (js.map vI)) → Nodes H' bs ts → Ats ts js ds → ts.length ≤ 100000 → (∀ t ∈ ts, t ∈ flats ds) → js.length ≤ 100000 → Q (.ref p) H'

/-! ### values put in -/
mutual
/-- the term in which each unknown is replaced -/
def putD (f : Int → D) : D → D
  | .int u => f u
  | .tup ds => .tup (putT f ds)
  | d => d
def putT (f : Int → D) : List D → List D
  | [] => []
  | x :: r => x :: puts f r
def puts (f : Int → D) : List D → List D
  | [] => []
  | d :: r => putD f d :: puts f r
end
theorem puts_map (f : Int → D) (ds : List D) : puts f ds = ds.map (putD f) := by
  induction ds with
  | nil => rfl
  | cons d r ih => rw [List.map_cons, puts, ih]
/-- values[u] -/
def Look (K : PySem.W.Frag) (H : Hp) (va : V) (u : Int) (v : V) : Prop := (∃ a xs, va = .ref a ∧ (SqL K H a xs ∨ SqT K H a xs) ∧ atI xs u = some v) ∨ ∃ a kvs, va = .ref a ∧ H a = some (.dK kvs) ∧ valV kvs (.inl u) = some v
theorem Look.same {K : PySem.W.Frag} {H H' : Hp} {va v : V} {u : Int} (h : Look K H va u v) (k : Same H H') : Look K H' va u v := by
  rcases h with ⟨a, xs, e, s, g⟩ | ⟨a, kvs, e, s, g⟩
  · exact .inl ⟨a, xs, e, s.imp (Evl.ex_l k) (Evl.ex_t k), g⟩
  · exact .inr ⟨a, kvs, e, k _ _ s, g⟩
section
variable {X : Cx} {e : Expr}
theorem pe_alt {t1 t2 : TE} (h1 : PE X e t1) (h2 : PE X e t2) : PE X e (fun σ H Q => t1 σ H Q ∨ t2 σ H Q) :=
  ⟨fun pins s σ H Q I h => h.elim (h1.run pins s σ H Q I) (h2.run pins s σ H Q I)⟩
end
theorem mon_ixT {K : PySem.W.Frag} {i : Nat} {y : V} : MonE (tOp (rIxT K) (tVar i) (tC y)) := by
  rintro σ H Q Q' k ⟨v, e, p, xs, j, z, h1, h2, h3, h4, q⟩
  exact ⟨v, e, p, xs, j, z, h1, h2, h3, h4, k _ _ q⟩
theorem DvL.map {H : Hp} {α : Type} {f : α → V} {g : α → D} : ∀ {as : List α}, (∀ a ∈ as, Dv H (f a) (g a)) → DvL H (as.map f) (as.map g)
  | [], _ => .nil
  | a :: r, h => .cons (h a List.mem_cons_self) (DvL.map fun b hb => h b (List.mem_cons_of_mem _ hb))
theorem DvL.snoc {H : Hp} {vs : List V} {ds : List D} {v : V} {d : D} (h : DvL H vs ds) (g : Dv H v d) : DvL H (vs ++ [v]) (ds ++ [d]) := h.app (.cons g .nil)
theorem dvl_ints {H : Hp} (js : List Nat) : DvL H (js.map vI) (js.map fun j : Nat => D.int (j : Int)) := DvL.map fun _ _ => .int _
/-- what is made of the terms at these places -/
def atV (mv : List V) : D → V
  | .int j => mv.getD j.toNat .non
  | _ => .non
theorem atV_get {mv : List V} {j : Nat} (h : j < mv.length) : mv[j]? = some (atV mv (.int (j : Int))) := by
  show mv[j]? = some (mv.getD (j : Int).toNat .non)
  rw [Int.toNat_natCast, List.getD_eq_getElem?_getD, List.getElem?_eq_getElem h]
  rfl
theorem made_parts {H : Hp} {ts : List D} {i : Nat} {f : Int → D} {mv : List V} (hm : DvL H mv ((ts.take i).map (putD f))) {js : List Nat} {ds : List D} (h : Ats (ts.take i) js ds) :
    DvL H ((js.map fun j : Nat => D.int (j : Int)).map (atV mv)) (puts f ds) := by
  induction h with
  | nil => exact .nil
  | @cons j d js ds a _ ih =>
    have e : ((ts.take i).map (putD f))[j]? = some (putD f d) := by rw [List.getElem?_map, a]; rfl
    obtain ⟨v, e1, e2⟩ := hm.getD e
    have lt := (List.getElem?_eq_some_iff.mp e1).1
    have e3 := atV_get lt
    rw [e1] at e3
    injection e3 with e3
    refine .cons ?_ ih
    show Dv H (atV mv (.int (j : Int))) (putD f d)
    rw [← e3]
    exact e2
/-- filled -/
def spFilled (K : PySem.W.Frag) : Sp := fun vs H Q _ => ∃ (l : Addr) (va : V) (bs : List Addr) (ts : List D) (f : Int → D), vs = [.ref l, va] ∧ H l = some (.lst (bs.map V.ref)) ∧ Nodes H bs ts ∧ ts.length ≤ 100000 ∧
  (∀ u, D.int u ∈ ts → ∃ v, Look K H va u v ∧ Dv H v (f u)) ∧ ∀ (m : Addr) (H' : Hp) (ws : List V), Same H H' → H' m = some (.lst ws) → DvL H' ws (ts.map (putD f)) → Q (.ref m) H'
theorem same_mask {H H' : Hp} {m : Addr} (k : Same H H') (h : H m = none) : Same H (mask m H') := fun a o e => by
  rw [mask_ne (ne_of_none e h)]
  exact k _ _ e
theorem mask_same2 {H H' : Hp} {m : Addr} (k : Same H H') : Same (mask m H) (mask m H') := fun a o e => by
  by_cases z : a = m
  · rw [z] at e
    simp [mask] at e
  · rw [mask_ne z] at e ⊢
    exact k _ _ e
theorem ats_sub {ts : List D} {js : List Nat} {ds : List D} (h : Ats ts js ds) : ∀ j ∈ js, j < ts.length := by
  induction h with
  | nil => exact fun _ h => by cases h
  | cons a _ ih =>
    intro j hj
    rcases List.mem_cons.mp hj with rfl | hj
    · exact (List.getElem?_eq_some_iff.mp a).1
    · exact ih j hj
/-- put_all -/
def spPutAll (K : PySem.W.Frag) : Sp := fun vs H Q _ => ∃ (a : Addr) (va : V) (us : List V) (ds : List D) (f : Int → D), vs = [.ref a, va] ∧ (SqL K H a us ∨ SqT K H a us) ∧ DvL H us ds ∧ (∀ d ∈ ds, Tm d) ∧ sizes ds ≤ 100000 ∧
  (∀ u, D.int u ∈ flats ds → ∃ v, Look K H va u v ∧ Dv H v (f u)) ∧ ∀ (m : Addr) (H' : Hp) (ws : List V), Same H H' → H m = none → H' m = some (.lst ws) → DvL (mask m H') ws (puts f ds) → Q (.ref m) H'
/-- put -/
def spPut (K : PySem.W.Frag) : Sp := fun vs H Q _ => ∃ (v va : V) (d : D) (f : Int → D), vs = [v, va] ∧ Dv H v d ∧ Tm d ∧ d.size ≤ 100000 ∧
  (∀ u, D.int u ∈ flat d → ∃ v, Look K H va u v ∧ Dv H v (f u)) ∧ ∀ (v' : V) (H' : Hp), Same H H' → Dv H' v' (putD f d) → Q v' H'
/-- how many operations -/
def opsOf (ds : List D) : Nat := ((flats ds).filter isT).length
def spSize (K : PySem.W.Frag) : Sp := fun vs H Q _ => ∃ a us ds, vs = [.ref a] ∧ (SqL K H a us ∨ SqT K H a us) ∧ DvL H us ds ∧ (∀ d ∈ ds, Tm d) ∧ sizes ds ≤ 100000 ∧ ∀ H', Same H H' → Q (.int (opsOf ds : Nat)) H'
def atVV (mv : List V) : V → V
  | .int j => mv.getD j.toNat .non
  | _ => .non
theorem atVV_map (mv : List V) (js : List Nat) : (js.map vI).map (atVV mv) = (js.map fun j : Nat => D.int (j : Int)).map (atV mv) := by
  rw [List.map_map, List.map_map]
  rfl
theorem atVV_get {mv : List V} {j : Nat} (h : j < mv.length) : mv[j]? = some (atVV mv (vI j)) := atV_get h
/-- [x for x in xs if keep(x)] over a list of data -/
theorem lc_keep {K : PySem.W.Frag} {te : TE} {tt : TT} {σ : L2.St} {H Hb : Hp} {a : Addr} {xs : List V} {ds : List D} {j : Nat} {vs : List Nat} {Dl : Addr} {Qd : Hp → Prop} (keep : D → Bool) (hT : SqL K H a xs) (hd : DvL Hb xs ds) (hD : H Dl = none) (hz : xs.length ≤ 100000)
    (hw : ∀ x, wipe ((wipe σ vs).set j (some x)) vs = wipe σ vs)
    (he : ∀ (x : V) (d : D) (H' : Hp) (R : Bool → Hp → Prop), Same H H' → d ∈ ds → Dv Hb x d → R (keep d) H' → tt ((wipe σ vs).set j (some x)) H' R)
    (hv : ∀ (x : V) (H' : Hp) (R : VK), R x H' → te ((wipe σ vs).set j (some x)) H' R)
    (q : ∀ H' zs, Same H H' → H' Dl = some (.lst zs) → DvL Hb zs (ds.filter keep) → Qd H') :
    ∃ W : Nat → Nat → Hp → Prop, (∃ m, W 0 m (upd H Dl (.lst []))) ∧ ∀ i m H, W i m H → ((Itl K a).stop i H ∧ Qd H) ∨ ((Itl K a).go i H ∧ ∃ Nx : Hp → Prop, (∀ H', Nx H' → ∃ m', m' < m ∧ W (i + 1) m' H') ∧
      ∀ x H', (Itl K a).yld i H x H' → gName j x (wipe σ vs) H' fun σ2 H2 => wipe σ2 vs = wipe σ vs ∧ tt σ2 H2 fun b H3 => if b = true then te σ2 H3 fun y H4 => ∃ acc, H4 Dl = some (.lst acc) ∧ acc.length < sizeLine ∧ Nx (upd H4 Dl (.lst (acc ++ [y]))) else Nx H3) := by
  have hlen := hd.len
  refine lc_list (fun i H' => Same H H' ∧ ∃ zs, H' Dl = some (.lst zs) ∧ DvL Hb zs ((ds.take i).filter keep)) ⟨Same.new hD, [], upd_same, .nil⟩ (fun i H' _ h => Evl.ex_l h.1 hT) ?_ ?_
  · rintro i x H1 hx ⟨k, zs, hl, hz2⟩
    obtain ⟨d, e1, hd1⟩ := hd.get hx
    have zl := hz2.len
    have zl2 := List.length_filter_le keep (ds.take i)
    rw [List.length_take] at zl2
    refine ⟨hw _, he x d _ _ k (tk e1) hd1 (ite_b (fun c => ?_) (fun c => ?_))⟩
    · refine hv x H1 _ ⟨zs, hl, szl (by omega), Same.upd k hD, zs ++ [x], upd_same, ?_⟩
      rw [take_succ' e1, List.filter_append, List.filter_cons, if_pos c, List.filter_nil]
      exact hz2.snoc hd1
    · refine ⟨k, zs, hl, ?_⟩
      rw [take_succ' e1, List.filter_append, List.filter_cons, if_neg (by rw [c]; decide), List.filter_nil, List.append_nil]
      exact hz2
  · rintro H' ⟨k, zs, hl, hz2⟩
    have : ds.take xs.length = ds := List.take_of_length_le (by omega)
    rw [this] at hz2
    exact q H' zs k hl hz2

/-! ### unknowns in their order -/
def intOf : D → Option Int
  | .int u => some u
  | _ => none
/-- the unknowns of terms from left to right -/
def leaves (ds : List D) : List Int := (flats ds).filterMap intOf
def addI (us : List Int) (u : Int) : List Int := if u ∈ us then us else us ++ [u]
/-- the different ones, in the order of their first places -/
def firstsOf (ds : List D) : List Int := (leaves ds).foldl addI []
def ordK : List Int → Nat → List (L2.Key × V)
  | [], _ => []
  | u :: r, n => (.inl u, .int (n : Int)) :: ordK r (n + 1)
theorem ordK_len (us : List Int) (n : Nat) : (ordK us n).length = us.length := by
  induction us generalizing n with
  | nil => rfl
  | cons u r ih => simp [ordK, ih]
theorem ordK_app (us : List Int) (u : Int) (n : Nat) : ordK (us ++ [u]) n = ordK us n ++ [(.inl u, .int ((n + us.length : Nat) : Int))] := by
  induction us generalizing n with
  | nil => rfl
  | cons v r ih =>
    simp only [List.cons_append, ordK, ih, List.length_cons]
    congr 3
    simp only [List.cons.injEq, Prod.mk.injEq, true_and, and_true]
    congr 2
    omega
theorem ordK_val (us : List Int) (u : Int) (n : Nat) : valV (ordK us n) (.inl u) = if u ∈ us then some (.int ((n + us.idxOf u : Nat) : Int)) else none := by
  induction us generalizing n with
  | nil => rfl
  | cons v r ih =>
    by_cases e : v = u
    · subst e
      rw [ordK, valV_pos rfl, if_pos List.mem_cons_self, List.idxOf_cons_self]
      rfl
    · have e2 : ¬ ((Sum.inl v : L2.Key) = .inl u) := fun z => e (Sum.inl.inj z)
      rw [ordK, valV_neg e2, ih]
      have e3 : (u ∈ v :: r) ↔ u ∈ r := by simp [Ne.symm e]
      by_cases m : u ∈ r
      · have e4 : (v :: r).idxOf u = r.idxOf u + 1 := by
          rw [List.idxOf_cons, show (v == u) = false from by simpa using e]
          rfl
        rw [if_pos m, if_pos (e3.mpr m), e4]
        congr 3
        omega
      · rw [if_neg m, if_neg (fun z => m (e3.mp z))]
theorem addI_mem {us : List Int} {u v : Int} : v ∈ addI us u ↔ v ∈ us ∨ v = u := by
  unfold addI
  split
  · constructor
    · exact .inl
    · rintro (h | rfl)
      · exact h
      · assumption
  · simp
theorem foldl_addI_mem {ls us : List Int} {v : Int} : v ∈ ls.foldl addI us ↔ v ∈ us ∨ v ∈ ls := by
  induction ls generalizing us with
  | nil => simp
  | cons u r ih =>
    rw [List.foldl_cons, ih, addI_mem, List.mem_cons]
    constructor
    · rintro ((h | h) | h)
      · exact .inl h
      · exact .inr (.inl h)
      · exact .inr (.inr h)
    · rintro (h | h | h)
      · exact .inl (.inl h)
      · exact .inl (.inr h)
      · exact .inr h
theorem firstsOf_mem {ds : List D} {u : Int} : u ∈ firstsOf ds ↔ D.int u ∈ flats ds := by
  unfold firstsOf leaves
  rw [foldl_addI_mem]
  simp only [List.not_mem_nil, false_or, List.mem_filterMap]
  constructor
  · rintro ⟨d, h1, h2⟩
    cases d <;> simp [intOf] at h2
    subst h2
    exact h1
  · exact fun h => ⟨_, h, rfl⟩
theorem addI_len (us : List Int) (u : Int) : (addI us u).length ≤ us.length + 1 := by
  unfold addI
  split <;> simp
theorem foldl_addI_len (ls us : List Int) : (ls.foldl addI us).length ≤ us.length + ls.length := by
  induction ls generalizing us with
  | nil => simp
  | cons u r ih =>
    have h1 := ih (addI us u)
    have h2 := addI_len us u
    rw [List.foldl_cons, List.length_cons]
    omega
/-- the number of an unknown -/
def numF (ds : List D) (u : Int) : D := .int ((firstsOf ds).idxOf u : Nat)
def spNumbered (K : PySem.W.Frag) : Sp := fun vs H Q _ => ∃ (a : Addr) (us : List V) (ds : List D), vs = [.ref a] ∧ (SqL K H a us ∨ SqT K H a us) ∧ DvL H us ds ∧ (∀ d ∈ ds, Tm d) ∧ sizes ds ≤ 100000 ∧
  ∀ (m : Addr) (H' : Hp) (ws : List V), Same H H' → H m = none → H' m = some (.lst ws) → DvL (mask m H') ws (puts (numF ds) ds) → Q (.ref m) H'
end Fm
set_option maxRecDepth 100000
set_option maxHeartbeats 2000000
/-! Fm: set comprehensions over any kind of tracked sets; sets of ints. -/
namespace Fm
open PySem PySem.Spec PyProof.Rows L2 PpSet
/-- what a new set's object is -/
abbrev noSet (w : World) : Obj := { cls := .type "set", dict := none, data := .set #[] 0 (.fresh 0 0 (!w.params.followText "set-order")) }
/-- a kind of tracked sets: states, the empty one, what adding a value makes of a state -/
structure SetK' (P : Program) (w : World) (S : Type) where
  obj : Addr → S → HO
  init : S
  step : S → V → S → Prop
  fresh : ∀ (H : Hp) (h : Heap), ObjOk P w H (h.push (noSet w)) h.objs.size (obj h.objs.size init)
  add : ∀ (X : Cx), X.prog = P → X.w = w → ∀ {pins : List (Addr × Obj)} {σ : L2.St} {H : Hp} {s : Shared} {E : Value → Shared → Prop} {D : Addr} {a b : S} {y : V} {u : Value} {Q : Value → Shared → Prop}, Inv X pins σ H s → H D = some (obj D a) → RelV y u → step a y b →
    (∀ s', Inv X pins σ (upd H D (obj D b)) s' → Q .none s') → wpAny (model X.prog X.w) X.A (call (.builtin "set.add") [.ref D, u]) Q E s
section
variable {X : Cx} {S : Type}
/-- {elt for target in iter if ..}: D the new set, W by the turn and a measure -/
def tSetC (k : SetK' X.prog X.w S) (wi : TI) (g : TG) (tt : TT) (te : TE) (vs : List Nat) : TE := fun σ H Q => wi σ H fun J H1 => ∀ D, H1 D = none → ∃ W : Nat → Nat → Hp → Prop, (∃ m, W 0 m (upd H1 D (k.obj D k.init))) ∧ ∀ i m H, W i m H →
  (J.stop i H ∧ Q (.ref D) H) ∨ (J.go i H ∧ ∃ Nx : Hp → Prop, (∀ H', Nx H' → ∃ m', m' < m ∧ W (i + 1) m' H') ∧ ∀ x H', J.yld i H x H' → g x (wipe σ vs) H' fun σ2 H2 => wipe σ2 vs = wipe σ vs ∧ tt σ2 H2 fun b H3 =>
    if b = true then te σ2 H3 fun y H4 => ∃ a b, H4 D = some (k.obj D a) ∧ k.step a y b ∧ Nx (upd H4 D (k.obj D b)) else Nx H3)
theorem pe_setC (k : SetK' X.prog X.w S) {elt tg iter : Expr} {ifs : List Expr} {scope : Scope} {own : List (PySem.Str × Nat)} {pos : Pos} {wi : TI} {g : TG} {tt : TT} {te : TE} (hc : X.calm = true) (hN : X.N.Nodup) (hi : PI X tg iter wi) (ok : BlkOk X.N X.env.scope scope own)
    (hg : ∀ (s : Shared) (H : Hp) (C : Addr) (cl : List (PySem.Str × Addr)) (fp : List Addr), PG (X.blk s H scope (compEnvC scope cl C X.env) fp) tg g) (ht : ∀ (s : Shared) (H : Hp) (C : Addr) (cl : List (PySem.Str × Addr)) (fp : List Addr), PTs (X.blk s H scope (compEnvC scope cl C X.env) fp) ifs tt)
    (he : ∀ (s : Shared) (H : Hp) (C : Addr) (cl : List (PySem.Str × Addr)) (fp : List Addr), PE (X.blk s H scope (compEnvC scope cl C X.env) fp) elt te) (hs : ∀ x, foldedSetIterable iter X.env x = pure x := by intro _; rfl) :
    PE X (.SetComp elt [⟨tg, iter, ifs, 0⟩] scope pos) (tSetC k wi g tt te (own.map (·.2))) := by
  refine ⟨fun pins s σ H Q I h => ?_⟩
  rw [eval_SetComp]
  have free : ∀ y ∈ scope.names, y.2 = .free → ∃ c, X.env.cells.lookup y.1 = some c := fun y hy e => (ok.free y hy e).elim (fun z => I.ok.has _ (.inl z)) fun z => I.ok.has _ (.inr z)
  refine wpAny_comprehension_free rfl hs (closure_ok free) ok.kind (fun y hy e => by rw [ok.uniq y hy, e]) (thn (hi.run pins s σ H _ I h) fun xv s1 hx => thn hx fun itv s2 ⟨it, fp, tn, J, H2, e, I2, T, st2, f2, q⟩ => ?_)
  subst e
  refine newSet_ok (newEnv_comp ?_)
  -- the new set, at the end of the heap
  generalize hD : s2.heap.objs.size = D
  obtain ⟨W, ⟨m0, w0⟩, turn⟩ := q D (I2.hok.fresh (Nat.le_of_eq hD))
  generalize hs3 : ({ s2 with heap := s2.heap.push (noSet X.w) } : Shared) = s3
  have h3 : s3.heap = s2.heap.push (noSet X.w) := by rw [← hs3]
  have I3 : Inv X pins σ (upd H2 D (k.obj D k.init)) s3 := by
    rw [← hs3, ← hD]
    exact I2.laid (t' := s2.toks) (fun b o e => Heap.get?_push_of_some _ e) (Nat.le_refl _) (k.fresh _ _)
  have up : ∀ b o, s2.heap.get? b = some o → s3.heap.get? b = some o := fun b o e => by rw [h3]; exact Heap.get?_push_of_some _ e
  have f3 : ∀ b ∈ fp, FpOk X pins (upd H2 D (k.obj D k.init)) b ∧ b < s3.heap.objs.size := fun b hb => by
    obtain ⟨o, e, _⟩ := T.obj _ _ st2 b hb
    have lt : b < D := by rw [← hD]; exact Heap.lt_size e
    exact ⟨⟨by rw [upd_ne (Nat.ne_of_lt lt)]; exact (f2 b hb).1, (f2 b hb).2⟩, Heap.lt_size (up b o e)⟩
  have I4 := block_start I3 ok hN f3
  have pg := hg s3 (upd H2 D (k.obj D k.init)) s3.heap.objs.size (cellsFrom (s3.heap.objs.size + 1) scope.names (cloFrom X.env.cells scope.names [])) fp
  have pt := ht s3 (upd H2 D (k.obj D k.init)) s3.heap.objs.size (cellsFrom (s3.heap.objs.size + 1) scope.names (cloFrom X.env.cells scope.names [])) fp
  have pe := he s3 (upd H2 D (k.obj D k.init)) s3.heap.objs.size (cellsFrom (s3.heap.objs.size + 1) scope.names (cloFrom X.env.cells scope.names [])) fp
  have none3 : ∀ b ∈ fp, (upd H2 D (k.obj D k.init)) b = none := fun b hb => (f3 b hb).1.1
  show codeAny _ _ (.compStart (.SetComp elt [⟨tg, iter, ifs, 0⟩] scope pos) 0 (.ref it) (.ref D) (compEnvC scope (cellsFrom (s3.heap.objs.size + 1) scope.names (cloFrom X.env.cells scope.names [])) s3.heap.objs.size X.env)) _ { s3 with heap := pushCells (s3.heap.push { cls := .type "dict", data := .dict #[] }) scope.names }
  generalize hce : compEnvC scope (cellsFrom (s3.heap.objs.size + 1) scope.names (cloFrom X.env.cells scope.names [])) s3.heap.objs.size X.env = ce at I4 pg pt pe ⊢
  have cL : ce.locals = s3.heap.objs.size := by subst hce; rfl
  generalize hH3 : upd H2 D (k.obj D k.init) = H3 at I3 I4 pg pt pe w0 none3 f3
  generalize hs4 : ({ s3 with heap := pushCells (s3.heap.push { cls := .type "dict", data := .dict #[] }) scope.names } : Shared) = s4 at I4 ⊢
  have st4 : tn 0 s4.heap := T.keep _ _ _ (T.keep _ _ _ st2 fun b _ o e => up b o e) fun b _ o e => by rw [← hs4]; exact pushCells_keeps _ _ _ _ (Heap.get?_push_of_some _ e)
  have stat : ∀ {σ' : L2.St} {H' : Hp} {s' : Shared}, Inv (X.blk s3 H3 scope ce fp) [] σ' H' s' → (∀ b ∈ fp, H' b = none) → ∀ b ∈ fp, FpOk (X.blk s3 H3 scope ce fp) [] H' b := fun I' hn b hb =>
    ⟨hn b hb, (I'.ok.exf b hb).1, I'.ok.exfs b hb, .inl hb, fun x c e => (I'.ok.exf b hb).2 x c e, fun p hp => absurd (show p ∈ ([] : List (Addr × Obj)) ++ [] from hp) (by simp)⟩
  refine (fun loop => codeAny_compStart_set loop (T.self X.A 0 _ _ _ st4 loop)) ?_
  refine compLoopS_any (fun n s' => ∃ i H', Inv (X.blk s3 H3 scope ce fp) [] (wipe σ (own.map (·.2))) H' s' ∧ tn i s'.heap ∧ (∀ b ∈ fp, H' b = none) ∧ W i n H') ?_ m0 ⟨0, H3, I4, st4, none3, w0⟩
  rintro n s5 ⟨i, H5, I5, st5, n5, w5⟩
  rcases turn i n H5 w5 with ⟨stop, qq⟩ | ⟨go, Nx, hNx, step⟩
  · refine thnF (T.done (X.blk s3 H3 scope ce fp) rfl rfl rfl hc i [] s5 _ H5 (fun _ _ => False) I5 (stat I5 n5) st5 stop) fun r s6 ⟨hr, I6⟩ => ?_
    subst hr
    have I7 : Inv X pins σ H5 s6 := I3.call' (ch := fp) I6.os I6.base I6.hok I6.bare fun b hb => let z := (f3 b hb).1; ⟨z.2.2.2.1, z.2.1, z.2.2.2.2.1, z.2.2.2.2.2⟩
    have nC : H5 s3.heap.objs.size = none := by rw [← cL]; exact I6.free
    obtain ⟨m, hn, _⟩ := I6.loc
    have hn : s6.heap.Ns s3.heap.objs.size m := by rw [← cL]; exact hn
    refine ⟨m, hn, fun h'' sb => ?_⟩
    obtain ⟨f0, f1, f2', f3', f4, f5⟩ := I3.fpOk (H' := H5) (Nat.le_refl _) nC
    exact ⟨.ref D, H5, I7.turned (t' := s6.toks) (fun b o hb e => (sb.2 b hb).trans e) f0 f1 f3' f4 f5, rfl, qq⟩
  · refine thnF (T.item (X.blk s3 H3 scope ce fp) rfl rfl rfl hc i [] s5 _ H5 (fun _ _ => False) I5 (stat I5 n5) st5 go) fun r s6 ⟨u, hr, h6⟩ => ?_
    subst hr
    refine thnF h6 fun _ s7 ⟨x, H7, I7, r7, y7, st7, n7⟩ => ?_
    refine thnF (pg.run _ s7 _ H7 x u _ (I7.pinned (stat I7 n7) (T.obj _ _ st7)) r7 (step x H7 y7)) fun _ s8 ⟨σ8, H8, I8, hw8, q8⟩ => ?_
    refine thnF (pt.run _ s8 σ8 H8 _ I8 q8) fun b s9 ⟨H9, I9, q9⟩ => ?_
    have fin : ∀ {s' : Shared} {H' : Hp}, Inv (X.blk s3 H3 scope ce fp) ([] ++ pinsAt fp s7.heap) σ8 H' s' → Nx H' → ∃ m, m < n ∧ ∃ i H', Inv (X.blk s3 H3 scope ce fp) [] (wipe σ (own.map (·.2))) H' s' ∧ tn i s'.heap ∧ (∀ b ∈ fp, H' b = none) ∧ W i m H' := fun {s' H'} I' nx => by
      obtain ⟨m', hm, w'⟩ := hNx H' nx
      have pin' : ∀ b ∈ fp, ∀ o, s7.heap.get? b = some o → s'.heap.get? b = some o ∧ H' b = none := fun b hb o e =>
        let z := I'.pin (b, o) (List.mem_append_right _ (List.mem_append_right _ (mem_pinsAt hb e)))
        ⟨z.1, z.2.1⟩
      refine ⟨m', hm, i + 1, H', (I'.unpinned (pins := [])).weak (by rw [← hw8, wipe_length]) (fun j v e => ?_), T.keep _ _ _ st7 fun b hb o e => (pin' b hb o e).1, fun b hb => ?_, w'⟩
      · rw [← hw8] at e
        exact (wipe_some e).1
      · obtain ⟨o, e, _⟩ := T.obj _ _ st7 b hb
        exact (pin' b hb o e).2
    cases b with
    | false =>
      rw [if_neg (by decide)] at q9
      rw [if_neg (by decide)]
      exact fin I9 q9
    | true =>
      rw [if_pos rfl] at q9
      rw [if_pos rfl]
      refine thnF (pe.run _ s9 σ8 H9 _ I9 q9) fun z s10 ⟨yv, H10, I10, r10, a, b, hD10, hst, nx⟩ => ?_
      exact k.add (X.blk s3 H3 scope ce fp) rfl rfl I10 hD10 r10 hst fun s11 I11 => fin I11 nx
/-- sets of ints -/
def intSets (P : Program) (w : World) : SetK' P w ((Int → Bool) × Nat) where
  obj D a := SetO w D a.1 a.2
  init := (fun _ => false, 0)
  step a y b := ∃ c, y = .int c ∧ a.2 + 1 < scanBound ∧ b = (fun j => a.1 j || decide (j = c), if a.1 c = true then a.2 else a.2 + 1)
  fresh H h := setO_new (setR_fresh w)
  add := by
    rintro X rfl rfl pins σ H s E D ⟨S, n⟩ b y u Q I hD r ⟨c, rfl, room, rfl⟩ q
    obtain ⟨t, rfl⟩ := r
    refine setR_add (setO_get I hD) room fun h' sb new => ?_
    have he : ∃ u, h'.get? D = some u := by
      have ⟨o, _, _, _, ho, _⟩ := new
      exact ⟨o, ho⟩
    exact q _ (I.write (e := D) (t' := s.toks + 1) (by rw [hD]; trivial) (.inl rfl) (fun b u hb hu => (sb.2 b hb).trans hu) he (setO_new new))
end
section
variable {J : It} {n : Nat} {G : Hp → Prop} {Y : Nat → Hp → V → Hp → Prop} {P : Program} {w : World} {S : Type}
/-- a set comprehension over a walk -/
theorem setC_it (k : SetK' P w S) (wk : Walk J n G Y) {g : TG} {tt : TT} {te : TE} {vs : List Nat} {σ : L2.St} {H1 : Hp} {D : Addr} {Qd : Hp → Prop} (Pv : Nat → Hp → Prop) (h0 : Pv 0 (upd H1 D (k.obj D k.init))) (hG : ∀ i H, i ≤ n → Pv i H → G H)
    (hs : ∀ i x H H', i < n → Pv i H → Y i H x H' → g x (wipe σ vs) H' fun σ2 H2 => wipe σ2 vs = wipe σ vs ∧ tt σ2 H2 fun b H3 =>
      if b = true then te σ2 H3 fun y H4 => ∃ a b, H4 D = some (k.obj D a) ∧ k.step a y b ∧ Pv (i + 1) (upd H4 D (k.obj D b)) else Pv (i + 1) H3) (hd : ∀ H, Pv n H → Qd H) :
    ∃ W : Nat → Nat → Hp → Prop, (∃ m, W 0 m (upd H1 D (k.obj D k.init))) ∧ ∀ i m H, W i m H →
      (J.stop i H ∧ Qd H) ∨ (J.go i H ∧ ∃ Nx : Hp → Prop, (∀ H', Nx H' → ∃ m', m' < m ∧ W (i + 1) m' H') ∧ ∀ x H', J.yld i H x H' → g x (wipe σ vs) H' fun σ2 H2 => wipe σ2 vs = wipe σ vs ∧ tt σ2 H2 fun b H3 =>
        if b = true then te σ2 H3 fun y H4 => ∃ a b, H4 D = some (k.obj D a) ∧ k.step a y b ∧ Nx (upd H4 D (k.obj D b)) else Nx H3) := by
  refine ⟨fun i m H => m = n - i ∧ i ≤ n ∧ Pv i H, ⟨n, by simp, Nat.zero_le _, h0⟩, ?_⟩
  rintro i m H ⟨rfl, hi, p⟩
  have q := hG i H hi p
  by_cases hlt : i < n
  · exact .inr ⟨wk.goes i H hlt q, Pv (i + 1), fun H' p' => ⟨n - (i + 1), by omega, rfl, hlt, p'⟩, fun x H' y => hs i x H H' hlt p (wk.yields i H x H' hlt q y)⟩
  · have e : i = n := by omega
    subst e
    exact .inl ⟨wk.stops H q, hd H p⟩
end
/-- the state of a set of these ints -/
def setAt (us : List Int) : (Int → Bool) × Nat := (fun j => decide (j ∈ us), us.length)
theorem setAt_step {P : Program} {w : World} {us : List Int} {u : Int} (h : us.length + 1 < scanBound) : (intSets P w).step (setAt us) (.int u) (setAt (addI us u)) := by
  refine ⟨u, rfl, h, ?_⟩
  unfold setAt addI
  by_cases m : u ∈ us
  · rw [if_pos m]
    simp only [m, decide_true, if_true]
    refine Prod.ext ?_ rfl
    funext j
    by_cases e : j = u
    · subst e
      simp [m]
    · simp [e]
  · rw [if_neg m]
    simp only [m, decide_false, Bool.false_eq_true, if_false, List.length_append, List.length_singleton]
    refine Prod.ext ?_ rfl
    funext j
    simp
theorem foldl_addI_mono (ls us : List Int) : us.length ≤ (ls.foldl addI us).length := by
  induction ls generalizing us with
  | nil => exact Nat.le_refl _
  | cons u r ih =>
    refine Nat.le_trans ?_ (ih (addI us u))
    unfold addI
    split <;> simp
theorem firsts_take (ds : List D) (i : Nat) : ((((flats ds).take i).filterMap intOf).foldl addI []).length ≤ (firstsOf ds).length := by
  have e : leaves ds = ((flats ds).take i).filterMap intOf ++ ((flats ds).drop i).filterMap intOf := by
    rw [← List.filterMap_append, List.take_append_drop]
    rfl
  unfold firstsOf
  rw [e, List.foldl_append]
  exact foldl_addI_mono _ _
/-- unknowns -/
def spUnknowns (K : PySem.W.Frag) : Sp := fun vs H Q _ => ∃ (a : Addr) (us : List V) (ds : List D), vs = [.ref a] ∧ (SqL K H a us ∨ SqT K H a us) ∧ DvL H us ds ∧ (∀ d ∈ ds, Tm d) ∧ sizes ds ≤ 100000 ∧ (firstsOf ds).length < 64 ∧
  ∀ (p : Addr) (H' : Hp) (ns : List Int), Same H H' → H p = none → H' p = some (.lst (ns.map V.int)) → ns.Pairwise (· < ·) → (∀ k, k ∈ ns ↔ D.int k ∈ flats ds) → Q (.ref p) H'

/-! ### parts of a tuple -/
section
variable {K : PySem.W.Frag} {H : Hp} {a : Addr} {w0 : V} {wr : List V} {Q : VK}
/-- t[:1] -/
theorem first_one (h : H a = some (.tup (w0 :: wr))) (q : ∀ t1 H1, Same H H1 → H1 t1 = some (.tup [w0]) → (t1 = a ∨ H t1 = none) → Q (.ref t1) H1) : rSlA K (.ref a) none (some 1) H Q := by
  refine ⟨a, _, rfl, SqT.of h, fun z => ?_, fun _ p hp => ?_⟩
  · have z2 := z.2
    have e : HT.sIx (w0 :: wr).length (w0 :: wr).length (some 1) = min 1 (w0 :: wr).length := sIx_at (by decide)
    rw [e] at z2
    simp only [List.length_cons] at z2
    have : wr = [] := List.length_eq_zero_iff.mp (by omega)
    subst this
    exact q a H (Same.refl _) h (.inl rfl)
  · have e : cutV (w0 :: wr) none (some 1) = [w0] := by
      unfold cutV
      rw [sIx_at (by decide), sIx_none]
      simp
    rw [e]
    exact q p _ (Same.new hp) upd_same (.inr hp)
/-- t[1:] -/
theorem tail_one {σ : L2.St} (h : H a = some (.tup (w0 :: wr))) (q : ∀ p, H p = none → Q (.ref p) (upd H p (.tup wr))) : tNoPart σ H fun u H3 => rSlA K (.ref a) (some 1) u H3 Q := by
  show rSlA K (.ref a) (some 1) none H Q
  obtain ⟨u1, u2⟩ := cutV_one (w0 :: wr) (by simp)
  refine ⟨a, _, rfl, SqT.of h, fun z => absurd z u2, fun _ p hp => ?_⟩
  rw [u1]
  exact q p hp
/-- (x,) + t -/
theorem cat_one {t1 t2 : Addr} {ws : List V} (h1 : H t1 = some (.tup [w0])) (h2 : H t2 = some (.tup ws)) (hz : ws.length ≤ 100000) (q : ∀ tt H4, Same H H4 → H4 tt = some (.tup (w0 :: ws)) → (tt = t1 ∨ H tt = none) → Q (.ref tt) H4) : rCatA K (.ref t1) (.ref t2) H Q := by
  refine ⟨t1, t2, _, _, rfl, rfl, SqT.of h1, SqT.of h2, ?_, fun z => (by cases z), fun _ z => ?_, fun _ _ p hp => q p _ (Same.new hp) upd_same (.inr hp)⟩
  · simp only [List.length_cons, List.length_nil]
    exact sz (by omega)
  · subst z
    exact q t1 H (Same.refl _) h1 (.inl rfl)
end
section
variable {X : Cx} {tg e : Expr}
theorem pi_alt {w1 w2 : TI} (h1 : PI X tg e w1) (h2 : PI X tg e w2) : PI X tg e (fun σ H R => w1 σ H R ∨ w2 σ H R) :=
  ⟨fun pins s σ H R I h => h.elim (h1.run pins s σ H R I) (h2.run pins s σ H R I)⟩
end
theorem mem_flat_part {d : D} {x : Str} {rs : List D} {u : Int} (hd : d ∈ rs) (h : D.int u ∈ flat d) : D.int u ∈ flat (.tup (.str x :: rs)) := by
  have e : flat (.tup (.str x :: rs)) = .tup (.str x :: rs) :: flats rs := by simp [flat, flatT]
  rw [e]
  refine List.mem_cons_of_mem _ ?_
  induction rs with
  | nil => cases hd
  | cons c r ih =>
    simp only [flats, List.mem_append]
    rcases List.mem_cons.mp hd with rfl | hd
    · exact .inl h
    · exact .inr (ih hd (by simp [flat, flatT]))
/-- a heap and what is laid over it -/
def ovl (Hb N : Hp) : Hp := fun a => match Hb a with
  | some o => some o
  | none => N a
section
variable {Hb N N' H H' : Hp}
theorem ovl_base : Same Hb (ovl Hb N) := fun a o e => by
  unfold ovl
  rw [e]
theorem ovl_new {a : Addr} {o : HO} (h : Hb a = none) (e : N a = some o) : ovl Hb N a = some o := by
  unfold ovl
  rw [h]
  exact e
theorem ovl_mono (k : Same N N') : Same (ovl Hb N) (ovl Hb N') := fun a o e => by
  unfold ovl at e ⊢
  cases z : Hb a with
  | some u =>
    rw [z] at e
    exact e
  | none =>
    rw [z] at e
    exact k _ _ e
theorem ovl_sub (k : Same Hb H') (k2 : Same N H') : Same (ovl Hb N) H' := fun a o e => by
  unfold ovl at e
  cases z : Hb a with
  | some u =>
    rw [z] at e
    cases e
    exact k _ _ z
  | none =>
    rw [z] at e
    exact k2 _ _ e
end
theorem Same.none {H H' : Hp} {l : Addr} (k : Same H H') (h : H' l = none) : H l = none := by
  cases e : H l with
  | none => rfl
  | some o =>
    rw [k _ _ e] at h
    cases h
/-- _law_put: what is told stands in Hb and in what is new -/
def spLPut (K : PySem.W.Frag) (m : Nat) : Sp := fun vs H Q _ => ∃ (Hb : Hp) (v va : V) (d : D) (f : Int → D), vs = [v, va] ∧ Same Hb H ∧ Dv Hb v d ∧ Tm d ∧ d.deep < m ∧ d.size ≤ 100000 ∧
  (∀ u, D.int u ∈ flat d → ∃ v, Look K H va u v ∧ Dv Hb v (f u)) ∧ ∀ (v' : V) (H' : Hp), Same H H' → Dv (ovl Hb (newof H H')) v' (putD f d) → Q v' H'
/-- [f(x) for x in xs], each turn may leave new things and gives new data -/
theorem lc_newD {J : It} {G : Hp → Prop} {te : TE} {tt : TT} {σ : L2.St} {H Hb : Hp} {xs : List V} {ds : List D} {j : Nat} {vs : List Nat} {Dl : Addr} {Qd : Hp → Prop} (f : D → D) (wk : Walk J xs.length G (YAt xs)) (hG : ∀ H', Same H H' → G H') (hd : DvL Hb xs ds) (hD : H Dl = none) (hz : xs.length ≤ 100000)
    (hw : ∀ x, wipe ((wipe σ vs).set j (some x)) vs = wipe σ vs) (he : ∀ σ' H' (R : Bool → Hp → Prop), R true H' → tt σ' H' R)
    (hv : ∀ (x : V) (d : D) (H' : Hp) (R : VK), Same H H' → d ∈ ds → Dv Hb x d → (∀ y H2, Same H' H2 → Dv (ovl Hb (newof H' H2)) y (f d) → R y H2) → te ((wipe σ vs).set j (some x)) H' R)
    (q : ∀ H' zs, Same H H' → H' Dl = some (.lst zs) → DvL (ovl Hb (newof (upd H Dl (.lst [])) H')) zs (ds.map f) → Qd H') :
    ∃ W : Nat → Nat → Hp → Prop, (∃ m, W 0 m (upd H Dl (.lst []))) ∧ ∀ i m H, W i m H → (J.stop i H ∧ Qd H) ∨ (J.go i H ∧ ∃ Nx : Hp → Prop, (∀ H', Nx H' → ∃ m', m' < m ∧ W (i + 1) m' H') ∧
      ∀ x H', J.yld i H x H' → gName j x (wipe σ vs) H' fun σ2 H2 => wipe σ2 vs = wipe σ vs ∧ tt σ2 H2 fun b H3 => if b = true then te σ2 H3 fun y H4 => ∃ acc, H4 Dl = some (.lst acc) ∧ acc.length < sizeLine ∧ Nx (upd H4 Dl (.lst (acc ++ [y]))) else Nx H3) := by
  have hlen := hd.len
  have h0 : (upd H Dl (.lst [])) Dl = some (.lst []) := upd_same
  refine lc_it wk (fun i H' => Same H H' ∧ ∃ zs, H' Dl = some (.lst zs) ∧ DvL (ovl Hb (newof (upd H Dl (.lst [])) H')) zs ((ds.take i).map f)) ⟨Same.new hD, [], upd_same, .nil⟩ (fun i H' _ h => hG H' h.1) ?_ ?_
  · rintro i x H1 H1' hi ⟨k, zs, hl, hz2⟩ ⟨rfl, hx⟩
    obtain ⟨d, e1, hd1⟩ := hd.get hx
    refine ⟨hw _, he _ _ _ ?_⟩
    rw [if_pos rfl]
    refine hv x d H1' _ k (tk e1) hd1 fun y H2 k2 hy => ⟨zs, k2 _ _ hl, ?_, Same.upd (k.trans k2) hD, zs ++ [y], upd_same, ?_⟩
    · have := hz2.len
      rw [List.length_map, List.length_take] at this
      exact szl (by omega)
    · rw [newof_upd h0, take_succ' e1, List.map_append]
      refine (hz2.same (ovl_mono (newof_same k2)) _ _).snoc (hy.same (ovl_mono (newof_lift fun a ha => ?_)) _ _)
      have n1 : a ≠ Dl := fun z => by
        rw [z, hl] at ha
        cases ha
      rw [upd_ne n1]
      exact Same.none k ha
  · rintro H' ⟨k, zs, hl, hz2⟩
    have : ds.take xs.length = ds := List.take_of_length_le (by omega)
    rw [this] at hz2
    exact q H' zs k hl hz2
theorem newof_first {H H' : Hp} {Dl : Addr} {o : HO} (h : H Dl = none) : Same (newof (upd H Dl o) H') (newof H H') := newof_lift fun a ha => by
  by_cases z : a = Dl
  · rw [z]
    exact h
  · rwa [upd_ne z] at ha
end Fm
set_option maxRecDepth 100000
set_option maxHeartbeats 2000000

namespace PySem
namespace Erplace
open PySem.W PySem.Calls PyProof.Rows PySem.HandSPX
/-! ### the text of __init__ -/
def iA (p1 p2 : Pos) : Arguments := { posonlyargs := [], args := [{ arg := "self", annotation := none, pos := p1 }, { arg := "place", annotation := none, pos := p2 }], vararg := none, kwonlyargs := [], kw_defaults := [], kwarg := none, defaults := [] }
def iB (q1 q2 q3 q4 : Pos) : List Stmt := [.Assign [.Attribute (.Name "self" q1) "place" q2] (.Name "place" q3) q4]
def iS : Scope := { kind := .function, names := [(PySem.Str.ofString "self", .local), (PySem.Str.ofString "place", .local)], isGenerator := false, isCoroutine := false, more := [] }
/-- what the written part says of Low, at C, and of its __init__, at fI -/
structure ErTxt (K : Frag) (mg : Str → Option Value) (cn qn : Str) (C fI : Addr) : Prop where
  gC : mg cn = some (.ref C)
  cls : ∃ nm q N bs bm sn sub ab col dd k0 k1 k2 k3 k5, K.lookup C = some (excClassObj nm q C N bs bm true sn sub ab col dd k0 k1 k2 k3 k5 "ValueError.__new__") ∧ refsVE bm = true
  sa : findIn K (.ref C) "__setattr__" = some (some (.builtin "object.__setattr__"))
  ga : findIn K (.ref C) "__getattribute__" = some (some (.builtin "BaseException.__getattribute__"))
  gg : findIn K (.ref C) "__getattr__" = some none
  noN : findIn K (.ref C) "place" = some none
  iC : findIn K (.ref C) "__init__" = some (some (.ref fI))
  tC : typeIn K (.ref fI) = some (.type "function")
  kC : keepIn K (.ref C) = true
  exC : subIn K (.ref C) (.type "BaseException") = some true
  tyC : typeIn K (.ref C) = some (.type "type")
  hdC : hasDictIn K C = true
  fn : ∃ (oc : Value) (od : Option Addr) (doc pm : Value) (an : Option Addr) (cdv ct : Value) (osl : Array (Option Value)) (p1 p2 q1 q2 q3 q4 : Pos),
    K.lookup fI = some ⟨oc, od, .func (fnOf "__init__" qn (iA p1 p2) (iB q1 q2 q3 q4) iS .none .none doc pm an cdv ct), osl⟩ ∧ codeIn K cdv qn = true
theorem one_size (v : Value) : [v].length ≤ sizeLine := by
  rw [sizeLine_eq]
  exact (by decide : 1 ≤ 16777216)
theorem kept_but {K : Frag} {h h' : Heap} {x : Addr} (X : K.In h) (hx : K.lookup x = none) (k : ∀ b o, b ≠ x → h.get? b = some o → h'.get? b = some o) : K.In h' := fun a o e =>
  k a o (fun z => by rw [z, hx] at e; cases e) (X a o e)
theorem ldC {M : Model} {s : Shared} {name : Str} {scope : Scope} {L a : Addr} {cd : Value} {m : Str → Option Value} {x : Str} {pos : Pos} {v : Value} {Q : Value → Shared → Prop} {A : Around} {E : Value → Shared → Prop} (hn : s.heap.Ns L m) (hv : m x = some v) (h : Q v s)
    (hk : scope.kind = .function := by rfl) (hl : (envOfC name scope L a cd).kindOf x = some .local := by rfl) (hd : (x == ("__debug__" : Str)) = false := by decide) :
    wpAny M A (eval (.Name x pos) (envOfC name scope L a cd)) Q E s := wpAny_Name (wpAny_loadName_local hk hl hn hv h) hd
/-- what __init__ leaves of a fresh exception at x -/
structure InitEnd (h h' : Heap) (x C dx t1 : Addr) (v : Value) : Prop where
  keep : ∀ b o, b ≠ x → h.get? b = some o → h'.get? b = some o
  obj : h'.get? x = some { cls := .ref C, dict := some dx, data := .fields #[.ref t1, .none, .none, .none, .bool false, .none] }
  dbig : h.objs.size ≤ dx
  dne : dx ≠ x
  ns : h'.Ns1 dx (fun y => if y = "place" then some v else none)
/-- a made Low -/
structure OwnMade (h h' : Heap) (e C d : Addr) (v : Value) : Prop where
  keep : ∀ b o, h.get? b = some o → h'.get? b = some o
  new : h.objs.size ≤ e
  obj : ∃ oe vs, h'.get? e = some oe ∧ oe.cls = .ref C ∧ oe.dict = some d ∧ oe.data = .fields vs ∧ vs[1]? = some .none
  dbig : h.objs.size ≤ d
  dne : d ≠ e
  ns : h'.Ns1 d (fun y => if y = "place" then some v else none)
section
variable {prog : Program} {w : World} {A : Around} {E : Value → Shared → Prop} {R : Result → Shared → Prop} {s : Shared} {K : Frag} {mg : Str → Option Value} {cn qn : Str} {C fI : Addr}
theorem low_init (T : ErTxt K mg cn qn C fI) {x t0 : Addr} {v : Value} (X : K.In s.heap) (hlim : s.heap.NoLimit) (hx : s.heap.get? x = some (excO C t0)) (hnx : K.lookup x = none) (hroom : A.depth < recursionLimit)
    (hq : ∀ h' tk dx, InitEnd s.heap h' x C dx t0 v → R (.ok (.ret .none)) { s with heap := h', toks := tk }) :
    codeAny (model prog w) A (.call (.ref fI) ⟨[.ref x, v], []⟩) R s := by
  obtain ⟨oc, od, doc, pm, an, cdv, ct, osl, p1, p2, q1, q2, q3, q4, ho, hcd⟩ := T.fn
  obtain ⟨nm, q, N, bs, bm, sn, sub, ab, col, dd, k0, k1, k2, k3, k5, hC, hbm⟩ := T.cls
  have hcl : clsIn K C = some { name := nm, bases := bs, mro := .ref C :: bm, ns := N, qualname := q, hasDict := true, slotNames := sn, subclasses := sub, abstract := ab, collection := col, hasDel := false } := by unfold clsIn; rw [hC] <;> rfl
  refine Att.call_fn (binds := [("self", .ref x), ("place", v)]) X hlim ho hcd hroom (BindsTo.of_eq (by first | rfl | with_unfolding_all rfl)) (by first | rfl | decide | with_unfolding_all rfl) (fun s₁ IC => ?_) rfl rfl rfl
  obtain ⟨h₁, tk₁, rfl⟩ := IC.toInCall.same
  have k : ∀ b o, s.heap.get? b = some o → h₁.get? b = some o := IC.toInCall.keep
  have hn := IC.toInCall.ns
  have hxL : s.heap.objs.size ≠ x := Nat.ne_of_gt (Heap.lt_size hx)
  have X₁ : K.In h₁ := X.keeps k
  have hx₁ := k _ _ hx
  -- self.by = by
  show wpAny _ _ (execs _ _) _ _ _
  refine wpAny_execs_cons (plainObj_wpAny_Assign_Attribute ?_)
  refine ldC (v := v) hn (by first | rfl | with_unfolding_all rfl | kernel_rfl) (ldC (v := .ref x) hn (by first | rfl | with_unfolding_all rfl | kernel_rfl) ?_)
  refine set_plain X₁ (ox := excO C t0) (od := none) ⟨hx₁, rfl, rfl, trivial⟩ T.sa ?_
  refine exc_osa X₁ hx₁ hcl (show refsVE (.ref C :: bm) = true from hbm) rfl T.noN (fun h₃ tk₃ dx k₃ dn dne hx₃ hn₃ => ?_)
  show wpAny _ _ (execs _ _) _ _ _
  have z : s.heap.objs.size < h₁.objs.size := hn.lt
  exact wpAny_execs_nil (hq h₃ tk₃ dx ⟨fun b o hb e => k₃ b o hb (k b o e), hx₃, Nat.le_of_lt (Nat.lt_of_lt_of_le z dn), dne, hn₃⟩)
theorem low_made (T : ErTxt K mg cn qn C fI) {v : Value} (X : K.In s.heap) (hlim : s.heap.NoLimit) (hroom : A.depth + 1 < recursionLimit)
    (hq : ∀ h' tk e d, OwnMade s.heap h' e C d v → R (.ok (.ret (.ref e))) { s with heap := h', toks := tk }) :
    codeAny (model prog w) A (.call (.ref C) ⟨[v], []⟩) R s := by
  obtain ⟨nm, q, N, bs, bm, sn, sub, ab, col, dd, k0, k1, k2, k3, k5, hC, hbm⟩ := T.cls
  obtain ⟨hp, g, dr, tk, os⟩ := s
  have k : ∀ b o, hp.get? b = some o → ((hp.push (kdv_tup [v])).push (excO C hp.objs.size)).get? b = some o := fun b o e => Heap.get?_push_of_some _ (Heap.get?_push_of_some _ e)
  have hget : ((hp.push (kdv_tup [v])).push (excO C hp.objs.size)).get? (hp.objs.size + 1) = some (excO C hp.objs.size) := by heap_get
  have hnx : K.lookup (hp.objs.size + 1) = none := by
    cases e : K.lookup (hp.objs.size + 1) with
    | none => rfl
    | some o =>
      have z : hp.get? (hp.objs.size + 1) = some o := X _ _ e
      exact absurd (Nat.lt_of_succ_lt (Heap.lt_size z)) (Nat.lt_irrefl _)
  refine call_own F.excBase_ValueError (fun X => refsVE_contains X bm hbm) (X _ _ hC) (looks_findIn X T.iC) (fun self => bind_fn X self T.tC) (one_size v) ?_
  refine low_init (s := ⟨(hp.push (kdv_tup [v])).push (excO C hp.objs.size), g, dr, tk, os⟩) T (X.keeps k) (hlim.keeps k) hget hnx ?_ fun h' tk' dx ⟨k', hx, dn, dne, hns⟩ => ?_
  · show A.depth + 1 < recursionLimit
    exact hroom
  · have old : ∀ b o, hp.get? b = some o → h'.get? b = some o := fun b o e => k' b o (Nat.ne_of_lt (Nat.lt_succ_of_lt (Heap.lt_size e))) (k b o e)
    have z : hp.objs.size + 1 + 1 ≤ dx := by
      first
        | (simpa only [Heap.size_push] using dn)
        | exact dn
        | (have q := dn; rw [Heap.size_push, Heap.size_push] at q; exact q)
    exact ⟨rfl, hq h' tk' (hp.objs.size + 1) dx ⟨old, Nat.le_succ _, ⟨_, _, hx, rfl, rfl, rfl, rfl⟩, Nat.le_trans (Nat.le_trans (Nat.le_succ _) (Nat.le_succ _)) z, dne, hns⟩⟩
end
end Erplace
end PySem
namespace L2
open PySem PySem.Spec PyProof.Rows
theorem relO_low_place {v : V} {v' : Value} (r : RelV v v') (f : Str) : RelO (List.lookup f [(("place" : Str), v)]) (if f = "place" then some v' else none) := by
  by_cases hw : f = "place"
  · subst hw
    rw [if_pos rfl]
    have q : List.lookup ("place" : Str) [(("place" : Str), v)] = some v := by simp [List.lookup]
    rw [q]
    exact r
  · rw [if_neg hw]
    have qw : (f == ("place" : Str)) = false := by simpa using hw
    have q2 : List.lookup f [(("place" : Str), v)] = none := by simp [List.lookup, qw]
    rw [q2]
    trivial
section
variable {X : Cx} {cn qn : Str} {C fI : Addr}
/-- Low(e) -/
def tMkLow_place (C : Addr) (ta : TA) : St → Hp → XK → Prop := fun σ H Q => ta σ H fun vs H1 => ∃ v, vs = [v] ∧ ∀ d, H1 d = none → Q (.ref C) (some d) (upd H1 d (.xd [(("place" : Str), v)]))
theorem pmk_low_place {a : Expr} {ta : TA} {p pos : Pos} {k : Nat} (T : PySem.Erplace.ErTxt X.K X.mg cn qn C fI) (hr : Room k X.A) (ha : PA X [a] ta) (hg : Gl X cn) (hdb : (cn == ("__debug__" : Str)) = false)
    (he : starEach (a :: []) X.env = (false, eval a X.env) :: starEach [] X.env := by rfl) (hpl : (backTo pos (starEach [] X.env)).any (·.1) = false := by rfl) :
    PMk X (.Call (.Name cn p) [a] [] pos) (tMkLow_place C ta) := by
  intro pins s σ H Q I h
  refine wpAny_Call_Name_kw (ld_glob I hg T.gC ?_ hdb)
  refine PySem.W.callWith_K (h₀ := X.base) I.ok.mod.kin T.kC (thn (ha.run pos pins s σ H _ I h) fun us s1 hh => ?_) he hpl
  obtain ⟨vs, H1, I1, r1, v, ev, q1⟩ := hh
  subst ev
  refine ⟨I1.kIn, ?_⟩
  cases r1 with
  | cons rv rn =>
    rename_i v' us'
    cases rn
    show wpAny _ _ (call (.ref C) [v']) _ _ _
    have hlim := I1.nolimit
    obtain ⟨hp, g, dr, tk, os⟩ := s1
    refine wpAny_call (PySem.Erplace.low_made T I1.kIn hlim (by have := hr.dp; omega) fun h' tk' e d M => ?_)
    show MkP X pins σ Q (.ref e) ⟨h', g, dr, tk', os⟩
    obtain ⟨oe, fv, hoe, hc, hd, hdat, h1⟩ := M.obj
    have hns := M.ns
    obtain ⟨G', g1, g2⟩ := restrict h' fun b => decide (b ≠ e)
    have gk : ∀ b, b ≠ e → G'.get? b = h'.get? b := fun b hb => g1 b (decide_eq_true hb)
    have ge : G'.get? e = none := g2 e (by simp)
    have old : ∀ b o, hp.get? b = some o → G'.get? b = some o := fun b o q => (gk b (Nat.ne_of_lt (Nat.lt_of_lt_of_le (Heap.lt_size q) M.new))).trans (M.keep b o q)
    have ob : ObjOk X.prog X.w (upd H1 d (.xd [(("place" : Str), v)])) G' d (.xd [(("place" : Str), v)]) :=
      ⟨_, hns.at (fun o q => (gk d M.dne).trans q), fun f => relO_low_place rv f⟩
    have J : Inv X pins σ (upd H1 d (.xd [(("place" : Str), v)])) ⟨G', g, dr, tk', os⟩ := I1.laid (t' := tk') old M.dbig ob
    refine ⟨e, oe, fv, ⟨G', g, dr, tk', os⟩, _, .ref C, some d, rfl, J, fun b o q => ?_, ge, hoe, ⟨hc, hd⟩, hdat, h1, ?_, rfl, I1.bare, raises_own T.exC T.tyC, q1 d (I1.hok.fresh M.dbig)⟩
    · by_cases hb : b = e
      · have q' : G'.get? b = some o := q
        rw [hb, ge] at q'; cases q'
      · exact (gk b hb).symm.trans q
    · rw [upd_ne (Ne.symm M.dne)]
      exact I1.hok.fresh M.new
/-- raise Low(e) -/
def tRaiseLow_place (C : Addr) (W : WX) (ta : TA) : TS := fun _ σ H => tMkLow_place C ta σ H fun cls d H' => W cls d σ H'
theorem ps_raiseLow_place {a : Expr} {ta : TA} {W : WX} {p pos pos2 : Pos} {k : Nat} (hc : X.calm = true) (T : PySem.Erplace.ErTxt X.K X.mg cn qn C fI) (hr : Room k X.A) (tk : Takes X W) (ha : PA X [a] ta) (hg : Gl X cn) (hdb : (cn == ("__debug__" : Str)) = false)
    (he : starEach (a :: []) X.env = (false, eval a X.env) :: starEach [] X.env := by rfl) (hpl : (backTo pos (starEach [] X.env)).any (·.1) = false := by rfl) :
    PS X (.Raise (some (.Call (.Name cn p) [a] [] pos)) none pos2) (tRaiseLow_place C W ta) := ps_raise hc tk (pmk_low_place T hr ha hg hdb he hpl)
/-- low.by, low the exception that the suite holds (at a; its class cls, its dict d) -/
def tByLow_place (C : Addr) (a : Addr) (cls : Value) (d : Option Addr) (te : TE) : TE := fun σ H Q => te σ H fun x H1 => x = .ref a ∧ cls = .ref C ∧ ∃ (dd : Addr) (v : V), d = some dd ∧ H1 dd = some (.xd [(("place" : Str), v)]) ∧ Q v H1
theorem pe_byLow_place {a : Addr} {oe : Obj} {cls : Value} {d : Option Addr} {pn : List (Addr × Obj)} {e : Expr} {te : TE} {pos : Pos} (T : PySem.Erplace.ErTxt X.K X.mg cn qn C fI) (hz : Zc cls d oe) (hf : ∃ vs, oe.data = .fields vs) (he : PE (X.suite a ((a, oe) :: pn)) e te)
    (hb : attributeBase e "place" X.env (eval e X.env) = eval e X.env := by rfl) :
    PE (X.suite a ((a, oe) :: pn)) (.Attribute e "place" pos) (tByLow_place C a cls d te) := by
  refine ⟨fun pins s σ H Q I h => ?_⟩
  refine attr_of hb (thn (he.run pins s σ H _ I h) fun u s1 hh => ?_)
  obtain ⟨x, H1, I1, rx, ex, ec, dd, v, ed, ea, q⟩ := hh
  subst ex
  obtain rfl : u = Value.ref a := rx
  subst ec
  subst ed
  obtain ⟨ha, _⟩ := I1.pin (a, oe) (List.mem_append_left _ List.mem_cons_self)
  obtain ⟨vs, hd⟩ := hf
  have hx : ObjOk X.prog X.w H1 s1.heap dd (.xd [(("place" : Str), v)]) := I1.hok dd _ ea
  obtain ⟨mA, hns, hr⟩ := hx
  obtain ⟨od, ho, hl⟩ := lookIn_ns hns
  have l : List.lookup ("place" : Str) [(("place" : Str), v)] = some v := by simp [List.lookup]
  obtain ⟨u, hu, ru⟩ := RelO.some_of (v := v) (o := mA "place") (by rw [← l]; exact hr "place")
  have J : PySem.W.InstAt s1.heap a oe C (some od) := ⟨ha, hz.1, by unfold PySem.W.notCls; rw [hd] <;> rfl, by rw [hz.2]; exact ho⟩
  exact HandSPX.exc_get I1.kIn J T.ga T.gg T.exC (PySem.W.findObj_own T.hdC T.noN rfl (by rw [hl, hu])) (handed_of ru) ⟨v, H1, I1.tok _, ru, q⟩
end
end L2


namespace PySem
namespace Ername
open PySem.W PySem.Calls PyProof.Rows PySem.HandSPX
/-! ### the text of __init__ -/
def iA (p1 p2 : Pos) : Arguments := { posonlyargs := [], args := [{ arg := "self", annotation := none, pos := p1 }, { arg := "name", annotation := none, pos := p2 }], vararg := none, kwonlyargs := [], kw_defaults := [], kwarg := none, defaults := [] }
def iB (q1 q2 q3 q4 : Pos) : List Stmt := [.Assign [.Attribute (.Name "self" q1) "name" q2] (.Name "name" q3) q4]
def iS : Scope := { kind := .function, names := [(PySem.Str.ofString "self", .local), (PySem.Str.ofString "name", .local)], isGenerator := false, isCoroutine := false, more := [] }
/-- what the written part says of Low, at C, and of its __init__, at fI -/
structure ErTxt (K : Frag) (mg : Str → Option Value) (cn qn : Str) (C fI : Addr) : Prop where
  gC : mg cn = some (.ref C)
  cls : ∃ nm q N bs bm sn sub ab col dd k0 k1 k2 k3 k5, K.lookup C = some (excClassObj nm q C N bs bm true sn sub ab col dd k0 k1 k2 k3 k5 "ValueError.__new__") ∧ refsVE bm = true
  sa : findIn K (.ref C) "__setattr__" = some (some (.builtin "object.__setattr__"))
  ga : findIn K (.ref C) "__getattribute__" = some (some (.builtin "BaseException.__getattribute__"))
  gg : findIn K (.ref C) "__getattr__" = some none
  noN : findIn K (.ref C) "name" = some none
  iC : findIn K (.ref C) "__init__" = some (some (.ref fI))
  tC : typeIn K (.ref fI) = some (.type "function")
  kC : keepIn K (.ref C) = true
  exC : subIn K (.ref C) (.type "BaseException") = some true
  tyC : typeIn K (.ref C) = some (.type "type")
  hdC : hasDictIn K C = true
  fn : ∃ (oc : Value) (od : Option Addr) (doc pm : Value) (an : Option Addr) (cdv ct : Value) (osl : Array (Option Value)) (p1 p2 q1 q2 q3 q4 : Pos),
    K.lookup fI = some ⟨oc, od, .func (fnOf "__init__" qn (iA p1 p2) (iB q1 q2 q3 q4) iS .none .none doc pm an cdv ct), osl⟩ ∧ codeIn K cdv qn = true
theorem one_size (v : Value) : [v].length ≤ sizeLine := by
  rw [sizeLine_eq]
  exact (by decide : 1 ≤ 16777216)
theorem kept_but {K : Frag} {h h' : Heap} {x : Addr} (X : K.In h) (hx : K.lookup x = none) (k : ∀ b o, b ≠ x → h.get? b = some o → h'.get? b = some o) : K.In h' := fun a o e =>
  k a o (fun z => by rw [z, hx] at e; cases e) (X a o e)
theorem ldC {M : Model} {s : Shared} {name : Str} {scope : Scope} {L a : Addr} {cd : Value} {m : Str → Option Value} {x : Str} {pos : Pos} {v : Value} {Q : Value → Shared → Prop} {A : Around} {E : Value → Shared → Prop} (hn : s.heap.Ns L m) (hv : m x = some v) (h : Q v s)
    (hk : scope.kind = .function := by rfl) (hl : (envOfC name scope L a cd).kindOf x = some .local := by rfl) (hd : (x == ("__debug__" : Str)) = false := by decide) :
    wpAny M A (eval (.Name x pos) (envOfC name scope L a cd)) Q E s := wpAny_Name (wpAny_loadName_local hk hl hn hv h) hd
/-- what __init__ leaves of a fresh exception at x -/
structure InitEnd (h h' : Heap) (x C dx t1 : Addr) (v : Value) : Prop where
  keep : ∀ b o, b ≠ x → h.get? b = some o → h'.get? b = some o
  obj : h'.get? x = some { cls := .ref C, dict := some dx, data := .fields #[.ref t1, .none, .none, .none, .bool false, .none] }
  dbig : h.objs.size ≤ dx
  dne : dx ≠ x
  ns : h'.Ns1 dx (fun y => if y = "name" then some v else none)
/-- a made Low -/
structure OwnMade (h h' : Heap) (e C d : Addr) (v : Value) : Prop where
  keep : ∀ b o, h.get? b = some o → h'.get? b = some o
  new : h.objs.size ≤ e
  obj : ∃ oe vs, h'.get? e = some oe ∧ oe.cls = .ref C ∧ oe.dict = some d ∧ oe.data = .fields vs ∧ vs[1]? = some .none
  dbig : h.objs.size ≤ d
  dne : d ≠ e
  ns : h'.Ns1 d (fun y => if y = "name" then some v else none)
section
variable {prog : Program} {w : World} {A : Around} {E : Value → Shared → Prop} {R : Result → Shared → Prop} {s : Shared} {K : Frag} {mg : Str → Option Value} {cn qn : Str} {C fI : Addr}
theorem low_init (T : ErTxt K mg cn qn C fI) {x t0 : Addr} {v : Value} (X : K.In s.heap) (hlim : s.heap.NoLimit) (hx : s.heap.get? x = some (excO C t0)) (hnx : K.lookup x = none) (hroom : A.depth < recursionLimit)
    (hq : ∀ h' tk dx, InitEnd s.heap h' x C dx t0 v → R (.ok (.ret .none)) { s with heap := h', toks := tk }) :
    codeAny (model prog w) A (.call (.ref fI) ⟨[.ref x, v], []⟩) R s := by
  obtain ⟨oc, od, doc, pm, an, cdv, ct, osl, p1, p2, q1, q2, q3, q4, ho, hcd⟩ := T.fn
  obtain ⟨nm, q, N, bs, bm, sn, sub, ab, col, dd, k0, k1, k2, k3, k5, hC, hbm⟩ := T.cls
  have hcl : clsIn K C = some { name := nm, bases := bs, mro := .ref C :: bm, ns := N, qualname := q, hasDict := true, slotNames := sn, subclasses := sub, abstract := ab, collection := col, hasDel := false } := by unfold clsIn; rw [hC] <;> rfl
  refine Att.call_fn (binds := [("self", .ref x), ("name", v)]) X hlim ho hcd hroom (BindsTo.of_eq (by first | rfl | with_unfolding_all rfl)) (by first | rfl | decide | with_unfolding_all rfl) (fun s₁ IC => ?_) rfl rfl rfl
  obtain ⟨h₁, tk₁, rfl⟩ := IC.toInCall.same
  have k : ∀ b o, s.heap.get? b = some o → h₁.get? b = some o := IC.toInCall.keep
  have hn := IC.toInCall.ns
  have hxL : s.heap.objs.size ≠ x := Nat.ne_of_gt (Heap.lt_size hx)
  have X₁ : K.In h₁ := X.keeps k
  have hx₁ := k _ _ hx
  -- self.by = by
  show wpAny _ _ (execs _ _) _ _ _
  refine wpAny_execs_cons (plainObj_wpAny_Assign_Attribute ?_)
  refine ldC (v := v) hn (by first | rfl | with_unfolding_all rfl | kernel_rfl) (ldC (v := .ref x) hn (by first | rfl | with_unfolding_all rfl | kernel_rfl) ?_)
  refine set_plain X₁ (ox := excO C t0) (od := none) ⟨hx₁, rfl, rfl, trivial⟩ T.sa ?_
  refine exc_osa X₁ hx₁ hcl (show refsVE (.ref C :: bm) = true from hbm) rfl T.noN (fun h₃ tk₃ dx k₃ dn dne hx₃ hn₃ => ?_)
  show wpAny _ _ (execs _ _) _ _ _
  have z : s.heap.objs.size < h₁.objs.size := hn.lt
  exact wpAny_execs_nil (hq h₃ tk₃ dx ⟨fun b o hb e => k₃ b o hb (k b o e), hx₃, Nat.le_of_lt (Nat.lt_of_lt_of_le z dn), dne, hn₃⟩)
theorem low_made (T : ErTxt K mg cn qn C fI) {v : Value} (X : K.In s.heap) (hlim : s.heap.NoLimit) (hroom : A.depth + 1 < recursionLimit)
    (hq : ∀ h' tk e d, OwnMade s.heap h' e C d v → R (.ok (.ret (.ref e))) { s with heap := h', toks := tk }) :
    codeAny (model prog w) A (.call (.ref C) ⟨[v], []⟩) R s := by
  obtain ⟨nm, q, N, bs, bm, sn, sub, ab, col, dd, k0, k1, k2, k3, k5, hC, hbm⟩ := T.cls
  obtain ⟨hp, g, dr, tk, os⟩ := s
  have k : ∀ b o, hp.get? b = some o → ((hp.push (kdv_tup [v])).push (excO C hp.objs.size)).get? b = some o := fun b o e => Heap.get?_push_of_some _ (Heap.get?_push_of_some _ e)
  have hget : ((hp.push (kdv_tup [v])).push (excO C hp.objs.size)).get? (hp.objs.size + 1) = some (excO C hp.objs.size) := by heap_get
  have hnx : K.lookup (hp.objs.size + 1) = none := by
    cases e : K.lookup (hp.objs.size + 1) with
    | none => rfl
    | some o =>
      have z : hp.get? (hp.objs.size + 1) = some o := X _ _ e
      exact absurd (Nat.lt_of_succ_lt (Heap.lt_size z)) (Nat.lt_irrefl _)
  refine call_own F.excBase_ValueError (fun X => refsVE_contains X bm hbm) (X _ _ hC) (looks_findIn X T.iC) (fun self => bind_fn X self T.tC) (one_size v) ?_
  refine low_init (s := ⟨(hp.push (kdv_tup [v])).push (excO C hp.objs.size), g, dr, tk, os⟩) T (X.keeps k) (hlim.keeps k) hget hnx ?_ fun h' tk' dx ⟨k', hx, dn, dne, hns⟩ => ?_
  · show A.depth + 1 < recursionLimit
    exact hroom
  · have old : ∀ b o, hp.get? b = some o → h'.get? b = some o := fun b o e => k' b o (Nat.ne_of_lt (Nat.lt_succ_of_lt (Heap.lt_size e))) (k b o e)
    have z : hp.objs.size + 1 + 1 ≤ dx := by
      first
        | (simpa only [Heap.size_push] using dn)
        | exact dn
        | (have q := dn; rw [Heap.size_push, Heap.size_push] at q; exact q)
    exact ⟨rfl, hq h' tk' (hp.objs.size + 1) dx ⟨old, Nat.le_succ _, ⟨_, _, hx, rfl, rfl, rfl, rfl⟩, Nat.le_trans (Nat.le_trans (Nat.le_succ _) (Nat.le_succ _)) z, dne, hns⟩⟩
end
end Ername
end PySem
namespace L2
open PySem PySem.Spec PyProof.Rows
theorem relO_low_name {v : V} {v' : Value} (r : RelV v v') (f : Str) : RelO (List.lookup f [(("name" : Str), v)]) (if f = "name" then some v' else none) := by
  by_cases hw : f = "name"
  · subst hw
    rw [if_pos rfl]
    have q : List.lookup ("name" : Str) [(("name" : Str), v)] = some v := by simp [List.lookup]
    rw [q]
    exact r
  · rw [if_neg hw]
    have qw : (f == ("name" : Str)) = false := by simpa using hw
    have q2 : List.lookup f [(("name" : Str), v)] = none := by simp [List.lookup, qw]
    rw [q2]
    trivial
section
variable {X : Cx} {cn qn : Str} {C fI : Addr}
/-- Low(e) -/
def tMkLow_name (C : Addr) (ta : TA) : St → Hp → XK → Prop := fun σ H Q => ta σ H fun vs H1 => ∃ v, vs = [v] ∧ ∀ d, H1 d = none → Q (.ref C) (some d) (upd H1 d (.xd [(("name" : Str), v)]))
theorem pmk_low_name {a : Expr} {ta : TA} {p pos : Pos} {k : Nat} (T : PySem.Ername.ErTxt X.K X.mg cn qn C fI) (hr : Room k X.A) (ha : PA X [a] ta) (hg : Gl X cn) (hdb : (cn == ("__debug__" : Str)) = false)
    (he : starEach (a :: []) X.env = (false, eval a X.env) :: starEach [] X.env := by rfl) (hpl : (backTo pos (starEach [] X.env)).any (·.1) = false := by rfl) :
    PMk X (.Call (.Name cn p) [a] [] pos) (tMkLow_name C ta) := by
  intro pins s σ H Q I h
  refine wpAny_Call_Name_kw (ld_glob I hg T.gC ?_ hdb)
  refine PySem.W.callWith_K (h₀ := X.base) I.ok.mod.kin T.kC (thn (ha.run pos pins s σ H _ I h) fun us s1 hh => ?_) he hpl
  obtain ⟨vs, H1, I1, r1, v, ev, q1⟩ := hh
  subst ev
  refine ⟨I1.kIn, ?_⟩
  cases r1 with
  | cons rv rn =>
    rename_i v' us'
    cases rn
    show wpAny _ _ (call (.ref C) [v']) _ _ _
    have hlim := I1.nolimit
    obtain ⟨hp, g, dr, tk, os⟩ := s1
    refine wpAny_call (PySem.Ername.low_made T I1.kIn hlim (by have := hr.dp; omega) fun h' tk' e d M => ?_)
    show MkP X pins σ Q (.ref e) ⟨h', g, dr, tk', os⟩
    obtain ⟨oe, fv, hoe, hc, hd, hdat, h1⟩ := M.obj
    have hns := M.ns
    obtain ⟨G', g1, g2⟩ := restrict h' fun b => decide (b ≠ e)
    have gk : ∀ b, b ≠ e → G'.get? b = h'.get? b := fun b hb => g1 b (decide_eq_true hb)
    have ge : G'.get? e = none := g2 e (by simp)
    have old : ∀ b o, hp.get? b = some o → G'.get? b = some o := fun b o q => (gk b (Nat.ne_of_lt (Nat.lt_of_lt_of_le (Heap.lt_size q) M.new))).trans (M.keep b o q)
    have ob : ObjOk X.prog X.w (upd H1 d (.xd [(("name" : Str), v)])) G' d (.xd [(("name" : Str), v)]) :=
      ⟨_, hns.at (fun o q => (gk d M.dne).trans q), fun f => relO_low_name rv f⟩
    have J : Inv X pins σ (upd H1 d (.xd [(("name" : Str), v)])) ⟨G', g, dr, tk', os⟩ := I1.laid (t' := tk') old M.dbig ob
    refine ⟨e, oe, fv, ⟨G', g, dr, tk', os⟩, _, .ref C, some d, rfl, J, fun b o q => ?_, ge, hoe, ⟨hc, hd⟩, hdat, h1, ?_, rfl, I1.bare, raises_own T.exC T.tyC, q1 d (I1.hok.fresh M.dbig)⟩
    · by_cases hb : b = e
      · have q' : G'.get? b = some o := q
        rw [hb, ge] at q'; cases q'
      · exact (gk b hb).symm.trans q
    · rw [upd_ne (Ne.symm M.dne)]
      exact I1.hok.fresh M.new
/-- raise Low(e) -/
def tRaiseLow_name (C : Addr) (W : WX) (ta : TA) : TS := fun _ σ H => tMkLow_name C ta σ H fun cls d H' => W cls d σ H'
theorem ps_raiseLow_name {a : Expr} {ta : TA} {W : WX} {p pos pos2 : Pos} {k : Nat} (hc : X.calm = true) (T : PySem.Ername.ErTxt X.K X.mg cn qn C fI) (hr : Room k X.A) (tk : Takes X W) (ha : PA X [a] ta) (hg : Gl X cn) (hdb : (cn == ("__debug__" : Str)) = false)
    (he : starEach (a :: []) X.env = (false, eval a X.env) :: starEach [] X.env := by rfl) (hpl : (backTo pos (starEach [] X.env)).any (·.1) = false := by rfl) :
    PS X (.Raise (some (.Call (.Name cn p) [a] [] pos)) none pos2) (tRaiseLow_name C W ta) := ps_raise hc tk (pmk_low_name T hr ha hg hdb he hpl)
/-- low.by, low the exception that the suite holds (at a; its class cls, its dict d) -/
def tByLow_name (C : Addr) (a : Addr) (cls : Value) (d : Option Addr) (te : TE) : TE := fun σ H Q => te σ H fun x H1 => x = .ref a ∧ cls = .ref C ∧ ∃ (dd : Addr) (v : V), d = some dd ∧ H1 dd = some (.xd [(("name" : Str), v)]) ∧ Q v H1
theorem pe_byLow_name {a : Addr} {oe : Obj} {cls : Value} {d : Option Addr} {pn : List (Addr × Obj)} {e : Expr} {te : TE} {pos : Pos} (T : PySem.Ername.ErTxt X.K X.mg cn qn C fI) (hz : Zc cls d oe) (hf : ∃ vs, oe.data = .fields vs) (he : PE (X.suite a ((a, oe) :: pn)) e te)
    (hb : attributeBase e "name" X.env (eval e X.env) = eval e X.env := by rfl) :
    PE (X.suite a ((a, oe) :: pn)) (.Attribute e "name" pos) (tByLow_name C a cls d te) := by
  refine ⟨fun pins s σ H Q I h => ?_⟩
  refine attr_of hb (thn (he.run pins s σ H _ I h) fun u s1 hh => ?_)
  obtain ⟨x, H1, I1, rx, ex, ec, dd, v, ed, ea, q⟩ := hh
  subst ex
  obtain rfl : u = Value.ref a := rx
  subst ec
  subst ed
  obtain ⟨ha, _⟩ := I1.pin (a, oe) (List.mem_append_left _ List.mem_cons_self)
  obtain ⟨vs, hd⟩ := hf
  have hx : ObjOk X.prog X.w H1 s1.heap dd (.xd [(("name" : Str), v)]) := I1.hok dd _ ea
  obtain ⟨mA, hns, hr⟩ := hx
  obtain ⟨od, ho, hl⟩ := lookIn_ns hns
  have l : List.lookup ("name" : Str) [(("name" : Str), v)] = some v := by simp [List.lookup]
  obtain ⟨u, hu, ru⟩ := RelO.some_of (v := v) (o := mA "name") (by rw [← l]; exact hr "name")
  have J : PySem.W.InstAt s1.heap a oe C (some od) := ⟨ha, hz.1, by unfold PySem.W.notCls; rw [hd] <;> rfl, by rw [hz.2]; exact ho⟩
  exact HandSPX.exc_get I1.kIn J T.ga T.gg T.exC (PySem.W.findObj_own T.hdC T.noN rfl (by rw [hl, hu])) (handed_of ru) ⟨v, H1, I1.tok _, ru, q⟩
end
end L2


namespace PySem
namespace Erat
open PySem.W PySem.Calls PyProof.Rows PySem.HandSPX
/-! ### the text of __init__ -/
def iA (p1 p2 : Pos) : Arguments := { posonlyargs := [], args := [{ arg := "self", annotation := none, pos := p1 }, { arg := "at", annotation := none, pos := p2 }], vararg := none, kwonlyargs := [], kw_defaults := [], kwarg := none, defaults := [] }
def iB (q1 q2 q3 q4 : Pos) : List Stmt := [.Assign [.Attribute (.Name "self" q1) "at" q2] (.Name "at" q3) q4]
def iS : Scope := { kind := .function, names := [(PySem.Str.ofString "self", .local), (PySem.Str.ofString "at", .local)], isGenerator := false, isCoroutine := false, more := [] }
/-- what the written part says of Low, at C, and of its __init__, at fI -/
structure ErTxt (K : Frag) (mg : Str → Option Value) (cn qn : Str) (C fI : Addr) : Prop where
  gC : mg cn = some (.ref C)
  cls : ∃ nm q N bs bm sn sub ab col dd k0 k1 k2 k3 k5, K.lookup C = some (excClassObj nm q C N bs bm true sn sub ab col dd k0 k1 k2 k3 k5 "ValueError.__new__") ∧ refsVE bm = true
  sa : findIn K (.ref C) "__setattr__" = some (some (.builtin "object.__setattr__"))
  ga : findIn K (.ref C) "__getattribute__" = some (some (.builtin "BaseException.__getattribute__"))
  gg : findIn K (.ref C) "__getattr__" = some none
  noN : findIn K (.ref C) "at" = some none
  iC : findIn K (.ref C) "__init__" = some (some (.ref fI))
  tC : typeIn K (.ref fI) = some (.type "function")
  kC : keepIn K (.ref C) = true
  exC : subIn K (.ref C) (.type "BaseException") = some true
  tyC : typeIn K (.ref C) = some (.type "type")
  hdC : hasDictIn K C = true
  fn : ∃ (oc : Value) (od : Option Addr) (doc pm : Value) (an : Option Addr) (cdv ct : Value) (osl : Array (Option Value)) (p1 p2 q1 q2 q3 q4 : Pos),
    K.lookup fI = some ⟨oc, od, .func (fnOf "__init__" qn (iA p1 p2) (iB q1 q2 q3 q4) iS .none .none doc pm an cdv ct), osl⟩ ∧ codeIn K cdv qn = true
theorem one_size (v : Value) : [v].length ≤ sizeLine := by
  rw [sizeLine_eq]
  exact (by decide : 1 ≤ 16777216)
theorem kept_but {K : Frag} {h h' : Heap} {x : Addr} (X : K.In h) (hx : K.lookup x = none) (k : ∀ b o, b ≠ x → h.get? b = some o → h'.get? b = some o) : K.In h' := fun a o e =>
  k a o (fun z => by rw [z, hx] at e; cases e) (X a o e)
theorem ldC {M : Model} {s : Shared} {name : Str} {scope : Scope} {L a : Addr} {cd : Value} {m : Str → Option Value} {x : Str} {pos : Pos} {v : Value} {Q : Value → Shared → Prop} {A : Around} {E : Value → Shared → Prop} (hn : s.heap.Ns L m) (hv : m x = some v) (h : Q v s)
    (hk : scope.kind = .function := by rfl) (hl : (envOfC name scope L a cd).kindOf x = some .local := by rfl) (hd : (x == ("__debug__" : Str)) = false := by decide) :
    wpAny M A (eval (.Name x pos) (envOfC name scope L a cd)) Q E s := wpAny_Name (wpAny_loadName_local hk hl hn hv h) hd
/-- what __init__ leaves of a fresh exception at x -/
structure InitEnd (h h' : Heap) (x C dx t1 : Addr) (v : Value) : Prop where
  keep : ∀ b o, b ≠ x → h.get? b = some o → h'.get? b = some o
  obj : h'.get? x = some { cls := .ref C, dict := some dx, data := .fields #[.ref t1, .none, .none, .none, .bool false, .none] }
  dbig : h.objs.size ≤ dx
  dne : dx ≠ x
  ns : h'.Ns1 dx (fun y => if y = "at" then some v else none)
/-- a made Low -/
structure OwnMade (h h' : Heap) (e C d : Addr) (v : Value) : Prop where
  keep : ∀ b o, h.get? b = some o → h'.get? b = some o
  new : h.objs.size ≤ e
  obj : ∃ oe vs, h'.get? e = some oe ∧ oe.cls = .ref C ∧ oe.dict = some d ∧ oe.data = .fields vs ∧ vs[1]? = some .none
  dbig : h.objs.size ≤ d
  dne : d ≠ e
  ns : h'.Ns1 d (fun y => if y = "at" then some v else none)
section
variable {prog : Program} {w : World} {A : Around} {E : Value → Shared → Prop} {R : Result → Shared → Prop} {s : Shared} {K : Frag} {mg : Str → Option Value} {cn qn : Str} {C fI : Addr}
theorem low_init (T : ErTxt K mg cn qn C fI) {x t0 : Addr} {v : Value} (X : K.In s.heap) (hlim : s.heap.NoLimit) (hx : s.heap.get? x = some (excO C t0)) (hnx : K.lookup x = none) (hroom : A.depth < recursionLimit)
    (hq : ∀ h' tk dx, InitEnd s.heap h' x C dx t0 v → R (.ok (.ret .none)) { s with heap := h', toks := tk }) :
    codeAny (model prog w) A (.call (.ref fI) ⟨[.ref x, v], []⟩) R s := by
  obtain ⟨oc, od, doc, pm, an, cdv, ct, osl, p1, p2, q1, q2, q3, q4, ho, hcd⟩ := T.fn
  obtain ⟨nm, q, N, bs, bm, sn, sub, ab, col, dd, k0, k1, k2, k3, k5, hC, hbm⟩ := T.cls
  have hcl : clsIn K C = some { name := nm, bases := bs, mro := .ref C :: bm, ns := N, qualname := q, hasDict := true, slotNames := sn, subclasses := sub, abstract := ab, collection := col, hasDel := false } := by unfold clsIn; rw [hC] <;> rfl
  refine Att.call_fn (binds := [("self", .ref x), ("at", v)]) X hlim ho hcd hroom (BindsTo.of_eq (by first | rfl | with_unfolding_all rfl)) (by first | rfl | decide | with_unfolding_all rfl) (fun s₁ IC => ?_) rfl rfl rfl
  obtain ⟨h₁, tk₁, rfl⟩ := IC.toInCall.same
  have k : ∀ b o, s.heap.get? b = some o → h₁.get? b = some o := IC.toInCall.keep
  have hn := IC.toInCall.ns
  have hxL : s.heap.objs.size ≠ x := Nat.ne_of_gt (Heap.lt_size hx)
  have X₁ : K.In h₁ := X.keeps k
  have hx₁ := k _ _ hx
  -- self.by = by
  show wpAny _ _ (execs _ _) _ _ _
  refine wpAny_execs_cons (plainObj_wpAny_Assign_Attribute ?_)
  refine ldC (v := v) hn (by first | rfl | with_unfolding_all rfl | kernel_rfl) (ldC (v := .ref x) hn (by first | rfl | with_unfolding_all rfl | kernel_rfl) ?_)
  refine set_plain X₁ (ox := excO C t0) (od := none) ⟨hx₁, rfl, rfl, trivial⟩ T.sa ?_
  refine exc_osa X₁ hx₁ hcl (show refsVE (.ref C :: bm) = true from hbm) rfl T.noN (fun h₃ tk₃ dx k₃ dn dne hx₃ hn₃ => ?_)
  show wpAny _ _ (execs _ _) _ _ _
  have z : s.heap.objs.size < h₁.objs.size := hn.lt
  exact wpAny_execs_nil (hq h₃ tk₃ dx ⟨fun b o hb e => k₃ b o hb (k b o e), hx₃, Nat.le_of_lt (Nat.lt_of_lt_of_le z dn), dne, hn₃⟩)
theorem low_made (T : ErTxt K mg cn qn C fI) {v : Value} (X : K.In s.heap) (hlim : s.heap.NoLimit) (hroom : A.depth + 1 < recursionLimit)
    (hq : ∀ h' tk e d, OwnMade s.heap h' e C d v → R (.ok (.ret (.ref e))) { s with heap := h', toks := tk }) :
    codeAny (model prog w) A (.call (.ref C) ⟨[v], []⟩) R s := by
  obtain ⟨nm, q, N, bs, bm, sn, sub, ab, col, dd, k0, k1, k2, k3, k5, hC, hbm⟩ := T.cls
  obtain ⟨hp, g, dr, tk, os⟩ := s
  have k : ∀ b o, hp.get? b = some o → ((hp.push (kdv_tup [v])).push (excO C hp.objs.size)).get? b = some o := fun b o e => Heap.get?_push_of_some _ (Heap.get?_push_of_some _ e)
  have hget : ((hp.push (kdv_tup [v])).push (excO C hp.objs.size)).get? (hp.objs.size + 1) = some (excO C hp.objs.size) := by heap_get
  have hnx : K.lookup (hp.objs.size + 1) = none := by
    cases e : K.lookup (hp.objs.size + 1) with
    | none => rfl
    | some o =>
      have z : hp.get? (hp.objs.size + 1) = some o := X _ _ e
      exact absurd (Nat.lt_of_succ_lt (Heap.lt_size z)) (Nat.lt_irrefl _)
  refine call_own F.excBase_ValueError (fun X => refsVE_contains X bm hbm) (X _ _ hC) (looks_findIn X T.iC) (fun self => bind_fn X self T.tC) (one_size v) ?_
  refine low_init (s := ⟨(hp.push (kdv_tup [v])).push (excO C hp.objs.size), g, dr, tk, os⟩) T (X.keeps k) (hlim.keeps k) hget hnx ?_ fun h' tk' dx ⟨k', hx, dn, dne, hns⟩ => ?_
  · show A.depth + 1 < recursionLimit
    exact hroom
  · have old : ∀ b o, hp.get? b = some o → h'.get? b = some o := fun b o e => k' b o (Nat.ne_of_lt (Nat.lt_succ_of_lt (Heap.lt_size e))) (k b o e)
    have z : hp.objs.size + 1 + 1 ≤ dx := by
      first
        | (simpa only [Heap.size_push] using dn)
        | exact dn
        | (have q := dn; rw [Heap.size_push, Heap.size_push] at q; exact q)
    exact ⟨rfl, hq h' tk' (hp.objs.size + 1) dx ⟨old, Nat.le_succ _, ⟨_, _, hx, rfl, rfl, rfl, rfl⟩, Nat.le_trans (Nat.le_trans (Nat.le_succ _) (Nat.le_succ _)) z, dne, hns⟩⟩
end
end Erat
end PySem
namespace L2
open PySem PySem.Spec PyProof.Rows
theorem relO_low_at {v : V} {v' : Value} (r : RelV v v') (f : Str) : RelO (List.lookup f [(("at" : Str), v)]) (if f = "at" then some v' else none) := by
  by_cases hw : f = "at"
  · subst hw
    rw [if_pos rfl]
    have q : List.lookup ("at" : Str) [(("at" : Str), v)] = some v := by simp [List.lookup]
    rw [q]
    exact r
  · rw [if_neg hw]
    have qw : (f == ("at" : Str)) = false := by simpa using hw
    have q2 : List.lookup f [(("at" : Str), v)] = none := by simp [List.lookup, qw]
    rw [q2]
    trivial
section
variable {X : Cx} {cn qn : Str} {C fI : Addr}
/-- Low(e) -/
def tMkLow_at (C : Addr) (ta : TA) : St → Hp → XK → Prop := fun σ H Q => ta σ H fun vs H1 => ∃ v, vs = [v] ∧ ∀ d, H1 d = none → Q (.ref C) (some d) (upd H1 d (.xd [(("at" : Str), v)]))
theorem pmk_low_at {a : Expr} {ta : TA} {p pos : Pos} {k : Nat} (T : PySem.Erat.ErTxt X.K X.mg cn qn C fI) (hr : Room k X.A) (ha : PA X [a] ta) (hg : Gl X cn) (hdb : (cn == ("__debug__" : Str)) = false)
    (he : starEach (a :: []) X.env = (false, eval a X.env) :: starEach [] X.env := by rfl) (hpl : (backTo pos (starEach [] X.env)).any (·.1) = false := by rfl) :
    PMk X (.Call (.Name cn p) [a] [] pos) (tMkLow_at C ta) := by
  intro pins s σ H Q I h
  refine wpAny_Call_Name_kw (ld_glob I hg T.gC ?_ hdb)
  refine PySem.W.callWith_K (h₀ := X.base) I.ok.mod.kin T.kC (thn (ha.run pos pins s σ H _ I h) fun us s1 hh => ?_) he hpl
  obtain ⟨vs, H1, I1, r1, v, ev, q1⟩ := hh
  subst ev
  refine ⟨I1.kIn, ?_⟩
  cases r1 with
  | cons rv rn =>
    rename_i v' us'
    cases rn
    show wpAny _ _ (call (.ref C) [v']) _ _ _
    have hlim := I1.nolimit
    obtain ⟨hp, g, dr, tk, os⟩ := s1
    refine wpAny_call (PySem.Erat.low_made T I1.kIn hlim (by have := hr.dp; omega) fun h' tk' e d M => ?_)
    show MkP X pins σ Q (.ref e) ⟨h', g, dr, tk', os⟩
    obtain ⟨oe, fv, hoe, hc, hd, hdat, h1⟩ := M.obj
    have hns := M.ns
    obtain ⟨G', g1, g2⟩ := restrict h' fun b => decide (b ≠ e)
    have gk : ∀ b, b ≠ e → G'.get? b = h'.get? b := fun b hb => g1 b (decide_eq_true hb)
    have ge : G'.get? e = none := g2 e (by simp)
    have old : ∀ b o, hp.get? b = some o → G'.get? b = some o := fun b o q => (gk b (Nat.ne_of_lt (Nat.lt_of_lt_of_le (Heap.lt_size q) M.new))).trans (M.keep b o q)
    have ob : ObjOk X.prog X.w (upd H1 d (.xd [(("at" : Str), v)])) G' d (.xd [(("at" : Str), v)]) :=
      ⟨_, hns.at (fun o q => (gk d M.dne).trans q), fun f => relO_low_at rv f⟩
    have J : Inv X pins σ (upd H1 d (.xd [(("at" : Str), v)])) ⟨G', g, dr, tk', os⟩ := I1.laid (t' := tk') old M.dbig ob
    refine ⟨e, oe, fv, ⟨G', g, dr, tk', os⟩, _, .ref C, some d, rfl, J, fun b o q => ?_, ge, hoe, ⟨hc, hd⟩, hdat, h1, ?_, rfl, I1.bare, raises_own T.exC T.tyC, q1 d (I1.hok.fresh M.dbig)⟩
    · by_cases hb : b = e
      · have q' : G'.get? b = some o := q
        rw [hb, ge] at q'; cases q'
      · exact (gk b hb).symm.trans q
    · rw [upd_ne (Ne.symm M.dne)]
      exact I1.hok.fresh M.new
/-- raise Low(e) -/
def tRaiseLow_at (C : Addr) (W : WX) (ta : TA) : TS := fun _ σ H => tMkLow_at C ta σ H fun cls d H' => W cls d σ H'
theorem ps_raiseLow_at {a : Expr} {ta : TA} {W : WX} {p pos pos2 : Pos} {k : Nat} (hc : X.calm = true) (T : PySem.Erat.ErTxt X.K X.mg cn qn C fI) (hr : Room k X.A) (tk : Takes X W) (ha : PA X [a] ta) (hg : Gl X cn) (hdb : (cn == ("__debug__" : Str)) = false)
    (he : starEach (a :: []) X.env = (false, eval a X.env) :: starEach [] X.env := by rfl) (hpl : (backTo pos (starEach [] X.env)).any (·.1) = false := by rfl) :
    PS X (.Raise (some (.Call (.Name cn p) [a] [] pos)) none pos2) (tRaiseLow_at C W ta) := ps_raise hc tk (pmk_low_at T hr ha hg hdb he hpl)
/-- low.by, low the exception that the suite holds (at a; its class cls, its dict d) -/
def tByLow_at (C : Addr) (a : Addr) (cls : Value) (d : Option Addr) (te : TE) : TE := fun σ H Q => te σ H fun x H1 => x = .ref a ∧ cls = .ref C ∧ ∃ (dd : Addr) (v : V), d = some dd ∧ H1 dd = some (.xd [(("at" : Str), v)]) ∧ Q v H1
theorem pe_byLow_at {a : Addr} {oe : Obj} {cls : Value} {d : Option Addr} {pn : List (Addr × Obj)} {e : Expr} {te : TE} {pos : Pos} (T : PySem.Erat.ErTxt X.K X.mg cn qn C fI) (hz : Zc cls d oe) (hf : ∃ vs, oe.data = .fields vs) (he : PE (X.suite a ((a, oe) :: pn)) e te)
    (hb : attributeBase e "at" X.env (eval e X.env) = eval e X.env := by rfl) :
    PE (X.suite a ((a, oe) :: pn)) (.Attribute e "at" pos) (tByLow_at C a cls d te) := by
  refine ⟨fun pins s σ H Q I h => ?_⟩
  refine attr_of hb (thn (he.run pins s σ H _ I h) fun u s1 hh => ?_)
  obtain ⟨x, H1, I1, rx, ex, ec, dd, v, ed, ea, q⟩ := hh
  subst ex
  obtain rfl : u = Value.ref a := rx
  subst ec
  subst ed
  obtain ⟨ha, _⟩ := I1.pin (a, oe) (List.mem_append_left _ List.mem_cons_self)
  obtain ⟨vs, hd⟩ := hf
  have hx : ObjOk X.prog X.w H1 s1.heap dd (.xd [(("at" : Str), v)]) := I1.hok dd _ ea
  obtain ⟨mA, hns, hr⟩ := hx
  obtain ⟨od, ho, hl⟩ := lookIn_ns hns
  have l : List.lookup ("at" : Str) [(("at" : Str), v)] = some v := by simp [List.lookup]
  obtain ⟨u, hu, ru⟩ := RelO.some_of (v := v) (o := mA "at") (by rw [← l]; exact hr "at")
  have J : PySem.W.InstAt s1.heap a oe C (some od) := ⟨ha, hz.1, by unfold PySem.W.notCls; rw [hd] <;> rfl, by rw [hz.2]; exact ho⟩
  exact HandSPX.exc_get I1.kIn J T.ga T.gg T.exC (PySem.W.findObj_own T.hdC T.noN rfl (by rw [hl, hu])) (handed_of ru) ⟨v, H1, I1.tok _, ru, q⟩
end
end L2


namespace PySem
namespace Erlimit
open PySem.W PySem.Calls PyProof.Rows PySem.HandSPX
/-! ### the text of __init__ -/
def iA (p1 p2 : Pos) : Arguments := { posonlyargs := [], args := [{ arg := "self", annotation := none, pos := p1 }, { arg := "limit", annotation := none, pos := p2 }], vararg := none, kwonlyargs := [], kw_defaults := [], kwarg := none, defaults := [] }
def iB (q1 q2 q3 q4 : Pos) : List Stmt := [.Assign [.Attribute (.Name "self" q1) "limit" q2] (.Name "limit" q3) q4]
def iS : Scope := { kind := .function, names := [(PySem.Str.ofString "self", .local), (PySem.Str.ofString "limit", .local)], isGenerator := false, isCoroutine := false, more := [] }
/-- what the written part says of Low, at C, and of its __init__, at fI -/
structure ErTxt (K : Frag) (mg : Str → Option Value) (cn qn : Str) (C fI : Addr) : Prop where
  gC : mg cn = some (.ref C)
  cls : ∃ nm q N bs bm sn sub ab col dd k0 k1 k2 k3 k5, K.lookup C = some (excClassObj nm q C N bs bm true sn sub ab col dd k0 k1 k2 k3 k5 "ValueError.__new__") ∧ refsVE bm = true
  sa : findIn K (.ref C) "__setattr__" = some (some (.builtin "object.__setattr__"))
  ga : findIn K (.ref C) "__getattribute__" = some (some (.builtin "BaseException.__getattribute__"))
  gg : findIn K (.ref C) "__getattr__" = some none
  noN : findIn K (.ref C) "limit" = some none
  iC : findIn K (.ref C) "__init__" = some (some (.ref fI))
  tC : typeIn K (.ref fI) = some (.type "function")
  kC : keepIn K (.ref C) = true
  exC : subIn K (.ref C) (.type "BaseException") = some true
  tyC : typeIn K (.ref C) = some (.type "type")
  hdC : hasDictIn K C = true
  fn : ∃ (oc : Value) (od : Option Addr) (doc pm : Value) (an : Option Addr) (cdv ct : Value) (osl : Array (Option Value)) (p1 p2 q1 q2 q3 q4 : Pos),
    K.lookup fI = some ⟨oc, od, .func (fnOf "__init__" qn (iA p1 p2) (iB q1 q2 q3 q4) iS .none .none doc pm an cdv ct), osl⟩ ∧ codeIn K cdv qn = true
theorem one_size (v : Value) : [v].length ≤ sizeLine := by
  rw [sizeLine_eq]
  exact (by decide : 1 ≤ 16777216)
theorem kept_but {K : Frag} {h h' : Heap} {x : Addr} (X : K.In h) (hx : K.lookup x = none) (k : ∀ b o, b ≠ x → h.get? b = some o → h'.get? b = some o) : K.In h' := fun a o e =>
  k a o (fun z => by rw [z, hx] at e; cases e) (X a o e)
theorem ldC {M : Model} {s : Shared} {name : Str} {scope : Scope} {L a : Addr} {cd : Value} {m : Str → Option Value} {x : Str} {pos : Pos} {v : Value} {Q : Value → Shared → Prop} {A : Around} {E : Value → Shared → Prop} (hn : s.heap.Ns L m) (hv : m x = some v) (h : Q v s)
    (hk : scope.kind = .function := by rfl) (hl : (envOfC name scope L a cd).kindOf x = some .local := by rfl) (hd : (x == ("__debug__" : Str)) = false := by decide) :
    wpAny M A (eval (.Name x pos) (envOfC name scope L a cd)) Q E s := wpAny_Name (wpAny_loadName_local hk hl hn hv h) hd
/-- what __init__ leaves of a fresh exception at x -/
structure InitEnd (h h' : Heap) (x C dx t1 : Addr) (v : Value) : Prop where
  keep : ∀ b o, b ≠ x → h.get? b = some o → h'.get? b = some o
  obj : h'.get? x = some { cls := .ref C, dict := some dx, data := .fields #[.ref t1, .none, .none, .none, .bool false, .none] }
  dbig : h.objs.size ≤ dx
  dne : dx ≠ x
  ns : h'.Ns1 dx (fun y => if y = "limit" then some v else none)
/-- a made Low -/
structure OwnMade (h h' : Heap) (e C d : Addr) (v : Value) : Prop where
  keep : ∀ b o, h.get? b = some o → h'.get? b = some o
  new : h.objs.size ≤ e
  obj : ∃ oe vs, h'.get? e = some oe ∧ oe.cls = .ref C ∧ oe.dict = some d ∧ oe.data = .fields vs ∧ vs[1]? = some .none
  dbig : h.objs.size ≤ d
  dne : d ≠ e
  ns : h'.Ns1 d (fun y => if y = "limit" then some v else none)
section
variable {prog : Program} {w : World} {A : Around} {E : Value → Shared → Prop} {R : Result → Shared → Prop} {s : Shared} {K : Frag} {mg : Str → Option Value} {cn qn : Str} {C fI : Addr}
theorem low_init (T : ErTxt K mg cn qn C fI) {x t0 : Addr} {v : Value} (X : K.In s.heap) (hlim : s.heap.NoLimit) (hx : s.heap.get? x = some (excO C t0)) (hnx : K.lookup x = none) (hroom : A.depth < recursionLimit)
    (hq : ∀ h' tk dx, InitEnd s.heap h' x C dx t0 v → R (.ok (.ret .none)) { s with heap := h', toks := tk }) :
    codeAny (model prog w) A (.call (.ref fI) ⟨[.ref x, v], []⟩) R s := by
  obtain ⟨oc, od, doc, pm, an, cdv, ct, osl, p1, p2, q1, q2, q3, q4, ho, hcd⟩ := T.fn
  obtain ⟨nm, q, N, bs, bm, sn, sub, ab, col, dd, k0, k1, k2, k3, k5, hC, hbm⟩ := T.cls
  have hcl : clsIn K C = some { name := nm, bases := bs, mro := .ref C :: bm, ns := N, qualname := q, hasDict := true, slotNames := sn, subclasses := sub, abstract := ab, collection := col, hasDel := false } := by unfold clsIn; rw [hC] <;> rfl
  refine Att.call_fn (binds := [("self", .ref x), ("limit", v)]) X hlim ho hcd hroom (BindsTo.of_eq (by first | rfl | with_unfolding_all rfl)) (by first | rfl | decide | with_unfolding_all rfl) (fun s₁ IC => ?_) rfl rfl rfl
  obtain ⟨h₁, tk₁, rfl⟩ := IC.toInCall.same
  have k : ∀ b o, s.heap.get? b = some o → h₁.get? b = some o := IC.toInCall.keep
  have hn := IC.toInCall.ns
  have hxL : s.heap.objs.size ≠ x := Nat.ne_of_gt (Heap.lt_size hx)
  have X₁ : K.In h₁ := X.keeps k
  have hx₁ := k _ _ hx
  -- self.by = by
  show wpAny _ _ (execs _ _) _ _ _
  refine wpAny_execs_cons (plainObj_wpAny_Assign_Attribute ?_)
  refine ldC (v := v) hn (by first | rfl | with_unfolding_all rfl | kernel_rfl) (ldC (v := .ref x) hn (by first | rfl | with_unfolding_all rfl | kernel_rfl) ?_)
  refine set_plain X₁ (ox := excO C t0) (od := none) ⟨hx₁, rfl, rfl, trivial⟩ T.sa ?_
  refine exc_osa X₁ hx₁ hcl (show refsVE (.ref C :: bm) = true from hbm) rfl T.noN (fun h₃ tk₃ dx k₃ dn dne hx₃ hn₃ => ?_)
  show wpAny _ _ (execs _ _) _ _ _
  have z : s.heap.objs.size < h₁.objs.size := hn.lt
  exact wpAny_execs_nil (hq h₃ tk₃ dx ⟨fun b o hb e => k₃ b o hb (k b o e), hx₃, Nat.le_of_lt (Nat.lt_of_lt_of_le z dn), dne, hn₃⟩)
theorem low_made (T : ErTxt K mg cn qn C fI) {v : Value} (X : K.In s.heap) (hlim : s.heap.NoLimit) (hroom : A.depth + 1 < recursionLimit)
    (hq : ∀ h' tk e d, OwnMade s.heap h' e C d v → R (.ok (.ret (.ref e))) { s with heap := h', toks := tk }) :
    codeAny (model prog w) A (.call (.ref C) ⟨[v], []⟩) R s := by
  obtain ⟨nm, q, N, bs, bm, sn, sub, ab, col, dd, k0, k1, k2, k3, k5, hC, hbm⟩ := T.cls
  obtain ⟨hp, g, dr, tk, os⟩ := s
  have k : ∀ b o, hp.get? b = some o → ((hp.push (kdv_tup [v])).push (excO C hp.objs.size)).get? b = some o := fun b o e => Heap.get?_push_of_some _ (Heap.get?_push_of_some _ e)
  have hget : ((hp.push (kdv_tup [v])).push (excO C hp.objs.size)).get? (hp.objs.size + 1) = some (excO C hp.objs.size) := by heap_get
  have hnx : K.lookup (hp.objs.size + 1) = none := by
    cases e : K.lookup (hp.objs.size + 1) with
    | none => rfl
    | some o =>
      have z : hp.get? (hp.objs.size + 1) = some o := X _ _ e
      exact absurd (Nat.lt_of_succ_lt (Heap.lt_size z)) (Nat.lt_irrefl _)
  refine call_own F.excBase_ValueError (fun X => refsVE_contains X bm hbm) (X _ _ hC) (looks_findIn X T.iC) (fun self => bind_fn X self T.tC) (one_size v) ?_
  refine low_init (s := ⟨(hp.push (kdv_tup [v])).push (excO C hp.objs.size), g, dr, tk, os⟩) T (X.keeps k) (hlim.keeps k) hget hnx ?_ fun h' tk' dx ⟨k', hx, dn, dne, hns⟩ => ?_
  · show A.depth + 1 < recursionLimit
    exact hroom
  · have old : ∀ b o, hp.get? b = some o → h'.get? b = some o := fun b o e => k' b o (Nat.ne_of_lt (Nat.lt_succ_of_lt (Heap.lt_size e))) (k b o e)
    have z : hp.objs.size + 1 + 1 ≤ dx := by
      first
        | (simpa only [Heap.size_push] using dn)
        | exact dn
        | (have q := dn; rw [Heap.size_push, Heap.size_push] at q; exact q)
    exact ⟨rfl, hq h' tk' (hp.objs.size + 1) dx ⟨old, Nat.le_succ _, ⟨_, _, hx, rfl, rfl, rfl, rfl⟩, Nat.le_trans (Nat.le_trans (Nat.le_succ _) (Nat.le_succ _)) z, dne, hns⟩⟩
end
end Erlimit
end PySem
namespace L2
open PySem PySem.Spec PyProof.Rows
theorem relO_low_limit {v : V} {v' : Value} (r : RelV v v') (f : Str) : RelO (List.lookup f [(("limit" : Str), v)]) (if f = "limit" then some v' else none) := by
  by_cases hw : f = "limit"
  · subst hw
    rw [if_pos rfl]
    have q : List.lookup ("limit" : Str) [(("limit" : Str), v)] = some v := by simp [List.lookup]
    rw [q]
    exact r
  · rw [if_neg hw]
    have qw : (f == ("limit" : Str)) = false := by simpa using hw
    have q2 : List.lookup f [(("limit" : Str), v)] = none := by simp [List.lookup, qw]
    rw [q2]
    trivial
section
variable {X : Cx} {cn qn : Str} {C fI : Addr}
/-- Low(e) -/
def tMkLow_limit (C : Addr) (ta : TA) : St → Hp → XK → Prop := fun σ H Q => ta σ H fun vs H1 => ∃ v, vs = [v] ∧ ∀ d, H1 d = none → Q (.ref C) (some d) (upd H1 d (.xd [(("limit" : Str), v)]))
theorem pmk_low_limit {a : Expr} {ta : TA} {p pos : Pos} {k : Nat} (T : PySem.Erlimit.ErTxt X.K X.mg cn qn C fI) (hr : Room k X.A) (ha : PA X [a] ta) (hg : Gl X cn) (hdb : (cn == ("__debug__" : Str)) = false)
    (he : starEach (a :: []) X.env = (false, eval a X.env) :: starEach [] X.env := by rfl) (hpl : (backTo pos (starEach [] X.env)).any (·.1) = false := by rfl) :
    PMk X (.Call (.Name cn p) [a] [] pos) (tMkLow_limit C ta) := by
  intro pins s σ H Q I h
  refine wpAny_Call_Name_kw (ld_glob I hg T.gC ?_ hdb)
  refine PySem.W.callWith_K (h₀ := X.base) I.ok.mod.kin T.kC (thn (ha.run pos pins s σ H _ I h) fun us s1 hh => ?_) he hpl
  obtain ⟨vs, H1, I1, r1, v, ev, q1⟩ := hh
  subst ev
  refine ⟨I1.kIn, ?_⟩
  cases r1 with
  | cons rv rn =>
    rename_i v' us'
    cases rn
    show wpAny _ _ (call (.ref C) [v']) _ _ _
    have hlim := I1.nolimit
    obtain ⟨hp, g, dr, tk, os⟩ := s1
    refine wpAny_call (PySem.Erlimit.low_made T I1.kIn hlim (by have := hr.dp; omega) fun h' tk' e d M => ?_)
    show MkP X pins σ Q (.ref e) ⟨h', g, dr, tk', os⟩
    obtain ⟨oe, fv, hoe, hc, hd, hdat, h1⟩ := M.obj
    have hns := M.ns
    obtain ⟨G', g1, g2⟩ := restrict h' fun b => decide (b ≠ e)
    have gk : ∀ b, b ≠ e → G'.get? b = h'.get? b := fun b hb => g1 b (decide_eq_true hb)
    have ge : G'.get? e = none := g2 e (by simp)
    have old : ∀ b o, hp.get? b = some o → G'.get? b = some o := fun b o q => (gk b (Nat.ne_of_lt (Nat.lt_of_lt_of_le (Heap.lt_size q) M.new))).trans (M.keep b o q)
    have ob : ObjOk X.prog X.w (upd H1 d (.xd [(("limit" : Str), v)])) G' d (.xd [(("limit" : Str), v)]) :=
      ⟨_, hns.at (fun o q => (gk d M.dne).trans q), fun f => relO_low_limit rv f⟩
    have J : Inv X pins σ (upd H1 d (.xd [(("limit" : Str), v)])) ⟨G', g, dr, tk', os⟩ := I1.laid (t' := tk') old M.dbig ob
    refine ⟨e, oe, fv, ⟨G', g, dr, tk', os⟩, _, .ref C, some d, rfl, J, fun b o q => ?_, ge, hoe, ⟨hc, hd⟩, hdat, h1, ?_, rfl, I1.bare, raises_own T.exC T.tyC, q1 d (I1.hok.fresh M.dbig)⟩
    · by_cases hb : b = e
      · have q' : G'.get? b = some o := q
        rw [hb, ge] at q'; cases q'
      · exact (gk b hb).symm.trans q
    · rw [upd_ne (Ne.symm M.dne)]
      exact I1.hok.fresh M.new
/-- raise Low(e) -/
def tRaiseLow_limit (C : Addr) (W : WX) (ta : TA) : TS := fun _ σ H => tMkLow_limit C ta σ H fun cls d H' => W cls d σ H'
theorem ps_raiseLow_limit {a : Expr} {ta : TA} {W : WX} {p pos pos2 : Pos} {k : Nat} (hc : X.calm = true) (T : PySem.Erlimit.ErTxt X.K X.mg cn qn C fI) (hr : Room k X.A) (tk : Takes X W) (ha : PA X [a] ta) (hg : Gl X cn) (hdb : (cn == ("__debug__" : Str)) = false)
    (he : starEach (a :: []) X.env = (false, eval a X.env) :: starEach [] X.env := by rfl) (hpl : (backTo pos (starEach [] X.env)).any (·.1) = false := by rfl) :
    PS X (.Raise (some (.Call (.Name cn p) [a] [] pos)) none pos2) (tRaiseLow_limit C W ta) := ps_raise hc tk (pmk_low_limit T hr ha hg hdb he hpl)
/-- low.by, low the exception that the suite holds (at a; its class cls, its dict d) -/
def tByLow_limit (C : Addr) (a : Addr) (cls : Value) (d : Option Addr) (te : TE) : TE := fun σ H Q => te σ H fun x H1 => x = .ref a ∧ cls = .ref C ∧ ∃ (dd : Addr) (v : V), d = some dd ∧ H1 dd = some (.xd [(("limit" : Str), v)]) ∧ Q v H1
theorem pe_byLow_limit {a : Addr} {oe : Obj} {cls : Value} {d : Option Addr} {pn : List (Addr × Obj)} {e : Expr} {te : TE} {pos : Pos} (T : PySem.Erlimit.ErTxt X.K X.mg cn qn C fI) (hz : Zc cls d oe) (hf : ∃ vs, oe.data = .fields vs) (he : PE (X.suite a ((a, oe) :: pn)) e te)
    (hb : attributeBase e "limit" X.env (eval e X.env) = eval e X.env := by rfl) :
    PE (X.suite a ((a, oe) :: pn)) (.Attribute e "limit" pos) (tByLow_limit C a cls d te) := by
  refine ⟨fun pins s σ H Q I h => ?_⟩
  refine attr_of hb (thn (he.run pins s σ H _ I h) fun u s1 hh => ?_)
  obtain ⟨x, H1, I1, rx, ex, ec, dd, v, ed, ea, q⟩ := hh
  subst ex
  obtain rfl : u = Value.ref a := rx
  subst ec
  subst ed
  obtain ⟨ha, _⟩ := I1.pin (a, oe) (List.mem_append_left _ List.mem_cons_self)
  obtain ⟨vs, hd⟩ := hf
  have hx : ObjOk X.prog X.w H1 s1.heap dd (.xd [(("limit" : Str), v)]) := I1.hok dd _ ea
  obtain ⟨mA, hns, hr⟩ := hx
  obtain ⟨od, ho, hl⟩ := lookIn_ns hns
  have l : List.lookup ("limit" : Str) [(("limit" : Str), v)] = some v := by simp [List.lookup]
  obtain ⟨u, hu, ru⟩ := RelO.some_of (v := v) (o := mA "limit") (by rw [← l]; exact hr "limit")
  have J : PySem.W.InstAt s1.heap a oe C (some od) := ⟨ha, hz.1, by unfold PySem.W.notCls; rw [hd] <;> rfl, by rw [hz.2]; exact ho⟩
  exact HandSPX.exc_get I1.kIn J T.ga T.gg T.exC (PySem.W.findObj_own T.hdC T.noN rfl (by rw [hl, hu])) (handed_of ru) ⟨v, H1, I1.tok _, ru, q⟩
end
end L2


namespace PySem
namespace Ernumber
open PySem.W PySem.Calls PyProof.Rows PySem.HandSPX
/-! ### the text of __init__ -/
def iA (p1 p2 : Pos) : Arguments := { posonlyargs := [], args := [{ arg := "self", annotation := none, pos := p1 }, { arg := "number", annotation := none, pos := p2 }], vararg := none, kwonlyargs := [], kw_defaults := [], kwarg := none, defaults := [] }
def iB (q1 q2 q3 q4 : Pos) : List Stmt := [.Assign [.Attribute (.Name "self" q1) "number" q2] (.Name "number" q3) q4]
def iS : Scope := { kind := .function, names := [(PySem.Str.ofString "self", .local), (PySem.Str.ofString "number", .local)], isGenerator := false, isCoroutine := false, more := [] }
/-- what the written part says of Low, at C, and of its __init__, at fI -/
structure ErTxt (K : Frag) (mg : Str → Option Value) (cn qn : Str) (C fI : Addr) : Prop where
  gC : mg cn = some (.ref C)
  cls : ∃ nm q N bs bm sn sub ab col dd k0 k1 k2 k3 k5, K.lookup C = some (excClassObj nm q C N bs bm true sn sub ab col dd k0 k1 k2 k3 k5 "ValueError.__new__") ∧ refsVE bm = true
  sa : findIn K (.ref C) "__setattr__" = some (some (.builtin "object.__setattr__"))
  ga : findIn K (.ref C) "__getattribute__" = some (some (.builtin "BaseException.__getattribute__"))
  gg : findIn K (.ref C) "__getattr__" = some none
  noN : findIn K (.ref C) "number" = some none
  iC : findIn K (.ref C) "__init__" = some (some (.ref fI))
  tC : typeIn K (.ref fI) = some (.type "function")
  kC : keepIn K (.ref C) = true
  exC : subIn K (.ref C) (.type "BaseException") = some true
  tyC : typeIn K (.ref C) = some (.type "type")
  hdC : hasDictIn K C = true
  fn : ∃ (oc : Value) (od : Option Addr) (doc pm : Value) (an : Option Addr) (cdv ct : Value) (osl : Array (Option Value)) (p1 p2 q1 q2 q3 q4 : Pos),
    K.lookup fI = some ⟨oc, od, .func (fnOf "__init__" qn (iA p1 p2) (iB q1 q2 q3 q4) iS .none .none doc pm an cdv ct), osl⟩ ∧ codeIn K cdv qn = true
theorem one_size (v : Value) : [v].length ≤ sizeLine := by
  rw [sizeLine_eq]
  exact (by decide : 1 ≤ 16777216)
theorem kept_but {K : Frag} {h h' : Heap} {x : Addr} (X : K.In h) (hx : K.lookup x = none) (k : ∀ b o, b ≠ x → h.get? b = some o → h'.get? b = some o) : K.In h' := fun a o e =>
  k a o (fun z => by rw [z, hx] at e; cases e) (X a o e)
theorem ldC {M : Model} {s : Shared} {name : Str} {scope : Scope} {L a : Addr} {cd : Value} {m : Str → Option Value} {x : Str} {pos : Pos} {v : Value} {Q : Value → Shared → Prop} {A : Around} {E : Value → Shared → Prop} (hn : s.heap.Ns L m) (hv : m x = some v) (h : Q v s)
    (hk : scope.kind = .function := by rfl) (hl : (envOfC name scope L a cd).kindOf x = some .local := by rfl) (hd : (x == ("__debug__" : Str)) = false := by decide) :
    wpAny M A (eval (.Name x pos) (envOfC name scope L a cd)) Q E s := wpAny_Name (wpAny_loadName_local hk hl hn hv h) hd
/-- what __init__ leaves of a fresh exception at x -/
structure InitEnd (h h' : Heap) (x C dx t1 : Addr) (v : Value) : Prop where
  keep : ∀ b o, b ≠ x → h.get? b = some o → h'.get? b = some o
  obj : h'.get? x = some { cls := .ref C, dict := some dx, data := .fields #[.ref t1, .none, .none, .none, .bool false, .none] }
  dbig : h.objs.size ≤ dx
  dne : dx ≠ x
  ns : h'.Ns1 dx (fun y => if y = "number" then some v else none)
/-- a made Low -/
structure OwnMade (h h' : Heap) (e C d : Addr) (v : Value) : Prop where
  keep : ∀ b o, h.get? b = some o → h'.get? b = some o
  new : h.objs.size ≤ e
  obj : ∃ oe vs, h'.get? e = some oe ∧ oe.cls = .ref C ∧ oe.dict = some d ∧ oe.data = .fields vs ∧ vs[1]? = some .none
  dbig : h.objs.size ≤ d
  dne : d ≠ e
  ns : h'.Ns1 d (fun y => if y = "number" then some v else none)
section
variable {prog : Program} {w : World} {A : Around} {E : Value → Shared → Prop} {R : Result → Shared → Prop} {s : Shared} {K : Frag} {mg : Str → Option Value} {cn qn : Str} {C fI : Addr}
theorem low_init (T : ErTxt K mg cn qn C fI) {x t0 : Addr} {v : Value} (X : K.In s.heap) (hlim : s.heap.NoLimit) (hx : s.heap.get? x = some (excO C t0)) (hnx : K.lookup x = none) (hroom : A.depth < recursionLimit)
    (hq : ∀ h' tk dx, InitEnd s.heap h' x C dx t0 v → R (.ok (.ret .none)) { s with heap := h', toks := tk }) :
    codeAny (model prog w) A (.call (.ref fI) ⟨[.ref x, v], []⟩) R s := by
  obtain ⟨oc, od, doc, pm, an, cdv, ct, osl, p1, p2, q1, q2, q3, q4, ho, hcd⟩ := T.fn
  obtain ⟨nm, q, N, bs, bm, sn, sub, ab, col, dd, k0, k1, k2, k3, k5, hC, hbm⟩ := T.cls
  have hcl : clsIn K C = some { name := nm, bases := bs, mro := .ref C :: bm, ns := N, qualname := q, hasDict := true, slotNames := sn, subclasses := sub, abstract := ab, collection := col, hasDel := false } := by unfold clsIn; rw [hC] <;> rfl
  refine Att.call_fn (binds := [("self", .ref x), ("number", v)]) X hlim ho hcd hroom (BindsTo.of_eq (by first | rfl | with_unfolding_all rfl)) (by first | rfl | decide | with_unfolding_all rfl) (fun s₁ IC => ?_) rfl rfl rfl
  obtain ⟨h₁, tk₁, rfl⟩ := IC.toInCall.same
  have k : ∀ b o, s.heap.get? b = some o → h₁.get? b = some o := IC.toInCall.keep
  have hn := IC.toInCall.ns
  have hxL : s.heap.objs.size ≠ x := Nat.ne_of_gt (Heap.lt_size hx)
  have X₁ : K.In h₁ := X.keeps k
  have hx₁ := k _ _ hx
  -- self.by = by
  show wpAny _ _ (execs _ _) _ _ _
  refine wpAny_execs_cons (plainObj_wpAny_Assign_Attribute ?_)
  refine ldC (v := v) hn (by first | rfl | with_unfolding_all rfl | kernel_rfl) (ldC (v := .ref x) hn (by first | rfl | with_unfolding_all rfl | kernel_rfl) ?_)
  refine set_plain X₁ (ox := excO C t0) (od := none) ⟨hx₁, rfl, rfl, trivial⟩ T.sa ?_
  refine exc_osa X₁ hx₁ hcl (show refsVE (.ref C :: bm) = true from hbm) rfl T.noN (fun h₃ tk₃ dx k₃ dn dne hx₃ hn₃ => ?_)
  show wpAny _ _ (execs _ _) _ _ _
  have z : s.heap.objs.size < h₁.objs.size := hn.lt
  exact wpAny_execs_nil (hq h₃ tk₃ dx ⟨fun b o hb e => k₃ b o hb (k b o e), hx₃, Nat.le_of_lt (Nat.lt_of_lt_of_le z dn), dne, hn₃⟩)
theorem low_made (T : ErTxt K mg cn qn C fI) {v : Value} (X : K.In s.heap) (hlim : s.heap.NoLimit) (hroom : A.depth + 1 < recursionLimit)
    (hq : ∀ h' tk e d, OwnMade s.heap h' e C d v → R (.ok (.ret (.ref e))) { s with heap := h', toks := tk }) :
    codeAny (model prog w) A (.call (.ref C) ⟨[v], []⟩) R s := by
  obtain ⟨nm, q, N, bs, bm, sn, sub, ab, col, dd, k0, k1, k2, k3, k5, hC, hbm⟩ := T.cls
  obtain ⟨hp, g, dr, tk, os⟩ := s
  have k : ∀ b o, hp.get? b = some o → ((hp.push (kdv_tup [v])).push (excO C hp.objs.size)).get? b = some o := fun b o e => Heap.get?_push_of_some _ (Heap.get?_push_of_some _ e)
  have hget : ((hp.push (kdv_tup [v])).push (excO C hp.objs.size)).get? (hp.objs.size + 1) = some (excO C hp.objs.size) := by heap_get
  have hnx : K.lookup (hp.objs.size + 1) = none := by
    cases e : K.lookup (hp.objs.size + 1) with
    | none => rfl
    | some o =>
      have z : hp.get? (hp.objs.size + 1) = some o := X _ _ e
      exact absurd (Nat.lt_of_succ_lt (Heap.lt_size z)) (Nat.lt_irrefl _)
  refine call_own F.excBase_ValueError (fun X => refsVE_contains X bm hbm) (X _ _ hC) (looks_findIn X T.iC) (fun self => bind_fn X self T.tC) (one_size v) ?_
  refine low_init (s := ⟨(hp.push (kdv_tup [v])).push (excO C hp.objs.size), g, dr, tk, os⟩) T (X.keeps k) (hlim.keeps k) hget hnx ?_ fun h' tk' dx ⟨k', hx, dn, dne, hns⟩ => ?_
  · show A.depth + 1 < recursionLimit
    exact hroom
  · have old : ∀ b o, hp.get? b = some o → h'.get? b = some o := fun b o e => k' b o (Nat.ne_of_lt (Nat.lt_succ_of_lt (Heap.lt_size e))) (k b o e)
    have z : hp.objs.size + 1 + 1 ≤ dx := by
      first
        | (simpa only [Heap.size_push] using dn)
        | exact dn
        | (have q := dn; rw [Heap.size_push, Heap.size_push] at q; exact q)
    exact ⟨rfl, hq h' tk' (hp.objs.size + 1) dx ⟨old, Nat.le_succ _, ⟨_, _, hx, rfl, rfl, rfl, rfl⟩, Nat.le_trans (Nat.le_trans (Nat.le_succ _) (Nat.le_succ _)) z, dne, hns⟩⟩
end
end Ernumber
end PySem
namespace L2
open PySem PySem.Spec PyProof.Rows
theorem relO_low_number {v : V} {v' : Value} (r : RelV v v') (f : Str) : RelO (List.lookup f [(("number" : Str), v)]) (if f = "number" then some v' else none) := by
  by_cases hw : f = "number"
  · subst hw
    rw [if_pos rfl]
    have q : List.lookup ("number" : Str) [(("number" : Str), v)] = some v := by simp [List.lookup]
    rw [q]
    exact r
  · rw [if_neg hw]
    have qw : (f == ("number" : Str)) = false := by simpa using hw
    have q2 : List.lookup f [(("number" : Str), v)] = none := by simp [List.lookup, qw]
    rw [q2]
    trivial
section
variable {X : Cx} {cn qn : Str} {C fI : Addr}
/-- Low(e) -/
def tMkLow_number (C : Addr) (ta : TA) : St → Hp → XK → Prop := fun σ H Q => ta σ H fun vs H1 => ∃ v, vs = [v] ∧ ∀ d, H1 d = none → Q (.ref C) (some d) (upd H1 d (.xd [(("number" : Str), v)]))
theorem pmk_low_number {a : Expr} {ta : TA} {p pos : Pos} {k : Nat} (T : PySem.Ernumber.ErTxt X.K X.mg cn qn C fI) (hr : Room k X.A) (ha : PA X [a] ta) (hg : Gl X cn) (hdb : (cn == ("__debug__" : Str)) = false)
    (he : starEach (a :: []) X.env = (false, eval a X.env) :: starEach [] X.env := by rfl) (hpl : (backTo pos (starEach [] X.env)).any (·.1) = false := by rfl) :
    PMk X (.Call (.Name cn p) [a] [] pos) (tMkLow_number C ta) := by
  intro pins s σ H Q I h
  refine wpAny_Call_Name_kw (ld_glob I hg T.gC ?_ hdb)
  refine PySem.W.callWith_K (h₀ := X.base) I.ok.mod.kin T.kC (thn (ha.run pos pins s σ H _ I h) fun us s1 hh => ?_) he hpl
  obtain ⟨vs, H1, I1, r1, v, ev, q1⟩ := hh
  subst ev
  refine ⟨I1.kIn, ?_⟩
  cases r1 with
  | cons rv rn =>
    rename_i v' us'
    cases rn
    show wpAny _ _ (call (.ref C) [v']) _ _ _
    have hlim := I1.nolimit
    obtain ⟨hp, g, dr, tk, os⟩ := s1
    refine wpAny_call (PySem.Ernumber.low_made T I1.kIn hlim (by have := hr.dp; omega) fun h' tk' e d M => ?_)
    show MkP X pins σ Q (.ref e) ⟨h', g, dr, tk', os⟩
    obtain ⟨oe, fv, hoe, hc, hd, hdat, h1⟩ := M.obj
    have hns := M.ns
    obtain ⟨G', g1, g2⟩ := restrict h' fun b => decide (b ≠ e)
    have gk : ∀ b, b ≠ e → G'.get? b = h'.get? b := fun b hb => g1 b (decide_eq_true hb)
    have ge : G'.get? e = none := g2 e (by simp)
    have old : ∀ b o, hp.get? b = some o → G'.get? b = some o := fun b o q => (gk b (Nat.ne_of_lt (Nat.lt_of_lt_of_le (Heap.lt_size q) M.new))).trans (M.keep b o q)
    have ob : ObjOk X.prog X.w (upd H1 d (.xd [(("number" : Str), v)])) G' d (.xd [(("number" : Str), v)]) :=
      ⟨_, hns.at (fun o q => (gk d M.dne).trans q), fun f => relO_low_number rv f⟩
    have J : Inv X pins σ (upd H1 d (.xd [(("number" : Str), v)])) ⟨G', g, dr, tk', os⟩ := I1.laid (t' := tk') old M.dbig ob
    refine ⟨e, oe, fv, ⟨G', g, dr, tk', os⟩, _, .ref C, some d, rfl, J, fun b o q => ?_, ge, hoe, ⟨hc, hd⟩, hdat, h1, ?_, rfl, I1.bare, raises_own T.exC T.tyC, q1 d (I1.hok.fresh M.dbig)⟩
    · by_cases hb : b = e
      · have q' : G'.get? b = some o := q
        rw [hb, ge] at q'; cases q'
      · exact (gk b hb).symm.trans q
    · rw [upd_ne (Ne.symm M.dne)]
      exact I1.hok.fresh M.new
/-- raise Low(e) -/
def tRaiseLow_number (C : Addr) (W : WX) (ta : TA) : TS := fun _ σ H => tMkLow_number C ta σ H fun cls d H' => W cls d σ H'
theorem ps_raiseLow_number {a : Expr} {ta : TA} {W : WX} {p pos pos2 : Pos} {k : Nat} (hc : X.calm = true) (T : PySem.Ernumber.ErTxt X.K X.mg cn qn C fI) (hr : Room k X.A) (tk : Takes X W) (ha : PA X [a] ta) (hg : Gl X cn) (hdb : (cn == ("__debug__" : Str)) = false)
    (he : starEach (a :: []) X.env = (false, eval a X.env) :: starEach [] X.env := by rfl) (hpl : (backTo pos (starEach [] X.env)).any (·.1) = false := by rfl) :
    PS X (.Raise (some (.Call (.Name cn p) [a] [] pos)) none pos2) (tRaiseLow_number C W ta) := ps_raise hc tk (pmk_low_number T hr ha hg hdb he hpl)
/-- low.by, low the exception that the suite holds (at a; its class cls, its dict d) -/
def tByLow_number (C : Addr) (a : Addr) (cls : Value) (d : Option Addr) (te : TE) : TE := fun σ H Q => te σ H fun x H1 => x = .ref a ∧ cls = .ref C ∧ ∃ (dd : Addr) (v : V), d = some dd ∧ H1 dd = some (.xd [(("number" : Str), v)]) ∧ Q v H1
theorem pe_byLow_number {a : Addr} {oe : Obj} {cls : Value} {d : Option Addr} {pn : List (Addr × Obj)} {e : Expr} {te : TE} {pos : Pos} (T : PySem.Ernumber.ErTxt X.K X.mg cn qn C fI) (hz : Zc cls d oe) (hf : ∃ vs, oe.data = .fields vs) (he : PE (X.suite a ((a, oe) :: pn)) e te)
    (hb : attributeBase e "number" X.env (eval e X.env) = eval e X.env := by rfl) :
    PE (X.suite a ((a, oe) :: pn)) (.Attribute e "number" pos) (tByLow_number C a cls d te) := by
  refine ⟨fun pins s σ H Q I h => ?_⟩
  refine attr_of hb (thn (he.run pins s σ H _ I h) fun u s1 hh => ?_)
  obtain ⟨x, H1, I1, rx, ex, ec, dd, v, ed, ea, q⟩ := hh
  subst ex
  obtain rfl : u = Value.ref a := rx
  subst ec
  subst ed
  obtain ⟨ha, _⟩ := I1.pin (a, oe) (List.mem_append_left _ List.mem_cons_self)
  obtain ⟨vs, hd⟩ := hf
  have hx : ObjOk X.prog X.w H1 s1.heap dd (.xd [(("number" : Str), v)]) := I1.hok dd _ ea
  obtain ⟨mA, hns, hr⟩ := hx
  obtain ⟨od, ho, hl⟩ := lookIn_ns hns
  have l : List.lookup ("number" : Str) [(("number" : Str), v)] = some v := by simp [List.lookup]
  obtain ⟨u, hu, ru⟩ := RelO.some_of (v := v) (o := mA "number") (by rw [← l]; exact hr "number")
  have J : PySem.W.InstAt s1.heap a oe C (some od) := ⟨ha, hz.1, by unfold PySem.W.notCls; rw [hd] <;> rfl, by rw [hz.2]; exact ho⟩
  exact HandSPX.exc_get I1.kIn J T.ga T.gg T.exC (PySem.W.findObj_own T.hdC T.noN rfl (by rw [hl, hu])) (handed_of ru) ⟨v, H1, I1.tok _, ru, q⟩
end
end L2


namespace PySem
namespace Ermany
open PySem.W PySem.Calls PyProof.Rows PySem.HandSPX
/-! ### the text of __init__ -/
def iA (p1 p2 : Pos) : Arguments := { posonlyargs := [], args := [{ arg := "self", annotation := none, pos := p1 }, { arg := "many", annotation := none, pos := p2 }], vararg := none, kwonlyargs := [], kw_defaults := [], kwarg := none, defaults := [] }
def iB (q1 q2 q3 q4 : Pos) : List Stmt := [.Assign [.Attribute (.Name "self" q1) "many" q2] (.Name "many" q3) q4]
def iS : Scope := { kind := .function, names := [(PySem.Str.ofString "self", .local), (PySem.Str.ofString "many", .local)], isGenerator := false, isCoroutine := false, more := [] }
/-- what the written part says of Low, at C, and of its __init__, at fI -/
structure ErTxt (K : Frag) (mg : Str → Option Value) (cn qn : Str) (C fI : Addr) : Prop where
  gC : mg cn = some (.ref C)
  cls : ∃ nm q N bs bm sn sub ab col dd k0 k1 k2 k3 k5, K.lookup C = some (excClassObj nm q C N bs bm true sn sub ab col dd k0 k1 k2 k3 k5 "ValueError.__new__") ∧ refsVE bm = true
  sa : findIn K (.ref C) "__setattr__" = some (some (.builtin "object.__setattr__"))
  ga : findIn K (.ref C) "__getattribute__" = some (some (.builtin "BaseException.__getattribute__"))
  gg : findIn K (.ref C) "__getattr__" = some none
  noN : findIn K (.ref C) "many" = some none
  iC : findIn K (.ref C) "__init__" = some (some (.ref fI))
  tC : typeIn K (.ref fI) = some (.type "function")
  kC : keepIn K (.ref C) = true
  exC : subIn K (.ref C) (.type "BaseException") = some true
  tyC : typeIn K (.ref C) = some (.type "type")
  hdC : hasDictIn K C = true
  fn : ∃ (oc : Value) (od : Option Addr) (doc pm : Value) (an : Option Addr) (cdv ct : Value) (osl : Array (Option Value)) (p1 p2 q1 q2 q3 q4 : Pos),
    K.lookup fI = some ⟨oc, od, .func (fnOf "__init__" qn (iA p1 p2) (iB q1 q2 q3 q4) iS .none .none doc pm an cdv ct), osl⟩ ∧ codeIn K cdv qn = true
theorem one_size (v : Value) : [v].length ≤ sizeLine := by
  rw [sizeLine_eq]
  exact (by decide : 1 ≤ 16777216)
theorem kept_but {K : Frag} {h h' : Heap} {x : Addr} (X : K.In h) (hx : K.lookup x = none) (k : ∀ b o, b ≠ x → h.get? b = some o → h'.get? b = some o) : K.In h' := fun a o e =>
  k a o (fun z => by rw [z, hx] at e; cases e) (X a o e)
theorem ldC {M : Model} {s : Shared} {name : Str} {scope : Scope} {L a : Addr} {cd : Value} {m : Str → Option Value} {x : Str} {pos : Pos} {v : Value} {Q : Value → Shared → Prop} {A : Around} {E : Value → Shared → Prop} (hn : s.heap.Ns L m) (hv : m x = some v) (h : Q v s)
    (hk : scope.kind = .function := by rfl) (hl : (envOfC name scope L a cd).kindOf x = some .local := by rfl) (hd : (x == ("__debug__" : Str)) = false := by decide) :
    wpAny M A (eval (.Name x pos) (envOfC name scope L a cd)) Q E s := wpAny_Name (wpAny_loadName_local hk hl hn hv h) hd
/-- what __init__ leaves of a fresh exception at x -/
structure InitEnd (h h' : Heap) (x C dx t1 : Addr) (v : Value) : Prop where
  keep : ∀ b o, b ≠ x → h.get? b = some o → h'.get? b = some o
  obj : h'.get? x = some { cls := .ref C, dict := some dx, data := .fields #[.ref t1, .none, .none, .none, .bool false, .none] }
  dbig : h.objs.size ≤ dx
  dne : dx ≠ x
  ns : h'.Ns1 dx (fun y => if y = "many" then some v else none)
/-- a made Low -/
structure OwnMade (h h' : Heap) (e C d : Addr) (v : Value) : Prop where
  keep : ∀ b o, h.get? b = some o → h'.get? b = some o
  new : h.objs.size ≤ e
  obj : ∃ oe vs, h'.get? e = some oe ∧ oe.cls = .ref C ∧ oe.dict = some d ∧ oe.data = .fields vs ∧ vs[1]? = some .none
  dbig : h.objs.size ≤ d
  dne : d ≠ e
  ns : h'.Ns1 d (fun y => if y = "many" then some v else none)
section
variable {prog : Program} {w : World} {A : Around} {E : Value → Shared → Prop} {R : Result → Shared → Prop} {s : Shared} {K : Frag} {mg : Str → Option Value} {cn qn : Str} {C fI : Addr}
theorem low_init (T : ErTxt K mg cn qn C fI) {x t0 : Addr} {v : Value} (X : K.In s.heap) (hlim : s.heap.NoLimit) (hx : s.heap.get? x = some (excO C t0)) (hnx : K.lookup x = none) (hroom : A.depth < recursionLimit)
    (hq : ∀ h' tk dx, InitEnd s.heap h' x C dx t0 v → R (.ok (.ret .none)) { s with heap := h', toks := tk }) :
    codeAny (model prog w) A (.call (.ref fI) ⟨[.ref x, v], []⟩) R s := by
  obtain ⟨oc, od, doc, pm, an, cdv, ct, osl, p1, p2, q1, q2, q3, q4, ho, hcd⟩ := T.fn
  obtain ⟨nm, q, N, bs, bm, sn, sub, ab, col, dd, k0, k1, k2, k3, k5, hC, hbm⟩ := T.cls
  have hcl : clsIn K C = some { name := nm, bases := bs, mro := .ref C :: bm, ns := N, qualname := q, hasDict := true, slotNames := sn, subclasses := sub, abstract := ab, collection := col, hasDel := false } := by unfold clsIn; rw [hC] <;> rfl
  refine Att.call_fn (binds := [("self", .ref x), ("many", v)]) X hlim ho hcd hroom (BindsTo.of_eq (by first | rfl | with_unfolding_all rfl)) (by first | rfl | decide | with_unfolding_all rfl) (fun s₁ IC => ?_) rfl rfl rfl
  obtain ⟨h₁, tk₁, rfl⟩ := IC.toInCall.same
  have k : ∀ b o, s.heap.get? b = some o → h₁.get? b = some o := IC.toInCall.keep
  have hn := IC.toInCall.ns
  have hxL : s.heap.objs.size ≠ x := Nat.ne_of_gt (Heap.lt_size hx)
  have X₁ : K.In h₁ := X.keeps k
  have hx₁ := k _ _ hx
  -- self.by = by
  show wpAny _ _ (execs _ _) _ _ _
  refine wpAny_execs_cons (plainObj_wpAny_Assign_Attribute ?_)
  refine ldC (v := v) hn (by first | rfl | with_unfolding_all rfl | kernel_rfl) (ldC (v := .ref x) hn (by first | rfl | with_unfolding_all rfl | kernel_rfl) ?_)
  refine set_plain X₁ (ox := excO C t0) (od := none) ⟨hx₁, rfl, rfl, trivial⟩ T.sa ?_
  refine exc_osa X₁ hx₁ hcl (show refsVE (.ref C :: bm) = true from hbm) rfl T.noN (fun h₃ tk₃ dx k₃ dn dne hx₃ hn₃ => ?_)
  show wpAny _ _ (execs _ _) _ _ _
  have z : s.heap.objs.size < h₁.objs.size := hn.lt
  exact wpAny_execs_nil (hq h₃ tk₃ dx ⟨fun b o hb e => k₃ b o hb (k b o e), hx₃, Nat.le_of_lt (Nat.lt_of_lt_of_le z dn), dne, hn₃⟩)
theorem low_made (T : ErTxt K mg cn qn C fI) {v : Value} (X : K.In s.heap) (hlim : s.heap.NoLimit) (hroom : A.depth + 1 < recursionLimit)
    (hq : ∀ h' tk e d, OwnMade s.heap h' e C d v → R (.ok (.ret (.ref e))) { s with heap := h', toks := tk }) :
    codeAny (model prog w) A (.call (.ref C) ⟨[v], []⟩) R s := by
  obtain ⟨nm, q, N, bs, bm, sn, sub, ab, col, dd, k0, k1, k2, k3, k5, hC, hbm⟩ := T.cls
  obtain ⟨hp, g, dr, tk, os⟩ := s
  have k : ∀ b o, hp.get? b = some o → ((hp.push (kdv_tup [v])).push (excO C hp.objs.size)).get? b = some o := fun b o e => Heap.get?_push_of_some _ (Heap.get?_push_of_some _ e)
  have hget : ((hp.push (kdv_tup [v])).push (excO C hp.objs.size)).get? (hp.objs.size + 1) = some (excO C hp.objs.size) := by heap_get
  have hnx : K.lookup (hp.objs.size + 1) = none := by
    cases e : K.lookup (hp.objs.size + 1) with
    | none => rfl
    | some o =>
      have z : hp.get? (hp.objs.size + 1) = some o := X _ _ e
      exact absurd (Nat.lt_of_succ_lt (Heap.lt_size z)) (Nat.lt_irrefl _)
  refine call_own F.excBase_ValueError (fun X => refsVE_contains X bm hbm) (X _ _ hC) (looks_findIn X T.iC) (fun self => bind_fn X self T.tC) (one_size v) ?_
  refine low_init (s := ⟨(hp.push (kdv_tup [v])).push (excO C hp.objs.size), g, dr, tk, os⟩) T (X.keeps k) (hlim.keeps k) hget hnx ?_ fun h' tk' dx ⟨k', hx, dn, dne, hns⟩ => ?_
  · show A.depth + 1 < recursionLimit
    exact hroom
  · have old : ∀ b o, hp.get? b = some o → h'.get? b = some o := fun b o e => k' b o (Nat.ne_of_lt (Nat.lt_succ_of_lt (Heap.lt_size e))) (k b o e)
    have z : hp.objs.size + 1 + 1 ≤ dx := by
      first
        | (simpa only [Heap.size_push] using dn)
        | exact dn
        | (have q := dn; rw [Heap.size_push, Heap.size_push] at q; exact q)
    exact ⟨rfl, hq h' tk' (hp.objs.size + 1) dx ⟨old, Nat.le_succ _, ⟨_, _, hx, rfl, rfl, rfl, rfl⟩, Nat.le_trans (Nat.le_trans (Nat.le_succ _) (Nat.le_succ _)) z, dne, hns⟩⟩
end
end Ermany
end PySem
namespace L2
open PySem PySem.Spec PyProof.Rows
theorem relO_low_many {v : V} {v' : Value} (r : RelV v v') (f : Str) : RelO (List.lookup f [(("many" : Str), v)]) (if f = "many" then some v' else none) := by
  by_cases hw : f = "many"
  · subst hw
    rw [if_pos rfl]
    have q : List.lookup ("many" : Str) [(("many" : Str), v)] = some v := by simp [List.lookup]
    rw [q]
    exact r
  · rw [if_neg hw]
    have qw : (f == ("many" : Str)) = false := by simpa using hw
    have q2 : List.lookup f [(("many" : Str), v)] = none := by simp [List.lookup, qw]
    rw [q2]
    trivial
section
variable {X : Cx} {cn qn : Str} {C fI : Addr}
/-- Low(e) -/
def tMkLow_many (C : Addr) (ta : TA) : St → Hp → XK → Prop := fun σ H Q => ta σ H fun vs H1 => ∃ v, vs = [v] ∧ ∀ d, H1 d = none → Q (.ref C) (some d) (upd H1 d (.xd [(("many" : Str), v)]))
theorem pmk_low_many {a : Expr} {ta : TA} {p pos : Pos} {k : Nat} (T : PySem.Ermany.ErTxt X.K X.mg cn qn C fI) (hr : Room k X.A) (ha : PA X [a] ta) (hg : Gl X cn) (hdb : (cn == ("__debug__" : Str)) = false)
    (he : starEach (a :: []) X.env = (false, eval a X.env) :: starEach [] X.env := by rfl) (hpl : (backTo pos (starEach [] X.env)).any (·.1) = false := by rfl) :
    PMk X (.Call (.Name cn p) [a] [] pos) (tMkLow_many C ta) := by
  intro pins s σ H Q I h
  refine wpAny_Call_Name_kw (ld_glob I hg T.gC ?_ hdb)
  refine PySem.W.callWith_K (h₀ := X.base) I.ok.mod.kin T.kC (thn (ha.run pos pins s σ H _ I h) fun us s1 hh => ?_) he hpl
  obtain ⟨vs, H1, I1, r1, v, ev, q1⟩ := hh
  subst ev
  refine ⟨I1.kIn, ?_⟩
  cases r1 with
  | cons rv rn =>
    rename_i v' us'
    cases rn
    show wpAny _ _ (call (.ref C) [v']) _ _ _
    have hlim := I1.nolimit
    obtain ⟨hp, g, dr, tk, os⟩ := s1
    refine wpAny_call (PySem.Ermany.low_made T I1.kIn hlim (by have := hr.dp; omega) fun h' tk' e d M => ?_)
    show MkP X pins σ Q (.ref e) ⟨h', g, dr, tk', os⟩
    obtain ⟨oe, fv, hoe, hc, hd, hdat, h1⟩ := M.obj
    have hns := M.ns
    obtain ⟨G', g1, g2⟩ := restrict h' fun b => decide (b ≠ e)
    have gk : ∀ b, b ≠ e → G'.get? b = h'.get? b := fun b hb => g1 b (decide_eq_true hb)
    have ge : G'.get? e = none := g2 e (by simp)
    have old : ∀ b o, hp.get? b = some o → G'.get? b = some o := fun b o q => (gk b (Nat.ne_of_lt (Nat.lt_of_lt_of_le (Heap.lt_size q) M.new))).trans (M.keep b o q)
    have ob : ObjOk X.prog X.w (upd H1 d (.xd [(("many" : Str), v)])) G' d (.xd [(("many" : Str), v)]) :=
      ⟨_, hns.at (fun o q => (gk d M.dne).trans q), fun f => relO_low_many rv f⟩
    have J : Inv X pins σ (upd H1 d (.xd [(("many" : Str), v)])) ⟨G', g, dr, tk', os⟩ := I1.laid (t' := tk') old M.dbig ob
    refine ⟨e, oe, fv, ⟨G', g, dr, tk', os⟩, _, .ref C, some d, rfl, J, fun b o q => ?_, ge, hoe, ⟨hc, hd⟩, hdat, h1, ?_, rfl, I1.bare, raises_own T.exC T.tyC, q1 d (I1.hok.fresh M.dbig)⟩
    · by_cases hb : b = e
      · have q' : G'.get? b = some o := q
        rw [hb, ge] at q'; cases q'
      · exact (gk b hb).symm.trans q
    · rw [upd_ne (Ne.symm M.dne)]
      exact I1.hok.fresh M.new
/-- raise Low(e) -/
def tRaiseLow_many (C : Addr) (W : WX) (ta : TA) : TS := fun _ σ H => tMkLow_many C ta σ H fun cls d H' => W cls d σ H'
theorem ps_raiseLow_many {a : Expr} {ta : TA} {W : WX} {p pos pos2 : Pos} {k : Nat} (hc : X.calm = true) (T : PySem.Ermany.ErTxt X.K X.mg cn qn C fI) (hr : Room k X.A) (tk : Takes X W) (ha : PA X [a] ta) (hg : Gl X cn) (hdb : (cn == ("__debug__" : Str)) = false)
    (he : starEach (a :: []) X.env = (false, eval a X.env) :: starEach [] X.env := by rfl) (hpl : (backTo pos (starEach [] X.env)).any (·.1) = false := by rfl) :
    PS X (.Raise (some (.Call (.Name cn p) [a] [] pos)) none pos2) (tRaiseLow_many C W ta) := ps_raise hc tk (pmk_low_many T hr ha hg hdb he hpl)
/-- low.by, low the exception that the suite holds (at a; its class cls, its dict d) -/
def tByLow_many (C : Addr) (a : Addr) (cls : Value) (d : Option Addr) (te : TE) : TE := fun σ H Q => te σ H fun x H1 => x = .ref a ∧ cls = .ref C ∧ ∃ (dd : Addr) (v : V), d = some dd ∧ H1 dd = some (.xd [(("many" : Str), v)]) ∧ Q v H1
theorem pe_byLow_many {a : Addr} {oe : Obj} {cls : Value} {d : Option Addr} {pn : List (Addr × Obj)} {e : Expr} {te : TE} {pos : Pos} (T : PySem.Ermany.ErTxt X.K X.mg cn qn C fI) (hz : Zc cls d oe) (hf : ∃ vs, oe.data = .fields vs) (he : PE (X.suite a ((a, oe) :: pn)) e te)
    (hb : attributeBase e "many" X.env (eval e X.env) = eval e X.env := by rfl) :
    PE (X.suite a ((a, oe) :: pn)) (.Attribute e "many" pos) (tByLow_many C a cls d te) := by
  refine ⟨fun pins s σ H Q I h => ?_⟩
  refine attr_of hb (thn (he.run pins s σ H _ I h) fun u s1 hh => ?_)
  obtain ⟨x, H1, I1, rx, ex, ec, dd, v, ed, ea, q⟩ := hh
  subst ex
  obtain rfl : u = Value.ref a := rx
  subst ec
  subst ed
  obtain ⟨ha, _⟩ := I1.pin (a, oe) (List.mem_append_left _ List.mem_cons_self)
  obtain ⟨vs, hd⟩ := hf
  have hx : ObjOk X.prog X.w H1 s1.heap dd (.xd [(("many" : Str), v)]) := I1.hok dd _ ea
  obtain ⟨mA, hns, hr⟩ := hx
  obtain ⟨od, ho, hl⟩ := lookIn_ns hns
  have l : List.lookup ("many" : Str) [(("many" : Str), v)] = some v := by simp [List.lookup]
  obtain ⟨u, hu, ru⟩ := RelO.some_of (v := v) (o := mA "many") (by rw [← l]; exact hr "many")
  have J : PySem.W.InstAt s1.heap a oe C (some od) := ⟨ha, hz.1, by unfold PySem.W.notCls; rw [hd] <;> rfl, by rw [hz.2]; exact ho⟩
  exact HandSPX.exc_get I1.kIn J T.ga T.gg T.exC (PySem.W.findObj_own T.hdC T.noN rfl (by rw [hl, hu])) (handed_of ru) ⟨v, H1, I1.tok _, ru, q⟩
end
end L2
set_option maxRecDepth 100000
set_option maxHeartbeats 2000000
/-! own errors without a field: def __init__(self): pass -/
namespace PySem
namespace Er0
open PySem.W PySem.Calls PyProof.Rows PySem.HandSPX
def iA (p1 : Pos) : Arguments := { posonlyargs := [], args := [{ arg := "self", annotation := none, pos := p1 }], vararg := none, kwonlyargs := [], kw_defaults := [], kwarg := none, defaults := [] }
def iB (q1 : Pos) : List Stmt := [.Pass q1]
def iS : Scope := { kind := .function, names := [(PySem.Str.ofString "self", .local)], isGenerator := false, isCoroutine := false, more := [] }
structure ErTxt (K : Frag) (mg : Str → Option Value) (cn qn : Str) (C fI : Addr) : Prop where
  gC : mg cn = some (.ref C)
  cls : ∃ nm q N bs bm sn sub ab col dd k0 k1 k2 k3 k5, K.lookup C = some (excClassObj nm q C N bs bm true sn sub ab col dd k0 k1 k2 k3 k5 "ValueError.__new__") ∧ refsVE bm = true
  iC : findIn K (.ref C) "__init__" = some (some (.ref fI))
  tC : typeIn K (.ref fI) = some (.type "function")
  kC : keepIn K (.ref C) = true
  exC : subIn K (.ref C) (.type "BaseException") = some true
  tyC : typeIn K (.ref C) = some (.type "type")
  hdC : hasDictIn K C = true
  fn : ∃ (oc : Value) (od : Option Addr) (doc pm : Value) (an : Option Addr) (cdv ct : Value) (osl : Array (Option Value)) (p1 q1 : Pos),
    K.lookup fI = some ⟨oc, od, .func (fnOf "__init__" qn (iA p1) (iB q1) iS .none .none doc pm an cdv ct), osl⟩ ∧ codeIn K cdv qn = true
section
variable {prog : Program} {w : World} {A : Around} {R : Result → Shared → Prop} {s : Shared} {K : Frag} {mg : Str → Option Value} {cn qn : Str} {C fI : Addr}
theorem init0 (T : ErTxt K mg cn qn C fI) {x : Addr} (X : K.In s.heap) (hlim : s.heap.NoLimit) (hroom : A.depth < recursionLimit)
    (hq : ∀ h' tk, (∀ b o, s.heap.get? b = some o → h'.get? b = some o) → R (.ok (.ret .none)) { s with heap := h', toks := tk }) :
    codeAny (model prog w) A (.call (.ref fI) ⟨[.ref x], []⟩) R s := by
  obtain ⟨oc, od, doc, pm, an, cdv, ct, osl, p1, q1, ho, hcd⟩ := T.fn
  refine Att.call_fn (binds := [("self", .ref x)]) X hlim ho hcd hroom (BindsTo.of_eq (by first | rfl | with_unfolding_all rfl)) (by first | rfl | decide | with_unfolding_all rfl) (fun s₁ IC => ?_) rfl rfl rfl
  obtain ⟨h₁, tk₁, rfl⟩ := IC.toInCall.same
  show wpAny _ _ (execs _ _) _ _ _
  refine wpAny_execs_cons (wpAny_Pass ?_)
  exact wpAny_execs_nil (hq h₁ tk₁ IC.toInCall.keep)
/-- a made one -/
structure Made0 (h h' : Heap) (e C : Addr) : Prop where
  keep : ∀ b o, h.get? b = some o → h'.get? b = some o
  new : h.objs.size ≤ e
  obj : ∃ oe vs, h'.get? e = some oe ∧ oe.cls = .ref C ∧ oe.dict = none ∧ oe.data = .fields vs ∧ vs[1]? = some .none
theorem made0 (T : ErTxt K mg cn qn C fI) (X : K.In s.heap) (hlim : s.heap.NoLimit) (hroom : A.depth + 1 < recursionLimit)
    (hq : ∀ h' tk e, Made0 s.heap h' e C → R (.ok (.ret (.ref e))) { s with heap := h', toks := tk }) :
    codeAny (model prog w) A (.call (.ref C) ⟨[], []⟩) R s := by
  obtain ⟨nm, q, N, bs, bm, sn, sub, ab, col, dd, k0, k1, k2, k3, k5, hC, hbm⟩ := T.cls
  obtain ⟨hp, g, dr, tk, os⟩ := s
  have k : ∀ b o, hp.get? b = some o → ((hp.push (kdv_tup [])).push (excO C hp.objs.size)).get? b = some o := fun b o e => Heap.get?_push_of_some _ (Heap.get?_push_of_some _ e)
  have hget : ((hp.push (kdv_tup [])).push (excO C hp.objs.size)).get? (hp.objs.size + 1) = some (excO C hp.objs.size) := by heap_get
  refine call_own F.excBase_ValueError (fun X => refsVE_contains X bm hbm) (X _ _ hC) (looks_findIn X T.iC) (fun self => bind_fn X self T.tC) (Nat.zero_le _) ?_
  refine init0 (s := ⟨(hp.push (kdv_tup [])).push (excO C hp.objs.size), g, dr, tk, os⟩) T (X.keeps k) (hlim.keeps k) ?_ fun h' tk' k' => ?_
  · show A.depth + 1 < recursionLimit
    exact hroom
  · exact ⟨rfl, hq h' tk' (hp.objs.size + 1) ⟨fun b o e => k' b o (k b o e), Nat.le_succ _, ⟨_, _, k' _ _ hget, rfl, rfl, rfl, rfl⟩⟩⟩
end
end Er0
end PySem
namespace L2
open PySem PySem.Spec PyProof.Rows
section
variable {X : Cx} {cn qn : Str} {C fI : Addr}
/-- C() -/
def tMk0 (C : Addr) : St → Hp → XK → Prop := fun _ H Q => Q (.ref C) none H
theorem pmk_0 {p pos : Pos} {k : Nat} (T : PySem.Er0.ErTxt X.K X.mg cn qn C fI) (hr : Room k X.A) (hg : Gl X cn) (hdb : (cn == ("__debug__" : Str)) = false)
    (hpl : (backTo pos (starEach [] X.env)).any (·.1) = false := by rfl) :
    PMk X (.Call (.Name cn p) [] [] pos) (tMk0 C) := by
  intro pins s σ H Q I h
  have hlim := I.nolimit
  have kin := I.kIn
  obtain ⟨hp, g, dr, tk, os⟩ := s
  refine wpAny_Call_Name_kw (ld_glob I hg T.gC ?_ hdb)
  refine PySem.W.callWith_K0 I.kIn T.kC (wpAny_call (PySem.Er0.made0 T kin hlim (by have := hr.dp; omega) fun h' tk' e M => ?_))
  show MkP X pins σ Q (.ref e) ⟨h', g, dr, tk', os⟩
  obtain ⟨oe, fv, hoe, hc, hd, hdat, h1⟩ := M.obj
  obtain ⟨G', g1, g2⟩ := restrict h' fun b => decide (b ≠ e)
  have gk : ∀ b, b ≠ e → G'.get? b = h'.get? b := fun b hb => g1 b (decide_eq_true hb)
  have ge : G'.get? e = none := g2 e (by simp)
  have old : ∀ b o, hp.get? b = some o → G'.get? b = some o := fun b o q => (gk b (Nat.ne_of_lt (Nat.lt_of_lt_of_le (Heap.lt_size q) M.new))).trans (M.keep b o q)
  have J : Inv X pins σ H ⟨G', g, dr, tk', os⟩ := I.kept (t' := tk') old
  refine ⟨e, oe, fv, ⟨G', g, dr, tk', os⟩, H, .ref C, none, rfl, J, fun b o q => ?_, ge, hoe, ⟨hc, hd⟩, hdat, h1, I.hok.fresh M.new, rfl, I.bare, raises_own T.exC T.tyC, h⟩
  by_cases hb : b = e
  · have q' : G'.get? b = some o := q
    rw [hb, ge] at q'
    cases q'
  · exact (gk b hb).symm.trans q
/-- raise C() -/
def tRaise0 (C : Addr) (W : WX) : TS := fun _ σ H => tMk0 C σ H fun cls d H' => W cls d σ H'
theorem ps_raise0 {W : WX} {p pos pos2 : Pos} {k : Nat} (hc : X.calm = true) (T : PySem.Er0.ErTxt X.K X.mg cn qn C fI) (hr : Room k X.A) (tk : Takes X W) (hg : Gl X cn) (hdb : (cn == ("__debug__" : Str)) = false)
    (hpl : (backTo pos (starEach [] X.env)).any (·.1) = false := by rfl) :
    PS X (.Raise (some (.Call (.Name cn p) [] [] pos)) none pos2) (tRaise0 C W) := ps_raise hc tk (pmk_0 T hr hg hdb hpl)
end
end L2
set_option maxRecDepth 100000
set_option maxHeartbeats 2000000
/-! an exception that is caught and given back: try: .. except X as n: return n -/
namespace L2
open PySem PySem.Spec PyProof.Rows
/-- an exception object of a class, with its dict, at an address -/
def XH (cls : Value) (d : Option Addr) (a : Addr) : HO := .ext fun h => ∃ (oe : Obj) (vs : Array Value), h.get? a = some oe ∧ Zc cls d oe ∧ oe.data = .fields vs
theorem xh_ok {P : Program} {w : World} {H : Hp} {h : Heap} {a : Addr} {cls : Value} {d : Option Addr} {oe : Obj} {vs : Array Value} (e : h.get? a = some oe) (z : Zc cls d oe) (q : oe.data = .fields vs) : ObjOk P w H h a (XH cls d a) :=
  ⟨⟨oe, vs, e, z, q⟩, ⟨oe, e⟩, fun _ _ ⟨o, v, y, r⟩ k => ⟨o, v, k o y, r⟩⟩
/-- what such a try wishes of an exception of its body -/
def wRet (K : PySem.W.Frag) (c : Value) (D : Ends) : WX := fun cls d σ H => PySem.W.exmOne K cls c = some true ∧ ∀ a, H a = none → D.rt (.ref a) (upd H a (XH cls d a))
section
variable {X : Cx} {pins : List (Addr × Obj)} {σ : St} {H : Hp} {s : Shared}
/-- an object that stands and is not tracked yet, and was not there at the entry, is tracked -/
theorem Inv.track {a : Addr} {cls : Value} {d : Option Addr} {oe : Obj} {vs : Array Value} (I : Inv X pins σ H s) (ha : s.heap.get? a = some oe) (z : Zc cls d oe) (q : oe.data = .fields vs) (hn : H a = none) (h0 : X.s_0.heap.get? a = none)
    (nl : a ≠ X.env.locals) (np : ∀ p ∈ X.pn ++ pins, p.1 ≠ a) : Inv X pins σ (upd H a (XH cls d a)) s := by
  have B := I.base
  refine ⟨I.ok, I.os, I.bare, ⟨B.keep, B.slot, fun b o e n hx => ?_, B.there, fun b xs e => ?_, fun b o u e => ?_, fun b ps e => ?_⟩, I.loc, I.cell, ?_, fun x c e => ?_, fun p hp => ?_, HOk.laidN I.hok (fun _ _ e => e) hn (xh_ok ha z q), I.len⟩
  · have nb : b ≠ a := fun y => by
      rw [y, h0] at e
      cases e
    rw [upd_ne nb]
    exact B.free b o e n hx
  · have y := B.tups b xs e
    rw [upd_ne (ne_of_none y hn)]
    exact y
  · have y := B.frzs b o u e
    rw [upd_ne (ne_of_none y hn)]
    exact y
  · obtain ⟨more, y⟩ := B.tbls b ps e
    refine ⟨more, ?_⟩
    rw [upd_ne (ne_of_none y hn)]
    exact y
  · rw [upd_ne (Ne.symm nl)]
    exact I.free
  · obtain ⟨v, w⟩ := I.cell x c e
    have nc : c ≠ a := fun y => by
      obtain ⟨oc, w1, w2⟩ := w
      rw [y, ha] at w1
      have w3 := Option.some.inj w1
      rw [← w3, q] at w2
      cases w2
    rw [upd_ne nc]
    exact I.freeC x c e
  · obtain ⟨e, n, r⟩ := I.pin p hp
    refine ⟨e, ?_, r⟩
    rw [upd_ne (np p hp)]
    exact n
end
section
variable {X : Cx} {x n : Str} {c : Value} {i : Nat} {body : List Stmt} {ep rp rpos pos pos' : Pos} {tb : WX → TS}
theorem ps_try_ret (hs : X.stack = X.env :: X.outer) (hf : X.env.frame = some X.env.locals) (hex : X.ex = []) (hN : X.N.Nodup) (hi : X.N[i]? = some n) (hln : X.env.kindOf n = some .local) (hc : Names X x c) (hd0 : (n == ("__debug__" : Str)) = false) (hd1 : (n == ("__classdict__" : Str)) = false)
    (hb : ∀ (W : WX) (pn : List (Addr × Obj)) (xe : Value → Shared → Prop), Takes (X.tr pn xe) W → PassesOwn (model X.prog X.w) X.A X.env xe → PSs (X.tr pn xe) body (tb W)) :
    PS X (.Try body [.ExceptHandler (some (.Name x ep)) (some n) [.Return (some (.Name n rp)) rpos] pos'] [] [] pos) (fun D σ H => tb (wRet X.K c D) D σ H) := by
  refine ⟨fun pins s σ H D I h => ?_⟩
  have fr : X.A.frames = some (X.env :: X.outer) := by
    rw [I.ok.frames, hs]
  have run := (hb (wRet X.K c D) (X.pn ++ pins) (fun e s₁ => wpAny (model X.prog X.w) X.A (noteFrame e X.env) (fun _ s₂ => wpAny (model X.prog X.w) X.A (setFlight e none)
    (fun _ s₃ => wpAny (model X.prog X.w) X.A (handleBy e X.env [.ExceptHandler (some (.Name x ep)) (some n) [.Return (some (.Name n rp)) rpos] pos']) (SP X pins D) X.xe s₃) X.xe s₂) X.xe s₁)
    (fun u s' caught => ?_) PassesOwn.looking).run [] s σ H D (I.toTry _) h
  · refine wpAny_Try_except (wpAny_mono run (fun f s1 sp => ?_) fun _ _ y => y)
    cases f with
    | next =>
      obtain ⟨σ', H', J, y⟩ := sp
      exact wpAny_execs_nil ⟨σ', H', J.ofTry I.ok, y⟩
    | brk =>
      obtain ⟨σ', H', J, y⟩ := sp
      exact ⟨σ', H', J.ofTry I.ok, y⟩
    | cont =>
      obtain ⟨σ', H', J, y⟩ := sp
      exact ⟨σ', H', J.ofTry I.ok, y⟩
    | ret u =>
      obtain ⟨v, σ', H', J, r, y⟩ := sp
      exact ⟨v, σ', H', J.ofTry I.ok, r, y⟩
  · obtain ⟨a, B, sI, pins', σ', H', cls, d, rfl, J', nb, up, sky, na, os, ag, hm, hw⟩ := caught
    have ok := I.ok
    have J : Inv X pins σ' H' sI := J'.ofTry ok
    have sky2 : Sky B (X.env :: X.outer) a (Zc cls d) X.env.locals s'.heap := hs ▸ sky
    show wpAny (model X.prog X.w) X.A (noteFrame (.ref a) X.env) _ _ _
    refine Sky.land Zc.steady fr hf sky2 fun h3 fly up3 => ?_
    have K3 : Inv X pins σ' H' { s' with heap := h3 } := J.landed nb fly.1 (up.trans up3) os ag
    obtain ⟨oe3, vs3, he3, hz3, hd3⟩ := fly.there
    -- it is none of the frames, and was not there before
    have out : a ∉ frs (X.env :: X.outer) := fun m => by
      obtain ⟨_, o', e', no⟩ := fly.2.2.1.mem m
      rw [he3] at e'
      cases e'
      exact no _ hd3
    have nl : a ≠ X.env.locals := fun y => out (List.mem_filterMap.mpr ⟨X.env, List.mem_cons_self, by rw [hf, y]⟩)
    have nF : a ∉ X.fs := fun m => by
      obtain ⟨e, he, y⟩ := List.mem_filterMap.mp m
      exact out (List.mem_filterMap.mpr ⟨e, List.mem_cons_of_mem _ he, y⟩)
    have newI : sI.heap.get? a = none := by
      cases e : sI.heap.get? a with
      | none => rfl
      | some o =>
        have y := nb a o e (show a ∉ frs X.stack by rw [hs]; exact out)
        rw [fly.2.1] at y
        cases y
    have new0 : X.s_0.heap.get? a = none := by
      cases e : X.s_0.heap.get? a with
      | none => rfl
      | some o =>
        obtain ⟨o', y⟩ := J.base.there a o e (by rw [hex]; simp)
        rw [newI] at y
        cases y
    have np : ∀ p ∈ X.pn ++ pins, p.1 ≠ a := fun p hp y => by
      have z := (J.pin p hp).1
      rw [y, newI] at z
      cases z
    have S3 := K3.suite he3 hd3 na nl nF
    refine wpAny_handleBy_cons (codeAny_handlers_test ?_) (by intro y; cases y)
    have LT : PySem.W.Looks (model X.prog X.w) h3 (typeOf (.ref a)) cls := fun A Q E s k y => wpAny_typeOf_ref (k _ _ he3) (by rw [hz3.1]; exact y)
    have LM := PySem.W.exm_one (M := model X.prog X.w) (K3.kIn) LT hm
    have test : ∀ {Q : Value → Shared → Prop} {E : Value → Shared → Prop}, Q c { s' with heap := h3 } → wpAny (model X.prog X.w) (X.A.mark (some (.ref a))) (eval (.Name x ep) X.env) Q E { s' with heap := h3 } := fun {Q E} y => by
      obtain ⟨g1, g2, g3 | ⟨g3, g4, g5⟩⟩ := hc
      · exact ld_glob (X := X.suite a ((a, oe3) :: (X.pn ++ pins))) S3 g1 g3 y g2
      · exact ld_blt (X := X.suite a ((a, oe3) :: (X.pn ++ pins))) S3 g1 g3 g4 y g5 g2
    refine test (LM.here (codeAny_handlers_suite_as ?_))
    refine HandSPX.lands_againZ fly fun h4 fly4 up4 => ?_
    have K4 : Inv X pins σ' H' { s' with heap := h4 } := J.landed nb fly4.1 ((up.trans up3).trans up4) os ag
    obtain ⟨oe4, vs4, he4, hz4, hd4⟩ := fly4.there
    have S4 := K4.suite he4 hd4 na nl nF
    refine store_ok (X := X.suite a ((a, oe4) :: (X.pn ++ pins))) (v := .ref a) S4 hN hi (.inl hln) rfl (fun s5 S5 => ?_) (.inr hln)
    have li : i < σ'.length := by
      rw [J.len]
      exact (List.getElem?_eq_some_iff.mp hi).1
    have row : PSs (X.suite a ((a, oe4) :: (X.pn ++ pins))) [.Return (some (.Name n rp)) rpos] (tRet (tVar i)) := pss_one (ps_ret (pe_var (X := X.suite a ((a, oe4) :: (X.pn ++ pins))) hi (.inl hln) hd0 hd1))
    refine wpAny_mono (row.run [] s5 _ H' ⟨fun _ _ => False, fun v H2 => v = .ref a ∧ H2 = H', fun _ _ => False, fun _ _ => False⟩ S5 ⟨_, by rw [List.getElem?_set_self li], rfl, rfl⟩) (fun f s6 sp => ?_) (fun _ _ y => False.elim y)
    cases f with
    | next =>
      obtain ⟨_, _, _, y⟩ := sp
      exact False.elim y
    | brk =>
      obtain ⟨_, _, _, y⟩ := sp
      exact False.elim y
    | cont =>
      obtain ⟨_, _, _, y⟩ := sp
      exact False.elim y
    | ret u =>
      obtain ⟨v6, σ6, H6, S6, r6, e1, e2⟩ := sp
      subst e1 e2
      obtain rfl : u = Value.ref a := r6
      refine gone_ok (X := X.suite a ((a, oe4) :: (X.pn ++ pins))) S6 hN hi hln fun s7 S7 => ?_
      obtain ⟨at7, _⟩ := S7.pin (a, oe4) (List.mem_append_left _ List.mem_cons_self)
      exact ⟨.ref a, _, _, (S7.unsuite ok).track at7 hz4 hd4 na new0 nl np, rfl, hw a na⟩
end
end L2
set_option maxRecDepth 100000
set_option maxHeartbeats 2000000
/-! exceptions that are held as values: isinstance, fields, made -/
namespace L2
open PySem PySem.Spec PyProof.Rows
/-- a value's type, an exception's too -/
inductive TyE (K : PySem.W.Frag) (H : Hp) : V → Value → Prop where
  | base {x : V} {t : Value} (h : TyX K H x t) : TyE K H x t
  | bare {a D : Addr} (e : H a = some (XH (.ref D) none a)) (c : ExcC K D) : TyE K H (.ref a) (.ref D)
  | full {a D dd : Addr} {fs : List (Str × V)} (e : H a = some (XH (.ref D) (some dd) a)) (ed : H dd = some (.xd fs)) (c : ExcC K D) : TyE K H (.ref a) (.ref D)
section
variable {X : Cx} {pins : List (Addr × Obj)} {σ : St} {H : Hp} {s : Shared}
theorem xh_at {a : Addr} {cls : Value} {d : Option Addr} (I : Inv X pins σ H s) (e : H a = some (XH cls d a)) : ∃ (oe : Obj) (vs : Array Value), s.heap.get? a = some oe ∧ Zc cls d oe ∧ oe.data = .fields vs := by
  have y : ObjOk X.prog X.w H s.heap a (XH cls d a) := I.hok a _ e
  exact y.1
theorem kitx_held {a D : Addr} {oe : Obj} {od : Option Obj} (c : ExcC X.K D) : PySem.W.KitX X.K (.ref a) (.ref D) (fun h => PySem.W.InstAt h a oe D od) := by
  refine PySem.W.kitx_exc ?_ c.hg c.hk c.hs c.ha c.hn c.ht c.hm
  have y := c.hd
  unfold PySem.W.hasDictIn at y
  cases z : PySem.W.clsIn X.K D with
  | none => rw [z] at y; cases y
  | some cd => rfl
theorem kit_ofE {x : V} {u t : Value} (I : Inv X pins σ H s) (rx : RelV x u) (ty : TyE X.K H x t) : ∃ P : Heap → Prop, PySem.W.KitX X.K u t P ∧ P s.heap ∧ u ≠ .builtin "__main__.__loader__#opaque" := by
  cases ty with
  | base h => exact kit_of I rx h
  | @bare a D e c =>
    cases (show u = Value.ref a from rx)
    obtain ⟨oe, vs, h1, h2, h3⟩ := xh_at I e
    exact ⟨_, kitx_held (od := none) c, ⟨h1, h2.1, by unfold PySem.W.notCls; rw [h3] <;> rfl, by rw [h2.2]; exact True.intro⟩, fun z => nomatch z⟩
  | @full a D dd fs e ed c =>
    cases (show u = Value.ref a from rx)
    obtain ⟨oe, vs, h1, h2, h3⟩ := xh_at I e
    obtain ⟨mA, hns, _⟩ := (show ObjOk X.prog X.w H s.heap dd (.xd fs) from I.hok dd _ ed)
    obtain ⟨od, ho, _⟩ := lookIn_ns hns
    exact ⟨_, kitx_held (od := some od) c, ⟨h1, h2.1, by unfold PySem.W.notCls; rw [h3] <;> rfl, by rw [h2.2]; exact ho⟩, fun z => nomatch z⟩
end
/-- isinstance(x, c), one class, x an exception perhaps -/
def rIsiE (K : PySem.W.Frag) : List V → Hp → VK → Prop := fun xs H Q => ∃ (x c : V) (t u : Value) (b : Bool), xs = [x, c] ∧ ClsV c u ∧ TyE K H x t ∧ PySem.W.kitOne K t u = some b ∧ Q (.bl b) H
section
variable {X : Cx}
theorem call_isiE : CallR X (.builtin "isinstance") (rIsiE X.K) := by
  intro pins s σ H xs us Q I r h
  obtain ⟨x, c, t, u, b, rfl, k, ty, e, q⟩ := h
  obtain ⟨u1, u2, rfl, r1, r2⟩ := vals2 r
  obtain rfl := k.eq r2
  obtain ⟨P, Z, p, hx⟩ := kit_ofE I r1 ty
  exact PySem.W.kia_one Z I.kIn p e hx fun tk => ⟨.bl b, H, I.tok tk, rfl, q⟩
/-- e.f, e an exception that is held -/
def tXh (K : PySem.W.Frag) (f : Str) (te : TE) : TE := fun σ H Q => te σ H fun x H1 => ∃ (a C dd : Addr) (fs : List (Str × V)) (v : V), x = .ref a ∧ XfC K C ∧ PySem.W.findIn K (.ref C) f = some none ∧ H1 a = some (XH (.ref C) (some dd) a) ∧ H1 dd = some (.xd fs) ∧ fs.lookup f = some v ∧ Q v H1
theorem pe_xh {e : Expr} {te : TE} {pos : Pos} {f : Str} (he : PE X e te) (hb : attributeBase e f X.env (eval e X.env) = eval e X.env := by rfl) : PE X (.Attribute e f pos) (tXh X.K f te) := by
  refine ⟨fun pins s σ H Q I h => ?_⟩
  refine attr_of hb (thn (he.run pins s σ H _ I h) fun u s1 hh => ?_)
  obtain ⟨x, H1, I1, rx, a, C, dd, fs, v, rfl, T, hno, ea, ed, l, q⟩ := hh
  cases (show u = Value.ref a from rx)
  obtain ⟨oe, vs, h1, h2, h3⟩ := xh_at I1 ea
  obtain ⟨mA, hns, hr⟩ := (show ObjOk X.prog X.w H1 s1.heap dd (.xd fs) from I1.hok dd _ ed)
  obtain ⟨od, ho, hl⟩ := lookIn_ns hns
  obtain ⟨w, hw, rw'⟩ := RelO.some_of (v := v) (o := mA f) (by rw [← l]; exact hr f)
  have J : PySem.W.InstAt s1.heap a oe C (some od) := ⟨h1, h2.1, by unfold PySem.W.notCls; rw [h3] <;> rfl, by rw [h2.2]; exact ho⟩
  exact HandSPX.exc_get I1.kIn J T.ga T.gg T.exC (PySem.W.findObj_own T.hdC hno rfl (by rw [hl, hw])) (handed_of rw') ⟨v, H1, I1.tok _, rw', q⟩
/-- C(), an error without a field, as a value -/
def tErr0 (C : Addr) : TE := fun _ H Q => ∀ e, H e = none → Q (.ref e) (upd H e (XH (.ref C) none e))
theorem pe_err0 {cn qn : Str} {C fI : Addr} {p pos : Pos} {k : Nat} (T : PySem.Er0.ErTxt X.K X.mg cn qn C fI) (hr : Room k X.A) (hg : Gl X cn) (hdb : (cn == ("__debug__" : Str)) = false) : PE X (.Call (.Name cn p) [] [] pos) (tErr0 C) := by
  refine ⟨fun pins s σ H Q I h => ?_⟩
  have hlim := I.nolimit
  have kin := I.kIn
  obtain ⟨hp, g, dr, tk, os⟩ := s
  refine wpAny_Call_Name_kw (ld_glob I hg T.gC ?_ hdb)
  refine PySem.W.callWith_K0 I.kIn T.kC (wpAny_call (PySem.Er0.made0 T kin hlim (by have := hr.dp; omega) fun h' tk' e M => ?_))
  obtain ⟨oe, fv, hoe, hc, hd, hdat, h1⟩ := M.obj
  exact ⟨.ref e, _, I.laid (t' := tk') M.keep M.new (xh_ok hoe ⟨hc, hd⟩ hdat), rfl, h e (I.hok.fresh M.new)⟩
end
end L2
set_option maxRecDepth 100000
set_option maxHeartbeats 2000000
/-! repr of {"a": [n]}; a new list that is surely not the table of modules -/
namespace L2
open PySem PySem.Spec PyProof.Rows Fm
/-- [e, ..]; the new list is told to stand behind the table of modules -/
def tLstB (t : TA) : TE := fun σ H Q => t σ H fun xs H1 => xs.length ≤ sizeLine ∧ ∀ p, H1 p = none → p ≠ sysModules → Q (.ref p) (upd H1 p (.lst xs))
section
variable {X : Cx} {es : List Expr} {t : TA} {pos : Pos}
theorem pe_lstB (h : PA X es t) : PE X (.List es pos) (tLstB t) := by
  refine ⟨fun pins s σ H Q I hq => ?_⟩
  refine wpAny_List_spliced (thn (h.run pos pins s σ H _ I hq) fun us s1 hh => ?_)
  obtain ⟨xs, H1, I1, r, z, q⟩ := hh
  refine ⟨by rw [← r.length]; exact z, ?_⟩
  have big := I1.big
  refine ⟨.ref s1.heap.objs.size, _, I1.laid (o := .lst xs) (t' := s1.toks) (fun b u e => Heap.get?_push_of_some _ e) (Nat.le_refl _) ⟨z, us, 0, r, Heap.get?_push_size _ rfl⟩, rfl, q _ (I1.hok.fresh (Nat.le_refl _)) fun y => ?_⟩
  rw [y] at big
  exact absurd big (Nat.lt_irrefl _)
/-- repr({x: [n]}) -/
def rReprD : List V → Hp → VK → Prop := fun vs H Q => ∃ (a l : Addr) (x : Str) (n : Int), vs = [.ref a] ∧ H a = some (.dK [(.inr x, .ref l)]) ∧ H l = some (.lst [.int n]) ∧ l ≠ sysModules ∧ (PyData.dict [(.str x, .list [.int n])]).showable = true ∧ (PyData.dict [(.str x, .list [.int n])]).shown.length ≤ sizeLine ∧
  Q (.str (PyData.dict [(.str x, .list [.int n])]).shown) H
theorem call_reprD {k : Nat} (hr : Room k X.A) (gd : X.A.guards = some []) : CallR X (.builtin "repr") rReprD := by
  intro pins s σ H xs us Q I r h
  obtain ⟨a, l, x, n, rfl, ha, hl, nl, hs, hz, q⟩ := h
  obtain ⟨u, rfl, ru⟩ := r.one
  cases (show u = Value.ref a from ru)
  obtain ⟨_, nS, vs, rel, o, es, ep, h1, h2, h3, h4, h5, h6⟩ := dk_of I.hok ha
  obtain ⟨its, nn, r2, h7, _⟩ := I.lst hl
  have hu := hr.units
  cases rel with
  | @cons p q ps qs h8 h9 =>
  cases h9
  obtain ⟨k1, v1⟩ := q
  obtain ⟨e1, e2⟩ := h8
  cases (show Sum.inr x = k1 from e1)
  cases (show v1 = Value.ref l from e2)
  obtain ⟨eo, hes, hkey, hval⟩ : ∃ e, es.toList = [e] ∧ keyIs (.inr x) e.key = true ∧ e.val = .ref l := by
    generalize es.toList = ls at h5
    cases h5 with
    | @cons e kv es kvs y1 y2 y3 =>
      cases y3
      exact ⟨e, rfl, y1, y2⟩
  obtain ⟨i0, t0, z, _⟩ | ⟨y, t0, z, ek⟩ := keyIs_shape hkey
  · cases z
  cases z
  obtain ⟨it, rfl, ri⟩ := vals1 r2
  obtain ⟨t1, rfl⟩ := ri
  have r3 : Reads s.heap (.ref l) (.list [.int n]) (l :: ([] ++ [])) := .list h7 rfl rfl (.cons (.int n t1) .nil)
  have r4 : Reads s.heap (.ref a) (.dict [(.str x, .list [.int n])]) (a :: ([] ++ []) ++ ((l :: ([] ++ [])) ++ [])) := by
    refine .dict h1 h2.1 h3 ?_ ?_
    · rw [hes]
      show ReadsAll s.heap [eo.key] [.str x] ([] ++ [])
      rw [ek]
      exact .cons (.str x t0) .nil
    · rw [hes]
      show ReadsAll s.heap [eo.val] [.list [.int n]] ((l :: ([] ++ [])) ++ [])
      rw [hval]
      exact .cons r3 .nil
  have na : sysModules ≠ a := fun y => by
    rw [← y] at nS
    simp at nS
  have dz : (PyData.dict [(PyData.str x, PyData.list [PyData.int n])]).depth ≤ 5 := by simp [PyData.depth, PyData.depthKv, PyData.depthAll]
  refine repr_of_reads' r4 hs (fun _ m => ?_) gd (by omega) (fun _ _ e => e) (fun h' u tk hk => ?_) hz
  · simp only [List.append_nil, List.cons_append, List.nil_append, List.mem_cons, List.not_mem_nil, or_false] at m
    rcases m with y | y
    · exact na y
    · exact nl y.symm
  · exact ⟨.str _, H, I.un (t' := tk) (Un.kept hk) (I.hok.kept hk), ⟨u, rfl⟩, q⟩
/-- repr of data, or of such a dict -/
theorem call_reprA {k : Nat} (hr : Room k X.A) (gd : X.A.guards = some []) : CallR X (.builtin "repr") (fun vs H Q => rRepr X.K vs H Q ∨ rReprD vs H Q) := (call_repr hr gd).or (call_reprD hr gd)
end
end L2
set_option maxRecDepth 100000
set_option maxHeartbeats 2000000
namespace K19
open PySem PySem.Spec PyProof.Rows L2 Fm
/-- the i-th statement of the text -/
def top (i : Nat) : Stmt := PySem.Challenge.pw_framemoves_k19_errors_kept.main.body.getD i (.Pass ⟨0, 0, 0, 0⟩)
abbrev s__law_bag : Stmt := top 21
abbrev N__law_bag : List Str := ["_law_script", "_law_cell"]
theorem sc__law_bag : FnScope N__law_bag ["_law_script"] (defScope s__law_bag) := ⟨rfl, rfl, rfl, by decide +kernel, rfl, by decide +kernel, by decide +kernel⟩
abbrev s__law_take : Stmt := top 22
abbrev N__law_take : List Str := ["_law_bag_here", "_law_many", "_law_cell", "_law_mixed", "_law_value", "_law_begin", "_law_second"]
theorem sc__law_take : FnScope N__law_take ["_law_bag_here", "_law_many"] (defScope s__law_take) := ⟨rfl, rfl, rfl, by decide +kernel, rfl, by decide +kernel, by decide +kernel⟩
abbrev s__law_fields : Stmt := top 23
abbrev N__law_fields : List Str := ["_law_found"]
theorem sc__law_fields : FnScope N__law_fields [] (defScope s__law_fields) := ⟨rfl, rfl, rfl, by decide +kernel, rfl, by decide +kernel, by decide +kernel⟩
abbrev s__law_sorts : Stmt := top 24
abbrev N__law_sorts : List Str := ["_law_e", "_law_found"]
theorem sc__law_sorts : FnScope N__law_sorts ["_law_e"] (defScope s__law_sorts) := ⟨rfl, rfl, rfl, by decide +kernel, rfl, by decide +kernel, by decide +kernel⟩
abbrev s__law_field : Stmt := top 25
abbrev N__law_field : List Str := ["_law_e", "_law_word"]
theorem sc__law_field : FnScope N__law_field ["_law_e", "_law_word"] (defScope s__law_field) := ⟨rfl, rfl, rfl, by decide +kernel, rfl, by decide +kernel, by decide +kernel⟩
abbrev s__law_raised : Stmt := top 26
abbrev N__law_raised : List Str := ["_law_way", "_law_thing_here", "_law_e"]
theorem sc__law_raised : FnScope N__law_raised ["_law_way", "_law_thing_here"] (defScope s__law_raised) := ⟨rfl, rfl, rfl, by decide +kernel, rfl, by decide +kernel, by decide +kernel⟩
abbrev s__law_raised_too : Stmt := top 27
abbrev N__law_raised_too : List Str := ["_law_way", "_law_thing_here", "_law_e"]
theorem sc__law_raised_too : FnScope N__law_raised_too ["_law_way", "_law_thing_here"] (defScope s__law_raised_too) := ⟨rfl, rfl, rfl, by decide +kernel, rfl, by decide +kernel, by decide +kernel⟩
abbrev s__law_thing : Stmt := top 28
abbrev N__law_thing : List Str := ["_law_bag_here", "_law_some", "_law_things"]
theorem sc__law_thing : FnScope N__law_thing ["_law_bag_here"] (defScope s__law_thing) := ⟨rfl, rfl, rfl, by decide +kernel, rfl, by decide +kernel, by decide +kernel⟩
abbrev s__law_held : Stmt := top 29
abbrev N__law_held : List Str := ["_law_error", "_law_word", "_law_thing_here", "_law_kept", "_law_field_here"]
theorem sc__law_held : FnScope N__law_held ["_law_error", "_law_word", "_law_thing_here", "_law_kept"] (defScope s__law_held) := ⟨rfl, rfl, rfl, by decide +kernel, rfl, by decide +kernel, by decide +kernel⟩
abbrev s_law : Stmt := top 30
abbrev N_law : List Str := ["_law_script", "_law_bag_here", "_law_turn", "_law_way", "_law_thing_here", "_law_word", "_law_kept", "_law_error", "_law_second", "_law_again", "_law_k"]
theorem sc_law : FnScope N_law ["_law_script"] (defScope s_law) := ⟨rfl, rfl, rfl, by decide +kernel, rfl, by decide +kernel, by decide +kernel⟩
/-- what the top has written: where each def stands, what names are still the built-in ones -/
structure Txt (K : PySem.W.Frag) (mg : Str → Option Value) where
  a__law_bag : Addr
  d__law_bag : FuncData
  F__law_bag : Fun K "_law_bag" "_law_bag" s__law_bag a__law_bag d__law_bag
  f__law_bag : mg "_law_bag" = some (.ref a__law_bag)
  b__law_bag : Binds K d__law_bag ["_law_script"] []
  a__law_take : Addr
  d__law_take : FuncData
  F__law_take : Fun K "_law_take" "_law_take" s__law_take a__law_take d__law_take
  f__law_take : mg "_law_take" = some (.ref a__law_take)
  b__law_take : Binds K d__law_take ["_law_bag_here", "_law_many"] []
  a__law_fields : Addr
  d__law_fields : FuncData
  F__law_fields : Fun K "_law_fields" "_law_fields" s__law_fields a__law_fields d__law_fields
  f__law_fields : mg "_law_fields" = some (.ref a__law_fields)
  b__law_fields : Binds K d__law_fields [] []
  a__law_sorts : Addr
  d__law_sorts : FuncData
  F__law_sorts : Fun K "_law_sorts" "_law_sorts" s__law_sorts a__law_sorts d__law_sorts
  f__law_sorts : mg "_law_sorts" = some (.ref a__law_sorts)
  b__law_sorts : Binds K d__law_sorts ["_law_e"] []
  a__law_field : Addr
  d__law_field : FuncData
  F__law_field : Fun K "_law_field" "_law_field" s__law_field a__law_field d__law_field
  f__law_field : mg "_law_field" = some (.ref a__law_field)
  b__law_field : Binds K d__law_field ["_law_e", "_law_word"] []
  a__law_raised : Addr
  d__law_raised : FuncData
  F__law_raised : Fun K "_law_raised" "_law_raised" s__law_raised a__law_raised d__law_raised
  f__law_raised : mg "_law_raised" = some (.ref a__law_raised)
  b__law_raised : Binds K d__law_raised ["_law_way", "_law_thing_here"] []
  a__law_raised_too : Addr
  d__law_raised_too : FuncData
  F__law_raised_too : Fun K "_law_raised_too" "_law_raised_too" s__law_raised_too a__law_raised_too d__law_raised_too
  f__law_raised_too : mg "_law_raised_too" = some (.ref a__law_raised_too)
  b__law_raised_too : Binds K d__law_raised_too ["_law_way", "_law_thing_here"] []
  a__law_thing : Addr
  d__law_thing : FuncData
  F__law_thing : Fun K "_law_thing" "_law_thing" s__law_thing a__law_thing d__law_thing
  f__law_thing : mg "_law_thing" = some (.ref a__law_thing)
  b__law_thing : Binds K d__law_thing ["_law_bag_here"] []
  a__law_held : Addr
  d__law_held : FuncData
  F__law_held : Fun K "_law_held" "_law_held" s__law_held a__law_held d__law_held
  f__law_held : mg "_law_held" = some (.ref a__law_held)
  b__law_held : Binds K d__law_held ["_law_error", "_law_word", "_law_thing_here", "_law_kept"] []
  a_law : Addr
  d_law : FuncData
  F_law : Fun K "law" "law" s_law a_law d_law
  f_law : mg "law" = some (.ref a_law)
  b_law : Binds K d_law ["_law_script"] []
  C_MoveError : Addr
  g_MoveError : mg "MoveError" = some (.ref C_MoveError)
  C_Wrong : Addr
  g_Wrong : mg "Wrong" = some (.ref C_Wrong)
  fI_Wrong : Addr
  e_Wrong : PySem.Erplace.ErTxt K mg "Wrong" "Wrong.__init__" C_Wrong fI_Wrong
  x_Wrong : ExcC K C_Wrong
  m_Wrong : PySem.W.exmOne K (.ref C_Wrong) (.ref C_MoveError) = some true
  C_BadAct : Addr
  g_BadAct : mg "BadAct" = some (.ref C_BadAct)
  fI_BadAct : Addr
  e_BadAct : PySem.Ername.ErTxt K mg "BadAct" "BadAct.__init__" C_BadAct fI_BadAct
  x_BadAct : ExcC K C_BadAct
  m_BadAct : PySem.W.exmOne K (.ref C_BadAct) (.ref C_MoveError) = some true
  C_BadPlace : Addr
  g_BadPlace : mg "BadPlace" = some (.ref C_BadPlace)
  fI_BadPlace : Addr
  e_BadPlace : PySem.Erat.ErTxt K mg "BadPlace" "BadPlace.__init__" C_BadPlace fI_BadPlace
  x_BadPlace : ExcC K C_BadPlace
  m_BadPlace : PySem.W.exmOne K (.ref C_BadPlace) (.ref C_MoveError) = some true
  C_BadMove : Addr
  g_BadMove : mg "BadMove" = some (.ref C_BadMove)
  fI_BadMove : Addr
  e_BadMove : PySem.Erat.ErTxt K mg "BadMove" "BadMove.__init__" C_BadMove fI_BadMove
  x_BadMove : ExcC K C_BadMove
  m_BadMove : PySem.W.exmOne K (.ref C_BadMove) (.ref C_MoveError) = some true
  C_BadFunction : Addr
  g_BadFunction : mg "BadFunction" = some (.ref C_BadFunction)
  fI_BadFunction : Addr
  e_BadFunction : PySem.Ername.ErTxt K mg "BadFunction" "BadFunction.__init__" C_BadFunction fI_BadFunction
  x_BadFunction : ExcC K C_BadFunction
  m_BadFunction : PySem.W.exmOne K (.ref C_BadFunction) (.ref C_MoveError) = some true
  C_Unlike : Addr
  g_Unlike : mg "Unlike" = some (.ref C_Unlike)
  fI_Unlike : Addr
  e_Unlike : PySem.Er0.ErTxt K mg "Unlike" "Unlike.__init__" C_Unlike fI_Unlike
  x_Unlike : ExcC K C_Unlike
  m_Unlike : PySem.W.exmOne K (.ref C_Unlike) (.ref C_MoveError) = some true
  C_TooMany : Addr
  g_TooMany : mg "TooMany" = some (.ref C_TooMany)
  fI_TooMany : Addr
  e_TooMany : PySem.Erlimit.ErTxt K mg "TooMany" "TooMany.__init__" C_TooMany fI_TooMany
  x_TooMany : ExcC K C_TooMany
  m_TooMany : PySem.W.exmOne K (.ref C_TooMany) (.ref C_MoveError) = some true
  C_NoPlace : Addr
  g_NoPlace : mg "NoPlace" = some (.ref C_NoPlace)
  fI_NoPlace : Addr
  e_NoPlace : PySem.Erplace.ErTxt K mg "NoPlace" "NoPlace.__init__" C_NoPlace fI_NoPlace
  x_NoPlace : ExcC K C_NoPlace
  m_NoPlace : PySem.W.exmOne K (.ref C_NoPlace) (.ref C_MoveError) = some true
  C_NoVersion : Addr
  g_NoVersion : mg "NoVersion" = some (.ref C_NoVersion)
  fI_NoVersion : Addr
  e_NoVersion : PySem.Ernumber.ErTxt K mg "NoVersion" "NoVersion.__init__" C_NoVersion fI_NoVersion
  x_NoVersion : ExcC K C_NoVersion
  m_NoVersion : PySem.W.exmOne K (.ref C_NoVersion) (.ref C_MoveError) = some true
  C_NoFunction : Addr
  g_NoFunction : mg "NoFunction" = some (.ref C_NoFunction)
  fI_NoFunction : Addr
  e_NoFunction : PySem.Ername.ErTxt K mg "NoFunction" "NoFunction.__init__" C_NoFunction fI_NoFunction
  x_NoFunction : ExcC K C_NoFunction
  m_NoFunction : PySem.W.exmOne K (.ref C_NoFunction) (.ref C_MoveError) = some true
  C_NoSolution : Addr
  g_NoSolution : mg "NoSolution" = some (.ref C_NoSolution)
  fI_NoSolution : Addr
  e_NoSolution : PySem.Er0.ErTxt K mg "NoSolution" "NoSolution.__init__" C_NoSolution fI_NoSolution
  x_NoSolution : ExcC K C_NoSolution
  m_NoSolution : PySem.W.exmOne K (.ref C_NoSolution) (.ref C_MoveError) = some true
  C_Unfit : Addr
  g_Unfit : mg "Unfit" = some (.ref C_Unfit)
  fI_Unfit : Addr
  e_Unfit : PySem.Er0.ErTxt K mg "Unfit" "Unfit.__init__" C_Unfit fI_Unfit
  x_Unfit : ExcC K C_Unfit
  m_Unfit : PySem.W.exmOne K (.ref C_Unfit) (.ref C_MoveError) = some true
  C_Broken : Addr
  g_Broken : mg "Broken" = some (.ref C_Broken)
  fI_Broken : Addr
  e_Broken : PySem.Erat.ErTxt K mg "Broken" "Broken.__init__" C_Broken fI_Broken
  x_Broken : ExcC K C_Broken
  m_Broken : PySem.W.exmOne K (.ref C_Broken) (.ref C_MoveError) = some true
  C_Full : Addr
  g_Full : mg "Full" = some (.ref C_Full)
  fI_Full : Addr
  e_Full : PySem.Erlimit.ErTxt K mg "Full" "Full.__init__" C_Full fI_Full
  x_Full : ExcC K C_Full
  m_Full : PySem.W.exmOne K (.ref C_Full) (.ref C_MoveError) = some true
  C_NoDeed : Addr
  g_NoDeed : mg "NoDeed" = some (.ref C_NoDeed)
  fI_NoDeed : Addr
  e_NoDeed : PySem.Er0.ErTxt K mg "NoDeed" "NoDeed.__init__" C_NoDeed fI_NoDeed
  x_NoDeed : ExcC K C_NoDeed
  m_NoDeed : PySem.W.exmOne K (.ref C_NoDeed) (.ref C_MoveError) = some true
  C_Nothing : Addr
  g_Nothing : mg "Nothing" = some (.ref C_Nothing)
  fI_Nothing : Addr
  e_Nothing : PySem.Er0.ErTxt K mg "Nothing" "Nothing.__init__" C_Nothing fI_Nothing
  x_Nothing : ExcC K C_Nothing
  m_Nothing : PySem.W.exmOne K (.ref C_Nothing) (.ref C_MoveError) = some true
  C_NoEntry : Addr
  g_NoEntry : mg "NoEntry" = some (.ref C_NoEntry)
  fI_NoEntry : Addr
  e_NoEntry : PySem.Ermany.ErTxt K mg "NoEntry" "NoEntry.__init__" C_NoEntry fI_NoEntry
  x_NoEntry : ExcC K C_NoEntry
  m_NoEntry : PySem.W.exmOne K (.ref C_NoEntry) (.ref C_MoveError) = some true
  C_NoText : Addr
  g_NoText : mg "NoText" = some (.ref C_NoText)
  fI_NoText : Addr
  e_NoText : PySem.Er0.ErTxt K mg "NoText" "NoText.__init__" C_NoText fI_NoText
  x_NoText : ExcC K C_NoText
  m_NoText : PySem.W.exmOne K (.ref C_NoText) (.ref C_MoveError) = some true
  m_ValueError : mg "ValueError" = none
  m_abs : mg "abs" = none
  m_int : mg "int" = none
  m_isinstance : mg "isinstance" = none
  m_len : mg "len" = none
  m_list : mg "list" = none
  m_range : mg "range" = none
  m_repr : mg "repr" = none
end K19
set_option maxRecDepth 100000
set_option maxHeartbeats 4000000
namespace K19
open PySem L2 Fm
section
variable {P : Program} {w : World} {K : PySem.W.Frag} {mg : Str → Option Value} {base : Heap} (T : Txt K mg)
theorem ok_law_take : FnOk P w K mg base CX0 1 T.a__law_take T.d__law_take ["_law_bag_here", "_law_many"] spTake := by
  refine T.F__law_take.ok sc__law_take ?_ (fun cdv A outer s H vs Q E hr h => ?_)
  · rintro vs H Q E ⟨b, p, n, rfl, _⟩
    rfl
  obtain ⟨b, p, n, rfl, B0, n0, n1, q⟩ := h
  refine ⟨_, 
    (Evl.pss_cut (ps_if (pt_cmpR op_eq (pe_ix ix_list (pv 0) pe_int (fun _ _ => rfl)) pe_int (nomark _)) (pss_cons (ps_set (i := 2) sc__law_take.nd rfl (Or.inl rfl) pe_int) (Evl.pss_cut (ps_if (pt_cmpR op_lt (pe_ix ix_list (pv 0) pe_int (fun _ _ => rfl)) (pe_callB call_len_seq (by rfl) T.m_len (by decide +kernel) (pa_cons (pe_ix ix_list (pv 0) pe_int (fun _ _ => rfl)) pa_nil)) (nomark _)) (pss_one (ps_set (i := 2) sc__law_take.nd rfl (Or.inl rfl) (pe_ix ix_list (pe_ix ix_list (pv 0) pe_int (fun _ _ => rfl)) (pe_ix ix_list (pv 0) pe_int (fun _ _ => rfl)) (fun _ _ => rfl)))) pss_nil) (pss_cons (ps_augS (pv 0) pe_int pg_list pe_int ip_add set_list) (Evl.pss_cut (ps_if (pt_cmpR op_ge (pv 2) pe_int (nomark _)) (pss_one (ps_asg (pv 2) (pg_sub (pv 0) pe_int set_list))) pss_nil) (pss_cons (ps_set (i := 3) sc__law_take.nd rfl (Or.inl rfl) (pe_op op_add (pe_op op_add (pe_op op_mul (pe_ix ix_list (pv 0) pe_int (fun _ _ => rfl)) pe_int) (pe_op op_mod (pe_callTy call_int1 (by rfl) T.m_int (by decide +kernel) (pa_cons (pv 2) pa_nil)) pe_int)) (pe_op op_mul pe_int (pe_ix ix_list (pv 0) pe_int (fun _ _ => rfl))))) (pss_one (ps_asg (pe_op op_mod (pe_callTy call_int1 (by rfl) T.m_int (by decide +kernel) (pa_cons (pv 3) pa_nil)) pe_int) (pg_sub (pv 0) pe_int set_list)))))))) pss_nil)
    (pss_cons (ps_if (pt_cmpR op_gt (pe_ix ix_list (pv 0) pe_int (fun _ _ => rfl)) pe_int (nomark _)) (pss_cons (ps_set (i := 4) sc__law_take.nd rfl (Or.inl rfl) (pe_op op_mod (pe_callTy call_int1 (by rfl) T.m_int (by decide +kernel) (pa_cons (pe_ix ix_list (pv 0) pe_int (fun _ _ => rfl)) pa_nil)) (pv 1))) (pss_cons (ps_asg (pe_op op_fdiv (pe_ix ix_list (pv 0) pe_int (fun _ _ => rfl)) (pv 1)) (pg_sub (pv 0) pe_int set_list)) (pss_one (ps_ret (pv 4))))) pss_nil)
    (pss_cons (ps_set (i := 5) sc__law_take.nd rfl (Or.inl rfl) (pe_op op_mod (pe_callTy call_int1 (by rfl) T.m_int (by decide +kernel) (pa_cons (pe_op op_mul (pe_op op_add (pe_ix ix_list (pv 0) pe_int (fun _ _ => rfl)) pe_int) pe_int) pa_nil)) pe_int))
    (pss_cons (ps_set (i := 6) sc__law_take.nd rfl (Or.inl rfl) (pe_op op_mod (pe_callTy call_int1 (by rfl) T.m_int (by decide +kernel) (pa_cons (pe_op op_mul (pe_op op_mod (pe_callTy call_int1 (by rfl) T.m_int (by decide +kernel) (pa_cons (pe_op op_mul (pv 5) (pv 5)) pa_nil)) pe_int) pe_int) pa_nil)) pe_int))
    (pss_cons (ps_if (pt_cmpR op_gt (pv 1) pe_int (nomark _)) (pss_one (ps_ret (pe_op op_mod (pe_callTy call_int1 (by rfl) T.m_int (by decide +kernel) (pa_cons (pe_op op_add (pe_op op_mul (pv 6) pe_int) (pv 5)) pa_nil)) (pv 1)))) pss_nil)
    (pss_one (ps_ret (pe_op op_mod (pe_callTy call_int1 (by rfl) T.m_int (by decide +kernel) (pa_cons (pe_op op_fdiv (pv 6) pe_int) pa_nil)) (pv 1))))))))), ?_⟩
  -- the first if: the state behind it
  refine ⟨fun σ H' => ∃ c mx, σ = [some (.ref b), some (.int n), c, mx, none, none, none] ∧ Go b p H H', ?_, ?_⟩
  · obtain ⟨st, m, k, cells, hb, hp, ne, s0, m0, m1, k0, c0⟩ := id B0
    obtain ⟨kn, rfl⟩ := Int.eq_ofNat_of_zero_le k0
    refine ⟨_, rfl, b, _, 0, _, rfl, rfl, SqL.of hb, atI_nat (j := 0) rfl, rfl, _, rfl, ite_b (fun h1 => ?_) (fun h1 => ?_)⟩
    · refine ⟨fun σ H' => ∃ c, σ = [some (.ref b), some (.int n), some (.int c), none, none, none, none] ∧ H' = H ∧ 0 ≤ c, ?_, ?_⟩
      · refine ⟨_, rfl, b, _, 2, _, rfl, rfl, SqL.of hb, atI_nat (j := 2) rfl, _, rfl, b, _, 3, _, rfl, rfl, SqL.of hb, atI_nat (j := 3) rfl, p, cells.map V.int, rfl, .inl (SqL.of hp), _, _, rfl, rfl, _, rfl, ite_b (fun h2 => ?_) (fun h2 => ?_)⟩
        · have lt : kn < cells.length := by
            have := of_decide_eq_true h2
            rw [List.length_map] at this
            omega
          have ga : (cells.map V.int)[kn]? = some (.int cells[kn]) := by
            rw [List.getElem?_map]
            simp [lt]
          refine ⟨_, rfl, b, _, 3, _, rfl, rfl, SqL.of hb, atI_nat (j := 3) rfl, _, rfl, b, _, 2, _, rfl, rfl, SqL.of hb, atI_nat (j := 2) rfl, p, cells.map V.int, kn, _, rfl, rfl, SqL.of hp, atI_nat ga, ?_⟩
          exact ⟨_, rfl, rfl, c0 _ (List.getElem_mem lt)⟩
        · exact ⟨0, rfl, rfl, Int.le_refl _⟩
      · rintro σ H' ⟨c, rfl, rfl, c1⟩
        refine ⟨_, rfl, b, _, 2, _, rfl, rfl, hb, by decide, rfl, _, _, rfl, rfl, b, _, 2, 2, rfl, rfl, hb, rfl, ?_⟩
        refine ⟨fun σ H2 => σ = [some (.ref b), some (.int n), some (.int c), none, none, none, none] ∧ ∃ s1, H2 = upd H' b (.lst [.int s1, .int m, .int ((kn : Int) + 1), .ref p]) ∧ 0 ≤ s1, ?_, ?_⟩
        · refine ⟨_, rfl, _, _, rfl, rfl, _, rfl, ite_b (fun h2 => ?_) (fun h2 => ?_)⟩
          · refine ⟨_, rfl, _, rfl, b, _, 0, 0, rfl, rfl, upd_same, rfl, ?_⟩
            exact ⟨rfl, c, upd_upd, c1⟩
          · exact ⟨rfl, st, rfl, s0⟩
        · rintro σ H2 ⟨rfl, s1, rfl, s2⟩
          have e1 : (upd H' b (.lst [.int s1, .int m, .int ((kn : Int) + 1), .ref p])) b = some (.lst [.int s1, .int m, .int ((kn : Int) + 1), .ref p]) := upd_same
          refine ⟨_, rfl, b, _, 1, _, rfl, rfl, SqL.of e1, atI_nat (j := 1) rfl, _, _, rfl, rfl, .inl ⟨by omega, by omega⟩, _, rfl, .inl ⟨_, rfl, _, _, rfl, rfl, (by show (0 : Int) < _; decide), _, _, rfl, rfl, _, rfl, b, _, 2, _, rfl, rfl, SqL.of e1, atI_nat (j := 2) rfl, _, _, rfl, rfl, .inl ⟨by decide, by decide⟩, _, _, rfl, rfl, ?_⟩⟩
          refine ⟨_, rfl, .inl ⟨_, rfl, _, _, rfl, rfl, (by show (0 : Int) < _; decide), _, rfl, b, _, 1, 1, rfl, rfl, e1, rfl, ?_⟩⟩
          refine ⟨_, _, rfl, ?_, s1, _, (kn : Int) + 1, cells, upd_same, ?_, ne, s2, Int.emod_nonneg _ (by decide), Int.emod_lt_of_pos _ (by decide), by omega, c0⟩
          · rw [upd_upd, mask_updb]
            exact Same.refl _
          · rw [upd_ne ne, upd_ne ne]
            exact hp
    · exact ⟨none, none, rfl, .refl B0⟩
  · rintro σ H' ⟨c, mx, rfl, g⟩
    obtain ⟨st, m, k, cells, hb, hp, ne, s0, m0, m1, k0, c0⟩ := g.B
    refine ⟨_, rfl, b, _, 0, _, rfl, rfl, SqL.of hb, atI_nat (j := 0) rfl, _, _, rfl, rfl, _, rfl, ite_b (fun h1 => ?_) (fun h1 => ?_)⟩
    · refine ⟨_, rfl, b, _, 0, _, rfl, rfl, SqL.of hb, atI_nat (j := 0) rfl, .inl ⟨_, rfl, _, rfl, _, _, rfl, rfl, n0, ?_⟩⟩
      refine ⟨_, rfl, b, _, 0, _, rfl, rfl, SqL.of hb, atI_nat (j := 0) rfl, _, rfl, _, _, rfl, rfl, ⟨n0, by omega⟩, _, rfl, b, _, 0, 0, rfl, rfl, hb, rfl, ?_⟩
      refine ⟨_, rfl, q _ _ (Int.emod_nonneg _ (by omega)) (Int.emod_lt_of_pos _ n0) ⟨?_, st / n, m, k, cells, upd_same, ?_, ne, Int.ediv_nonneg s0 (by omega), m0, m1, k0, c0⟩⟩
      · rw [mask_updb]
        exact g.k
      · rw [upd_ne ne]
        exact hp
    · refine ⟨_, rfl, b, _, 1, _, rfl, rfl, SqL.of hb, atI_nat (j := 1) rfl, _, _, rfl, rfl, _, _, rfl, rfl, .inl ⟨by omega, by omega⟩, .inl ⟨_, rfl, _, _, rfl, rfl, (by show (0 : Int) < _; decide), ?_⟩⟩
      refine ⟨_, rfl, _, rfl, _, _, rfl, rfl, .inl ⟨?_, ?_⟩, .inl ⟨_, rfl, _, _, rfl, rfl, (by show (0 : Int) < _; decide), _, _, rfl, rfl, .inl ⟨?_, ?_⟩, .inl ⟨_, rfl, _, _, rfl, rfl, (by show (0 : Int) < _; decide), ?_⟩⟩⟩
      · have := Int.emod_nonneg ((m + 1) * 39373) (show (1000000007 : Int) ≠ 0 by decide)
        omega
      · have := Int.emod_lt_of_pos ((m + 1) * 39373) (show (0 : Int) < 1000000007 by decide)
        omega
      · have := Int.emod_nonneg ((m + 1) * 39373 % 1000000007 * ((m + 1) * 39373 % 1000000007)) (show (998244353 : Int) ≠ 0 by decide)
        omega
      · have := Int.emod_lt_of_pos ((m + 1) * 39373 % 1000000007 * ((m + 1) * 39373 % 1000000007)) (show (0 : Int) < 998244353 by decide)
        omega
      · refine ⟨_, rfl, _, _, rfl, rfl, _, rfl, ite_b (fun h2 => ?_) (fun h2 => ?_)⟩
        · have := of_decide_eq_true h2
          omega
        · refine ⟨_, rfl, _, _, rfl, rfl, ⟨by decide, by decide⟩, .inl ⟨_, rfl, _, rfl, _, _, rfl, rfl, n0, ?_⟩⟩
          exact q _ _ (Int.emod_nonneg _ (by omega)) (Int.emod_lt_of_pos _ n0) g
end
end K19
namespace K19
open PySem L2 Fm
section
variable {P : Program} {w : World} {K : PySem.W.Frag} {mg : Str → Option Value} {base : Heap} (T : Txt K mg)
theorem ok_law_bag : FnOk P w K mg base CX0 1 T.a__law_bag T.d__law_bag ["_law_script"] (spBag K) := by
  refine T.F__law_bag.ok sc__law_bag ?_ (fun cdv A outer s H vs Q E hr h => ?_)
  · rintro vs H Q E ⟨a, ns, rfl, _⟩
    rfl
  obtain ⟨a, ns, rfl, hs, hl, q⟩ := h
  refine ⟨_, 
    (pss_one (ps_ret (pe_lst (pa_cons pe_int (pa_cons pe_int (pa_cons pe_int (pa_cons (pe_lc (own := [("_law_cell", 1)]) (g := gName 1) (tt := tYes) rfl sc__law_bag.nd (pi_list (pe_slice sl_list (pv 0) po_none (po_some pe_int))) (blkOk_by (N := N__law_bag) (sc := defScope s__law_bag) (by decide +kernel)) (fun _ _ _ _ _ => pg_name (i := 1) sc__law_bag.nd rfl (Or.inl rfl)) (fun _ _ _ _ _ => pts_nil) (fun _ _ _ _ _ => pe_callB call_abs (by rfl) T.m_abs (by decide +kernel) (pa_cons (pv 1) pa_nil))) pa_nil))))))), ?_⟩
  refine ⟨_, rfl, _, rfl, a, _, rfl, hs, fun c hc => ⟨c, rfl, ⟨_, SqL.of upd_same⟩, fun Dl hD => ?_⟩⟩
  obtain ⟨ms, em, lm⟩ : ∃ ms : List Int, cutV (ns.map V.int) none (some 63) = ms.map V.int ∧ ms.length ≤ 63 := by
    unfold cutV
    rw [← List.map_drop, ← List.map_take]
    refine ⟨_, rfl, ?_⟩
    rw [List.length_take, List.length_drop]
    omega
  have k1 : Same H (upd H c (.lst (cutV (ns.map V.int) none (some 63)))) := Same.new hc
  rw [em] at hD k1 ⊢
  refine lc_listF (K := K) (fun v => match v with | .int i => .int (if i < 0 then -i else i) | v => v) (SqL.of upd_same) hD (by rw [List.length_map]; omega) (fun _ => rfl) (fun _ _ _ r => r) ?_ ?_
  · intro x H' R k hx r
    obtain ⟨i, _, rfl⟩ := List.mem_map.mp hx
    exact ⟨_, rfl, i, rfl, r _ (Same.refl _)⟩
  · intro H' k hl2
    refine ⟨(by show 4 ≤ sizeLine; decide), fun b hb => ?_⟩
    have k2 := k1.trans k
    have k3 : Same H' (upd H' b (.lst [.int 0, .int 1234567891, .int 0, .ref Dl])) := Same.new hb
    refine q b Dl _ (Same.free k2 hb) (k2.trans k3) ⟨0, 1234567891, 0, ms.map fun i => if i < 0 then -i else i, upd_same, k3 _ _ ?_, ne_of_none hl2 hb, by decide, by decide, by decide, by decide, ?_⟩
    · rw [hl2]
      simp [List.map_map, Function.comp_def]
    · intro z hz
      obtain ⟨i, _, rfl⟩ := List.mem_map.mp hz
      by_cases hi : i < 0
      · rw [if_pos hi]
        omega
      · rw [if_neg hi]
        omega
end
end K19
set_option maxRecDepth 100000
set_option maxHeartbeats 4000000
namespace K19
open PySem L2 Fm
section
variable {P : Program} {w : World} {K : PySem.W.Frag} {mg : Str → Option Value} {base : Heap} (T : Txt K mg)
/-- the classes, in order -/
def clss : List Addr := [T.C_Wrong, T.C_BadAct, T.C_BadPlace, T.C_BadMove, T.C_BadFunction, T.C_Unlike, T.C_TooMany, T.C_NoPlace, T.C_NoVersion, T.C_NoFunction, T.C_NoSolution, T.C_Unfit, T.C_Broken, T.C_Full, T.C_NoDeed, T.C_Nothing, T.C_NoEntry, T.C_NoText]
def flds : List Str := ["place", "name", "at", "at", "name", "", "limit", "place", "number", "name", "", "", "at", "limit", "", "", "many", ""]
def cls (k : Nat) : Addr := (clss T).getD k 0
def fld (k : Nat) : Str := flds.getD k ""
/-- what the classes say of one another -/
structure Kits : Prop where
  one : ∀ i j : Nat, i < 18 → j < 18 → PySem.W.kitOne K (.ref (cls T i)) (.ref (cls T j)) = some (decide (j = i))
  ve : ∀ i : Nat, i < 18 → PySem.W.kitOne K (.ref (cls T i)) (.type "ValueError") = some true
  me : PySem.W.kitOne K (.ref T.C_Unlike) (.ref T.C_MoveError) = some true
  no : ∀ t ∈ ["list", "tuple", "dict", "str", "NoneType", "bool", "int"], PySem.W.kitOne K (.type t) (.ref T.C_MoveError) = some false
  li : PySem.W.kitOne K (.ref T.C_Unlike) (.type "list") = some false
theorem cls_x (k : Nat) (h : k < 18) : ExcC K (cls T k) := by
  rcases (by omega : k = 0 ∨ k = 1 ∨ k = 2 ∨ k = 3 ∨ k = 4 ∨ k = 5 ∨ k = 6 ∨ k = 7 ∨ k = 8 ∨ k = 9 ∨ k = 10 ∨ k = 11 ∨ k = 12 ∨ k = 13 ∨ k = 14 ∨ k = 15 ∨ k = 16 ∨ k = 17) with rfl | rfl | rfl | rfl | rfl | rfl | rfl | rfl | rfl | rfl | rfl | rfl | rfl | rfl | rfl | rfl | rfl | rfl
  · exact T.x_Wrong
  · exact T.x_BadAct
  · exact T.x_BadPlace
  · exact T.x_BadMove
  · exact T.x_BadFunction
  · exact T.x_Unlike
  · exact T.x_TooMany
  · exact T.x_NoPlace
  · exact T.x_NoVersion
  · exact T.x_NoFunction
  · exact T.x_NoSolution
  · exact T.x_Unfit
  · exact T.x_Broken
  · exact T.x_Full
  · exact T.x_NoDeed
  · exact T.x_Nothing
  · exact T.x_NoEntry
  · exact T.x_NoText
/-- an error of the class k, with what it holds -/
def ErrAt (k : Nat) (v : V) (H : Hp) (e : Addr) : Prop := if fld k = "" then H e = some (XH (.ref (cls T k)) none e) else ∃ dd : Addr, H e = some (XH (.ref (cls T k)) (some dd) e) ∧ H dd = some (.xd [(fld k, v)])
theorem ErrAt.same {k : Nat} {v : V} {H H' : Hp} {e : Addr} (h : ErrAt T k v H e) (s : Same H H') : ErrAt T k v H' e := by
  unfold ErrAt at h ⊢
  by_cases c : fld k = ""
  · rw [if_pos c] at h ⊢
    exact s _ _ h
  · rw [if_neg c] at h ⊢
    obtain ⟨dd, h1, h2⟩ := h
    exact ⟨dd, s _ _ h1, s _ _ h2⟩
theorem ErrAt.ty {k : Nat} {v : V} {H : Hp} {e : Addr} (h : ErrAt T k v H e) (hk : k < 18) : TyE K H (.ref e) (.ref (cls T k)) := by
  unfold ErrAt at h
  by_cases c : fld k = ""
  · rw [if_pos c] at h
    exact .bare h (cls_x T k hk)
  · rw [if_neg c] at h
    obtain ⟨dd, h1, h2⟩ := h
    exact .full h1 h2 (cls_x T k hk)
def spFields : Sp := fun vs H Q _ => vs = [] ∧ ∀ (l : Addr) (H' : Hp), Same H H' → H l = none → H' l = some (.lst (flds.map V.str)) → Q (.ref l) H'
theorem ok_law_fields : FnOk P w K mg base CX0 1 T.a__law_fields T.d__law_fields [] spFields := by
  refine T.F__law_fields.ok sc__law_fields ?_ (fun cdv A outer s H vs Q E hr h => ?_)
  · rintro vs H Q E ⟨rfl, _⟩
    rfl
  obtain ⟨rfl, q⟩ := h
  refine ⟨_, 
    (pss_cons (ps_set (i := 0) sc__law_fields.nd rfl (Or.inl rfl) (pe_lst (pa_cons pe_str (pa_cons pe_str (pa_cons pe_str (pa_cons pe_str (pa_cons pe_str (pa_cons pe_str (pa_cons pe_str (pa_cons pe_str (pa_cons pe_str (pa_cons pe_str (pa_cons pe_str (pa_cons pe_str (pa_cons pe_str (pa_cons pe_str pa_nil))))))))))))))))
    (pss_one (ps_ret (pe_op op_cat (pv 0) (pe_lst (pa_cons pe_str (pa_cons pe_str (pa_cons pe_str (pa_cons pe_str pa_nil))))))))), ?_⟩
  refine ⟨(by show 14 ≤ sizeLine; decide), fun l1 h1 => ?_⟩
  refine ⟨_, rfl, (by show 4 ≤ sizeLine; decide), fun l2 h2 => ?_⟩
  refine ⟨l1, l2, _, _, rfl, rfl, Same.new h2 _ _ upd_same, upd_same, (by show 18 ≤ sizeLine; decide), fun l3 h3 => ?_⟩
  exact q l3 _ ((Same.new h1).trans ((Same.new h2).trans (Same.new h3))) (Same.none ((Same.new h1).trans (Same.new h2)) h3) upd_same

variable (Kt : Kits T)
def spSorts : Sp := fun vs H Q _ => ∃ (e : Addr) (k : Nat) (v : V), vs = [.ref e] ∧ k < 18 ∧ ErrAt T k v H e ∧ ∀ (l : Addr) (H' : Hp), Same H H' → H l = none → H' l = some (.lst ((List.range 18).map fun j : Nat => V.bl (decide (j = k)))) → Q (.ref l) H'
include Kt in
theorem ok_law_sorts : FnOk P w K mg base CX0 1 T.a__law_sorts T.d__law_sorts ["_law_e"] (spSorts T) := by
  refine T.F__law_sorts.ok sc__law_sorts ?_ (fun cdv A outer s H vs Q E hr h => ?_)
  · rintro vs H Q E ⟨e, k, v, rfl, _⟩
    rfl
  obtain ⟨e, k, v, rfl, hk, er, q⟩ := h
  refine ⟨_, 
    (pss_cons (ps_set (i := 1) sc__law_sorts.nd rfl (Or.inl rfl) (pe_lst (pa_cons (pe_callB call_isiE (by rfl) T.m_isinstance (by decide +kernel) (pa_cons (pv 0) (pa_cons (pe_glob (v := .ref T.C_Wrong) (u := .ref T.C_Wrong) (by rfl) T.g_Wrong rfl) pa_nil))) (pa_cons (pe_callB call_isiE (by rfl) T.m_isinstance (by decide +kernel) (pa_cons (pv 0) (pa_cons (pe_glob (v := .ref T.C_BadAct) (u := .ref T.C_BadAct) (by rfl) T.g_BadAct rfl) pa_nil))) (pa_cons (pe_callB call_isiE (by rfl) T.m_isinstance (by decide +kernel) (pa_cons (pv 0) (pa_cons (pe_glob (v := .ref T.C_BadPlace) (u := .ref T.C_BadPlace) (by rfl) T.g_BadPlace rfl) pa_nil))) (pa_cons (pe_callB call_isiE (by rfl) T.m_isinstance (by decide +kernel) (pa_cons (pv 0) (pa_cons (pe_glob (v := .ref T.C_BadMove) (u := .ref T.C_BadMove) (by rfl) T.g_BadMove rfl) pa_nil))) pa_nil))))))
    (pss_cons (ps_set (i := 1) sc__law_sorts.nd rfl (Or.inl rfl) (pe_op op_cat (pv 1) (pe_lst (pa_cons (pe_callB call_isiE (by rfl) T.m_isinstance (by decide +kernel) (pa_cons (pv 0) (pa_cons (pe_glob (v := .ref T.C_BadFunction) (u := .ref T.C_BadFunction) (by rfl) T.g_BadFunction rfl) pa_nil))) (pa_cons (pe_callB call_isiE (by rfl) T.m_isinstance (by decide +kernel) (pa_cons (pv 0) (pa_cons (pe_glob (v := .ref T.C_Unlike) (u := .ref T.C_Unlike) (by rfl) T.g_Unlike rfl) pa_nil))) (pa_cons (pe_callB call_isiE (by rfl) T.m_isinstance (by decide +kernel) (pa_cons (pv 0) (pa_cons (pe_glob (v := .ref T.C_TooMany) (u := .ref T.C_TooMany) (by rfl) T.g_TooMany rfl) pa_nil))) (pa_cons (pe_callB call_isiE (by rfl) T.m_isinstance (by decide +kernel) (pa_cons (pv 0) (pa_cons (pe_glob (v := .ref T.C_NoPlace) (u := .ref T.C_NoPlace) (by rfl) T.g_NoPlace rfl) pa_nil))) pa_nil)))))))
    (pss_cons (ps_set (i := 1) sc__law_sorts.nd rfl (Or.inl rfl) (pe_op op_cat (pv 1) (pe_lst (pa_cons (pe_callB call_isiE (by rfl) T.m_isinstance (by decide +kernel) (pa_cons (pv 0) (pa_cons (pe_glob (v := .ref T.C_NoVersion) (u := .ref T.C_NoVersion) (by rfl) T.g_NoVersion rfl) pa_nil))) (pa_cons (pe_callB call_isiE (by rfl) T.m_isinstance (by decide +kernel) (pa_cons (pv 0) (pa_cons (pe_glob (v := .ref T.C_NoFunction) (u := .ref T.C_NoFunction) (by rfl) T.g_NoFunction rfl) pa_nil))) (pa_cons (pe_callB call_isiE (by rfl) T.m_isinstance (by decide +kernel) (pa_cons (pv 0) (pa_cons (pe_glob (v := .ref T.C_NoSolution) (u := .ref T.C_NoSolution) (by rfl) T.g_NoSolution rfl) pa_nil))) pa_nil))))))
    (pss_cons (ps_set (i := 1) sc__law_sorts.nd rfl (Or.inl rfl) (pe_op op_cat (pv 1) (pe_lst (pa_cons (pe_callB call_isiE (by rfl) T.m_isinstance (by decide +kernel) (pa_cons (pv 0) (pa_cons (pe_glob (v := .ref T.C_Unfit) (u := .ref T.C_Unfit) (by rfl) T.g_Unfit rfl) pa_nil))) (pa_cons (pe_callB call_isiE (by rfl) T.m_isinstance (by decide +kernel) (pa_cons (pv 0) (pa_cons (pe_glob (v := .ref T.C_Broken) (u := .ref T.C_Broken) (by rfl) T.g_Broken rfl) pa_nil))) (pa_cons (pe_callB call_isiE (by rfl) T.m_isinstance (by decide +kernel) (pa_cons (pv 0) (pa_cons (pe_glob (v := .ref T.C_Full) (u := .ref T.C_Full) (by rfl) T.g_Full rfl) pa_nil))) (pa_cons (pe_callB call_isiE (by rfl) T.m_isinstance (by decide +kernel) (pa_cons (pv 0) (pa_cons (pe_glob (v := .ref T.C_NoDeed) (u := .ref T.C_NoDeed) (by rfl) T.g_NoDeed rfl) pa_nil))) pa_nil)))))))
    (pss_one (ps_ret (pe_op op_cat (pv 1) (pe_lst (pa_cons (pe_callB call_isiE (by rfl) T.m_isinstance (by decide +kernel) (pa_cons (pv 0) (pa_cons (pe_glob (v := .ref T.C_Nothing) (u := .ref T.C_Nothing) (by rfl) T.g_Nothing rfl) pa_nil))) (pa_cons (pe_callB call_isiE (by rfl) T.m_isinstance (by decide +kernel) (pa_cons (pv 0) (pa_cons (pe_glob (v := .ref T.C_NoEntry) (u := .ref T.C_NoEntry) (by rfl) T.g_NoEntry rfl) pa_nil))) (pa_cons (pe_callB call_isiE (by rfl) T.m_isinstance (by decide +kernel) (pa_cons (pv 0) (pa_cons (pe_glob (v := .ref T.C_NoText) (u := .ref T.C_NoText) (by rfl) T.g_NoText rfl) pa_nil))) pa_nil))))))))))), ?_⟩
  refine ⟨_, rfl, _, _, _, _, _, rfl, .own _, ErrAt.ty T (er.same T (by repeat (first | exact Same.refl _ | exact Same.new (by assumption) | refine Same.trans ?_ (Same.new (by assumption))))) hk, Kt.one k 0 hk (by decide), _, rfl, _, _, _, _, _, rfl, .own _, ErrAt.ty T (er.same T (by repeat (first | exact Same.refl _ | exact Same.new (by assumption) | refine Same.trans ?_ (Same.new (by assumption))))) hk, Kt.one k 1 hk (by decide), _, rfl, _, _, _, _, _, rfl, .own _, ErrAt.ty T (er.same T (by repeat (first | exact Same.refl _ | exact Same.new (by assumption) | refine Same.trans ?_ (Same.new (by assumption))))) hk, Kt.one k 2 hk (by decide), _, rfl, _, _, _, _, _, rfl, .own _, ErrAt.ty T (er.same T (by repeat (first | exact Same.refl _ | exact Same.new (by assumption) | refine Same.trans ?_ (Same.new (by assumption))))) hk, Kt.one k 3 hk (by decide), (by show 4 ≤ sizeLine; decide), fun l1 h1 => ?_⟩
  refine ⟨_, rfl, _, rfl, _, _, _, _, _, rfl, .own _, ErrAt.ty T (er.same T (by repeat (first | exact Same.refl _ | exact Same.new (by assumption) | refine Same.trans ?_ (Same.new (by assumption))))) hk, Kt.one k 4 hk (by decide), _, rfl, _, _, _, _, _, rfl, .own _, ErrAt.ty T (er.same T (by repeat (first | exact Same.refl _ | exact Same.new (by assumption) | refine Same.trans ?_ (Same.new (by assumption))))) hk, Kt.one k 5 hk (by decide), _, rfl, _, _, _, _, _, rfl, .own _, ErrAt.ty T (er.same T (by repeat (first | exact Same.refl _ | exact Same.new (by assumption) | refine Same.trans ?_ (Same.new (by assumption))))) hk, Kt.one k 6 hk (by decide), _, rfl, _, _, _, _, _, rfl, .own _, ErrAt.ty T (er.same T (by repeat (first | exact Same.refl _ | exact Same.new (by assumption) | refine Same.trans ?_ (Same.new (by assumption))))) hk, Kt.one k 7 hk (by decide), (by show 4 ≤ sizeLine; decide), fun m1 g1 => ?_⟩
  refine ⟨l1, m1, _, _, rfl, rfl, Same.new g1 _ _ upd_same, upd_same, (by show 8 ≤ sizeLine; decide), fun l2 h2 => ?_⟩
  refine ⟨_, rfl, _, rfl, _, _, _, _, _, rfl, .own _, ErrAt.ty T (er.same T (by repeat (first | exact Same.refl _ | exact Same.new (by assumption) | refine Same.trans ?_ (Same.new (by assumption))))) hk, Kt.one k 8 hk (by decide), _, rfl, _, _, _, _, _, rfl, .own _, ErrAt.ty T (er.same T (by repeat (first | exact Same.refl _ | exact Same.new (by assumption) | refine Same.trans ?_ (Same.new (by assumption))))) hk, Kt.one k 9 hk (by decide), _, rfl, _, _, _, _, _, rfl, .own _, ErrAt.ty T (er.same T (by repeat (first | exact Same.refl _ | exact Same.new (by assumption) | refine Same.trans ?_ (Same.new (by assumption))))) hk, Kt.one k 10 hk (by decide), (by show 3 ≤ sizeLine; decide), fun m2 g2 => ?_⟩
  refine ⟨l2, m2, _, _, rfl, rfl, Same.new g2 _ _ upd_same, upd_same, (by show 11 ≤ sizeLine; decide), fun l3 h3 => ?_⟩
  refine ⟨_, rfl, _, rfl, _, _, _, _, _, rfl, .own _, ErrAt.ty T (er.same T (by repeat (first | exact Same.refl _ | exact Same.new (by assumption) | refine Same.trans ?_ (Same.new (by assumption))))) hk, Kt.one k 11 hk (by decide), _, rfl, _, _, _, _, _, rfl, .own _, ErrAt.ty T (er.same T (by repeat (first | exact Same.refl _ | exact Same.new (by assumption) | refine Same.trans ?_ (Same.new (by assumption))))) hk, Kt.one k 12 hk (by decide), _, rfl, _, _, _, _, _, rfl, .own _, ErrAt.ty T (er.same T (by repeat (first | exact Same.refl _ | exact Same.new (by assumption) | refine Same.trans ?_ (Same.new (by assumption))))) hk, Kt.one k 13 hk (by decide), _, rfl, _, _, _, _, _, rfl, .own _, ErrAt.ty T (er.same T (by repeat (first | exact Same.refl _ | exact Same.new (by assumption) | refine Same.trans ?_ (Same.new (by assumption))))) hk, Kt.one k 14 hk (by decide), (by show 4 ≤ sizeLine; decide), fun m3 g3 => ?_⟩
  refine ⟨l3, m3, _, _, rfl, rfl, Same.new g3 _ _ upd_same, upd_same, (by show 15 ≤ sizeLine; decide), fun l4 h4 => ?_⟩
  refine ⟨_, rfl, _, rfl, _, _, _, _, _, rfl, .own _, ErrAt.ty T (er.same T (by repeat (first | exact Same.refl _ | exact Same.new (by assumption) | refine Same.trans ?_ (Same.new (by assumption))))) hk, Kt.one k 15 hk (by decide), _, rfl, _, _, _, _, _, rfl, .own _, ErrAt.ty T (er.same T (by repeat (first | exact Same.refl _ | exact Same.new (by assumption) | refine Same.trans ?_ (Same.new (by assumption))))) hk, Kt.one k 16 hk (by decide), _, rfl, _, _, _, _, _, rfl, .own _, ErrAt.ty T (er.same T (by repeat (first | exact Same.refl _ | exact Same.new (by assumption) | refine Same.trans ?_ (Same.new (by assumption))))) hk, Kt.one k 17 hk (by decide), (by show 3 ≤ sizeLine; decide), fun m4 g4 => ?_⟩
  refine ⟨l4, m4, _, _, rfl, rfl, Same.new g4 _ _ upd_same, upd_same, (by show 18 ≤ sizeLine; decide), fun l5 h5 => ?_⟩
  exact q l5 _ (by repeat (first | exact Same.refl _ | exact Same.new (by assumption) | refine Same.trans ?_ (Same.new (by assumption)))) (Same.none (H := H) (by repeat (first | exact Same.refl _ | exact Same.new (by assumption) | refine Same.trans ?_ (Same.new (by assumption)))) h5) upd_same
end
end K19
set_option maxRecDepth 100000
set_option maxHeartbeats 4000000
namespace K19
open PySem L2 Fm
section
variable {P : Program} {w : World} {K : PySem.W.Frag} {mg : Str → Option Value} {base : Heap} (T : Txt K mg)
theorem cls_xf (k : Nat) (h : k < 18) (n : fld k ≠ "") : XfC K (cls T k) ∧ PySem.W.findIn K (.ref (cls T k)) (fld k) = some none := by
  rcases (by omega : k = 0 ∨ k = 1 ∨ k = 2 ∨ k = 3 ∨ k = 4 ∨ k = 5 ∨ k = 6 ∨ k = 7 ∨ k = 8 ∨ k = 9 ∨ k = 10 ∨ k = 11 ∨ k = 12 ∨ k = 13 ∨ k = 14 ∨ k = 15 ∨ k = 16 ∨ k = 17) with rfl | rfl | rfl | rfl | rfl | rfl | rfl | rfl | rfl | rfl | rfl | rfl | rfl | rfl | rfl | rfl | rfl | rfl
  · exact ⟨⟨T.e_Wrong.ga, T.e_Wrong.gg, T.e_Wrong.exC, T.e_Wrong.hdC⟩, T.e_Wrong.noN⟩
  · exact ⟨⟨T.e_BadAct.ga, T.e_BadAct.gg, T.e_BadAct.exC, T.e_BadAct.hdC⟩, T.e_BadAct.noN⟩
  · exact ⟨⟨T.e_BadPlace.ga, T.e_BadPlace.gg, T.e_BadPlace.exC, T.e_BadPlace.hdC⟩, T.e_BadPlace.noN⟩
  · exact ⟨⟨T.e_BadMove.ga, T.e_BadMove.gg, T.e_BadMove.exC, T.e_BadMove.hdC⟩, T.e_BadMove.noN⟩
  · exact ⟨⟨T.e_BadFunction.ga, T.e_BadFunction.gg, T.e_BadFunction.exC, T.e_BadFunction.hdC⟩, T.e_BadFunction.noN⟩
  · exact absurd rfl n
  · exact ⟨⟨T.e_TooMany.ga, T.e_TooMany.gg, T.e_TooMany.exC, T.e_TooMany.hdC⟩, T.e_TooMany.noN⟩
  · exact ⟨⟨T.e_NoPlace.ga, T.e_NoPlace.gg, T.e_NoPlace.exC, T.e_NoPlace.hdC⟩, T.e_NoPlace.noN⟩
  · exact ⟨⟨T.e_NoVersion.ga, T.e_NoVersion.gg, T.e_NoVersion.exC, T.e_NoVersion.hdC⟩, T.e_NoVersion.noN⟩
  · exact ⟨⟨T.e_NoFunction.ga, T.e_NoFunction.gg, T.e_NoFunction.exC, T.e_NoFunction.hdC⟩, T.e_NoFunction.noN⟩
  · exact absurd rfl n
  · exact absurd rfl n
  · exact ⟨⟨T.e_Broken.ga, T.e_Broken.gg, T.e_Broken.exC, T.e_Broken.hdC⟩, T.e_Broken.noN⟩
  · exact ⟨⟨T.e_Full.ga, T.e_Full.gg, T.e_Full.exC, T.e_Full.hdC⟩, T.e_Full.noN⟩
  · exact absurd rfl n
  · exact absurd rfl n
  · exact ⟨⟨T.e_NoEntry.ga, T.e_NoEntry.gg, T.e_NoEntry.exC, T.e_NoEntry.hdC⟩, T.e_NoEntry.noN⟩
  · exact absurd rfl n
def six : List Str := ["place", "name", "at", "limit", "number", "many"]
theorem fld_six : ∀ k, k < 18 → fld k ≠ "" → fld k ∈ six := by decide +kernel
def spField : Sp := fun vs H Q _ => ∃ (e : Addr) (k : Nat) (v : V), vs = [.ref e, .str (fld k)] ∧ k < 18 ∧ fld k ≠ "" ∧ ErrAt T k v H e ∧ Q v H
theorem ok_law_field : FnOk P w K mg base CX0 1 T.a__law_field T.d__law_field ["_law_e", "_law_word"] (spField T) := by
  refine T.F__law_field.ok sc__law_field ?_ (fun cdv A outer s H vs Q E hr h => ?_)
  · rintro vs H Q E ⟨e, k, v, rfl, _⟩
    rfl
  obtain ⟨e, k, v, rfl, hk, hn, er, q⟩ := h
  refine ⟨_, 
    (pss_cons (ps_if (pt_cmpR op_eq (pv 1) pe_str (nomark _)) (pss_one (ps_ret (pe_xh (pv 0)))) pss_nil)
    (pss_cons (ps_if (pt_cmpR op_eq (pv 1) pe_str (nomark _)) (pss_one (ps_ret (pe_xh (pv 0)))) pss_nil)
    (pss_cons (ps_if (pt_cmpR op_eq (pv 1) pe_str (nomark _)) (pss_one (ps_ret (pe_xh (pv 0)))) pss_nil)
    (pss_cons (ps_if (pt_cmpR op_eq (pv 1) pe_str (nomark _)) (pss_one (ps_ret (pe_xh (pv 0)))) pss_nil)
    (pss_one (ps_ret (pe_ifExp (pt_cmpR op_eq (pv 1) pe_str (nomark _)) (pe_xh (pv 0)) (pe_xh (pv 0))))))))), ?_⟩
  obtain ⟨xf, no⟩ := cls_xf T k hk hn
  have hs6 := fld_six k hk hn
  unfold ErrAt at er
  rw [if_neg hn] at er
  obtain ⟨dd, h1, h2⟩ := er
  generalize fld k = f at hn hs6 no h2
  have fin : ∀ (g : Str) (R : V → Hp → Prop), g = f → R v H → ∃ (a C dd : Addr) (fs : List (Str × V)) (v : V), V.ref e = .ref a ∧ XfC K C ∧ PySem.W.findIn K (.ref C) g = some none ∧ H a = some (XH (.ref C) (some dd) a) ∧ H dd = some (.xd fs) ∧ fs.lookup g = some v ∧ R v H := by
    rintro g R rfl r
    exact ⟨e, _, dd, _, v, rfl, xf, no, h1, h2, by simp [List.lookup], r⟩
  simp only [K19.six, List.mem_cons, List.not_mem_nil, or_false] at hs6
  rcases hs6 with rfl | rfl | rfl | rfl | rfl | rfl
  · refine ⟨_, rfl, rfl, _, rfl, ite_b (fun c => ?_) (fun c => absurd c (by decide +kernel))⟩
    exact ⟨_, rfl, fin _ _ rfl q⟩
  · refine ⟨_, rfl, rfl, _, rfl, ite_b (fun c => absurd c (by decide +kernel)) (fun c => ?_)⟩
    refine ⟨_, rfl, rfl, _, rfl, ite_b (fun c => ?_) (fun c => absurd c (by decide +kernel))⟩
    exact ⟨_, rfl, fin _ _ rfl q⟩
  · refine ⟨_, rfl, rfl, _, rfl, ite_b (fun c => absurd c (by decide +kernel)) (fun c => ?_)⟩
    refine ⟨_, rfl, rfl, _, rfl, ite_b (fun c => absurd c (by decide +kernel)) (fun c => ?_)⟩
    refine ⟨_, rfl, rfl, _, rfl, ite_b (fun c => ?_) (fun c => absurd c (by decide +kernel))⟩
    exact ⟨_, rfl, fin _ _ rfl q⟩
  · refine ⟨_, rfl, rfl, _, rfl, ite_b (fun c => absurd c (by decide +kernel)) (fun c => ?_)⟩
    refine ⟨_, rfl, rfl, _, rfl, ite_b (fun c => absurd c (by decide +kernel)) (fun c => ?_)⟩
    refine ⟨_, rfl, rfl, _, rfl, ite_b (fun c => absurd c (by decide +kernel)) (fun c => ?_)⟩
    refine ⟨_, rfl, rfl, _, rfl, ite_b (fun c => ?_) (fun c => absurd c (by decide +kernel))⟩
    exact ⟨_, rfl, fin _ _ rfl q⟩
  · refine ⟨_, rfl, rfl, _, rfl, ite_b (fun c => absurd c (by decide +kernel)) (fun c => ?_)⟩
    refine ⟨_, rfl, rfl, _, rfl, ite_b (fun c => absurd c (by decide +kernel)) (fun c => ?_)⟩
    refine ⟨_, rfl, rfl, _, rfl, ite_b (fun c => absurd c (by decide +kernel)) (fun c => ?_)⟩
    refine ⟨_, rfl, rfl, _, rfl, ite_b (fun c => absurd c (by decide +kernel)) (fun c => ?_)⟩
    refine ⟨_, rfl, rfl, _, rfl, ite_b (fun c => ?_) (fun c => absurd c (by decide +kernel))⟩
    exact ⟨_, rfl, fin _ _ rfl q⟩
  · refine ⟨_, rfl, rfl, _, rfl, ite_b (fun c => absurd c (by decide +kernel)) (fun c => ?_)⟩
    refine ⟨_, rfl, rfl, _, rfl, ite_b (fun c => absurd c (by decide +kernel)) (fun c => ?_)⟩
    refine ⟨_, rfl, rfl, _, rfl, ite_b (fun c => absurd c (by decide +kernel)) (fun c => ?_)⟩
    refine ⟨_, rfl, rfl, _, rfl, ite_b (fun c => absurd c (by decide +kernel)) (fun c => ?_)⟩
    refine ⟨_, rfl, rfl, _, rfl, ite_b (fun c => absurd c (by decide +kernel)) (fun c => ?_)⟩
    exact ⟨_, rfl, fin _ _ rfl q⟩

def spRaised : Sp := fun vs H Q _ => ∃ (k : Nat) (v : V), vs = [.int (k : Int), v] ∧ 0 ≤ k ∧ k < 9 ∧ ∀ (e : Addr) (H' : Hp), Same H H' → H e = none → ErrAt T k v H' e → Q (.ref e) H'
theorem ok_law_raised : FnOk P w K mg base CX0 3 T.a__law_raised T.d__law_raised ["_law_way", "_law_thing_here"] (spRaised T) := by
  refine T.F__law_raised.ok sc__law_raised ?_ (fun cdv A outer s H vs Q E hr h => ?_)
  · rintro vs H Q E ⟨k, v, rfl, _⟩
    rfl
  obtain ⟨k, v, rfl, k0, k1, q⟩ := h
  refine ⟨_, 
    (pss_one (ps_try_ret (i := 2) rfl rfl rfl sc__law_raised.nd rfl rfl ⟨by rfl, by decide, Or.inl T.g_MoveError⟩ (by decide) (by decide) (fun W pn xe tk _ => pss_cons (ps_if (pt_cmpR op_eq (pv 0) pe_int (nomark _)) (pss_one (ps_raiseLow_place rfl T.e_Wrong hr tk (pa_cons (pv 1) pa_nil) (by rfl) (by decide))) pss_nil) (pss_cons (ps_if (pt_cmpR op_eq (pv 0) pe_int (nomark _)) (pss_one (ps_raiseLow_name rfl T.e_BadAct hr tk (pa_cons (pv 1) pa_nil) (by rfl) (by decide))) pss_nil) (pss_cons (ps_if (pt_cmpR op_eq (pv 0) pe_int (nomark _)) (pss_one (ps_raiseLow_at rfl T.e_BadPlace hr tk (pa_cons (pv 1) pa_nil) (by rfl) (by decide))) pss_nil) (pss_cons (ps_if (pt_cmpR op_eq (pv 0) pe_int (nomark _)) (pss_one (ps_raiseLow_at rfl T.e_BadMove hr tk (pa_cons (pv 1) pa_nil) (by rfl) (by decide))) pss_nil) (pss_cons (ps_if (pt_cmpR op_eq (pv 0) pe_int (nomark _)) (pss_one (ps_raiseLow_name rfl T.e_BadFunction hr tk (pa_cons (pv 1) pa_nil) (by rfl) (by decide))) pss_nil) (pss_cons (ps_if (pt_cmpR op_eq (pv 0) pe_int (nomark _)) (pss_one (ps_raise0 rfl T.e_Unlike hr tk (by rfl) (by decide))) pss_nil) (pss_cons (ps_if (pt_cmpR op_eq (pv 0) pe_int (nomark _)) (pss_one (ps_raiseLow_limit rfl T.e_TooMany hr tk (pa_cons (pv 1) pa_nil) (by rfl) (by decide))) pss_nil) (pss_cons (ps_if (pt_cmpR op_eq (pv 0) pe_int (nomark _)) (pss_one (ps_raiseLow_place rfl T.e_NoPlace hr tk (pa_cons (pv 1) pa_nil) (by rfl) (by decide))) pss_nil) (pss_one (ps_raiseLow_number rfl T.e_NoVersion hr tk (pa_cons (pv 1) pa_nil) (by rfl) (by decide))))))))))))), ?_⟩
  rcases (by omega : k = 0 ∨ k = 1 ∨ k = 2 ∨ k = 3 ∨ k = 4 ∨ k = 5 ∨ k = 6 ∨ k = 7 ∨ k = 8) with rfl | rfl | rfl | rfl | rfl | rfl | rfl | rfl | rfl
  · refine ⟨_, rfl, rfl, _, rfl, ite_b (fun _ => ?_) (fun c => absurd c (by decide +kernel))⟩
    exact ⟨_, rfl, v, rfl, fun d hd => ⟨T.m_Wrong, fun a ha => q a _ ((Same.new hd).trans (Same.new ha)) (Same.none (Same.new hd) ha) ⟨d, upd_same, Same.new ha _ _ upd_same⟩⟩⟩
  · refine ⟨_, rfl, rfl, _, rfl, ite_b (fun c => absurd c (by decide +kernel)) (fun _ => ?_)⟩
    refine ⟨_, rfl, rfl, _, rfl, ite_b (fun _ => ?_) (fun c => absurd c (by decide +kernel))⟩
    exact ⟨_, rfl, v, rfl, fun d hd => ⟨T.m_BadAct, fun a ha => q a _ ((Same.new hd).trans (Same.new ha)) (Same.none (Same.new hd) ha) ⟨d, upd_same, Same.new ha _ _ upd_same⟩⟩⟩
  · refine ⟨_, rfl, rfl, _, rfl, ite_b (fun c => absurd c (by decide +kernel)) (fun _ => ?_)⟩
    refine ⟨_, rfl, rfl, _, rfl, ite_b (fun c => absurd c (by decide +kernel)) (fun _ => ?_)⟩
    refine ⟨_, rfl, rfl, _, rfl, ite_b (fun _ => ?_) (fun c => absurd c (by decide +kernel))⟩
    exact ⟨_, rfl, v, rfl, fun d hd => ⟨T.m_BadPlace, fun a ha => q a _ ((Same.new hd).trans (Same.new ha)) (Same.none (Same.new hd) ha) ⟨d, upd_same, Same.new ha _ _ upd_same⟩⟩⟩
  · refine ⟨_, rfl, rfl, _, rfl, ite_b (fun c => absurd c (by decide +kernel)) (fun _ => ?_)⟩
    refine ⟨_, rfl, rfl, _, rfl, ite_b (fun c => absurd c (by decide +kernel)) (fun _ => ?_)⟩
    refine ⟨_, rfl, rfl, _, rfl, ite_b (fun c => absurd c (by decide +kernel)) (fun _ => ?_)⟩
    refine ⟨_, rfl, rfl, _, rfl, ite_b (fun _ => ?_) (fun c => absurd c (by decide +kernel))⟩
    exact ⟨_, rfl, v, rfl, fun d hd => ⟨T.m_BadMove, fun a ha => q a _ ((Same.new hd).trans (Same.new ha)) (Same.none (Same.new hd) ha) ⟨d, upd_same, Same.new ha _ _ upd_same⟩⟩⟩
  · refine ⟨_, rfl, rfl, _, rfl, ite_b (fun c => absurd c (by decide +kernel)) (fun _ => ?_)⟩
    refine ⟨_, rfl, rfl, _, rfl, ite_b (fun c => absurd c (by decide +kernel)) (fun _ => ?_)⟩
    refine ⟨_, rfl, rfl, _, rfl, ite_b (fun c => absurd c (by decide +kernel)) (fun _ => ?_)⟩
    refine ⟨_, rfl, rfl, _, rfl, ite_b (fun c => absurd c (by decide +kernel)) (fun _ => ?_)⟩
    refine ⟨_, rfl, rfl, _, rfl, ite_b (fun _ => ?_) (fun c => absurd c (by decide +kernel))⟩
    exact ⟨_, rfl, v, rfl, fun d hd => ⟨T.m_BadFunction, fun a ha => q a _ ((Same.new hd).trans (Same.new ha)) (Same.none (Same.new hd) ha) ⟨d, upd_same, Same.new ha _ _ upd_same⟩⟩⟩
  · refine ⟨_, rfl, rfl, _, rfl, ite_b (fun c => absurd c (by decide +kernel)) (fun _ => ?_)⟩
    refine ⟨_, rfl, rfl, _, rfl, ite_b (fun c => absurd c (by decide +kernel)) (fun _ => ?_)⟩
    refine ⟨_, rfl, rfl, _, rfl, ite_b (fun c => absurd c (by decide +kernel)) (fun _ => ?_)⟩
    refine ⟨_, rfl, rfl, _, rfl, ite_b (fun c => absurd c (by decide +kernel)) (fun _ => ?_)⟩
    refine ⟨_, rfl, rfl, _, rfl, ite_b (fun c => absurd c (by decide +kernel)) (fun _ => ?_)⟩
    refine ⟨_, rfl, rfl, _, rfl, ite_b (fun _ => ?_) (fun c => absurd c (by decide +kernel))⟩
    exact ⟨T.m_Unlike, fun a ha => q a _ (Same.new ha) ha upd_same⟩
  · refine ⟨_, rfl, rfl, _, rfl, ite_b (fun c => absurd c (by decide +kernel)) (fun _ => ?_)⟩
    refine ⟨_, rfl, rfl, _, rfl, ite_b (fun c => absurd c (by decide +kernel)) (fun _ => ?_)⟩
    refine ⟨_, rfl, rfl, _, rfl, ite_b (fun c => absurd c (by decide +kernel)) (fun _ => ?_)⟩
    refine ⟨_, rfl, rfl, _, rfl, ite_b (fun c => absurd c (by decide +kernel)) (fun _ => ?_)⟩
    refine ⟨_, rfl, rfl, _, rfl, ite_b (fun c => absurd c (by decide +kernel)) (fun _ => ?_)⟩
    refine ⟨_, rfl, rfl, _, rfl, ite_b (fun c => absurd c (by decide +kernel)) (fun _ => ?_)⟩
    refine ⟨_, rfl, rfl, _, rfl, ite_b (fun _ => ?_) (fun c => absurd c (by decide +kernel))⟩
    exact ⟨_, rfl, v, rfl, fun d hd => ⟨T.m_TooMany, fun a ha => q a _ ((Same.new hd).trans (Same.new ha)) (Same.none (Same.new hd) ha) ⟨d, upd_same, Same.new ha _ _ upd_same⟩⟩⟩
  · refine ⟨_, rfl, rfl, _, rfl, ite_b (fun c => absurd c (by decide +kernel)) (fun _ => ?_)⟩
    refine ⟨_, rfl, rfl, _, rfl, ite_b (fun c => absurd c (by decide +kernel)) (fun _ => ?_)⟩
    refine ⟨_, rfl, rfl, _, rfl, ite_b (fun c => absurd c (by decide +kernel)) (fun _ => ?_)⟩
    refine ⟨_, rfl, rfl, _, rfl, ite_b (fun c => absurd c (by decide +kernel)) (fun _ => ?_)⟩
    refine ⟨_, rfl, rfl, _, rfl, ite_b (fun c => absurd c (by decide +kernel)) (fun _ => ?_)⟩
    refine ⟨_, rfl, rfl, _, rfl, ite_b (fun c => absurd c (by decide +kernel)) (fun _ => ?_)⟩
    refine ⟨_, rfl, rfl, _, rfl, ite_b (fun c => absurd c (by decide +kernel)) (fun _ => ?_)⟩
    refine ⟨_, rfl, rfl, _, rfl, ite_b (fun _ => ?_) (fun c => absurd c (by decide +kernel))⟩
    exact ⟨_, rfl, v, rfl, fun d hd => ⟨T.m_NoPlace, fun a ha => q a _ ((Same.new hd).trans (Same.new ha)) (Same.none (Same.new hd) ha) ⟨d, upd_same, Same.new ha _ _ upd_same⟩⟩⟩
  · refine ⟨_, rfl, rfl, _, rfl, ite_b (fun c => absurd c (by decide +kernel)) (fun _ => ?_)⟩
    refine ⟨_, rfl, rfl, _, rfl, ite_b (fun c => absurd c (by decide +kernel)) (fun _ => ?_)⟩
    refine ⟨_, rfl, rfl, _, rfl, ite_b (fun c => absurd c (by decide +kernel)) (fun _ => ?_)⟩
    refine ⟨_, rfl, rfl, _, rfl, ite_b (fun c => absurd c (by decide +kernel)) (fun _ => ?_)⟩
    refine ⟨_, rfl, rfl, _, rfl, ite_b (fun c => absurd c (by decide +kernel)) (fun _ => ?_)⟩
    refine ⟨_, rfl, rfl, _, rfl, ite_b (fun c => absurd c (by decide +kernel)) (fun _ => ?_)⟩
    refine ⟨_, rfl, rfl, _, rfl, ite_b (fun c => absurd c (by decide +kernel)) (fun _ => ?_)⟩
    refine ⟨_, rfl, rfl, _, rfl, ite_b (fun c => absurd c (by decide +kernel)) (fun _ => ?_)⟩
    exact ⟨_, rfl, v, rfl, fun d hd => ⟨T.m_NoVersion, fun a ha => q a _ ((Same.new hd).trans (Same.new ha)) (Same.none (Same.new hd) ha) ⟨d, upd_same, Same.new ha _ _ upd_same⟩⟩⟩

def spRaisedT : Sp := fun vs H Q _ => ∃ (k : Nat) (v : V), vs = [.int (k : Int), v] ∧ 9 ≤ k ∧ k < 18 ∧ ∀ (e : Addr) (H' : Hp), Same H H' → H e = none → ErrAt T k v H' e → Q (.ref e) H'
theorem ok_law_raised_too : FnOk P w K mg base CX0 3 T.a__law_raised_too T.d__law_raised_too ["_law_way", "_law_thing_here"] (spRaisedT T) := by
  refine T.F__law_raised_too.ok sc__law_raised_too ?_ (fun cdv A outer s H vs Q E hr h => ?_)
  · rintro vs H Q E ⟨k, v, rfl, _⟩
    rfl
  obtain ⟨k, v, rfl, k0, k1, q⟩ := h
  refine ⟨_, 
    (pss_one (ps_try_ret (i := 2) rfl rfl rfl sc__law_raised_too.nd rfl rfl ⟨by rfl, by decide, Or.inl T.g_MoveError⟩ (by decide) (by decide) (fun W pn xe tk _ => pss_cons (ps_if (pt_cmpR op_eq (pv 0) pe_int (nomark _)) (pss_one (ps_raiseLow_name rfl T.e_NoFunction hr tk (pa_cons (pv 1) pa_nil) (by rfl) (by decide))) pss_nil) (pss_cons (ps_if (pt_cmpR op_eq (pv 0) pe_int (nomark _)) (pss_one (ps_raise0 rfl T.e_NoSolution hr tk (by rfl) (by decide))) pss_nil) (pss_cons (ps_if (pt_cmpR op_eq (pv 0) pe_int (nomark _)) (pss_one (ps_raise0 rfl T.e_Unfit hr tk (by rfl) (by decide))) pss_nil) (pss_cons (ps_if (pt_cmpR op_eq (pv 0) pe_int (nomark _)) (pss_one (ps_raiseLow_at rfl T.e_Broken hr tk (pa_cons (pv 1) pa_nil) (by rfl) (by decide))) pss_nil) (pss_cons (ps_if (pt_cmpR op_eq (pv 0) pe_int (nomark _)) (pss_one (ps_raiseLow_limit rfl T.e_Full hr tk (pa_cons (pv 1) pa_nil) (by rfl) (by decide))) pss_nil) (pss_cons (ps_if (pt_cmpR op_eq (pv 0) pe_int (nomark _)) (pss_one (ps_raise0 rfl T.e_NoDeed hr tk (by rfl) (by decide))) pss_nil) (pss_cons (ps_if (pt_cmpR op_eq (pv 0) pe_int (nomark _)) (pss_one (ps_raise0 rfl T.e_Nothing hr tk (by rfl) (by decide))) pss_nil) (pss_cons (ps_if (pt_cmpR op_eq (pv 0) pe_int (nomark _)) (pss_one (ps_raiseLow_many rfl T.e_NoEntry hr tk (pa_cons (pv 1) pa_nil) (by rfl) (by decide))) pss_nil) (pss_one (ps_raise0 rfl T.e_NoText hr tk (by rfl) (by decide))))))))))))), ?_⟩
  rcases (by omega : k = 9 ∨ k = 10 ∨ k = 11 ∨ k = 12 ∨ k = 13 ∨ k = 14 ∨ k = 15 ∨ k = 16 ∨ k = 17) with rfl | rfl | rfl | rfl | rfl | rfl | rfl | rfl | rfl
  · refine ⟨_, rfl, rfl, _, rfl, ite_b (fun _ => ?_) (fun c => absurd c (by decide +kernel))⟩
    exact ⟨_, rfl, v, rfl, fun d hd => ⟨T.m_NoFunction, fun a ha => q a _ ((Same.new hd).trans (Same.new ha)) (Same.none (Same.new hd) ha) ⟨d, upd_same, Same.new ha _ _ upd_same⟩⟩⟩
  · refine ⟨_, rfl, rfl, _, rfl, ite_b (fun c => absurd c (by decide +kernel)) (fun _ => ?_)⟩
    refine ⟨_, rfl, rfl, _, rfl, ite_b (fun _ => ?_) (fun c => absurd c (by decide +kernel))⟩
    exact ⟨T.m_NoSolution, fun a ha => q a _ (Same.new ha) ha upd_same⟩
  · refine ⟨_, rfl, rfl, _, rfl, ite_b (fun c => absurd c (by decide +kernel)) (fun _ => ?_)⟩
    refine ⟨_, rfl, rfl, _, rfl, ite_b (fun c => absurd c (by decide +kernel)) (fun _ => ?_)⟩
    refine ⟨_, rfl, rfl, _, rfl, ite_b (fun _ => ?_) (fun c => absurd c (by decide +kernel))⟩
    exact ⟨T.m_Unfit, fun a ha => q a _ (Same.new ha) ha upd_same⟩
  · refine ⟨_, rfl, rfl, _, rfl, ite_b (fun c => absurd c (by decide +kernel)) (fun _ => ?_)⟩
    refine ⟨_, rfl, rfl, _, rfl, ite_b (fun c => absurd c (by decide +kernel)) (fun _ => ?_)⟩
    refine ⟨_, rfl, rfl, _, rfl, ite_b (fun c => absurd c (by decide +kernel)) (fun _ => ?_)⟩
    refine ⟨_, rfl, rfl, _, rfl, ite_b (fun _ => ?_) (fun c => absurd c (by decide +kernel))⟩
    exact ⟨_, rfl, v, rfl, fun d hd => ⟨T.m_Broken, fun a ha => q a _ ((Same.new hd).trans (Same.new ha)) (Same.none (Same.new hd) ha) ⟨d, upd_same, Same.new ha _ _ upd_same⟩⟩⟩
  · refine ⟨_, rfl, rfl, _, rfl, ite_b (fun c => absurd c (by decide +kernel)) (fun _ => ?_)⟩
    refine ⟨_, rfl, rfl, _, rfl, ite_b (fun c => absurd c (by decide +kernel)) (fun _ => ?_)⟩
    refine ⟨_, rfl, rfl, _, rfl, ite_b (fun c => absurd c (by decide +kernel)) (fun _ => ?_)⟩
    refine ⟨_, rfl, rfl, _, rfl, ite_b (fun c => absurd c (by decide +kernel)) (fun _ => ?_)⟩
    refine ⟨_, rfl, rfl, _, rfl, ite_b (fun _ => ?_) (fun c => absurd c (by decide +kernel))⟩
    exact ⟨_, rfl, v, rfl, fun d hd => ⟨T.m_Full, fun a ha => q a _ ((Same.new hd).trans (Same.new ha)) (Same.none (Same.new hd) ha) ⟨d, upd_same, Same.new ha _ _ upd_same⟩⟩⟩
  · refine ⟨_, rfl, rfl, _, rfl, ite_b (fun c => absurd c (by decide +kernel)) (fun _ => ?_)⟩
    refine ⟨_, rfl, rfl, _, rfl, ite_b (fun c => absurd c (by decide +kernel)) (fun _ => ?_)⟩
    refine ⟨_, rfl, rfl, _, rfl, ite_b (fun c => absurd c (by decide +kernel)) (fun _ => ?_)⟩
    refine ⟨_, rfl, rfl, _, rfl, ite_b (fun c => absurd c (by decide +kernel)) (fun _ => ?_)⟩
    refine ⟨_, rfl, rfl, _, rfl, ite_b (fun c => absurd c (by decide +kernel)) (fun _ => ?_)⟩
    refine ⟨_, rfl, rfl, _, rfl, ite_b (fun _ => ?_) (fun c => absurd c (by decide +kernel))⟩
    exact ⟨T.m_NoDeed, fun a ha => q a _ (Same.new ha) ha upd_same⟩
  · refine ⟨_, rfl, rfl, _, rfl, ite_b (fun c => absurd c (by decide +kernel)) (fun _ => ?_)⟩
    refine ⟨_, rfl, rfl, _, rfl, ite_b (fun c => absurd c (by decide +kernel)) (fun _ => ?_)⟩
    refine ⟨_, rfl, rfl, _, rfl, ite_b (fun c => absurd c (by decide +kernel)) (fun _ => ?_)⟩
    refine ⟨_, rfl, rfl, _, rfl, ite_b (fun c => absurd c (by decide +kernel)) (fun _ => ?_)⟩
    refine ⟨_, rfl, rfl, _, rfl, ite_b (fun c => absurd c (by decide +kernel)) (fun _ => ?_)⟩
    refine ⟨_, rfl, rfl, _, rfl, ite_b (fun c => absurd c (by decide +kernel)) (fun _ => ?_)⟩
    refine ⟨_, rfl, rfl, _, rfl, ite_b (fun _ => ?_) (fun c => absurd c (by decide +kernel))⟩
    exact ⟨T.m_Nothing, fun a ha => q a _ (Same.new ha) ha upd_same⟩
  · refine ⟨_, rfl, rfl, _, rfl, ite_b (fun c => absurd c (by decide +kernel)) (fun _ => ?_)⟩
    refine ⟨_, rfl, rfl, _, rfl, ite_b (fun c => absurd c (by decide +kernel)) (fun _ => ?_)⟩
    refine ⟨_, rfl, rfl, _, rfl, ite_b (fun c => absurd c (by decide +kernel)) (fun _ => ?_)⟩
    refine ⟨_, rfl, rfl, _, rfl, ite_b (fun c => absurd c (by decide +kernel)) (fun _ => ?_)⟩
    refine ⟨_, rfl, rfl, _, rfl, ite_b (fun c => absurd c (by decide +kernel)) (fun _ => ?_)⟩
    refine ⟨_, rfl, rfl, _, rfl, ite_b (fun c => absurd c (by decide +kernel)) (fun _ => ?_)⟩
    refine ⟨_, rfl, rfl, _, rfl, ite_b (fun c => absurd c (by decide +kernel)) (fun _ => ?_)⟩
    refine ⟨_, rfl, rfl, _, rfl, ite_b (fun _ => ?_) (fun c => absurd c (by decide +kernel))⟩
    exact ⟨_, rfl, v, rfl, fun d hd => ⟨T.m_NoEntry, fun a ha => q a _ ((Same.new hd).trans (Same.new ha)) (Same.none (Same.new hd) ha) ⟨d, upd_same, Same.new ha _ _ upd_same⟩⟩⟩
  · refine ⟨_, rfl, rfl, _, rfl, ite_b (fun c => absurd c (by decide +kernel)) (fun _ => ?_)⟩
    refine ⟨_, rfl, rfl, _, rfl, ite_b (fun c => absurd c (by decide +kernel)) (fun _ => ?_)⟩
    refine ⟨_, rfl, rfl, _, rfl, ite_b (fun c => absurd c (by decide +kernel)) (fun _ => ?_)⟩
    refine ⟨_, rfl, rfl, _, rfl, ite_b (fun c => absurd c (by decide +kernel)) (fun _ => ?_)⟩
    refine ⟨_, rfl, rfl, _, rfl, ite_b (fun c => absurd c (by decide +kernel)) (fun _ => ?_)⟩
    refine ⟨_, rfl, rfl, _, rfl, ite_b (fun c => absurd c (by decide +kernel)) (fun _ => ?_)⟩
    refine ⟨_, rfl, rfl, _, rfl, ite_b (fun c => absurd c (by decide +kernel)) (fun _ => ?_)⟩
    refine ⟨_, rfl, rfl, _, rfl, ite_b (fun c => absurd c (by decide +kernel)) (fun _ => ?_)⟩
    exact ⟨T.m_NoText, fun a ha => q a _ (Same.new ha) ha upd_same⟩
end
end K19
set_option maxRecDepth 100000
set_option maxHeartbeats 4000000
namespace K19
open PySem L2 Fm
section
variable {P : Program} {w : World} {K : PySem.W.Frag} {mg : Str → Option Value} {base : Heap} (T : Txt K mg)
/-- a thing that the law draws -/
inductive Thing (H : Hp) : V → Prop
  | lst {l : Addr} {n : Int} : H l = some (.lst [.int n]) → 0 ≤ n → n < 9 → Thing H (.ref l)
  | tup {t l : Addr} {n : Int} : H t = some (.tup [.ref l, .ref l]) → H l = some (.lst [.int n]) → 0 ≤ n → n < 9 → Thing H (.ref t)
  | dic {a l : Addr} {n : Int} : H a = some (.dK [(.inr "a", .ref l)]) → H l = some (.lst [.int n]) → l ≠ sysModules → 0 ≤ n → n < 9 → Thing H (.ref a)
  | str {x : Str} : x = "at" ∨ x = "" → Thing H (.str x)
  | non : Thing H .non
  | bl : Thing H (.bl true)
  | int {i : Int} : i = 10 ^ 39 ∨ i = -1 ∨ i = 0 → Thing H (.int i)
  | exc {e : Addr} : H e = some (XH (.ref T.C_Unlike) none e) → Thing H (.ref e)
  | tup0 {t : Addr} : H t = some (.tup []) → Thing H (.ref t)
  | lsts {t m l : Addr} {n : Int} : H t = some (.lst [.ref m]) → H m = some (.lst [.ref l]) → H l = some (.lst [.int n]) → 0 ≤ n → n < 9 → Thing H (.ref t)
def spThing : Sp := fun vs H Q _ => ∃ b p : Addr, vs = [.ref b] ∧ Bag b p H ∧ ∀ v H', Go b p H H' → Thing T (newof H H') v → Q v H'
theorem ok_law_thing : FnOk P w K mg base CX0 3 T.a__law_thing T.d__law_thing ["_law_bag_here"] (spThing T) := by
  have G__law_take := ok_law_take (P := P) (w := w) (base := base) T
  refine T.F__law_thing.ok sc__law_thing ?_ (fun cdv A outer s H vs Q E hr h => ?_)
  · rintro vs H Q E ⟨b, p, rfl, _⟩
    rfl
  obtain ⟨b, p, rfl, B, q⟩ := h
  refine ⟨_, 
    (pss_cons (ps_set (i := 1) sc__law_thing.nd rfl (Or.inl rfl) (pe_lstB (pa_cons (pe_call G__law_take (hr.mono (by omega)) (by rfl) T.f__law_take T.F__law_take.kp T.b__law_take .nil pass0 (pa_cons (pv 0) (pa_cons pe_int pa_nil))) pa_nil)))
    (pss_cons (ps_set (i := 2) sc__law_thing.nd rfl (Or.inl rfl) (pe_lst (pa_cons (pv 1) (pa_cons (pe_tup (pa_cons (pv 1) (pa_cons (pv 1) pa_nil))) (pa_cons (pe_disp (pps_cons pe_str (pv 1) pps_nil) (by rfl) (by rfl) (fun z => by cases z) (by decide)) (pa_cons pe_str (pa_cons pe_non (pa_cons pe_bl (pa_cons (pe_op op_pow pe_int pe_int) (pa_cons (pe_un un_neg pe_int) (pa_cons pe_int pa_nil)))))))))))
    (pss_one (ps_ret (pe_ix ix_list (pe_op op_cat (pv 2) (pe_lst (pa_cons (pe_err0 T.e_Unlike hr (by rfl) (by decide)) (pa_cons (pe_tup pa_nil) (pa_cons pe_str (pa_cons (pe_lst (pa_cons (pe_lst (pa_cons (pv 1) pa_nil)) pa_nil)) pa_nil)))))) (pe_call G__law_take (hr.mono (by omega)) (by rfl) T.f__law_take T.F__law_take.kp T.b__law_take .nil pass0 (pa_cons (pv 0) (pa_cons pe_int pa_nil))) (fun _ _ => rfl)))))), ?_⟩
  refine ⟨_, rfl, b, p, 9, rfl, B, by decide, by decide, fun n H1 n0 n1 g1 => ⟨(by show 1 ≤ sizeLine; decide), fun l hl nS => ?_⟩⟩
  refine ⟨_, rfl, _, rfl, _, rfl, (by show 2 ≤ sizeLine; decide), fun t1 ht1 => fun d1 hd1 => ?_⟩
  have z_l := g1.free hl
  have g2 := g1.new (o := .lst [.int n]) hl
  have z_t := g2.free ht1
  have g3 := g2.new (o := .tup [.ref l, .ref l]) ht1
  have z_d := g3.free hd1
  have g4 := g3.new (o := .dK []) hd1
  have g5 := Go.mut (o := .dK [(.inr "a", .ref l)]) B g4 z_d
  refine ⟨_, rfl, upd_same, [(.inr "a", .ref l)], rfl, (by show 1 ≤ 15; decide), ?_⟩
  have mk5 : mergeK [] [((.inr "a" : Int ⊕ Str), V.ref l)] = [(.inr "a", .ref l)] := rfl
  have n_lt : l ≠ t1 := ne_of_none upd_same ht1
  have n_ld : l ≠ d1 := ne_of_none ((upd_ne n_lt).trans upd_same) hd1
  have n_td : t1 ≠ d1 := ne_of_none upd_same hd1
  obtain ⟨H5, hH5⟩ : ∃ H5, H5 = upd (upd (upd (upd H1 l (.lst [.int n])) t1 (.tup [.ref l, .ref l])) d1 (.dK [])) d1 (.dK (mergeK [] [(.inr "a", .ref l)])) := ⟨_, rfl⟩
  have f_l : H5 l = some (.lst [.int n]) := by
    rw [hH5, upd_ne n_ld, upd_ne n_ld, upd_ne n_lt, upd_same]
  have f_t : H5 t1 = some (.tup [.ref l, .ref l]) := by
    rw [hH5, upd_ne n_td, upd_ne n_td, upd_same]
  have f_d : H5 d1 = some (.dK [(.inr "a", .ref l)]) := by
    rw [hH5, mk5, upd_same]
  rw [← mk5] at g5
  refine ⟨10, 39, rfl, rfl, ⟨by decide, by decide, by decide⟩, 1, rfl, ?_⟩
  rw [← hH5] at g5 ⊢
  refine ⟨(by show 9 ≤ sizeLine; decide), fun m1 hm1 => ?_⟩
  have g6 := (Go.refl g5.B).new (o := .lst [.ref l, .ref t1, .ref d1, .str "at", .non, .bl true, .int (10 ^ (39 : Int).toNat), .int (-1), .int 0]) hm1
  refine ⟨_, rfl, fun e1 he1 => ?_⟩
  have g7 := g6.new (o := XH (.ref T.C_Unlike) none e1) he1
  refine ⟨(by show 0 ≤ sizeLine; decide), fun t0 ht0 => ?_⟩
  have g8 := g7.new (o := .tup []) ht0
  refine ⟨_, rfl, (by show 1 ≤ sizeLine; decide), fun m2 hm2 => ⟨(by show 1 ≤ sizeLine; decide), fun m3 hm3 => ⟨(by show 4 ≤ sizeLine; decide), fun m4 hm4 => ?_⟩⟩⟩
  have g9 := g8.new (o := .lst [.ref l]) hm2
  have g10 := g9.new (o := .lst [.ref m2]) hm3
  have g11 := g10.new (o := .lst [.ref e1, .ref t0, .str "", .ref m3]) hm4
  have nb : ∀ {a : Addr}, H a = none → a ≠ b := fun h => B.b_ne h
  have z_m1 := g5.free hm1
  have z_e := g5.free (g6.free he1)
  have z_t0 := g5.free (g7.free ht0)
  have z_m2 := g5.free (g8.free hm2)
  have z_m3 := g5.free (g9.free hm3)
  have z_m4 := g5.free (g10.free hm4)
  have k7 := Same.new (o := XH (.ref T.C_Unlike) none e1) he1
  have k8 := Same.new (o := .tup []) ht0
  have k9 := Same.new (o := .lst [.ref l]) hm2
  have k10 := Same.new (o := .lst [.ref m2]) hm3
  have k11 := Same.new (o := .lst [.ref e1, .ref t0, .str "", .ref m3]) hm4
  refine ⟨m1, m4, _, _, rfl, rfl, k11 _ _ (k10 _ _ (k9 _ _ (k8 _ _ (k7 _ _ upd_same)))), upd_same, (by show 13 ≤ sizeLine; decide), fun m5 hm5 => ?_⟩
  have k12 := Same.new (o := .lst [.ref l, .ref t1, .ref d1, .str "at", .non, .bl true, .int (10 ^ (39 : Int).toNat), .int (-1), .int 0, .ref e1, .ref t0, .str "", .ref m3]) hm5
  have g12 := g11.same k12
  have z_m5 := g5.free (g11.free hm5)
  refine ⟨_, rfl, b, p, 13, rfl, g12.B, by decide, by decide, fun i H13 i0 i1 g13 => ?_⟩
  have at13 : ∀ {a : Addr} {o : HO}, H a = none → _ → newof H H13 a = some o := fun {a o} h h2 => newof_of h (g13.at (nb h) h2)
  have x_l := at13 z_l (g12.at (nb z_l) f_l)
  have x_t := at13 z_t (g12.at (nb z_t) f_t)
  have x_d := at13 z_d (g12.at (nb z_d) f_d)
  have x_e := at13 z_e (k12 _ _ (k11 _ _ (k10 _ _ (k9 _ _ (k8 _ _ upd_same)))))
  have x_t0 := at13 z_t0 (k12 _ _ (k11 _ _ (k10 _ _ (k9 _ _ upd_same))))
  have x_m2 := at13 z_m2 (k12 _ _ (k11 _ _ (k10 _ _ upd_same)))
  have x_m3 := at13 z_m3 (k12 _ _ (k11 _ _ upd_same))
  have gg := g5.trans (g12.trans g13)
  have ix := g13.at (nb z_m5) upd_same
  obtain ⟨j, rfl⟩ := Int.eq_ofNat_of_zero_le i0
  have pk : ∃ v, ([.ref l, .ref t1, .ref d1, .str "at", .non, .bl true, .int (10 ^ (39 : Int).toNat), .int (-1), .int 0, .ref e1, .ref t0, .str "", .ref m3] : List V)[j]? = some v ∧ Thing T (newof H H13) v := by
    rcases (by omega : j = 0 ∨ j = 1 ∨ j = 2 ∨ j = 3 ∨ j = 4 ∨ j = 5 ∨ j = 6 ∨ j = 7 ∨ j = 8 ∨ j = 9 ∨ j = 10 ∨ j = 11 ∨ j = 12) with rfl | rfl | rfl | rfl | rfl | rfl | rfl | rfl | rfl | rfl | rfl | rfl | rfl
    · exact ⟨_, rfl, .lst x_l n0 n1⟩
    · exact ⟨_, rfl, .tup x_t x_l n0 n1⟩
    · exact ⟨_, rfl, .dic x_d x_l nS n0 n1⟩
    · exact ⟨_, rfl, .str (.inl rfl)⟩
    · exact ⟨_, rfl, .non⟩
    · exact ⟨_, rfl, .bl⟩
    · exact ⟨_, rfl, .int (.inl rfl)⟩
    · exact ⟨_, rfl, .int (.inr (.inl rfl))⟩
    · exact ⟨_, rfl, .int (.inr (.inr rfl))⟩
    · exact ⟨_, rfl, .exc x_e⟩
    · exact ⟨_, rfl, .tup0 x_t0⟩
    · exact ⟨_, rfl, .str (.inr rfl)⟩
    · exact ⟨_, rfl, .lsts x_m3 x_m2 x_l n0 n1⟩
  obtain ⟨v, hv, th⟩ := pk
  exact ⟨m5, _, j, v, rfl, rfl, SqL.of ix, atI_nat hv, q v _ gg th⟩
end
end K19
set_option maxRecDepth 100000
set_option maxHeartbeats 4000000
namespace K19
open PySem L2 Fm
section
variable {P : Program} {w : World} {K : PySem.W.Frag} {mg : Str → Option Value} {base : Heap} (T : Txt K mg)
/-- repr of v is the text x -/
def Shows (K : PySem.W.Frag) (v : V) (H : Hp) (x : Str) : Prop := ∀ Q : VK, Q (.str x) H → rRepr K [v] H Q ∨ rReprD [v] H Q
def spHeld (K : PySem.W.Frag) : Sp := fun vs H Q _ => ∃ (e : Addr) (k : Nat) (v t : V) (x : Str), vs = [.ref e, .str (fld k), t, .str x] ∧ k < 18 ∧ (fld k ≠ "" → ErrAt T k v H e ∧ decide (v = .non) = decide (t = .non) ∧ (x = "" ∨ Shows K v H x)) ∧ Q (.bl true) H
theorem ok_law_held : FnG P w K mg base 2 T.a__law_held T.d__law_held ["_law_error", "_law_word", "_law_thing_here", "_law_kept"] (spHeld T K) := by
  have G__law_field := ok_law_field (P := P) (w := w) (base := base) T
  refine fnG T.F__law_held sc__law_held ?_ (fun cdv A outer s H vs Q gd hr h => ?_)
  · rintro vs H Q E ⟨e, k, v, t, x, rfl, _⟩
    rfl
  obtain ⟨e, k, v, t, x, rfl, hk, hh, q⟩ := h
  refine ⟨_, 
    (pss_cons (ps_if (pt_cmpR op_eq (pv 1) pe_str (nomark _)) (pss_one (ps_ret pe_bl)) pss_nil)
    (pss_cons (ps_set (i := 4) sc__law_held.nd rfl (Or.inl rfl) (pe_call G__law_field (hr.mono (by omega)) (by rfl) T.f__law_field T.F__law_field.kp T.b__law_field .nil pass0 (pa_cons (pv 0) (pa_cons (pv 1) pa_nil))))
    (pss_one (ps_ret (pe_and (pe_cmpR op_eq (pe_cmpR op_isN (pv 4) pe_non (nomark _)) (pe_cmpR op_isN (pv 2) pe_non (nomark _)) (nomark _)) (pe_one (pe_or (pe_cmpR op_eq (pv 3) pe_str (nomark _)) (pe_one (pe_cmpR op_eq (pe_callB (call_reprA hr gd) (by rfl) T.m_repr (by decide +kernel) (pa_cons (pv 4) pa_nil)) (pv 3) (nomark _)))))))))), ?_⟩
  refine ⟨_, rfl, rfl, _, rfl, ite_b (fun c => ?_) (fun c => ?_)⟩
  · exact q
  have hn : fld k ≠ "" := fun y => by
    rw [y] at c
    exact absurd c (by decide +kernel)
  obtain ⟨er, en, sh⟩ := hh hn
  refine ⟨_, rfl, _, rfl, e, k, v, rfl, hk, hn, er, ?_⟩
  refine ⟨_, rfl, rfl, _, rfl, rfl, rfl, _, rfl, ite_b (fun _ => ?_) (fun c => absurd c (by rw [en]; simp))⟩
  refine ⟨_, rfl, rfl, _, rfl, ite_b (fun _ => q) (fun c => ?_)⟩
  rcases sh with rfl | sh
  · exact absurd c (by decide +kernel)
  refine ⟨_, rfl, sh _ ⟨_, rfl, rfl, ?_⟩⟩
  rw [decide_eq_true rfl]
  exact q
def ShOk (d : PyData) : Prop := d.showable = true ∧ d.hasDict = false ∧ d.depth ≤ 60 ∧ d.shown.length ≤ sizeLine
instance (d : PyData) : Decidable (ShOk d) := by unfold ShOk; infer_instance
theorem sh_rest : ShOk .none ∧ ShOk (.bool true) ∧ ShOk (.int (10 ^ 39)) ∧ ShOk (.int (-1)) ∧ ShOk (.int 0) ∧ ShOk (.str "at") ∧ ShOk (.str "") ∧ ShOk (.tuple []) := by decide +kernel
theorem sh_nine : ∀ k : Nat, k < 9 → ShOk (.list [.int k]) ∧ ShOk (.tuple [.list [.int k], .list [.int k]]) ∧ ShOk (.list [.list [.list [.int k]]]) ∧ (PyData.dict [(.str "a", .list [.int k])]).showable = true ∧ (PyData.dict [(.str "a", .list [.int k])]).shown.length ≤ sizeLine := by decide +kernel
theorem shows_of {v : V} {d : PyData} (S : ShOk d) (H : Hp) (h : ∀ H3, Same H H3 → Dp K H3 v d) : ∃ x, ∀ H3, Same H H3 → Shows K v H3 x :=
  ⟨d.shown, fun H3 k3 Q q => .inl ⟨_, d, rfl, h H3 k3, S.1, S.2.1, S.2.2.1, S.2.2.2, q⟩⟩
/-- what is kept of a thing: its repr, or nothing if it is an error -/
theorem thing_shows {H H2 : Hp} {v : V} (th : Thing T H v) (k : Same H H2) : (∃ e, v = .ref e ∧ H2 e = some (XH (.ref T.C_Unlike) none e)) ∨ ∃ x, ∀ H3, Same H2 H3 → Shows K v H3 x := by
  obtain ⟨r1, r2, r3, r4, r5, r6, r7, r8⟩ := sh_rest
  cases th with
  | @lst l n h n0 n1 =>
    right
    obtain ⟨j, rfl⟩ := Int.eq_ofNat_of_zero_le n0
    exact shows_of (sh_nine j (by omega)).1 H2 fun H3 k3 => .lst (SqL.of (k3 _ _ (k _ _ h))) (.cons (.int _) .nil)
  | @tup t l n ht h n0 n1 =>
    right
    obtain ⟨j, rfl⟩ := Int.eq_ofNat_of_zero_le n0
    exact shows_of (sh_nine j (by omega)).2.1 H2 fun H3 k3 => by
      have y : Dp K H3 (.ref l) (.list [.int j]) := .lst (SqL.of (k3 _ _ (k _ _ h))) (.cons (.int _) .nil)
      exact .tup (SqT.of (k3 _ _ (k _ _ ht))) (.cons y (.cons y .nil))
  | @dic a l n ha h hn n0 n1 =>
    right
    obtain ⟨j, rfl⟩ := Int.eq_ofNat_of_zero_le n0
    exact ⟨_, fun H3 k3 Q q => .inr ⟨a, l, "a", j, rfl, k3 _ _ (k _ _ ha), k3 _ _ (k _ _ h), hn, (sh_nine j (by omega)).2.2.2.1, (sh_nine j (by omega)).2.2.2.2, q⟩⟩
  | @str x h => exact .inr (by
      rcases h with rfl | rfl
      · exact shows_of r6 H2 fun _ _ => .str _
      · exact shows_of r7 H2 fun _ _ => .str _)
  | non => exact .inr (shows_of r1 H2 fun _ _ => .non)
  | bl => exact .inr (shows_of r2 H2 fun _ _ => .bl _)
  | @int i h => exact .inr (by
      rcases h with rfl | rfl | rfl
      · exact shows_of r3 H2 fun _ _ => .int _
      · exact shows_of r4 H2 fun _ _ => .int _
      · exact shows_of r5 H2 fun _ _ => .int _)
  | @exc e h => exact .inl ⟨e, rfl, k _ _ h⟩
  | @tup0 t h => exact .inr (shows_of r8 H2 fun H3 k3 => .tup (SqT.of (k3 _ _ (k _ _ h))) .nil)
  | @lsts t m l n ht hm h n0 n1 =>
    right
    obtain ⟨j, rfl⟩ := Int.eq_ofNat_of_zero_le n0
    exact shows_of (sh_nine j (by omega)).2.2.1 H2 fun H3 k3 => by
      have y : Dp K H3 (.ref l) (.list [.int j]) := .lst (SqL.of (k3 _ _ (k _ _ h))) (.cons (.int _) .nil)
      have z : Dp K H3 (.ref m) (.list [.list [.int j]]) := .lst (SqL.of (k3 _ _ (k _ _ hm))) (.cons y .nil)
      exact .lst (SqL.of (k3 _ _ (k _ _ ht))) (.cons z .nil)
end
end K19
set_option maxRecDepth 100000
set_option maxHeartbeats 4000000
namespace K19
open PySem L2 Fm
section
variable {P : Program} {w : World} {K : PySem.W.Frag} {mg : Str → Option Value} {base : Heap} (T : Txt K mg)
/-- a list to which 'more' is put: it is still equal to itself -/
def MoreOk (K : PySem.W.Frag) (Hn H : Hp) (v : V) : Prop := ∃ l xs, v = .ref l ∧ Hn l = some (.lst xs) ∧ H l = some (.lst xs) ∧ xs.length ≤ 1 ∧ ∀ H4, Same H H4 → ∃ d, Dp K (upd H4 l (.lst (xs ++ [.str "more"]))) (.ref l) d ∧ SeqAt.shaped d = true ∧ PyData.eqv d d = true
theorem more_nine : ∀ k : Nat, k < 9 → SeqAt.shaped (.list [.int k, .str "more"]) = true ∧ PyData.eqv (.list [.int k, .str "more"]) (.list [.int k, .str "more"]) = true ∧ SeqAt.shaped (.list [.list [.list [.int k]], .str "more"]) = true ∧ PyData.eqv (.list [.list [.list [.int k]], .str "more"]) (.list [.list [.list [.int k]], .str "more"]) = true := by decide +kernel
theorem thing_all (Kt : Kits T) {H H2 : Hp} {v : V} (th : Thing T H v) (k : Same H H2) : ∃ t bm bl, (∀ H3, Same H2 H3 → TyE K H3 v t) ∧ PySem.W.kitOne K t (.ref T.C_MoveError) = some bm ∧ PySem.W.kitOne K t (.type "list") = some bl ∧ (bm = false → ∃ x, ∀ H3, Same H2 H3 → Shows K v H3 x) ∧ (bl = true → MoreOk K H H2 v) := by
  have sh := thing_shows T th k
  have hne : ∀ {o : HO}, (∀ e d, o ≠ XH e none d) → (∀ e, v = .ref e → H2 e = some o) → ∃ x, ∀ H3, Same H2 H3 → Shows K v H3 x := fun hx he => by
    rcases sh with ⟨e, rfl, h⟩ | sh
    · rw [he e rfl] at h
      exact absurd (Option.some.inj h) (hx _ _)
    · exact sh
  have scal : (∀ e, v ≠ .ref e) → ∃ x, ∀ H3, Same H2 H3 → Shows K v H3 x := fun hv => by
    rcases sh with ⟨e, rfl, h⟩ | sh
    · exact absurd rfl (hv e)
    · exact sh
  cases th with
  | @lst l n h n0 n1 =>
    have h2 := k _ _ h
    refine ⟨.type "list", false, true, fun H3 k3 => .base (.base (.lst (k3 _ _ h2))), Kt.no _ (by simp), rfl, fun _ => hne (o := .lst [.int n]) (fun _ _ => nofun) (fun e y => by cases y; exact h2), fun _ => ?_⟩
    obtain ⟨j, rfl⟩ := Int.eq_ofNat_of_zero_le n0
    obtain ⟨m1, m2, _, _⟩ := more_nine j (by omega)
    exact ⟨l, _, rfl, h, h2, by simp, fun H4 k4 => ⟨_, .lst (SqL.of upd_same) (.cons (.int _) (.cons (.str _) .nil)), m1, m2⟩⟩
  | @tup t l n ht h n0 n1 =>
    have h2 := k _ _ ht
    exact ⟨.type "tuple", false, false, fun H3 k3 => .base (.base (.tup (k3 _ _ h2))), Kt.no _ (by simp), rfl, fun _ => hne (o := .tup _) (fun _ _ => nofun) (fun e y => by cases y; exact h2), fun c => nomatch c⟩
  | @dic a l n ha h hn n0 n1 =>
    have h2 := k _ _ ha
    exact ⟨.type "dict", false, false, fun H3 k3 => .base (.base (.dK (k3 _ _ h2))), Kt.no _ (by simp), rfl, fun _ => hne (o := .dK _) (fun _ _ => nofun) (fun e y => by cases y; exact h2), fun c => nomatch c⟩
  | @str x h => exact ⟨.type "str", false, false, fun H3 k3 => .base (.base (.str _)), Kt.no _ (by simp), rfl, fun _ => scal (fun _ => nofun), fun c => nomatch c⟩
  | non => exact ⟨.type "NoneType", false, false, fun H3 k3 => .base (.base .non), Kt.no _ (by simp), rfl, fun _ => scal (fun _ => nofun), fun c => nomatch c⟩
  | bl => exact ⟨.type "bool", false, false, fun H3 k3 => .base (.base (.bl _)), Kt.no _ (by simp), rfl, fun _ => scal (fun _ => nofun), fun c => nomatch c⟩
  | @int i h => exact ⟨.type "int", false, false, fun H3 k3 => .base (.base (.int _)), Kt.no _ (by simp), rfl, fun _ => scal (fun _ => nofun), fun c => nomatch c⟩
  | @exc e h => exact ⟨.ref T.C_Unlike, true, false, fun H3 k3 => .bare (k3 _ _ (k _ _ h)) T.x_Unlike, Kt.me, Kt.li, (fun c => nomatch c), (fun c => nomatch c)⟩
  | @tup0 t h =>
    have h2 := k _ _ h
    exact ⟨.type "tuple", false, false, fun H3 k3 => .base (.base (.tup (k3 _ _ h2))), Kt.no _ (by simp), rfl, fun _ => hne (o := .tup _) (fun _ _ => nofun) (fun e y => by cases y; exact h2), fun c => nomatch c⟩
  | @lsts t m l n ht hm h n0 n1 =>
    have h2 := k _ _ ht
    refine ⟨.type "list", false, true, fun H3 k3 => .base (.base (.lst (k3 _ _ h2))), Kt.no _ (by simp), rfl, fun _ => hne (o := .lst [.ref m]) (fun _ _ => nofun) (fun e y => by cases y; exact h2), fun _ => ?_⟩
    have nmt : m ≠ t := fun y => by
      rw [y] at hm
      rw [ht] at hm
      cases hm
      rw [y, ht] at h
      cases h
    have nlt : l ≠ t := fun y => by
      rw [y, ht] at h
      cases h
    obtain ⟨j, rfl⟩ := Int.eq_ofNat_of_zero_le n0
    obtain ⟨_, _, m1, m2⟩ := more_nine j (by omega)
    refine ⟨t, _, rfl, ht, h2, by simp, fun H4 k4 => ?_⟩
    have y : Dp K (upd H4 t (.lst ([.ref m] ++ [.str "more"]))) (.ref l) (.list [.int j]) := .lst (SqL.of (by rw [upd_ne nlt]; exact k4 _ _ (k _ _ h))) (.cons (.int _) .nil)
    have z : Dp K (upd H4 t (.lst ([.ref m] ++ [.str "more"]))) (.ref m) (.list [.list [.int j]]) := .lst (SqL.of (by rw [upd_ne nmt]; exact k4 _ _ (k _ _ hm))) (.cons y .nil)
    exact ⟨_, .lst (SqL.of upd_same) (.cons z (.cons (.str _) .nil)), m1, m2⟩
theorem ErrAt.upd {k : Nat} {v : V} {H : Hp} {e l : Addr} {xs : List V} {o : HO} (h : ErrAt T k v H e) (hl : H l = some (.lst xs)) : ErrAt T k v (upd H l o) e := by
  have ne1 : ∀ {c : Value} {d : Option Addr} {e : Addr}, H e = some (XH c d e) → e ≠ l := fun h2 y => by
    rw [y, hl] at h2
    cases h2
  unfold ErrAt at h ⊢
  by_cases c : fld k = ""
  · rw [if_pos c] at h ⊢
    rw [upd_ne (ne1 h)]
    exact h
  · rw [if_neg c] at h ⊢
    obtain ⟨dd, h1, h2⟩ := h
    have n2 : dd ≠ l := fun y => by
      rw [y, hl] at h2
      cases h2
    exact ⟨dd, by rw [upd_ne (ne1 h1)]; exact h1, by rw [upd_ne n2]; exact h2⟩
theorem kept_of {σ : L2.St} {H : Hp} {R : VK} {v : V} {t : Value} {bm : Bool} (h4 : σ[4]? = some (some v)) (ht : TyE K H v t) (hm : PySem.W.kitOne K t (.ref T.C_MoveError) = some bm) {x : Str} (hs : bm = false → Shows K v H x) (hx : bm = true → x = "") (r : R (.str x) H) :
    tIf (tB (tCB (rIsiE K) (tCons (tVar 4) (tCons (tC (V.ref T.C_MoveError)) tNil)))) (tC (V.str "")) (tCB (fun vs H_1 Q => rRepr K vs H_1 Q ∨ rReprD vs H_1 Q) (tCons (tVar 4) tNil)) σ H R := by
  refine ⟨v, h4, v, _, t, _, bm, rfl, .own _, ht, hm, bm, rfl, ite_b (fun c => ?_) (fun c => ⟨v, h4, hs c _ r⟩)⟩
  cases hx c
  exact r
theorem raised_of {σ : L2.St} {H : Hp} {R : VK} {kw : Nat} {ta : TE} (hk : kw < 18) (h3 : σ[3]? = some (some (.int (kw : Int)))) (Pv : V → Hp → Prop) (ha : ∀ R : VK, (∀ v H1, Pv v H1 → R v H1) → ta σ H R) (q : ∀ v H1 e H2, Pv v H1 → Same H1 H2 → H1 e = none → ErrAt T kw v H2 e → R (.ref e) H2) :
    tIf (tTest (tOp (rI0 fun i j => V.bl (decide (i < j))) (tVar 3) (tC (V.int 9)))) (tCall (spRaised T) [] E0 (tCons (tVar 3) (tCons ta tNil))) (tCall (spRaisedT T) [] E0 (tCons (tVar 3) (tCons ta tNil))) σ H R := by
  refine ⟨_, h3, _, _, rfl, rfl, _, rfl, ite_b (fun c => ?_) (fun c => ?_)⟩
  · have := of_decide_eq_true c
    exact ⟨_, h3, ha _ fun v H1 h => ⟨kw, v, rfl, by omega, by omega, fun e H2 => q v H1 e H2 h⟩⟩
  · have := of_decide_eq_false c
    exact ⟨_, h3, ha _ fun v H1 h => ⟨kw, v, rfl, by omega, by omega, fun e H2 => q v H1 e H2 h⟩⟩
theorem lc_rangeF {te : TE} {tt : TT} {σ : L2.St} {H : Hp} {j n : Nat} {vs : List Nat} {Dl : Addr} {Qd : Hp → Prop} (f : Nat → V) (hD : H Dl = none) (hz : n ≤ 100000)
    (hw : ∀ x, wipe ((wipe σ vs).set j (some x)) vs = wipe σ vs) (he : ∀ σ' H' (R : Bool → Hp → Prop), R true H' → tt σ' H' R)
    (hv : ∀ (i : Nat) (H' : Hp) (R : VK), i < n → R (f i) H' → te ((wipe σ vs).set j (some (.int (i : Int)))) H' R)
    (q : ∀ H', Same H H' → H' Dl = some (.lst ((List.range n).map f)) → Qd H') :
    ∃ W : Nat → Nat → Hp → Prop, (∃ m, W 0 m (upd H Dl (.lst []))) ∧ ∀ i m H, W i m H → ((Itr 0 n).stop i H ∧ Qd H) ∨ ((Itr 0 n).go i H ∧ ∃ Nx : Hp → Prop, (∀ H', Nx H' → ∃ m', m' < m ∧ W (i + 1) m' H') ∧
      ∀ x H', (Itr 0 n).yld i H x H' → gName j x (wipe σ vs) H' fun σ2 H2 => wipe σ2 vs = wipe σ vs ∧ tt σ2 H2 fun b H3 => if b = true then te σ2 H3 fun y H4 => ∃ acc, H4 Dl = some (.lst acc) ∧ acc.length < sizeLine ∧ Nx (upd H4 Dl (.lst (acc ++ [y]))) else Nx H3) := by
  refine lc_range (lo := 0) (fun i H' => Same H H' ∧ H' Dl = some (.lst ((List.range i).map f))) ⟨Same.new hD, upd_same⟩ ?_ ?_
  · rintro i H1 hi ⟨k, hl⟩
    refine ⟨hw _, he _ _ _ ?_⟩
    rw [if_pos rfl]
    have e0 : (0 : Int) + (i : Int) = (i : Int) := by omega
    rw [e0]
    refine hv i H1 _ hi ⟨_, hl, ?_, Same.upd k hD, ?_⟩
    · rw [List.length_map, List.length_range]
      exact szl (by omega)
    · rw [List.range_succ, List.map_append]
      exact upd_same
  · rintro H' ⟨k, hl⟩
    exact q H' k hl
theorem dps_bl {H : Hp} (f : Nat → Bool) : ∀ l : List Nat, DpAll K H (l.map fun j => V.bl (f j)) (l.map fun j => PyData.bool (f j))
  | [] => .nil
  | j :: l => .cons (.bl _) (dps_bl f l)
def oneHot (kw : Nat) : PyData := .list ((List.range 18).map fun j => .bool (decide (j = kw)))
theorem hot_ok : ∀ kw : Nat, kw < 18 → SeqAt.shaped (oneHot kw) = true ∧ PyData.eqv (oneHot kw) (oneHot kw) = true := by decide +kernel
end
end K19
set_option maxRecDepth 100000
set_option maxHeartbeats 4000000
namespace K19
open PySem L2 Fm
section
variable {P : Program} {w : World} {K : PySem.W.Frag} {mg : Str → Option Value} {base : Heap} (T : Txt K mg)
theorem ok_law (Kt : Kits T) : FnG P w K mg base 64 T.a_law T.d_law ["_law_script"] (spLaw K) := by
  have G__law_bag := ok_law_bag (P := P) (w := w) (base := base) T
  have G__law_take := ok_law_take (P := P) (w := w) (base := base) T
  have G__law_thing := ok_law_thing (P := P) (w := w) (base := base) T
  have G__law_fields := ok_law_fields (P := P) (w := w) (base := base) T
  have G__law_raised := ok_law_raised (P := P) (w := w) (base := base) T
  have G__law_raised_too := ok_law_raised_too (P := P) (w := w) (base := base) T
  have G__law_sorts := ok_law_sorts (P := P) (w := w) (base := base) T Kt
  have G__law_held := ok_law_held (P := P) (w := w) (base := base) T
  have G__law_field := ok_law_field (P := P) (w := w) (base := base) T
  refine fnG T.F_law sc_law ?_ (fun cdv A outer s H vs Q gd hr h => ?_)
  · rintro vs H Q E ⟨a, ns, rfl, _⟩
    rfl
  obtain ⟨a, ns, rfl, hs, hl, q⟩ := h
  refine ⟨_, 
    (pss_cons (ps_set (i := 1) sc_law.nd rfl (Or.inl rfl) (pe_call G__law_bag (hr.mono (by omega)) (by rfl) T.f__law_bag T.F__law_bag.kp T.b__law_bag .nil pass0 (pa_cons (pv 0) pa_nil)))
    (pss_cons (ps_for PassesOwn.never rfl (pi_range1 (by rfl) T.m_range (pa_cons pe_int pa_nil)) (pg_name (i := 2) sc_law.nd rfl (Or.inl rfl)) (pss_cons (ps_asg (pe_tup (pa_cons (pe_call G__law_take (hr.mono (by omega)) (by rfl) T.f__law_take T.F__law_take.kp T.b__law_take .nil pass0 (pa_cons (pv 1) (pa_cons pe_int pa_nil))) (pa_cons (pe_call G__law_thing (hr.mono (by omega)) (by rfl) T.f__law_thing T.F__law_thing.kp T.b__law_thing .nil pass0 (pa_cons (pv 1) pa_nil)) pa_nil))) (pg_tup rfl (pgs_cons (pg_name (i := 3) sc_law.nd rfl (Or.inr rfl)) (pgs_cons (pg_name (i := 4) sc_law.nd rfl (Or.inl rfl)) pgs_nil)))) (pss_cons (ps_par (i := 5) (j := 6) (by rfl) sc_law.nd rfl rfl (by decide) rfl rfl (pa_cons (pe_ix ix_list (pe_call0 G__law_fields (hr.mono (by omega)) (by rfl) T.f__law_fields T.F__law_fields.kp T.b__law_fields .nil pass0) (pv 3) (fun _ _ => rfl)) (pa_cons (pe_ifExp (pt_val (pe_callB call_isiE (by rfl) T.m_isinstance (by decide +kernel) (pa_cons (pv 4) (pa_cons (pe_glob (v := .ref T.C_MoveError) (u := .ref T.C_MoveError) (by rfl) T.g_MoveError rfl) pa_nil)))) pe_str (pe_callB (call_reprA hr gd) (by rfl) T.m_repr (by decide +kernel) (pa_cons (pv 4) pa_nil))) pa_nil)) (by rfl)) (pss_cons (ps_set (i := 7) sc_law.nd rfl (Or.inl rfl) (pe_ifExp (pt_cmpR op_lt (pv 3) pe_int (nomark _)) (pe_call G__law_raised (hr.mono (by omega)) (by rfl) T.f__law_raised T.F__law_raised.kp T.b__law_raised .nil pass0 (pa_cons (pv 3) (pa_cons (pv 4) pa_nil))) (pe_call G__law_raised_too (hr.mono (by omega)) (by rfl) T.f__law_raised_too T.F__law_raised_too.kp T.b__law_raised_too .nil pass0 (pa_cons (pv 3) (pa_cons (pv 4) pa_nil))))) (pss_cons (ps_set (i := 8) sc_law.nd rfl (Or.inl rfl) (pe_ifExp (pt_cmpR op_lt (pv 3) pe_int (nomark _)) (pe_call G__law_raised (hr.mono (by omega)) (by rfl) T.f__law_raised T.F__law_raised.kp T.b__law_raised .nil pass0 (pa_cons (pv 3) (pa_cons (pe_lst (pa_cons (pv 2) pa_nil)) pa_nil))) (pe_call G__law_raised_too (hr.mono (by omega)) (by rfl) T.f__law_raised_too T.F__law_raised_too.kp T.b__law_raised_too .nil pass0 (pa_cons (pv 3) (pa_cons (pe_lst (pa_cons (pv 2) pa_nil)) pa_nil))))) (pss_cons (ps_if (PW.pt (pw_or (pt_cmpR (op_neD hr.units) (pe_call G__law_sorts (hr.mono (by omega)) (by rfl) T.f__law_sorts T.F__law_sorts.kp T.b__law_sorts .nil pass0 (pa_cons (pv 7) pa_nil)) (pe_lc (own := [("_law_k", 10)]) (g := gName 10) (tt := tYes) rfl sc_law.nd (pi_range1 (by rfl) T.m_range (pa_cons pe_int pa_nil)) (blkOk_by (N := N_law) (sc := defScope s_law) (by decide +kernel)) (fun _ _ _ _ _ => pg_name (i := 10) sc_law.nd rfl (Or.inl rfl)) (fun _ _ _ _ _ => pts_nil) (fun _ _ _ _ _ => pe_cmpR op_eq (pv 10) (pv 3) (nomark _))) (nomark _)) (pw_or1 (pt_not (pt_val (pe_callB call_isiE (by rfl) T.m_isinstance (by decide +kernel) (pa_cons (pv 7) (pa_cons (pe_bltn (v := .ty "ValueError") (u := .type "ValueError") (by rfl) T.m_ValueError (by decide +kernel) rfl) pa_nil)))))))) (pss_one (ps_ret pe_bl)) pss_nil) (pss_cons (ps_for PassesOwn.never rfl (pi_range1 (by rfl) T.m_range (pa_cons pe_int pa_nil)) (pg_name (i := 9) sc_law.nd rfl (Or.inl rfl)) (pss_one (ps_if (PW.pt (pw_or (pt_not (pt_val (pe_callG G__law_held (hr.mono (by omega)) gd (by rfl) T.f__law_held T.F__law_held.kp T.b__law_held (pa_cons (pv 7) (pa_cons (pv 5) (pa_cons (pv 4) (pa_cons (pv 6) pa_nil))))))) (pw_or1 (pt_not (pt_val (pe_callG G__law_held (hr.mono (by omega)) gd (by rfl) T.f__law_held T.F__law_held.kp T.b__law_held (pa_cons (pv 8) (pa_cons (pv 5) (pa_cons (pe_lst (pa_cons (pv 2) pa_nil)) (pa_cons (pe_callB (call_reprA hr gd) (by rfl) T.m_repr (by decide +kernel) (pa_cons (pe_lst (pa_cons (pv 2) pa_nil)) pa_nil)) pa_nil)))))))))) (pss_one (ps_ret pe_bl)) pss_nil))) (pss_one (ps_if (pt_val (pe_callB call_isiE (by rfl) T.m_isinstance (by decide +kernel) (pa_cons (pv 4) (pa_cons (pe_bltn (v := .ty "list") (u := .type "list") (by rfl) T.m_list (by decide +kernel) rfl) pa_nil)))) (pss_cons (ps_expr (pe_bm PySem.F.plainAttrs_list PySem.F.slot_list_append PySem.F.type_list_append mt_append (pv 4) (pa_cons pe_str pa_nil))) (pss_one (ps_if (PW.pt (pw_and (pt_cmpR op_ne (pv 5) pe_str (nomark _)) (pw_and1 (pt_cmpR (op_neD hr.units) (pe_call G__law_field (hr.mono (by omega)) (by rfl) T.f__law_field T.F__law_field.kp T.b__law_field .nil pass0 (pa_cons (pv 7) (pa_cons (pv 5) pa_nil))) (pv 4) (nomark _))))) (pss_one (ps_ret pe_bl)) pss_nil))) pss_nil)))))))))
    (pss_one (ps_ret pe_bl)))), ?_⟩
  refine ⟨_, rfl, a, ns, rfl, hs, hl, fun b p H1 _ _ B1 => ?_⟩
  refine ⟨8, rfl, by decide, by decide, ?_⟩
  refine for_range (lo := 0) (n := 8) (fun i σ H' => ∃ o2 o3 o4 o5 o6 o7 o8 o9 o10, σ = [some (.ref a), some (.ref b), o2, o3, o4, o5, o6, o7, o8, o9, o10] ∧ Go b p H1 H') ⟨none, none, none, none, none, none, none, none, none, rfl, Go.refl B1⟩ ?_ ?_
  · rintro i σ H3 hi ⟨o2, o3, o4, o5, o6, o7, o8, o9, o10, rfl, g3⟩
    refine ⟨_, rfl, b, p, 18, rfl, g3.B, by decide, by decide, fun way H4 w0 w1 g4 => ?_⟩
    refine ⟨_, rfl, b, p, rfl, g4.B, fun v H5 g5 th => ?_⟩
    refine ⟨(by show 2 ≤ sizeLine; decide), fun t ht => ⟨t, _, rfl, SqT.of upd_same, rfl, ?_⟩⟩
    obtain ⟨kw, rfl⟩ := Int.eq_ofNat_of_zero_le w0
    have hk : kw < 18 := by omega
    have k6 : Same (newof H4 H5) (upd H5 t (.tup [.int kw, v])) := newof_sub.trans (Same.new ht)
    have g6 := g5.new (o := .tup [.int kw, v]) ht
    generalize upd H5 t (.tup [.int kw, v]) = H6 at k6 g6 ⊢
    obtain ⟨ty, bm, bl, hty, hme, hli, hsh, hmo⟩ := thing_all T Kt th k6
    refine ⟨_, _, rfl, _, _, rfl, rfl, ?_⟩
    refine ⟨rfl, fun lf H7 k7 hl0 hl7 => ?_⟩
    have hfk : (flds.map V.str)[kw]? = some (.str (fld kw)) := by
      rw [List.getElem?_map]
      unfold fld
      have : kw < flds.length := hk
      rw [List.getElem?_eq_getElem this, List.getD_eq_getElem?_getD, List.getElem?_eq_getElem this]
      rfl
    refine ⟨_, rfl, lf, _, kw, _, rfl, rfl, SqL.of hl7, atI_nat hfk, ?_⟩
    obtain ⟨x, hx, hxt, hxf⟩ : ∃ x : Str, (x = "" ∨ ∀ H3, Same H7 H3 → Shows K v H3 x) ∧ (bm = true → x = "") ∧ (bm = false → ∀ H3, Same H7 H3 → Shows K v H3 x) := by
      cases bm with
      | true => exact ⟨"", .inl rfl, (fun _ => rfl), (fun c => nomatch c)⟩
      | false =>
        obtain ⟨x, sx⟩ := hsh rfl
        exact ⟨x, .inr fun H3 k3 => sx H3 (k7.trans k3), (fun c => nomatch c), (fun _ H3 k3 => sx H3 (k7.trans k3))⟩
    refine kept_of T (v := v) (t := ty) (bm := bm) (x := x) rfl (hty _ k7) hme (fun c => hxf c _ (Same.refl _)) hxt ?_
    refine ⟨_, _, rfl, ?_⟩
    refine raised_of T hk rfl (fun y H' => y = v ∧ H' = H7) (fun R r => ⟨_, rfl, r _ _ ⟨rfl, rfl⟩⟩) (fun y H' e H8 hy k8 he0 er1 => ?_)
    obtain ⟨rfl, rfl⟩ := hy
    refine raised_of T hk rfl (fun y H' => ∃ ls, y = .ref ls ∧ Same H8 H' ∧ H8 ls = none ∧ H' ls = some (.lst [.int (0 + (i : Int))])) (fun R r => ⟨_, rfl, (by show 1 ≤ sizeLine; decide), fun ls hls => r _ _ ⟨ls, rfl, Same.new hls, hls, upd_same⟩⟩) (fun y H9 e2 H10 hy k10 he2 er2 => ?_)
    obtain ⟨ls, rfl, k9, hls0, hls⟩ := hy
    -- the sorts
    have k810 := k9.trans k10
    have er1a := er1.same T k810
    refine ⟨_, rfl, e, kw, _, rfl, hk, er1a, fun lq H11 k11 hq0 hq => ?_⟩
    refine ⟨18, rfl, by decide, by decide, fun Dl hD => ?_⟩
    refine lc_rangeF (n := 18) (fun j => V.bl (decide (j = kw))) hD (by decide) (fun _ => rfl) (fun _ _ _ r => r) ?_ ?_
    · intro j H' R hj r
      refine ⟨_, rfl, _, rfl, rfl, ?_⟩
      have e1 : decide (V.int (j : Int) = V.int (kw : Int)) = decide (j = kw) := by
        rw [dec_int]
        by_cases c : j = kw
        · subst c; simp
        · rw [decide_eq_false c]
          simp only [beq_eq_false_iff_ne, ne_eq]
          omega
      rw [e1]
      exact r
    intro H12 k12 hDl
    obtain ⟨hot1, hot2⟩ := hot_ok kw hk
    refine ⟨oneHot kw, oneHot kw, .lst (SqL.of (k12 _ _ hq)) (dps_bl _ _), .lst (SqL.of hDl) (dps_bl _ _), hot1, hot1, !PyData.eqv (oneHot kw) (oneHot kw), rfl, ite_b (fun c => ?_) (fun _ => ?_)⟩
    · rw [hot2] at c
      cases c
    have k1012 := k11.trans k12
    have er1b := er1a.same T k1012
    have er2b := er2.same T k1012
    refine ⟨_, rfl, _, _, _, _, true, rfl, .ty _, er1b.ty T hk, Kt.ve kw hk, true, rfl, ?_⟩
    refine ite_b (fun c => nomatch c) (fun _ => ?_)
    -- the errors hold
    refine ⟨2, rfl, by decide, by decide, ?_⟩
    refine for_range (lo := 0) (n := 2) (fun j σ H' => ∃ o9' o10', σ = [some (.ref a), some (.ref b), some (.int (0 + (i : Int))), some (.int (kw : Int)), some y, some (.str (fld kw)), some (.str x), some (.ref e), some (.ref e2), o9', o10'] ∧ Same H12 H') ⟨_, _, rfl, Same.refl _⟩ ?_ ?_
    · rintro j σ H13 hj ⟨o9', o10', rfl, k13⟩
      have er1c := er1b.same T k13
      have k713 := ((k8.trans k810).trans k1012).trans k13
      refine ⟨_, rfl, _, rfl, _, rfl, _, rfl, e, kw, _, _, x, rfl, hk, fun _ => ⟨er1c, rfl, hx.imp id fun f => f H13 k713⟩, true, rfl, ?_⟩
      refine ite_b (fun c => nomatch c) (fun _ => ?_)
      have S : ShOk (.list [.int (0 + (i : Int))]) := by
        rw [Int.zero_add]
        exact (sh_nine i (by omega)).1
      have hls13 := k13 _ _ (k1012 _ _ (k10 _ _ hls))
      refine ⟨_, rfl, _, rfl, _, rfl, (by show 1 ≤ sizeLine; decide), fun l2 hl2 => ⟨_, rfl, (by show 1 ≤ sizeLine; decide), fun l3 hl3 => .inl ⟨_, .list [.int (0 + (i : Int))], rfl, .lst (SqL.of upd_same) (.cons (.int _) .nil), S.1, S.2.1, S.2.2.1, S.2.2.2, ?_⟩⟩⟩
      have k14 := (Same.new (o := .lst [.int (0 + (i : Int))]) hl2).trans (Same.new (o := .lst [.int (0 + (i : Int))]) hl3)
      refine ⟨e2, kw, .ref ls, .ref l2, _, rfl, hk, fun _ => ⟨(er2b.same T k13).same T k14, rfl, .inr fun Q q => .inl ⟨_, .list [.int (0 + (i : Int))], rfl, .lst (SqL.of (k14 _ _ hls13)) (.cons (.int _) .nil), S.1, S.2.1, S.2.2.1, S.2.2.2, q⟩⟩, true, rfl, ?_⟩
      exact ite_b (fun c => nomatch c) (fun _ => ⟨_, _, rfl, k13.trans k14⟩)
    · rintro σ H13 ⟨o9', o10', rfl, k13⟩
      have k713 := ((k8.trans k810).trans k1012).trans k13
      have k613 := k7.trans k713
      have er1c := er1b.same T k13
      have g13 := g6.same k613
      refine ⟨_, rfl, _, _, _, _, bl, rfl, .ty _, hty _ k613, hli, bl, rfl, ite_b (fun c => ?_) (fun c => ?_)⟩
      · obtain ⟨l, xs, rfl, hn, hl6, lx, more⟩ := hmo c
        obtain ⟨hn0, _⟩ := newof_is hn
        have hl13 := k613 _ _ hl6
        have g14 := Go.mut (o := .lst (xs ++ [.str "more"])) g4.B g13 hn0
        refine ⟨_, rfl, .inl ⟨rfl, _, SqL.of hl13⟩, l, xs, _, rfl, rfl, hl13, szl (by omega), ?_⟩
        have fin : Go b p H1 (upd H13 l (.lst (xs ++ [.str "more"]))) := (g3.trans g4).trans g14
        refine ⟨_, rfl, rfl, _, rfl, ite_b (fun c2 => ?_) (fun c2 => ?_)⟩
        · have hne : fld kw ≠ "" := fun y => by
            rw [y] at c2
            exact absurd c2 (by decide +kernel)
          obtain ⟨d, dp, sd, ed⟩ := more H13 k613
          refine ⟨_, rfl, _, rfl, e, kw, _, rfl, hk, hne, er1c.upd T hl13, _, rfl, d, d, dp, dp, sd, sd, !PyData.eqv d d, rfl, ite_b (fun c3 => ?_) (fun _ => ?_)⟩
          · rw [ed] at c3
            cases c3
          · exact ⟨_, _, _, _, _, _, _, _, _, rfl, fin⟩
        · exact ite_b (fun c => nomatch c) (fun _ => ⟨_, _, _, _, _, _, _, _, _, rfl, fin⟩)
      · exact ⟨_, _, _, _, _, _, _, _, _, rfl, (g3.trans g4).trans g13⟩
  · rintro σ H' ⟨_, _, _, _, _, _, _, _, _, rfl, _⟩
    exact q H'
end
end K19
set_option maxRecDepth 100000
set_option maxHeartbeats 4000000
namespace K19
open PySem L2 Fm
/-- a class of the program's errors, right under MoveError -/
def veTop : List Value := [.type "ValueError", .type "Exception", .type "BaseException", .type "object"]
def ClsM (K : PySem.W.Frag) (CM C : Addr) : Prop := ∃ nm q N bs sn sub ab col dd k0 k1 k2 k3 k5, K.lookup C = some (excClassObj nm q C N bs (.ref CM :: veTop) true sn sub ab col dd k0 k1 k2 k3 k5 "ValueError.__new__")
def ClsT (K : PySem.W.Frag) (CM : Addr) : Prop := ∃ nm q N bs sn sub ab col dd k0 k1 k2 k3 k5, K.lookup CM = some (excClassObj nm q CM N bs veTop true sn sub ab col dd k0 k1 k2 k3 k5 "ValueError.__new__")
section
variable {K : PySem.W.Frag} {CM C D : Addr}
theorem ClsM.cls (h : ClsM K CM C) : ∃ cd, PySem.W.clsIn K C = some cd ∧ cd.mro = .ref C :: .ref CM :: veTop ∧ cd.hasDict = true := by
  obtain ⟨nm, q, N, bs, sn, sub, ab, col, dd, k0, k1, k2, k3, k5, h⟩ := h
  unfold PySem.W.clsIn
  rw [h]
  exact ⟨_, rfl, rfl, rfl⟩
theorem ClsM.ty (h : ClsM K CM C) : PySem.W.typeIn K (.ref C) = some (.type "type") := by
  obtain ⟨nm, q, N, bs, sn, sub, ab, col, dd, k0, k1, k2, k3, k5, h⟩ := h
  show (List.lookup C K).map (·.cls) = _
  rw [h]
  rfl
theorem ClsT.cls (h : ClsT K CM) : ∃ cd, PySem.W.clsIn K CM = some cd ∧ cd.mro = .ref CM :: veTop := by
  obtain ⟨nm, q, N, bs, sn, sub, ab, col, dd, k0, k1, k2, k3, k5, h⟩ := h
  unfold PySem.W.clsIn
  rw [h]
  exact ⟨_, rfl, rfl⟩
theorem ClsT.ty (h : ClsT K CM) : PySem.W.typeIn K (.ref CM) = some (.type "type") := by
  obtain ⟨nm, q, N, bs, sn, sub, ab, col, dd, k0, k1, k2, k3, k5, h⟩ := h
  show (List.lookup CM K).map (·.cls) = _
  rw [h]
  rfl
theorem ClsM.sub (h : ClsM K CM C) (b : Value) : PySem.W.subIn K (.ref C) b = some ((Value.ref C :: .ref CM :: veTop).contains b) := by
  obtain ⟨cd, h1, h2, _⟩ := h.cls
  show PySem.W.mroIn K C b = _
  unfold PySem.W.mroIn
  rw [h1]
  show (if cd.mro.isEmpty then none else some (cd.mro.contains b)) = _
  rw [h2]
  rfl
theorem ClsM.hd (h : ClsM K CM C) : PySem.W.hasDictIn K C = true := by
  obtain ⟨cd, h1, _, h3⟩ := h.cls
  unfold PySem.W.hasDictIn
  rw [h1]
  exact h3
theorem kit_ref (hc : ∃ cd, PySem.W.clsIn K D = some cd) (ht : PySem.W.typeIn K (.ref D) = some (.type "type")) (t : Value) (ne : (t == .ref D) = false) : PySem.W.kitOne K t (.ref D) = PySem.W.subIn K t (.ref D) := by
  obtain ⟨cd, hc⟩ := hc
  unfold PySem.W.kitOne
  rw [ne]
  show (if ((PySem.W.clsIn K D).isSome && PySem.W.typeIn K (.ref D) == some (.type "type")) = true then PySem.W.subIn K t (.ref D) else none) = _
  rw [hc, ht]
  rfl
theorem ref_beq {a b : Addr} (h : a ≠ b) : ((Value.ref a == .ref b) = false) := by
  rw [beq_eq_false_iff_ne]
  intro y
  cases y
  exact h rfl
theorem has_ref {a b : Addr} (h : a ≠ b) (n : a ≠ CM) : (Value.ref b :: .ref CM :: veTop).contains (.ref a) = false := by
  show ((Value.ref a == .ref b) || ((Value.ref a == .ref CM) || List.elem (.ref a) veTop)) = false
  rw [ref_beq h, ref_beq n]
  rfl
/-- the facts of one another -/
theorem kits_of {mg : Str → Option Value} (T : Txt K mg) (hT : ClsT K T.C_MoveError) (hM : ∀ i, i < 18 → ClsM K T.C_MoveError (cls T i)) (nd : (T.C_MoveError :: clss T).Nodup) : Kits T := by
  have len : (clss T).length = 18 := rfl
  have at_ : ∀ i, (h : i < 18) → cls T i = (clss T)[i]'(by rw [len]; exact h) := fun i h => by
    unfold cls
    rw [List.getD_eq_getElem?_getD, List.getElem?_eq_getElem (by rw [len]; exact h)]
    rfl
  obtain ⟨nM, nd2⟩ := List.nodup_cons.mp nd
  have nm : ∀ i, i < 18 → cls T i ≠ T.C_MoveError := fun i h y => nM (by rw [← y, at_ i h]; exact List.getElem_mem _)
  refine ⟨fun i j hi hj => ?_, fun i hi => ?_, ?_, ?_, ?_⟩
  · by_cases c : j = i
    · subst c
      rw [decide_eq_true rfl]
      unfold PySem.W.kitOne
      rw [if_pos (beq_self_eq_true _)]
    · have ne : cls T j ≠ cls T i := fun y => by
        rw [at_ i hi, at_ j hj] at y
        have pw := List.pairwise_iff_getElem.mp nd2
        rcases Nat.lt_or_gt_of_ne c with l | l
        · exact pw j i (by rw [len]; exact hj) (by rw [len]; exact hi) l y
        · exact pw i j (by rw [len]; exact hi) (by rw [len]; exact hj) l y.symm
      rw [decide_eq_false c]
      obtain ⟨cd, h1, _⟩ := (hM j hj).cls
      rw [kit_ref ⟨cd, h1⟩ (hM j hj).ty _ (ref_beq ne.symm), (hM i hi).sub, has_ref ne (nm j hj)]
  · show PySem.W.subIn K (.ref (cls T i)) (.type "ValueError") = _
    rw [(hM i hi).sub]
    rfl
  · obtain ⟨cd, h1, _⟩ := hT.cls
    show PySem.W.kitOne K (.ref (cls T 5)) _ = _
    rw [kit_ref ⟨cd, h1⟩ hT.ty _ (ref_beq (nm 5 (by omega)))]
    refine ((hM 5 (by omega)).sub _).trans ?_
    show some ((Value.ref _ == .ref _) || ((Value.ref T.C_MoveError == .ref T.C_MoveError) || _)) = _
    rw [beq_self_eq_true, Bool.true_or, Bool.or_true]
  · obtain ⟨cd, h1, _⟩ := hT.cls
    intro t ht
    rw [kit_ref ⟨cd, h1⟩ hT.ty _ rfl]
    simp only [List.mem_cons, List.not_mem_nil, or_false] at ht
    rcases ht with rfl | rfl | rfl | rfl | rfl | rfl | rfl <;> rfl
  · show PySem.W.subIn K (.ref (cls T 5)) (.type "list") = _
    rw [(hM 5 (by omega)).sub]
    rfl
theorem exm_of (hT : ClsT K CM) (h : ClsM K CM C) (ne : C ≠ CM) : PySem.W.exmOne K (.ref C) (.ref CM) = some true := by
  obtain ⟨cd, h1, h2⟩ := hT.cls
  have hs : PySem.W.subIn K (.ref CM) (.type "BaseException") = some true := by
    show PySem.W.mroIn K CM _ = _
    unfold PySem.W.mroIn
    rw [h1]
    show (if cd.mro.isEmpty then none else some (cd.mro.contains _)) = _
    rw [h2]
    rfl
  unfold PySem.W.exmOne
  rw [hs]
  show (if ((PySem.W.clsIn K CM).isSome && PySem.W.typeIn K (.ref CM) == some (.type "type")) = true then PySem.W.subIn K (.ref C) (.ref CM) else none) = _
  rw [h1, hT.ty]
  refine (h.sub _).trans ?_
  show some ((Value.ref _ == .ref _) || ((Value.ref CM == .ref CM) || _)) = _
  rw [beq_self_eq_true, Bool.true_or, Bool.or_true]
theorem excC_of (h : ClsM K CM C) (hg : PySem.W.findIn K (.ref C) "__getattribute__" = some (some (.builtin "BaseException.__getattribute__"))) (hk : PySem.W.findIn K (.ref C) "__getattr__" = some none)
    (ha : PySem.W.findIn K (.ref C) "__class__" = some (some (.builtin "object.__class__"))) (hn : PySem.W.specialIn K (.builtin "object.__class__") "__get__" = some (some (.builtin "getset_descriptor.__get__"))) (ht : PySem.W.takesIn K (.builtin "object.__class__") = some true) : ExcC K C :=
  ⟨hg, hk, (h.sub _).trans rfl, h.hd, ha, hn, ht, (h.sub _).trans rfl⟩
open PySem.W PySem.Calls PyProof.Rows PySem.HandSPX in
theorem refs_of (CM : Addr) : refsVE (.ref CM :: veTop) = true := by
  show refsVE veTop = true
  decide +kernel
end
end K19
set_option maxRecDepth 100000
set_option maxHeartbeats 4000000
namespace K19
open PySem L2 Fm
theorem all_mk {P : Program} {w : World} {K : PySem.W.Frag} {h : Heap} {mg : Str → Option Value} {fa : Addr} (X : K.In h) (G : h.Ns mainGlobals mg) (hfa : mg "law" = some (.ref fa))
    {a0 a1 a2 a3 a4 a5 a6 a7 a8 a9 : Addr} {od0 an0 od1 an1 od2 an2 od3 an3 od4 an4 od5 an5 od6 an6 od7 an7 od8 an8 od9 an9 : Option Addr} {sl0 sl1 sl2 sl3 sl4 sl5 sl6 sl7 sl8 sl9 : Array (Option Value)}
    {oc0 kV0 dc0 pm0 cd0 ct0 oc1 kV1 dc1 pm1 cd1 ct1 oc2 kV2 dc2 pm2 cd2 ct2 oc3 kV3 dc3 pm3 cd3 ct3 oc4 kV4 dc4 pm4 cd4 ct4 oc5 kV5 dc5 pm5 cd5 ct5 oc6 kV6 dc6 pm6 cd6 ct6 oc7 kV7 dc7 pm7 cd7 ct7 oc8 kV8 dc8 pm8 cd8 ct8 oc9 kV9 dc9 pm9 cd9 ct9 : Value}
    (n0 : PySem.W.nsIn K mainGlobals "_law_bag" = some (some (.ref a0))) (l0 : K.lookup a0 = some ⟨oc0, od0, .func (PySem.W.fnOf "_law_bag" "_law_bag" (defArgs s__law_bag) (defBody s__law_bag) (defScope s__law_bag) .none kV0 dc0 pm0 an0 cd0 ct0), sl0⟩) (c0 : PySem.W.codeIn K cd0 "_law_bag" = true) (k0 : PySem.W.keepIn K (.ref a0) = true)
    (n1 : PySem.W.nsIn K mainGlobals "_law_take" = some (some (.ref a1))) (l1 : K.lookup a1 = some ⟨oc1, od1, .func (PySem.W.fnOf "_law_take" "_law_take" (defArgs s__law_take) (defBody s__law_take) (defScope s__law_take) .none kV1 dc1 pm1 an1 cd1 ct1), sl1⟩) (c1 : PySem.W.codeIn K cd1 "_law_take" = true) (k1 : PySem.W.keepIn K (.ref a1) = true)
    (n2 : PySem.W.nsIn K mainGlobals "_law_fields" = some (some (.ref a2))) (l2 : K.lookup a2 = some ⟨oc2, od2, .func (PySem.W.fnOf "_law_fields" "_law_fields" (defArgs s__law_fields) (defBody s__law_fields) (defScope s__law_fields) .none kV2 dc2 pm2 an2 cd2 ct2), sl2⟩) (c2 : PySem.W.codeIn K cd2 "_law_fields" = true) (k2 : PySem.W.keepIn K (.ref a2) = true)
    (n3 : PySem.W.nsIn K mainGlobals "_law_sorts" = some (some (.ref a3))) (l3 : K.lookup a3 = some ⟨oc3, od3, .func (PySem.W.fnOf "_law_sorts" "_law_sorts" (defArgs s__law_sorts) (defBody s__law_sorts) (defScope s__law_sorts) .none kV3 dc3 pm3 an3 cd3 ct3), sl3⟩) (c3 : PySem.W.codeIn K cd3 "_law_sorts" = true) (k3 : PySem.W.keepIn K (.ref a3) = true)
    (n4 : PySem.W.nsIn K mainGlobals "_law_field" = some (some (.ref a4))) (l4 : K.lookup a4 = some ⟨oc4, od4, .func (PySem.W.fnOf "_law_field" "_law_field" (defArgs s__law_field) (defBody s__law_field) (defScope s__law_field) .none kV4 dc4 pm4 an4 cd4 ct4), sl4⟩) (c4 : PySem.W.codeIn K cd4 "_law_field" = true) (k4 : PySem.W.keepIn K (.ref a4) = true)
    (n5 : PySem.W.nsIn K mainGlobals "_law_raised" = some (some (.ref a5))) (l5 : K.lookup a5 = some ⟨oc5, od5, .func (PySem.W.fnOf "_law_raised" "_law_raised" (defArgs s__law_raised) (defBody s__law_raised) (defScope s__law_raised) .none kV5 dc5 pm5 an5 cd5 ct5), sl5⟩) (c5 : PySem.W.codeIn K cd5 "_law_raised" = true) (k5 : PySem.W.keepIn K (.ref a5) = true)
    (n6 : PySem.W.nsIn K mainGlobals "_law_raised_too" = some (some (.ref a6))) (l6 : K.lookup a6 = some ⟨oc6, od6, .func (PySem.W.fnOf "_law_raised_too" "_law_raised_too" (defArgs s__law_raised_too) (defBody s__law_raised_too) (defScope s__law_raised_too) .none kV6 dc6 pm6 an6 cd6 ct6), sl6⟩) (c6 : PySem.W.codeIn K cd6 "_law_raised_too" = true) (k6 : PySem.W.keepIn K (.ref a6) = true)
    (n7 : PySem.W.nsIn K mainGlobals "_law_thing" = some (some (.ref a7))) (l7 : K.lookup a7 = some ⟨oc7, od7, .func (PySem.W.fnOf "_law_thing" "_law_thing" (defArgs s__law_thing) (defBody s__law_thing) (defScope s__law_thing) .none kV7 dc7 pm7 an7 cd7 ct7), sl7⟩) (c7 : PySem.W.codeIn K cd7 "_law_thing" = true) (k7 : PySem.W.keepIn K (.ref a7) = true)
    (n8 : PySem.W.nsIn K mainGlobals "_law_held" = some (some (.ref a8))) (l8 : K.lookup a8 = some ⟨oc8, od8, .func (PySem.W.fnOf "_law_held" "_law_held" (defArgs s__law_held) (defBody s__law_held) (defScope s__law_held) .none kV8 dc8 pm8 an8 cd8 ct8), sl8⟩) (c8 : PySem.W.codeIn K cd8 "_law_held" = true) (k8 : PySem.W.keepIn K (.ref a8) = true)
    (n9 : PySem.W.nsIn K mainGlobals "law" = some (some (.ref a9))) (l9 : K.lookup a9 = some ⟨oc9, od9, .func (PySem.W.fnOf "law" "law" (defArgs s_law) (defBody s_law) (defScope s_law) .none kV9 dc9 pm9 an9 cd9 ct9), sl9⟩) (c9 : PySem.W.codeIn K cd9 "law" = true) (k9 : PySem.W.keepIn K (.ref a9) = true)
    (z_ValueError : PySem.W.nsIn K mainGlobals "ValueError" = some none)
    (z_abs : PySem.W.nsIn K mainGlobals "abs" = some none)
    (z_int : PySem.W.nsIn K mainGlobals "int" = some none)
    (z_isinstance : PySem.W.nsIn K mainGlobals "isinstance" = some none)
    (z_len : PySem.W.nsIn K mainGlobals "len" = some none)
    (z_list : PySem.W.nsIn K mainGlobals "list" = some none)
    (z_range : PySem.W.nsIn K mainGlobals "range" = some none)
    (z_repr : PySem.W.nsIn K mainGlobals "repr" = some none)
    {BM B0 I0 B1 I1 B2 I2 B3 I3 B4 I4 B5 I5 B6 I6 B7 I7 B8 I8 B9 I9 B10 I10 B11 I11 B12 I12 B13 I13 B14 I14 B15 I15 B16 I16 B17 I17 : Addr}
    {nm0 q0 : Str} {N0 : Addr} {bs0 : List Value} {sn0 : List Str} {sub0 : List Value} {ab0 : Bool} {col0 : Option Bool} {dd0 : Option Addr} {ma0 mb0 mc0 md0 me0 : Option Value}
    {nm1 q1 : Str} {N1 : Addr} {bs1 : List Value} {sn1 : List Str} {sub1 : List Value} {ab1 : Bool} {col1 : Option Bool} {dd1 : Option Addr} {ma1 mb1 mc1 md1 me1 : Option Value}
    {nm2 q2 : Str} {N2 : Addr} {bs2 : List Value} {sn2 : List Str} {sub2 : List Value} {ab2 : Bool} {col2 : Option Bool} {dd2 : Option Addr} {ma2 mb2 mc2 md2 me2 : Option Value}
    {nm3 q3 : Str} {N3 : Addr} {bs3 : List Value} {sn3 : List Str} {sub3 : List Value} {ab3 : Bool} {col3 : Option Bool} {dd3 : Option Addr} {ma3 mb3 mc3 md3 me3 : Option Value}
    {nm4 q4 : Str} {N4 : Addr} {bs4 : List Value} {sn4 : List Str} {sub4 : List Value} {ab4 : Bool} {col4 : Option Bool} {dd4 : Option Addr} {ma4 mb4 mc4 md4 me4 : Option Value}
    {nm5 q5 : Str} {N5 : Addr} {bs5 : List Value} {sn5 : List Str} {sub5 : List Value} {ab5 : Bool} {col5 : Option Bool} {dd5 : Option Addr} {ma5 mb5 mc5 md5 me5 : Option Value}
    {nm6 q6 : Str} {N6 : Addr} {bs6 : List Value} {sn6 : List Str} {sub6 : List Value} {ab6 : Bool} {col6 : Option Bool} {dd6 : Option Addr} {ma6 mb6 mc6 md6 me6 : Option Value}
    {nm7 q7 : Str} {N7 : Addr} {bs7 : List Value} {sn7 : List Str} {sub7 : List Value} {ab7 : Bool} {col7 : Option Bool} {dd7 : Option Addr} {ma7 mb7 mc7 md7 me7 : Option Value}
    {nm8 q8 : Str} {N8 : Addr} {bs8 : List Value} {sn8 : List Str} {sub8 : List Value} {ab8 : Bool} {col8 : Option Bool} {dd8 : Option Addr} {ma8 mb8 mc8 md8 me8 : Option Value}
    {nm9 q9 : Str} {N9 : Addr} {bs9 : List Value} {sn9 : List Str} {sub9 : List Value} {ab9 : Bool} {col9 : Option Bool} {dd9 : Option Addr} {ma9 mb9 mc9 md9 me9 : Option Value}
    {nm10 q10 : Str} {N10 : Addr} {bs10 : List Value} {sn10 : List Str} {sub10 : List Value} {ab10 : Bool} {col10 : Option Bool} {dd10 : Option Addr} {ma10 mb10 mc10 md10 me10 : Option Value}
    {nm11 q11 : Str} {N11 : Addr} {bs11 : List Value} {sn11 : List Str} {sub11 : List Value} {ab11 : Bool} {col11 : Option Bool} {dd11 : Option Addr} {ma11 mb11 mc11 md11 me11 : Option Value}
    {nm12 q12 : Str} {N12 : Addr} {bs12 : List Value} {sn12 : List Str} {sub12 : List Value} {ab12 : Bool} {col12 : Option Bool} {dd12 : Option Addr} {ma12 mb12 mc12 md12 me12 : Option Value}
    {nm13 q13 : Str} {N13 : Addr} {bs13 : List Value} {sn13 : List Str} {sub13 : List Value} {ab13 : Bool} {col13 : Option Bool} {dd13 : Option Addr} {ma13 mb13 mc13 md13 me13 : Option Value}
    {nm14 q14 : Str} {N14 : Addr} {bs14 : List Value} {sn14 : List Str} {sub14 : List Value} {ab14 : Bool} {col14 : Option Bool} {dd14 : Option Addr} {ma14 mb14 mc14 md14 me14 : Option Value}
    {nm15 q15 : Str} {N15 : Addr} {bs15 : List Value} {sn15 : List Str} {sub15 : List Value} {ab15 : Bool} {col15 : Option Bool} {dd15 : Option Addr} {ma15 mb15 mc15 md15 me15 : Option Value}
    {nm16 q16 : Str} {N16 : Addr} {bs16 : List Value} {sn16 : List Str} {sub16 : List Value} {ab16 : Bool} {col16 : Option Bool} {dd16 : Option Addr} {ma16 mb16 mc16 md16 me16 : Option Value}
    {nm17 q17 : Str} {N17 : Addr} {bs17 : List Value} {sn17 : List Str} {sub17 : List Value} {ab17 : Bool} {col17 : Option Bool} {dd17 : Option Addr} {ma17 mb17 mc17 md17 me17 : Option Value}
    {nmM qM : Str} {NM : Addr} {bsM : List Value} {snM : List Str} {subM : List Value} {abM : Bool} {colM : Option Bool} {ddM : Option Addr} {maM mbM mcM mdM meM : Option Value}
    {ic0 ip0 iq0 id0 it0 : Value} {io0 ia0 : Option Addr} {is0 : Array (Option Value)} {pa0 pb0 qa0 qb0 qc0 qd0 : Pos}
    {ic1 ip1 iq1 id1 it1 : Value} {io1 ia1 : Option Addr} {is1 : Array (Option Value)} {pa1 pb1 qa1 qb1 qc1 qd1 : Pos}
    {ic2 ip2 iq2 id2 it2 : Value} {io2 ia2 : Option Addr} {is2 : Array (Option Value)} {pa2 pb2 qa2 qb2 qc2 qd2 : Pos}
    {ic3 ip3 iq3 id3 it3 : Value} {io3 ia3 : Option Addr} {is3 : Array (Option Value)} {pa3 pb3 qa3 qb3 qc3 qd3 : Pos}
    {ic4 ip4 iq4 id4 it4 : Value} {io4 ia4 : Option Addr} {is4 : Array (Option Value)} {pa4 pb4 qa4 qb4 qc4 qd4 : Pos}
    {ic5 ip5 iq5 id5 it5 : Value} {io5 ia5 : Option Addr} {is5 : Array (Option Value)} {pa5 qa5 : Pos}
    {ic6 ip6 iq6 id6 it6 : Value} {io6 ia6 : Option Addr} {is6 : Array (Option Value)} {pa6 pb6 qa6 qb6 qc6 qd6 : Pos}
    {ic7 ip7 iq7 id7 it7 : Value} {io7 ia7 : Option Addr} {is7 : Array (Option Value)} {pa7 pb7 qa7 qb7 qc7 qd7 : Pos}
    {ic8 ip8 iq8 id8 it8 : Value} {io8 ia8 : Option Addr} {is8 : Array (Option Value)} {pa8 pb8 qa8 qb8 qc8 qd8 : Pos}
    {ic9 ip9 iq9 id9 it9 : Value} {io9 ia9 : Option Addr} {is9 : Array (Option Value)} {pa9 pb9 qa9 qb9 qc9 qd9 : Pos}
    {ic10 ip10 iq10 id10 it10 : Value} {io10 ia10 : Option Addr} {is10 : Array (Option Value)} {pa10 qa10 : Pos}
    {ic11 ip11 iq11 id11 it11 : Value} {io11 ia11 : Option Addr} {is11 : Array (Option Value)} {pa11 qa11 : Pos}
    {ic12 ip12 iq12 id12 it12 : Value} {io12 ia12 : Option Addr} {is12 : Array (Option Value)} {pa12 pb12 qa12 qb12 qc12 qd12 : Pos}
    {ic13 ip13 iq13 id13 it13 : Value} {io13 ia13 : Option Addr} {is13 : Array (Option Value)} {pa13 pb13 qa13 qb13 qc13 qd13 : Pos}
    {ic14 ip14 iq14 id14 it14 : Value} {io14 ia14 : Option Addr} {is14 : Array (Option Value)} {pa14 qa14 : Pos}
    {ic15 ip15 iq15 id15 it15 : Value} {io15 ia15 : Option Addr} {is15 : Array (Option Value)} {pa15 qa15 : Pos}
    {ic16 ip16 iq16 id16 it16 : Value} {io16 ia16 : Option Addr} {is16 : Array (Option Value)} {pa16 pb16 qa16 qb16 qc16 qd16 : Pos}
    {ic17 ip17 iq17 id17 it17 : Value} {io17 ia17 : Option Addr} {is17 : Array (Option Value)} {pa17 qa17 : Pos}
    (cnM : PySem.W.nsIn K mainGlobals "MoveError" = some (some (.ref BM)))
    (cLM : K.lookup BM = some (excClassObj nmM qM BM NM bsM veTop true snM subM abM colM ddM maM mbM mcM mdM meM "ValueError.__new__"))
    (ghn : PySem.W.specialIn K (.builtin "object.__class__") "__get__" = some (some (.builtin "getset_descriptor.__get__")))
    (ght : PySem.W.takesIn K (.builtin "object.__class__") = some true)
    (cn0 : PySem.W.nsIn K mainGlobals "Wrong" = some (some (.ref B0)))
    (cL0 : K.lookup B0 = some (excClassObj nm0 q0 B0 N0 bs0 (.ref BM :: veTop) true sn0 sub0 ab0 col0 dd0 ma0 mb0 mc0 md0 me0 "ValueError.__new__"))
    (ga0 : PySem.W.findIn K (.ref B0) "__getattribute__" = some (some (.builtin "BaseException.__getattribute__")))
    (gg0 : PySem.W.findIn K (.ref B0) "__getattr__" = some none)
    (ha0 : PySem.W.findIn K (.ref B0) "__class__" = some (some (.builtin "object.__class__")))
    (sa0 : PySem.W.findIn K (.ref B0) "__setattr__" = some (some (.builtin "object.__setattr__")))
    (nb0 : PySem.W.findIn K (.ref B0) "place" = some none)
    (iI0 : PySem.W.findIn K (.ref B0) "__init__" = some (some (.ref I0)))
    (tI0 : PySem.W.typeIn K (.ref I0) = some (.type "function"))
    (lI0 : K.lookup I0 = some ⟨ic0, io0, .func (PySem.W.fnOf "__init__" "Wrong.__init__" (PySem.Erplace.iA pa0 pb0) (PySem.Erplace.iB qa0 qb0 qc0 qd0) PySem.Erplace.iS .none .none ip0 iq0 ia0 id0 it0), is0⟩)
    (cI0 : PySem.W.codeIn K id0 "Wrong.__init__" = true)
    (kC0 : PySem.W.keepIn K (.ref B0) = true)
    (cn1 : PySem.W.nsIn K mainGlobals "BadAct" = some (some (.ref B1)))
    (cL1 : K.lookup B1 = some (excClassObj nm1 q1 B1 N1 bs1 (.ref BM :: veTop) true sn1 sub1 ab1 col1 dd1 ma1 mb1 mc1 md1 me1 "ValueError.__new__"))
    (ga1 : PySem.W.findIn K (.ref B1) "__getattribute__" = some (some (.builtin "BaseException.__getattribute__")))
    (gg1 : PySem.W.findIn K (.ref B1) "__getattr__" = some none)
    (ha1 : PySem.W.findIn K (.ref B1) "__class__" = some (some (.builtin "object.__class__")))
    (sa1 : PySem.W.findIn K (.ref B1) "__setattr__" = some (some (.builtin "object.__setattr__")))
    (nb1 : PySem.W.findIn K (.ref B1) "name" = some none)
    (iI1 : PySem.W.findIn K (.ref B1) "__init__" = some (some (.ref I1)))
    (tI1 : PySem.W.typeIn K (.ref I1) = some (.type "function"))
    (lI1 : K.lookup I1 = some ⟨ic1, io1, .func (PySem.W.fnOf "__init__" "BadAct.__init__" (PySem.Ername.iA pa1 pb1) (PySem.Ername.iB qa1 qb1 qc1 qd1) PySem.Ername.iS .none .none ip1 iq1 ia1 id1 it1), is1⟩)
    (cI1 : PySem.W.codeIn K id1 "BadAct.__init__" = true)
    (kC1 : PySem.W.keepIn K (.ref B1) = true)
    (cn2 : PySem.W.nsIn K mainGlobals "BadPlace" = some (some (.ref B2)))
    (cL2 : K.lookup B2 = some (excClassObj nm2 q2 B2 N2 bs2 (.ref BM :: veTop) true sn2 sub2 ab2 col2 dd2 ma2 mb2 mc2 md2 me2 "ValueError.__new__"))
    (ga2 : PySem.W.findIn K (.ref B2) "__getattribute__" = some (some (.builtin "BaseException.__getattribute__")))
    (gg2 : PySem.W.findIn K (.ref B2) "__getattr__" = some none)
    (ha2 : PySem.W.findIn K (.ref B2) "__class__" = some (some (.builtin "object.__class__")))
    (sa2 : PySem.W.findIn K (.ref B2) "__setattr__" = some (some (.builtin "object.__setattr__")))
    (nb2 : PySem.W.findIn K (.ref B2) "at" = some none)
    (iI2 : PySem.W.findIn K (.ref B2) "__init__" = some (some (.ref I2)))
    (tI2 : PySem.W.typeIn K (.ref I2) = some (.type "function"))
    (lI2 : K.lookup I2 = some ⟨ic2, io2, .func (PySem.W.fnOf "__init__" "BadPlace.__init__" (PySem.Erat.iA pa2 pb2) (PySem.Erat.iB qa2 qb2 qc2 qd2) PySem.Erat.iS .none .none ip2 iq2 ia2 id2 it2), is2⟩)
    (cI2 : PySem.W.codeIn K id2 "BadPlace.__init__" = true)
    (kC2 : PySem.W.keepIn K (.ref B2) = true)
    (cn3 : PySem.W.nsIn K mainGlobals "BadMove" = some (some (.ref B3)))
    (cL3 : K.lookup B3 = some (excClassObj nm3 q3 B3 N3 bs3 (.ref BM :: veTop) true sn3 sub3 ab3 col3 dd3 ma3 mb3 mc3 md3 me3 "ValueError.__new__"))
    (ga3 : PySem.W.findIn K (.ref B3) "__getattribute__" = some (some (.builtin "BaseException.__getattribute__")))
    (gg3 : PySem.W.findIn K (.ref B3) "__getattr__" = some none)
    (ha3 : PySem.W.findIn K (.ref B3) "__class__" = some (some (.builtin "object.__class__")))
    (sa3 : PySem.W.findIn K (.ref B3) "__setattr__" = some (some (.builtin "object.__setattr__")))
    (nb3 : PySem.W.findIn K (.ref B3) "at" = some none)
    (iI3 : PySem.W.findIn K (.ref B3) "__init__" = some (some (.ref I3)))
    (tI3 : PySem.W.typeIn K (.ref I3) = some (.type "function"))
    (lI3 : K.lookup I3 = some ⟨ic3, io3, .func (PySem.W.fnOf "__init__" "BadMove.__init__" (PySem.Erat.iA pa3 pb3) (PySem.Erat.iB qa3 qb3 qc3 qd3) PySem.Erat.iS .none .none ip3 iq3 ia3 id3 it3), is3⟩)
    (cI3 : PySem.W.codeIn K id3 "BadMove.__init__" = true)
    (kC3 : PySem.W.keepIn K (.ref B3) = true)
    (cn4 : PySem.W.nsIn K mainGlobals "BadFunction" = some (some (.ref B4)))
    (cL4 : K.lookup B4 = some (excClassObj nm4 q4 B4 N4 bs4 (.ref BM :: veTop) true sn4 sub4 ab4 col4 dd4 ma4 mb4 mc4 md4 me4 "ValueError.__new__"))
    (ga4 : PySem.W.findIn K (.ref B4) "__getattribute__" = some (some (.builtin "BaseException.__getattribute__")))
    (gg4 : PySem.W.findIn K (.ref B4) "__getattr__" = some none)
    (ha4 : PySem.W.findIn K (.ref B4) "__class__" = some (some (.builtin "object.__class__")))
    (sa4 : PySem.W.findIn K (.ref B4) "__setattr__" = some (some (.builtin "object.__setattr__")))
    (nb4 : PySem.W.findIn K (.ref B4) "name" = some none)
    (iI4 : PySem.W.findIn K (.ref B4) "__init__" = some (some (.ref I4)))
    (tI4 : PySem.W.typeIn K (.ref I4) = some (.type "function"))
    (lI4 : K.lookup I4 = some ⟨ic4, io4, .func (PySem.W.fnOf "__init__" "BadFunction.__init__" (PySem.Ername.iA pa4 pb4) (PySem.Ername.iB qa4 qb4 qc4 qd4) PySem.Ername.iS .none .none ip4 iq4 ia4 id4 it4), is4⟩)
    (cI4 : PySem.W.codeIn K id4 "BadFunction.__init__" = true)
    (kC4 : PySem.W.keepIn K (.ref B4) = true)
    (cn5 : PySem.W.nsIn K mainGlobals "Unlike" = some (some (.ref B5)))
    (cL5 : K.lookup B5 = some (excClassObj nm5 q5 B5 N5 bs5 (.ref BM :: veTop) true sn5 sub5 ab5 col5 dd5 ma5 mb5 mc5 md5 me5 "ValueError.__new__"))
    (ga5 : PySem.W.findIn K (.ref B5) "__getattribute__" = some (some (.builtin "BaseException.__getattribute__")))
    (gg5 : PySem.W.findIn K (.ref B5) "__getattr__" = some none)
    (ha5 : PySem.W.findIn K (.ref B5) "__class__" = some (some (.builtin "object.__class__")))
    (iI5 : PySem.W.findIn K (.ref B5) "__init__" = some (some (.ref I5)))
    (tI5 : PySem.W.typeIn K (.ref I5) = some (.type "function"))
    (lI5 : K.lookup I5 = some ⟨ic5, io5, .func (PySem.W.fnOf "__init__" "Unlike.__init__" (PySem.Er0.iA pa5) (PySem.Er0.iB qa5) PySem.Er0.iS .none .none ip5 iq5 ia5 id5 it5), is5⟩)
    (cI5 : PySem.W.codeIn K id5 "Unlike.__init__" = true)
    (kC5 : PySem.W.keepIn K (.ref B5) = true)
    (cn6 : PySem.W.nsIn K mainGlobals "TooMany" = some (some (.ref B6)))
    (cL6 : K.lookup B6 = some (excClassObj nm6 q6 B6 N6 bs6 (.ref BM :: veTop) true sn6 sub6 ab6 col6 dd6 ma6 mb6 mc6 md6 me6 "ValueError.__new__"))
    (ga6 : PySem.W.findIn K (.ref B6) "__getattribute__" = some (some (.builtin "BaseException.__getattribute__")))
    (gg6 : PySem.W.findIn K (.ref B6) "__getattr__" = some none)
    (ha6 : PySem.W.findIn K (.ref B6) "__class__" = some (some (.builtin "object.__class__")))
    (sa6 : PySem.W.findIn K (.ref B6) "__setattr__" = some (some (.builtin "object.__setattr__")))
    (nb6 : PySem.W.findIn K (.ref B6) "limit" = some none)
    (iI6 : PySem.W.findIn K (.ref B6) "__init__" = some (some (.ref I6)))
    (tI6 : PySem.W.typeIn K (.ref I6) = some (.type "function"))
    (lI6 : K.lookup I6 = some ⟨ic6, io6, .func (PySem.W.fnOf "__init__" "TooMany.__init__" (PySem.Erlimit.iA pa6 pb6) (PySem.Erlimit.iB qa6 qb6 qc6 qd6) PySem.Erlimit.iS .none .none ip6 iq6 ia6 id6 it6), is6⟩)
    (cI6 : PySem.W.codeIn K id6 "TooMany.__init__" = true)
    (kC6 : PySem.W.keepIn K (.ref B6) = true)
    (cn7 : PySem.W.nsIn K mainGlobals "NoPlace" = some (some (.ref B7)))
    (cL7 : K.lookup B7 = some (excClassObj nm7 q7 B7 N7 bs7 (.ref BM :: veTop) true sn7 sub7 ab7 col7 dd7 ma7 mb7 mc7 md7 me7 "ValueError.__new__"))
    (ga7 : PySem.W.findIn K (.ref B7) "__getattribute__" = some (some (.builtin "BaseException.__getattribute__")))
    (gg7 : PySem.W.findIn K (.ref B7) "__getattr__" = some none)
    (ha7 : PySem.W.findIn K (.ref B7) "__class__" = some (some (.builtin "object.__class__")))
    (sa7 : PySem.W.findIn K (.ref B7) "__setattr__" = some (some (.builtin "object.__setattr__")))
    (nb7 : PySem.W.findIn K (.ref B7) "place" = some none)
    (iI7 : PySem.W.findIn K (.ref B7) "__init__" = some (some (.ref I7)))
    (tI7 : PySem.W.typeIn K (.ref I7) = some (.type "function"))
    (lI7 : K.lookup I7 = some ⟨ic7, io7, .func (PySem.W.fnOf "__init__" "NoPlace.__init__" (PySem.Erplace.iA pa7 pb7) (PySem.Erplace.iB qa7 qb7 qc7 qd7) PySem.Erplace.iS .none .none ip7 iq7 ia7 id7 it7), is7⟩)
    (cI7 : PySem.W.codeIn K id7 "NoPlace.__init__" = true)
    (kC7 : PySem.W.keepIn K (.ref B7) = true)
    (cn8 : PySem.W.nsIn K mainGlobals "NoVersion" = some (some (.ref B8)))
    (cL8 : K.lookup B8 = some (excClassObj nm8 q8 B8 N8 bs8 (.ref BM :: veTop) true sn8 sub8 ab8 col8 dd8 ma8 mb8 mc8 md8 me8 "ValueError.__new__"))
    (ga8 : PySem.W.findIn K (.ref B8) "__getattribute__" = some (some (.builtin "BaseException.__getattribute__")))
    (gg8 : PySem.W.findIn K (.ref B8) "__getattr__" = some none)
    (ha8 : PySem.W.findIn K (.ref B8) "__class__" = some (some (.builtin "object.__class__")))
    (sa8 : PySem.W.findIn K (.ref B8) "__setattr__" = some (some (.builtin "object.__setattr__")))
    (nb8 : PySem.W.findIn K (.ref B8) "number" = some none)
    (iI8 : PySem.W.findIn K (.ref B8) "__init__" = some (some (.ref I8)))
    (tI8 : PySem.W.typeIn K (.ref I8) = some (.type "function"))
    (lI8 : K.lookup I8 = some ⟨ic8, io8, .func (PySem.W.fnOf "__init__" "NoVersion.__init__" (PySem.Ernumber.iA pa8 pb8) (PySem.Ernumber.iB qa8 qb8 qc8 qd8) PySem.Ernumber.iS .none .none ip8 iq8 ia8 id8 it8), is8⟩)
    (cI8 : PySem.W.codeIn K id8 "NoVersion.__init__" = true)
    (kC8 : PySem.W.keepIn K (.ref B8) = true)
    (cn9 : PySem.W.nsIn K mainGlobals "NoFunction" = some (some (.ref B9)))
    (cL9 : K.lookup B9 = some (excClassObj nm9 q9 B9 N9 bs9 (.ref BM :: veTop) true sn9 sub9 ab9 col9 dd9 ma9 mb9 mc9 md9 me9 "ValueError.__new__"))
    (ga9 : PySem.W.findIn K (.ref B9) "__getattribute__" = some (some (.builtin "BaseException.__getattribute__")))
    (gg9 : PySem.W.findIn K (.ref B9) "__getattr__" = some none)
    (ha9 : PySem.W.findIn K (.ref B9) "__class__" = some (some (.builtin "object.__class__")))
    (sa9 : PySem.W.findIn K (.ref B9) "__setattr__" = some (some (.builtin "object.__setattr__")))
    (nb9 : PySem.W.findIn K (.ref B9) "name" = some none)
    (iI9 : PySem.W.findIn K (.ref B9) "__init__" = some (some (.ref I9)))
    (tI9 : PySem.W.typeIn K (.ref I9) = some (.type "function"))
    (lI9 : K.lookup I9 = some ⟨ic9, io9, .func (PySem.W.fnOf "__init__" "NoFunction.__init__" (PySem.Ername.iA pa9 pb9) (PySem.Ername.iB qa9 qb9 qc9 qd9) PySem.Ername.iS .none .none ip9 iq9 ia9 id9 it9), is9⟩)
    (cI9 : PySem.W.codeIn K id9 "NoFunction.__init__" = true)
    (kC9 : PySem.W.keepIn K (.ref B9) = true)
    (cn10 : PySem.W.nsIn K mainGlobals "NoSolution" = some (some (.ref B10)))
    (cL10 : K.lookup B10 = some (excClassObj nm10 q10 B10 N10 bs10 (.ref BM :: veTop) true sn10 sub10 ab10 col10 dd10 ma10 mb10 mc10 md10 me10 "ValueError.__new__"))
    (ga10 : PySem.W.findIn K (.ref B10) "__getattribute__" = some (some (.builtin "BaseException.__getattribute__")))
    (gg10 : PySem.W.findIn K (.ref B10) "__getattr__" = some none)
    (ha10 : PySem.W.findIn K (.ref B10) "__class__" = some (some (.builtin "object.__class__")))
    (iI10 : PySem.W.findIn K (.ref B10) "__init__" = some (some (.ref I10)))
    (tI10 : PySem.W.typeIn K (.ref I10) = some (.type "function"))
    (lI10 : K.lookup I10 = some ⟨ic10, io10, .func (PySem.W.fnOf "__init__" "NoSolution.__init__" (PySem.Er0.iA pa10) (PySem.Er0.iB qa10) PySem.Er0.iS .none .none ip10 iq10 ia10 id10 it10), is10⟩)
    (cI10 : PySem.W.codeIn K id10 "NoSolution.__init__" = true)
    (kC10 : PySem.W.keepIn K (.ref B10) = true)
    (cn11 : PySem.W.nsIn K mainGlobals "Unfit" = some (some (.ref B11)))
    (cL11 : K.lookup B11 = some (excClassObj nm11 q11 B11 N11 bs11 (.ref BM :: veTop) true sn11 sub11 ab11 col11 dd11 ma11 mb11 mc11 md11 me11 "ValueError.__new__"))
    (ga11 : PySem.W.findIn K (.ref B11) "__getattribute__" = some (some (.builtin "BaseException.__getattribute__")))
    (gg11 : PySem.W.findIn K (.ref B11) "__getattr__" = some none)
    (ha11 : PySem.W.findIn K (.ref B11) "__class__" = some (some (.builtin "object.__class__")))
    (iI11 : PySem.W.findIn K (.ref B11) "__init__" = some (some (.ref I11)))
    (tI11 : PySem.W.typeIn K (.ref I11) = some (.type "function"))
    (lI11 : K.lookup I11 = some ⟨ic11, io11, .func (PySem.W.fnOf "__init__" "Unfit.__init__" (PySem.Er0.iA pa11) (PySem.Er0.iB qa11) PySem.Er0.iS .none .none ip11 iq11 ia11 id11 it11), is11⟩)
    (cI11 : PySem.W.codeIn K id11 "Unfit.__init__" = true)
    (kC11 : PySem.W.keepIn K (.ref B11) = true)
    (cn12 : PySem.W.nsIn K mainGlobals "Broken" = some (some (.ref B12)))
    (cL12 : K.lookup B12 = some (excClassObj nm12 q12 B12 N12 bs12 (.ref BM :: veTop) true sn12 sub12 ab12 col12 dd12 ma12 mb12 mc12 md12 me12 "ValueError.__new__"))
    (ga12 : PySem.W.findIn K (.ref B12) "__getattribute__" = some (some (.builtin "BaseException.__getattribute__")))
    (gg12 : PySem.W.findIn K (.ref B12) "__getattr__" = some none)
    (ha12 : PySem.W.findIn K (.ref B12) "__class__" = some (some (.builtin "object.__class__")))
    (sa12 : PySem.W.findIn K (.ref B12) "__setattr__" = some (some (.builtin "object.__setattr__")))
    (nb12 : PySem.W.findIn K (.ref B12) "at" = some none)
    (iI12 : PySem.W.findIn K (.ref B12) "__init__" = some (some (.ref I12)))
    (tI12 : PySem.W.typeIn K (.ref I12) = some (.type "function"))
    (lI12 : K.lookup I12 = some ⟨ic12, io12, .func (PySem.W.fnOf "__init__" "Broken.__init__" (PySem.Erat.iA pa12 pb12) (PySem.Erat.iB qa12 qb12 qc12 qd12) PySem.Erat.iS .none .none ip12 iq12 ia12 id12 it12), is12⟩)
    (cI12 : PySem.W.codeIn K id12 "Broken.__init__" = true)
    (kC12 : PySem.W.keepIn K (.ref B12) = true)
    (cn13 : PySem.W.nsIn K mainGlobals "Full" = some (some (.ref B13)))
    (cL13 : K.lookup B13 = some (excClassObj nm13 q13 B13 N13 bs13 (.ref BM :: veTop) true sn13 sub13 ab13 col13 dd13 ma13 mb13 mc13 md13 me13 "ValueError.__new__"))
    (ga13 : PySem.W.findIn K (.ref B13) "__getattribute__" = some (some (.builtin "BaseException.__getattribute__")))
    (gg13 : PySem.W.findIn K (.ref B13) "__getattr__" = some none)
    (ha13 : PySem.W.findIn K (.ref B13) "__class__" = some (some (.builtin "object.__class__")))
    (sa13 : PySem.W.findIn K (.ref B13) "__setattr__" = some (some (.builtin "object.__setattr__")))
    (nb13 : PySem.W.findIn K (.ref B13) "limit" = some none)
    (iI13 : PySem.W.findIn K (.ref B13) "__init__" = some (some (.ref I13)))
    (tI13 : PySem.W.typeIn K (.ref I13) = some (.type "function"))
    (lI13 : K.lookup I13 = some ⟨ic13, io13, .func (PySem.W.fnOf "__init__" "Full.__init__" (PySem.Erlimit.iA pa13 pb13) (PySem.Erlimit.iB qa13 qb13 qc13 qd13) PySem.Erlimit.iS .none .none ip13 iq13 ia13 id13 it13), is13⟩)
    (cI13 : PySem.W.codeIn K id13 "Full.__init__" = true)
    (kC13 : PySem.W.keepIn K (.ref B13) = true)
    (cn14 : PySem.W.nsIn K mainGlobals "NoDeed" = some (some (.ref B14)))
    (cL14 : K.lookup B14 = some (excClassObj nm14 q14 B14 N14 bs14 (.ref BM :: veTop) true sn14 sub14 ab14 col14 dd14 ma14 mb14 mc14 md14 me14 "ValueError.__new__"))
    (ga14 : PySem.W.findIn K (.ref B14) "__getattribute__" = some (some (.builtin "BaseException.__getattribute__")))
    (gg14 : PySem.W.findIn K (.ref B14) "__getattr__" = some none)
    (ha14 : PySem.W.findIn K (.ref B14) "__class__" = some (some (.builtin "object.__class__")))
    (iI14 : PySem.W.findIn K (.ref B14) "__init__" = some (some (.ref I14)))
    (tI14 : PySem.W.typeIn K (.ref I14) = some (.type "function"))
    (lI14 : K.lookup I14 = some ⟨ic14, io14, .func (PySem.W.fnOf "__init__" "NoDeed.__init__" (PySem.Er0.iA pa14) (PySem.Er0.iB qa14) PySem.Er0.iS .none .none ip14 iq14 ia14 id14 it14), is14⟩)
    (cI14 : PySem.W.codeIn K id14 "NoDeed.__init__" = true)
    (kC14 : PySem.W.keepIn K (.ref B14) = true)
    (cn15 : PySem.W.nsIn K mainGlobals "Nothing" = some (some (.ref B15)))
    (cL15 : K.lookup B15 = some (excClassObj nm15 q15 B15 N15 bs15 (.ref BM :: veTop) true sn15 sub15 ab15 col15 dd15 ma15 mb15 mc15 md15 me15 "ValueError.__new__"))
    (ga15 : PySem.W.findIn K (.ref B15) "__getattribute__" = some (some (.builtin "BaseException.__getattribute__")))
    (gg15 : PySem.W.findIn K (.ref B15) "__getattr__" = some none)
    (ha15 : PySem.W.findIn K (.ref B15) "__class__" = some (some (.builtin "object.__class__")))
    (iI15 : PySem.W.findIn K (.ref B15) "__init__" = some (some (.ref I15)))
    (tI15 : PySem.W.typeIn K (.ref I15) = some (.type "function"))
    (lI15 : K.lookup I15 = some ⟨ic15, io15, .func (PySem.W.fnOf "__init__" "Nothing.__init__" (PySem.Er0.iA pa15) (PySem.Er0.iB qa15) PySem.Er0.iS .none .none ip15 iq15 ia15 id15 it15), is15⟩)
    (cI15 : PySem.W.codeIn K id15 "Nothing.__init__" = true)
    (kC15 : PySem.W.keepIn K (.ref B15) = true)
    (cn16 : PySem.W.nsIn K mainGlobals "NoEntry" = some (some (.ref B16)))
    (cL16 : K.lookup B16 = some (excClassObj nm16 q16 B16 N16 bs16 (.ref BM :: veTop) true sn16 sub16 ab16 col16 dd16 ma16 mb16 mc16 md16 me16 "ValueError.__new__"))
    (ga16 : PySem.W.findIn K (.ref B16) "__getattribute__" = some (some (.builtin "BaseException.__getattribute__")))
    (gg16 : PySem.W.findIn K (.ref B16) "__getattr__" = some none)
    (ha16 : PySem.W.findIn K (.ref B16) "__class__" = some (some (.builtin "object.__class__")))
    (sa16 : PySem.W.findIn K (.ref B16) "__setattr__" = some (some (.builtin "object.__setattr__")))
    (nb16 : PySem.W.findIn K (.ref B16) "many" = some none)
    (iI16 : PySem.W.findIn K (.ref B16) "__init__" = some (some (.ref I16)))
    (tI16 : PySem.W.typeIn K (.ref I16) = some (.type "function"))
    (lI16 : K.lookup I16 = some ⟨ic16, io16, .func (PySem.W.fnOf "__init__" "NoEntry.__init__" (PySem.Ermany.iA pa16 pb16) (PySem.Ermany.iB qa16 qb16 qc16 qd16) PySem.Ermany.iS .none .none ip16 iq16 ia16 id16 it16), is16⟩)
    (cI16 : PySem.W.codeIn K id16 "NoEntry.__init__" = true)
    (kC16 : PySem.W.keepIn K (.ref B16) = true)
    (cn17 : PySem.W.nsIn K mainGlobals "NoText" = some (some (.ref B17)))
    (cL17 : K.lookup B17 = some (excClassObj nm17 q17 B17 N17 bs17 (.ref BM :: veTop) true sn17 sub17 ab17 col17 dd17 ma17 mb17 mc17 md17 me17 "ValueError.__new__"))
    (ga17 : PySem.W.findIn K (.ref B17) "__getattribute__" = some (some (.builtin "BaseException.__getattribute__")))
    (gg17 : PySem.W.findIn K (.ref B17) "__getattr__" = some none)
    (ha17 : PySem.W.findIn K (.ref B17) "__class__" = some (some (.builtin "object.__class__")))
    (iI17 : PySem.W.findIn K (.ref B17) "__init__" = some (some (.ref I17)))
    (tI17 : PySem.W.typeIn K (.ref I17) = some (.type "function"))
    (lI17 : K.lookup I17 = some ⟨ic17, io17, .func (PySem.W.fnOf "__init__" "NoText.__init__" (PySem.Er0.iA pa17) (PySem.Er0.iB qa17) PySem.Er0.iS .none .none ip17 iq17 ia17 id17 it17), is17⟩)
    (cI17 : PySem.W.codeIn K id17 "NoText.__init__" = true)
    (kC17 : PySem.W.keepIn K (.ref B17) = true)
    (nd : (BM :: [B0, B1, B2, B3, B4, B5, B6, B7, B8, B9, B10, B11, B12, B13, B14, B15, B16, B17]).Nodup)
    : ∃ fd : FuncData, (∀ (s : Shared) (u : Value), BindsTo s fd ⟨[u], []⟩ [("_law_script", u)]) ∧ ∀ bs : Heap, K.In bs → bs.Ns mainGlobals mg → FnG P w K mg bs 64 fa fd ["_law_script"] (spLaw K) := by
  have e := hfa.symm.trans (PySem.W.mg_of X G n9)
  cases e
  have F0 := fun_mk (st := s__law_bag) l0 c0 k0
  have F1 := fun_mk (st := s__law_take) l1 c1 k1
  have F2 := fun_mk (st := s__law_fields) l2 c2 k2
  have F3 := fun_mk (st := s__law_sorts) l3 c3 k3
  have F4 := fun_mk (st := s__law_field) l4 c4 k4
  have F5 := fun_mk (st := s__law_raised) l5 c5 k5
  have F6 := fun_mk (st := s__law_raised_too) l6 c6 k6
  have F7 := fun_mk (st := s__law_thing) l7 c7 k7
  have F8 := fun_mk (st := s__law_held) l8 c8 k8
  have F9 := fun_mk (st := s_law) l9 c9 k9
  have TM : ClsT K BM := ⟨_, _, _, _, _, _, _, _, _, _, _, _, _, _, cLM⟩
  obtain ⟨nM0, nd2⟩ := List.nodup_cons.mp nd
  have nM : ∀ i, (h : i < 18) → ([B0, B1, B2, B3, B4, B5, B6, B7, B8, B9, B10, B11, B12, B13, B14, B15, B16, B17])[i] ≠ BM := fun i h y => nM0 (y ▸ List.getElem_mem _)
  have M0 : ClsM K BM B0 := ⟨_, _, _, _, _, _, _, _, _, _, _, _, _, _, cL0⟩
  have X0 : ExcC K B0 := excC_of M0 ga0 gg0 ha0 ghn ght
  have E0 : PySem.Erplace.ErTxt K mg "Wrong" "Wrong.__init__" B0 I0 := { gC := PySem.W.mg_of X G cn0, cls := ⟨_, _, _, _, _, _, _, _, _, _, _, _, _, _, _, cL0, refs_of _⟩, iC := iI0, tC := tI0, kC := kC0, exC := X0.hs, tyC := M0.ty, hdC := M0.hd, fn := ⟨_, _, _, _, _, _, _, _, _, _, _, _, _, _, lI0, cI0⟩, sa := sa0, ga := ga0, gg := gg0, noN := nb0 }
  have M1 : ClsM K BM B1 := ⟨_, _, _, _, _, _, _, _, _, _, _, _, _, _, cL1⟩
  have X1 : ExcC K B1 := excC_of M1 ga1 gg1 ha1 ghn ght
  have E1 : PySem.Ername.ErTxt K mg "BadAct" "BadAct.__init__" B1 I1 := { gC := PySem.W.mg_of X G cn1, cls := ⟨_, _, _, _, _, _, _, _, _, _, _, _, _, _, _, cL1, refs_of _⟩, iC := iI1, tC := tI1, kC := kC1, exC := X1.hs, tyC := M1.ty, hdC := M1.hd, fn := ⟨_, _, _, _, _, _, _, _, _, _, _, _, _, _, lI1, cI1⟩, sa := sa1, ga := ga1, gg := gg1, noN := nb1 }
  have M2 : ClsM K BM B2 := ⟨_, _, _, _, _, _, _, _, _, _, _, _, _, _, cL2⟩
  have X2 : ExcC K B2 := excC_of M2 ga2 gg2 ha2 ghn ght
  have E2 : PySem.Erat.ErTxt K mg "BadPlace" "BadPlace.__init__" B2 I2 := { gC := PySem.W.mg_of X G cn2, cls := ⟨_, _, _, _, _, _, _, _, _, _, _, _, _, _, _, cL2, refs_of _⟩, iC := iI2, tC := tI2, kC := kC2, exC := X2.hs, tyC := M2.ty, hdC := M2.hd, fn := ⟨_, _, _, _, _, _, _, _, _, _, _, _, _, _, lI2, cI2⟩, sa := sa2, ga := ga2, gg := gg2, noN := nb2 }
  have M3 : ClsM K BM B3 := ⟨_, _, _, _, _, _, _, _, _, _, _, _, _, _, cL3⟩
  have X3 : ExcC K B3 := excC_of M3 ga3 gg3 ha3 ghn ght
  have E3 : PySem.Erat.ErTxt K mg "BadMove" "BadMove.__init__" B3 I3 := { gC := PySem.W.mg_of X G cn3, cls := ⟨_, _, _, _, _, _, _, _, _, _, _, _, _, _, _, cL3, refs_of _⟩, iC := iI3, tC := tI3, kC := kC3, exC := X3.hs, tyC := M3.ty, hdC := M3.hd, fn := ⟨_, _, _, _, _, _, _, _, _, _, _, _, _, _, lI3, cI3⟩, sa := sa3, ga := ga3, gg := gg3, noN := nb3 }
  have M4 : ClsM K BM B4 := ⟨_, _, _, _, _, _, _, _, _, _, _, _, _, _, cL4⟩
  have X4 : ExcC K B4 := excC_of M4 ga4 gg4 ha4 ghn ght
  have E4 : PySem.Ername.ErTxt K mg "BadFunction" "BadFunction.__init__" B4 I4 := { gC := PySem.W.mg_of X G cn4, cls := ⟨_, _, _, _, _, _, _, _, _, _, _, _, _, _, _, cL4, refs_of _⟩, iC := iI4, tC := tI4, kC := kC4, exC := X4.hs, tyC := M4.ty, hdC := M4.hd, fn := ⟨_, _, _, _, _, _, _, _, _, _, _, _, _, _, lI4, cI4⟩, sa := sa4, ga := ga4, gg := gg4, noN := nb4 }
  have M5 : ClsM K BM B5 := ⟨_, _, _, _, _, _, _, _, _, _, _, _, _, _, cL5⟩
  have X5 : ExcC K B5 := excC_of M5 ga5 gg5 ha5 ghn ght
  have E5 : PySem.Er0.ErTxt K mg "Unlike" "Unlike.__init__" B5 I5 := { gC := PySem.W.mg_of X G cn5, cls := ⟨_, _, _, _, _, _, _, _, _, _, _, _, _, _, _, cL5, refs_of _⟩, iC := iI5, tC := tI5, kC := kC5, exC := X5.hs, tyC := M5.ty, hdC := M5.hd, fn := ⟨_, _, _, _, _, _, _, _, _, _, lI5, cI5⟩ }
  have M6 : ClsM K BM B6 := ⟨_, _, _, _, _, _, _, _, _, _, _, _, _, _, cL6⟩
  have X6 : ExcC K B6 := excC_of M6 ga6 gg6 ha6 ghn ght
  have E6 : PySem.Erlimit.ErTxt K mg "TooMany" "TooMany.__init__" B6 I6 := { gC := PySem.W.mg_of X G cn6, cls := ⟨_, _, _, _, _, _, _, _, _, _, _, _, _, _, _, cL6, refs_of _⟩, iC := iI6, tC := tI6, kC := kC6, exC := X6.hs, tyC := M6.ty, hdC := M6.hd, fn := ⟨_, _, _, _, _, _, _, _, _, _, _, _, _, _, lI6, cI6⟩, sa := sa6, ga := ga6, gg := gg6, noN := nb6 }
  have M7 : ClsM K BM B7 := ⟨_, _, _, _, _, _, _, _, _, _, _, _, _, _, cL7⟩
  have X7 : ExcC K B7 := excC_of M7 ga7 gg7 ha7 ghn ght
  have E7 : PySem.Erplace.ErTxt K mg "NoPlace" "NoPlace.__init__" B7 I7 := { gC := PySem.W.mg_of X G cn7, cls := ⟨_, _, _, _, _, _, _, _, _, _, _, _, _, _, _, cL7, refs_of _⟩, iC := iI7, tC := tI7, kC := kC7, exC := X7.hs, tyC := M7.ty, hdC := M7.hd, fn := ⟨_, _, _, _, _, _, _, _, _, _, _, _, _, _, lI7, cI7⟩, sa := sa7, ga := ga7, gg := gg7, noN := nb7 }
  have M8 : ClsM K BM B8 := ⟨_, _, _, _, _, _, _, _, _, _, _, _, _, _, cL8⟩
  have X8 : ExcC K B8 := excC_of M8 ga8 gg8 ha8 ghn ght
  have E8 : PySem.Ernumber.ErTxt K mg "NoVersion" "NoVersion.__init__" B8 I8 := { gC := PySem.W.mg_of X G cn8, cls := ⟨_, _, _, _, _, _, _, _, _, _, _, _, _, _, _, cL8, refs_of _⟩, iC := iI8, tC := tI8, kC := kC8, exC := X8.hs, tyC := M8.ty, hdC := M8.hd, fn := ⟨_, _, _, _, _, _, _, _, _, _, _, _, _, _, lI8, cI8⟩, sa := sa8, ga := ga8, gg := gg8, noN := nb8 }
  have M9 : ClsM K BM B9 := ⟨_, _, _, _, _, _, _, _, _, _, _, _, _, _, cL9⟩
  have X9 : ExcC K B9 := excC_of M9 ga9 gg9 ha9 ghn ght
  have E9 : PySem.Ername.ErTxt K mg "NoFunction" "NoFunction.__init__" B9 I9 := { gC := PySem.W.mg_of X G cn9, cls := ⟨_, _, _, _, _, _, _, _, _, _, _, _, _, _, _, cL9, refs_of _⟩, iC := iI9, tC := tI9, kC := kC9, exC := X9.hs, tyC := M9.ty, hdC := M9.hd, fn := ⟨_, _, _, _, _, _, _, _, _, _, _, _, _, _, lI9, cI9⟩, sa := sa9, ga := ga9, gg := gg9, noN := nb9 }
  have M10 : ClsM K BM B10 := ⟨_, _, _, _, _, _, _, _, _, _, _, _, _, _, cL10⟩
  have X10 : ExcC K B10 := excC_of M10 ga10 gg10 ha10 ghn ght
  have E10 : PySem.Er0.ErTxt K mg "NoSolution" "NoSolution.__init__" B10 I10 := { gC := PySem.W.mg_of X G cn10, cls := ⟨_, _, _, _, _, _, _, _, _, _, _, _, _, _, _, cL10, refs_of _⟩, iC := iI10, tC := tI10, kC := kC10, exC := X10.hs, tyC := M10.ty, hdC := M10.hd, fn := ⟨_, _, _, _, _, _, _, _, _, _, lI10, cI10⟩ }
  have M11 : ClsM K BM B11 := ⟨_, _, _, _, _, _, _, _, _, _, _, _, _, _, cL11⟩
  have X11 : ExcC K B11 := excC_of M11 ga11 gg11 ha11 ghn ght
  have E11 : PySem.Er0.ErTxt K mg "Unfit" "Unfit.__init__" B11 I11 := { gC := PySem.W.mg_of X G cn11, cls := ⟨_, _, _, _, _, _, _, _, _, _, _, _, _, _, _, cL11, refs_of _⟩, iC := iI11, tC := tI11, kC := kC11, exC := X11.hs, tyC := M11.ty, hdC := M11.hd, fn := ⟨_, _, _, _, _, _, _, _, _, _, lI11, cI11⟩ }
  have M12 : ClsM K BM B12 := ⟨_, _, _, _, _, _, _, _, _, _, _, _, _, _, cL12⟩
  have X12 : ExcC K B12 := excC_of M12 ga12 gg12 ha12 ghn ght
  have E12 : PySem.Erat.ErTxt K mg "Broken" "Broken.__init__" B12 I12 := { gC := PySem.W.mg_of X G cn12, cls := ⟨_, _, _, _, _, _, _, _, _, _, _, _, _, _, _, cL12, refs_of _⟩, iC := iI12, tC := tI12, kC := kC12, exC := X12.hs, tyC := M12.ty, hdC := M12.hd, fn := ⟨_, _, _, _, _, _, _, _, _, _, _, _, _, _, lI12, cI12⟩, sa := sa12, ga := ga12, gg := gg12, noN := nb12 }
  have M13 : ClsM K BM B13 := ⟨_, _, _, _, _, _, _, _, _, _, _, _, _, _, cL13⟩
  have X13 : ExcC K B13 := excC_of M13 ga13 gg13 ha13 ghn ght
  have E13 : PySem.Erlimit.ErTxt K mg "Full" "Full.__init__" B13 I13 := { gC := PySem.W.mg_of X G cn13, cls := ⟨_, _, _, _, _, _, _, _, _, _, _, _, _, _, _, cL13, refs_of _⟩, iC := iI13, tC := tI13, kC := kC13, exC := X13.hs, tyC := M13.ty, hdC := M13.hd, fn := ⟨_, _, _, _, _, _, _, _, _, _, _, _, _, _, lI13, cI13⟩, sa := sa13, ga := ga13, gg := gg13, noN := nb13 }
  have M14 : ClsM K BM B14 := ⟨_, _, _, _, _, _, _, _, _, _, _, _, _, _, cL14⟩
  have X14 : ExcC K B14 := excC_of M14 ga14 gg14 ha14 ghn ght
  have E14 : PySem.Er0.ErTxt K mg "NoDeed" "NoDeed.__init__" B14 I14 := { gC := PySem.W.mg_of X G cn14, cls := ⟨_, _, _, _, _, _, _, _, _, _, _, _, _, _, _, cL14, refs_of _⟩, iC := iI14, tC := tI14, kC := kC14, exC := X14.hs, tyC := M14.ty, hdC := M14.hd, fn := ⟨_, _, _, _, _, _, _, _, _, _, lI14, cI14⟩ }
  have M15 : ClsM K BM B15 := ⟨_, _, _, _, _, _, _, _, _, _, _, _, _, _, cL15⟩
  have X15 : ExcC K B15 := excC_of M15 ga15 gg15 ha15 ghn ght
  have E15 : PySem.Er0.ErTxt K mg "Nothing" "Nothing.__init__" B15 I15 := { gC := PySem.W.mg_of X G cn15, cls := ⟨_, _, _, _, _, _, _, _, _, _, _, _, _, _, _, cL15, refs_of _⟩, iC := iI15, tC := tI15, kC := kC15, exC := X15.hs, tyC := M15.ty, hdC := M15.hd, fn := ⟨_, _, _, _, _, _, _, _, _, _, lI15, cI15⟩ }
  have M16 : ClsM K BM B16 := ⟨_, _, _, _, _, _, _, _, _, _, _, _, _, _, cL16⟩
  have X16 : ExcC K B16 := excC_of M16 ga16 gg16 ha16 ghn ght
  have E16 : PySem.Ermany.ErTxt K mg "NoEntry" "NoEntry.__init__" B16 I16 := { gC := PySem.W.mg_of X G cn16, cls := ⟨_, _, _, _, _, _, _, _, _, _, _, _, _, _, _, cL16, refs_of _⟩, iC := iI16, tC := tI16, kC := kC16, exC := X16.hs, tyC := M16.ty, hdC := M16.hd, fn := ⟨_, _, _, _, _, _, _, _, _, _, _, _, _, _, lI16, cI16⟩, sa := sa16, ga := ga16, gg := gg16, noN := nb16 }
  have M17 : ClsM K BM B17 := ⟨_, _, _, _, _, _, _, _, _, _, _, _, _, _, cL17⟩
  have X17 : ExcC K B17 := excC_of M17 ga17 gg17 ha17 ghn ght
  have E17 : PySem.Er0.ErTxt K mg "NoText" "NoText.__init__" B17 I17 := { gC := PySem.W.mg_of X G cn17, cls := ⟨_, _, _, _, _, _, _, _, _, _, _, _, _, _, _, cL17, refs_of _⟩, iC := iI17, tC := tI17, kC := kC17, exC := X17.hs, tyC := M17.ty, hdC := M17.hd, fn := ⟨_, _, _, _, _, _, _, _, _, _, lI17, cI17⟩ }
  have hM : ∀ i, i < 18 → ClsM K BM ([B0, B1, B2, B3, B4, B5, B6, B7, B8, B9, B10, B11, B12, B13, B14, B15, B16, B17].getD i 0) := fun i hi => by
    rcases (by omega : i = 0 ∨ i = 1 ∨ i = 2 ∨ i = 3 ∨ i = 4 ∨ i = 5 ∨ i = 6 ∨ i = 7 ∨ i = 8 ∨ i = 9 ∨ i = 10 ∨ i = 11 ∨ i = 12 ∨ i = 13 ∨ i = 14 ∨ i = 15 ∨ i = 16 ∨ i = 17) with rfl | rfl | rfl | rfl | rfl | rfl | rfl | rfl | rfl | rfl | rfl | rfl | rfl | rfl | rfl | rfl | rfl | rfl
    · exact M0
    · exact M1
    · exact M2
    · exact M3
    · exact M4
    · exact M5
    · exact M6
    · exact M7
    · exact M8
    · exact M9
    · exact M10
    · exact M11
    · exact M12
    · exact M13
    · exact M14
    · exact M15
    · exact M16
    · exact M17
  let T : Txt K mg := { a__law_bag := a0, d__law_bag := _, F__law_bag := F0, f__law_bag := PySem.W.mg_of X G n0, b__law_bag := F0.binds (ps := ["_law_script"]) (fun _ _ _ _ _ _ us hl => match us, hl with | [_], _ => rfl), a__law_take := a1, d__law_take := _, F__law_take := F1, f__law_take := PySem.W.mg_of X G n1, b__law_take := F1.binds (ps := ["_law_bag_here", "_law_many"]) (fun _ _ _ _ _ _ us hl => match us, hl with | [_, _], _ => rfl), a__law_fields := a2, d__law_fields := _, F__law_fields := F2, f__law_fields := PySem.W.mg_of X G n2, b__law_fields := F2.binds (ps := []) (fun _ _ _ _ _ _ us hl => match us, hl with | [], _ => rfl), a__law_sorts := a3, d__law_sorts := _, F__law_sorts := F3, f__law_sorts := PySem.W.mg_of X G n3, b__law_sorts := F3.binds (ps := ["_law_e"]) (fun _ _ _ _ _ _ us hl => match us, hl with | [_], _ => rfl), a__law_field := a4, d__law_field := _, F__law_field := F4, f__law_field := PySem.W.mg_of X G n4, b__law_field := F4.binds (ps := ["_law_e", "_law_word"]) (fun _ _ _ _ _ _ us hl => match us, hl with | [_, _], _ => rfl), a__law_raised := a5, d__law_raised := _, F__law_raised := F5, f__law_raised := PySem.W.mg_of X G n5, b__law_raised := F5.binds (ps := ["_law_way", "_law_thing_here"]) (fun _ _ _ _ _ _ us hl => match us, hl with | [_, _], _ => rfl), a__law_raised_too := a6, d__law_raised_too := _, F__law_raised_too := F6, f__law_raised_too := PySem.W.mg_of X G n6, b__law_raised_too := F6.binds (ps := ["_law_way", "_law_thing_here"]) (fun _ _ _ _ _ _ us hl => match us, hl with | [_, _], _ => rfl), a__law_thing := a7, d__law_thing := _, F__law_thing := F7, f__law_thing := PySem.W.mg_of X G n7, b__law_thing := F7.binds (ps := ["_law_bag_here"]) (fun _ _ _ _ _ _ us hl => match us, hl with | [_], _ => rfl), a__law_held := a8, d__law_held := _, F__law_held := F8, f__law_held := PySem.W.mg_of X G n8, b__law_held := F8.binds (ps := ["_law_error", "_law_word", "_law_thing_here", "_law_kept"]) (fun _ _ _ _ _ _ us hl => match us, hl with | [_, _, _, _], _ => rfl), a_law := fa, d_law := _, F_law := F9, f_law := PySem.W.mg_of X G n9, b_law := F9.binds (ps := ["_law_script"]) (fun _ _ _ _ _ _ us hl => match us, hl with | [_], _ => rfl), m_ValueError := PySem.W.mg_none_of X G z_ValueError, m_abs := PySem.W.mg_none_of X G z_abs, m_int := PySem.W.mg_none_of X G z_int, m_isinstance := PySem.W.mg_none_of X G z_isinstance, m_len := PySem.W.mg_none_of X G z_len, m_list := PySem.W.mg_none_of X G z_list, m_range := PySem.W.mg_none_of X G z_range, m_repr := PySem.W.mg_none_of X G z_repr, C_MoveError := BM, g_MoveError := PySem.W.mg_of X G cnM, C_Wrong := B0, g_Wrong := PySem.W.mg_of X G cn0, fI_Wrong := I0, e_Wrong := E0, x_Wrong := X0, m_Wrong := exm_of TM M0 (nM 0 (by decide)), C_BadAct := B1, g_BadAct := PySem.W.mg_of X G cn1, fI_BadAct := I1, e_BadAct := E1, x_BadAct := X1, m_BadAct := exm_of TM M1 (nM 1 (by decide)), C_BadPlace := B2, g_BadPlace := PySem.W.mg_of X G cn2, fI_BadPlace := I2, e_BadPlace := E2, x_BadPlace := X2, m_BadPlace := exm_of TM M2 (nM 2 (by decide)), C_BadMove := B3, g_BadMove := PySem.W.mg_of X G cn3, fI_BadMove := I3, e_BadMove := E3, x_BadMove := X3, m_BadMove := exm_of TM M3 (nM 3 (by decide)), C_BadFunction := B4, g_BadFunction := PySem.W.mg_of X G cn4, fI_BadFunction := I4, e_BadFunction := E4, x_BadFunction := X4, m_BadFunction := exm_of TM M4 (nM 4 (by decide)), C_Unlike := B5, g_Unlike := PySem.W.mg_of X G cn5, fI_Unlike := I5, e_Unlike := E5, x_Unlike := X5, m_Unlike := exm_of TM M5 (nM 5 (by decide)), C_TooMany := B6, g_TooMany := PySem.W.mg_of X G cn6, fI_TooMany := I6, e_TooMany := E6, x_TooMany := X6, m_TooMany := exm_of TM M6 (nM 6 (by decide)), C_NoPlace := B7, g_NoPlace := PySem.W.mg_of X G cn7, fI_NoPlace := I7, e_NoPlace := E7, x_NoPlace := X7, m_NoPlace := exm_of TM M7 (nM 7 (by decide)), C_NoVersion := B8, g_NoVersion := PySem.W.mg_of X G cn8, fI_NoVersion := I8, e_NoVersion := E8, x_NoVersion := X8, m_NoVersion := exm_of TM M8 (nM 8 (by decide)), C_NoFunction := B9, g_NoFunction := PySem.W.mg_of X G cn9, fI_NoFunction := I9, e_NoFunction := E9, x_NoFunction := X9, m_NoFunction := exm_of TM M9 (nM 9 (by decide)), C_NoSolution := B10, g_NoSolution := PySem.W.mg_of X G cn10, fI_NoSolution := I10, e_NoSolution := E10, x_NoSolution := X10, m_NoSolution := exm_of TM M10 (nM 10 (by decide)), C_Unfit := B11, g_Unfit := PySem.W.mg_of X G cn11, fI_Unfit := I11, e_Unfit := E11, x_Unfit := X11, m_Unfit := exm_of TM M11 (nM 11 (by decide)), C_Broken := B12, g_Broken := PySem.W.mg_of X G cn12, fI_Broken := I12, e_Broken := E12, x_Broken := X12, m_Broken := exm_of TM M12 (nM 12 (by decide)), C_Full := B13, g_Full := PySem.W.mg_of X G cn13, fI_Full := I13, e_Full := E13, x_Full := X13, m_Full := exm_of TM M13 (nM 13 (by decide)), C_NoDeed := B14, g_NoDeed := PySem.W.mg_of X G cn14, fI_NoDeed := I14, e_NoDeed := E14, x_NoDeed := X14, m_NoDeed := exm_of TM M14 (nM 14 (by decide)), C_Nothing := B15, g_Nothing := PySem.W.mg_of X G cn15, fI_Nothing := I15, e_Nothing := E15, x_Nothing := X15, m_Nothing := exm_of TM M15 (nM 15 (by decide)), C_NoEntry := B16, g_NoEntry := PySem.W.mg_of X G cn16, fI_NoEntry := I16, e_NoEntry := E16, x_NoEntry := X16, m_NoEntry := exm_of TM M16 (nM 16 (by decide)), C_NoText := B17, g_NoText := PySem.W.mg_of X G cn17, fI_NoText := I17, e_NoText := E17, x_NoText := X17, m_NoText := exm_of TM M17 (nM 17 (by decide)) }
  exact ⟨_, fun s u => .of_eq rfl, fun bs _ _ => ok_law T (kits_of T TM hM nd)⟩
theorem walk {l : PySem.W.OpenLaw} {q : Program} {loose : List Str} {XP : (Str → Option Value) → Heap → Prop} {YP : World → Heap → Prop} {d : DefRec} {K : Params → PySem.W.Frag} (hn : l.most = some 63) (hdf : d.params.defaults = [])
    (hY : ∀ (w : World) (h : Heap), YP w h → (K w.params).In h)
    (F : ∀ (w : World) (mg : Str → Option Value) (fa : Addr) (h : Heap), (K w.params).In h → h.Ns mainGlobals mg → mg d.name = some (.ref fa) →
      ∃ fd : FuncData, (∀ (s : Shared) (u : Value), BindsTo s fd ⟨[u], []⟩ [("_law_script", u)]) ∧ ∀ bs : Heap, (K w.params).In bs → bs.Ns mainGlobals mg → FnG l.prog w (K w.params) mg bs 64 fa fd ["_law_script"] (spLaw (K w.params))) :
    PySem.W.WalkO q loose XP YP l.row.toRowW d [] (fun f vs => PySem.call f vs) :=
  Fm.walkG (n := 63) (k := 64) (x := "_law_script") (sp := fun w => spLaw (K w.params)) hn (by decide) hdf ⟨rfl, by decide, by decide⟩ hY F fun _ _ a ns hl hS => ⟨a, ns, rfl, hS, hl, fun _ => rfl⟩
end K19
open PySem PySem.W PyProof.Rows in
set_option maxRecDepth 100000 in
set_option maxHeartbeats 0 in
theorem PySem.Challenge.cw_framemoves_k19_errors_kept_holds : PySem.Challenge.rw_framemoves_k19_errors_kept.Holds := by
  w_on; o_law; k_head; (case hw => w_witness2)
  k_fill
  refine K19.walk (l := PySem.Challenge.rw_framemoves_k19_errors_kept) rfl rfl (fun w h Y => PySem.W.kIn_of Y) ?F
  case F =>
    intro w mg fa h KX G hmg
    refine' K19.all_mk KX G hmg ?n0 ?l0 ?c0 ?k0 ?n1 ?l1 ?c1 ?k1 ?n2 ?l2 ?c2 ?k2 ?n3 ?l3 ?c3 ?k3 ?n4 ?l4 ?c4 ?k4 ?n5 ?l5 ?c5 ?k5 ?n6 ?l6 ?c6 ?k6 ?n7 ?l7 ?c7 ?k7 ?n8 ?l8 ?c8 ?k8 ?n9 ?l9 ?c9 ?k9 ?z_ValueError ?z_abs ?z_int ?z_isinstance ?z_len ?z_list ?z_range ?z_repr ?cnM ?cLM ?ghn ?ght ?cn0 ?cL0 ?ga0 ?gg0 ?ha0 ?sa0 ?nb0 ?iI0 ?tI0 ?lI0 ?cI0 ?kC0 ?cn1 ?cL1 ?ga1 ?gg1 ?ha1 ?sa1 ?nb1 ?iI1 ?tI1 ?lI1 ?cI1 ?kC1 ?cn2 ?cL2 ?ga2 ?gg2 ?ha2 ?sa2 ?nb2 ?iI2 ?tI2 ?lI2 ?cI2 ?kC2 ?cn3 ?cL3 ?ga3 ?gg3 ?ha3 ?sa3 ?nb3 ?iI3 ?tI3 ?lI3 ?cI3 ?kC3 ?cn4 ?cL4 ?ga4 ?gg4 ?ha4 ?sa4 ?nb4 ?iI4 ?tI4 ?lI4 ?cI4 ?kC4 ?cn5 ?cL5 ?ga5 ?gg5 ?ha5 ?iI5 ?tI5 ?lI5 ?cI5 ?kC5 ?cn6 ?cL6 ?ga6 ?gg6 ?ha6 ?sa6 ?nb6 ?iI6 ?tI6 ?lI6 ?cI6 ?kC6 ?cn7 ?cL7 ?ga7 ?gg7 ?ha7 ?sa7 ?nb7 ?iI7 ?tI7 ?lI7 ?cI7 ?kC7 ?cn8 ?cL8 ?ga8 ?gg8 ?ha8 ?sa8 ?nb8 ?iI8 ?tI8 ?lI8 ?cI8 ?kC8 ?cn9 ?cL9 ?ga9 ?gg9 ?ha9 ?sa9 ?nb9 ?iI9 ?tI9 ?lI9 ?cI9 ?kC9 ?cn10 ?cL10 ?ga10 ?gg10 ?ha10 ?iI10 ?tI10 ?lI10 ?cI10 ?kC10 ?cn11 ?cL11 ?ga11 ?gg11 ?ha11 ?iI11 ?tI11 ?lI11 ?cI11 ?kC11 ?cn12 ?cL12 ?ga12 ?gg12 ?ha12 ?sa12 ?nb12 ?iI12 ?tI12 ?lI12 ?cI12 ?kC12 ?cn13 ?cL13 ?ga13 ?gg13 ?ha13 ?sa13 ?nb13 ?iI13 ?tI13 ?lI13 ?cI13 ?kC13 ?cn14 ?cL14 ?ga14 ?gg14 ?ha14 ?iI14 ?tI14 ?lI14 ?cI14 ?kC14 ?cn15 ?cL15 ?ga15 ?gg15 ?ha15 ?iI15 ?tI15 ?lI15 ?cI15 ?kC15 ?cn16 ?cL16 ?ga16 ?gg16 ?ha16 ?sa16 ?nb16 ?iI16 ?tI16 ?lI16 ?cI16 ?kC16 ?cn17 ?cL17 ?ga17 ?gg17 ?ha17 ?iI17 ?tI17 ?lI17 ?cI17 ?kC17 ?nd
    (case n0 => k_is)
    (case l0 => k_is)
    (case c0 => k_is)
    (case k0 => k_is)
    (case n1 => k_is)
    (case l1 => k_is)
    (case c1 => k_is)
    (case k1 => k_is)
    (case n2 => k_is)
    (case l2 => k_is)
    (case c2 => k_is)
    (case k2 => k_is)
    (case n3 => k_is)
    (case l3 => k_is)
    (case c3 => k_is)
    (case k3 => k_is)
    (case n4 => k_is)
    (case l4 => k_is)
    (case c4 => k_is)
    (case k4 => k_is)
    (case n5 => k_is)
    (case l5 => k_is)
    (case c5 => k_is)
    (case k5 => k_is)
    (case n6 => k_is)
    (case l6 => k_is)
    (case c6 => k_is)
    (case k6 => k_is)
    (case n7 => k_is)
    (case l7 => k_is)
    (case c7 => k_is)
    (case k7 => k_is)
    (case n8 => k_is)
    (case l8 => k_is)
    (case c8 => k_is)
    (case k8 => k_is)
    (case n9 => k_is)
    (case l9 => k_is)
    (case c9 => k_is)
    (case k9 => k_is)
    (case z_ValueError => k_is)
    (case z_abs => k_is)
    (case z_int => k_is)
    (case z_isinstance => k_is)
    (case z_len => k_is)
    (case z_list => k_is)
    (case z_range => k_is)
    (case z_repr => k_is)
    (case cnM => k_is)
    (case cLM => k_is)
    (case ghn => k_is)
    (case ght => k_is)
    (case cn0 => k_is)
    (case cL0 => k_is)
    (case ga0 => k_is)
    (case gg0 => k_is)
    (case ha0 => k_is)
    (case sa0 => k_is)
    (case nb0 => k_is)
    (case iI0 => k_is)
    (case tI0 => k_is)
    (case lI0 => k_is)
    (case cI0 => k_is)
    (case kC0 => k_is)
    (case cn1 => k_is)
    (case cL1 => k_is)
    (case ga1 => k_is)
    (case gg1 => k_is)
    (case ha1 => k_is)
    (case sa1 => k_is)
    (case nb1 => k_is)
    (case iI1 => k_is)
    (case tI1 => k_is)
    (case lI1 => k_is)
    (case cI1 => k_is)
    (case kC1 => k_is)
    (case cn2 => k_is)
    (case cL2 => k_is)
    (case ga2 => k_is)
    (case gg2 => k_is)
    (case ha2 => k_is)
    (case sa2 => k_is)
    (case nb2 => k_is)
    (case iI2 => k_is)
    (case tI2 => k_is)
    (case lI2 => k_is)
    (case cI2 => k_is)
    (case kC2 => k_is)
    (case cn3 => k_is)
    (case cL3 => k_is)
    (case ga3 => k_is)
    (case gg3 => k_is)
    (case ha3 => k_is)
    (case sa3 => k_is)
    (case nb3 => k_is)
    (case iI3 => k_is)
    (case tI3 => k_is)
    (case lI3 => k_is)
    (case cI3 => k_is)
    (case kC3 => k_is)
    (case cn4 => k_is)
    (case cL4 => k_is)
    (case ga4 => k_is)
    (case gg4 => k_is)
    (case ha4 => k_is)
    (case sa4 => k_is)
    (case nb4 => k_is)
    (case iI4 => k_is)
    (case tI4 => k_is)
    (case lI4 => k_is)
    (case cI4 => k_is)
    (case kC4 => k_is)
    (case cn5 => k_is)
    (case cL5 => k_is)
    (case ga5 => k_is)
    (case gg5 => k_is)
    (case ha5 => k_is)
    (case iI5 => k_is)
    (case tI5 => k_is)
    (case lI5 => k_is)
    (case cI5 => k_is)
    (case kC5 => k_is)
    (case cn6 => k_is)
    (case cL6 => k_is)
    (case ga6 => k_is)
    (case gg6 => k_is)
    (case ha6 => k_is)
    (case sa6 => k_is)
    (case nb6 => k_is)
    (case iI6 => k_is)
    (case tI6 => k_is)
    (case lI6 => k_is)
    (case cI6 => k_is)
    (case kC6 => k_is)
    (case cn7 => k_is)
    (case cL7 => k_is)
    (case ga7 => k_is)
    (case gg7 => k_is)
    (case ha7 => k_is)
    (case sa7 => k_is)
    (case nb7 => k_is)
    (case iI7 => k_is)
    (case tI7 => k_is)
    (case lI7 => k_is)
    (case cI7 => k_is)
    (case kC7 => k_is)
    (case cn8 => k_is)
    (case cL8 => k_is)
    (case ga8 => k_is)
    (case gg8 => k_is)
    (case ha8 => k_is)
    (case sa8 => k_is)
    (case nb8 => k_is)
    (case iI8 => k_is)
    (case tI8 => k_is)
    (case lI8 => k_is)
    (case cI8 => k_is)
    (case kC8 => k_is)
    (case cn9 => k_is)
    (case cL9 => k_is)
    (case ga9 => k_is)
    (case gg9 => k_is)
    (case ha9 => k_is)
    (case sa9 => k_is)
    (case nb9 => k_is)
    (case iI9 => k_is)
    (case tI9 => k_is)
    (case lI9 => k_is)
    (case cI9 => k_is)
    (case kC9 => k_is)
    (case cn10 => k_is)
    (case cL10 => k_is)
    (case ga10 => k_is)
    (case gg10 => k_is)
    (case ha10 => k_is)
    (case iI10 => k_is)
    (case tI10 => k_is)
    (case lI10 => k_is)
    (case cI10 => k_is)
    (case kC10 => k_is)
    (case cn11 => k_is)
    (case cL11 => k_is)
    (case ga11 => k_is)
    (case gg11 => k_is)
    (case ha11 => k_is)
    (case iI11 => k_is)
    (case tI11 => k_is)
    (case lI11 => k_is)
    (case cI11 => k_is)
    (case kC11 => k_is)
    (case cn12 => k_is)
    (case cL12 => k_is)
    (case ga12 => k_is)
    (case gg12 => k_is)
    (case ha12 => k_is)
    (case sa12 => k_is)
    (case nb12 => k_is)
    (case iI12 => k_is)
    (case tI12 => k_is)
    (case lI12 => k_is)
    (case cI12 => k_is)
    (case kC12 => k_is)
    (case cn13 => k_is)
    (case cL13 => k_is)
    (case ga13 => k_is)
    (case gg13 => k_is)
    (case ha13 => k_is)
    (case sa13 => k_is)
    (case nb13 => k_is)
    (case iI13 => k_is)
    (case tI13 => k_is)
    (case lI13 => k_is)
    (case cI13 => k_is)
    (case kC13 => k_is)
    (case cn14 => k_is)
    (case cL14 => k_is)
    (case ga14 => k_is)
    (case gg14 => k_is)
    (case ha14 => k_is)
    (case iI14 => k_is)
    (case tI14 => k_is)
    (case lI14 => k_is)
    (case cI14 => k_is)
    (case kC14 => k_is)
    (case cn15 => k_is)
    (case cL15 => k_is)
    (case ga15 => k_is)
    (case gg15 => k_is)
    (case ha15 => k_is)
    (case iI15 => k_is)
    (case tI15 => k_is)
    (case lI15 => k_is)
    (case cI15 => k_is)
    (case kC15 => k_is)
    (case cn16 => k_is)
    (case cL16 => k_is)
    (case ga16 => k_is)
    (case gg16 => k_is)
    (case ha16 => k_is)
    (case sa16 => k_is)
    (case nb16 => k_is)
    (case iI16 => k_is)
    (case tI16 => k_is)
    (case lI16 => k_is)
    (case cI16 => k_is)
    (case kC16 => k_is)
    (case cn17 => k_is)
    (case cL17 => k_is)
    (case ga17 => k_is)
    (case gg17 => k_is)
    (case ha17 => k_is)
    (case iI17 => k_is)
    (case tI17 => k_is)
    (case lI17 => k_is)
    (case cI17 => k_is)
    (case kC17 => k_is)
    (case nd => decide)
