import PyProof.Rows.All
import Wide.All
import OpenK.AllK
import Wide.FinOn
import HandS.ForMost
import HandS.IsInst
import HandS.Sort
import HandS.More
import HandS.TupAny
import HandS.TupMul
import HandS.Walk
import HandS.Evl
import HandS.Wide
import PyProof.ListMulRoad
import PyProof.FactsAll.tuple_2
import PySem.Challenge.RW_framemoves_k11_kinds_known
set_option Elab.async false
set_option linter.all false
set_option maxRecDepth 100000
set_option maxHeartbeats 2000000
/-! Fm: defs that are run where nothing is being shown (no guard on the stack), so that repr tells the whole text. -/
namespace Fm
open PySem PySem.Spec PyProof.Rows L2

/-- a def's promise, kept where no guard stands; no exception leaves it -/
structure FnG (P : Program) (w : World) (K : PySem.W.Frag) (mg : Str → Option Value) (bs : Heap) (k : Nat) (f : Addr) (fd : FuncData) (ps : List Str) (sp : Sp) : Prop where
  many : ∀ vs H Q E, sp vs H Q E → vs.length = ps.length
  runs : ∀ (A : Around) (fr : List Env) (s : Shared) (H : Hp) (ar : Args) (us : List Value) (vs : List V) (Q : VK),
    Room k A → A.guards = some [] → Env0 P w K mg bs A fr s H → BindsTo s fd ar (ps.zip us) → Vals vs us → sp vs H Q E0 → codeAny (model P w) A (.call (.ref f) ar) (CR CX0 fr P w H s Q E0) s
section
variable {P : Program} {w : World} {K : PySem.W.Frag} {mg : Str → Option Value} {bs : Heap} {k : Nat}
theorem FnG.of {f : Addr} {fd : FuncData} {ps : List Str} {sp : Sp} (F : FnOk P w K mg bs CX0 k f fd ps sp) : FnG P w K mg bs k f fd ps sp :=
  ⟨F.len, fun A fr s H ar us vs Q r _ e b v h => F.run A fr s H ar us vs Q E0 r e b v h⟩
/-- the rule for such a def -/
theorem fnG {x qual : Str} {st : Stmt} {f : Addr} {fd : FuncData} {N ps : List Str} {sp : Sp} (F : Fun K x qual st f fd) (S : FnScope N ps (defScope st)) (len : ∀ vs H Q E, sp vs H Q E → vs.length = ps.length)
    (body : ∀ (cdv : Value) (A : Around) (fr : List Env) (s : Shared) (H : Hp) (vs : List V) (Q : VK), A.guards = some [] → Room k (A.deeper (envOfC qual (defScope st) s.heap.objs.size f cdv)) → sp vs H Q E0 →
      ∃ t, PSs (cxOf CX0 P w K mg bs N qual (defScope st) f cdv A fr s H E0).nox (defBody st) t ∧ t { nx := fun _ H' => Q .non H', rt := Q } (start N vs) H) : FnG P w K mg bs (k + 1) f fd ps sp := by
  obtain ⟨oc, od, kV, doc, pm, an, cdv, ct, osl, rfl, lk, hcd⟩ := F.ex
  refine ⟨len, ?_⟩
  intro A fr s H ar us vs Q room gd env bound rel hyp
  have nvs := len _ _ _ _ hyp
  have kin : K.In s.heap := env.mod.kin.keeps (fun b o q => (env.bs b o q).1)
  have nl : s.heap.NoLimit := env.mod.nolimit.keeps (fun b o q => (env.bs b o q).1)
  have kinds : ∀ y ∈ ps.zip us, (defScope st).names.lookup y.1 = some .local ∨ ((defScope st).names.lookup y.1 = some .cell ∧
      ((cellsFrom (s.heap.objs.size + 1) (defScope st).names []).lookup y.1).isSome = true) := by
    rintro ⟨n, v⟩ hy
    have hp := S.par n (List.of_mem_zip hy).1
    cases hp with
    | inl q => exact Or.inl q
    | inr q => exact Or.inr ⟨q, PySem.W.cellsFrom_some _ _ _ (Or.inl q)⟩
  refine codeAny_call_function room.depth (kin _ _ lk) rfl S.co S.gen rfl (PySem.W.codeRec_of kin hcd) (bound _ _ _ _ ?_)
  refine wpAny_newFunctionEnv_cells S.kind kinds fun env1 he s1 x1 => ?_
  subst he
  refine ⟨nl.keeps x1.toInCall.keep, codeAny_func ?_⟩
  obtain ⟨t, ht, hq⟩ := body cdv A fr s H vs Q gd (room.deeper _) hyp
  have J := inv_start (CX := CX0) (E := E0) S room.hd env nvs rel x1
  refine wpAny_mono (ht.nox.run [] s1 (start N vs) H _ J hq) (fun fl s' hs => ?_) (fun _ _ z => z)
  cases fl with
  | ret u =>
    obtain ⟨v, σ', H', J2, rv, q⟩ := hs
    exact ⟨v, H', J2.os, J2.bare, J2.base, J2.hok, rv, q⟩
  | next =>
    obtain ⟨σ', H', J2, q⟩ := hs
    exact ⟨V.non, H', J2.os, J2.bare, J2.base, J2.hok, rfl, q⟩
  | brk =>
    obtain ⟨_, _, _, q⟩ := hs
    exact q.elim
  | cont =>
    obtain ⟨_, _, _, q⟩ := hs
    exact q.elim
end
section
variable {X : Cx} {k : Nat} {f : Addr} {fd : FuncData} {ps : List Str} {sp : Sp} {x : Str} {p pos : Pos} {e : Expr} {es : List Expr} {t : TA}
theorem goG {pins : List (Addr × Obj)} {σ : L2.St} {H : Hp} {s : Shared} {Q : VK} {us : List Value} {vs : List V} (F : FnG X.prog X.w X.K X.mg X.base k f fd ps sp) (hr : Room k X.A) (gd : X.A.guards = some []) (hb : Binds X.K fd ps [])
    (I : Inv X pins σ H s) (r : Vals vs us) (h : sp vs H Q E0) : wpAny (model X.prog X.w) X.A (call (.ref f) us) (EP X pins σ Q) X.xe s := by
  have n1 := F.many _ _ _ _ h
  have n2 : (us ++ []).length = ps.length := by rw [List.append_nil, ← r.length, n1]
  have b1 := hb s us I.kIn n2
  rw [List.append_nil] at b1
  refine wpAny_call (codeAny_mono (F.runs X.A X.stack s H ⟨us, []⟩ us vs Q hr gd I.env0 b1 r h) fun res s' hq => ?_)
  cases res with
  | error e => exact False.elim hq
  | ok fl =>
    cases fl with
    | ret u => exact I.after hq
    | next => exact False.elim hq
    | brk => exact False.elim hq
    | cont => exact False.elim hq
/-- f(e, ..) -/
theorem pe_callG (F : FnG X.prog X.w X.K X.mg X.base k f fd ps sp) (hr : Room k X.A) (gd : X.A.guards = some []) (hg : Gl X x) (hm : X.mg x = some (.ref f)) (kp : PySem.W.keepIn X.K (.ref f) = true) (hb : Binds X.K fd ps [])
    (ha : PA X (e :: es) t) (n0 : (x == ("__debug__" : Str)) = false := by decide) (n1 : starEach (e :: es) X.env = (false, eval e X.env) :: starEach es X.env := by rfl) (n2 : (backTo pos (starEach es X.env)).any (·.1) = false := by rfl) :
    PE X (.Call (.Name x p) (e :: es) [] pos) (fun σ H Q => t σ H fun vs H1 => sp vs H1 Q E0) := by
  constructor
  intro pins s σ H Q I h
  refine wpAny_Call_Name_kw (ld_glob I hg hm ?_ n0)
  refine PySem.W.callWith_K (h₀ := X.base) I.ok.mod.kin kp (thn (ha.run pos pins s σ H _ I h) ?_) n1 n2
  rintro us s1 ⟨vs, H1, I1, r, q⟩
  exact ⟨I1.kIn, goG F hr gd hb I1 r q⟩
end

/-! ### the end of a law's row, for a def that is run where no guard stands -/
section
variable {P : Program} {w : World} {K : PySem.W.Frag} {mg mb : Str → Option Value} {k : Nat}
theorem lawG {fa a : Addr} {fd : FuncData} {x : Str} {sp : Sp} {s1 : Shared} {vs : List Value} {ns : List Int}
    (kin : K.In s1.heap) (g0 : s1.heap.Ns mainGlobals mg) (g1 : s1.heap.Ns builtinsNs mb) (g2 : ∀ y : Str, y ≠ "__name__" → mb y = bootBuiltins y) (nl : s1.heap.NoLimit) (gens : s1.gens = #[])
    (obj : s1.heap.get? a = some { cls := .type "list", data := .seq vs.toArray }) (hin : IntsAre vs ns) (len : ns.length ≤ sizeLine) (room : Room k callerA)
    (F : ∀ bs : Heap, K.In bs → bs.Ns mainGlobals mg → FnG P w K mg bs k fa fd [x] sp) (bound : ∀ (s : Shared) (u : Value), BindsTo s fd ⟨[u], []⟩ [(x, u)])
    (hsp : ∀ H : Hp, SqL K H a (ns.map V.int) → sp [.ref a] H (fun v _ => v = .bl true) E0) :
    codeAny (model P w) callerA (.call (.ref fa) ⟨[.ref a], []⟩) (fun r s' => r = .ok (.ret (.bool true)) ∧ OldK s1.heap s'.heap ∧ s'.os = s1.os ∧ AllBare s'.gens) s1 := by
  have rv := vals_ints hin
  have nvs := hin.length
  -- over any abstract heap that tracks at most the script, frozen
  have main : ∀ H : Hp, (∀ b, H b = none ∨ ∃ o xs, H b = some (.frz o (.lst xs))) → SqL K H a (ns.map V.int) → HOk P w H s1.heap → (∀ b, H b ≠ none → b = a) → (H a ≠ none → K.lookup a = none) →
      codeAny (model P w) callerA (.call (.ref fa) ⟨[.ref a], []⟩) (fun r s' => r = .ok (.ret (.bool true)) ∧ OldK s1.heap s'.heap ∧ s'.os = s1.os ∧ AllBare s'.gens) s1 := by
    intro H only hS hok hA hK
    have hid : ∀ {b : Addr} {o : Obj}, s1.heap.get? b = some o → H b = none → (hidT s1.heap H).get? b = some o := fun q n => hidT_get q n
    have dicts : ∀ {b : Addr} {o : Obj} {es : Array DictEntry} {ep : Nat}, s1.heap.get? b = some o → o.data = .dict es ep → H b = none := by
      intro b o es ep q d
      cases z : H b with
      | none => rfl
      | some u =>
        have eb : b = a := hA b (by rw [z]; exact fun y => nomatch y)
        rw [eb, obj] at q
        cases q
        exact nomatch (show Data.seq vs.toArray _ = Data.dict es ep from d)
    have nss : ∀ {b : Addr} {m : Str → Option Value}, s1.heap.Ns b m → (hidT s1.heap H).Ns b m := by
      rintro b m ⟨o, es, ep, q, d, r⟩
      exact ⟨o, es, ep, hid q (dicts q d), d, r⟩
    have kinH : K.In (hidT s1.heap H) := by
      intro b o q
      refine hid (kin b o q) ?_
      cases z : H b with
      | none => rfl
      | some u =>
        have eb : b = a := hA b (by rw [z]; exact fun y => nomatch y)
        subst eb
        rw [hK (by rw [z]; exact fun y => nomatch y)] at q
        cases q
    have hM : Mod K mg (hidT s1.heap H) := by
      obtain ⟨mc, h1, h2⟩ := nl
      exact ⟨kinH, nss g0, ⟨mb, nss g1, g2⟩, ⟨mc, nss h1, h2⟩⟩
    have env : Env0 P w K mg (hidT s1.heap H) callerA [] s1 H :=
      ⟨rfl, hM, fun b o q => of_hidT q, Nat.le_of_eq (hidT_size _ _), trivial, fun b hb => (by simp [frs] at hb), hok, .of_eq gens⟩
    have fin := (F _ kinH (nss g0)).runs callerA [] s1 H ⟨[.ref a], []⟩ [.ref a] [.ref a] _ room rfl env (bound s1 (.ref a)) (.cons rfl .nil) (hsp H hS)
    refine codeAny_mono fin fun r s' h => ?_
    match r, h with
    | .ok (.ret u), h =>
      obtain ⟨v, H', os, bare, un, hok', r', q⟩ := h
      have q' : v = .bl true := q
      subst q'
      obtain rfl : u = Value.bool true := r'
      refine ⟨rfl, OldK.of_keep (fun b o e => ?_), os, bare⟩
      cases z : H b with
      | none => exact un.keep b o e z (by simp [frs]) (by simp)
      | some y =>
        rcases only b with z1 | ⟨ob, xs, z1⟩
        · rw [z] at z1
          cases z1
        · have e1 := (hok b _ z1).1
          have e2 := (hok' b _ (un.frzs b ob _ z1)).1
          rw [e] at e1
          cases e1
          exact e2
  cases hk : K.lookup a with
  | some o =>
    have e := kin a o hk
    rw [obj] at e
    cases e
    refine main (fun _ => none) (fun _ => Or.inl rfl) (Or.inr ⟨_, vs.toArray, _, hk, rfl, rfl, rfl, ?_, ?_⟩) (fun b u z => nomatch z) (fun b z => absurd rfl z) (fun z => absurd rfl z)
    · rw [List.size_toArray, nvs]
      exact len
    · simpa using rv
  | none =>
    refine main (fun b => if b = a then some (.frz { cls := .type "list", data := .seq vs.toArray } (.lst (ns.map V.int))) else none) ?_ ?_ ?_ ?_ (fun _ => hk)
    · intro b
      by_cases hb : b = a
      · exact Or.inr ⟨_, _, if_pos hb⟩
      · exact Or.inl (if_neg hb)
    · exact Or.inl (Or.inr ⟨{ cls := .type "list", data := .seq vs.toArray }, if_pos rfl⟩)
    · intro b u z
      by_cases hb : b = a
      · have z1 := (if_pos hb).symm.trans z
        cases z1
        rw [hb]
        exact ⟨obj, by rw [List.length_map]; exact len, vs, _, rv, obj⟩
      · have z1 := (if_neg hb).symm.trans z
        cases z1
    · intro b z
      by_cases hb : b = a
      · exact hb
      · exact absurd (if_neg hb) z
end
theorem walkG {l : PySem.W.OpenLaw} {n k : Nat} {q : Program} {loose : List Str} {XP : (Str → Option Value) → Heap → Prop} {YP : World → Heap → Prop} {d : DefRec} {K : Params → PySem.W.Frag} {sp : World → Sp} {x : Str}
    (hn : l.most = some n) (n2 : n ≤ sizeLine) (hdf : d.params.defaults = []) (room : Room k callerA) (hY : ∀ (w : World) (h : Heap), YP w h → (K w.params).In h)
    (F : ∀ (w : World) (mg : Str → Option Value) (fa : Addr) (h : Heap), (K w.params).In h → h.Ns mainGlobals mg → mg d.name = some (.ref fa) →
      ∃ fd : FuncData, (∀ (s : Shared) (u : Value), BindsTo s fd ⟨[u], []⟩ [(x, u)]) ∧ ∀ bs : Heap, (K w.params).In bs → bs.Ns mainGlobals mg → FnG l.prog w (K w.params) mg bs k fa fd [x] (sp w))
    (hsp : ∀ (w : World) (H : Hp) (a : Addr) (ns : List Int), ns.length ≤ n → SqL (K w.params) H a (ns.map V.int) → sp w [.ref a] H (fun v _ => v = .bl true) E0) :
    PySem.W.WalkO q loose XP YP l.row.toRowW d [] (fun f vs => PySem.call f vs) := by
  refine Att.attach_call hn hdf ?_
  intro w s0 s1 mg mb fa o pm cd doc a vs ns G Y ho hd hcd hmg hobj hints hlen hg
  obtain ⟨fd, hb, hF⟩ := F w mg fa _ (hY w _ Y) G.T.g hmg
  exact lawG (hY w _ Y) G.T.g G.T.b G.T.builtins G.T.nolimit hg hobj hints (Nat.le_trans hlen n2) room hF hb (fun H hS => hsp w H a ns hlen hS)

/-! ### repr of data -/
section
variable {X : Cx}
def rRepr (K : PySem.W.Frag) : List V → Hp → VK → Prop := fun vs H Q => ∃ v d, vs = [v] ∧ Dp K H v d ∧ d.showable = true ∧ d.hasDict = false ∧ d.depth ≤ 60 ∧ d.shown.length ≤ sizeLine ∧ Q (.str d.shown) H
theorem call_repr {k : Nat} (hr : Room k X.A) (gd : X.A.guards = some []) : CallR X (.builtin "repr") (rRepr X.K) := by
  intro pins s σ H xs us Q I r h
  obtain ⟨v, d, rfl, hd, hs, hn, hz, hl, q⟩ := h
  obtain ⟨u, rfl, ru⟩ := r.one
  obtain ⟨as, rd⟩ := Dp.reads I d v u hd ru
  have hu := hr.units
  have done : ∀ (tk : Tok) (t : Nat), EP X pins σ Q (.str d.shown tk) { s with toks := t } := fun tk t => ⟨.str d.shown, H, I.tok _, ⟨_, rfl⟩, q⟩
  cases hd with
  | non =>
    cases ru
    exact PySem.P.repr_of_none (done _ _)
  | bl b => cases b <;> (cases ru; exact PySem.P.repr_of_bool (done _ _))
  | int i =>
    obtain ⟨t, rfl⟩ := ru
    exact PySem.P.repr_of_int (by simpa [PyData.showable] using hs) (done _ _)
  | str z =>
    obtain ⟨t, rfl⟩ := ru
    exact PySem.P.repr_of_str (done _ _) hl
  | lst a b =>
    cases ru
    refine repr_of_reads' rd hs (PyData.noDict_hsm hn) gd (by omega) (fun _ _ e => e) (fun h' u tk hk => ?_) hl
    exact ⟨.str _, H, I.un (t' := tk) (Un.kept hk) (I.hok.kept hk), ⟨u, rfl⟩, q⟩
  | tup a b =>
    cases ru
    refine repr_of_reads' rd hs (PyData.noDict_hsm hn) gd (by omega) (fun _ _ e => e) (fun h' u tk hk => ?_) hl
    exact ⟨.str _, H, I.un (t' := tk) (Un.kept hk) (I.hok.kept hk), ⟨u, rfl⟩, q⟩
end

/-! ### further rules -/

theorem ext_tup (l : Addr) (xs : Array Value) (n : Nat) (b : Addr) (ys : Array Value) (m : Nat) (dd : Option Addr) (sl : Array (Option Value)) (c0 : ¬ (!xs.isEmpty && Builtin.List.listTooLong (xs.size + ys.size)) = true) (c1 : xs.size ≤ sizeLine)
    (c2 : xs.size + ys.size ≤ sizeLine + 1) :
    Meets (Builtin.«list.extend» ⟨[.ref l, .ref b], []⟩) (fun _ R s => s.heap.get? l = some { cls := .type "list", data := .seq xs n } ∧ s.heap.get? b = some { cls := .type "tuple", dict := dd, data := .seq ys m, slots := sl } ∧
      R (.ok (.ret Value.none)) { s with heap := s.heap.update l (Obj.mapSeq fun z => z ++ ys), toks := s.toks }) :=
  .of_wp fun prog w A R s h => by
    obtain ⟨hp, g, d, tk, os⟩ := s
    obtain ⟨hl, hb, h⟩ := h
    have i1 := AutoSeq1.idx_int
    have i2 := AutoSeq1.sub_tuple_tuple
    have i3 := AutoSeq1.sub_list_list
    have i4 := AutoSeq1.sub_tuple_list
    have i5 := AutoSeq1.sub_list_tuple
    have zz : (xs ++ ys).size ≤ sizeLine + 1 := by
      rw [Array.size_append]
      exact c2
    wp_walk using (wpAny_updateSeq hl rfl (hz := c1) (_hz' := zz)), wpAny_loadPart' hl, wpAny_loadPart' hb
    exact ⟨_, rfl, h⟩
section
variable {X : Cx}
/-- xs.extend(t), t a tuple -/
def rExtT (K : PySem.W.Frag) : V → List V → Hp → VK → Prop := fun x vs H Q => ∃ l b xs zs, x = .ref l ∧ vs = [.ref b] ∧ H l = some (.lst xs) ∧ SqT K H b zs ∧ xs.length + zs.length ≤ sizeLine ∧ Q .non (upd H l (.lst (xs ++ zs)))
theorem mt_extT : MtM X "list.extend" (rExtT X.K) := by
  intro pins s σ H x vs v us Q I rx rv h
  obtain ⟨l, b, xs, zs, rfl, rfl, hH, hB, hz, q⟩ := h
  cases rx
  obtain ⟨u, rfl, ru⟩ := rv.one
  cases ru
  obtain ⟨z, i1, n, r1, l1, e1⟩ := I.lstM hH
  obtain ⟨i2, r2, ⟨⟨cls, dd, data, sl⟩, e2, c2, n2, d2⟩, _⟩ := I.tuple hB
  simp only at c2 d2
  subst c2 d2
  have l2 := r2.length
  have sz : i1.toArray.size + i2.toArray.size ≤ sizeLine := by
    rw [List.size_toArray, List.size_toArray]
    omega
  have long : ¬ (!i1.toArray.isEmpty && Builtin.List.listTooLong (i1.toArray.size + i2.toArray.size)) = true := by
    rw [notLongL sz, Bool.and_false]
    exact Bool.false_ne_true
  refine call_meets F.slot_list_extend ⟨_, e1, rfl⟩ F.entry_list_extend (F.args_list_extend_2 _ _) (ext_tup l i1.toArray n b i2.toArray n2 dd sl long (by rw [List.size_toArray]; omega) (by omega)) ⟨e1, e2, ?_⟩
  refine ⟨.non, _, I.lset (its' := i1 ++ i2) hH e1 (by simp) (r1.append r2) ?_, rfl, q⟩
  rw [List.length_append]
  omega

/-- xs[i] as it is read by xs[i] op= e -/
def gL (K : PySem.W.Frag) : V → V → Hp → VK → Prop := fun x y H Q => ∃ l xs i v, x = .ref l ∧ y = .int i ∧ H l = some (.lst xs) ∧ 0 ≤ i ∧ xs[i.toNat]? = some v ∧ Q v H
theorem pg_list : PGet X (gL X.K) := by
  intro pins s σ H o i ov iv Q I ro ri h
  obtain ⟨l, xs, j, v, rfl, rfl, hH, h0, hv, q⟩ := h
  cases ro
  obtain ⟨t, rfl⟩ := ri
  obtain ⟨z, i1, n, r1, l1, e1⟩ := I.lstM hH
  obtain ⟨u, hu, ru⟩ := r1.get hv
  have lt := (List.getElem?_eq_some_iff.mp hv).1
  have b1 : (2 : Int) ^ 63 = 9223372036854775808 := by decide
  have b2 := sizeLine_eq
  exact wpAny_getItem_list ⟨_, e1, rfl, _, rfl⟩ h0 (by omega) (by simpa using hu) ⟨v, H, I, ru, q⟩

/-- i not in range(a, b) -/
theorem op_ni_rng : OpR X (compareOp .NotIn) (fun x y H Q => ∃ i a lo hi, x = V.int i ∧ y = V.ref a ∧ H a = some (.rng lo hi) ∧ Q (.bl (!decide (lo ≤ i ∧ i < hi))) H) := by
  intro pins s σ H x y v u Q I rx ry h
  obtain ⟨i, a, lo, hi, rfl, rfl, ha, q⟩ := h
  obtain ⟨k, rfl⟩ := rx
  cases (show u = Value.ref a from ry)
  obtain ⟨t1, t2, t3, ho⟩ := I.hok a _ ha
  have e1 : s.TypeIs (.ref a) "range" := ⟨_, ho, rfl⟩
  show wpAny _ _ (do return Value.bool (!(← contains (Value.ref a) (Value.int i k)))) _ _ s
  refine wpAny_bind (wpAny_contains_slot e1 F.slot_range_contains (call_meets F.slot_range_contains e1 F.entry_range_contains (F.args_range_contains_2 _ _) (q_contains a lo hi i t1 t2 t3 k) ⟨ho, wpAny_truthy_bool (wpAny_pure ?_)⟩))
  refine ⟨.bl _, H, I, rfl, ?_⟩
  rw [place1]
  exact q
/-- is not True, is not False, of an int or a bool -/
def rNotB2 : R2 := fun x y H Q => ∃ b : Bool, y = .bl b ∧ ((∃ i, x = .int i) ∨ ∃ a, x = .bl a) ∧ Q (.bl (!decide (x = y))) H
theorem op_notB2 : OpR X (compareOp .IsNot) rNotB2 := by
  intro pins s σ H x y v u Q I rx ry h
  obtain ⟨b, rfl, hx, q⟩ := h
  cases (show u = Value.bool b from ry)
  rcases hx with ⟨i, rfl⟩ | ⟨a, rfl⟩
  · obtain ⟨t, rfl⟩ := rx
    refine wpAny_isNot_other rfl (fun z => nomatch z) ⟨.bl true, H, I, rfl, ?_⟩
    simpa using q
  · cases (show v = Value.bool a from rx)
    by_cases e : a = b
    · subst e
      exact wpAny_isNot_self rfl ⟨.bl false, H, I, rfl, by simpa using q⟩
    · exact wpAny_isNot_other rfl (fun z => e (Value.bool.inj z)) ⟨.bl true, H, I, rfl, by simpa [e] using q⟩
end
end Fm
namespace Fm
open PySem PySem.Spec PyProof.Rows L2
theorem tupN_fill : fillsNumberSlot (.type "tuple") "mul" = pure false :=
  PySem.fillsNumberSlot_seq (id := "tuple.__mul__") (r := some (.builtin "tuple.__rmul__")) PySem.F.slot_tuple_mul.lookup (by decide +kernel)
    PySem.F.slot_tuple_rmul.lookup (by decide +kernel)
theorem tupN_rep : seqRepeat? (.type "tuple") = pure (some (.builtin "tuple.__mul__")) := by
  unfold seqRepeat?
  rw [PySem.seqSlot_of (T := "tuple") (name := "__mul__") (id := "tuple.__mul__") PySem.F.slot_tuple_mul.lookup (by decide +kernel)]
  rw [PySem.seqSlot_of (T := "tuple") (name := "__rmul__") (id := "tuple.__rmul__") PySem.F.slot_tuple_rmul.lookup (by decide +kernel)]
  rfl
theorem tupN_int (i : Int) (u : Tok) (b : Addr) (xs : Array Value) (n : Nat) (dd : Option Addr) (sl : Array (Option Value)) :
    Meets (Builtin.«int.__rmul__» ⟨[.int i u, .ref b], []⟩) (fun _ R s => s.heap.get? b = some { cls := .type "tuple", dict := dd, data := .seq xs n, slots := sl } ∧ R (.ok (.ret Value.notImplemented)) s) :=
  .of_wp fun prog w A R s h => by
    obtain ⟨hp, g, d, tk, os⟩ := s
    obtain ⟨hl, h⟩ := h
    wp_walk using wpAny_loadPart' hl
    exact ⟨_, rfl, h⟩
/-- t * 1 is t -/
theorem tupN_one (b : Addr) (xs : Array Value) (n : Nat) (dd : Option Addr) (sl : Array (Option Value)) (u : Tok) :
    Meets (Builtin.«tuple.__mul__» ⟨[.ref b, .int 1 u], []⟩) (fun _ R s => s.heap.get? b = some { cls := .type "tuple", dict := dd, data := .seq xs n, slots := sl } ∧ R (.ok (.ret (.ref b))) s) :=
  .of_wp fun prog w A R s h => by
    obtain ⟨hp, g, d, tk, os⟩ := s
    obtain ⟨hl, h⟩ := h
    have f1 := AutoSeq1.idx_int
    wp_walk using wpAny_loadPart' hl
    exact ⟨_, rfl, h⟩
/-- t * 0 is a new empty tuple -/
theorem tupN_zero (b : Addr) (xs : Array Value) (n : Nat) (dd : Option Addr) (sl : Array (Option Value)) (u : Tok) (hx : xs.isEmpty = false) :
    Meets (Builtin.«tuple.__mul__» ⟨[.ref b, .int 0 u], []⟩) (fun _ R s => s.heap.get? b = some { cls := .type "tuple", dict := dd, data := .seq xs n, slots := sl } ∧
      R (.ok (.ret (Value.ref s.heap.objs.size))) { s with heap := s.heap.push { cls := Value.type "tuple", data := Data.seq #[] }, toks := s.toks }) :=
  .of_wp fun prog w A R s h => by
    obtain ⟨hp, g, d, tk, os⟩ := s
    obtain ⟨hl, h⟩ := h
    have f1 := AutoSeq1.idx_int
    wp_walk using wpAny_loadPart' hl
    exact ⟨_, rfl, h⟩
section
variable {X : Cx}
/-- t * k, t one item, k 0 or 1 -/
def rRep1 (K : PySem.W.Frag) : R2 := fun x y H Q => ∃ l k v, x = .ref l ∧ y = .int k ∧ SqT K H l [v] ∧ (k = 0 ∨ k = 1) ∧ (k = 0 → ∀ p, H p = none → Q (.ref p) (upd H p (.tup []))) ∧ (k = 1 → Q (.ref l) H)
theorem op_rep1 : OpR X (binaryOp .Mult) (rRep1 X.K) := by
  intro pins s σ H x y v u Q I rx ry h
  obtain ⟨l, k, w1, rfl, rfl, hT, hk, q0, q1⟩ := h
  cases rx
  obtain ⟨t, rfl⟩ := ry
  obtain ⟨its, r, ⟨⟨cls, dd, data, sl⟩, ho, hc, n, hd⟩, hs⟩ := I.tuple hT
  simp only at hc hd
  subst hc hd
  have ne : its.toArray.isEmpty = false := by
    cases r with
    | cons r1 r2 => rfl
  have ty : s.TypeIs (.ref l) "tuple" := ⟨_, ho, rfl⟩
  rcases hk with rfl | rfl
  · refine wpAny_binaryOp_repeat_ref (T := "tuple") (U := "int") (by decide) ty (fun s' => typeIs_int s' 0 t) tupN_fill F.fills_int_mul F.slot_int_rmul tupN_rep F.slot_int_index.lookup
      (call_meets F.slot_int_rmul (typeIs_int s 0 t) F.entry_int_rmul (F.args_int_rmul_2 _ _) (tupN_int 0 t l its.toArray n dd sl) ⟨ho, rfl, ty, ?_⟩)
    refine call_meets F.slot_tuple_mul ty F.entry_tuple_mul (F.args_tuple_mul_2 _ _) (tupN_zero l its.toArray n dd sl t ne) ⟨ho, ?_⟩
    refine ⟨.ref s.heap.objs.size, _, I.laid (t' := s.toks) (o := .tup []) (fun b ob q => Heap.get?_push_of_some _ q) (Nat.le_refl _) ?_, rfl, q0 rfl _ (I.hok.fresh (Nat.le_refl _))⟩
    exact ⟨Nat.zero_le _, [], .nil, IsTup.new _ _⟩
  · refine wpAny_binaryOp_repeat_ref (T := "tuple") (U := "int") (by decide) ty (fun s' => typeIs_int s' 1 t) tupN_fill F.fills_int_mul F.slot_int_rmul tupN_rep F.slot_int_index.lookup
      (call_meets F.slot_int_rmul (typeIs_int s 1 t) F.entry_int_rmul (F.args_int_rmul_2 _ _) (tupN_int 1 t l its.toArray n dd sl) ⟨ho, rfl, ty, ?_⟩)
    exact call_meets F.slot_tuple_mul ty F.entry_tuple_mul (F.args_tuple_mul_2 _ _) (tupN_one l its.toArray n dd sl t) ⟨ho, ⟨.ref l, H, I, rfl, q1 rfl⟩⟩
end
end Fm
set_option maxRecDepth 100000
set_option maxHeartbeats 2000000
/-! Fm: values that a law makes, as trees over the abstract heap. -/
namespace Fm
open PySem PySem.Spec PyProof.Rows L2

inductive D where
  | non | bl (b : Bool) | int (i : Int) | str (x : Str) | tup (xs : List D) | lst (xs : List D) | dic
mutual
inductive Dv (H : Hp) : V → D → Prop
  | non : Dv H .non .non
  | bl (b : Bool) : Dv H (.bl b) (.bl b)
  | int (i : Int) : Dv H (.int i) (.int i)
  | str (x : Str) : PyData.strOk x = true → Dv H (.str x) (.str x)
  | tup {a : Addr} {xs : List V} {ds : List D} : H a = some (.tup xs) → DvL H xs ds → Dv H (.ref a) (.tup ds)
  | lst {a : Addr} {xs : List V} {ds : List D} : H a = some (.lst xs) → DvL H xs ds → Dv H (.ref a) (.lst ds)
  | dic {a : Addr} : H a = some (.dK []) → Dv H (.ref a) .dic
inductive DvL (H : Hp) : List V → List D → Prop
  | nil : DvL H [] []
  | cons {v : V} {vs : List V} {d : D} {ds : List D} : Dv H v d → DvL H vs ds → DvL H (v :: vs) (d :: ds)
end
mutual
theorem Dv.same {H H' : Hp} (k : Same H H') : ∀ (d : D) (v : V), Dv H v d → Dv H' v d
  | .non, _, h => by cases h; exact .non
  | .bl _, _, h => by cases h; exact .bl _
  | .int _, _, h => by cases h; exact .int _
  | .str _, _, h => by
    cases h with
    | str _ o => exact .str _ o
  | .tup ds, _, h => by
    cases h with
    | tup a b => exact .tup (k _ _ a) (DvL.same k ds _ b)
  | .lst ds, _, h => by
    cases h with
    | lst a b => exact .lst (k _ _ a) (DvL.same k ds _ b)
  | .dic, _, h => by
    cases h with
    | dic a => exact .dic (k _ _ a)
theorem DvL.same {H H' : Hp} (k : Same H H') : ∀ (ds : List D) (vs : List V), DvL H vs ds → DvL H' vs ds
  | [], _, h => by cases h; exact .nil
  | d :: ds, _, h => by
    cases h with
    | cons a b => exact .cons (Dv.same k d _ a) (DvL.same k ds _ b)
end
theorem DvL.len {H : Hp} : ∀ {vs : List V} {ds : List D}, DvL H vs ds → vs.length = ds.length
  | _, _, .nil => rfl
  | _, _, .cons _ h => congrArg (· + 1) (DvL.len h)
theorem DvL.app {H : Hp} : ∀ {vs : List V} {ds : List D} {us : List V} {es : List D}, DvL H vs ds → DvL H us es → DvL H (vs ++ us) (ds ++ es)
  | _, _, _, _, .nil, h => h
  | _, _, _, _, .cons a b, h => .cons a (DvL.app b h)
theorem DvL.get {H : Hp} : ∀ {vs : List V} {ds : List D} {i : Nat} {v : V}, DvL H vs ds → vs[i]? = some v → ∃ d, ds[i]? = some d ∧ Dv H v d
  | _, _, _, _, .nil, e => by simp at e
  | _, _, 0, _, .cons a b, e => by simp at e; subst e; exact ⟨_, rfl, a⟩
  | _, _, i + 1, _, .cons a b, e => by
    obtain ⟨d, h1, h2⟩ := DvL.get (i := i) b (by simpa using e)
    exact ⟨d, by simpa using h1, h2⟩
theorem DvL.getD {H : Hp} : ∀ {vs : List V} {ds : List D} {i : Nat} {d : D}, DvL H vs ds → ds[i]? = some d → ∃ v, vs[i]? = some v ∧ Dv H v d
  | _, _, _, _, .nil, e => by simp at e
  | _, _, 0, _, .cons a b, e => by simp at e; subst e; exact ⟨_, rfl, a⟩
  | _, _, i + 1, _, .cons a b, e => by
    obtain ⟨d, h1, h2⟩ := DvL.getD (i := i) b (by simpa using e)
    exact ⟨d, by simpa using h1, h2⟩
theorem DvL.drop {H : Hp} : ∀ {vs : List V} {ds : List D} (n : Nat), DvL H vs ds → DvL H (vs.drop n) (ds.drop n)
  | _, _, 0, h => h
  | _, _, _ + 1, .nil => .nil
  | _, _, n + 1, .cons _ h => DvL.drop n h
theorem DvL.take {H : Hp} : ∀ {vs : List V} {ds : List D} (n : Nat), DvL H vs ds → DvL H (vs.take n) (ds.take n)
  | _, _, 0, _ => .nil
  | _, _, _ + 1, .nil => .nil
  | _, _, n + 1, .cons a h => .cons a (DvL.take n h)
theorem DvL.set {H : Hp} {v : V} {d : D} (a : Dv H v d) : ∀ {vs : List V} {ds : List D} (n : Nat), DvL H vs ds → DvL H (vs.set n v) (ds.set n d)
  | _, _, _, .nil => .nil
  | _, _, 0, .cons _ h => .cons a h
  | _, _, n + 1, .cons b h => .cons b (DvL.set a n h)

/-! ### sizes, depths -/
mutual
def D.size : D → Nat
  | .str x => x.length + 1
  | .tup ds => sizes ds + 1
  | .lst ds => sizes ds + 1
  | _ => 1
def sizes : List D → Nat
  | [] => 0
  | d :: ds => d.size + sizes ds
end
mutual
def D.deep : D → Nat
  | .tup ds => deeps ds + 1
  | .lst ds => deeps ds + 1
  | _ => 0
def deeps : List D → Nat
  | [] => 0
  | d :: ds => max d.deep (deeps ds)
end
theorem sizes_app (a b : List D) : sizes (a ++ b) = sizes a + sizes b := by
  induction a with
  | nil => simp [sizes]
  | cons x r ih => simp only [List.cons_append, sizes, ih]; omega
theorem size_pos (d : D) : 1 ≤ d.size := by cases d <;> simp [D.size]
theorem len_sizes (ds : List D) : ds.length ≤ sizes ds := by
  induction ds with
  | nil => simp [sizes]
  | cons x r ih => have := size_pos x; simp only [List.length_cons, sizes]; omega
theorem sizes_drop (ds : List D) (n : Nat) : sizes (ds.drop n) ≤ sizes ds := by
  induction ds generalizing n with
  | nil => simp
  | cons x r ih =>
    cases n with
    | zero => simp
    | succ n => have := ih n; simp only [List.drop_succ_cons, sizes]; omega
theorem size_mem {d : D} {ds : List D} (h : d ∈ ds) : d.size ≤ sizes ds := by
  induction ds with
  | nil => cases h
  | cons x r ih =>
    simp only [sizes]
    rcases List.mem_cons.mp h with rfl | h
    · omega
    · have := ih h; omega
theorem deep_mem {d : D} {ds : List D} (h : d ∈ ds) : d.deep ≤ deeps ds := by
  induction ds with
  | nil => cases h
  | cons x r ih =>
    simp only [deeps]
    rcases List.mem_cons.mp h with rfl | h
    · omega
    · have := ih h; omega

/-! ### kinds -/
def tyN : D → String
  | .non => "NoneType" | .bl _ => "bool" | .int _ => "int" | .str _ => "str" | .tup _ => "tuple" | .lst _ => "list" | .dic => "dict"
theorem Dv.ty {K : PySem.W.Frag} {H : Hp} {v : V} {d : D} (h : Dv H v d) : TyX K H v (.type (tyN d)) := by
  cases h with
  | non => exact .base .non
  | bl b => exact .base (.bl b)
  | int i => exact .base (.int i)
  | str x _ => exact .base (.str x)
  | tup a _ => exact .base (.tup a)
  | lst a _ => exact .base (.lst a)
  | dic a => exact .base (.dK a)
def isI : D → Bool
  | .int _ => true | .bl _ => true | _ => false
def isB : D → Bool
  | .bl _ => true | _ => false
def isS : D → Bool
  | .str _ => true | _ => false
def isT : D → Bool
  | .tup _ => true | _ => false
def isL : D → Bool
  | .lst _ => true | _ => false
section
variable {K : PySem.W.Frag} (d : D)
theorem kit_I : PySem.W.kitOne K (.type (tyN d)) (.type "int") = some (isI d) := by cases d <;> exact kit_ty (by simp only [tyN, isI]; decide +kernel)
theorem kit_B : PySem.W.kitOne K (.type (tyN d)) (.type "bool") = some (isB d) := by cases d <;> exact kit_ty (by simp only [tyN, isB]; decide +kernel)
theorem kit_S : PySem.W.kitOne K (.type (tyN d)) (.type "str") = some (isS d) := by cases d <;> exact kit_ty (by simp only [tyN, isS]; decide +kernel)
theorem kit_T : PySem.W.kitOne K (.type (tyN d)) (.type "tuple") = some (isT d) := by cases d <;> exact kit_ty (by simp only [tyN, isT]; decide +kernel)
theorem kit_L : PySem.W.kitOne K (.type (tyN d)) (.type "list") = some (isL d) := by cases d <;> exact kit_ty (by simp only [tyN, isL]; decide +kernel)
end
/-- isinstance(x, T) of data, told -/
theorem isi_I {K : PySem.W.Frag} {H : Hp} {v : V} {d : D} {Q : VK} (h : Dv H v d) (q : Q (.bl (isI d)) H) : rIsi K [v, .ty "int"] H Q := ⟨_, _, _, _, _, rfl, .ty _, h.ty, kit_I d, q⟩
theorem isi_B {K : PySem.W.Frag} {H : Hp} {v : V} {d : D} {Q : VK} (h : Dv H v d) (q : Q (.bl (isB d)) H) : rIsi K [v, .ty "bool"] H Q := ⟨_, _, _, _, _, rfl, .ty _, h.ty, kit_B d, q⟩
theorem isi_S {K : PySem.W.Frag} {H : Hp} {v : V} {d : D} {Q : VK} (h : Dv H v d) (q : Q (.bl (isS d)) H) : rIsi K [v, .ty "str"] H Q := ⟨_, _, _, _, _, rfl, .ty _, h.ty, kit_S d, q⟩
theorem isi_T {K : PySem.W.Frag} {H : Hp} {v : V} {d : D} {Q : VK} (h : Dv H v d) (q : Q (.bl (isT d)) H) : rIsi K [v, .ty "tuple"] H Q := ⟨_, _, _, _, _, rfl, .ty _, h.ty, kit_T d, q⟩

/-! ### names, outcomes, terms -/
def letters : Str := "abcdefghijklmnopqrstuvwxyz"
def signOk (x : Str) : Bool := !(Builtin.Str.occurrences letters x 0 letters.length 1).isEmpty
def signs (s : Str) : List Str := s.cps.toList.map fun c => ⟨#[c]⟩
def isNameS (s : Str) : Bool := decide (1 ≤ s.length) && decide (s.length ≤ 8) && (signs s).all signOk
def isName : D → Bool
  | .str s => isNameS s
  | _ => false
def isWhole : D → Bool
  | .int _ => true | _ => false
def cutLast (s : Str) : Str := cutS s none (some (-1))
def isOutS (s : Str) : Bool := isNameS s || (Txt.endswith s "-" && isNameS (cutLast s))
def isOut : D → Bool
  | .str s => isOutS s
  | _ => false
mutual
def isTerm : D → Bool
  | .int i => decide (0 ≤ i)
  | .tup ds => isTermT ds
  | _ => false
def isTermT : List D → Bool
  | [] => false
  | x :: r => decide (r.length ≤ 3) && isName x && areTerms r
def areTerms : List D → Bool
  | [] => true
  | d :: ds => isTerm d && areTerms ds
end
theorem areTerms_app (a b : List D) : areTerms (a ++ b) = (areTerms a && areTerms b) := by
  induction a with
  | nil => simp [areTerms]
  | cons x r ih => simp only [List.cons_append, areTerms, ih, Bool.and_assoc]
theorem areTerms_all (a : List D) : areTerms a = a.all isTerm := by
  induction a with
  | nil => rfl
  | cons x r ih => simp only [areTerms, List.all_cons, ih]
end Fm
set_option maxRecDepth 100000
set_option maxHeartbeats 2000000
/-! Fm: rules in other readings. -/
namespace Fm
open PySem PySem.Spec PyProof.Rows L2
section
variable {X : Cx} {e c : Expr} {t t' te : TE} {p pos : Pos}
theorem peI (h : PE X e t) (k : ∀ σ H Q, t' σ H Q → t σ H Q) : PE X e t' := ⟨fun pins s σ H Q I q => h.run pins s σ H Q I (k σ H Q q)⟩
/-- isinstance(x, T) of data -/
def tIs (f : D → Bool) (te : TE) : TE := fun σ H Q => te σ H fun v H1 => ∃ d, Dv H1 v d ∧ Q (.bl (f d)) H1
/-- how a reading of an expression grows with what is wanted: asked where it is re-read -/
def MonE (te : TE) : Prop := ∀ σ H (Q Q' : VK), (∀ v H1, Q v H1 → Q' v H1) → te σ H Q → te σ H Q'
theorem mon_var {i : Nat} : MonE (tVar i) := fun _ _ _ _ k ⟨v, a, b⟩ => ⟨v, a, k _ _ b⟩
theorem pe_isD {n : String} {f : D → Bool} (hk : ∀ K d, PySem.W.kitOne K (.type (tyN d)) (.type n) = some (f d)) (hm : X.mg "isinstance" = none) (he : PE X e te) (hc : PE X c (tC (.ty n))) (mo : MonE te)
    (hg : Gl X "isinstance" := by rfl) (h1 : starEach [e, c] X.env = (false, eval e X.env) :: starEach [c] X.env := by rfl) (h2 : starEach [c] X.env = (false, eval c X.env) :: starEach [] X.env := by rfl)
    (h3 : (backTo pos (starEach [c] X.env)).any (·.1) = false := by rfl) : PE X (.Call (.Name "isinstance" p) [e, c] [] pos) (tIs f te) := by
  refine peI (pe_callB call_isi hg hm (by decide +kernel) (pa_cons he (pa_cons hc pa_nil h2) h1) (he := h1) (hpl := h3)) ?_
  intro σ H Q h
  refine mo σ H _ _ ?_ h
  rintro v H1 ⟨d, hd, q⟩
  exact ⟨v, .ty n, _, _, f d, rfl, .ty n, hd.ty, hk _ d, q⟩
def isTL : D → Bool
  | .tup _ => true | .lst _ => true | _ => false
/-- isinstance(x, (tuple, list)) -/
def tIs2 (te : TE) : TE := fun σ H Q => te σ H fun v H1 => ∃ d, Dv H1 v d ∧ ∀ p, H1 p = none → Q (.bl (isTL d)) (upd H1 p (.tup [.ty "tuple", .ty "list"]))
theorem pe_isD2 {a b : Expr} {k2} {pt : Pos} (hm : X.mg "isinstance" = none) (he : PE X e te) (ha : PE X a (tC (.ty "tuple"))) (hb : PE X b (tC (.ty "list"))) (mo : MonE te)
    (hg : Gl X "isinstance" := by rfl) (h1 : starEach [e, .Tuple [a, b] k2 pt] X.env = (false, eval e X.env) :: starEach [.Tuple [a, b] k2 pt] X.env := by rfl)
    (h2 : starEach [.Tuple [a, b] k2 pt] X.env = (false, eval (.Tuple [a, b] k2 pt) X.env) :: starEach [] X.env := by rfl) (h3 : (backTo pos (starEach [.Tuple [a, b] k2 pt] X.env)).any (·.1) = false := by rfl)
    (h4 : starEach [a, b] X.env = (false, eval a X.env) :: starEach [b] X.env := by rfl) (h5 : starEach [b] X.env = (false, eval b X.env) :: starEach [] X.env := by rfl) :
    PE X (.Call (.Name "isinstance" p) [e, .Tuple [a, b] k2 pt] [] pos) (tIs2 te) := by
  refine peI (pe_callB call_isiT hg hm (by decide +kernel) (pa_cons he (pa_cons (pe_tup (pa_cons ha (pa_cons hb pa_nil h5) h4)) pa_nil h2) h1) (he := h1) (hpl := h3)) ?_
  intro σ H Q h
  refine mo σ H _ _ ?_ h
  rintro v H1 ⟨d, hd, q⟩
  refine ⟨by decide, fun p hp => ?_⟩
  have hd' : Dv (upd H1 p (.tup [.ty "tuple", .ty "list"])) v d := hd.same (fun a o q => by rw [upd_ne (ne_of_none q hp)]; exact q) _ _
  refine ⟨v, p, _, _, [.type "tuple", .type "list"], isTL d, rfl, upd_same, .cons (.ty _) (.cons (.ty _) .nil), hd'.ty, ?_, q p hp⟩
  refine kitAny_cons (kit_T d) (fun z => kitAny_cons (kit_L d) (fun y => ?_) (fun y => ?_)) (fun z => ?_)
  · have : isTL d = false := by cases d <;> simp_all [isT, isL, isTL]
    rw [this]
    exact kitAny_nil
  · cases d <;> simp_all [isT, isL, isTL]
  · cases d <;> simp_all [isT, isTL]
end
end Fm
namespace Fm
open PySem PySem.Spec PyProof.Rows L2
theorem Same.new {H : Hp} {p : Addr} {o : HO} (h : H p = none) : Same H (upd H p o) := fun a u e => by
  rw [upd_ne (ne_of_none e h)]
  exact e
theorem Same.upd {H H' : Hp} {p : Addr} {o : HO} (k : Same H H') (h : H p = none) : Same H (upd H' p o) := fun a u e => by
  rw [upd_ne (ne_of_none e h)]
  exact k a u e
theorem sz {n : Nat} (h : n ≤ 10000000) : n ≤ sizeLine := Nat.le_trans h (by decide)
theorem szl {n : Nat} (h : n ≤ 10000000) : n < sizeLine := Nat.lt_of_le_of_lt h (by decide)
theorem signs_len (s : Str) : (signs s).length = s.length := by
  unfold signs Str.length
  simp
theorem signs_get {s : Str} {i c : Nat} (h : s.cps[i]? = some c) : (signs s)[i]? = some ⟨#[c]⟩ := by
  unfold signs
  rw [List.getElem?_map]
  have : s.cps.toList[i]? = some c := by simpa using h
  rw [this]
  rfl
theorem take_succ' {α : Type} {l : List α} {i : Nat} {x : α} (h : l[i]? = some x) : l.take (i + 1) = l.take i ++ [x] := by
  rw [List.take_add_one, h]
  rfl
/-- [f(c) for c in s], f read off each sign by its text -/
theorem lc_signs {K : PySem.W.Frag} {te : TE} {tt : TT} {σ : L2.St} {H : Hp} {s : Str} {j : Nat} {vs : List Nat} {Dl : Addr} {Qd : Hp → Prop} (f : Str → V) (keep : Str → Bool) (hD : H Dl = none) (hz : s.length ≤ 100000)
    (hw : ∀ x, wipe ((wipe σ vs).set j (some x)) vs = wipe σ vs)
    (he : ∀ (x : Str) (H' : Hp) (R : Bool → Hp → Prop), Same H H' → R (keep x) H' → tt ((wipe σ vs).set j (some (.str x))) H' R)
    (hv : ∀ (x : Str) (H' : Hp) (R : VK), Same H H' → keep x = true → R (f x) H' → te ((wipe σ vs).set j (some (.str x))) H' R)
    (q : ∀ H', Same H H' → H' Dl = some (.lst (((signs s).filter keep).map f)) → Qd H') :
    ∃ W : Nat → Nat → Hp → Prop, (∃ m, W 0 m (upd H Dl (.lst []))) ∧ ∀ i m H, W i m H → ((Its s).stop i H ∧ Qd H) ∨ ((Its s).go i H ∧ ∃ Nx : Hp → Prop, (∀ H', Nx H' → ∃ m', m' < m ∧ W (i + 1) m' H') ∧
      ∀ x H', (Its s).yld i H x H' → gName j x (wipe σ vs) H' fun σ2 H2 => wipe σ2 vs = wipe σ vs ∧ tt σ2 H2 fun b H3 => if b = true then te σ2 H3 fun y H4 => ∃ acc, H4 Dl = some (.lst acc) ∧ acc.length < sizeLine ∧ Nx (upd H4 Dl (.lst (acc ++ [y]))) else Nx H3) := by
  refine lc_it (walk_str (z := s)) (fun i H' => Same H H' ∧ H' Dl = some (.lst ((((signs s).take i).filter keep).map f))) ⟨Same.new hD, upd_same⟩ (fun _ _ _ _ => trivial) ?_ ?_
  · rintro i x H1 H2 hi ⟨k, hl⟩ ⟨rfl, c, hc, rfl⟩
    refine ⟨hw _, he _ _ _ k ?_⟩
    have e1 := take_succ' (signs_get hc)
    by_cases hk : keep ⟨#[c]⟩ = true
    · rw [hk]
      refine iteT (hv _ _ _ k hk ⟨_, hl, ?_, Same.upd k hD, ?_⟩)
      · rw [List.length_map]
        refine szl (Nat.le_trans (List.length_filter_le _ _) ?_)
        rw [List.length_take, signs_len]
        omega
      · rw [e1, List.filter_append, List.map_append, List.filter_cons, if_pos hk]
        exact upd_same
    · have hf : keep ⟨#[c]⟩ = false := by simpa using hk
      rw [hf]
      refine iteF ⟨k, ?_⟩
      rw [e1, List.filter_append, List.map_append, List.filter_cons, if_neg (by rw [hf]; decide)]
      simpa using hl
  · rintro H' ⟨k, hl⟩
    refine q H' k ?_
    have : (signs s).take s.cps.size = signs s := List.take_of_length_le (by rw [signs_len]; exact Nat.le_refl _)
    rw [this] at hl
    exact hl
end Fm
namespace Fm
open PySem PySem.Spec PyProof.Rows L2
theorem ite_b {c : Bool} {A B : Prop} (h1 : c = true → A) (h0 : c = false → B) : if c = true then A else B := by
  cases c with
  | true => exact iteT (h1 rfl)
  | false => exact iteF (h0 rfl)
theorem cutV_one (us : List V) (h : 1 ≤ us.length) : cutV us (some 1) none = us.drop 1 ∧ ¬ (HT.sIx us.length 0 (some 1) = 0 ∧ HT.sIx us.length us.length none = us.length) := by
  have e : HT.sIx us.length 0 (some 1) = 1 := by
    have := HT.sIx_nat us.length 0 1
    have z : ((1 : Nat) : Int) = 1 := rfl
    rw [z] at this
    rw [this]
    omega
  constructor
  · unfold cutV
    rw [e]
    exact List.take_of_length_le (by rw [List.length_drop]; exact Nat.le_refl _)
  · rintro ⟨a, _⟩
    rw [e] at a
    cases a
theorem last_split {vs : List V} {ds : List D} {H : Hp} (h : DvL H vs ds) (ne : vs ≠ []) : ∃ y d es, vs[vs.length - 1]? = some y ∧ ds = es ++ [d] ∧ DvL H vs.dropLast es ∧ Dv H y d := by
  have n1 : ds ≠ [] := by
    intro e
    have := h.len
    rw [e] at this
    exact ne (List.length_eq_zero_iff.mp this)
  have l := h.len
  have pos : 0 < vs.length := List.length_pos_iff.mpr ne
  have e0 : ds[vs.length - 1]? = some (ds.getLast n1) := by
    rw [List.getLast_eq_getElem, l]
    exact List.getElem?_eq_getElem (by omega)
  obtain ⟨y, hy, hd⟩ := h.getD e0
  refine ⟨y, ds.getLast n1, ds.dropLast, hy, (List.dropLast_concat_getLast n1).symm, ?_, hd⟩
  have t := h.take (vs.length - 1)
  rw [List.dropLast_eq_take, List.dropLast_eq_take, ← l]
  exact t
end Fm
namespace Fm
open PySem PySem.Spec PyProof.Rows L2
theorem filt {α : Type} (l : List α) : l.filter (fun _ => true) = l := List.filter_eq_self.mpr fun _ _ => rfl
theorem len_last {x : Str} : (cutLast x).length ≤ x.length := by
  unfold cutLast cutS Str.length
  simp
  omega
end Fm
namespace Fm
open PySem PySem.Spec PyProof.Rows L2
theorem deeps_app (a b : List D) : deeps (a ++ b) = max (deeps a) (deeps b) := by
  induction a with
  | nil => simp [deeps]
  | cons x r ih => simp only [List.cons_append, deeps, ih]; omega
end Fm
namespace Fm
open PySem PySem.Spec PyProof.Rows L2
theorem dp_strs {K : PySem.W.Frag} {H : Hp} {p : Addr} {xs : List Str} (h : SqL K H p (xs.map V.str)) : Dp K H (.ref p) (.list (xs.map PyData.str)) := by
  refine .lst h ?_
  clear h
  induction xs with
  | nil => exact .nil
  | cons x r ih => exact .cons (.str x) ih
theorem lay_strs {xs : List Str} (h : ∀ x ∈ xs, PyData.strOk x = true) : PyData.canLayAll0 (xs.map PyData.str) = true := by
  induction xs with
  | nil => simp [PyData.canLayAll0]
  | cons x r ih =>
    have h1 := h x List.mem_cons_self
    have h2 := ih fun y hy => h y (List.mem_cons_of_mem _ hy)
    simp [PyData.canLayAll0, PyData.canLay0, h1, h2]
theorem deep_strs (xs : List Str) : PyData.depthAll (xs.map PyData.str) ≤ 1 := by
  induction xs with
  | nil => simp [PyData.depthAll]
  | cons x r ih => simp [PyData.depthAll, PyData.depth]; omega
theorem shaped_strs {xs : List Str} (h : ∀ x ∈ xs, PyData.strOk x = true) : SeqAt.shaped (.list (xs.map PyData.str)) = true := by
  unfold SeqAt.shaped
  have h1 := lay_strs h
  have h2 := deep_strs xs
  simp [PyData.canLay0, PyData.depth, h1]
  omega
theorem ok_signs {x y : Str} (h : PyData.strOk x = true) (hy : y ∈ signs x) : PyData.strOk y = true := by
  unfold signs at hy
  obtain ⟨c, hc, rfl⟩ := List.mem_map.mp hy
  unfold PyData.strOk at h ⊢
  have := (Array.all_eq_true_iff_forall_mem.mp h) c (by simpa using hc)
  simpa using this
theorem ok_part {x y : Str} (h : PyData.strOk x = true) (hy : ∀ c ∈ y.cps.toList, c ∈ x.cps.toList) : PyData.strOk y = true := by
  unfold PyData.strOk at h ⊢
  refine Array.all_eq_true_iff_forall_mem.mpr fun c hc => ?_
  exact (Array.all_eq_true_iff_forall_mem.mp h) c (by simpa using hy c (by simpa using hc))
theorem ok_cut {x : Str} {lo hi : Option Int} (h : PyData.strOk x = true) : PyData.strOk (cutS x lo hi) = true := by
  refine ok_part h fun c hc => ?_
  unfold cutS at hc
  simp only [List.toList_toArray] at hc
  exact List.mem_of_mem_drop (List.mem_of_mem_take hc)
theorem eqv_nil (xs : List PyData) : PyData.eqv (.list xs) (.list []) = xs.isEmpty := by
  cases xs <;> simp [PyData.eqv, PyData.eqvAll]
end Fm
namespace Fm
open PySem PySem.Spec PyProof.Rows L2
theorem last_sign {x : Str} (h : 1 ≤ x.length) : ∃ c, x.cps.toList[x.length - 1]? = some c ∧ Txt.endswith x "-" = decide (V.str ⟨#[c]⟩ = V.str "-") := by
  have l : x.cps.toList.length = x.length := by simp [Str.length]
  have lt : x.length - 1 < x.cps.size := by
    have : x.cps.size = x.length := rfl
    omega
  refine ⟨x.cps[x.length - 1], by rw [List.getElem?_eq_getElem (by omega)]; simp, ?_⟩
  unfold Txt.endswith Builtin.Str.subAt
  have e1 : (("-" : String) : Str).length = 1 := rfl
  have e2 : x.cps.extract (x.length - 1) (x.length - 1 + 1) = #[x.cps[x.length - 1]] := by
    apply Array.ext
    · simp [Array.size_extract]
      have : x.cps.size = x.length := rfl
      omega
    · intro i h1 h2
      simp only [List.size_toArray, List.length_cons, List.length_nil] at h2
      have i0 : i = 0 := by omega
      subst i0
      simp [Array.getElem_extract]
  rw [e1, e2]
  have e3 : decide (0 + 1 ≤ x.length) = true := decide_eq_true (by omega)
  rw [e3, Bool.true_and]
  rw [Bool.eq_iff_iff, beq_iff_eq, decide_eq_true_iff]
  constructor
  · intro q
    rw [q]
  · intro q
    injection q with q
    exact congrArg Str.cps q
end Fm
namespace Fm
open PySem PySem.Spec PyProof.Rows L2
theorem cutLast_len (x : Str) : (cutLast x).length = x.length - 1 := by
  unfold cutLast cutS
  have e1 : HT.sIx x.length 0 none = 0 := rfl
  have e2 : HT.sIx x.length x.length (some (-1)) = x.length - 1 := by
    show (if (-1 : Int) < 0 then ((-1 : Int) + (x.length : Int)).toNat else min (-1 : Int).toNat x.length) = _
    rw [if_pos (by decide)]
    omega
  rw [e1, e2]
  have l : x.cps.toList.length = x.length := by simp [Str.length]
  show (List.toArray _).size = _
  rw [List.size_toArray, List.length_take, List.length_drop]
  omega
end Fm
namespace Fm
open PySem PySem.Spec PyProof.Rows L2
theorem in_1234 (n : Nat) : inV (.int (n : Int)) [.int 1, .int 2, .int 3, .int 4] = decide (1 ≤ n ∧ n ≤ 4) := by
  rw [Bool.eq_iff_iff]
  simp only [inV, List.any_cons, List.any_nil, eqV, Bool.or_false, Bool.or_eq_true, beq_iff_eq, decide_eq_true_iff]
  omega
theorem tk {α : Type} {l : List α} {i : Nat} {x : α} (h : l[i]? = some x) : x ∈ l := List.mem_of_getElem? h
/-- [f(x) for x in xs] over a tuple of data, f a def that leaves what stood -/
theorem lc_tupD {K : PySem.W.Frag} {te : TE} {tt : TT} {σ : L2.St} {H : Hp} {a : Addr} {xs : List V} {ds : List D} {j : Nat} {vs : List Nat} {Dl : Addr} {Qd : Hp → Prop} (f : D → V) (hT : SqT K H a xs) (hd : DvL H xs ds) (hD : H Dl = none) (hz : xs.length ≤ 100000)
    (hw : ∀ x, wipe ((wipe σ vs).set j (some x)) vs = wipe σ vs)
    (he : ∀ σ' H' (R : Bool → Hp → Prop), R true H' → tt σ' H' R)
    (hv : ∀ (x : V) (d : D) (H' : Hp) (R : VK), Same H H' → d ∈ ds → Dv H x d → (∀ H2, Same H' H2 → R (f d) H2) → te ((wipe σ vs).set j (some x)) H' R)
    (q : ∀ H', Same H H' → H' Dl = some (.lst (ds.map f)) → Qd H') :
    ∃ W : Nat → Nat → Hp → Prop, (∃ m, W 0 m (upd H Dl (.lst []))) ∧ ∀ i m H, W i m H → ((Itt K a).stop i H ∧ Qd H) ∨ ((Itt K a).go i H ∧ ∃ Nx : Hp → Prop, (∀ H', Nx H' → ∃ m', m' < m ∧ W (i + 1) m' H') ∧
      ∀ x H', (Itt K a).yld i H x H' → gName j x (wipe σ vs) H' fun σ2 H2 => wipe σ2 vs = wipe σ vs ∧ tt σ2 H2 fun b H3 => if b = true then te σ2 H3 fun y H4 => ∃ acc, H4 Dl = some (.lst acc) ∧ acc.length < sizeLine ∧ Nx (upd H4 Dl (.lst (acc ++ [y]))) else Nx H3) := by
  have hlen := hd.len
  have st : ∀ H', Same H H' → SqT K H' a xs := fun H' k => Evl.ex_t k hT
  refine lc_tup (fun i H' => Same H H' ∧ H' Dl = some (.lst ((ds.take i).map f))) ⟨Same.new hD, upd_same⟩ (fun i H' _ p => st H' p.1) ?_ ?_
  · rintro i x H1 hx ⟨k, hl⟩
    refine ⟨hw _, he _ _ _ ?_⟩
    rw [if_pos rfl]
    obtain ⟨d, e1, hd1⟩ := hd.get hx
    refine hv x d H1 _ k (tk e1) hd1 fun H2 k2 => ⟨_, k2 _ _ hl, ?_, Same.upd (k.trans k2) hD, ?_⟩
    · rw [List.length_map]
      refine szl ?_
      rw [List.length_take]
      omega
    · rw [take_succ' e1, List.map_append]
      exact upd_same
  · rintro H' ⟨k, hl⟩
    refine q H' k ?_
    have : ds.take xs.length = ds := List.take_of_length_le (by omega)
    rw [this] at hl
    exact hl
end Fm
set_option maxRecDepth 100000
set_option maxHeartbeats 2000000
/-! Fm: the bag that a law draws from: a list of three ints and a list of ints; what is drawn is any int below a bound. -/
namespace Fm
open PySem PySem.Spec PyProof.Rows L2
/-- the heap without the bag -/
def mask (b : Addr) (H : Hp) : Hp := fun a => if a = b then none else H a
theorem mask_ne {b a : Addr} {H : Hp} (h : a ≠ b) : mask b H a = H a := if_neg h
theorem unmask {b : Addr} {H : Hp} : Same (mask b H) H := fun a o e => by
  unfold mask at e
  split at e
  · cases e
  · exact e
theorem mask_same {b : Addr} {H H' : Hp} (k : Same H H') : Same (mask b H) (mask b H') := fun a o e => by
  have e' := unmask _ _ e
  have n : a ≠ b := fun z => by
    rw [z] at e
    simp [mask] at e
  rw [mask_ne n]
  exact k _ _ e'
theorem mask_updb {b : Addr} {H : Hp} {o : HO} : mask b (upd H b o) = mask b H := by
  funext a
  unfold mask
  split
  · rfl
  · rename_i n
    exact upd_ne n
structure BagAt (b p : Addr) (H : Hp) (s m k : Int) (cells : List Int) : Prop where
  at_b : H b = some (.lst [.int s, .int m, .int k, .ref p])
  at_p : H p = some (.lst (cells.map V.int))
  ne : p ≠ b
  s0 : 0 ≤ s
  m0 : 0 ≤ m
  m1 : m < 2147483647
  k0 : 0 ≤ k
  c0 : ∀ c ∈ cells, 0 ≤ c
def Bag (b p : Addr) (H : Hp) : Prop := ∃ s m k cells, BagAt b p H s m k cells
theorem Bag.same {b p : Addr} {H H' : Hp} (B : Bag b p H) (k : Same H H') : Bag b p H' := by
  obtain ⟨s, m, n, cells, h1, h2, h3, h4, h5, h6, h7, h8⟩ := B
  exact ⟨s, m, n, cells, k _ _ h1, k _ _ h2, h3, h4, h5, h6, h7, h8⟩
/-- the bag has gone on, all else stands -/
structure Go (b p : Addr) (H H' : Hp) : Prop where
  k : Same (mask b H) (mask b H')
  B : Bag b p H'
section
variable {b p : Addr} {H H' H2 : Hp}
theorem Go.of (B : Bag b p H) (k : Same H H') : Go b p H H' := ⟨mask_same k, B.same k⟩
theorem Go.refl (B : Bag b p H) : Go b p H H := ⟨Same.refl _, B⟩
theorem Go.trans (g : Go b p H H') (g2 : Go b p H' H2) : Go b p H H2 := ⟨g.k.trans g2.k, g2.B⟩
theorem Go.same (g : Go b p H H') (k : Same H' H2) : Go b p H H2 := g.trans (.of g.B k)
theorem Go.new {q : Addr} {o : HO} (g : Go b p H H') (h : H' q = none) : Go b p H (upd H' q o) := g.same (Same.new h)
theorem Bag.b_ne (B : Bag b p H) {l : Addr} (h : H l = none) : l ≠ b := by
  obtain ⟨s, m, n, cells, h1, _⟩ := B
  exact fun z => by
    rw [z, h1] at h
    cases h
theorem Go.free (g : Go b p H H') {l : Addr} (h : H' l = none) : H l = none := by
  have n := g.B.b_ne h
  cases e : H l with
  | none => rfl
  | some o =>
    have e1 := g.k l o (by rw [mask_ne n]; exact e)
    rw [mask_ne n, h] at e1
    cases e1
/-- an object that was not there at the start changes -/
theorem Go.mut {l : Addr} {o : HO} (B : Bag b p H) (g : Go b p H H') (h : H l = none) : Go b p H (upd H' l o) := by
  have nb := B.b_ne h
  obtain ⟨s, m, n, cells, h1, h2, h3, h4, h5, h6, h7, h8⟩ := B
  have np : p ≠ l := fun z => by
    rw [z, h] at h2
    cases h2
  obtain ⟨s', m', n', cells', g1, g2, g3, g4, g5, g6, g7, g8⟩ := g.B
  refine ⟨fun a u e => ?_, s', m', n', cells', ?_, ?_, g3, g4, g5, g6, g7, g8⟩
  · have na : a ≠ b := fun z => by
      rw [z] at e
      simp [mask] at e
    have nl : a ≠ l := fun z => by
      rw [z, mask_ne nb, h] at e
      cases e
    have e1 := g.k a u e
    rw [mask_ne na] at e1 ⊢
    rw [upd_ne nl]
    exact e1
  · rw [upd_ne nb.symm]
    exact g1
  · rw [upd_ne np]
    exact g2
theorem Go.dv {v : V} {d : D} (g : Go b p H H') (h : Dv (mask b H) v d) : Dv (mask b H') v d := h.same g.k _ _
theorem Go.dvl {vs : List V} {ds : List D} (g : Go b p H H') (h : DvL (mask b H) vs ds) : DvL (mask b H') vs ds := h.same g.k _ _
theorem Dv.un {v : V} {d : D} (h : Dv (mask b H) v d) : Dv H v d := h.same unmask _ _
theorem DvL.un {vs : List V} {ds : List D} (h : DvL (mask b H) vs ds) : DvL H vs ds := h.same unmask _ _
theorem Go.at {q : Addr} {o : HO} (g : Go b p H H') (n : q ≠ b) (h : H q = some o) : H' q = some o := by
  have := g.k q o (by rw [mask_ne n]; exact h)
  rw [mask_ne n] at this
  exact this
end
/-- _law_take: an int below n -/
def spTake : Sp := fun vs H Q _ => ∃ b p n, vs = [.ref b, .int n] ∧ Bag b p H ∧ 0 < n ∧ n ≤ 1000000 ∧ ∀ i H', 0 ≤ i → i < n → Go b p H H' → Q (.int i) H'
end Fm
namespace Fm
open PySem PySem.Spec PyProof.Rows L2
/-- what stands in H2 and not yet in H -/
def newof (H H2 : Hp) : Hp := fun a => match H a with
  | none => H2 a
  | some _ => none
section
variable {b p : Addr} {H H1 H2 H3 : Hp}
theorem newof_of {a : Addr} {o : HO} (h : H a = none) (h2 : H2 a = some o) : newof H H2 a = some o := by
  unfold newof
  rw [h]
  exact h2
theorem newof_is {a : Addr} {o : HO} (h : newof H H2 a = some o) : H a = none ∧ H2 a = some o := by
  unfold newof at h
  cases e : H a with
  | none =>
    rw [e] at h
    exact ⟨rfl, h⟩
  | some u =>
    rw [e] at h
    cases h
theorem newof_sub : Same (newof H H2) H2 := fun _ _ h => (newof_is h).2
theorem newof_mask (B : Bag b p H) : Same (newof H H2) (mask b H2) := fun a o h => by
  obtain ⟨h1, h2⟩ := newof_is h
  rw [mask_ne (B.b_ne h1)]
  exact h2
theorem newof_go (B : Bag b p H) (g : Go b p H1 H2) : Same (newof H H1) (newof H H2) := fun a o h => by
  obtain ⟨h1, h2⟩ := newof_is h
  exact newof_of h1 (g.at (B.b_ne h1) h2)
theorem newof_same (k : Same H1 H2) : Same (newof H H1) (newof H H2) := fun a o h => by
  obtain ⟨h1, h2⟩ := newof_is h
  exact newof_of h1 (k _ _ h2)
theorem newof_lift (f : ∀ a, H1 a = none → H a = none) : Same (newof H1 H2) (newof H H2) := fun a o h => by
  obtain ⟨h1, h2⟩ := newof_is h
  exact newof_of (f _ h1) h2
theorem newof_upd {l : Addr} {o u : HO} (h : H l = some u) : newof H (upd H2 l o) = newof H H2 := by
  funext a
  unfold newof
  cases e : H a with
  | none =>
    show upd H2 l o a = H2 a
    exact upd_ne fun z => by
      rw [z, h] at e
      cases e
  | some _ => rfl
end
/-- [e for k in range(n)], each turn draws from the bag and gives new data -/
theorem lc_bagS {te : TE} {tt : TT} {σ : L2.St} {H : Hp} {b p : Addr} {j n : Nat} {vs : List Nat} {Dl : Addr} {Qd : Hp → Prop} (good : D → Prop) (B : Bag b p H) (hD : H Dl = none) (hz : n ≤ 100000)
    (hw : ∀ x, wipe ((wipe σ vs).set j (some x)) vs = wipe σ vs) (he : ∀ σ' H' (R : Bool → Hp → Prop), R true H' → tt σ' H' R)
    (hv : ∀ (i : Nat) (H' : Hp) (R : VK), i < n → Go b p H H' → (∀ y d H2, Go b p H' H2 → Dv (newof H' H2) y d → good d → R y H2) → te ((wipe σ vs).set j (some (.int (i : Int)))) H' R)
    (q : ∀ H' acc ds, Go b p H H' → H' Dl = some (.lst acc) → DvL (newof (upd H Dl (.lst [])) H') acc ds → (∀ d ∈ ds, good d) → ds.length = n → Qd H') :
    ∃ W : Nat → Nat → Hp → Prop, (∃ m, W 0 m (upd H Dl (.lst []))) ∧ ∀ i m H, W i m H → ((Itr 0 n).stop i H ∧ Qd H) ∨ ((Itr 0 n).go i H ∧ ∃ Nx : Hp → Prop, (∀ H', Nx H' → ∃ m', m' < m ∧ W (i + 1) m' H') ∧
      ∀ x H', (Itr 0 n).yld i H x H' → gName j x (wipe σ vs) H' fun σ2 H2 => wipe σ2 vs = wipe σ vs ∧ tt σ2 H2 fun b H3 => if b = true then te σ2 H3 fun y H4 => ∃ acc, H4 Dl = some (.lst acc) ∧ acc.length < sizeLine ∧ Nx (upd H4 Dl (.lst (acc ++ [y]))) else Nx H3) := by
  have nb := B.b_ne hD
  refine lc_range (lo := 0) (fun i H' => Go b p H H' ∧ ∃ acc ds, H' Dl = some (.lst acc) ∧ DvL (newof (upd H Dl (.lst [])) H') acc ds ∧ (∀ d ∈ ds, good d) ∧ ds.length = i)
    ⟨(Go.refl B).new hD, [], [], upd_same, .nil, fun _ h => (by cases h), rfl⟩ ?_ ?_
  · rintro i H1 hi ⟨g, acc, ds, hl, hds, hg, hn⟩
    refine ⟨hw _, he _ _ _ ?_⟩
    rw [if_pos rfl]
    have e0 : (0 : Int) + (i : Int) = (i : Int) := by omega
    rw [e0]
    refine hv i H1 _ hi g fun y d H2 g2 hy gd => ⟨acc, g2.at nb hl, ?_, (g.trans g2).mut B hD, acc ++ [y], ds ++ [d], upd_same, ?_, ?_, ?_⟩
    · have := hds.len
      exact szl (by omega)
    · have hDl : (upd H Dl (.lst [])) Dl = some (.lst []) := upd_same
      rw [newof_upd hDl]
      have B1 : Bag b p (upd H Dl (.lst [])) := ((Go.refl B).new hD).B
      refine (hds.same (newof_go B1 g2) _ _).app (.cons (hy.same (newof_lift fun a ha => ?_) _ _) .nil)
      have n1 : a ≠ Dl := fun z => by
        rw [z, hl] at ha
        cases ha
      rw [upd_ne n1]
      exact g.free ha
    · intro d' hd'
      rcases List.mem_append.mp hd' with h | h
      · exact hg d' h
      · rw [List.mem_singleton.mp h]
        exact gd
    · rw [List.length_append, hn]
      rfl
  · rintro H' ⟨g, acc, ds, hl, hds, hg, hn⟩
    exact q H' acc ds g hl hds hg hn
/-- [e for k in range(n)], each turn draws from the bag and gives new data -/
theorem lc_bag {te : TE} {tt : TT} {σ : L2.St} {H : Hp} {b p : Addr} {j n : Nat} {vs : List Nat} {Dl : Addr} {Qd : Hp → Prop} (good : D → Prop) (B : Bag b p H) (hD : H Dl = none) (hz : n ≤ 100000)
    (hw : ∀ x, wipe ((wipe σ vs).set j (some x)) vs = wipe σ vs) (he : ∀ σ' H' (R : Bool → Hp → Prop), R true H' → tt σ' H' R)
    (hv : ∀ (i : Nat) (H' : Hp) (R : VK), i < n → Go b p H H' → (∀ y d H2, Go b p H' H2 → Dv (newof H' H2) y d → good d → R y H2) → te ((wipe σ vs).set j (some (.int (i : Int)))) H' R)
    (q : ∀ H' acc ds, Go b p H H' → H' Dl = some (.lst acc) → DvL (newof H H') acc ds → (∀ d ∈ ds, good d) → ds.length = n → Qd H') :
    ∃ W : Nat → Nat → Hp → Prop, (∃ m, W 0 m (upd H Dl (.lst []))) ∧ ∀ i m H, W i m H → ((Itr 0 n).stop i H ∧ Qd H) ∨ ((Itr 0 n).go i H ∧ ∃ Nx : Hp → Prop, (∀ H', Nx H' → ∃ m', m' < m ∧ W (i + 1) m' H') ∧
      ∀ x H', (Itr 0 n).yld i H x H' → gName j x (wipe σ vs) H' fun σ2 H2 => wipe σ2 vs = wipe σ vs ∧ tt σ2 H2 fun b H3 => if b = true then te σ2 H3 fun y H4 => ∃ acc, H4 Dl = some (.lst acc) ∧ acc.length < sizeLine ∧ Nx (upd H4 Dl (.lst (acc ++ [y]))) else Nx H3) :=
  lc_bagS good B hD hz hw he hv fun H' acc ds g hl hds hg hn => q H' acc ds g hl (hds.same (newof_lift fun a ha => by
    by_cases z : a = Dl
    · rw [z]
      exact hD
    · rwa [upd_ne z] at ha) _ _) hg hn
/-- [f(x) for x in xs] over a list, f leaves what stands -/
theorem lc_listF {K : PySem.W.Frag} {te : TE} {tt : TT} {σ : L2.St} {H : Hp} {a : Addr} {xs : List V} {j : Nat} {vs : List Nat} {Dl : Addr} {Qd : Hp → Prop} (f : V → V) (hT : SqL K H a xs) (hD : H Dl = none) (hz : xs.length ≤ 100000)
    (hw : ∀ x, wipe ((wipe σ vs).set j (some x)) vs = wipe σ vs) (he : ∀ σ' H' (R : Bool → Hp → Prop), R true H' → tt σ' H' R)
    (hv : ∀ (x : V) (H' : Hp) (R : VK), Same H H' → x ∈ xs → (∀ H2, Same H' H2 → R (f x) H2) → te ((wipe σ vs).set j (some x)) H' R)
    (q : ∀ H', Same H H' → H' Dl = some (.lst (xs.map f)) → Qd H') :
    ∃ W : Nat → Nat → Hp → Prop, (∃ m, W 0 m (upd H Dl (.lst []))) ∧ ∀ i m H, W i m H → ((Itl K a).stop i H ∧ Qd H) ∨ ((Itl K a).go i H ∧ ∃ Nx : Hp → Prop, (∀ H', Nx H' → ∃ m', m' < m ∧ W (i + 1) m' H') ∧
      ∀ x H', (Itl K a).yld i H x H' → gName j x (wipe σ vs) H' fun σ2 H2 => wipe σ2 vs = wipe σ vs ∧ tt σ2 H2 fun b H3 => if b = true then te σ2 H3 fun y H4 => ∃ acc, H4 Dl = some (.lst acc) ∧ acc.length < sizeLine ∧ Nx (upd H4 Dl (.lst (acc ++ [y]))) else Nx H3) := by
  refine lc_list (fun i H' => Same H H' ∧ H' Dl = some (.lst ((xs.take i).map f))) ⟨Same.new hD, upd_same⟩ (fun i H' _ h => Evl.ex_l h.1 hT) ?_ ?_
  · rintro i x H1 hx ⟨k, hl⟩
    refine ⟨hw _, he _ _ _ ?_⟩
    rw [if_pos rfl]
    refine hv x H1 _ k (tk hx) fun H2 k2 => ⟨_, k2 _ _ hl, ?_, Same.upd (k.trans k2) hD, ?_⟩
    · rw [List.length_map]
      refine szl ?_
      rw [List.length_take]
      omega
    · rw [take_succ' hx, List.map_append]
      exact upd_same
  · rintro H' ⟨k, hl⟩
    refine q H' k ?_
    rw [List.take_length] at hl
    exact hl
end Fm
namespace Fm
open PySem PySem.Spec PyProof.Rows L2
theorem ok_app {x y : Str} (hx : PyData.strOk x = true) (hy : PyData.strOk y = true) : PyData.strOk (x ++ y) = true := by
  unfold PyData.strOk at *
  show (x.cps ++ y.cps).all _ = true
  rw [Array.all_append, hx, hy]
  rfl
theorem ok_join {ys : List Str} (h : ∀ y ∈ ys, PyData.strOk y = true) : PyData.strOk (Txt.join "" ys) = true := by
  have e : Txt.join "" ys = Str.join "" ys := StrLaws.glued_eq_join _ _
  rw [e]
  clear e
  induction ys with
  | nil => decide +kernel
  | cons x r ih =>
    cases r with
    | nil => exact h x List.mem_cons_self
    | cons y r => exact ok_app (ok_app (h x List.mem_cons_self) (by decide +kernel)) (ih fun z hz => h z (List.mem_cons_of_mem _ hz))
theorem len_join {ys : List Str} (h : ∀ y ∈ ys, y.length ≤ 1) : (Txt.join "" ys).length ≤ ys.length := by
  have e : Txt.join "" ys = Str.join "" ys := StrLaws.glued_eq_join _ _
  rw [e]
  refine Nat.le_trans (StrLaws.join_length_le _ _) ?_
  have z : (("" : String) : Str).length = 0 := rfl
  rw [z, Nat.mul_zero, Nat.add_zero]
  clear e
  induction ys with
  | nil => simp
  | cons x r ih =>
    have h1 := h x List.mem_cons_self
    have h2 := ih fun y hy => h y (List.mem_cons_of_mem _ hy)
    rw [List.map_cons, List.sum_cons, List.length_cons]
    omega
theorem sum_len {ys : List Str} (h : ∀ y ∈ ys, y.length ≤ 1) : (ys.map (·.length)).sum ≤ ys.length := by
  induction ys with
  | nil => simp
  | cons x r ih =>
    have h1 := h x List.mem_cons_self
    have h2 := ih fun y hy => h y (List.mem_cons_of_mem _ hy)
    rw [List.map_cons, List.sum_cons, List.length_cons]
    omega
/-- strings as data, and back -/
theorem dvl_strs {H : Hp} {m : Nat} : ∀ {acc : List V} {ds : List D}, DvL H acc ds → (∀ d ∈ ds, ∃ x, d = .str x ∧ PyData.strOk x = true ∧ x.length ≤ m) → ∃ ys : List Str, acc = ys.map V.str ∧ (∀ y ∈ ys, PyData.strOk y = true ∧ y.length ≤ m) ∧ ys.length = ds.length
  | _, _, .nil, _ => ⟨[], rfl, fun _ h => (by cases h), rfl⟩
  | _, _, .cons a b, h => by
    obtain ⟨ys, e, f, g⟩ := dvl_strs b fun d hd => h d (List.mem_cons_of_mem _ hd)
    obtain ⟨x, rfl, o, l⟩ := h _ List.mem_cons_self
    cases a
    refine ⟨x :: ys, by rw [e]; rfl, fun y hy => ?_, by simp [g]⟩
    rcases List.mem_cons.mp hy with rfl | hy
    · exact ⟨o, l⟩
    · exact f y hy
/-- a sign of a written text at an int below its length -/
theorem sign_at {x : Str} {i : Int} (h0 : 0 ≤ i) (h1 : i < x.length) : ∃ c, atI x.cps.toList i = some c ∧ (PyData.strOk x = true → PyData.strOk ⟨#[c]⟩ = true) := by
  obtain ⟨k, rfl⟩ := Int.eq_ofNat_of_zero_le h0
  have l : x.cps.toList.length = x.length := by simp [Str.length]
  have lt : k < x.cps.toList.length := by omega
  refine ⟨x.cps.toList[k], atI_nat (List.getElem?_eq_getElem lt), fun o => ok_part o fun c hc => ?_⟩
  simp only [List.mem_singleton] at hc
  rw [hc]
  exact List.getElem_mem lt
theorem cut_len_le {x : Str} {lo hi : Option Int} : (cutS x lo hi).length ≤ x.length := by
  unfold cutS
  show (List.toArray _).size ≤ _
  rw [List.size_toArray, List.length_take, List.length_drop]
  have l : x.cps.toList.length = x.length := by simp [Str.length]
  omega
theorem len_app (x y : Str) : (x ++ y).length = x.length + y.length := by
  show (x.cps ++ y.cps).size = _
  rw [Array.size_append]
  rfl
/-- the law's bag made of the script -/
def spBag (K : PySem.W.Frag) : Sp := fun vs H Q _ => ∃ (a : Addr) (ns : List Int), vs = [.ref a] ∧ SqL K H a (ns.map V.int) ∧ ns.length ≤ 63 ∧ ∀ b p H', H b = none → Same H H' → Bag b p H' → Q (.ref b) H'
/-- some names -/
def spNames : Sp := fun vs H Q _ => ∃ b p n, vs = [.ref b, .int n] ∧ Bag b p H ∧ 0 ≤ n ∧ n ≤ 20 ∧
  ∀ (l : Addr) (H' : Hp) (xs : List Str), Go b p H H' → newof H H' l = some (.lst (xs.map V.str)) → (xs.length : Int) = n → (∀ x ∈ xs, PyData.strOk x = true ∧ x.length ≤ 30) → Q (.ref l) H'
end Fm
namespace Fm
open PySem PySem.Spec PyProof.Rows L2
theorem cut_strs (ws : List Str) (lo hi : Option Int) : ∃ zs : List Str, cutV (ws.map V.str) lo hi = zs.map V.str ∧ (∀ z ∈ zs, z ∈ ws) ∧ zs.length = min (HT.sIx ws.length ws.length hi - HT.sIx ws.length 0 lo) (ws.length - HT.sIx ws.length 0 lo) := by
  unfold cutV
  rw [List.length_map, ← List.map_drop, ← List.map_take]
  refine ⟨_, rfl, fun z hz => List.mem_of_mem_drop (List.mem_of_mem_take hz), ?_⟩
  rw [List.length_take, List.length_drop]
theorem sIx_none (n d : Nat) : HT.sIx n d none = d := rfl
theorem sIx_at {n d : Nat} {i : Int} (h : 0 ≤ i) : HT.sIx n d (some i) = min i.toNat n := by
  show (if i < 0 then (i + (n : Int)).toNat else min i.toNat n) = _
  rw [if_neg (by omega)]
end Fm
namespace Fm
open PySem PySem.Spec PyProof.Rows L2
/-- a term as a law makes it: an int, or a tuple of a text and terms -/
inductive Tm : D → Prop
  | int (i : Int) : Tm (.int i)
  | tup (x : Str) (ds : List D) : (∀ d ∈ ds, Tm d) → Tm (.tup (.str x :: ds))
/-- a list of names that stands in the heap -/
structure Names (nm b : Addr) (H : Hp) (xs : List Str) : Prop where
  at_ : H nm = some (.lst (xs.map V.str))
  ne : nm ≠ b
  pos : 1 ≤ xs.length
  few : xs.length ≤ 20
  ok : ∀ x ∈ xs, PyData.strOk x = true ∧ x.length ≤ 30
theorem Names.go {nm b p : Addr} {H H' : Hp} {xs : List Str} (N : Names nm b H xs) (g : Go b p H H') : Names nm b H' xs := ⟨g.at N.ne N.at_, N.ne, N.pos, N.few, N.ok⟩
theorem Names.get {nm b : Addr} {H : Hp} {xs : List Str} (N : Names nm b H xs) {i : Int} (h0 : 0 ≤ i) (h1 : i < xs.length) : ∃ x, atI (xs.map V.str) i = some (.str x) ∧ PyData.strOk x = true ∧ x.length ≤ 30 := by
  obtain ⟨k, rfl⟩ := Int.eq_ofNat_of_zero_le h0
  have lt : k < xs.length := by omega
  refine ⟨xs[k], atI_nat ?_, N.ok _ (List.getElem_mem lt)⟩
  rw [List.getElem?_map, List.getElem?_eq_getElem lt]
  rfl
/-- how great a term of so many levels may be -/
def Sized (k : Nat) (d : D) : Prop := d.deep ≤ k ∧ d.size + 16 ≤ 17 * 3 ^ k
theorem sizes_le {ds : List D} {n : Nat} (h : ∀ d ∈ ds, d.size + 16 ≤ n) : sizes ds + 16 * ds.length ≤ n * ds.length := by
  induction ds with
  | nil => simp [sizes]
  | cons x r ih =>
    have h1 := h x List.mem_cons_self
    have h2 := ih fun y hy => h y (List.mem_cons_of_mem _ hy)
    simp only [sizes, List.length_cons, Nat.mul_add, Nat.mul_one]
    omega
theorem deeps_le {ds : List D} {n : Nat} (h : ∀ d ∈ ds, d.deep ≤ n) : deeps ds ≤ n := by
  induction ds with
  | nil => simp [deeps]
  | cons x r ih =>
    have h1 := h x List.mem_cons_self
    have h2 := ih fun y hy => h y (List.mem_cons_of_mem _ hy)
    simp only [deeps]
    omega
theorem Sized.tup {k : Nat} {x : Str} {ds : List D} (lx : x.length ≤ 30) (l3 : ds.length ≤ 3) (h : ∀ d ∈ ds, Sized k d) : Sized (k + 1) (.tup (.str x :: ds)) := by
  have h1 := deeps_le fun d hd => (h d hd).1
  have h2 := sizes_le fun d hd => (h d hd).2
  have h3 : 17 * 3 ^ k * ds.length ≤ 17 * 3 ^ k * 3 := Nat.mul_le_mul_left _ l3
  have h4 : 1 ≤ 3 ^ k := Nat.one_le_pow _ _ (by decide)
  refine ⟨?_, ?_⟩
  · simp only [D.deep, deeps]
    omega
  · simp only [D.size, sizes]
    have e : 17 * 3 ^ (k + 1) = 17 * 3 ^ k * 3 := by rw [Nat.pow_succ]; omega
    rw [e]
    -- three parts, or fewer
    rcases (by omega : ds.length = 0 ∨ ds.length = 1 ∨ ds.length = 2 ∨ ds.length = 3) with z | z | z | z <;> rw [z] at h2 <;> omega
/-- _law_term of a bag, names, so many unknowns and k levels, k below m -/
def spTerm (m : Nat) : Sp := fun vs H Q _ => ∃ (b p nm : Addr) (xs : List Str) (many : Int) (k : Nat) (deep : Int), vs = [.ref b, .ref nm, .int many, .int deep] ∧ deep = (k : Int) ∧ Bag b p H ∧ Names nm b H xs ∧ 0 < many ∧ many ≤ 1000 ∧ k < m ∧ k ≤ 100 ∧
  ∀ v H' d, Go b p H H' → Dv (newof H H') v d → Tm d → Sized k d → Q v H'
end Fm
set_option maxRecDepth 100000
set_option maxHeartbeats 2000000
/-! Fm: written data. -/
namespace Fm
open PySem PySem.Spec PyProof.Rows L2
/-- an expression that makes this data anew, all that stood standing -/
def Ed (te : TE) (d : D) : Prop := ∀ σ H (Q : VK), (∀ v H', Same H H' → Dv (newof H H') v d → Q v H') → te σ H Q
def EdA (ta : TA) (ds : List D) : Prop := ∀ σ H (Q : List V → Hp → Prop), (∀ vs H', Same H H' → DvL (newof H H') vs ds → Q vs H') → ta σ H Q
theorem ed_non : Ed (tC .non) .non := fun _ H _ q => q _ _ (Same.refl H) .non
theorem ed_bl {b : Bool} : Ed (tC (.bl b)) (.bl b) := fun _ H _ q => q _ _ (Same.refl H) (.bl b)
theorem ed_int {i : Int} : Ed (tC (.int i)) (.int i) := fun _ H _ q => q _ _ (Same.refl H) (.int i)
theorem ed_str {x : Str} (h : PyData.strOk x = true) : Ed (tC (.str x)) (.str x) := fun _ H _ q => q _ _ (Same.refl H) (.str x h)
theorem ed_neg {i : Int} : Ed (tUn (rU fun i => .int (-i)) (tC (.int i))) (.int (-i)) := fun _ H _ q => ⟨i, rfl, q _ _ (Same.refl H) (.int _)⟩
theorem eda_nil : EdA tNil [] := fun _ H _ q => q _ _ (Same.refl H) .nil
theorem eda_cons {te : TE} {ta : TA} {d : D} {ds : List D} (h : Ed te d) (h2 : EdA ta ds) : EdA (tCons te ta) (d :: ds) := fun σ H Q q =>
  h σ H _ fun v H1 k1 h1 => h2 σ H1 _ fun vs H2 k2 h3 => q _ _ (k1.trans k2) (.cons (h1.same (newof_same k2) _ _) (h3.same (newof_lift fun _ ha => k1.free ha) _ _))
theorem ed_tup {ta : TA} {ds : List D} (h : EdA ta ds) (hl : ds.length ≤ 1000) : Ed (tTup ta) (.tup ds) := fun σ H Q q =>
  h σ H _ fun vs H1 k1 h1 => ⟨sz (by have := h1.len; omega), fun p hp => q _ _ (k1.trans (Same.new hp)) (.tup (newof_of (k1.free hp) upd_same) (h1.same (newof_same (Same.new hp)) _ _))⟩
theorem ed_lst {ta : TA} {ds : List D} (h : EdA ta ds) (hl : ds.length ≤ 1000) : Ed (tLst ta) (.lst ds) := fun σ H Q q =>
  h σ H _ fun vs H1 k1 h1 => ⟨sz (by have := h1.len; omega), fun p hp => q _ _ (k1.trans (Same.new hp)) (.lst (newof_of (k1.free hp) upd_same) (h1.same (newof_same (Same.new hp)) _ _))⟩
theorem ed_asg {te : TE} {d : D} {i : Nat} {D' : Ends} {σ : L2.St} {H : Hp} (h : Ed te d) (k : ∀ v H', Same H H' → Dv (newof H H') v d → D'.nx (σ.set i (some v)) H') : tAsg te (gName i) D' σ H := h σ H _ k
theorem ed_dic : Ed tDNewK .dic := fun _ H _ q p hp => q _ _ (Same.new hp) (.dic (newof_of hp upd_same))
theorem Ed.use {te : TE} {d : D} {σ : L2.St} {H : Hp} {Q : VK} (h : Ed te d) (k : ∀ v H', Same H H' → Dv (newof H H') v d → Q v H') : te σ H Q := h σ H Q k
/-- _law_odd: a small piece of data -/
def spOdd : Sp := fun vs H Q _ => ∃ b p, vs = [.ref b] ∧ Bag b p H ∧ ∀ v H' d, Go b p H H' → Dv (newof H H') v d → d.deep ≤ 3 → d.size ≤ 40 → Q v H'
end Fm
namespace Fm
open PySem PySem.Spec PyProof.Rows L2
theorem split_at {ds : List D} {k : Nat} (h : k < ds.length) : ds = ds.take k ++ (ds[k] :: ds.drop (k + 1)) := by
  have e := List.take_append_drop k ds
  rw [List.drop_eq_getElem_cons h] at e
  exact e.symm
theorem cut_to {us : List V} {k : Nat} (h : k < us.length) : cutV us none (some (k : Int)) = us.take k ∧ ¬ (HT.sIx us.length 0 none = 0 ∧ HT.sIx us.length us.length (some (k : Int)) = us.length) := by
  have e : HT.sIx us.length us.length (some (k : Int)) = k := by
    rw [HT.sIx_nat]
    omega
  have e0 : HT.sIx us.length 0 none = 0 := rfl
  constructor
  · unfold cutV
    rw [e, e0]
    rfl
  · rintro ⟨_, z⟩
    rw [e] at z
    omega
theorem cut_from {us : List V} {k : Nat} (h : 0 < k) (h2 : k ≤ us.length) : cutV us (some (k : Int)) none = us.drop k ∧ ¬ (HT.sIx us.length 0 (some (k : Int)) = 0 ∧ HT.sIx us.length us.length none = us.length) := by
  have e : HT.sIx us.length 0 (some (k : Int)) = k := by
    rw [HT.sIx_nat]
    omega
  constructor
  · unfold cutV
    rw [e]
    exact List.take_of_length_le (by rw [List.length_drop]; exact Nat.le_refl _)
  · rintro ⟨z, _⟩
    rw [e] at z
    omega
/-- _law_spoilt of a bag and a term -/
def spSpoilt (m : Nat) : Sp := fun vs H Q _ => ∃ b p v d, vs = [.ref b, v] ∧ Bag b p H ∧ Dv (mask b H) v d ∧ Tm d ∧ d.deep < m ∧ d.deep ≤ 90 ∧ d.size ≤ 50000 ∧
  ∀ v' H' d', Go b p H H' → Dv (mask b H') v' d' → d'.deep ≤ d.deep + 3 → d'.size ≤ d.size + 40 → Q v' H'
theorem mask_new {b q : Addr} {H : Hp} {o : HO} (n : q ≠ b) : mask b (upd H q o) q = some o := by
  rw [mask_ne n]
  exact upd_same
end Fm
namespace Fm
open PySem PySem.Spec PyProof.Rows L2
theorem ed_pow {i j : Int} (h : CPow i j) : Ed (tOp (rI CPow fun i j => .int (i ^ j.toNat)) (tC (.int i)) (tC (.int j))) (.int (i ^ j.toNat)) := fun _ H _ q => ⟨i, j, rfl, rfl, h, q _ _ (Same.refl H) (.int _)⟩
theorem op_or {X : Cx} {f : Value → Value → Sem Value} {r1 r2 : R2} (h1 : OpR X f r1) (h2 : OpR X f r2) : OpR X f (fun x y H Q => r1 x y H Q ∨ r2 x y H Q) := fun pins s σ H x y v u Q I rx ry h => by
  rcases h with h | h
  · exact h1 pins s σ H x y v u Q I rx ry h
  · exact h2 pins s σ H x y v u Q I rx ry h
/-- one of some written texts -/
theorem text_at {xs : List Str} {i : Int} (h0 : 0 ≤ i) (h1 : i < xs.length) : ∃ x, atI (xs.map V.str) i = some (.str x) ∧ x ∈ xs := by
  obtain ⟨k, rfl⟩ := Int.eq_ofNat_of_zero_le h0
  have lt : k < xs.length := by omega
  refine ⟨xs[k], atI_nat ?_, List.getElem_mem lt⟩
  rw [List.getElem?_map, List.getElem?_eq_getElem lt]
  rfl
mutual
def noDic : D → Bool
  | .tup ds => noDics ds
  | .lst ds => noDics ds
  | .dic => false
  | _ => true
def noDics : List D → Bool
  | [] => true
  | d :: ds => noDic d && noDics ds
end
theorem noDics_of {ds : List D} (h : ∀ d ∈ ds, noDic d = true) : noDics ds = true := by
  induction ds with
  | nil => rfl
  | cons x r ih =>
    simp only [noDics, h x List.mem_cons_self, Bool.true_and]
    exact ih fun y hy => h y (List.mem_cons_of_mem _ hy)
theorem Tm.noDic {d : D} (t : Tm d) : Fm.noDic d = true := by
  induction t with
  | int i => rfl
  | tup x ds _ ih =>
    simp only [Fm.noDic, noDics, Bool.true_and]
    exact noDics_of ih
mutual
theorem dp_of {K : PySem.W.Frag} {H : Hp} : ∀ (d : D) (v : V), Dv H v d → noDic d = true → ∃ pd, Dp K H v pd ∧ pd.canLay0 = true ∧ pd.depth ≤ d.deep + 1
  | .non, _, h, _ => by cases h; exact ⟨_, .non, rfl, by simp [PyData.depth]⟩
  | .bl _, _, h, _ => by cases h; exact ⟨_, .bl _, rfl, by simp [PyData.depth]⟩
  | .int _, _, h, _ => by cases h; exact ⟨_, .int _, rfl, by simp [PyData.depth]⟩
  | .str _, _, h, _ => by
    cases h with
    | str _ o => exact ⟨_, .str _, by simpa [PyData.canLay0] using o, by simp [PyData.depth]⟩
  | .tup ds, _, h, n => by
    cases h with
    | tup a b =>
      obtain ⟨ps, h1, h2, h3⟩ := dps_of ds _ b (by simpa [noDic] using n)
      exact ⟨_, .tup (SqT.of a) h1, by simpa [PyData.canLay0] using h2, by simp only [PyData.depth, D.deep]; omega⟩
  | .lst ds, _, h, n => by
    cases h with
    | lst a b =>
      obtain ⟨ps, h1, h2, h3⟩ := dps_of ds _ b (by simpa [noDic] using n)
      exact ⟨_, .lst (SqL.of a) h1, by simpa [PyData.canLay0] using h2, by simp only [PyData.depth, D.deep]; omega⟩
  | .dic, _, _, n => by simp [noDic] at n
theorem dps_of {K : PySem.W.Frag} {H : Hp} : ∀ (ds : List D) (vs : List V), DvL H vs ds → noDics ds = true → ∃ ps, DpAll K H vs ps ∧ PyData.canLayAll0 ps = true ∧ PyData.depthAll ps ≤ deeps ds + 1
  | [], _, h, _ => by cases h; exact ⟨[], .nil, by simp [PyData.canLayAll0], by simp [PyData.depthAll]⟩
  | d :: ds, _, h, n => by
    cases h with
    | cons a b =>
      have n' : noDic d = true ∧ noDics ds = true := by simpa [noDics] using n
      obtain ⟨p, h1, h2, h3⟩ := dp_of d _ a n'.1
      obtain ⟨ps, h4, h5, h6⟩ := dps_of ds _ b n'.2
      exact ⟨p :: ps, .cons h1 h4, by simp [PyData.canLayAll0, h2, h5], by simp only [PyData.depthAll, deeps]; omega⟩
end
def spText : Sp := fun vs H Q _ => ∃ b p, vs = [.ref b] ∧ Bag b p H ∧ ∀ x H', Go b p H H' → PyData.strOk x = true → x.length ≤ 13 → Q (.str x) H'
/-- a thing to look at -/
def spThing : Sp := fun vs H Q _ => ∃ b p nm xs, vs = [.ref b, .ref nm] ∧ Bag b p H ∧ Names nm b H xs ∧ ∀ v H' d, Go b p H H' → Dv (mask b H') v d → d.deep ≤ 50 → d.size ≤ 50000 → Q v H'
end Fm
namespace Fm
open PySem PySem.Spec PyProof.Rows L2
theorem sizes_set {ds : List D} {d : D} (n : Nat) : sizes (ds.set n d) ≤ sizes ds + d.size := by
  induction ds generalizing n with
  | nil => simp [sizes]
  | cons x r ih =>
    cases n with
    | zero => simp only [List.set_cons_zero, sizes]; omega
    | succ n => have := ih n; simp only [List.set_cons_succ, sizes]; omega
theorem deeps_set {ds : List D} {d : D} (n : Nat) : deeps (ds.set n d) ≤ max (deeps ds) d.deep := by
  induction ds generalizing n with
  | nil => simp [deeps]
  | cons x r ih =>
    cases n with
    | zero => simp only [List.set_cons_zero, deeps]; omega
    | succ n => have := ih n; simp only [List.set_cons_succ, deeps]; omega
theorem ixN_at {n k : Nat} (h : k < n) : ixN n (k : Int) = some k := by
  unfold ixN
  rw [if_pos (by omega), if_pos (by omega)]
  simp
end Fm
namespace Fm
open PySem PySem.Spec PyProof.Rows L2
/-- (v,) * k, k from 0 to 2 -/
def rRep3 : R2 := fun x y H Q => ∃ l k v, x = .ref l ∧ y = .int k ∧ H l = some (.tup [v]) ∧ 0 ≤ k ∧ k ≤ 2 ∧ ∀ r H', Same H H' → H' r = some (.tup (List.replicate k.toNat v)) → Q (.ref r) H'
theorem op_rep3 {X : Cx} : OpR X (binaryOp .Mult) rRep3 := by
  intro pins s σ H x y v u Q I rx ry h
  obtain ⟨l, k, w1, rfl, rfl, hl, k0, k2, q⟩ := h
  refine op_or op_rep1 op_repT pins s σ H _ _ v u Q I rx ry ?_
  rcases (by omega : k = 0 ∨ k = 1 ∨ k = 2) with rfl | rfl | rfl
  · exact .inl ⟨l, 0, w1, rfl, rfl, SqT.of hl, .inl rfl, fun _ p hp => q p _ (Same.new hp) upd_same, fun z => (by cases z)⟩
  · exact .inl ⟨l, 1, w1, rfl, rfl, SqT.of hl, .inr rfl, fun z => (by cases z), fun _ => q l H (Same.refl H) hl⟩
  · exact .inr ⟨l, 2, [w1], rfl, rfl, SqT.of hl, by simp, by decide, by decide, by simp, fun p hp => q p _ (Same.new hp) upd_same⟩
theorem dvl_rep {H : Hp} {v : V} {d : D} (h : Dv H v d) : ∀ n : Nat, DvL H (List.replicate n v) (List.replicate n d)
  | 0 => .nil
  | n + 1 => .cons h (dvl_rep h n)
end Fm
namespace Fm
open PySem PySem.Spec PyProof.Rows L2
theorem areTerms_set {ds : List D} {d : D} (n : Nat) (h : ∀ x ∈ ds, isTerm x = true) (lt : n < ds.length) : areTerms (ds.set n d) = isTerm d := by
  induction ds generalizing n with
  | nil => simp at lt
  | cons x r ih =>
    have hx := h x List.mem_cons_self
    have hr : areTerms r = true := by
      rw [areTerms_all]
      exact List.all_eq_true.mpr fun y hy => h y (List.mem_cons_of_mem _ hy)
    cases n with
    | zero => simp only [List.set_cons_zero, areTerms, hr, Bool.and_true]
    | succ n =>
      simp only [List.set_cons_succ, areTerms, hx, Bool.true_and]
      exact ih n (fun y hy => h y (List.mem_cons_of_mem _ hy)) (by simpa using lt)
/-- the list of bools, as data -/
def bools (bs : List Bool) : PyData := .list (bs.map .bool)
theorem dp_bools {K : PySem.W.Frag} {H : Hp} {l : Addr} {bs : List Bool} (h : H l = some (.lst (bs.map V.bl))) : Dp K H (.ref l) (bools bs) := by
  refine .lst (SqL.of h) ?_
  clear h
  induction bs with
  | nil => exact .nil
  | cons b r ih => exact .cons (.bl b) ih
def spMany : Sp := fun vs H Q _ => ∃ b p, vs = [.ref b] ∧ Bag b p H ∧ ∀ H', Q (.bl true) H'
def spLaw (K : PySem.W.Frag) : Sp := fun vs H Q _ => ∃ (a : Addr) (ns : List Int), vs = [.ref a] ∧ SqL K H a (ns.map V.int) ∧ ns.length ≤ 63 ∧ ∀ H', Q (.bl true) H'
end Fm
namespace Fm
open PySem PySem.Spec PyProof.Rows L2
theorem bools5 : ∀ b1 b2 b3 b4 b5 : Bool, SeqAt.shaped (bools [b1, b2, b3, b4, b5]) = true ∧ (bools [b1, b2, b3, b4, b5]).showable = true ∧ (bools [b1, b2, b3, b4, b5]).hasDict = false ∧ (bools [b1, b2, b3, b4, b5]).depth ≤ 60 ∧
    (bools [b1, b2, b3, b4, b5]).shown.length ≤ sizeLine := by decide +kernel
end Fm
set_option maxRecDepth 100000
set_option maxHeartbeats 2000000
namespace K11
open PySem PySem.Spec PyProof.Rows L2 Fm
/-- the i-th statement of the text -/
def top (i : Nat) : Stmt := PySem.Challenge.pw_framemoves_k11_kinds_known.main.body.getD i (.Pass ⟨0, 0, 0, 0⟩)
abbrev s_is_integer : Stmt := top 2
abbrev N_is_integer : List Str := ["thing"]
theorem sc_is_integer : FnScope N_is_integer ["thing"] (defScope s_is_integer) := ⟨rfl, rfl, rfl, by decide +kernel, rfl, by decide +kernel, by decide +kernel⟩
abbrev s_is_name : Stmt := top 3
abbrev N_is_name : List Str := ["thing", "letter"]
theorem sc_is_name : FnScope N_is_name ["thing"] (defScope s_is_name) := ⟨rfl, rfl, rfl, by decide +kernel, rfl, by decide +kernel, by decide +kernel⟩
abbrev s_is_outcome : Stmt := top 4
abbrev N_is_outcome : List Str := ["thing"]
theorem sc_is_outcome : FnScope N_is_outcome ["thing"] (defScope s_is_outcome) := ⟨rfl, rfl, rfl, by decide +kernel, rfl, by decide +kernel, by decide +kernel⟩
abbrev s_are_terms : Stmt := top 5
abbrev N_are_terms : List Str := ["things", "ahead", "thing"]
theorem sc_are_terms : FnScope N_are_terms ["things"] (defScope s_are_terms) := ⟨rfl, rfl, rfl, by decide +kernel, rfl, by decide +kernel, by decide +kernel⟩
abbrev s_is_term : Stmt := top 6
abbrev N_is_term : List Str := ["thing"]
theorem sc_is_term : FnScope N_is_term ["thing"] (defScope s_is_term) := ⟨rfl, rfl, rfl, by decide +kernel, rfl, by decide +kernel, by decide +kernel⟩
abbrev s_are_values : Stmt := top 7
abbrev N_are_values : List Str := ["many", "thing"]
theorem sc_are_values : FnScope N_are_values ["many", "thing"] (defScope s_are_values) := ⟨rfl, rfl, rfl, by decide +kernel, rfl, by decide +kernel, by decide +kernel⟩
abbrev s__law_bag : Stmt := top 9
abbrev N__law_bag : List Str := ["_law_script", "_law_cell"]
theorem sc__law_bag : FnScope N__law_bag ["_law_script"] (defScope s__law_bag) := ⟨rfl, rfl, rfl, by decide +kernel, rfl, by decide +kernel, by decide +kernel⟩
abbrev s__law_take : Stmt := top 10
abbrev N__law_take : List Str := ["_law_bag_here", "_law_many", "_law_cell", "_law_mixed", "_law_value", "_law_begin", "_law_second"]
theorem sc__law_take : FnScope N__law_take ["_law_bag_here", "_law_many"] (defScope s__law_take) := ⟨rfl, rfl, rfl, by decide +kernel, rfl, by decide +kernel, by decide +kernel⟩
abbrev s__law_alike : Stmt := top 11
abbrev N__law_alike : List Str := ["_law_found", "_law_due"]
theorem sc__law_alike : FnScope N__law_alike ["_law_found", "_law_due"] (defScope s__law_alike) := ⟨rfl, rfl, rfl, by decide +kernel, rfl, by decide +kernel, by decide +kernel⟩
abbrev s__law_names : Stmt := top 12
abbrev N__law_names : List Str := ["_law_bag_here", "_law_many", "_law_letters", "_law_words", "_law_way", "_law_turn", "_law_base", "_law_at", "_law_k"]
theorem sc__law_names : FnScope N__law_names ["_law_bag_here", "_law_many"] (defScope s__law_names) := ⟨rfl, rfl, rfl, by decide +kernel, rfl, by decide +kernel, by decide +kernel⟩
abbrev s__law_term : Stmt := top 13
abbrev N__law_term : List Str := ["_law_bag_here", "_law_names_here", "_law_many", "_law_deep_here", "_law_way", "_law_name", "_law_parts", "_law_k"]
theorem sc__law_term : FnScope N__law_term ["_law_bag_here", "_law_names_here", "_law_many", "_law_deep_here"] (defScope s__law_term) := ⟨rfl, rfl, rfl, by decide +kernel, rfl, by decide +kernel, by decide +kernel⟩
abbrev s__law_is_named : Stmt := top 14
abbrev N__law_is_named : List Str := ["_law_thing_here", "_law_sign"]
theorem sc__law_is_named : FnScope N__law_is_named ["_law_thing_here"] (defScope s__law_is_named) := ⟨rfl, rfl, rfl, by decide +kernel, rfl, by decide +kernel, by decide +kernel⟩
abbrev s__law_is_outcome : Stmt := top 15
abbrev N__law_is_outcome : List Str := ["_law_thing_here"]
theorem sc__law_is_outcome : FnScope N__law_is_outcome ["_law_thing_here"] (defScope s__law_is_outcome) := ⟨rfl, rfl, rfl, by decide +kernel, rfl, by decide +kernel, by decide +kernel⟩
abbrev s__law_is_whole : Stmt := top 16
abbrev N__law_is_whole : List Str := ["_law_thing_here"]
theorem sc__law_is_whole : FnScope N__law_is_whole ["_law_thing_here"] (defScope s__law_is_whole) := ⟨rfl, rfl, rfl, by decide +kernel, rfl, by decide +kernel, by decide +kernel⟩
abbrev s__law_is_term : Stmt := top 17
abbrev N__law_is_term : List Str := ["_law_thing_here", "_law_part"]
theorem sc__law_is_term : FnScope N__law_is_term ["_law_thing_here"] (defScope s__law_is_term) := ⟨rfl, rfl, rfl, by decide +kernel, rfl, by decide +kernel, by decide +kernel⟩
abbrev s__law_odd : Stmt := top 18
abbrev N__law_odd : List Str := ["_law_bag_here", "_law_odd_here"]
theorem sc__law_odd : FnScope N__law_odd ["_law_bag_here"] (defScope s__law_odd) := ⟨rfl, rfl, rfl, by decide +kernel, rfl, by decide +kernel, by decide +kernel⟩
abbrev s__law_spoilt : Stmt := top 19
abbrev N__law_spoilt : List Str := ["_law_bag_here", "_law_term_here", "_law_at"]
theorem sc__law_spoilt : FnScope N__law_spoilt ["_law_bag_here", "_law_term_here"] (defScope s__law_spoilt) := ⟨rfl, rfl, rfl, by decide +kernel, rfl, by decide +kernel, by decide +kernel⟩
abbrev s__law_text : Stmt := top 20
abbrev N__law_text : List Str := ["_law_bag_here", "_law_signs", "_law_text_here", "_law_k"]
theorem sc__law_text : FnScope N__law_text ["_law_bag_here"] (defScope s__law_text) := ⟨rfl, rfl, rfl, by decide +kernel, rfl, by decide +kernel, by decide +kernel⟩
abbrev s__law_thing : Stmt := top 21
abbrev N__law_thing : List Str := ["_law_bag_here", "_law_names_here", "_law_way", "_law_some", "_law_term_here", "_law_k"]
theorem sc__law_thing : FnScope N__law_thing ["_law_bag_here", "_law_names_here"] (defScope s__law_thing) := ⟨rfl, rfl, rfl, by decide +kernel, rfl, by decide +kernel, by decide +kernel⟩
abbrev s__law_deep : Stmt := top 22
abbrev N__law_deep : List Str := ["_law_bag_here", "_law_names_here", "_law_term_here", "_law_k"]
theorem sc__law_deep : FnScope N__law_deep ["_law_bag_here", "_law_names_here"] (defScope s__law_deep) := ⟨rfl, rfl, rfl, by decide +kernel, rfl, by decide +kernel, by decide +kernel⟩
abbrev s__law_many_right : Stmt := top 23
abbrev N__law_many_right : List Str := ["_law_bag_here", "_law_many", "_law_some", "_law_at", "_law_odd_here", "_law_whole", "_law_k"]
theorem sc__law_many_right : FnScope N__law_many_right ["_law_bag_here"] (defScope s__law_many_right) := ⟨rfl, rfl, rfl, by decide +kernel, rfl, by decide +kernel, by decide +kernel⟩
abbrev s_law : Stmt := top 24
abbrev N_law : List Str := ["_law_script", "_law_bag_here", "_law_names_here", "_law_turn", "_law_thing_here", "_law_many", "_law_due", "_law_right_size", "_law_found", "_law_part"]
theorem sc_law : FnScope N_law ["_law_script"] (defScope s_law) := ⟨rfl, rfl, rfl, by decide +kernel, rfl, by decide +kernel, by decide +kernel⟩
/-- what the top has written: where each def stands, what names are still the built-in ones -/
structure Txt (K : PySem.W.Frag) (mg : Str → Option Value) where
  a_is_integer : Addr
  d_is_integer : FuncData
  F_is_integer : Fun K "is_integer" "is_integer" s_is_integer a_is_integer d_is_integer
  f_is_integer : mg "is_integer" = some (.ref a_is_integer)
  b_is_integer : Binds K d_is_integer ["thing"] []
  a_is_name : Addr
  d_is_name : FuncData
  F_is_name : Fun K "is_name" "is_name" s_is_name a_is_name d_is_name
  f_is_name : mg "is_name" = some (.ref a_is_name)
  b_is_name : Binds K d_is_name ["thing"] []
  a_is_outcome : Addr
  d_is_outcome : FuncData
  F_is_outcome : Fun K "is_outcome" "is_outcome" s_is_outcome a_is_outcome d_is_outcome
  f_is_outcome : mg "is_outcome" = some (.ref a_is_outcome)
  b_is_outcome : Binds K d_is_outcome ["thing"] []
  a_are_terms : Addr
  d_are_terms : FuncData
  F_are_terms : Fun K "are_terms" "are_terms" s_are_terms a_are_terms d_are_terms
  f_are_terms : mg "are_terms" = some (.ref a_are_terms)
  b_are_terms : Binds K d_are_terms ["things"] []
  a_is_term : Addr
  d_is_term : FuncData
  F_is_term : Fun K "is_term" "is_term" s_is_term a_is_term d_is_term
  f_is_term : mg "is_term" = some (.ref a_is_term)
  b_is_term : Binds K d_is_term ["thing"] []
  a_are_values : Addr
  d_are_values : FuncData
  F_are_values : Fun K "are_values" "are_values" s_are_values a_are_values d_are_values
  f_are_values : mg "are_values" = some (.ref a_are_values)
  b_are_values : Binds K d_are_values ["many", "thing"] []
  a__law_bag : Addr
  d__law_bag : FuncData
  F__law_bag : Fun K "_law_bag" "_law_bag" s__law_bag a__law_bag d__law_bag
  f__law_bag : mg "_law_bag" = some (.ref a__law_bag)
  b__law_bag : Binds K d__law_bag ["_law_script"] []
  a__law_take : Addr
  d__law_take : FuncData
  F__law_take : Fun K "_law_take" "_law_take" s__law_take a__law_take d__law_take
  f__law_take : mg "_law_take" = some (.ref a__law_take)
  b__law_take : Binds K d__law_take ["_law_bag_here", "_law_many"] []
  a__law_alike : Addr
  d__law_alike : FuncData
  F__law_alike : Fun K "_law_alike" "_law_alike" s__law_alike a__law_alike d__law_alike
  f__law_alike : mg "_law_alike" = some (.ref a__law_alike)
  b__law_alike : Binds K d__law_alike ["_law_found", "_law_due"] []
  a__law_names : Addr
  d__law_names : FuncData
  F__law_names : Fun K "_law_names" "_law_names" s__law_names a__law_names d__law_names
  f__law_names : mg "_law_names" = some (.ref a__law_names)
  b__law_names : Binds K d__law_names ["_law_bag_here", "_law_many"] []
  a__law_term : Addr
  d__law_term : FuncData
  F__law_term : Fun K "_law_term" "_law_term" s__law_term a__law_term d__law_term
  f__law_term : mg "_law_term" = some (.ref a__law_term)
  b__law_term : Binds K d__law_term ["_law_bag_here", "_law_names_here", "_law_many", "_law_deep_here"] []
  a__law_is_named : Addr
  d__law_is_named : FuncData
  F__law_is_named : Fun K "_law_is_named" "_law_is_named" s__law_is_named a__law_is_named d__law_is_named
  f__law_is_named : mg "_law_is_named" = some (.ref a__law_is_named)
  b__law_is_named : Binds K d__law_is_named ["_law_thing_here"] []
  a__law_is_outcome : Addr
  d__law_is_outcome : FuncData
  F__law_is_outcome : Fun K "_law_is_outcome" "_law_is_outcome" s__law_is_outcome a__law_is_outcome d__law_is_outcome
  f__law_is_outcome : mg "_law_is_outcome" = some (.ref a__law_is_outcome)
  b__law_is_outcome : Binds K d__law_is_outcome ["_law_thing_here"] []
  a__law_is_whole : Addr
  d__law_is_whole : FuncData
  F__law_is_whole : Fun K "_law_is_whole" "_law_is_whole" s__law_is_whole a__law_is_whole d__law_is_whole
  f__law_is_whole : mg "_law_is_whole" = some (.ref a__law_is_whole)
  b__law_is_whole : Binds K d__law_is_whole ["_law_thing_here"] []
  a__law_is_term : Addr
  d__law_is_term : FuncData
  F__law_is_term : Fun K "_law_is_term" "_law_is_term" s__law_is_term a__law_is_term d__law_is_term
  f__law_is_term : mg "_law_is_term" = some (.ref a__law_is_term)
  b__law_is_term : Binds K d__law_is_term ["_law_thing_here"] []
  a__law_odd : Addr
  d__law_odd : FuncData
  F__law_odd : Fun K "_law_odd" "_law_odd" s__law_odd a__law_odd d__law_odd
  f__law_odd : mg "_law_odd" = some (.ref a__law_odd)
  b__law_odd : Binds K d__law_odd ["_law_bag_here"] []
  a__law_spoilt : Addr
  d__law_spoilt : FuncData
  F__law_spoilt : Fun K "_law_spoilt" "_law_spoilt" s__law_spoilt a__law_spoilt d__law_spoilt
  f__law_spoilt : mg "_law_spoilt" = some (.ref a__law_spoilt)
  b__law_spoilt : Binds K d__law_spoilt ["_law_bag_here", "_law_term_here"] []
  a__law_text : Addr
  d__law_text : FuncData
  F__law_text : Fun K "_law_text" "_law_text" s__law_text a__law_text d__law_text
  f__law_text : mg "_law_text" = some (.ref a__law_text)
  b__law_text : Binds K d__law_text ["_law_bag_here"] []
  a__law_thing : Addr
  d__law_thing : FuncData
  F__law_thing : Fun K "_law_thing" "_law_thing" s__law_thing a__law_thing d__law_thing
  f__law_thing : mg "_law_thing" = some (.ref a__law_thing)
  b__law_thing : Binds K d__law_thing ["_law_bag_here", "_law_names_here"] []
  a__law_deep : Addr
  d__law_deep : FuncData
  F__law_deep : Fun K "_law_deep" "_law_deep" s__law_deep a__law_deep d__law_deep
  f__law_deep : mg "_law_deep" = some (.ref a__law_deep)
  b__law_deep : Binds K d__law_deep ["_law_bag_here", "_law_names_here"] []
  a__law_many_right : Addr
  d__law_many_right : FuncData
  F__law_many_right : Fun K "_law_many_right" "_law_many_right" s__law_many_right a__law_many_right d__law_many_right
  f__law_many_right : mg "_law_many_right" = some (.ref a__law_many_right)
  b__law_many_right : Binds K d__law_many_right ["_law_bag_here"] []
  a_law : Addr
  d_law : FuncData
  F_law : Fun K "law" "law" s_law a_law d_law
  f_law : mg "law" = some (.ref a_law)
  b_law : Binds K d_law ["_law_script"] []
  m_abs : mg "abs" = none
  m_all : mg "all" = none
  m_bool : mg "bool" = none
  m_int : mg "int" = none
  m_isinstance : mg "isinstance" = none
  m_len : mg "len" = none
  m_list : mg "list" = none
  m_range : mg "range" = none
  m_repr : mg "repr" = none
  m_str : mg "str" = none
  m_tuple : mg "tuple" = none
  t_LETTERS : Tok
  g_LETTERS : mg "LETTERS" = some (.str "abcdefghijklmnopqrstuvwxyz" t_LETTERS)
end K11
set_option maxRecDepth 100000
set_option maxHeartbeats 2000000
namespace K11
open PySem L2 Fm
section
variable {P : Program} {w : World} {K : PySem.W.Frag} {mg : Str → Option Value} {base : Heap} (T : Txt K mg)
/-- a def over one value of data that hands back a bool and leaves what stood -/
def sp1 (f : D → Bool) (n m : Nat) : Sp := fun vs H Q _ => ∃ v d, vs = [v] ∧ Dv H v d ∧ d.size ≤ n ∧ d.deep ≤ m ∧ ∀ H', Same H H' → Q (.bl (f d)) H'
theorem sp1_len {f : D → Bool} {n m : Nat} : ∀ vs H Q E, sp1 f n m vs H Q E → vs.length = 1 := by
  rintro vs H Q E ⟨v, d, rfl, _⟩
  rfl
theorem ok_is_integer : FnOk P w K mg base CX0 1 T.a_is_integer T.d_is_integer ["thing"] (sp1 isWhole 1000000 100) := by
  refine T.F_is_integer.ok sc_is_integer sp1_len (fun cdv A outer s H vs Q E hr h => ?_)
  obtain ⟨v, d, rfl, hd, hz, hm, q⟩ := h
  refine ⟨_, 
    (pss_one (ps_ret (pe_and (pe_isD (fun _ => kit_I) T.m_isinstance (pv 0) (pe_bltn (v := .ty "int") (u := .type "int") (by rfl) T.m_int (by decide +kernel) rfl) mon_var) (pe_one (pe_not (pe_isD (fun _ => kit_B) T.m_isinstance (pv 0) (pe_bltn (v := .ty "bool") (u := .type "bool") (by rfl) T.m_bool (by decide +kernel) rfl) mon_var)))))), ?_⟩
  refine ⟨_, rfl, d, hd, _, rfl, ite_b (fun hI => ?_) (fun hI => ?_)⟩
  · refine ⟨_, rfl, d, hd, _, rfl, ?_⟩
    have : isWhole d = !isB d := by cases d <;> simp_all [isI, isWhole, isB]
    rw [← this]
    exact q _ (Same.refl _)
  · have : isWhole d = false := by cases d <;> simp_all [isI, isWhole]
    rw [← this]
    exact q _ (Same.refl _)
theorem ok_is_name : FnOk P w K mg base CX0 1 T.a_is_name T.d_is_name ["thing"] (sp1 isName 1000000 100) := by
  refine T.F_is_name.ok sc_is_name sp1_len (fun cdv A outer s H vs Q E hr h => ?_)
  obtain ⟨v, d, rfl, hd, hz, hm, q⟩ := h
  refine ⟨_, 
    (pss_one (ps_ret (pe_and (pe_isD (fun _ => kit_S) T.m_isinstance (pv 0) (pe_bltn (v := .ty "str") (u := .type "str") (by rfl) T.m_str (by decide +kernel) rfl) mon_var) (pe_and (pe_chain op_le op_le pe_int (pe_callB call_len_str (by rfl) T.m_len (by decide +kernel) (pa_cons (pv 0) pa_nil)) pe_int) (pe_one (pe_callB (cr_all rfl) (by rfl) T.m_all (by decide +kernel) (pa_cons (pe_lc (own := [("letter", 1)]) (g := gName 1) (tt := tYes) rfl sc_is_name.nd (pi_str (pv 0)) (blkOk_by (N := N_is_name) (sc := defScope s_is_name) (by decide +kernel)) (fun _ _ _ _ _ => pg_name (i := 1) sc_is_name.nd rfl (Or.inl rfl)) (fun _ _ _ _ _ => pts_nil) (fun _ _ _ _ _ => pe_cmpR op_in_str (pv 1) (pe_glob (v := .str "abcdefghijklmnopqrstuvwxyz") rfl T.g_LETTERS ⟨_, rfl⟩) (by rfl))) pa_nil))))))), ?_⟩
  refine ⟨_, rfl, d, hd, _, rfl, ite_b (fun hS => ?_) (fun hS => ?_)⟩
  · obtain ⟨x, rfl⟩ : ∃ x, d = .str x := by cases d <;> simp_all [isS]
    cases hd
    have lx : x.length ≤ 1000000 := by simp only [D.size] at hz; omega
    refine ⟨_, rfl, x, rfl, sz (by omega), _, _, rfl, rfl, _, rfl, ite_b (fun h1 => ?_) (fun h1 => ?_)⟩
    · refine ⟨_, _, rfl, rfl, _, rfl, ite_b (fun h2 => ?_) (fun h2 => ?_)⟩
      · have l8 : x.length ≤ 8 := by have := of_decide_eq_true h2; omega
        refine ⟨_, rfl, x, rfl, ?_⟩
        intro Dl hD
        refine lc_signs (K := K) (fun y => .bl (signOk y)) (fun _ => true) hD (by omega) (fun _ => rfl) (fun _ _ _ _ r => r) (fun y H' R _ _ r => ⟨_, rfl, _, _, rfl, rfl, r⟩) (fun H' k hl => ?_)
        refine ⟨Dl, (signs x).map signOk, rfl, SqL.of ?_, ?_⟩
        · rw [hl]
          rw [filt]
          simp [List.map_map, Function.comp_def]
        · have e : isName (.str x) = ((signs x).map signOk).all id := by
            have a1 : 1 ≤ x.length := by have := of_decide_eq_true h1; omega
            simp [isName, isNameS, a1, l8, List.all_map, Function.comp_def]
          rw [← e]
          exact q _ k
      · have e : isName (.str x) = false := by
          have : ¬ x.length ≤ 8 := by have := of_decide_eq_false h2; omega
          simp [isName, isNameS, this]
        rw [← e]
        exact q _ (Same.refl _)
    · have e : isName (.str x) = false := by
        have : ¬ 1 ≤ x.length := by have := of_decide_eq_false h1; omega
        simp only [isName, isNameS, decide_eq_false this, Bool.false_and]
      refine ⟨_, rfl, iteF ?_⟩
      rw [← e]
      exact q _ (Same.refl _)
  · have : isName d = false := by cases d <;> simp_all [isS, isName]
    rw [← this]
    exact q _ (Same.refl _)
theorem ok_is_outcome : FnOk P w K mg base CX0 2 T.a_is_outcome T.d_is_outcome ["thing"] (sp1 isOut 100000 100) := by
  have G_is_name := ok_is_name (P := P) (w := w) (base := base) T
  refine T.F_is_outcome.ok sc_is_outcome sp1_len (fun cdv A outer s H vs Q E hr h => ?_)
  obtain ⟨v, d, rfl, hd, hz, hm, q⟩ := h
  refine ⟨_, 
    (pss_one (ps_ret (pe_and (pe_isD (fun _ => kit_S) T.m_isinstance (pv 0) (pe_bltn (v := .ty "str") (u := .type "str") (by rfl) T.m_str (by decide +kernel) rfl) mon_var) (pe_one (pe_or (pe_call G_is_name (hr.mono (by omega)) (by rfl) T.f_is_name T.F_is_name.kp T.b_is_name .nil pass0 (pa_cons (pv 0) pa_nil)) (pe_one (pe_and (pe_bm PySem.F.plainAttrs_str PySem.F.slot_str_endswith PySem.F.type_str_endswith mt_endswith (pv 0) (pa_cons pe_str pa_nil)) (pe_one (pe_call G_is_name (hr.mono (by omega)) (by rfl) T.f_is_name T.F_is_name.kp T.b_is_name .nil pass0 (pa_cons (pe_slice sl_str (pv 0) po_none (po_some (pe_un un_neg pe_int))) pa_nil)))))))))), ?_⟩
  refine ⟨_, rfl, d, hd, _, rfl, ite_b (fun hS => ?_) (fun hS => ?_)⟩
  · obtain ⟨x, rfl⟩ : ∃ x, d = .str x := by cases d <;> simp_all [isS]
    cases hd with
    | str _ ox =>
    have lx : x.length ≤ 100000 := by simp only [D.size] at hz; omega
    refine ⟨_, rfl, _, _, rfl, .str x ox, by omega, by simp only [D.deep]; omega, fun H1 k1 => ⟨_, rfl, ite_b (fun h1 => ?_) (fun h1 => ?_)⟩⟩
    · have e : isOut (.str x) = true := by
        have h1' : isNameS x = true := h1
        simp [isOut, isOutS, h1']
      rw [← e]
      exact q _ k1
    · have h1' : isNameS x = false := h1
      refine ⟨_, rfl, rfl, _, _, rfl, rfl, _, rfl, ite_b (fun h2 => ?_) (fun h2 => ?_)⟩
      · have ll := len_last (x := x)
        refine ⟨_, rfl, _, rfl, _, rfl, x, rfl, sz (by omega), _, _, rfl, (.str (cutLast x) (ok_cut ox)), by simp only [D.size]; omega, by simp only [D.deep]; omega, fun H2 k2 => ?_⟩
        have e : isOut (.str x) = isNameS (cutLast x) := by
          simp [isOut, isOutS, h1', h2]
        have q2 := q _ (k1.trans k2)
        rw [e] at q2
        exact q2
      · have e : isOut (.str x) = false := by
          simp [isOut, isOutS, h1', h2]
        have q2 := q _ k1
        rw [e] at q2
        exact q2
  · have : isOut d = false := by cases d <;> simp_all [isS, isOut]
    rw [← this]
    exact q _ (Same.refl _)
/-- are_terms of a list or a tuple of data -/
def spTerms (K : PySem.W.Frag) : Sp := fun vs H Q _ => ∃ a us ds, vs = [.ref a] ∧ (SqL K H a us ∨ SqT K H a us) ∧ DvL H us ds ∧ sizes ds ≤ 100000 ∧ deeps ds ≤ 100 ∧ ∀ H', Same H H' → Q (.bl (areTerms ds)) H'
theorem ok_are_terms : FnOk P w K mg base CX0 2 T.a_are_terms T.d_are_terms ["things"] (spTerms K) := by
  have G_is_name := ok_is_name (P := P) (w := w) (base := base) T
  have G_is_integer := ok_is_integer (P := P) (w := w) (base := base) T
  refine T.F_are_terms.ok sc_are_terms ?_ (fun cdv A outer s H vs Q E hr h => ?_)
  · rintro vs H Q E ⟨a, us, ds, rfl, _⟩
    rfl
  obtain ⟨a, us, ds, rfl, hs, hd, hz, hm, q⟩ := h
  refine ⟨_, 
    (pss_cons (ps_set (i := 1) sc_are_terms.nd rfl (Or.inl rfl) (pe_callTy call_list_of (by rfl) T.m_list (by decide +kernel) (pa_cons (pv 0) pa_nil)))
    (pss_cons (ps_while PassesOwn.never (pt_truth (pv 1) (by intro _; rfl)) (pss_cons (ps_set (i := 2) sc_are_terms.nd rfl (Or.inl rfl) (pe_bm0 PySem.F.plainAttrs_list PySem.F.slot_list_pop PySem.F.type_list_pop mt_pop (pv 1))) (pss_one (ps_if (pt_val (pe_isD (fun _ => kit_T) T.m_isinstance (pv 2) (pe_bltn (v := .ty "tuple") (u := .type "tuple") (by rfl) T.m_tuple (by decide +kernel) rfl) mon_var)) (pss_cons (ps_if (pt_not (PW.pt (pw_and (pt_chain op_le op_le pe_int (pe_callB call_len_seq (by rfl) T.m_len (by decide +kernel) (pa_cons (pv 2) pa_nil)) pe_int) (pw_and1 (pt_val (pe_call G_is_name (hr.mono (by omega)) (by rfl) T.f_is_name T.F_is_name.kp T.b_is_name .nil pass0 (pa_cons (pe_ix ix_tup (pv 2) pe_int (fun _ _ => rfl)) pa_nil))))))) (pss_one (ps_ret pe_bl)) pss_nil) (pss_one (ps_expr (pe_bm PySem.F.plainAttrs_list PySem.F.slot_list_extend PySem.F.type_list_extend mt_extT (pv 1) (pa_cons (pe_slice sl_tupA (pv 2) (po_some pe_int) po_none) pa_nil))))) (pss_one (ps_if (pt_not (PW.pt (pw_and (pt_val (pe_call G_is_integer (hr.mono (by omega)) (by rfl) T.f_is_integer T.F_is_integer.kp T.b_is_integer .nil pass0 (pa_cons (pv 2) pa_nil))) (pw_and1 (pt_cmpR op_ge (pv 2) pe_int (nomark _)))))) (pss_one (ps_ret pe_bl)) pss_nil))))))
    (pss_one (ps_ret pe_bl)))), ?_⟩
  refine ⟨_, rfl, a, us, rfl, hs, fun l hl => ?_⟩
  refine ⟨fun m σ H' => ∃ vs es o, σ = [some (.ref a), some (.ref l), o] ∧ Same H H' ∧ H' l = some (.lst vs) ∧ DvL H vs es ∧ m = sizes es ∧ sizes es ≤ 100000 ∧ deeps es ≤ 100 ∧ areTerms es = areTerms ds,
    ⟨_, us, ds, none, rfl, Same.new hl, upd_same, hd, rfl, hz, hm, rfl⟩, ?_⟩
  rintro m σ H' ⟨vs, es, o, rfl, k, h1, h2, rfl, z1, z2, e1⟩
  refine ⟨_, rfl, !vs.isEmpty, .inl ⟨vs, SqL.of h1, rfl⟩, ite_b (fun c => ?_) (fun c => ?_)⟩
  · have ne : vs ≠ [] := by
      rintro rfl
      simp at c
    obtain ⟨y, d, es0, hy, rfl, h3, h4⟩ := last_split h2 ne
    refine ⟨fun σ' H2 => ∃ m', m' < sizes (es0 ++ [d]) ∧ ∃ vs es o, σ' = [some (.ref a), some (.ref l), o] ∧ Same H H2 ∧ H2 l = some (.lst vs) ∧ DvL H vs es ∧ m' = sizes es ∧ sizes es ≤ 100000 ∧ deeps es ≤ 100 ∧ areTerms es = areTerms ds, fun _ _ x => x, ?_⟩
    have k1 : Same H (upd H' l (.lst vs.dropLast)) := Same.upd k hl
    have zs := sizes_app es0 [d]
    simp only [sizes] at zs
    have pd := size_pos d
    have dd : d.deep ≤ 100 := Nat.le_trans (deep_mem (by simp)) z2
    have z3 : deeps es0 ≤ 100 := by
      have := deeps_app es0 [d]
      omega
    have e2 : areTerms (es0 ++ [d]) = (areTerms es0 && isTerm d) := by
      rw [areTerms_app]
      simp [areTerms]
    refine ⟨_, rfl, .inl ⟨rfl, _, SqL.of h1⟩, l, vs, y, rfl, rfl, h1, hy, ?_⟩
    refine ⟨_, rfl, d, h4.same k1 _ _, _, rfl, ite_b (fun ct => ?_) (fun ct => ?_)⟩
    · obtain ⟨fs, rfl⟩ : ∃ fs, d = .tup fs := by cases d <;> simp_all [isT]
      cases h4 with
      | @tup b ws _ h5 h6 =>
      have lw := h6.len
      have n1 := len_sizes fs
      simp only [D.size, D.deep] at *
      refine ⟨_, rfl, b, ws, rfl, .inr (SqT.of (k1 _ _ h5)), _, _, rfl, rfl, _, rfl, ite_b (fun c1 => ?_) (fun c1 => ?_)⟩
      · have l1 : 1 ≤ ws.length := by have := of_decide_eq_true c1; omega
        refine ⟨_, _, rfl, rfl, _, rfl, ite_b (fun c2 => ?_) (fun c2 => ?_)⟩
        · have l4 : ws.length ≤ 4 := by have := of_decide_eq_true c2; omega
          cases h6 with
          | nil => simp at l1
          | @cons w0 wr f0 fr g0 g1 =>
          have lr := g1.len
          simp only [List.length_cons] at l4 lw
          simp only [sizes, deeps] at *
          refine ⟨_, rfl, b, _, 0, w0, rfl, rfl, SqT.of (k1 _ _ h5), atI_nat (j := 0) rfl, _, f0, rfl, g0.same k1 _ _, by omega, by omega, fun H2 k2 => ⟨_, rfl, ite_b (fun c3 => ?_) (fun c3 => ?_)⟩⟩
          · have e3 : areTerms ds = false := by
              rw [← e1, e2]
              simp [isTerm, isTermT, show isName f0 = false by simpa using c3]
            have q2 := q _ (k1.trans k2)
            rw [e3] at q2
            exact q2
          · have c4 : isName f0 = true := by simpa using c3
            obtain ⟨u1, u2⟩ := cutV_one (w0 :: wr) l1
            have k3 := k1.trans k2
            have h7 : H2 l = some (.lst vs.dropLast) := k2 _ _ upd_same
            refine ⟨_, rfl, .inl ⟨rfl, _, SqL.of h7⟩, _, rfl, _, rfl, b, _, rfl, SqT.of (k3 _ _ h5), fun z => absurd z u2, fun _ p hp => ?_⟩
            rw [u1]
            have k4 : Same H2 (upd H2 p (.tup wr)) := Same.new hp
            refine ⟨l, p, vs.dropLast, wr, rfl, rfl, k4 _ _ h7, SqT.of upd_same, ?_, ?_⟩
            · have := h3.len
              have := len_sizes es0
              exact sz (by omega)
            · refine ⟨sizes (es0 ++ fr), ?_, _, es0 ++ fr, _, rfl, Same.upd (k3.trans k4) hl, upd_same, h3.app g1, rfl, ?_, ?_, ?_⟩
              · rw [sizes_app, zs]
                have := size_pos f0
                omega
              · rw [sizes_app]
                omega
              · rw [deeps_app]
                omega
              · rw [← e1, e2, areTerms_app]
                have : decide (fr.length ≤ 3) = true := decide_eq_true (by omega)
                simp [isTerm, isTermT, c4, this]
        · have e3 : areTerms ds = false := by
            rw [← e1, e2]
            have l4 : ¬ ws.length ≤ 4 := by have := of_decide_eq_false c2; omega
            cases h6 with
            | nil => simp at l1
            | @cons w0 wr f0 fr g0 g1 =>
            have lr := g1.len
            simp only [List.length_cons] at l4
            have : decide (fr.length ≤ 3) = false := decide_eq_false (by omega)
            simp [isTerm, isTermT, this]
          have q2 := q _ k1
          rw [e3] at q2
          exact q2
      · have e3 : areTerms ds = false := by
          rw [← e1, e2]
          have l4 : ¬ 1 ≤ ws.length := by have := of_decide_eq_false c1; omega
          cases h6 with
          | nil => simp [isTerm, isTermT]
          | cons g0 g1 => simp at l4
        have q2 := q _ k1
        rw [e3] at q2
        exact ⟨_, rfl, iteF q2⟩
    · refine ⟨_, rfl, _, d, rfl, h4.same k1 _ _, by omega, dd, fun H2 k2 => ⟨_, rfl, ite_b (fun c1 => ?_) (fun c1 => ?_)⟩⟩
      · obtain ⟨i, rfl⟩ : ∃ i, d = .int i := by cases d <;> simp_all [isWhole]
        cases h4
        refine ⟨_, rfl, _, _, rfl, rfl, _, rfl, ite_b (fun c2 => ?_) (fun c2 => ?_)⟩
        · have e3 : areTerms ds = false := by
            rw [← e1, e2]
            have : ¬ 0 ≤ i := by simpa using c2
            simp [isTerm, this]
          have q2 := q _ (k1.trans k2)
          rw [e3] at q2
          exact q2
        · have i0 : 0 ≤ i := by simpa using c2
          refine ⟨sizes es0, by omega, _, es0, _, rfl, k1.trans k2, k2 _ _ upd_same, h3, rfl, by omega, z3, ?_⟩
          rw [← e1, e2]
          simp [isTerm, i0]
      · have e3 : areTerms ds = false := by
          rw [← e1, e2]
          cases d <;> simp_all [isTerm, isWhole, isT]
        have q2 := q _ (k1.trans k2)
        rw [e3] at q2
        exact q2
  · have e0 : vs = [] := by simpa using c
    subst e0
    cases h2
    have e3 : areTerms ds = true := by
      rw [← e1]
      rfl
    have q2 := q _ k
    rw [e3] at q2
    exact q2
theorem ok_is_term : FnOk P w K mg base CX0 3 T.a_is_term T.d_is_term ["thing"] (sp1 isTerm 100000 100) := by
  have G_are_terms := ok_are_terms (P := P) (w := w) (base := base) T
  refine T.F_is_term.ok sc_is_term sp1_len (fun cdv A outer s H vs Q E hr h => ?_)
  obtain ⟨v, d, rfl, hd, hz, hm, q⟩ := h
  refine ⟨_, 
    (pss_one (ps_ret (pe_call G_are_terms (hr.mono (by omega)) (by rfl) T.f_are_terms T.F_are_terms.kp T.b_are_terms .nil pass0 (pa_cons (pe_lst (pa_cons (pv 0) pa_nil)) pa_nil)))), ?_⟩
  refine ⟨_, rfl, (by show 1 ≤ sizeLine; decide), fun p hp => ⟨p, [v], [d], rfl, .inl (SqL.of upd_same), ?_, ?_, ?_, fun H' k => ?_⟩⟩
  · exact .cons (hd.same (Same.new hp) _ _) .nil
  · simp only [sizes]; omega
  · simp only [deeps]; omega
  · have q2 := q _ ((Same.new hp).trans k)
    have e : areTerms [d] = isTerm d := by simp [areTerms]
    rw [e]
    exact q2
def areValues (n : Int) : D → Bool
  | .tup ds => decide ((ds.length : Int) = n) && areTerms ds
  | _ => false
/-- are_values of a number and of data -/
def spVals : Sp := fun vs H Q _ => ∃ n v d, vs = [.int n, v] ∧ Dv H v d ∧ d.size ≤ 100000 ∧ d.deep ≤ 100 ∧ ∀ H', Same H H' → Q (.bl (areValues n d)) H'
theorem ok_are_values : FnOk P w K mg base CX0 3 T.a_are_values T.d_are_values ["many", "thing"] spVals := by
  have G_are_terms := ok_are_terms (P := P) (w := w) (base := base) T
  refine T.F_are_values.ok sc_are_values ?_ (fun cdv A outer s H vs Q E hr h => ?_)
  · rintro vs H Q E ⟨n, v, d, rfl, _⟩
    rfl
  obtain ⟨n, v, d, rfl, hd, hz, hm, q⟩ := h
  refine ⟨_, 
    (pss_one (ps_ret (pe_and (pe_isD (fun _ => kit_T) T.m_isinstance (pv 1) (pe_bltn (v := .ty "tuple") (u := .type "tuple") (by rfl) T.m_tuple (by decide +kernel) rfl) mon_var) (pe_and (pe_cmpR op_eq (pe_callB call_len_seq (by rfl) T.m_len (by decide +kernel) (pa_cons (pv 1) pa_nil)) (pv 0) (nomark _)) (pe_one (pe_call G_are_terms (hr.mono (by omega)) (by rfl) T.f_are_terms T.F_are_terms.kp T.b_are_terms .nil pass0 (pa_cons (pv 1) pa_nil))))))), ?_⟩
  refine ⟨_, rfl, d, hd, _, rfl, ite_b (fun hS => ?_) (fun hS => ?_)⟩
  · obtain ⟨ds, rfl⟩ : ∃ ds, d = .tup ds := by cases d <;> simp_all [isT]
    cases hd with
    | @tup b ws _ h5 h6 =>
    simp only [D.size, D.deep] at hz hm
    have lw := h6.len
    refine ⟨_, rfl, b, ws, rfl, .inr (SqT.of h5), _, rfl, rfl, _, rfl, ite_b (fun c1 => ?_) (fun c1 => ?_)⟩
    · refine ⟨_, rfl, b, ws, ds, rfl, .inr (SqT.of h5), h6, by omega, by omega, fun H' k => ?_⟩
      have q2 := q _ k
      have e1 : ((ds.length : Nat) : Int) = n := by
        have := of_decide_eq_true c1
        injection this with z
        omega
      simp only [areValues, e1, decide_true, Bool.true_and] at q2
      exact q2
    · have q2 := q _ (Same.refl _)
      have e1 : ¬ ((ds.length : Nat) : Int) = n := by
        intro z
        refine of_decide_eq_false c1 ?_
        rw [lw, z]
      simp only [areValues, decide_eq_false e1, Bool.false_and] at q2
      exact q2
  · have : areValues n d = false := by cases d <;> simp_all [isT, areValues]
    have q2 := q _ (Same.refl _)
    rw [this] at q2
    exact q2
theorem ok_law_is_whole : FnOk P w K mg base CX0 1 T.a__law_is_whole T.d__law_is_whole ["_law_thing_here"] (sp1 isWhole 1000000 100) := by
  refine T.F__law_is_whole.ok sc__law_is_whole sp1_len (fun cdv A outer s H vs Q E hr h => ?_)
  obtain ⟨v, d, rfl, hd, hz, hm, q⟩ := h
  refine ⟨_, 
    (pss_one (ps_ret (pe_and (pe_isD (fun _ => kit_I) T.m_isinstance (pv 0) (pe_bltn (v := .ty "int") (u := .type "int") (by rfl) T.m_int (by decide +kernel) rfl) mon_var) (pe_and (pe_cmpR op_notB2 (pv 0) pe_bl (nomark _)) (pe_one (pe_cmpR op_notB2 (pv 0) pe_bl (nomark _))))))), ?_⟩
  refine ⟨_, rfl, d, hd, _, rfl, ite_b (fun hI => ?_) (fun hI => ?_)⟩
  · have hx : (∃ i, v = .int i ∧ d = .int i) ∨ ∃ b, v = .bl b ∧ d = .bl b := by
      cases hd with
      | int i => exact .inl ⟨i, rfl, rfl⟩
      | bl b => exact .inr ⟨b, rfl, rfl⟩
      | non => simp [isI] at hI
      | str x _ => simp [isI] at hI
      | tup a b => simp [isI] at hI
      | lst a b => simp [isI] at hI
      | dic a => simp [isI] at hI
    have q2 := q _ (Same.refl _)
    rcases hx with ⟨i, rfl, rfl⟩ | ⟨b, rfl, rfl⟩
    · exact ⟨_, rfl, true, rfl, .inl ⟨i, rfl⟩, _, rfl, iteT ⟨_, rfl, false, rfl, .inl ⟨i, rfl⟩, q2⟩⟩
    · refine ⟨_, rfl, true, rfl, .inr ⟨b, rfl⟩, _, rfl, ?_⟩
      cases b with
      | true => exact iteF q2
      | false => exact iteT ⟨_, rfl, false, rfl, .inr ⟨_, rfl⟩, q2⟩
  · have : isWhole d = false := by cases d <;> simp_all [isI, isWhole]
    rw [← this]
    exact q _ (Same.refl _)
end
end K11
set_option maxRecDepth 100000
set_option maxHeartbeats 2000000
namespace K11
open PySem L2 Fm
section
variable {P : Program} {w : World} {K : PySem.W.Frag} {mg : Str → Option Value} {base : Heap} (T : Txt K mg)
theorem ok_law_is_named : FnOk P w K mg base CX0 1 T.a__law_is_named T.d__law_is_named ["_law_thing_here"] (sp1 isName 100000 100) := by
  refine T.F__law_is_named.ok sc__law_is_named sp1_len (fun cdv A outer s H vs Q E hr h => ?_)
  obtain ⟨v, d, rfl, hd, hz, hm, q⟩ := h
  refine ⟨_, 
    (pss_cons (ps_if (PW.pt (pw_or (pt_not (pt_val (pe_isD (fun _ => kit_S) T.m_isinstance (pv 0) (pe_bltn (v := .ty "str") (u := .type "str") (by rfl) T.m_str (by decide +kernel) rfl) mon_var))) (pw_or1 (pt_cmpR op_ni_rng (pe_callB call_len_str (by rfl) T.m_len (by decide +kernel) (pa_cons (pv 0) pa_nil)) (pe_callTy cr_range2 (by rfl) T.m_range (by decide +kernel) (pa_cons pe_int (pa_cons pe_int pa_nil))) (by rfl))))) (pss_one (ps_ret pe_bl)) pss_nil)
    (pss_one (ps_ret (pe_cmpR (op_eqD hr.units) (pe_lc (own := [("_law_sign", 1)]) (g := gName 1) rfl sc__law_is_named.nd (pi_str (pv 0)) (blkOk_by (N := N__law_is_named) (sc := defScope s__law_is_named) (by decide +kernel)) (fun _ _ _ _ _ => pg_name (i := 1) sc__law_is_named.nd rfl (Or.inl rfl)) (fun _ _ _ _ _ => pts_one (pt_cmpR op_notin_str (pv 1) pe_str (by rfl))) (fun _ _ _ _ _ => pv 1)) (pe_lst pa_nil) (nomark _))))), ?_⟩
  refine ⟨_, rfl, d, hd, _, rfl, ite_b (fun hS => ?_) (fun hS => ?_)⟩
  · have : isName d = false := by cases d <;> simp_all [isS, isName]
    have q2 := q _ (Same.refl _)
    rw [this] at q2
    exact iteT q2
  · obtain ⟨x, rfl⟩ : ∃ x, d = .str x := by cases d <;> simp_all [isS]
    cases hd with
    | str _ ox =>
    have lx : x.length ≤ 100000 := by simp only [D.size] at hz; omega
    refine ⟨_, rfl, x, rfl, sz (by omega), _, _, rfl, fun p hp => ⟨_, p, _, _, rfl, rfl, upd_same, _, rfl, ite_b (fun h1 => ?_) (fun h1 => ?_)⟩⟩
    · have e : isName (.str x) = false := by
        have h1' : (!decide ((1 : Int) ≤ (x.length : Int) ∧ (x.length : Int) < 9)) = true := h1
        have h2 : ¬ ((1 : Int) ≤ (x.length : Int) ∧ (x.length : Int) < 9) := of_decide_eq_false (by simpa only [Bool.not_eq_true'] using h1')
        by_cases z : 1 ≤ x.length
        · have : ¬ x.length ≤ 8 := by omega
          simp [isName, isNameS, this]
        · simp only [isName, isNameS, decide_eq_false z, Bool.false_and]
      have q2 := q _ (Same.new (o := .rng 1 9) hp)
      rw [e] at q2
      exact q2
    · have h1' : (!decide ((1 : Int) ≤ (x.length : Int) ∧ (x.length : Int) < 9)) = false := h1
      have h2 : (1 : Int) ≤ (x.length : Int) ∧ (x.length : Int) < 9 := by simpa using h1'
      have k1 : Same H (upd H p (.rng 1 9)) := Same.new hp
      refine ⟨_, rfl, x, rfl, ?_⟩
      intro Dl hD
      refine lc_signs (K := K) V.str (fun y => !signOk y) hD (by omega) (fun _ => rfl) (fun y H' R _ r => ⟨_, rfl, _, _, rfl, rfl, _, rfl, r⟩) (fun y H' R _ _ r => ⟨_, rfl, r⟩) (fun H' k hl => ?_)
      refine ⟨Nat.zero_le _, fun z hz => ?_⟩
      have hl' : (upd H' z (.lst [])) Dl = some (.lst (((signs x).filter fun y => !signOk y).map V.str)) := by
        rw [upd_ne (ne_of_none hl hz)]
        exact hl
      refine ⟨_, _, dp_strs (SqL.of hl'), .lst (SqL.of upd_same) .nil, shaped_strs (fun y hy => ok_signs ox ((List.mem_filter.mp hy).1)), by decide +kernel, ?_⟩
      rw [eqv_nil]
      have e : isName (.str x) = (((signs x).filter fun y => !signOk y).map PyData.str).isEmpty := by
        have a1 : 1 ≤ x.length := by omega
        have a2 : x.length ≤ 8 := by omega
        simp only [isName, isNameS, decide_eq_true a1, decide_eq_true a2, Bool.true_and]
        rw [Bool.eq_iff_iff]
        simp [List.filter_eq_nil_iff]
      rw [← e]
      exact q _ ((k1.trans k).trans (Same.new hz))
theorem ok_law_is_outcome : FnOk P w K mg base CX0 2 T.a__law_is_outcome T.d__law_is_outcome ["_law_thing_here"] (sp1 isOut 100000 100) := by
  have G__law_is_named := ok_law_is_named (P := P) (w := w) (base := base) T
  refine T.F__law_is_outcome.ok sc__law_is_outcome sp1_len (fun cdv A outer s H vs Q E hr h => ?_)
  obtain ⟨v, d, rfl, hd, hz, hm, q⟩ := h
  refine ⟨_, 
    (pss_cons (ps_if (pt_val (pe_call G__law_is_named (hr.mono (by omega)) (by rfl) T.f__law_is_named T.F__law_is_named.kp T.b__law_is_named .nil pass0 (pa_cons (pv 0) pa_nil))) (pss_one (ps_ret pe_bl)) pss_nil)
    (pss_one (ps_ret (pe_and (pe_isD (fun _ => kit_S) T.m_isinstance (pv 0) (pe_bltn (v := .ty "str") (u := .type "str") (by rfl) T.m_str (by decide +kernel) rfl) mon_var) (pe_and (pe_cmpR op_gt (pe_callB call_len_str (by rfl) T.m_len (by decide +kernel) (pa_cons (pv 0) pa_nil)) pe_int (nomark _)) (pe_and (pe_cmpR op_eq (pe_ix ix_str (pv 0) (pe_op op_sub (pe_callB call_len_str (by rfl) T.m_len (by decide +kernel) (pa_cons (pv 0) pa_nil)) pe_int) (fun _ _ => rfl)) pe_str (nomark _)) (pe_one (pe_call G__law_is_named (hr.mono (by omega)) (by rfl) T.f__law_is_named T.F__law_is_named.kp T.b__law_is_named .nil pass0 (pa_cons (pe_slice sl_str (pv 0) po_none (po_some (pe_un un_neg pe_int))) pa_nil))))))))), ?_⟩
  refine ⟨_, rfl, _, d, rfl, hd, hz, hm, fun H1 k1 => ⟨_, rfl, ite_b (fun h1 => ?_) (fun h1 => ?_)⟩⟩
  · have q2 := q _ k1
    have e : isOut d = true := by cases d <;> simp_all [isName, isOut, isOutS]
    rw [e] at q2
    exact q2
  · refine ⟨_, rfl, d, hd.same k1 _ _, _, rfl, ite_b (fun hS => ?_) (fun hS => ?_)⟩
    · obtain ⟨x, rfl⟩ : ∃ x, d = .str x := by cases d <;> simp_all [isS]
      cases hd with
      | str _ ox =>
      have lx : x.length ≤ 100000 := by simp only [D.size] at hz; omega
      have n1 : isNameS x = false := h1
      have eo : isOut (.str x) = (Txt.endswith x "-" && isNameS (cutLast x)) := by simp [isOut, isOutS, n1]
      refine ⟨_, rfl, x, rfl, sz (by omega), _, _, rfl, rfl, _, rfl, ite_b (fun h2 => ?_) (fun h2 => ?_)⟩
      · have l2 : 1 < x.length := by have := of_decide_eq_true h2; omega
        obtain ⟨c, c0, c1⟩ := last_sign (x := x) (by omega)
        refine ⟨_, rfl, _, rfl, x, rfl, sz (by omega), _, _, rfl, rfl, x, ((x.length : Int) - 1), c, rfl, rfl, sz (by omega), (by rw [show ((x.length : Int) - 1) = ((x.length - 1 : Nat) : Int) by omega]; exact atI_nat c0), rfl, _, rfl, ite_b (fun h3 => ?_) (fun h3 => ?_)⟩
        · rw [← c1] at h3
          have ll := cutLast_len x
          refine ⟨_, rfl, _, rfl, _, rfl, x, rfl, sz (by omega), _, _, rfl, .str (cutLast x) (ok_cut ox), by simp only [D.size]; omega, by simp only [D.deep]; omega, fun H2 k2 => ?_⟩
          have q2 := q _ (k1.trans k2)
          rw [eo, h3, Bool.true_and] at q2
          exact q2
        · rw [← c1] at h3
          have q2 := q _ k1
          rw [eo, h3, Bool.false_and] at q2
          exact q2
      · have l2 : ¬ 1 < x.length := by have := of_decide_eq_false h2; omega
        have e0 : isNameS (cutLast x) = false := by
          have : (cutLast x).length = 0 := by
            have e1 := cutLast_len x
            omega
          simp [isNameS, this]
        have q2 := q _ k1
        rw [eo, e0, Bool.and_false] at q2
        exact q2
    · have : isOut d = false := by cases d <;> simp_all [isS, isOut]
      have q2 := q _ k1
      rw [this] at q2
      exact q2
/-- _law_is_term of data less deep than m -/
def spT (m : Nat) : Sp := fun vs H Q _ => ∃ v d, vs = [v] ∧ Dv H v d ∧ d.size ≤ 100000 ∧ d.deep ≤ 100 ∧ d.deep < m ∧ ∀ H', Same H H' → Q (.bl (isTerm d)) H'
theorem ok_law_is_term : ∀ m : Nat, FnOk P w K mg base CX0 (m + 2) T.a__law_is_term T.d__law_is_term ["_law_thing_here"] (spT m)
  | 0 => ⟨fun _ _ _ _ ⟨_, _, _, _, _, _, z, _⟩ => absurd z (Nat.not_lt_zero _), fun _ _ _ _ _ _ _ _ _ _ _ _ _ ⟨_, _, _, _, _, _, z, _⟩ => absurd z (Nat.not_lt_zero _)⟩
  | m + 1 => by
    have G__law_is_term := ok_law_is_term m
    have G__law_is_whole := ok_law_is_whole (P := P) (w := w) (base := base) T
    have G__law_is_named := ok_law_is_named (P := P) (w := w) (base := base) T
    refine T.F__law_is_term.ok sc__law_is_term ?_ (fun cdv A outer s H vs Q E hr h => ?_)
    · rintro vs H Q E ⟨v, d, rfl, _⟩
      rfl
    obtain ⟨v, d, rfl, hd, hz, hm, hlt, q⟩ := h
    refine ⟨_, 
    (pss_cons (ps_if (pt_val (pe_call G__law_is_whole (hr.mono (by omega)) (by rfl) T.f__law_is_whole T.F__law_is_whole.kp T.b__law_is_whole .nil pass0 (pa_cons (pv 0) pa_nil))) (pss_one (ps_ret (pe_cmpR op_ge (pv 0) pe_int (nomark _)))) pss_nil)
    (pss_cons (ps_if (PW.pt (pw_or (pt_not (pt_val (pe_isD (fun _ => kit_T) T.m_isinstance (pv 0) (pe_bltn (v := .ty "tuple") (u := .type "tuple") (by rfl) T.m_tuple (by decide +kernel) rfl) mon_var))) (pw_or (pt_cmpR op_notIn_seq (pe_callB call_len_seq (by rfl) T.m_len (by decide +kernel) (pa_cons (pv 0) pa_nil)) (pe_tup (pa_cons pe_int (pa_cons pe_int (pa_cons pe_int (pa_cons pe_int pa_nil))))) (by rfl)) (pw_or1 (pt_not (pt_val (pe_call G__law_is_named (hr.mono (by omega)) (by rfl) T.f__law_is_named T.F__law_is_named.kp T.b__law_is_named .nil pass0 (pa_cons (pe_ix ix_tup (pv 0) pe_int (fun _ _ => rfl)) pa_nil)))))))) (pss_one (ps_ret pe_bl)) pss_nil)
    (pss_one (ps_ret (pe_callB (cr_all rfl) (by rfl) T.m_all (by decide +kernel) (pa_cons (pe_lc (own := [("_law_part", 1)]) (g := gName 1) (tt := tYes) rfl sc__law_is_term.nd (pi_tup (pe_slice sl_tupA (pv 0) (po_some pe_int) po_none)) (blkOk_by (N := N__law_is_term) (sc := defScope s__law_is_term) (by decide +kernel)) (fun _ _ _ _ _ => pg_name (i := 1) sc__law_is_term.nd rfl (Or.inl rfl)) (fun _ _ _ _ _ => pts_nil) (fun _ _ _ _ _ => pe_call G__law_is_term (hr.mono (by omega)) (by rfl) T.f__law_is_term T.F__law_is_term.kp T.b__law_is_term .nil pass0 (pa_cons (pv 1) pa_nil))) pa_nil)))))), ?_⟩
    refine ⟨_, rfl, _, d, rfl, hd, by omega, hm, fun H1 k1 => ⟨_, rfl, ite_b (fun h1 => ?_) (fun h1 => ?_)⟩⟩
    · obtain ⟨i, rfl⟩ : ∃ i, d = .int i := by cases d <;> simp_all [isWhole]
      cases hd
      exact ⟨_, rfl, _, _, rfl, rfl, q _ k1⟩
    · refine ⟨_, rfl, d, hd.same k1 _ _, _, rfl, ite_b (fun h2 => ?_) (fun h2 => ?_)⟩
      · have e : isTerm d = false := by cases d <;> simp_all [isTerm, isT, isWhole]
        have q2 := q _ k1
        rw [e] at q2
        exact iteT q2
      · obtain ⟨fs, rfl⟩ : ∃ fs, d = .tup fs := by cases d <;> simp_all [isT]
        cases hd with
        | @tup b ws _ h5 h6 =>
        have lw := h6.len
        simp only [D.size, D.deep] at hz hm hlt
        refine ⟨_, rfl, b, ws, rfl, .inr (SqT.of (k1 _ _ h5)), (by show 4 ≤ sizeLine; decide), fun tp htp => ⟨tp, _, rfl, .inr (SqT.of upd_same), rfl, rfl, _, rfl, ite_b (fun h3 => ?_) (fun h3 => ?_)⟩⟩
        · have h3' : (!inV (.int (ws.length : Int)) [.int 1, .int 2, .int 3, .int 4]) = true := h3
          rw [in_1234] at h3'
          have e : isTerm (.tup fs) = false := by
            have z : ¬ (1 ≤ ws.length ∧ ws.length ≤ 4) := by simpa only [Bool.not_eq_true', decide_eq_false_iff_not] using h3'
            cases fs with
            | nil => simp [isTerm, isTermT]
            | cons f0 fr =>
              simp only [List.length_cons] at lw
              have : ¬ fr.length ≤ 3 := by omega
              simp [isTerm, isTermT, this]
          have q2 := q _ (k1.trans (Same.new (o := .tup [.int 1, .int 2, .int 3, .int 4]) htp))
          rw [e] at q2
          exact q2
        · have h3' : (!inV (.int (ws.length : Int)) [.int 1, .int 2, .int 3, .int 4]) = false := h3
          rw [in_1234] at h3'
          have z : 1 ≤ ws.length ∧ ws.length ≤ 4 := by simpa only [Bool.not_eq_false', decide_eq_true_eq] using h3'
          have k2 : Same H (upd H1 tp (.tup [.int 1, .int 2, .int 3, .int 4])) := k1.trans (Same.new htp)
          cases h6 with
          | nil => simp at z
          | @cons w0 wr f0 fr g0 g1 =>
          have lr := g1.len
          simp only [List.length_cons] at z lw
          simp only [sizes, deeps] at hz hm hlt
          refine ⟨_, rfl, b, _, 0, w0, rfl, rfl, SqT.of (k2 _ _ h5), atI_nat (j := 0) rfl, _, f0, rfl, g0.same k2 _ _, by omega, by omega, fun H3 k3 => ⟨_, rfl, ite_b (fun h4 => ?_) (fun h4 => ?_)⟩⟩
          · have e : isTerm (.tup (f0 :: fr)) = false := by
              simp [isTerm, isTermT, show isName f0 = false by simpa using h4]
            have q2 := q _ (k2.trans k3)
            rw [e] at q2
            exact q2
          · have h4' : isName f0 = true := by simpa using h4
            obtain ⟨u1, u2⟩ := cutV_one (w0 :: wr) (by simp)
            have k4 := k2.trans k3
            refine ⟨_, rfl, _, rfl, b, _, rfl, SqT.of (k4 _ _ h5), fun y => absurd y u2, fun _ p hp => ?_⟩
            rw [u1]
            have k5 : Same H (upd H3 p (.tup wr)) := k4.trans (Same.new hp)
            refine ⟨p, rfl, ⟨wr, SqT.of upd_same⟩, fun Dl hD => ?_⟩
            refine lc_tupD (K := K) (fun d => .bl (isTerm d)) (SqT.of upd_same) (g1.same k5 _ _) hD (show wr.length ≤ 100000 by have := len_sizes fr; omega) (fun _ => rfl) (fun _ _ _ r => r) (fun x d H' R k6 hm6 hx r => ?_) (fun H' k6 hl => ?_)
            · have s1 := size_mem hm6
              have s2 := deep_mem hm6
              exact ⟨_, rfl, x, d, rfl, hx.same k6 _ _, by omega, by omega, by omega, r⟩
            · refine ⟨Dl, fr.map isTerm, rfl, SqL.of ?_, ?_⟩
              · rw [hl]
                simp [List.map_map, Function.comp_def]
              · have e : isTerm (.tup (f0 :: fr)) = (fr.map isTerm).all id := by
                  have : fr.length ≤ 3 := by omega
                  simp [isTerm, isTermT, h4', this, areTerms_all, List.all_map, Function.comp_def]
                rw [← e]
                exact q _ (k5.trans k6)
end
end K11
set_option maxRecDepth 100000
set_option maxHeartbeats 2000000
namespace K11
open PySem L2 Fm
section
variable {P : Program} {w : World} {K : PySem.W.Frag} {mg : Str → Option Value} {base : Heap} (T : Txt K mg)
theorem ok_law_take : FnOk P w K mg base CX0 1 T.a__law_take T.d__law_take ["_law_bag_here", "_law_many"] spTake := by
  refine T.F__law_take.ok sc__law_take ?_ (fun cdv A outer s H vs Q E hr h => ?_)
  · rintro vs H Q E ⟨b, p, n, rfl, _⟩
    rfl
  obtain ⟨b, p, n, rfl, B0, n0, n1, q⟩ := h
  refine ⟨_, 
    (Evl.pss_cut (ps_if (pt_cmpR op_eq (pe_ix ix_list (pv 0) pe_int (fun _ _ => rfl)) pe_int (nomark _)) (pss_cons (ps_set (i := 2) sc__law_take.nd rfl (Or.inl rfl) pe_int) (Evl.pss_cut (ps_if (pt_cmpR op_lt (pe_ix ix_list (pv 0) pe_int (fun _ _ => rfl)) (pe_callB call_len_seq (by rfl) T.m_len (by decide +kernel) (pa_cons (pe_ix ix_list (pv 0) pe_int (fun _ _ => rfl)) pa_nil)) (nomark _)) (pss_one (ps_set (i := 2) sc__law_take.nd rfl (Or.inl rfl) (pe_ix ix_list (pe_ix ix_list (pv 0) pe_int (fun _ _ => rfl)) (pe_ix ix_list (pv 0) pe_int (fun _ _ => rfl)) (fun _ _ => rfl)))) pss_nil) (pss_cons (ps_augS (pv 0) pe_int pg_list pe_int ip_add set_list) (Evl.pss_cut (ps_if (pt_cmpR op_ge (pv 2) pe_int (nomark _)) (pss_one (ps_asg (pv 2) (pg_sub (pv 0) pe_int set_list))) pss_nil) (pss_cons (ps_set (i := 3) sc__law_take.nd rfl (Or.inl rfl) (pe_op op_add (pe_op op_add (pe_op op_mul (pe_ix ix_list (pv 0) pe_int (fun _ _ => rfl)) pe_int) (pe_op op_mod (pe_callTy call_int1 (by rfl) T.m_int (by decide +kernel) (pa_cons (pv 2) pa_nil)) pe_int)) (pe_op op_mul pe_int (pe_ix ix_list (pv 0) pe_int (fun _ _ => rfl))))) (pss_one (ps_asg (pe_op op_mod (pe_callTy call_int1 (by rfl) T.m_int (by decide +kernel) (pa_cons (pv 3) pa_nil)) pe_int) (pg_sub (pv 0) pe_int set_list)))))))) pss_nil)
    (pss_cons (ps_if (pt_cmpR op_gt (pe_ix ix_list (pv 0) pe_int (fun _ _ => rfl)) pe_int (nomark _)) (pss_cons (ps_set (i := 4) sc__law_take.nd rfl (Or.inl rfl) (pe_op op_mod (pe_callTy call_int1 (by rfl) T.m_int (by decide +kernel) (pa_cons (pe_ix ix_list (pv 0) pe_int (fun _ _ => rfl)) pa_nil)) (pv 1))) (pss_cons (ps_asg (pe_op op_fdiv (pe_ix ix_list (pv 0) pe_int (fun _ _ => rfl)) (pv 1)) (pg_sub (pv 0) pe_int set_list)) (pss_one (ps_ret (pv 4))))) pss_nil)
    (pss_cons (ps_set (i := 5) sc__law_take.nd rfl (Or.inl rfl) (pe_op op_mod (pe_callTy call_int1 (by rfl) T.m_int (by decide +kernel) (pa_cons (pe_op op_mul (pe_op op_add (pe_ix ix_list (pv 0) pe_int (fun _ _ => rfl)) pe_int) pe_int) pa_nil)) pe_int))
    (pss_cons (ps_set (i := 6) sc__law_take.nd rfl (Or.inl rfl) (pe_op op_mod (pe_callTy call_int1 (by rfl) T.m_int (by decide +kernel) (pa_cons (pe_op op_mul (pe_op op_mod (pe_callTy call_int1 (by rfl) T.m_int (by decide +kernel) (pa_cons (pe_op op_mul (pv 5) (pv 5)) pa_nil)) pe_int) pe_int) pa_nil)) pe_int))
    (pss_cons (ps_if (pt_cmpR op_gt (pv 1) pe_int (nomark _)) (pss_one (ps_ret (pe_op op_mod (pe_callTy call_int1 (by rfl) T.m_int (by decide +kernel) (pa_cons (pe_op op_add (pe_op op_mul (pv 6) pe_int) (pv 5)) pa_nil)) (pv 1)))) pss_nil)
    (pss_one (ps_ret (pe_op op_mod (pe_callTy call_int1 (by rfl) T.m_int (by decide +kernel) (pa_cons (pe_op op_fdiv (pv 6) pe_int) pa_nil)) (pv 1))))))))), ?_⟩
  -- the first if: the state behind it
  refine ⟨fun σ H' => ∃ c mx, σ = [some (.ref b), some (.int n), c, mx, none, none, none] ∧ Go b p H H', ?_, ?_⟩
  · obtain ⟨st, m, k, cells, hb, hp, ne, s0, m0, m1, k0, c0⟩ := id B0
    obtain ⟨kn, rfl⟩ := Int.eq_ofNat_of_zero_le k0
    refine ⟨_, rfl, b, _, 0, _, rfl, rfl, SqL.of hb, atI_nat (j := 0) rfl, rfl, _, rfl, ite_b (fun h1 => ?_) (fun h1 => ?_)⟩
    · refine ⟨fun σ H' => ∃ c, σ = [some (.ref b), some (.int n), some (.int c), none, none, none, none] ∧ H' = H ∧ 0 ≤ c, ?_, ?_⟩
      · refine ⟨_, rfl, b, _, 2, _, rfl, rfl, SqL.of hb, atI_nat (j := 2) rfl, _, rfl, b, _, 3, _, rfl, rfl, SqL.of hb, atI_nat (j := 3) rfl, p, cells.map V.int, rfl, .inl (SqL.of hp), _, _, rfl, rfl, _, rfl, ite_b (fun h2 => ?_) (fun h2 => ?_)⟩
        · have lt : kn < cells.length := by
            have := of_decide_eq_true h2
            rw [List.length_map] at this
            omega
          have ga : (cells.map V.int)[kn]? = some (.int cells[kn]) := by
            rw [List.getElem?_map]
            simp [lt]
          refine ⟨_, rfl, b, _, 3, _, rfl, rfl, SqL.of hb, atI_nat (j := 3) rfl, _, rfl, b, _, 2, _, rfl, rfl, SqL.of hb, atI_nat (j := 2) rfl, p, cells.map V.int, kn, _, rfl, rfl, SqL.of hp, atI_nat ga, ?_⟩
          exact ⟨_, rfl, rfl, c0 _ (List.getElem_mem lt)⟩
        · exact ⟨0, rfl, rfl, Int.le_refl _⟩
      · rintro σ H' ⟨c, rfl, rfl, c1⟩
        refine ⟨_, rfl, b, _, 2, _, rfl, rfl, hb, by decide, rfl, _, _, rfl, rfl, b, _, 2, 2, rfl, rfl, hb, rfl, ?_⟩
        refine ⟨fun σ H2 => σ = [some (.ref b), some (.int n), some (.int c), none, none, none, none] ∧ ∃ s1, H2 = upd H' b (.lst [.int s1, .int m, .int ((kn : Int) + 1), .ref p]) ∧ 0 ≤ s1, ?_, ?_⟩
        · refine ⟨_, rfl, _, _, rfl, rfl, _, rfl, ite_b (fun h2 => ?_) (fun h2 => ?_)⟩
          · refine ⟨_, rfl, _, rfl, b, _, 0, 0, rfl, rfl, upd_same, rfl, ?_⟩
            exact ⟨rfl, c, upd_upd, c1⟩
          · exact ⟨rfl, st, rfl, s0⟩
        · rintro σ H2 ⟨rfl, s1, rfl, s2⟩
          have e1 : (upd H' b (.lst [.int s1, .int m, .int ((kn : Int) + 1), .ref p])) b = some (.lst [.int s1, .int m, .int ((kn : Int) + 1), .ref p]) := upd_same
          refine ⟨_, rfl, b, _, 1, _, rfl, rfl, SqL.of e1, atI_nat (j := 1) rfl, _, _, rfl, rfl, .inl ⟨by omega, by omega⟩, _, rfl, .inl ⟨_, rfl, _, _, rfl, rfl, (by show (0 : Int) < _; decide), _, _, rfl, rfl, _, rfl, b, _, 2, _, rfl, rfl, SqL.of e1, atI_nat (j := 2) rfl, _, _, rfl, rfl, .inl ⟨by decide, by decide⟩, _, _, rfl, rfl, ?_⟩⟩
          refine ⟨_, rfl, .inl ⟨_, rfl, _, _, rfl, rfl, (by show (0 : Int) < _; decide), _, rfl, b, _, 1, 1, rfl, rfl, e1, rfl, ?_⟩⟩
          refine ⟨_, _, rfl, ?_, s1, _, (kn : Int) + 1, cells, upd_same, ?_, ne, s2, Int.emod_nonneg _ (by decide), Int.emod_lt_of_pos _ (by decide), by omega, c0⟩
          · rw [upd_upd, mask_updb]
            exact Same.refl _
          · rw [upd_ne ne, upd_ne ne]
            exact hp
    · exact ⟨none, none, rfl, .refl B0⟩
  · rintro σ H' ⟨c, mx, rfl, g⟩
    obtain ⟨st, m, k, cells, hb, hp, ne, s0, m0, m1, k0, c0⟩ := g.B
    refine ⟨_, rfl, b, _, 0, _, rfl, rfl, SqL.of hb, atI_nat (j := 0) rfl, _, _, rfl, rfl, _, rfl, ite_b (fun h1 => ?_) (fun h1 => ?_)⟩
    · refine ⟨_, rfl, b, _, 0, _, rfl, rfl, SqL.of hb, atI_nat (j := 0) rfl, .inl ⟨_, rfl, _, rfl, _, _, rfl, rfl, n0, ?_⟩⟩
      refine ⟨_, rfl, b, _, 0, _, rfl, rfl, SqL.of hb, atI_nat (j := 0) rfl, _, rfl, _, _, rfl, rfl, ⟨n0, by omega⟩, _, rfl, b, _, 0, 0, rfl, rfl, hb, rfl, ?_⟩
      refine ⟨_, rfl, q _ _ (Int.emod_nonneg _ (by omega)) (Int.emod_lt_of_pos _ n0) ⟨?_, st / n, m, k, cells, upd_same, ?_, ne, Int.ediv_nonneg s0 (by omega), m0, m1, k0, c0⟩⟩
      · rw [mask_updb]
        exact g.k
      · rw [upd_ne ne]
        exact hp
    · refine ⟨_, rfl, b, _, 1, _, rfl, rfl, SqL.of hb, atI_nat (j := 1) rfl, _, _, rfl, rfl, _, _, rfl, rfl, .inl ⟨by omega, by omega⟩, .inl ⟨_, rfl, _, _, rfl, rfl, (by show (0 : Int) < _; decide), ?_⟩⟩
      refine ⟨_, rfl, _, rfl, _, _, rfl, rfl, .inl ⟨?_, ?_⟩, .inl ⟨_, rfl, _, _, rfl, rfl, (by show (0 : Int) < _; decide), _, _, rfl, rfl, .inl ⟨?_, ?_⟩, .inl ⟨_, rfl, _, _, rfl, rfl, (by show (0 : Int) < _; decide), ?_⟩⟩⟩
      · have := Int.emod_nonneg ((m + 1) * 39373) (show (1000000007 : Int) ≠ 0 by decide)
        omega
      · have := Int.emod_lt_of_pos ((m + 1) * 39373) (show (0 : Int) < 1000000007 by decide)
        omega
      · have := Int.emod_nonneg ((m + 1) * 39373 % 1000000007 * ((m + 1) * 39373 % 1000000007)) (show (998244353 : Int) ≠ 0 by decide)
        omega
      · have := Int.emod_lt_of_pos ((m + 1) * 39373 % 1000000007 * ((m + 1) * 39373 % 1000000007)) (show (0 : Int) < 998244353 by decide)
        omega
      · refine ⟨_, rfl, _, _, rfl, rfl, _, rfl, ite_b (fun h2 => ?_) (fun h2 => ?_)⟩
        · have := of_decide_eq_true h2
          omega
        · refine ⟨_, rfl, _, _, rfl, rfl, ⟨by decide, by decide⟩, .inl ⟨_, rfl, _, rfl, _, _, rfl, rfl, n0, ?_⟩⟩
          exact q _ _ (Int.emod_nonneg _ (by omega)) (Int.emod_lt_of_pos _ n0) g
end
end K11
set_option maxRecDepth 100000
set_option maxHeartbeats 2000000
namespace K11
open PySem L2 Fm
section
variable {P : Program} {w : World} {K : PySem.W.Frag} {mg : Str → Option Value} {base : Heap} (T : Txt K mg)
theorem ok_law_bag : FnOk P w K mg base CX0 1 T.a__law_bag T.d__law_bag ["_law_script"] (spBag K) := by
  refine T.F__law_bag.ok sc__law_bag ?_ (fun cdv A outer s H vs Q E hr h => ?_)
  · rintro vs H Q E ⟨a, ns, rfl, _⟩
    rfl
  obtain ⟨a, ns, rfl, hs, hl, q⟩ := h
  refine ⟨_, 
    (pss_one (ps_ret (pe_lst (pa_cons pe_int (pa_cons pe_int (pa_cons pe_int (pa_cons (pe_lc (own := [("_law_cell", 1)]) (g := gName 1) (tt := tYes) rfl sc__law_bag.nd (pi_list (pe_slice sl_list (pv 0) po_none (po_some pe_int))) (blkOk_by (N := N__law_bag) (sc := defScope s__law_bag) (by decide +kernel)) (fun _ _ _ _ _ => pg_name (i := 1) sc__law_bag.nd rfl (Or.inl rfl)) (fun _ _ _ _ _ => pts_nil) (fun _ _ _ _ _ => pe_callB call_abs (by rfl) T.m_abs (by decide +kernel) (pa_cons (pv 1) pa_nil))) pa_nil))))))), ?_⟩
  refine ⟨_, rfl, _, rfl, a, _, rfl, hs, fun c hc => ⟨c, rfl, ⟨_, SqL.of upd_same⟩, fun Dl hD => ?_⟩⟩
  obtain ⟨ms, em, lm⟩ : ∃ ms : List Int, cutV (ns.map V.int) none (some 63) = ms.map V.int ∧ ms.length ≤ 63 := by
    unfold cutV
    rw [← List.map_drop, ← List.map_take]
    refine ⟨_, rfl, ?_⟩
    rw [List.length_take, List.length_drop]
    omega
  have k1 : Same H (upd H c (.lst (cutV (ns.map V.int) none (some 63)))) := Same.new hc
  rw [em] at hD k1 ⊢
  refine lc_listF (K := K) (fun v => match v with | .int i => .int (if i < 0 then -i else i) | v => v) (SqL.of upd_same) hD (by rw [List.length_map]; omega) (fun _ => rfl) (fun _ _ _ r => r) ?_ ?_
  · intro x H' R k hx r
    obtain ⟨i, _, rfl⟩ := List.mem_map.mp hx
    exact ⟨_, rfl, i, rfl, r _ (Same.refl _)⟩
  · intro H' k hl2
    refine ⟨(by show 4 ≤ sizeLine; decide), fun b hb => ?_⟩
    have k2 := k1.trans k
    have k3 : Same H' (upd H' b (.lst [.int 0, .int 1234567891, .int 0, .ref Dl])) := Same.new hb
    refine q b Dl _ (Same.free k2 hb) (k2.trans k3) ⟨0, 1234567891, 0, ms.map fun i => if i < 0 then -i else i, upd_same, k3 _ _ ?_, ne_of_none hl2 hb, by decide, by decide, by decide, by decide, ?_⟩
    · rw [hl2]
      simp [List.map_map, Function.comp_def]
    · intro z hz
      obtain ⟨i, _, rfl⟩ := List.mem_map.mp hz
      by_cases hi : i < 0
      · rw [if_pos hi]
        omega
      · rw [if_neg hi]
        omega
/-- two values that are the same data -/
def spAlike (K : PySem.W.Frag) : Sp := fun vs H Q _ => ∃ v1 v2 d, vs = [v1, v2] ∧ Dp K H v1 d ∧ Dp K H v2 d ∧ SeqAt.shaped d = true ∧ d.showable = true ∧ d.hasDict = false ∧ d.depth ≤ 60 ∧ d.shown.length ≤ sizeLine ∧ Q (.bl true) H
theorem ok_law_alike : FnG P w K mg base 1 T.a__law_alike T.d__law_alike ["_law_found", "_law_due"] (spAlike K) := by
  refine fnG T.F__law_alike sc__law_alike ?_ (fun cdv A outer s H vs Q gd hr h => ?_)
  · rintro vs H Q E ⟨v1, v2, d, rfl, _⟩
    rfl
  obtain ⟨v1, v2, d, rfl, h1, h2, sh, so, nd, dz, sl, q⟩ := h
  refine ⟨_, 
    (pss_one (ps_ret (pe_and (pe_cmpR (op_eqD hr.units) (pv 0) (pv 1) (nomark _)) (pe_one (pe_cmpR op_eq (pe_callB (call_repr hr gd) (by rfl) T.m_repr (by decide +kernel) (pa_cons (pv 0) pa_nil)) (pe_callB (call_repr hr gd) (by rfl) T.m_repr (by decide +kernel) (pa_cons (pv 1) pa_nil)) (nomark _)))))), ?_⟩
  refine ⟨_, rfl, _, rfl, d, d, h1, h2, sh, sh, _, rfl, ite_b (fun c => ?_) (fun c => ?_)⟩
  · refine ⟨_, rfl, v1, d, rfl, h1, so, nd, dz, sl, _, rfl, v2, d, rfl, h2, so, nd, dz, sl, rfl, ?_⟩
    rw [decide_eq_true rfl]
    exact q
  · rw [SeqAt.eqv_refl d (SeqAt.canLay_of_shaped sh)] at c
    cases c
def ws : List Str := Txt.split (("set ask end nil may must go begin move drop version back call silent same" : Str) ++ (" a b ab ba z" : Str)) " "
theorem ws_len : ws.length = 20 := by decide +kernel
theorem ws_ok : ∀ x ∈ ws, PyData.strOk x = true ∧ x.length ≤ 30 := by decide +kernel
theorem lt_len : letters.length = 26 := by decide +kernel
theorem lt_ok : PyData.strOk letters = true := by decide +kernel
theorem ok_law_names : FnOk P w K mg base CX0 2 T.a__law_names T.d__law_names ["_law_bag_here", "_law_many"] spNames := by
  have G__law_take := ok_law_take (P := P) (w := w) (base := base) T
  refine T.F__law_names.ok sc__law_names ?_ (fun cdv A outer s H vs Q E hr h => ?_)
  · rintro vs H Q E ⟨b, p, n, rfl, _⟩
    rfl
  obtain ⟨b, p, n, rfl, B, n0, n1, q⟩ := h
  refine ⟨_, 
    (pss_cons (ps_set (i := 2) sc__law_names.nd rfl (Or.inr rfl) pe_str)
    (pss_cons (ps_set (i := 3) sc__law_names.nd rfl (Or.inl rfl) pe_str)
    (pss_cons (ps_set (i := 3) sc__law_names.nd rfl (Or.inl rfl) (pe_bm PySem.F.plainAttrs_str PySem.F.slot_str_split PySem.F.type_str_split mt_split (pe_op op_add_str (pv 3) pe_str) (pa_cons pe_str pa_nil)))
    (pss_cons (ps_asg (pe_tup (pa_cons (pe_call G__law_take (hr.mono (by omega)) (by rfl) T.f__law_take T.F__law_take.kp T.b__law_take .nil pass0 (pa_cons (pv 0) (pa_cons pe_int pa_nil))) (pa_cons (pe_call G__law_take (hr.mono (by omega)) (by rfl) T.f__law_take T.F__law_take.kp T.b__law_take .nil pass0 (pa_cons (pv 0) (pa_cons pe_int pa_nil))) pa_nil))) (pg_tup rfl (pgs_cons (pg_name (i := 4) sc__law_names.nd rfl (Or.inl rfl)) (pgs_cons (pg_name (i := 5) sc__law_names.nd rfl (Or.inr rfl)) pgs_nil))))
    (pss_cons (ps_set (i := 6) sc__law_names.nd rfl (Or.inr rfl) (pe_bm PySem.F.plainAttrs_str PySem.F.slot_str_join PySem.F.type_str_join mt_join pe_str (pa_cons (pe_lc (own := [("_law_k", 8)]) (g := gName 8) (tt := tYes) rfl sc__law_names.nd (pi_range1 (by rfl) T.m_range (pa_cons (pe_op op_add pe_int (pe_call G__law_take (hr.mono (by omega)) (by rfl) T.f__law_take T.F__law_take.kp T.b__law_take .nil pass0 (pa_cons (pv 0) (pa_cons pe_int pa_nil)))) pa_nil)) (blkOk_by (N := N__law_names) (sc := defScope s__law_names) (by decide +kernel)) (fun _ _ _ _ _ => pg_name (i := 8) sc__law_names.nd rfl (Or.inl rfl)) (fun _ _ _ _ _ => pts_nil) (fun _ _ _ _ _ => pe_ix ix_str (pv 2) (pe_call G__law_take (hr.mono (by omega)) (by rfl) T.f__law_take T.F__law_take.kp T.b__law_take .nil pass0 (pa_cons (pv 0) (pa_cons pe_int pa_nil))) (fun _ _ => rfl))) pa_nil)))
    (pss_cons (ps_set (i := 7) sc__law_names.nd rfl (Or.inr rfl) (pe_call G__law_take (hr.mono (by omega)) (by rfl) T.f__law_take T.F__law_take.kp T.b__law_take .nil pass0 (pa_cons (pv 0) (pa_cons (pe_op op_add (pe_callB call_len_str (by rfl) T.m_len (by decide +kernel) (pa_cons (pv 6) pa_nil)) pe_int) pa_nil))))
    (pss_cons (ps_if (pt_cmpR op_eq (pv 4) pe_int (nomark _)) (pss_one (ps_ret (pe_slice sl_list (pe_op op_cat (pe_slice sl_list (pv 3) (po_some (pv 5)) po_none) (pe_slice sl_list (pv 3) po_none (po_some (pv 5)))) po_none (po_some (pv 1))))) pss_nil)
    (pss_cons (ps_if (pt_cmpR op_eq (pv 4) pe_int (nomark _)) (pss_one (ps_ret (pe_lc (own := [("_law_k", 8)]) (g := gName 8) (tt := tYes) rfl sc__law_names.nd (pi_range1 (by rfl) T.m_range (pa_cons (pv 1) pa_nil)) (blkOk_by (N := N__law_names) (sc := defScope s__law_names) (by decide +kernel)) (fun _ _ _ _ _ => pg_name (i := 8) sc__law_names.nd rfl (Or.inl rfl)) (fun _ _ _ _ _ => pts_nil) (fun _ _ _ _ _ => pe_ix ix_str (pv 2) (pe_op op_mod (pe_callTy call_int1 (by rfl) T.m_int (by decide +kernel) (pa_cons (pe_op op_add (pv 5) (pe_op op_mul pe_int (pv 8))) pa_nil)) pe_int) (fun _ _ => rfl))))) pss_nil)
    (pss_one (ps_ret (pe_lc (own := [("_law_k", 8)]) (g := gName 8) (tt := tYes) rfl sc__law_names.nd (pi_range1 (by rfl) T.m_range (pa_cons (pv 1) pa_nil)) (blkOk_by (N := N__law_names) (sc := defScope s__law_names) (by decide +kernel)) (fun _ _ _ _ _ => pg_name (i := 8) sc__law_names.nd rfl (Or.inl rfl)) (fun _ _ _ _ _ => pts_nil) (fun _ _ _ _ _ => pe_op op_add_str (pe_op op_add_str (pe_slice sl_str (pv 6) po_none (po_some (pv 7))) (pe_ix ix_str (pv 2) (pe_op op_mod (pe_callTy call_int1 (by rfl) T.m_int (by decide +kernel) (pa_cons (pe_op op_add (pv 5) (pe_op op_mul pe_int (pv 8))) pa_nil)) pe_int) (fun _ _ => rfl))) (pe_slice sl_str (pv 6) (po_some (pv 7)) po_none))))))))))))), ?_⟩
  refine ⟨_, rfl, _, _, rfl, rfl, (by decide +kernel), rfl, _, _, rfl, rfl, (by decide +kernel), (by decide +kernel), fun p1 hp1 => ?_⟩
  have g1 : Go b p H (upd H p1 (.lst (ws.map V.str))) := (Go.refl B).new hp1
  have w1 : newof H (upd H p1 (.lst (ws.map V.str))) p1 = some (.lst (ws.map V.str)) := newof_of hp1 upd_same
  refine ⟨_, rfl, b, p, 4, rfl, g1.B, by decide, by decide, fun way H2 a0 a1 g2 => ?_⟩
  refine ⟨_, rfl, b, p, 20, rfl, g2.B, by decide, by decide, fun turn H3 b0 b1 g3 => ⟨(by show 2 ≤ sizeLine; decide), fun tp htp => ?_⟩⟩
  have g4 : Go b p (upd H p1 (.lst (ws.map V.str))) (upd H3 tp (.tup [.int way, .int turn])) := (g2.trans g3).new htp
  have w4 := newof_go B g4 _ _ w1
  refine ⟨tp, _, rfl, SqT.of upd_same, rfl, _, _, rfl, _, _, rfl, rfl, ?_⟩
  have g5 := g1.trans g4
  clear g4 g3 g2 w1 htp
  generalize upd H3 tp (.tup [.int way, .int turn]) = H4 at g5 w4
  -- the base
  refine ⟨rfl, _, rfl, b, p, 7, rfl, g5.B, by decide, by decide, fun i7 H5 c0 c1 g6 => ⟨_, _, rfl, rfl, _, rfl, by omega, by omega, fun Dl hD => ?_⟩⟩
  refine lc_bag (fun d => ∃ x, d = .str x ∧ PyData.strOk x = true ∧ x.length ≤ 1) g6.B hD (by omega) (fun _ => rfl) (fun _ _ _ r => r) ?_ ?_
  · intro i H' R hi g r
    refine ⟨_, rfl, _, rfl, b, p, 26, rfl, g.B, by decide, by decide, fun j H2 d0 d1 g7 => ?_⟩
    obtain ⟨c, e1, e2⟩ := sign_at (x := letters) d0 (by rw [lt_len]; exact d1)
    have e3 := e2 lt_ok
    exact ⟨_, _, c, rfl, rfl, (by decide +kernel), e1, r _ (.str ⟨#[c]⟩) H2 g7 (.str _ e3) ⟨_, rfl, e3, Nat.le_refl _⟩⟩
  intro H6 acc ds g7 hl hds hg hn
  obtain ⟨ys, rfl, ok, ln⟩ := dvl_strs hds hg
  have l8 : ys.length ≤ 7 := by omega
  have sl := sum_len fun y hy => (ok y hy).2
  refine ⟨_, Dl, ys, rfl, rfl, .inl (SqL.of hl), ?_, ?_⟩
  · have z : (("" : String) : Str).length = 0 := rfl
    rw [z]
    omega
  have g8 := g5.trans (g6.trans g7)
  have w8 := newof_go B (g6.trans g7) _ _ w4
  obtain ⟨base, hb1, hb2, hb3⟩ : ∃ base, Txt.join "" ys = base ∧ PyData.strOk base = true ∧ base.length ≤ 7 :=
    ⟨_, rfl, ok_join fun y hy => (ok y hy).1, Nat.le_trans (len_join fun y hy => (ok y hy).2) l8⟩
  rw [hb1]
  refine ⟨_, rfl, _, rfl, base, rfl, sz (by omega), _, _, rfl, rfl, b, p, _, rfl, g8.B, by omega, by omega, fun at_ H7 f0 f1 g9 => ?_⟩
  have gA := g8.trans g9
  have wA := newof_go B g9 _ _ w8
  obtain ⟨np1, wB⟩ := newof_is wA
  refine ⟨_, rfl, rfl, _, rfl, ite_b (fun h1 => ?_) (fun h1 => ?_)⟩
  · obtain ⟨z1, e1, m1, l1⟩ := cut_strs ws (some turn) none
    obtain ⟨z2, e2, m2, l2⟩ := cut_strs ws none (some turn)
    rw [ws_len, sIx_none, sIx_at b0] at l1 l2
    refine ⟨_, rfl, _, rfl, _, rfl, p1, _, rfl, SqL.of wB, fun q1 hq1 => ?_⟩
    have s1 : Same H7 (upd H7 q1 (.lst (cutV (ws.map V.str) (some turn) none))) := Same.new hq1
    refine ⟨_, rfl, _, rfl, _, rfl, p1, _, rfl, SqL.of (s1 _ _ wB), fun q2 hq2 => ?_⟩
    refine ⟨q1, q2, _, _, rfl, rfl, Same.new hq2 _ _ upd_same, upd_same, ?_, fun q3 hq3 => ?_⟩
    · rw [e1, e2, List.length_map, List.length_map]
      exact sz (by omega)
    rw [e1, e2] at *
    have s2 := s1.trans ((Same.new (o := .lst (z2.map V.str)) hq2).trans (Same.new (o := .lst (z1.map V.str ++ z2.map V.str)) hq3))
    rw [← List.map_append] at *
    obtain ⟨z3, e3, m3, l3⟩ := cut_strs (z1 ++ z2) none (some n)
    rw [List.length_append, sIx_none, sIx_at n0] at l3
    refine ⟨_, rfl, _, rfl, q3, _, rfl, SqL.of upd_same, fun q4 hq4 => ?_⟩
    rw [e3]
    refine q q4 _ z3 ((gA.same s2).new hq4) (newof_of ((gA.same s2).free hq4) upd_same) (by omega) fun x hx => ?_
    rcases List.mem_append.mp (m3 x hx) with h | h
    · exact ws_ok x (m1 x h)
    · exact ws_ok x (m2 x h)
  · refine ⟨_, rfl, rfl, _, rfl, ite_b (fun h2 => ?_) (fun h2 => ?_)⟩
    · refine ⟨_, rfl, n, rfl, by omega, by omega, fun Dl hD => ?_⟩
      refine lc_bag (fun d => ∃ x, d = .str x ∧ PyData.strOk x = true ∧ x.length ≤ 30) gA.B hD (by omega) (fun _ => rfl) (fun _ _ _ r => r) ?_ ?_
      · intro i H' R hi g r
        obtain ⟨c, e1, e2⟩ := sign_at (x := letters) (i := (turn + 3 * (i : Int)) % 26) (Int.emod_nonneg _ (by decide)) (by rw [lt_len]; exact Int.emod_lt_of_pos _ (by decide))
        have e3 := e2 lt_ok
        refine ⟨_, rfl, _, rfl, _, rfl, _, _, rfl, rfl, .inl ⟨by decide, by decide⟩, _, _, rfl, rfl, .inl ⟨_, rfl, _, _, rfl, rfl, (by show (0 : Int) < _; decide), _, _, c, rfl, rfl, (by decide +kernel), e1, ?_⟩⟩
        exact r _ (.str ⟨#[c]⟩) H' (.refl g.B) (.str _ e3) ⟨_, rfl, e3, by show 1 ≤ 30; decide⟩
      · intro H' acc ds g hl hds hg hn
        obtain ⟨ys, rfl, ok, ln⟩ := dvl_strs hds hg
        exact q Dl H' ys (gA.trans g) (newof_of (gA.free hD) hl) (by omega) ok
    · refine ⟨_, rfl, n, rfl, by omega, by omega, fun Dl hD => ?_⟩
      refine lc_bag (fun d => ∃ x, d = .str x ∧ PyData.strOk x = true ∧ x.length ≤ 30) gA.B hD (by omega) (fun _ => rfl) (fun _ _ _ r => r) ?_ ?_
      · intro i H' R hi g r
        obtain ⟨c, e1, e2⟩ := sign_at (x := letters) (i := (turn + 3 * (i : Int)) % 26) (Int.emod_nonneg _ (by decide)) (by rw [lt_len]; exact Int.emod_lt_of_pos _ (by decide))
        have e3 := e2 lt_ok
        have c1 := cut_len_le (x := base) (lo := none) (hi := some at_)
        have c2 := cut_len_le (x := base) (lo := some at_) (hi := none)
        have c3 : (⟨#[c]⟩ : Str).length = 1 := rfl
        have l4 := len_app (cutS base none (some at_)) ⟨#[c]⟩
        have l5 := len_app (cutS base none (some at_) ++ ⟨#[c]⟩) (cutS base (some at_) none)
        refine ⟨_, rfl, _, rfl, _, rfl, base, rfl, sz (by omega), _, rfl, _, rfl, _, rfl, _, _, rfl, rfl, .inl ⟨by decide, by decide⟩, _, _, rfl, rfl, .inl ⟨_, rfl, _, _, rfl, rfl, (by show (0 : Int) < _; decide), _, _, c, rfl, rfl, (by decide +kernel), e1, _, _, rfl, rfl, sz (by omega), ?_⟩⟩
        refine ⟨_, rfl, _, rfl, _, rfl, base, rfl, sz (by omega), _, _, rfl, rfl, sz (by omega), ?_⟩
        have ok := ok_app (ok_app (ok_cut (lo := none) (hi := some at_) hb2) e3) (ok_cut (lo := some at_) (hi := none) hb2)
        exact r _ _ H' (.refl g.B) (.str _ ok) ⟨_, rfl, ok, by omega⟩
      · intro H' acc ds g hl hds hg hn
        obtain ⟨ys, rfl, ok, ln⟩ := dvl_strs hds hg
        exact q Dl H' ys (gA.trans g) (newof_of (gA.free hD) hl) (by omega) ok
end
end K11
set_option maxRecDepth 100000
set_option maxHeartbeats 2000000
namespace K11
open PySem L2 Fm
section
variable {P : Program} {w : World} {K : PySem.W.Frag} {mg : Str → Option Value} {base : Heap} (T : Txt K mg)
theorem ok_law_term : ∀ m : Nat, FnOk P w K mg base CX0 (m + 2) T.a__law_term T.d__law_term ["_law_bag_here", "_law_names_here", "_law_many", "_law_deep_here"] (spTerm m)
  | 0 => ⟨fun _ _ _ _ ⟨_, _, _, _, _, _, _, _, _, _, _, _, _, z, _⟩ => absurd z (Nat.not_lt_zero _), fun _ _ _ _ _ _ _ _ _ _ _ _ _ ⟨_, _, _, _, _, _, _, _, _, _, _, _, _, z, _⟩ => absurd z (Nat.not_lt_zero _)⟩
  | m + 1 => by
    have G__law_term := ok_law_term m
    have G__law_take := ok_law_take (P := P) (w := w) (base := base) T
    refine T.F__law_term.ok sc__law_term ?_ (fun cdv A outer s H vs Q E hr h => ?_)
    · rintro vs H Q E ⟨b, p, nm, xs, many, k, deep, rfl, _⟩
      rfl
    obtain ⟨b, p, nm, xs, many, k, deep, rfl, ed, B, N, m0, m1, km, kh, q⟩ := h
    refine ⟨_, 
    (pss_cons (ps_set (i := 4) sc__law_term.nd rfl (Or.inl rfl) (pe_call G__law_take (hr.mono (by omega)) (by rfl) T.f__law_take T.F__law_take.kp T.b__law_take .nil pass0 (pa_cons (pv 0) (pa_cons pe_int pa_nil))))
    (pss_cons (ps_if (PW.pt (pw_and (pt_cmpR op_gt (pv 2) pe_int (nomark _)) (pw_and1 (PW.pt (pw_or (pt_cmpR op_lt (pv 3) pe_int (nomark _)) (pw_or1 (pt_cmpR op_eq (pv 4) pe_int (nomark _)))))))) (pss_one (ps_ret (pe_call G__law_take (hr.mono (by omega)) (by rfl) T.f__law_take T.F__law_take.kp T.b__law_take .nil pass0 (pa_cons (pv 0) (pa_cons (pv 2) pa_nil))))) pss_nil)
    (pss_cons (ps_par (i := 5) (j := 6) (by rfl) sc__law_term.nd rfl rfl (by decide) rfl rfl (pa_cons (pe_ix ix_list (pv 1) (pe_call G__law_take (hr.mono (by omega)) (by rfl) T.f__law_take T.F__law_take.kp T.b__law_take .nil pass0 (pa_cons (pv 0) (pa_cons (pe_callB call_len_seq (by rfl) T.m_len (by decide +kernel) (pa_cons (pv 1) pa_nil)) pa_nil))) (fun _ _ => rfl)) (pa_cons (pe_call G__law_take (hr.mono (by omega)) (by rfl) T.f__law_take T.F__law_take.kp T.b__law_take .nil pass0 (pa_cons (pv 0) (pa_cons pe_int pa_nil))) pa_nil)) (by rfl))
    (pss_cons (ps_if (PW.pt (pw_or (PW.pt (pw_and (pt_cmpR op_le (pv 3) pe_int (nomark _)) (pw_and1 (pt_cmpR op_eq (pv 2) pe_int (nomark _))))) (pw_or1 (pt_cmpR op_eq (pv 4) pe_int (nomark _))))) (pss_one (ps_ret (pe_tup (pa_cons (pv 5) pa_nil)))) pss_nil)
    (pss_one (ps_ret (pe_op op_catA (pe_tup (pa_cons (pv 5) pa_nil)) (pe_callTy call_tuple_of (by rfl) T.m_tuple (by decide +kernel) (pa_cons (pe_lc (own := [("_law_k", 7)]) (g := gName 7) (tt := tYes) rfl sc__law_term.nd (pi_range1 (by rfl) T.m_range (pa_cons (pv 6) pa_nil)) (blkOk_by (N := N__law_term) (sc := defScope s__law_term) (by decide +kernel)) (fun _ _ _ _ _ => pg_name (i := 7) sc__law_term.nd rfl (Or.inl rfl)) (fun _ _ _ _ _ => pts_nil) (fun _ _ _ _ _ => pe_call G__law_term (hr.mono (by omega)) (by rfl) T.f__law_term T.F__law_term.kp T.b__law_term .nil pass0 (pa_cons (pv 0) (pa_cons (pv 1) (pa_cons (pv 2) (pa_cons (pe_op op_sub (pv 3) pe_int) pa_nil)))))) pa_nil))))))))), ?_⟩
    refine ⟨_, rfl, b, p, 4, rfl, B, by decide, by decide, fun way H1 a0 a1 g1 => ?_⟩
    have one : ∀ (i : Int) (H2 : Hp), Go b p H H2 → Q (.int i) H2 := fun i H2 g => q _ _ (.int i) g (.int i) (.int i) ⟨Nat.zero_le _, by
      have h4 : 1 ≤ 3 ^ k := Nat.one_le_pow _ _ (by decide)
      simp only [D.size]
      omega⟩
    refine ⟨_, rfl, _, _, rfl, rfl, _, rfl, ite_b (fun h1 => ?_) (fun h1 => absurd m0 (of_decide_eq_false h1))⟩
    refine ⟨_, rfl, _, _, rfl, rfl, _, rfl, ite_b (fun h2 => ?_) (fun h2 => ?_)⟩
    · exact iteT ⟨_, rfl, _, rfl, b, p, many, rfl, g1.B, m0, by omega, fun i H2 _ _ g2 => one i H2 (g1.trans g2)⟩
    have d1 : 1 ≤ deep := by have := of_decide_eq_false h2; omega
    refine ⟨_, rfl, rfl, _, rfl, ite_b (fun h3 => ?_) (fun h3 => ?_)⟩
    · exact ⟨_, rfl, _, rfl, b, p, many, rfl, g1.B, m0, by omega, fun i H2 _ _ g2 => one i H2 (g1.trans g2)⟩
    obtain ⟨j, rfl⟩ : ∃ j, k = j + 1 := ⟨k - 1, by omega⟩
    have N1 := N.go g1
    refine ⟨_, rfl, _, rfl, _, rfl, nm, _, rfl, .inl (SqL.of N1.at_), b, p, _, rfl, g1.B, ?_, ?_, fun at_ H2 b0 b1 g2 => ?_⟩
    · rw [List.length_map]
      have := N.pos
      omega
    · rw [List.length_map]
      have := N.few
      omega
    rw [List.length_map] at b1
    have N2 := N1.go g2
    obtain ⟨x, e1, ox, lx⟩ := N2.get b0 b1
    refine ⟨nm, _, at_, _, rfl, rfl, SqL.of N2.at_, e1, ?_⟩
    refine ⟨_, rfl, b, p, 4, rfl, g2.B, by decide, by decide, fun parts H3 c0 c1 g3 => ⟨_, _, rfl, ?_⟩⟩
    have g4 := (g1.trans g2).trans g3
    have N4 := N2.go g3
    clear g1 g2 g3 N1 N2 e1
    refine ⟨_, rfl, _, _, rfl, rfl, _, rfl, ite_b (fun h4 => ⟨_, rfl, rfl, _, rfl, ite_b (fun h5 => ?_) (fun h5 => ?_)⟩) (fun h4 => iteF ?_)⟩
    · have z := of_decide_eq_true h5
      injection z with z
      omega
    all_goals
      refine ⟨_, rfl, rfl, _, rfl, ite_b (fun h6 => ?_) (fun h6 => ?_)⟩
      · refine ⟨_, rfl, (by show 1 ≤ sizeLine; decide), fun tp htp => ?_⟩
        exact q _ _ (.tup [.str x]) (g4.new htp) (.tup (newof_of (g4.free htp) upd_same) (.cons (.str x ox) .nil)) (.tup x [] fun _ h => by cases h) (.tup lx (by decide) fun _ h => by cases h)
      · refine ⟨_, rfl, (by show 1 ≤ sizeLine; decide), fun tp htp => ?_⟩
        have g5 := g4.new (o := .tup [.str x]) htp
        refine ⟨_, rfl, parts, rfl, by omega, by omega, fun Dl hD => ?_⟩
        refine lc_bag (fun d => Tm d ∧ Sized j d) g5.B hD (by omega) (fun _ => rfl) (fun _ _ _ r => r) ?_ ?_
        · intro i H' R hi g r
          have N5 := (N4.go (.of g4.B (Same.new (o := .tup [.str x]) htp))).go g
          exact ⟨_, rfl, _, rfl, _, rfl, _, rfl, _, _, rfl, rfl, b, p, nm, xs, many, j, _, rfl, by omega, g.B, N5, m0, m1, by omega, by omega, fun v H2 d g2 hv tm szd => r v d H2 g2 hv ⟨tm, szd⟩⟩
        · intro H' acc ds g hl hds hg hn
          refine ⟨Dl, acc, rfl, .inl ⟨SqL.of hl, fun t2 ht2 => ?_⟩⟩
          have g6 := g5.trans g
          have la := hds.len
          have n5 : tp ≠ b := g4.B.b_ne htp
          have e5 : H' tp = some (.tup [.str x]) := g.at n5 upd_same
          have k2 : Same H' (upd H' t2 (.tup acc)) := Same.new ht2
          have l3 : ds.length ≤ 3 := by omega
          refine ⟨tp, t2, _, acc, rfl, rfl, SqT.of (k2 _ _ e5), SqT.of upd_same, sz (by simp only [List.length_cons, List.length_nil]; omega), fun z => (by cases z), fun _ z => ?_, fun _ z t3 ht3 => ?_⟩
          · have g7 := g6.same k2
            refine q _ _ (.tup [.str x]) g7 (.tup (newof_of (g4.free htp) (k2 _ _ e5)) (.cons (.str x ox) .nil)) (.tup x [] fun _ h => by cases h) (.tup lx (by decide) fun _ h => by cases h)
          · have g7 := g6.same k2
            have k3 : Same H' (upd (upd H' t2 (.tup acc)) t3 (.tup ([.str x] ++ acc))) := k2.trans (Same.new ht3)
            have h8 : DvL (newof H (upd (upd H' t2 (.tup acc)) t3 (.tup ([.str x] ++ acc)))) acc ds := (hds.same (newof_lift fun a ha => g5.free ha) _ _).same (newof_same k3) _ _
            exact q _ _ (.tup (.str x :: ds)) (g7.new ht3) (.tup (newof_of (g7.free ht3) upd_same) (.cons (.str x ox) h8)) (.tup x ds fun d hd => (hg d hd).1) (.tup lx l3 fun d hd => (hg d hd).2)
end
end K11
set_option maxRecDepth 100000
set_option maxHeartbeats 2000000
namespace K11
open PySem L2 Fm
section
variable {P : Program} {w : World} {K : PySem.W.Frag} {mg : Str → Option Value} {base : Heap} (T : Txt K mg)
def odds1 : List D := [.non, .bl true, .bl false, .int (-1), .str "a", .str "", .tup [.str ""], .tup [], .tup [.str "a", .str "b"], .tup [.str "a", .non], .tup [.str "A"], .tup [.str "abcdefghi"], .tup [.str "a", .int (-1)], .lst [.int 0]]
def odds2 : List D := [.lst [.str "a"], .tup [.str "a", .int 0, .int 0, .int 0, .int 0], .tup [.int 0], .tup [.non, .int 0], .tup [.str "a", .bl true], .dic, .tup [.str "a-"], .tup [.str "a", .lst [.str "b"]], .tup [.str "a b"], .tup [.str "a", .tup []]]
theorem odds_small : ∀ d ∈ odds1 ++ odds2, d.deep ≤ 3 ∧ d.size ≤ 40 := by decide +kernel
theorem ok_law_odd : FnOk P w K mg base CX0 2 T.a__law_odd T.d__law_odd ["_law_bag_here"] spOdd := by
  have G__law_take := ok_law_take (P := P) (w := w) (base := base) T
  refine T.F__law_odd.ok sc__law_odd ?_ (fun cdv A outer s H vs Q E hr h => ?_)
  · rintro vs H Q E ⟨b, p, rfl, _⟩
    rfl
  obtain ⟨b, p, rfl, B, q⟩ := h
  refine ⟨_, 
    (pss_cons (ps_set (i := 1) sc__law_odd.nd rfl (Or.inl rfl) (pe_lst (pa_cons pe_non (pa_cons pe_bl (pa_cons pe_bl (pa_cons (pe_un un_neg pe_int) (pa_cons pe_str (pa_cons pe_str (pa_cons (pe_tup (pa_cons pe_str pa_nil)) (pa_cons (pe_tup pa_nil) (pa_cons (pe_tup (pa_cons pe_str (pa_cons pe_str pa_nil))) (pa_cons (pe_tup (pa_cons pe_str (pa_cons pe_non pa_nil))) (pa_cons (pe_tup (pa_cons pe_str pa_nil)) (pa_cons (pe_tup (pa_cons pe_str pa_nil)) (pa_cons (pe_tup (pa_cons pe_str (pa_cons (pe_un un_neg pe_int) pa_nil))) (pa_cons (pe_lst (pa_cons pe_int pa_nil)) pa_nil))))))))))))))))
    (pss_cons (ps_set (i := 1) sc__law_odd.nd rfl (Or.inl rfl) (pe_op op_cat (pv 1) (pe_lst (pa_cons (pe_lst (pa_cons pe_str pa_nil)) (pa_cons (pe_tup (pa_cons pe_str (pa_cons pe_int (pa_cons pe_int (pa_cons pe_int (pa_cons pe_int pa_nil)))))) (pa_cons (pe_tup (pa_cons pe_int pa_nil)) (pa_cons (pe_tup (pa_cons pe_non (pa_cons pe_int pa_nil))) (pa_cons (pe_tup (pa_cons pe_str (pa_cons pe_bl pa_nil))) (pa_cons pe_dnewK (pa_cons (pe_tup (pa_cons pe_str pa_nil)) (pa_cons (pe_tup (pa_cons pe_str (pa_cons (pe_lst (pa_cons pe_str pa_nil)) pa_nil))) (pa_cons (pe_tup (pa_cons pe_str pa_nil)) (pa_cons (pe_tup (pa_cons pe_str (pa_cons (pe_tup pa_nil) pa_nil))) pa_nil)))))))))))))
    (pss_one (ps_ret (pe_ix ix_list (pv 1) (pe_call G__law_take (hr.mono (by omega)) (by rfl) T.f__law_take T.F__law_take.kp T.b__law_take .nil pass0 (pa_cons (pv 0) (pa_cons pe_int pa_nil))) (fun _ _ => rfl)))))), ?_⟩
  refine ed_asg (d := .lst odds1) ?h1 ?k1
  case h1 =>
    unfold odds1
    repeat (first | exact ed_non | exact ed_bl | exact ed_int | exact ed_neg | exact ed_dic | exact ed_str (by decide +kernel) | exact eda_nil | refine eda_cons ?_ ?_ | refine ed_tup ?_ (by simp; done) | refine ed_lst ?_ (by simp; done))
  intro v1 H1 k1 h1
  cases h1 with
  | @lst l1 us1 _ a1 b1 =>
  refine ⟨_, rfl, ?_⟩
  refine Ed.use (d := .lst odds2) ?h2 ?k2
  case h2 =>
    unfold odds2
    repeat (first | exact ed_non | exact ed_bl | exact ed_int | exact ed_neg | exact ed_dic | exact ed_str (by decide +kernel) | exact eda_nil | refine eda_cons ?_ ?_ | refine ed_tup ?_ (by simp; done) | refine ed_lst ?_ (by simp; done))
  intro v2 H2 k2 h3
  cases h3 with
  | @lst l2 us2 _ a2 b2 =>
  have c1 := (newof_is a1).2
  have c2 := (newof_is a2).2
  have n1 := b1.len
  have n2 := b2.len
  refine ⟨l1, l2, us1, us2, rfl, rfl, k2 _ _ c1, c2, ?_, fun l3 hl3 => ?_⟩
  · rw [n1, n2]
    decide
  have k3 : Same H2 (upd H2 l3 (.lst (us1 ++ us2))) := Same.new hl3
  have kk := (k1.trans k2).trans k3
  have b3 : DvL (newof H (upd H2 l3 (.lst (us1 ++ us2)))) (us1 ++ us2) (odds1 ++ odds2) :=
    (b1.same (newof_same (k2.trans k3)) _ _).app ((b2.same (newof_lift fun _ ha => k1.free ha) _ _).same (newof_same k3) _ _)
  have g := Go.of B kk
  refine ⟨_, rfl, _, rfl, b, p, 24, rfl, g.B, by decide, by decide, fun i H4 i0 i1 g2 => ?_⟩
  have n3 : l3 ≠ b := ((Go.of B (k1.trans k2)).B.b_ne hl3)
  have e3 : H4 l3 = some (.lst (us1 ++ us2)) := g2.at n3 upd_same
  obtain ⟨k, rfl⟩ := Int.eq_ofNat_of_zero_le i0
  have lt : k < (odds1 ++ odds2).length := by
    have : (odds1 ++ odds2).length = 24 := rfl
    omega
  obtain ⟨v, hv, hd⟩ := b3.getD (List.getElem?_eq_getElem lt)
  refine ⟨l3, _, _, v, rfl, rfl, SqL.of e3, atI_nat hv, ?_⟩
  have sm := odds_small _ (List.getElem_mem lt)
  exact q v H4 _ (g.trans g2) (hd.same (newof_go B g2) _ _) sm.1 sm.2
end
end K11
set_option maxRecDepth 100000
set_option maxHeartbeats 2000000
namespace K11
open PySem L2 Fm
section
variable {P : Program} {w : World} {K : PySem.W.Frag} {mg : Str → Option Value} {base : Heap} (T : Txt K mg)
theorem ok_law_spoilt : ∀ m : Nat, FnOk P w K mg base CX0 (m + 3) T.a__law_spoilt T.d__law_spoilt ["_law_bag_here", "_law_term_here"] (spSpoilt m)
  | 0 => ⟨fun _ _ _ _ ⟨_, _, _, _, _, _, _, _, z, _⟩ => absurd z (Nat.not_lt_zero _), fun _ _ _ _ _ _ _ _ _ _ _ _ _ ⟨_, _, _, _, _, _, _, _, z, _⟩ => absurd z (Nat.not_lt_zero _)⟩
  | m + 1 => by
    have G__law_spoilt := ok_law_spoilt m
    have G__law_take := ok_law_take (P := P) (w := w) (base := base) T
    have G__law_odd := ok_law_odd (P := P) (w := w) (base := base) T
    refine T.F__law_spoilt.ok sc__law_spoilt ?_ (fun cdv A outer s H vs Q E hr h => ?_)
    · rintro vs H Q E ⟨b, p, v, d, rfl, _⟩
      rfl
    obtain ⟨b, p, v, d, rfl, B, hd, tm, dm, d9, dz, q⟩ := h
    refine ⟨_, 
    (pss_cons (ps_if (PW.pt (pw_or (pt_val (pe_isD (fun _ => kit_I) T.m_isinstance (pv 1) (pe_bltn (v := .ty "int") (u := .type "int") (by rfl) T.m_int (by decide +kernel) rfl) mon_var)) (pw_or (pt_cmpR op_eq (pe_callB call_len_seq (by rfl) T.m_len (by decide +kernel) (pa_cons (pv 1) pa_nil)) pe_int (nomark _)) (pw_or1 (pt_cmpR op_eq (pe_call G__law_take (hr.mono (by omega)) (by rfl) T.f__law_take T.F__law_take.kp T.b__law_take .nil pass0 (pa_cons (pv 0) (pa_cons pe_int pa_nil))) pe_int (nomark _)))))) (pss_one (ps_ret (pe_call G__law_odd (hr.mono (by omega)) (by rfl) T.f__law_odd T.F__law_odd.kp T.b__law_odd .nil pass0 (pa_cons (pv 0) pa_nil)))) pss_nil)
    (pss_cons (ps_set (i := 2) sc__law_spoilt.nd rfl (Or.inl rfl) (pe_op op_add pe_int (pe_call G__law_take (hr.mono (by omega)) (by rfl) T.f__law_take T.F__law_take.kp T.b__law_take .nil pass0 (pa_cons (pv 0) (pa_cons (pe_op op_sub (pe_callB call_len_seq (by rfl) T.m_len (by decide +kernel) (pa_cons (pv 1) pa_nil)) pe_int) pa_nil)))))
    (pss_one (ps_ret (pe_op op_catA (pe_op op_catA (pe_slice sl_tupA (pv 1) po_none (po_some (pv 2))) (pe_tup (pa_cons (pe_call G__law_spoilt (hr.mono (by omega)) (by rfl) T.f__law_spoilt T.F__law_spoilt.kp T.b__law_spoilt .nil pass0 (pa_cons (pv 0) (pa_cons (pe_ix ix_tup (pv 1) (pv 2) (fun _ _ => rfl)) pa_nil))) pa_nil))) (pe_slice sl_tupA (pv 1) (po_some (pe_op op_add (pv 2) pe_int)) po_none)))))), ?_⟩
    refine ⟨_, rfl, d, hd.un, _, rfl, ite_b (fun h1 => ?_) (fun h1 => ?_)⟩
    · exact iteT ⟨_, rfl, b, p, rfl, B, fun v' H' d' g h2 h3 h4 => q v' H' d' g (h2.same (newof_mask B) _ _) (by omega) (by omega)⟩
    cases tm with
    | int i => simp [isI] at h1
    | tup x ds all =>
    cases hd with
    | @tup a us _ a1 a2 =>
    have a3 : H a = some (.tup us) := unmask _ _ a1
    have na : a ≠ b := fun z => by
      rw [z] at a1
      simp [mask] at a1
    have ln := a2.len
    simp only [List.length_cons] at ln
    have ls := len_sizes ds
    have dz' := dz
    simp only [D.size, sizes] at dz'
    refine ⟨_, rfl, a, us, rfl, .inr (SqT.of a3), rfl, _, rfl, ite_b (fun h2 => ?_) (fun h2 => ?_)⟩
    · exact iteT ⟨_, rfl, b, p, rfl, B, fun v' H' d' g h2 h3 h4 => q v' H' d' g (h2.same (newof_mask B) _ _) (by omega) (by omega)⟩
    refine ⟨_, rfl, b, p, 3, rfl, B, by decide, by decide, fun i H1 i0 i1 g1 => ⟨rfl, _, rfl, ite_b (fun h3 => ?_) (fun h3 => ?_)⟩⟩
    · exact ⟨_, rfl, b, p, rfl, g1.B, fun v' H' d' g h2 h3 h4 => q v' H' d' (g1.trans g) (h2.same (newof_mask g1.B) _ _) (by omega) (by omega)⟩
    have l2 : 2 ≤ us.length := by
      rcases (by omega : us.length = 1 ∨ 2 ≤ us.length) with z | z
      · rw [z] at h2
        simp at h2
      · exact z
    have b1 := g1.at na a3
    refine ⟨_, rfl, _, rfl, a, us, rfl, .inr (SqT.of b1), _, _, rfl, rfl, b, p, _, rfl, g1.B, by omega, by omega, fun j H2 j0 j1 g2 => ⟨_, _, rfl, rfl, ?_⟩⟩
    obtain ⟨jn, rfl⟩ := Int.eq_ofNat_of_zero_le j0
    have ek : (1 : Int) + (jn : Int) = ((jn + 1 : Nat) : Int) := by omega
    show gName 2 (V.int ((1 : Int) + (jn : Int))) _ _ _
    rw [ek]
    have lt : jn + 1 < us.length := by omega
    have g12 := g1.trans g2
    have b2 := g2.at na b1
    obtain ⟨u1, u2⟩ := cut_to lt
    refine ⟨_, rfl, _, rfl, _, rfl, a, us, rfl, SqT.of b2, fun z => absurd z u2, fun _ q1 hq1 => ?_⟩
    rw [u1]
    have n1 : q1 ≠ b := g2.B.b_ne hq1
    have k3 : Same H2 (upd H2 q1 (.tup (us.take (jn + 1)))) := Same.new hq1
    have g3 := g12.same k3
    have lt2 : jn < ds.length := by omega
    have fk : (D.str x :: ds)[jn + 1]? = some ds[jn] := by
      rw [List.getElem?_cons_succ, List.getElem?_eq_getElem lt2]
    obtain ⟨vk, hvk, hdk⟩ := a2.getD fk
    have mk := List.getElem_mem lt2
    have dk := deep_mem mk
    have sk := size_mem mk
    simp only [D.deep, deeps] at dm d9
    refine ⟨_, rfl, _, rfl, _, rfl, a, us, _, vk, rfl, rfl, SqT.of (k3 _ _ b2), atI_nat hvk, b, p, vk, ds[jn], rfl, g3.B, g3.dv hdk, all _ mk, by omega, by omega, by omega, fun v' H4 d' g4 hd' dd' ds' => ⟨(by show 1 ≤ sizeLine; decide), fun q2 hq2 => ?_⟩⟩
    have e1 := g4.at n1 (upd_same (H := H2) (a := q1) (o := .tup (us.take (jn + 1))))
    have n2 : q2 ≠ b := g4.B.b_ne hq2
    have k5 : Same H4 (upd H4 q2 (.tup [v'])) := Same.new hq2
    have lt4 : (us.take (jn + 1)).length = jn + 1 := by
      rw [List.length_take]
      omega
    refine ⟨q1, q2, _, _, rfl, rfl, SqT.of (k5 _ _ e1), SqT.of upd_same, sz (by rw [lt4]; simp only [List.length_cons, List.length_nil]; omega), fun z => ?_, fun _ z => (by cases z), fun _ _ q3 hq3 => ?_⟩
    · rw [z] at lt4
      simp at lt4
    have n3 : q3 ≠ b := (g4.same k5).B.b_ne hq3
    have k6 : Same H4 (upd (upd H4 q2 (.tup [v'])) q3 (.tup (us.take (jn + 1) ++ [v']))) := k5.trans (Same.new hq3)
    have g6 := (g3.trans g4).same k6
    obtain ⟨u3, u4⟩ := cut_from (us := us) (k := jn + 2) (by omega) (by omega)
    have e2 : ((jn + 1 : Nat) : Int) + 1 = ((jn + 2 : Nat) : Int) := by omega
    have a6 : (upd (upd H4 q2 (.tup [v'])) q3 (.tup (us.take (jn + 1) ++ [v']))) a = some (.tup us) := (g4.same k6).at na (k3 _ _ b2)
    refine ⟨_, rfl, _, rfl, _, _, rfl, rfl, _, rfl, a, us, rfl, SqT.of a6, fun z => ?_, fun z q4 hq4 => ?_⟩
    · rw [e2] at z
      exact absurd z u4
    have hq4' : (upd (upd H4 q2 (.tup [v'])) q3 (.tup (us.take (jn + 1) ++ [v']))) q4 = none := hq4
    rw [e2, u3]
    have k7 : Same H4 (upd (upd (upd H4 q2 (.tup [v'])) q3 (.tup (us.take (jn + 1) ++ [v']))) q4 (.tup (us.drop (jn + 2)))) := k6.trans (Same.new hq4)
    have g7 := (g3.trans g4).same k7
    have e3 : (upd (upd (upd H4 q2 (.tup [v'])) q3 (.tup (us.take (jn + 1) ++ [v']))) q4 (.tup (us.drop (jn + 2)))) q3 = some (.tup (us.take (jn + 1) ++ [v'])) := Same.new hq4 _ _ upd_same
    -- what it is as data
    have t1 : DvL (mask b H) (us.take (jn + 1)) ((D.str x :: ds).take (jn + 1)) := a2.take _
    have t2 : DvL (mask b H) (us.drop (jn + 2)) ((D.str x :: ds).drop (jn + 2)) := a2.drop _
    have sp : D.str x :: ds = (D.str x :: ds).take (jn + 1) ++ (ds[jn] :: (D.str x :: ds).drop (jn + 2)) := split_at (ds := D.str x :: ds) (k := jn + 1) (by simp only [List.length_cons]; omega)
    have s1 := congrArg sizes sp
    have s2 := congrArg deeps sp
    rw [sizes_app] at s1
    rw [deeps_app] at s2
    simp only [sizes, deeps] at s1 s2
    have fin : ∀ (r : Addr) (Hf : Hp) (rest : List V) (rs : List D), Go b p H Hf → Same H4 Hf → r ≠ b → Hf r = some (.tup (us.take (jn + 1) ++ [v'] ++ rest)) → DvL (mask b Hf) rest rs → sizes rs ≤ sizes ((D.str x :: ds).drop (jn + 2)) → deeps rs ≤ deeps ((D.str x :: ds).drop (jn + 2)) → Q (.ref r) Hf := by
      intro r Hf rest rs gf kf nr er hr2 z1 z2
      refine q (.ref r) Hf (.tup ((D.str x :: ds).take (jn + 1) ++ [d'] ++ rs)) gf (.tup (by rw [mask_ne nr]; exact er) (((gf.dvl t1).app (.cons (hd'.same (mask_same kf) _ _) .nil)).app hr2)) ?_ ?_
      · simp only [D.deep, deeps, deeps_app] at *
        omega
      · simp only [D.size, sizes, sizes_app] at *
        omega
    refine ⟨q3, q4, _, _, rfl, rfl, SqT.of e3, SqT.of upd_same, sz ?_, fun z => ?_, fun _ z => ?_, fun _ _ q5 hq5 => ?_⟩
    · rw [List.length_append, lt4, List.length_drop]
      simp only [List.length_cons, List.length_nil]
      omega
    · simp at z
    · exact fin q3 _ [] [] g7 k7 n3 (by rw [e3, List.append_nil]) .nil (Nat.zero_le _) (Nat.zero_le _)
    · have k8 := k7.trans (Same.new (o := .tup (us.take (jn + 1) ++ [v'] ++ us.drop (jn + 2))) hq5)
      exact fin q5 _ _ _ ((g3.trans g4).same k8) k8 (g7.B.b_ne hq5) upd_same (((g3.trans g4).same k8).dvl t2) (Nat.le_refl _) (Nat.le_refl _)
end
end K11
set_option maxRecDepth 100000
set_option maxHeartbeats 2000000
namespace K11
open PySem L2 Fm
section
variable {P : Program} {w : World} {K : PySem.W.Frag} {mg : Str → Option Value} {base : Heap} (T : Txt K mg)
def tSigns : Str := "abcdefghijklmnopqrstuvwxyzabcdefghijklmnopqrstuvwxyz--A0 _\n"
theorem ts_len : tSigns.length = 59 := by decide +kernel
theorem ts_ok : PyData.strOk tSigns = true := by decide +kernel
theorem ok_law_text : FnOk P w K mg base CX0 2 T.a__law_text T.d__law_text ["_law_bag_here"] spText := by
  have G__law_take := ok_law_take (P := P) (w := w) (base := base) T
  refine T.F__law_text.ok sc__law_text ?_ (fun cdv A outer s H vs Q E hr h => ?_)
  · rintro vs H Q E ⟨b, p, rfl, _⟩
    rfl
  obtain ⟨b, p, rfl, B, q⟩ := h
  refine ⟨_, 
    (pss_cons (ps_set (i := 1) sc__law_text.nd rfl (Or.inr rfl) pe_str)
    (pss_cons (ps_set (i := 2) sc__law_text.nd rfl (Or.inl rfl) (pe_bm PySem.F.plainAttrs_str PySem.F.slot_str_join PySem.F.type_str_join mt_join pe_str (pa_cons (pe_lc (own := [("_law_k", 3)]) (g := gName 3) (tt := tYes) rfl sc__law_text.nd (pi_range1 (by rfl) T.m_range (pa_cons (pe_call G__law_take (hr.mono (by omega)) (by rfl) T.f__law_take T.F__law_take.kp T.b__law_take .nil pass0 (pa_cons (pv 0) (pa_cons pe_int pa_nil))) pa_nil)) (blkOk_by (N := N__law_text) (sc := defScope s__law_text) (by decide +kernel)) (fun _ _ _ _ _ => pg_name (i := 3) sc__law_text.nd rfl (Or.inl rfl)) (fun _ _ _ _ _ => pts_nil) (fun _ _ _ _ _ => pe_ix ix_str (pv 1) (pe_call G__law_take (hr.mono (by omega)) (by rfl) T.f__law_take T.F__law_take.kp T.b__law_take .nil pass0 (pa_cons (pv 0) (pa_cons pe_int pa_nil))) (fun _ _ => rfl))) pa_nil)))
    (pss_one (ps_ret (pe_op op_add_str (pv 2) (pe_ix ix_list (pe_lst (pa_cons pe_str (pa_cons pe_str (pa_cons pe_str (pa_cons pe_str pa_nil))))) (pe_call G__law_take (hr.mono (by omega)) (by rfl) T.f__law_take T.F__law_take.kp T.b__law_take .nil pass0 (pa_cons (pv 0) (pa_cons pe_int pa_nil))) (fun _ _ => rfl))))))), ?_⟩
  refine ⟨rfl, _, rfl, b, p, 11, rfl, B, by decide, by decide, fun n H1 a0 a1 g1 => ⟨_, rfl, by omega, by omega, fun Dl hD => ?_⟩⟩
  refine lc_bag (fun d => ∃ x, d = .str x ∧ PyData.strOk x = true ∧ x.length ≤ 1) g1.B hD (by omega) (fun _ => rfl) (fun _ _ _ r => r) ?_ ?_
  · intro i H' R hi g r
    refine ⟨_, rfl, _, rfl, b, p, 59, rfl, g.B, by decide, by decide, fun j H2 d0 d1 g7 => ?_⟩
    obtain ⟨c, e1, e2⟩ := sign_at (x := tSigns) d0 (by rw [ts_len]; exact d1)
    have e3 := e2 ts_ok
    exact ⟨_, _, c, rfl, rfl, (by decide +kernel), e1, r _ (.str ⟨#[c]⟩) H2 g7 (.str _ e3) ⟨_, rfl, e3, Nat.le_refl _⟩⟩
  intro H2 acc ds g2 hl hds hg hn
  obtain ⟨ys, rfl, ok, ln⟩ := dvl_strs hds hg
  have l8 : ys.length ≤ 10 := by omega
  have sl := sum_len fun y hy => (ok y hy).2
  refine ⟨_, Dl, ys, rfl, rfl, .inl (SqL.of hl), ?_, ?_⟩
  · have z : (("" : String) : Str).length = 0 := rfl
    rw [z]
    omega
  obtain ⟨base, hb1, hb2, hb3⟩ : ∃ base, Txt.join "" ys = base ∧ PyData.strOk base = true ∧ base.length ≤ 10 :=
    ⟨_, rfl, ok_join fun y hy => (ok y hy).1, Nat.le_trans (len_join fun y hy => (ok y hy).2) l8⟩
  rw [hb1]
  refine ⟨_, rfl, (by show 4 ≤ sizeLine; decide), fun q1 hq1 => ?_⟩
  have g3 := (g1.trans g2).new (o := .lst [.str "", .str "", .str "-", .str "--"]) hq1
  refine ⟨_, rfl, b, p, 4, rfl, g3.B, by decide, by decide, fun i H4 b0 b1 g4 => ?_⟩
  obtain ⟨y, ey, my⟩ := text_at (xs := ["", "", "-", "--"]) b0 b1
  have oy : PyData.strOk y = true ∧ y.length ≤ 2 := (by decide +kernel : ∀ z ∈ (["", "", "-", "--"] : List Str), PyData.strOk z = true ∧ z.length ≤ 2) y my
  have nq : q1 ≠ b := g2.B.b_ne hq1
  have e4 := g4.at nq (upd_same (H := H2) (a := q1) (o := .lst [.str "", .str "", .str "-", .str "--"]))
  have la := len_app base y
  exact ⟨q1, _, i, _, rfl, rfl, SqL.of e4, ey, _, _, rfl, rfl, sz (by omega), q _ _ (g3.trans g4) (ok_app hb2 oy.1) (by omega)⟩
def some1 : List D := [.int 0, .int 1, .int (-1), .int (10 ^ (39 : Int).toNat), .bl true, .bl false, .non, .str "z", .str "zzzzzzzz", .str "zzzzzzzzz", .str "z-", .str "-", .str "zzzzzzzz-"]
theorem some1_small : ∀ d ∈ some1, d.deep ≤ 3 ∧ d.size ≤ 40 := by decide +kernel
theorem ok_law_thing : FnOk P w K mg base CX0 12 T.a__law_thing T.d__law_thing ["_law_bag_here", "_law_names_here"] spThing := by
  have G__law_take := ok_law_take (P := P) (w := w) (base := base) T
  have G__law_text := ok_law_text (P := P) (w := w) (base := base) T
  have G__law_odd := ok_law_odd (P := P) (w := w) (base := base) T
  have G__law_term := ok_law_term (P := P) (w := w) (base := base) T 8
  have G__law_spoilt := ok_law_spoilt (P := P) (w := w) (base := base) T 8
  refine T.F__law_thing.ok sc__law_thing ?_ (fun cdv A outer s H vs Q E hr h => ?_)
  · rintro vs H Q E ⟨b, p, nm, xs, rfl, _⟩
    rfl
  obtain ⟨b, p, nm, xs, rfl, B, N, q⟩ := h
  refine ⟨_, 
    (pss_cons (ps_set (i := 2) sc__law_thing.nd rfl (Or.inl rfl) (pe_call G__law_take (hr.mono (by omega)) (by rfl) T.f__law_take T.F__law_take.kp T.b__law_take .nil pass0 (pa_cons (pv 0) (pa_cons pe_int pa_nil))))
    (pss_cons (ps_if (pt_cmpR op_eq (pv 2) pe_int (nomark _)) (pss_one (ps_ret (pe_call G__law_text (hr.mono (by omega)) (by rfl) T.f__law_text T.F__law_text.kp T.b__law_text .nil pass0 (pa_cons (pv 0) pa_nil)))) pss_nil)
    (pss_cons (ps_if (pt_cmpR op_eq (pv 2) pe_int (nomark _)) (pss_cons (ps_set (i := 3) sc__law_thing.nd rfl (Or.inl rfl) (pe_lst (pa_cons pe_int (pa_cons pe_int (pa_cons (pe_un un_neg pe_int) (pa_cons (pe_op op_pow pe_int pe_int) (pa_cons pe_bl (pa_cons pe_bl (pa_cons pe_non (pa_cons pe_str (pa_cons pe_str (pa_cons pe_str (pa_cons pe_str (pa_cons pe_str (pa_cons pe_str pa_nil))))))))))))))) (pss_one (ps_ret (pe_ix ix_list (pv 3) (pe_call G__law_take (hr.mono (by omega)) (by rfl) T.f__law_take T.F__law_take.kp T.b__law_take .nil pass0 (pa_cons (pv 0) (pa_cons pe_int pa_nil))) (fun _ _ => rfl))))) pss_nil)
    (pss_cons (ps_set (i := 4) sc__law_thing.nd rfl (Or.inl rfl) (pe_call G__law_term (hr.mono (by omega)) (by rfl) T.f__law_term T.F__law_term.kp T.b__law_term .nil pass0 (pa_cons (pv 0) (pa_cons (pv 1) (pa_cons pe_int (pa_cons (pe_call G__law_take (hr.mono (by omega)) (by rfl) T.f__law_take T.F__law_take.kp T.b__law_take .nil pass0 (pa_cons (pv 0) (pa_cons pe_int pa_nil))) pa_nil))))))
    (pss_cons (ps_if (pt_cmpR op_eq (pv 2) pe_int (nomark _)) (pss_one (ps_ret (pe_call G__law_spoilt (hr.mono (by omega)) (by rfl) T.f__law_spoilt T.F__law_spoilt.kp T.b__law_spoilt .nil pass0 (pa_cons (pv 0) (pa_cons (pv 4) pa_nil))))) pss_nil)
    (pss_cons (ps_if (pt_cmpR op_lt (pv 2) pe_int (nomark _)) (pss_one (ps_ret (pv 4))) pss_nil)
    (pss_cons (ps_setLc (i := 3) (own := [("_law_k", 5)]) (g := gName 5) (tt := tYes) rfl sc__law_thing.nd rfl rfl (sw_true rfl rfl rfl (by decide +kernel)) (pi_range1 (by rfl) T.m_range (pa_cons (pe_call G__law_take (hr.mono (by omega)) (by rfl) T.f__law_take T.F__law_take.kp T.b__law_take .nil pass0 (pa_cons (pv 0) (pa_cons pe_int pa_nil))) pa_nil)) (blkOk_by (N := N__law_thing) (sc := defScope s__law_thing) (by decide +kernel)) (fun _ _ _ _ _ => pg_name (i := 5) sc__law_thing.nd rfl (Or.inl rfl)) (fun _ _ _ _ _ => pts_nil) (fun _ _ _ _ _ => pe_call G__law_term (hr.mono (by omega)) (by rfl) T.f__law_term T.F__law_term.kp T.b__law_term .nil pass0 (pa_cons (pv 0) (pa_cons (pv 1) (pa_cons pe_int (pa_cons pe_int pa_nil))))))
    (Evl.pss_cut (ps_if (PW.pt (pw_and (pt_cmpR op_eq (pv 2) pe_int (nomark _)) (pw_and1 (pt_cmpR (op_neD hr.units) (pv 3) (pe_lst pa_nil) (nomark _))))) (pss_one (ps_asg (pe_call G__law_odd (hr.mono (by omega)) (by rfl) T.f__law_odd T.F__law_odd.kp T.b__law_odd .nil pass0 (pa_cons (pv 0) pa_nil)) (pg_sub (pv 3) (pe_call G__law_take (hr.mono (by omega)) (by rfl) T.f__law_take T.F__law_take.kp T.b__law_take .nil pass0 (pa_cons (pv 0) (pa_cons (pe_callB call_len_seq (by rfl) T.m_len (by decide +kernel) (pa_cons (pv 3) pa_nil)) pa_nil))) set_list))) pss_nil)
    (pss_one (ps_ret (pe_ix ix_list (pe_lst (pa_cons (pe_callTy call_tuple_of (by rfl) T.m_tuple (by decide +kernel) (pa_cons (pv 3) pa_nil)) (pa_cons (pe_callTy call_tuple_of (by rfl) T.m_tuple (by decide +kernel) (pa_cons (pv 3) pa_nil)) (pa_cons (pv 3) pa_nil)))) (pe_call G__law_take (hr.mono (by omega)) (by rfl) T.f__law_take T.F__law_take.kp T.b__law_take .nil pass0 (pa_cons (pv 0) (pa_cons pe_int pa_nil))) (fun _ _ => rfl)))))))))))), ?_⟩
  refine ⟨_, rfl, b, p, 7, rfl, B, by decide, by decide, fun way H1 a0 a1 g1 => ?_⟩
  refine ⟨_, rfl, rfl, _, rfl, ite_b (fun h1 => ?_) (fun h1 => ?_)⟩
  · exact ⟨_, rfl, b, p, rfl, g1.B, fun x H2 g2 ox lx => q _ _ (.str x) (g1.trans g2) (.str x ox) (Nat.zero_le _) (by simp only [D.size]; omega)⟩
  refine ⟨_, rfl, rfl, _, rfl, ite_b (fun h2 => ?_) (fun h2 => ?_)⟩
  · refine ed_asg (d := .lst some1) ?h3 ?k3
    case h3 =>
      unfold some1
      repeat (first | exact ed_non | exact ed_bl | exact ed_int | exact ed_neg | exact ed_dic | exact ed_str (by decide +kernel) | exact ed_pow ⟨by decide, by decide, by decide⟩ | exact eda_nil | refine eda_cons ?_ ?_ | refine ed_tup ?_ (by simp; done) | refine ed_lst ?_ (by simp; done))
    intro v1 H2 k1 h3
    cases h3 with
    | @lst l us _ a3 b3 =>
    obtain ⟨hl0, hl⟩ := newof_is a3
    have g2 := g1.same k1
    refine ⟨_, rfl, _, rfl, b, p, 13, rfl, g2.B, by decide, by decide, fun i H3 i0 i1 g3 => ?_⟩
    have nl : l ≠ b := g1.B.b_ne hl0
    obtain ⟨k, rfl⟩ := Int.eq_ofNat_of_zero_le i0
    have lt : k < some1.length := by
      have : some1.length = 13 := rfl
      omega
    obtain ⟨v, hv, hd⟩ := b3.getD (List.getElem?_eq_getElem lt)
    have sm := some1_small _ (List.getElem_mem lt)
    exact ⟨l, _, _, v, rfl, rfl, SqL.of (g3.at nl hl), atI_nat hv, q v H3 _ (g2.trans g3) (g3.dv (hd.same (newof_mask g1.B) _ _)) (by omega) (by omega)⟩
  -- a term
  refine ⟨_, rfl, _, rfl, _, rfl, b, p, 7, rfl, g1.B, by decide, by decide, fun k7 H2 b0 b1 g2 => ?_⟩
  obtain ⟨kn, rfl⟩ := Int.eq_ofNat_of_zero_le b0
  have kn6 : kn ≤ 6 := by omega
  refine ⟨b, p, nm, xs, 4, kn, _, rfl, rfl, g2.B, (N.go g1).go g2, by decide, by decide, by omega, by omega, fun vt H3 dt g3 hvt tt st => ?_⟩
  have hm : Dv (mask b H3) vt dt := hvt.same (newof_mask g2.B) _ _
  have pw : 3 ^ kn ≤ 3 ^ 6 := Nat.pow_le_pow_right (by decide) kn6
  have p6 : 3 ^ 6 = 729 := by decide
  have sz1 : dt.size ≤ 13000 := by
    have := st.2
    omega
  have dp1 : dt.deep ≤ 6 := Nat.le_trans st.1 kn6
  have g4 := (g1.trans g2).trans g3
  refine ⟨_, rfl, rfl, _, rfl, ite_b (fun h3 => ?_) (fun h3 => ?_)⟩
  · exact ⟨_, rfl, _, rfl, b, p, vt, dt, rfl, g3.B, hm, tt, by omega, by omega, by omega, fun v' H4 d' g5 h5 dd ds => q v' H4 d' (g4.trans g5) h5 (by omega) (by omega)⟩
  refine ⟨_, rfl, _, _, rfl, rfl, _, rfl, ite_b (fun h4 => ?_) (fun h4 => ?_)⟩
  · exact ⟨_, rfl, q vt H3 dt g4 hm (by omega) (by omega)⟩
  -- some terms
  refine ⟨_, rfl, b, p, 4, rfl, g4.B, by decide, by decide, fun n H4 c0 c1 g5 => ⟨_, rfl, by omega, by omega, fun Dl hD => ?_⟩⟩
  have g6 := g4.trans g5
  have N6 := N.go g6
  refine lc_bagS (fun d => Tm d ∧ Sized 2 d) g6.B hD (by omega) (fun _ => rfl) (fun _ _ _ r => r) ?_ ?_
  · intro i H' R hi g r
    exact ⟨_, rfl, _, rfl, b, p, nm, xs, 3, 2, 2, rfl, rfl, g.B, N6.go g, by decide, by decide, by decide, by decide, fun v H5 d g7 hv tm szd => r v d H5 g7 hv ⟨tm, szd⟩⟩
  intro H5 acc ds g7 hl hds hg hn
  have nD : Dl ≠ b := g6.B.b_ne hD
  have l3 : ds.length ≤ 3 := by omega
  have la := hds.len
  have hDl : (upd H4 Dl (.lst [])) Dl = some (.lst []) := upd_same
  have BD : Bag b p (upd H4 Dl (.lst [])) := ((Go.refl g6.B).new hD).B
  have g8 := g6.trans g7
  -- behind the if: the list holds data
  refine ⟨fun σ H' => ∃ acc2 ds2, σ = [some (.ref b), some (.ref nm), some (.int way), some (.ref Dl), some vt, none] ∧ Go b p H H' ∧ H' Dl = some (.lst acc2) ∧ DvL (newof (upd H4 Dl (.lst [])) H') acc2 ds2 ∧ deeps ds2 ≤ 4 ∧ sizes ds2 ≤ 600 ∧ ds2.length ≤ 3, ?_, ?_⟩
  · have q0 : deeps ds ≤ 4 ∧ sizes ds ≤ 500 := by
      have h1 := deeps_le (n := 2) fun d hd => ((hg d hd).2).1
      have h2 := sizes_le (n := 17 * 3 ^ 2) fun d hd => ((hg d hd).2).2
      have e : 17 * 3 ^ 2 = 153 := by decide
      rw [e] at h2
      have h3 : 153 * ds.length ≤ 153 * 3 := Nat.mul_le_mul_left _ l3
      omega
    refine ⟨_, rfl, rfl, _, rfl, ite_b (fun h5 => ?_) (fun h5 => ?_)⟩
    · refine ⟨_, rfl, Nat.zero_le _, fun z hz => ?_⟩
      have kz : Same H5 (upd H5 z (.lst [])) := Same.new hz
      have hl5 := kz _ _ hl
      obtain ⟨ps, e1, e2, e3⟩ := dps_of (K := K) ds acc ((hds.same newof_sub _ _).same kz _ _) (noDics_of fun d hd => (hg d hd).1.noDic)
      have e4 : SeqAt.shaped (.list ps) = true := by
        unfold SeqAt.shaped
        have : PyData.depthAll ps + 1 ≤ 64 := by omega
        simp [PyData.canLay0, PyData.depth, e2]
        omega
      refine ⟨.list ps, .list [], .lst (SqL.of hl5) e1, .lst (SqL.of upd_same) .nil, e4, by decide +kernel, _, rfl, ite_b (fun h6 => ?_) (fun h6 => ?_)⟩
      · rw [eqv_nil] at h6
        have gz := g8.same kz
        have Bz := gz.B
        refine ⟨_, rfl, b, p, rfl, gz.B, fun vo H6 d gA hdo ddo dso => ?_⟩
        have hl6 := gA.at nD hl5
        have pos : 1 ≤ acc.length := by
          cases e1 with
          | nil => simp at h6
          | cons x y => simp
        refine ⟨_, rfl, _, rfl, _, rfl, Dl, acc, rfl, .inl (SqL.of hl6), b, p, _, rfl, gA.B, by omega, by omega, fun j H7 j0 j1 gB => ?_⟩
        obtain ⟨jn, rfl⟩ := Int.eq_ofNat_of_zero_le j0
        have hl7 := gB.at nD hl6
        refine ⟨Dl, acc, _, jn, rfl, rfl, hl7, ixN_at (by omega), ?_⟩
        have gF : Go b p H5 H7 := ((Go.of g7.B kz).trans gA).trans gB
        refine ⟨acc.set jn vo, ds.set jn d, rfl, ?_, upd_same, ?_, ?_, ?_, ?_⟩
        · exact g6.trans ((g7.trans gF).mut g6.B hD)
        · rw [newof_upd hDl]
          refine DvL.set ?_ jn (hds.same (newof_go BD gF) _ _)
          refine ((hdo.same (newof_go gz.B gB) _ _).same (newof_lift fun a ha => ?_) _ _)
          have h5a : H5 a = none := kz.free ha
          have na : a ≠ Dl := fun y => by
            rw [y, hl] at h5a
            cases h5a
          rw [upd_ne na]
          exact g7.free h5a
        · have := deeps_set (ds := ds) (d := d) jn
          omega
        · have := sizes_set (ds := ds) (d := d) jn
          omega
        · rw [List.length_set]
          exact l3
      · exact ⟨acc, ds, rfl, g8.same kz, hl5, hds.same (newof_same kz) _ _, q0.1, (by omega), l3⟩
    · exact ⟨acc, ds, rfl, g8, hl, hds, q0.1, (by omega), l3⟩
  · rintro σ H' ⟨acc2, ds2, rfl, g9, hl2, hd2, dp2, sz2, l32⟩
    have hm2 := hd2.same (newof_mask BD) _ _
    refine ⟨_, rfl, Dl, acc2, rfl, .inl ⟨SqL.of hl2, fun t1 ht1 => ?_⟩⟩
    have n1 : t1 ≠ b := g9.B.b_ne ht1
    have k1 : Same H' (upd H' t1 (.tup acc2)) := Same.new ht1
    refine ⟨_, rfl, Dl, acc2, rfl, .inl ⟨SqL.of (k1 _ _ hl2), fun t2 ht2 => ?_⟩⟩
    have n2 : t2 ≠ b := (g9.same k1).B.b_ne ht2
    have k2 : Same (upd H' t1 (.tup acc2)) (upd (upd H' t1 (.tup acc2)) t2 (.tup acc2)) := Same.new ht2
    refine ⟨_, rfl, (by show 3 ≤ sizeLine; decide), fun l3' hl3 => ?_⟩
    have n3 : l3' ≠ b := ((g9.same k1).same k2).B.b_ne hl3
    have k3 : Same (upd (upd H' t1 (.tup acc2)) t2 (.tup acc2)) (upd (upd (upd H' t1 (.tup acc2)) t2 (.tup acc2)) l3' (.lst [.ref t1, .ref t2, .ref Dl])) := Same.new hl3
    have kk := (k1.trans k2).trans k3
    refine ⟨_, rfl, b, p, 3, rfl, (g9.same kk).B, by decide, by decide, fun i H9 i0 i1 gZ => ?_⟩
    have gF := (g9.same kk).trans gZ
    have f1 := gZ.at n1 ((k2.trans k3) _ _ (upd_same (H := H') (a := t1) (o := .tup acc2)))
    have f2 := gZ.at n2 (k3 _ _ (upd_same (H := upd H' t1 (.tup acc2)) (a := t2) (o := .tup acc2)))
    have f3 := gZ.at n3 (upd_same (H := upd (upd H' t1 (.tup acc2)) t2 (.tup acc2)) (a := l3') (o := .lst [.ref t1, .ref t2, .ref Dl]))
    have f4 := gZ.at nD (kk _ _ hl2)
    have hmF : DvL (mask b H9) acc2 ds2 := gZ.dvl (hm2.same (mask_same kk) _ _)
    have sT : (D.tup ds2).deep ≤ 50 ∧ (D.tup ds2).size ≤ 50000 := by
      simp only [D.deep, D.size]
      omega
    have sL : (D.lst ds2).deep ≤ 50 ∧ (D.lst ds2).size ≤ 50000 := by
      simp only [D.deep, D.size]
      omega
    obtain ⟨kn, rfl⟩ := Int.eq_ofNat_of_zero_le i0
    rcases (by omega : kn = 0 ∨ kn = 1 ∨ kn = 2) with rfl | rfl | rfl
    · exact ⟨l3', _, _, _, rfl, rfl, SqL.of f3, atI_nat (j := 0) rfl, q _ _ (.tup ds2) gF (.tup (by rw [mask_ne n1]; exact f1) hmF) sT.1 sT.2⟩
    · exact ⟨l3', _, _, _, rfl, rfl, SqL.of f3, atI_nat (j := 1) rfl, q _ _ (.tup ds2) gF (.tup (by rw [mask_ne n2]; exact f2) hmF) sT.1 sT.2⟩
    · exact ⟨l3', _, _, _, rfl, rfl, SqL.of f3, atI_nat (j := 2) rfl, q _ _ (.lst ds2) gF (.lst (by rw [mask_ne nD]; exact f4) hmF) sL.1 sL.2⟩
theorem ok_law_deep : FnOk P w K mg base CX0 3 T.a__law_deep T.d__law_deep ["_law_bag_here", "_law_names_here"] spThing := by
  have G__law_take := ok_law_take (P := P) (w := w) (base := base) T
  have G__law_odd := ok_law_odd (P := P) (w := w) (base := base) T
  refine T.F__law_deep.ok sc__law_deep ?_ (fun cdv A outer s H vs Q E hr h => ?_)
  · rintro vs H Q E ⟨b, p, nm, xs, rfl, _⟩
    rfl
  obtain ⟨b, p, nm, xs, rfl, B, N, q⟩ := h
  refine ⟨_, 
    (pss_cons (ps_set (i := 2) sc__law_deep.nd rfl (Or.inl rfl) (pe_ix ix_list (pe_lst (pa_cons pe_int (pa_cons (pe_tup (pa_cons pe_str pa_nil)) (pa_cons (pe_call G__law_odd (hr.mono (by omega)) (by rfl) T.f__law_odd T.F__law_odd.kp T.b__law_odd .nil pass0 (pa_cons (pv 0) pa_nil)) pa_nil)))) (pe_call G__law_take (hr.mono (by omega)) (by rfl) T.f__law_take T.F__law_take.kp T.b__law_take .nil pass0 (pa_cons (pv 0) (pa_cons pe_int pa_nil))) (fun _ _ => rfl)))
    (pss_cons (ps_for PassesOwn.never rfl (pi_range1 (by rfl) T.m_range (pa_cons (pe_call G__law_take (hr.mono (by omega)) (by rfl) T.f__law_take T.F__law_take.kp T.b__law_take .nil pass0 (pa_cons (pv 0) (pa_cons pe_int pa_nil))) pa_nil)) (pg_name (i := 3) sc__law_deep.nd rfl (Or.inl rfl)) (pss_one (ps_set (i := 2) sc__law_deep.nd rfl (Or.inl rfl) (pe_op op_catA (pe_tup (pa_cons (pe_ix ix_list (pv 1) (pe_call G__law_take (hr.mono (by omega)) (by rfl) T.f__law_take T.F__law_take.kp T.b__law_take .nil pass0 (pa_cons (pv 0) (pa_cons (pe_callB call_len_seq (by rfl) T.m_len (by decide +kernel) (pa_cons (pv 1) pa_nil)) pa_nil))) (fun _ _ => rfl)) pa_nil)) (pe_op op_catA (pe_op op_rep3 (pe_tup (pa_cons pe_int pa_nil)) (pe_call G__law_take (hr.mono (by omega)) (by rfl) T.f__law_take T.F__law_take.kp T.b__law_take .nil pass0 (pa_cons (pv 0) (pa_cons pe_int pa_nil)))) (pe_tup (pa_cons (pv 2) pa_nil)))))))
    (pss_one (ps_ret (pv 2))))), ?_⟩
  -- the first term
  refine ⟨(by show 1 ≤ sizeLine; decide), fun tc htc => ?_⟩
  have nc : tc ≠ b := B.b_ne htc
  have g1 := (Go.refl B).new (o := .tup [.str "c"]) htc
  refine ⟨_, rfl, b, p, rfl, g1.B, fun vo H2 d g2 hdo ddo dso => ⟨(by show 3 ≤ sizeLine; decide), fun l hl => ?_⟩⟩
  have nl : l ≠ b := g2.B.b_ne hl
  have kl : Same H2 (upd H2 l (.lst [.int 0, .ref tc, vo])) := Same.new hl
  have g3 := (g1.trans g2).same kl
  refine ⟨_, rfl, b, p, 3, rfl, g3.B, by decide, by decide, fun i H3 i0 i1 g4 => ?_⟩
  have f1 := g4.at nl (upd_same (H := H2) (a := l) (o := .lst [.int 0, .ref tc, vo]))
  have f2 := g4.at nc (kl _ _ (g2.at nc (upd_same (H := H) (a := tc) (o := .tup [.str "c"]))))
  have f3 : Dv (mask b H3) vo d := g4.dv ((hdo.same (newof_mask g1.B) _ _).same (mask_same kl) _ _)
  have g5 := g3.trans g4
  obtain ⟨v0, d0, e0, hv0, dp0, sz0⟩ : ∃ v0 d0, atI [.int 0, .ref tc, vo] i = some v0 ∧ Dv (mask b H3) v0 d0 ∧ d0.deep ≤ 3 ∧ d0.size ≤ 40 := by
    obtain ⟨kn, rfl⟩ := Int.eq_ofNat_of_zero_le i0
    rcases (by omega : kn = 0 ∨ kn = 1 ∨ kn = 2) with rfl | rfl | rfl
    · exact ⟨_, .int 0, atI_nat (j := 0) rfl, .int 0, by decide, by decide⟩
    · exact ⟨_, .tup [.str "c"], atI_nat (j := 1) rfl, .tup (by rw [mask_ne nc]; exact f2) (.cons (.str _ (by decide +kernel)) .nil), by decide +kernel, by decide +kernel⟩
    · exact ⟨_, d, atI_nat (j := 2) rfl, f3, ddo, dso⟩
  refine ⟨l, _, i, v0, rfl, rfl, SqL.of f1, e0, ?_⟩
  -- the loop
  refine ⟨_, rfl, b, p, 29, rfl, g5.B, by decide, by decide, fun n H4 n0 n1 g6 => ⟨_, rfl, by omega, by omega, ?_⟩⟩
  have g7 := g5.trans g6
  refine for_range (lo := 0) (n := n.toNat) (fun i σ H' => ∃ v d o, σ = [some (.ref b), some (.ref nm), some v, o] ∧ Go b p H H' ∧ Dv (mask b H') v d ∧ d.deep ≤ 3 + i ∧ d.size ≤ 40 + 40 * i) ⟨v0, d0, none, rfl, g7, g6.dv hv0, by omega, by omega⟩ ?_ ?_
  · rintro i σ H5 hi ⟨v, d, o, rfl, g8, hv, dp, dz⟩
    have N8 := N.go g8
    refine ⟨_, rfl, _, rfl, _, rfl, nm, _, rfl, .inl (SqL.of N8.at_), b, p, _, rfl, g8.B, ?_, ?_, fun j H6 j0 j1 g9 => ?_⟩
    · rw [List.length_map]
      have := N8.pos
      omega
    · rw [List.length_map]
      have := N8.few
      omega
    rw [List.length_map] at j1
    have N9 := N8.go g9
    obtain ⟨x, e1, ox, lx⟩ := N9.get j0 j1
    refine ⟨nm, _, j, _, rfl, rfl, SqL.of N9.at_, e1, (by show 1 ≤ sizeLine; decide), fun q1 hq1 => ?_⟩
    have m1 : q1 ≠ b := g9.B.b_ne hq1
    have gA := (g8.trans g9).new (o := .tup [.str x]) hq1
    refine ⟨(by show 1 ≤ sizeLine; decide), fun q2 hq2 => ?_⟩
    have m2 : q2 ≠ b := gA.B.b_ne hq2
    have kB : Same (upd H6 q1 (.tup [.str x])) (upd (upd H6 q1 (.tup [.str x])) q2 (.tup [.int 0])) := Same.new hq2
    have gB := gA.same kB
    refine ⟨_, rfl, b, p, 3, rfl, gB.B, by decide, by decide, fun t H7 t0 t1 gC => ?_⟩
    have c2 := gC.at m2 (upd_same (H := upd H6 q1 (.tup [.str x])) (a := q2) (o := .tup [.int 0]))
    have c1 := gC.at m1 (kB _ _ (upd_same (H := H6) (a := q1) (o := .tup [.str x])))
    have hv7 : Dv (mask b H7) v d := gC.dv ((g9.dv hv).same (mask_same ((Same.new (o := .tup [.str x]) hq1).trans kB)) _ _)
    refine ⟨q2, t, _, rfl, rfl, c2, t0, by omega, fun r H8 kD hr => ?_⟩
    obtain ⟨tn, rfl⟩ := Int.eq_ofNat_of_zero_le t0
    have tn2 : tn ≤ 2 := by omega
    have gD := (gB.trans gC).same kD
    refine ⟨_, rfl, (by show 1 ≤ sizeLine; decide), fun q3 hq3 => ?_⟩
    have kE : Same H8 (upd H8 q3 (.tup [v])) := Same.new hq3
    have m3 : q3 ≠ b := gD.B.b_ne hq3
    have er : (upd H8 q3 (.tup [v])) r = some (.tup (List.replicate tn (V.int 0))) := kE _ _ hr
    have inner : ∀ (r2 : Addr) (H9 : Hp), Same (upd H8 q3 (.tup [v])) H9 → H9 r2 = some (.tup (List.replicate tn (V.int 0) ++ [v])) →
        rCatA K (.ref q1) (.ref r2) H9 (fun y H' => ∃ v' d' o', [some (.ref b), some (.ref nm), some y, some (V.int (0 + (i : Int)))] = [some (.ref b), some (.ref nm), some v', o'] ∧ Go b p H H' ∧ Dv (mask b H') v' d' ∧ d'.deep ≤ 3 + (i + 1) ∧ d'.size ≤ 40 + 40 * (i + 1)) := by
      intro r2 H9 kF h2
      have gF := gD.same (kE.trans kF)
      have c1F := (kD.trans (kE.trans kF)) _ _ c1
      have ln : (List.replicate tn (V.int 0) ++ [v]).length ≤ 3 := by
        rw [List.length_append, List.length_replicate]
        simp only [List.length_cons, List.length_nil]
        omega
      refine ⟨q1, r2, _, _, rfl, rfl, SqT.of c1F, SqT.of h2, sz (by simp only [List.length_cons, List.length_nil]; omega), fun z => (by cases z), fun _ z => ?_, fun _ _ q5 hq5 => ?_⟩
      · simp at z
      · have m5 : q5 ≠ b := gF.B.b_ne hq5
        have kG : Same H9 (upd H9 q5 (.tup ([.str x] ++ (List.replicate tn (V.int 0) ++ [v])))) := Same.new hq5
        have hvF : Dv (mask b (upd H9 q5 (.tup ([.str x] ++ (List.replicate tn (V.int 0) ++ [v]))))) v d := hv7.same (mask_same (kD.trans ((kE.trans kF).trans kG))) _ _
        refine ⟨_, .tup (.str x :: (List.replicate tn (D.int 0) ++ [d])), _, rfl, gF.same kG, .tup (mask_new m5) (.cons (.str x ox) ((dvl_rep (.int 0) tn).app (.cons hvF .nil))), ?_, ?_⟩
        · have e : deeps (List.replicate tn (D.int 0)) = 0 := by
            rcases (by omega : tn = 0 ∨ tn = 1 ∨ tn = 2) with rfl | rfl | rfl <;> rfl
          simp only [D.deep, deeps, deeps_app, e]
          omega
        · have e : sizes (List.replicate tn (D.int 0)) = tn := by
            rcases (by omega : tn = 0 ∨ tn = 1 ∨ tn = 2) with rfl | rfl | rfl <;> rfl
          simp only [D.size, sizes, sizes_app, e]
          omega
    refine ⟨r, q3, _, _, rfl, rfl, SqT.of er, SqT.of upd_same, sz ?_, fun z => ?_, fun z y => (by cases y), fun z _ q4 hq4 => ?_⟩
    · rw [List.length_replicate]
      simp only [List.length_cons, List.length_nil]
      omega
    · refine inner q3 _ (Same.refl _) ?_
      rw [z]
      exact upd_same
    · exact inner q4 _ (Same.new hq4) upd_same
  · rintro σ H5 ⟨v, d, o, rfl, g8, hv, dp, dz⟩
    exact ⟨_, rfl, q v H5 d g8 hv (by omega) (by omega)⟩
end
end K11
set_option maxRecDepth 100000
set_option maxHeartbeats 4000000
namespace K11
open PySem L2 Fm
section
variable {P : Program} {w : World} {K : PySem.W.Frag} {mg : Str → Option Value} {base : Heap} (T : Txt K mg)
def PairF (d : D) : Prop := ∃ k : Nat, d = .tup [.str "f", .int (k : Int)]
theorem PairF.term {d : D} (h : PairF d) : isTerm d = true ∧ d.size ≤ 4 ∧ d.deep ≤ 1 := by
  obtain ⟨k, rfl⟩ := h
  refine ⟨?_, by show 4 ≤ 4; decide, by show 1 ≤ 1; decide⟩
  have e : isNameS "f" = true := by decide +kernel
  simp [isTerm, isTermT, areTerms, isName, e]
theorem ok_law_many_right : FnG P w K mg base 14 T.a__law_many_right T.d__law_many_right ["_law_bag_here"] spMany := by
  have G__law_take := ok_law_take (P := P) (w := w) (base := base) T
  have G__law_odd := ok_law_odd (P := P) (w := w) (base := base) T
  have G_are_values := ok_are_values (P := P) (w := w) (base := base) T
  have G__law_is_term := ok_law_is_term (P := P) (w := w) (base := base) T 10
  have G__law_alike := ok_law_alike (P := P) (w := w) (base := base) T
  refine fnG T.F__law_many_right sc__law_many_right ?_ (fun cdv A outer s H vs Q gd hr h => ?_)
  · rintro vs H Q E ⟨b, p, rfl, _⟩
    rfl
  obtain ⟨b, p, rfl, B, q⟩ := h
  refine ⟨_, 
    (pss_cons (ps_set (i := 1) sc__law_many_right.nd rfl (Or.inl rfl) (pe_op op_add pe_int (pe_call G__law_take (hr.mono (by omega)) (by rfl) T.f__law_take T.F__law_take.kp T.b__law_take .nil pass0 (pa_cons (pv 0) (pa_cons pe_int pa_nil)))))
    (pss_cons (ps_setLc (i := 2) (own := [("_law_k", 6)]) (g := gName 6) (tt := tYes) rfl sc__law_many_right.nd rfl rfl (sw_true rfl rfl rfl (by decide +kernel)) (pi_range1 (by rfl) T.m_range (pa_cons (pv 1) pa_nil)) (blkOk_by (N := N__law_many_right) (sc := defScope s__law_many_right) (by decide +kernel)) (fun _ _ _ _ _ => pg_name (i := 6) sc__law_many_right.nd rfl (Or.inl rfl)) (fun _ _ _ _ _ => pts_nil) (fun _ _ _ _ _ => pe_tup (pa_cons pe_str (pa_cons (pv 6) pa_nil))))
    (pss_cons (ps_par (i := 3) (j := 4) (by rfl) sc__law_many_right.nd rfl rfl (by decide) rfl rfl (pa_cons (pe_call G__law_take (hr.mono (by omega)) (by rfl) T.f__law_take T.F__law_take.kp T.b__law_take .nil pass0 (pa_cons (pv 0) (pa_cons (pv 1) pa_nil))) (pa_cons (pe_call G__law_odd (hr.mono (by omega)) (by rfl) T.f__law_odd T.F__law_odd.kp T.b__law_odd .nil pass0 (pa_cons (pv 0) pa_nil)) pa_nil)) (by rfl))
    (pss_cons (ps_set (i := 5) sc__law_many_right.nd rfl (Or.inl rfl) (pe_tup (pa_cons (pe_call G_are_values (hr.mono (by omega)) (by rfl) T.f_are_values T.F_are_values.kp T.b_are_values .nil pass0 (pa_cons (pv 1) (pa_cons (pe_callTy call_tuple_of (by rfl) T.m_tuple (by decide +kernel) (pa_cons (pv 2) pa_nil)) pa_nil))) (pa_cons (pe_call G_are_values (hr.mono (by omega)) (by rfl) T.f_are_values T.F_are_values.kp T.b_are_values .nil pass0 (pa_cons (pe_op op_add (pv 1) pe_int) (pa_cons (pe_callTy call_tuple_of (by rfl) T.m_tuple (by decide +kernel) (pa_cons (pv 2) pa_nil)) pa_nil))) (pa_cons (pe_call G_are_values (hr.mono (by omega)) (by rfl) T.f_are_values T.F_are_values.kp T.b_are_values .nil pass0 (pa_cons (pv 1) (pa_cons (pv 2) pa_nil))) pa_nil)))))
    (pss_cons (ps_asg (pv 4) (pg_sub (pv 2) (pv 3) set_list))
    (pss_one (ps_ret (pe_callG G__law_alike (hr.mono (by omega)) gd (by rfl) T.f__law_alike T.F__law_alike.kp T.b__law_alike (pa_cons (pe_lst (pa_cons (pv 5) (pa_cons (pe_call G_are_values (hr.mono (by omega)) (by rfl) T.f_are_values T.F_are_values.kp T.b_are_values .nil pass0 (pa_cons (pv 1) (pa_cons (pe_callTy call_tuple_of (by rfl) T.m_tuple (by decide +kernel) (pa_cons (pv 2) pa_nil)) pa_nil))) pa_nil))) (pa_cons (pe_lst (pa_cons (pe_tup (pa_cons pe_bl (pa_cons pe_bl (pa_cons pe_bl pa_nil)))) (pa_cons (pe_call G__law_is_term (hr.mono (by omega)) (by rfl) T.f__law_is_term T.F__law_is_term.kp T.b__law_is_term .nil pass0 (pa_cons (pv 4) pa_nil)) pa_nil))) pa_nil)))))))))), ?_⟩
  refine ⟨_, rfl, b, p, 3000, rfl, B, by decide, by decide, fun n0 H1 a0 a1 g1 => ⟨_, _, rfl, rfl, ?_⟩⟩
  obtain ⟨nn, rfl⟩ := Int.eq_ofNat_of_zero_le a0
  refine ⟨_, rfl, _, rfl, by omega, by omega, fun Dl hD => ?_⟩
  have en : ((1 : Int) + (nn : Int)).toNat = nn + 1 := by omega
  rw [en]
  have nD : Dl ≠ b := g1.B.b_ne hD
  refine lc_bagS PairF g1.B hD (by omega) (fun _ => rfl) (fun _ _ _ r => r) ?_ ?_
  · intro i H' R hi g r
    refine ⟨_, rfl, (by show 2 ≤ sizeLine; decide), fun t ht => ?_⟩
    exact r _ (.tup [.str "f", .int (i : Int)]) _ ((Go.refl g.B).new ht) (.tup (newof_of ht upd_same) (.cons (.str _ (by decide +kernel)) (.cons (.int _) .nil))) ⟨i, rfl⟩
  intro H2 acc ds g2 hl hds hg hn
  have hDl : (upd H1 Dl (.lst [])) Dl = some (.lst []) := upd_same
  have BD : Bag b p (upd H1 Dl (.lst [])) := ((Go.refl g1.B).new hD).B
  have la := hds.len
  have s1 := sizes_le (n := 20) fun d hd => Nat.le_trans (Nat.add_le_add_right (hg d hd).term.2.1 16) (by decide)
  have s2 := deeps_le fun d hd => (hg d hd).term.2.2
  have g3 := g1.trans g2
  -- at, odd
  refine ⟨_, rfl, _, rfl, b, p, _, rfl, g3.B, by omega, by omega, fun j H3 j0 j1 g4 => ?_⟩
  refine ⟨_, rfl, b, p, rfl, g4.B, fun vo H4 od g5 hdo ddo dso => ⟨_, _, rfl, ?_⟩⟩
  obtain ⟨jn, rfl⟩ := Int.eq_ofNat_of_zero_le j0
  have gX := g4.trans g5
  have hl4 := gX.at nD hl
  have dN : DvL (newof (upd H1 Dl (.lst [])) H4) acc ds := hds.same (newof_go BD gX) _ _
  have d4 : DvL H4 acc ds := dN.same newof_sub _ _
  have o4 : Dv H4 vo od := hdo.same newof_sub _ _
  have tru : areTerms ds = true := by
    rw [areTerms_all]
    exact List.all_eq_true.mpr fun y hy => (hg y hy).term.1
  have v1 : areValues ((1 : Int) + (nn : Int)) (.tup ds) = true := by
    have : ((ds.length : Nat) : Int) = 1 + (nn : Int) := by omega
    simp [areValues, tru, this]
  have v2 : areValues ((1 : Int) + (nn : Int) + 1) (.tup ds) = false := by
    have : ¬ ((ds.length : Nat) : Int) = 1 + (nn : Int) + 1 := by omega
    simp [areValues, this]
  have zs : (D.tup ds).size ≤ 100000 ∧ (D.tup ds).deep ≤ 100 ∧ (D.lst ds).size ≤ 100000 ∧ (D.lst ds).deep ≤ 100 := by
    simp only [D.size, D.deep]
    omega
  -- whole
  refine ⟨_, rfl, _, rfl, Dl, acc, rfl, .inl ⟨SqL.of hl4, fun t1 ht1 => ?_⟩⟩
  have k1 : Same H4 (upd H4 t1 (.tup acc)) := Same.new ht1
  refine ⟨_, _, .tup ds, rfl, .tup upd_same (d4.same k1 _ _), zs.1, zs.2.1, fun H5 k5 => ?_⟩
  have k15 := k1.trans k5
  refine ⟨_, rfl, _, _, rfl, rfl, _, rfl, Dl, acc, rfl, .inl ⟨SqL.of (k15 _ _ hl4), fun t2 ht2 => ?_⟩⟩
  have k2 : Same H5 (upd H5 t2 (.tup acc)) := Same.new ht2
  refine ⟨_, _, .tup ds, rfl, .tup upd_same (d4.same (k15.trans k2) _ _), zs.1, zs.2.1, fun H6 k6 => ?_⟩
  have k16 := (k15.trans k2).trans k6
  refine ⟨_, rfl, _, rfl, _, _, .lst ds, rfl, .lst (k16 _ _ hl4) (d4.same k16 _ _), zs.2.2.1, zs.2.2.2, fun H7 k7 => ⟨(by show 3 ≤ sizeLine; decide), fun tw htw => ?_⟩⟩
  rw [v1, v2] at *
  have v3 : areValues ((1 : Int) + (nn : Int)) (.lst ds) = false := rfl
  rw [v3] at *
  have kw : Same H7 (upd H7 tw (.tup [.bl true, .bl false, .bl false])) := Same.new htw
  have hw : (upd H7 tw (.tup [.bl true, .bl false, .bl false])) tw = some (.tup [.bl true, .bl false, .bl false]) := upd_same
  have k48 := (k16.trans k7).trans kw
  generalize upd H7 tw (.tup [.bl true, .bl false, .bl false]) = H8 at hw kw k48
  -- some[at] = odd
  have hl8 := k48 _ _ hl4
  refine ⟨_, rfl, _, rfl, _, rfl, Dl, acc, _, jn, rfl, rfl, hl8, ixN_at (by omega), ?_⟩
  have g8 : Go b p H3 H8 := g5.same k48 |> fun g => (⟨by exact (Go.refl g4.B).k, g4.B⟩ : Go b p H3 H3).trans g
  have nw : tw ≠ Dl := fun y => by
    rw [y, hl8] at hw
    cases hw
  have hw9 : (upd H8 Dl (.lst (acc.set jn vo))) tw = some (.tup [.bl true, .bl false, .bl false]) := by
    rw [upd_ne nw]
    exact hw
  have hl9 : (upd H8 Dl (.lst (acc.set jn vo))) Dl = some (.lst (acc.set jn vo)) := upd_same
  have oN : Dv (newof (upd H1 Dl (.lst [])) H8) vo od := (hdo.same (newof_same k48) _ _).same (newof_lift fun x hx => by
    have n1 : x ≠ Dl := fun y => by
      rw [y, g4.at nD hl] at hx
      cases hx
    rw [upd_ne n1]
    exact (g2.trans g4).free hx) _ _
  have d9 : DvL (upd H8 Dl (.lst (acc.set jn vo))) (acc.set jn vo) (ds.set jn od) := by
    have := DvL.set oN jn (dN.same (newof_same k48) _ _)
    rw [← newof_upd (H2 := H8) (o := .lst (acc.set jn vo)) hDl] at this
    exact this.same newof_sub _ _
  have o9 : Dv (upd H8 Dl (.lst (acc.set jn vo))) vo od := by
    have := oN
    rw [← newof_upd (H2 := H8) (o := .lst (acc.set jn vo)) hDl] at this
    exact this.same newof_sub _ _
  generalize upd H8 Dl (.lst (acc.set jn vo)) = H9 at hw9 hl9 d9 o9
  have x1 := sizes_set (ds := ds) (d := od) jn
  have x2 := deeps_set (ds := ds) (d := od) jn
  have zt : (D.tup (ds.set jn od)).size ≤ 100000 ∧ (D.tup (ds.set jn od)).deep ≤ 100 := by
    simp only [D.size, D.deep]
    omega
  have vv : areValues ((1 : Int) + (nn : Int)) (.tup (ds.set jn od)) = isTerm od := by
    have : (((ds.set jn od).length : Nat) : Int) = 1 + (nn : Int) := by
      rw [List.length_set]
      omega
    have e := areTerms_set (ds := ds) (d := od) jn (fun y hy => (hg y hy).term.1) (by omega)
    simp only [areValues, this, decide_true, Bool.true_and]
    exact e
  -- the end
  refine ⟨_, rfl, _, rfl, _, rfl, Dl, _, rfl, .inl ⟨SqL.of hl9, fun t3 ht3 => ?_⟩⟩
  have k9 : Same H9 (upd H9 t3 (.tup (acc.set jn vo))) := Same.new ht3
  refine ⟨_, _, .tup (ds.set jn od), rfl, .tup upd_same (d9.same k9 _ _), zt.1, zt.2, fun HA kA => ⟨(by show 2 ≤ sizeLine; decide), fun l1 hl1 => ⟨(by show 3 ≤ sizeLine; decide), fun t4 ht4 => ?_⟩⟩⟩
  rw [vv] at *
  have kB : Same HA (upd HA l1 (.lst [.ref tw, .bl (isTerm od)])) := Same.new hl1
  have kC : Same (upd HA l1 (.lst [.ref tw, .bl (isTerm od)])) (upd (upd HA l1 (.lst [.ref tw, .bl (isTerm od)])) t4 (.tup [.bl true, .bl false, .bl false])) := Same.new ht4
  have k9C := ((k9.trans kA).trans kB).trans kC
  refine ⟨_, rfl, vo, od, rfl, o9.same k9C _ _, by omega, by omega, by omega, fun HD kD => ⟨(by show 2 ≤ sizeLine; decide), fun l2 hl2 => ?_⟩⟩
  have kE : Same HD (upd HD l2 (.lst [.ref t4, .bl (isTerm od)])) := Same.new hl2
  have f1 := ((kC.trans kD).trans kE) _ _ (upd_same (H := HA) (a := l1) (o := .lst [.ref tw, .bl (isTerm od)]))
  have f2 := ((k9C.trans kD).trans kE) _ _ hw9
  have f3 := (kD.trans kE) _ _ (upd_same (H := upd HA l1 (.lst [.ref tw, .bl (isTerm od)])) (a := t4) (o := .tup [.bl true, .bl false, .bl false]))
  refine ⟨_, _, .list [.tuple [.bool true, .bool false, .bool false], .bool (isTerm od)], rfl, .lst (SqL.of f1) (.cons (.tup (SqT.of f2) (.cons (.bl _) (.cons (.bl _) (.cons (.bl _) .nil)))) (.cons (.bl _) .nil)),
    .lst (SqL.of upd_same) (.cons (.tup (SqT.of f3) (.cons (.bl _) (.cons (.bl _) (.cons (.bl _) .nil)))) (.cons (.bl _) .nil)), ?_, ?_, ?_, ?_, ?_, q _⟩
  all_goals (cases isTerm od <;> decide +kernel)
end
end K11
set_option maxRecDepth 100000
set_option maxHeartbeats 4000000
namespace K11
open PySem L2 Fm
section
variable {P : Program} {w : World} {K : PySem.W.Frag} {mg : Str → Option Value} {base : Heap} (T : Txt K mg)
theorem ok_law : FnG P w K mg base 64 T.a_law T.d_law ["_law_script"] (spLaw K) := by
  have G__law_alike := ok_law_alike (P := P) (w := w) (base := base) T
  have G__law_bag := ok_law_bag (P := P) (w := w) (base := base) T
  have G__law_deep := ok_law_deep (P := P) (w := w) (base := base) T
  have G__law_is_named := ok_law_is_named (P := P) (w := w) (base := base) T
  have G__law_is_outcome := ok_law_is_outcome (P := P) (w := w) (base := base) T
  have G__law_is_term := ok_law_is_term (P := P) (w := w) (base := base) T 60
  have G__law_is_whole := ok_law_is_whole (P := P) (w := w) (base := base) T
  have G__law_many_right := ok_law_many_right (P := P) (w := w) (base := base) T
  have G__law_names := ok_law_names (P := P) (w := w) (base := base) T
  have G__law_take := ok_law_take (P := P) (w := w) (base := base) T
  have G__law_thing := ok_law_thing (P := P) (w := w) (base := base) T
  have G_are_values := ok_are_values (P := P) (w := w) (base := base) T
  have G_is_integer := ok_is_integer (P := P) (w := w) (base := base) T
  have G_is_name := ok_is_name (P := P) (w := w) (base := base) T
  have G_is_outcome := ok_is_outcome (P := P) (w := w) (base := base) T
  have G_is_term := ok_is_term (P := P) (w := w) (base := base) T
  refine fnG T.F_law sc_law ?_ (fun cdv A outer s H vs Q gd hr h => ?_)
  · rintro vs H Q E ⟨a, ns, rfl, _⟩
    rfl
  obtain ⟨a, ns, rfl, hs, hl, q⟩ := h
  refine ⟨_, 
    (pss_cons (ps_set (i := 1) sc_law.nd rfl (Or.inl rfl) (pe_call G__law_bag (hr.mono (by omega)) (by rfl) T.f__law_bag T.F__law_bag.kp T.b__law_bag .nil pass0 (pa_cons (pv 0) pa_nil)))
    (pss_cons (ps_set (i := 2) sc_law.nd rfl (Or.inl rfl) (pe_call G__law_names (hr.mono (by omega)) (by rfl) T.f__law_names T.F__law_names.kp T.b__law_names .nil pass0 (pa_cons (pv 1) (pa_cons pe_int pa_nil))))
    (pss_cons (ps_for PassesOwn.never rfl (pi_range1 (by rfl) T.m_range (pa_cons pe_int pa_nil)) (pg_name (i := 3) sc_law.nd rfl (Or.inl rfl)) (pss_cons (ps_set (i := 4) sc_law.nd rfl (Or.inl rfl) (pe_ifExp (pt_cmpR op_gt (pv 3) pe_int (nomark _)) (pe_call G__law_thing (hr.mono (by omega)) (by rfl) T.f__law_thing T.F__law_thing.kp T.b__law_thing .nil pass0 (pa_cons (pv 1) (pa_cons (pv 2) pa_nil))) (pe_call G__law_deep (hr.mono (by omega)) (by rfl) T.f__law_deep T.F__law_deep.kp T.b__law_deep .nil pass0 (pa_cons (pv 1) (pa_cons (pv 2) pa_nil))))) (pss_cons (ps_set (i := 5) sc_law.nd rfl (Or.inl rfl) (pe_call G__law_take (hr.mono (by omega)) (by rfl) T.f__law_take T.F__law_take.kp T.b__law_take .nil pass0 (pa_cons (pv 1) (pa_cons pe_int pa_nil)))) (Evl.pss_cut (ps_if (pt_val (pe_isD2 T.m_isinstance (pv 4) (pe_bltn (v := .ty "tuple") (u := .type "tuple") (by rfl) T.m_tuple (by decide +kernel) rfl) (pe_bltn (v := .ty "list") (u := .type "list") (by rfl) T.m_list (by decide +kernel) rfl) mon_var)) (pss_one (ps_set (i := 5) sc_law.nd rfl (Or.inl rfl) (pe_op op_add (pe_callB call_len_seq (by rfl) T.m_len (by decide +kernel) (pa_cons (pv 4) pa_nil)) (pe_callTy call_int1 (by rfl) T.m_int (by decide +kernel) (pa_cons (pe_cmpR op_eq (pv 5) pe_int (nomark _)) pa_nil))))) pss_nil) (pss_cons (ps_set (i := 6) sc_law.nd rfl (Or.inl rfl) (pe_lst (pa_cons (pe_call G__law_is_whole (hr.mono (by omega)) (by rfl) T.f__law_is_whole T.F__law_is_whole.kp T.b__law_is_whole .nil pass0 (pa_cons (pv 4) pa_nil)) (pa_cons (pe_call G__law_is_named (hr.mono (by omega)) (by rfl) T.f__law_is_named T.F__law_is_named.kp T.b__law_is_named .nil pass0 (pa_cons (pv 4) pa_nil)) (pa_cons (pe_call G__law_is_outcome (hr.mono (by omega)) (by rfl) T.f__law_is_outcome T.F__law_is_outcome.kp T.b__law_is_outcome .nil pass0 (pa_cons (pv 4) pa_nil)) (pa_cons (pe_call G__law_is_term (hr.mono (by omega)) (by rfl) T.f__law_is_term T.F__law_is_term.kp T.b__law_is_term .nil pass0 (pa_cons (pv 4) pa_nil)) pa_nil)))))) (Evl.pss_cut (ps_set (i := 7) sc_law.nd rfl (Or.inl rfl) (pe_and (pe_isD (fun _ => kit_T) T.m_isinstance (pv 4) (pe_bltn (v := .ty "tuple") (u := .type "tuple") (by rfl) T.m_tuple (by decide +kernel) rfl) mon_var) (pe_one (pe_cmpR op_eq (pe_callB call_len_seq (by rfl) T.m_len (by decide +kernel) (pa_cons (pv 4) pa_nil)) (pv 5) (nomark _))))) (Evl.pss_cut (ps_expr (pe_bm PySem.F.plainAttrs_list PySem.F.slot_list_append PySem.F.type_list_append mt_append (pv 6) (pa_cons (pe_and (pv 7) (pe_one (pe_callB (cr_all rfl) (by rfl) T.m_all (by decide +kernel) (pa_cons (pe_lc (own := [("_law_part", 9)]) (g := gName 9) (tt := tYes) rfl sc_law.nd (pi_tup (pv 4)) (blkOk_by (N := N_law) (sc := defScope s_law) (by decide +kernel)) (fun _ _ _ _ _ => pg_name (i := 9) sc_law.nd rfl (Or.inl rfl)) (fun _ _ _ _ _ => pts_nil) (fun _ _ _ _ _ => pe_call G__law_is_term (hr.mono (by omega)) (by rfl) T.f__law_is_term T.F__law_is_term.kp T.b__law_is_term .nil pass0 (pa_cons (pv 9) pa_nil))) pa_nil)))) pa_nil))) (pss_cons (ps_set (i := 8) sc_law.nd rfl (Or.inl rfl) (pe_lst (pa_cons (pe_call G_is_integer (hr.mono (by omega)) (by rfl) T.f_is_integer T.F_is_integer.kp T.b_is_integer .nil pass0 (pa_cons (pv 4) pa_nil)) (pa_cons (pe_call G_is_name (hr.mono (by omega)) (by rfl) T.f_is_name T.F_is_name.kp T.b_is_name .nil pass0 (pa_cons (pv 4) pa_nil)) (pa_cons (pe_call G_is_outcome (hr.mono (by omega)) (by rfl) T.f_is_outcome T.F_is_outcome.kp T.b_is_outcome .nil pass0 (pa_cons (pv 4) pa_nil)) (pa_cons (pe_call G_is_term (hr.mono (by omega)) (by rfl) T.f_is_term T.F_is_term.kp T.b_is_term .nil pass0 (pa_cons (pv 4) pa_nil)) (pa_cons (pe_call G_are_values (hr.mono (by omega)) (by rfl) T.f_are_values T.F_are_values.kp T.b_are_values .nil pass0 (pa_cons (pv 5) (pa_cons (pv 4) pa_nil))) pa_nil))))))) (pss_one (ps_if (pt_not (pt_val (pe_callG G__law_alike (hr.mono (by omega)) gd (by rfl) T.f__law_alike T.F__law_alike.kp T.b__law_alike (pa_cons (pv 8) (pa_cons (pv 6) pa_nil))))) (pss_one (ps_ret pe_bl)) pss_nil))))))))))
    (pss_one (ps_ret (pe_callG G__law_many_right (hr.mono (by omega)) gd (by rfl) T.f__law_many_right T.F__law_many_right.kp T.b__law_many_right (pa_cons (pv 1) pa_nil))))))), ?_⟩
  refine ⟨_, rfl, a, ns, rfl, hs, hl, fun b p H1 _ _ B1 => ?_⟩
  refine ⟨_, rfl, b, p, 4, rfl, B1, by decide, by decide, fun nm H2 xs g2 hn ln ok => ?_⟩
  obtain ⟨hn0, hn1⟩ := newof_is hn
  have N2 : Names nm b H2 xs := ⟨hn1, B1.b_ne hn0, by omega, by omega, ok⟩
  refine ⟨24, rfl, by decide, by decide, ?_⟩
  refine for_range (lo := 0) (n := 24) (fun i σ H' => ∃ o3 o4 o5 o6 o7 o8, σ = [some (.ref a), some (.ref b), some (.ref nm), o3, o4, o5, o6, o7, o8, none] ∧ Go b p H2 H') ⟨none, none, none, none, none, none, rfl, Go.refl g2.B⟩ ?_ ?_
  · rintro i σ H3 hi ⟨o3, o4, o5, o6, o7, o8, rfl, g3⟩
    have N3 := N2.go g3
    refine ⟨_, rfl, _, _, rfl, rfl, _, rfl, ite_b (fun c => ?_) (fun c => ?_)⟩
    all_goals
      refine ⟨_, rfl, _, rfl, b, p, nm, xs, rfl, g3.B, N3, fun v H4 d g4 hv dd dz => ?_⟩
      have gA := g3.trans g4
      refine ⟨_, rfl, b, p, 3, rfl, g4.B, by decide, by decide, fun mny H5 m0 m1 g5 => ?_⟩
      have gB := gA.trans g5
      have hv5 : Dv H5 v d := (g5.dv hv).un
      -- how many
      refine ⟨fun σ H' => ∃ many : Int, σ = [some (.ref a), some (.ref b), some (.ref nm), some (.int (0 + (i : Int))), some v, some (.int many), o6, o7, o8, none] ∧ Same H5 H', ?_, ?_⟩
      · refine ⟨_, rfl, d, hv5, fun tq htq => ⟨_, rfl, ite_b (fun c1 => ?_) (fun c1 => ?_)⟩⟩
        · have k1 : Same H5 (upd H5 tq (.tup [.ty "tuple", .ty "list"])) := Same.new htq
          cases hv5 with
          | tup h1 h2 => exact ⟨_, rfl, _, _, rfl, .inr (SqT.of (k1 _ _ h1)), _, rfl, rfl, .inr ⟨_, rfl, _, _, rfl, rfl, _, rfl, k1⟩⟩
          | lst h1 h2 => exact ⟨_, rfl, _, _, rfl, .inl (SqL.of (k1 _ _ h1)), _, rfl, rfl, .inr ⟨_, rfl, _, _, rfl, rfl, _, rfl, k1⟩⟩
          | non => simp [isTL] at c1
          | bl _ => simp [isTL] at c1
          | int _ => simp [isTL] at c1
          | str _ _ => simp [isTL] at c1
          | dic _ => simp [isTL] at c1
        · exact ⟨mny, rfl, Same.new htq⟩
      · rintro σ H6 ⟨many, rfl, k6⟩
        have hv6 : Dv H6 v d := hv5.same k6 _ _
        -- due
        refine ⟨_, rfl, v, d, rfl, hv6, by omega, by omega, fun H7 k7 => ?_⟩
        refine ⟨_, rfl, v, d, rfl, hv6.same k7 _ _, by omega, by omega, fun H8 k8 => ?_⟩
        have k78 := k7.trans k8
        refine ⟨_, rfl, v, d, rfl, hv6.same k78 _ _, by omega, by omega, fun H9 k9 => ?_⟩
        have k79 := k78.trans k9
        refine ⟨_, rfl, v, d, rfl, hv6.same k79 _ _, by omega, by omega, by omega, fun HA kA => ⟨(by show 4 ≤ sizeLine; decide), fun lD hlD => ?_⟩⟩
        have k7A := k79.trans kA
        have kB : Same HA (upd HA lD (.lst [.bl (isWhole d), .bl (isName d), .bl (isOut d), .bl (isTerm d)])) := Same.new hlD
        have hD : (upd HA lD (.lst [.bl (isWhole d), .bl (isName d), .bl (isOut d), .bl (isTerm d)])) lD = some (.lst [.bl (isWhole d), .bl (isName d), .bl (isOut d), .bl (isTerm d)]) := upd_same
        have hvB := (hv6.same k7A _ _).same kB _ _
        have gC : Go b p H2 (upd HA lD (.lst [.bl (isWhole d), .bl (isName d), .bl (isOut d), .bl (isTerm d)])) := gB.same ((k6.trans k7A).trans kB)
        have nvA : Dv HA v d := hv6.same k7A _ _
        have gHA : Go b p H2 HA := gB.same (k6.trans k7A)
        generalize hHB : upd HA lD (.lst [.bl (isWhole d), .bl (isName d), .bl (isOut d), .bl (isTerm d)]) = HB at kB hD hvB gC
        -- right_size
        refine ⟨fun σ H' => ∃ rs : Bool, σ = [some (.ref a), some (.ref b), some (.ref nm), some (.int (0 + (i : Int))), some v, some (.int many), some (.ref lD), some (.bl rs), o8, none] ∧ H' = HB ∧
          (rs = true → ∃ (t : Addr) (us : List V) (ds : List D), v = .ref t ∧ d = .tup ds ∧ HA t = some (.tup us) ∧ DvL HA us ds ∧ (ds.length : Int) = many) ∧ (rs = false → areValues many d = false), ?_, ?_⟩
        · refine ⟨_, rfl, d, hvB, _, rfl, ite_b (fun c1 => ?_) (fun c1 => ?_)⟩
          · cases nvA with
            | @tup t us ds h1 h2 =>
              have lu := h2.len
              refine ⟨_, rfl, t, us, rfl, .inr (SqT.of (kB _ _ h1)), _, rfl, rfl, _, rfl, rfl, fun y => ⟨t, us, ds, rfl, rfl, h1, h2, ?_⟩, fun y => ?_⟩
              · have z := of_decide_eq_true y
                injection z with z
                omega
              · have z : ¬ ((ds.length : Nat) : Int) = many := fun z => of_decide_eq_false y (by rw [lu, z])
                simp [areValues, z]
            | lst h1 h2 => simp [isT] at c1
            | non => simp [isT] at c1
            | bl _ => simp [isT] at c1
            | int _ => simp [isT] at c1
            | str _ _ => simp [isT] at c1
            | dic _ => simp [isT] at c1
          · refine ⟨false, rfl, rfl, fun y => (by cases y), fun _ => ?_⟩
            cases d <;> simp_all [areValues, isT]
        · rintro σ HB ⟨rs, rfl, rfl, r1, r2⟩
          -- due.append
          refine ⟨fun σ H' => σ = [some (.ref a), some (.ref b), some (.ref nm), some (.int (0 + (i : Int))), some v, some (.int many), some (.ref lD), some (.bl rs), o8, none] ∧
            Go b p H2 H' ∧ Dv H' v d ∧ H' lD = some (.lst [.bl (isWhole d), .bl (isName d), .bl (isOut d), .bl (isTerm d), .bl (areValues many d)]), ?_, ?_⟩
          · have app : ∀ (H' : Hp) (x : Bool), Same HB H' → x = areValues many d → (Go b p H2 (upd H' lD (.lst ([.bl (isWhole d), .bl (isName d), .bl (isOut d), .bl (isTerm d)] ++ [.bl x]))) ∧
                Dv (upd H' lD (.lst ([.bl (isWhole d), .bl (isName d), .bl (isOut d), .bl (isTerm d)] ++ [.bl x]))) v d ∧
                (upd H' lD (.lst ([.bl (isWhole d), .bl (isName d), .bl (isOut d), .bl (isTerm d)] ++ [.bl x]))) lD = some (.lst [.bl (isWhole d), .bl (isName d), .bl (isOut d), .bl (isTerm d), .bl (areValues many d)])) := by
              rintro H' x kx rfl
              exact ⟨(gC.same kx).mut g2.B (gHA.free hlD), nvA.same (Same.upd (kB.trans kx) hlD) _ _, upd_same⟩
            refine ⟨_, rfl, .inl ⟨rfl, _, SqL.of hD⟩, _, rfl, rs, rfl, ite_b (fun y => ?_) (fun y => ?_)⟩
            · obtain ⟨t, us, ds, rfl, rfl, h1, h2, h3⟩ := r1 y
              refine ⟨_, rfl, t, rfl, ⟨us, SqT.of (kB _ _ h1)⟩, fun Dl hDl => ?_⟩
              have z1 : sizes ds ≤ 50000 := by
                simp only [D.size] at dz
                omega
              have z2 : deeps ds ≤ 50 := by
                simp only [D.deep] at dd
                omega
              have lu := h2.len
              have ll := len_sizes ds
              refine lc_tupD (K := K) (fun d => .bl (isTerm d)) (SqT.of (kB _ _ h1)) (h2.same kB _ _) hDl (by omega) (fun _ => rfl) (fun _ _ _ r => r) (fun x d' H' R kx hm hx r => ?_) (fun H' kx hl => ?_)
              · have s1 := size_mem hm
                have s2 := deep_mem hm
                exact ⟨_, rfl, x, d', rfl, hx.same kx _ _, by omega, by omega, by omega, r⟩
              · refine ⟨Dl, ds.map isTerm, rfl, SqL.of ?_, lD, _, _, rfl, rfl, kx _ _ hD, (by show 4 < sizeLine; decide), rfl, ?_⟩
                · rw [hl]
                  simp [List.map_map, Function.comp_def]
                · refine app H' _ kx ?_
                  simp [areValues, h3, areTerms_all, List.all_map, Function.comp_def]
            · exact ⟨lD, _, _, rfl, rfl, hD, (by show 4 < sizeLine; decide), rfl, app HB false (Same.refl _) (r2 y).symm⟩
          · rintro σ HF ⟨rfl, gF, hvF, hlF⟩
            refine ⟨_, rfl, v, d, rfl, hvF, by omega, by omega, fun J1 j1 => ?_⟩
            refine ⟨_, rfl, v, d, rfl, hvF.same j1 _ _, by omega, by omega, fun J2 j2 => ?_⟩
            have j12 := j1.trans j2
            refine ⟨_, rfl, v, d, rfl, hvF.same j12 _ _, by omega, by omega, fun J3 j3 => ?_⟩
            have j13 := j12.trans j3
            refine ⟨_, rfl, v, d, rfl, hvF.same j13 _ _, by omega, by omega, fun J4 j4 => ?_⟩
            have j14 := j13.trans j4
            refine ⟨_, rfl, _, rfl, many, v, d, rfl, hvF.same j14 _ _, by omega, by omega, fun J5 j5 => ⟨(by show 5 ≤ sizeLine; decide), fun lf hlf => ?_⟩⟩
            have j15 := j14.trans j5
            have jn : Same J5 (upd J5 lf (.lst [.bl (isWhole d), .bl (isName d), .bl (isOut d), .bl (isTerm d), .bl (areValues many d)])) := Same.new hlf
            obtain ⟨w1, w2, w3, w4, w5⟩ := bools5 (isWhole d) (isName d) (isOut d) (isTerm d) (areValues many d)
            refine ⟨_, rfl, _, rfl, _, _, bools [isWhole d, isName d, isOut d, isTerm d, areValues many d], rfl, dp_bools upd_same, dp_bools ((j15.trans jn) _ _ hlF), w1, w2, w3, w4, w5, _, rfl, ?_⟩
            refine iteF ?_
            exact ⟨_, _, _, _, _, _, rfl, (gF.same j15).same jn⟩
  · rintro σ H3 ⟨o3, o4, o5, o6, o7, o8, rfl, g3⟩
    exact ⟨_, rfl, b, p, rfl, g3.B, q⟩
end
end K11
set_option maxRecDepth 100000
set_option maxHeartbeats 4000000
namespace K11
open PySem L2 Fm
theorem all_mk {P : Program} {w : World} {K : PySem.W.Frag} {h : Heap} {mg : Str → Option Value} {fa : Addr} (X : K.In h) (G : h.Ns mainGlobals mg) (hfa : mg "law" = some (.ref fa))
    {a0 a1 a2 a3 a4 a5 a6 a7 a8 a9 a10 a11 a12 a13 a14 a15 a16 a17 a18 a19 a20 a21 : Addr} {od0 an0 od1 an1 od2 an2 od3 an3 od4 an4 od5 an5 od6 an6 od7 an7 od8 an8 od9 an9 od10 an10 od11 an11 od12 an12 od13 an13 od14 an14 od15 an15 od16 an16 od17 an17 od18 an18 od19 an19 od20 an20 od21 an21 : Option Addr} {sl0 sl1 sl2 sl3 sl4 sl5 sl6 sl7 sl8 sl9 sl10 sl11 sl12 sl13 sl14 sl15 sl16 sl17 sl18 sl19 sl20 sl21 : Array (Option Value)}
    {oc0 kV0 dc0 pm0 cd0 ct0 oc1 kV1 dc1 pm1 cd1 ct1 oc2 kV2 dc2 pm2 cd2 ct2 oc3 kV3 dc3 pm3 cd3 ct3 oc4 kV4 dc4 pm4 cd4 ct4 oc5 kV5 dc5 pm5 cd5 ct5 oc6 kV6 dc6 pm6 cd6 ct6 oc7 kV7 dc7 pm7 cd7 ct7 oc8 kV8 dc8 pm8 cd8 ct8 oc9 kV9 dc9 pm9 cd9 ct9 oc10 kV10 dc10 pm10 cd10 ct10 oc11 kV11 dc11 pm11 cd11 ct11 oc12 kV12 dc12 pm12 cd12 ct12 oc13 kV13 dc13 pm13 cd13 ct13 oc14 kV14 dc14 pm14 cd14 ct14 oc15 kV15 dc15 pm15 cd15 ct15 oc16 kV16 dc16 pm16 cd16 ct16 oc17 kV17 dc17 pm17 cd17 ct17 oc18 kV18 dc18 pm18 cd18 ct18 oc19 kV19 dc19 pm19 cd19 ct19 oc20 kV20 dc20 pm20 cd20 ct20 oc21 kV21 dc21 pm21 cd21 ct21 : Value}
    (n0 : PySem.W.nsIn K mainGlobals "is_integer" = some (some (.ref a0))) (l0 : K.lookup a0 = some ⟨oc0, od0, .func (PySem.W.fnOf "is_integer" "is_integer" (defArgs s_is_integer) (defBody s_is_integer) (defScope s_is_integer) .none kV0 dc0 pm0 an0 cd0 ct0), sl0⟩) (c0 : PySem.W.codeIn K cd0 "is_integer" = true) (k0 : PySem.W.keepIn K (.ref a0) = true)
    (n1 : PySem.W.nsIn K mainGlobals "is_name" = some (some (.ref a1))) (l1 : K.lookup a1 = some ⟨oc1, od1, .func (PySem.W.fnOf "is_name" "is_name" (defArgs s_is_name) (defBody s_is_name) (defScope s_is_name) .none kV1 dc1 pm1 an1 cd1 ct1), sl1⟩) (c1 : PySem.W.codeIn K cd1 "is_name" = true) (k1 : PySem.W.keepIn K (.ref a1) = true)
    (n2 : PySem.W.nsIn K mainGlobals "is_outcome" = some (some (.ref a2))) (l2 : K.lookup a2 = some ⟨oc2, od2, .func (PySem.W.fnOf "is_outcome" "is_outcome" (defArgs s_is_outcome) (defBody s_is_outcome) (defScope s_is_outcome) .none kV2 dc2 pm2 an2 cd2 ct2), sl2⟩) (c2 : PySem.W.codeIn K cd2 "is_outcome" = true) (k2 : PySem.W.keepIn K (.ref a2) = true)
    (n3 : PySem.W.nsIn K mainGlobals "are_terms" = some (some (.ref a3))) (l3 : K.lookup a3 = some ⟨oc3, od3, .func (PySem.W.fnOf "are_terms" "are_terms" (defArgs s_are_terms) (defBody s_are_terms) (defScope s_are_terms) .none kV3 dc3 pm3 an3 cd3 ct3), sl3⟩) (c3 : PySem.W.codeIn K cd3 "are_terms" = true) (k3 : PySem.W.keepIn K (.ref a3) = true)
    (n4 : PySem.W.nsIn K mainGlobals "is_term" = some (some (.ref a4))) (l4 : K.lookup a4 = some ⟨oc4, od4, .func (PySem.W.fnOf "is_term" "is_term" (defArgs s_is_term) (defBody s_is_term) (defScope s_is_term) .none kV4 dc4 pm4 an4 cd4 ct4), sl4⟩) (c4 : PySem.W.codeIn K cd4 "is_term" = true) (k4 : PySem.W.keepIn K (.ref a4) = true)
    (n5 : PySem.W.nsIn K mainGlobals "are_values" = some (some (.ref a5))) (l5 : K.lookup a5 = some ⟨oc5, od5, .func (PySem.W.fnOf "are_values" "are_values" (defArgs s_are_values) (defBody s_are_values) (defScope s_are_values) .none kV5 dc5 pm5 an5 cd5 ct5), sl5⟩) (c5 : PySem.W.codeIn K cd5 "are_values" = true) (k5 : PySem.W.keepIn K (.ref a5) = true)
    (n6 : PySem.W.nsIn K mainGlobals "_law_bag" = some (some (.ref a6))) (l6 : K.lookup a6 = some ⟨oc6, od6, .func (PySem.W.fnOf "_law_bag" "_law_bag" (defArgs s__law_bag) (defBody s__law_bag) (defScope s__law_bag) .none kV6 dc6 pm6 an6 cd6 ct6), sl6⟩) (c6 : PySem.W.codeIn K cd6 "_law_bag" = true) (k6 : PySem.W.keepIn K (.ref a6) = true)
    (n7 : PySem.W.nsIn K mainGlobals "_law_take" = some (some (.ref a7))) (l7 : K.lookup a7 = some ⟨oc7, od7, .func (PySem.W.fnOf "_law_take" "_law_take" (defArgs s__law_take) (defBody s__law_take) (defScope s__law_take) .none kV7 dc7 pm7 an7 cd7 ct7), sl7⟩) (c7 : PySem.W.codeIn K cd7 "_law_take" = true) (k7 : PySem.W.keepIn K (.ref a7) = true)
    (n8 : PySem.W.nsIn K mainGlobals "_law_alike" = some (some (.ref a8))) (l8 : K.lookup a8 = some ⟨oc8, od8, .func (PySem.W.fnOf "_law_alike" "_law_alike" (defArgs s__law_alike) (defBody s__law_alike) (defScope s__law_alike) .none kV8 dc8 pm8 an8 cd8 ct8), sl8⟩) (c8 : PySem.W.codeIn K cd8 "_law_alike" = true) (k8 : PySem.W.keepIn K (.ref a8) = true)
    (n9 : PySem.W.nsIn K mainGlobals "_law_names" = some (some (.ref a9))) (l9 : K.lookup a9 = some ⟨oc9, od9, .func (PySem.W.fnOf "_law_names" "_law_names" (defArgs s__law_names) (defBody s__law_names) (defScope s__law_names) .none kV9 dc9 pm9 an9 cd9 ct9), sl9⟩) (c9 : PySem.W.codeIn K cd9 "_law_names" = true) (k9 : PySem.W.keepIn K (.ref a9) = true)
    (n10 : PySem.W.nsIn K mainGlobals "_law_term" = some (some (.ref a10))) (l10 : K.lookup a10 = some ⟨oc10, od10, .func (PySem.W.fnOf "_law_term" "_law_term" (defArgs s__law_term) (defBody s__law_term) (defScope s__law_term) .none kV10 dc10 pm10 an10 cd10 ct10), sl10⟩) (c10 : PySem.W.codeIn K cd10 "_law_term" = true) (k10 : PySem.W.keepIn K (.ref a10) = true)
    (n11 : PySem.W.nsIn K mainGlobals "_law_is_named" = some (some (.ref a11))) (l11 : K.lookup a11 = some ⟨oc11, od11, .func (PySem.W.fnOf "_law_is_named" "_law_is_named" (defArgs s__law_is_named) (defBody s__law_is_named) (defScope s__law_is_named) .none kV11 dc11 pm11 an11 cd11 ct11), sl11⟩) (c11 : PySem.W.codeIn K cd11 "_law_is_named" = true) (k11 : PySem.W.keepIn K (.ref a11) = true)
    (n12 : PySem.W.nsIn K mainGlobals "_law_is_outcome" = some (some (.ref a12))) (l12 : K.lookup a12 = some ⟨oc12, od12, .func (PySem.W.fnOf "_law_is_outcome" "_law_is_outcome" (defArgs s__law_is_outcome) (defBody s__law_is_outcome) (defScope s__law_is_outcome) .none kV12 dc12 pm12 an12 cd12 ct12), sl12⟩) (c12 : PySem.W.codeIn K cd12 "_law_is_outcome" = true) (k12 : PySem.W.keepIn K (.ref a12) = true)
    (n13 : PySem.W.nsIn K mainGlobals "_law_is_whole" = some (some (.ref a13))) (l13 : K.lookup a13 = some ⟨oc13, od13, .func (PySem.W.fnOf "_law_is_whole" "_law_is_whole" (defArgs s__law_is_whole) (defBody s__law_is_whole) (defScope s__law_is_whole) .none kV13 dc13 pm13 an13 cd13 ct13), sl13⟩) (c13 : PySem.W.codeIn K cd13 "_law_is_whole" = true) (k13 : PySem.W.keepIn K (.ref a13) = true)
    (n14 : PySem.W.nsIn K mainGlobals "_law_is_term" = some (some (.ref a14))) (l14 : K.lookup a14 = some ⟨oc14, od14, .func (PySem.W.fnOf "_law_is_term" "_law_is_term" (defArgs s__law_is_term) (defBody s__law_is_term) (defScope s__law_is_term) .none kV14 dc14 pm14 an14 cd14 ct14), sl14⟩) (c14 : PySem.W.codeIn K cd14 "_law_is_term" = true) (k14 : PySem.W.keepIn K (.ref a14) = true)
    (n15 : PySem.W.nsIn K mainGlobals "_law_odd" = some (some (.ref a15))) (l15 : K.lookup a15 = some ⟨oc15, od15, .func (PySem.W.fnOf "_law_odd" "_law_odd" (defArgs s__law_odd) (defBody s__law_odd) (defScope s__law_odd) .none kV15 dc15 pm15 an15 cd15 ct15), sl15⟩) (c15 : PySem.W.codeIn K cd15 "_law_odd" = true) (k15 : PySem.W.keepIn K (.ref a15) = true)
    (n16 : PySem.W.nsIn K mainGlobals "_law_spoilt" = some (some (.ref a16))) (l16 : K.lookup a16 = some ⟨oc16, od16, .func (PySem.W.fnOf "_law_spoilt" "_law_spoilt" (defArgs s__law_spoilt) (defBody s__law_spoilt) (defScope s__law_spoilt) .none kV16 dc16 pm16 an16 cd16 ct16), sl16⟩) (c16 : PySem.W.codeIn K cd16 "_law_spoilt" = true) (k16 : PySem.W.keepIn K (.ref a16) = true)
    (n17 : PySem.W.nsIn K mainGlobals "_law_text" = some (some (.ref a17))) (l17 : K.lookup a17 = some ⟨oc17, od17, .func (PySem.W.fnOf "_law_text" "_law_text" (defArgs s__law_text) (defBody s__law_text) (defScope s__law_text) .none kV17 dc17 pm17 an17 cd17 ct17), sl17⟩) (c17 : PySem.W.codeIn K cd17 "_law_text" = true) (k17 : PySem.W.keepIn K (.ref a17) = true)
    (n18 : PySem.W.nsIn K mainGlobals "_law_thing" = some (some (.ref a18))) (l18 : K.lookup a18 = some ⟨oc18, od18, .func (PySem.W.fnOf "_law_thing" "_law_thing" (defArgs s__law_thing) (defBody s__law_thing) (defScope s__law_thing) .none kV18 dc18 pm18 an18 cd18 ct18), sl18⟩) (c18 : PySem.W.codeIn K cd18 "_law_thing" = true) (k18 : PySem.W.keepIn K (.ref a18) = true)
    (n19 : PySem.W.nsIn K mainGlobals "_law_deep" = some (some (.ref a19))) (l19 : K.lookup a19 = some ⟨oc19, od19, .func (PySem.W.fnOf "_law_deep" "_law_deep" (defArgs s__law_deep) (defBody s__law_deep) (defScope s__law_deep) .none kV19 dc19 pm19 an19 cd19 ct19), sl19⟩) (c19 : PySem.W.codeIn K cd19 "_law_deep" = true) (k19 : PySem.W.keepIn K (.ref a19) = true)
    (n20 : PySem.W.nsIn K mainGlobals "_law_many_right" = some (some (.ref a20))) (l20 : K.lookup a20 = some ⟨oc20, od20, .func (PySem.W.fnOf "_law_many_right" "_law_many_right" (defArgs s__law_many_right) (defBody s__law_many_right) (defScope s__law_many_right) .none kV20 dc20 pm20 an20 cd20 ct20), sl20⟩) (c20 : PySem.W.codeIn K cd20 "_law_many_right" = true) (k20 : PySem.W.keepIn K (.ref a20) = true)
    (n21 : PySem.W.nsIn K mainGlobals "law" = some (some (.ref a21))) (l21 : K.lookup a21 = some ⟨oc21, od21, .func (PySem.W.fnOf "law" "law" (defArgs s_law) (defBody s_law) (defScope s_law) .none kV21 dc21 pm21 an21 cd21 ct21), sl21⟩) (c21 : PySem.W.codeIn K cd21 "law" = true) (k21 : PySem.W.keepIn K (.ref a21) = true)
    (z_abs : PySem.W.nsIn K mainGlobals "abs" = some none)
    (z_all : PySem.W.nsIn K mainGlobals "all" = some none)
    (z_bool : PySem.W.nsIn K mainGlobals "bool" = some none)
    (z_int : PySem.W.nsIn K mainGlobals "int" = some none)
    (z_isinstance : PySem.W.nsIn K mainGlobals "isinstance" = some none)
    (z_len : PySem.W.nsIn K mainGlobals "len" = some none)
    (z_list : PySem.W.nsIn K mainGlobals "list" = some none)
    (z_range : PySem.W.nsIn K mainGlobals "range" = some none)
    (z_repr : PySem.W.nsIn K mainGlobals "repr" = some none)
    (z_str : PySem.W.nsIn K mainGlobals "str" = some none)
    (z_tuple : PySem.W.nsIn K mainGlobals "tuple" = some none)
    {t_LETTERS : Tok} (z_LETTERS : PySem.W.nsIn K mainGlobals "LETTERS" = some (some (.str "abcdefghijklmnopqrstuvwxyz" t_LETTERS)))
    : ∃ fd : FuncData, (∀ (s : Shared) (u : Value), BindsTo s fd ⟨[u], []⟩ [("_law_script", u)]) ∧ ∀ bs : Heap, K.In bs → bs.Ns mainGlobals mg → FnG P w K mg bs 64 fa fd ["_law_script"] (spLaw K) := by
  have e := hfa.symm.trans (PySem.W.mg_of X G n21)
  cases e
  have F0 := fun_mk (st := s_is_integer) l0 c0 k0
  have F1 := fun_mk (st := s_is_name) l1 c1 k1
  have F2 := fun_mk (st := s_is_outcome) l2 c2 k2
  have F3 := fun_mk (st := s_are_terms) l3 c3 k3
  have F4 := fun_mk (st := s_is_term) l4 c4 k4
  have F5 := fun_mk (st := s_are_values) l5 c5 k5
  have F6 := fun_mk (st := s__law_bag) l6 c6 k6
  have F7 := fun_mk (st := s__law_take) l7 c7 k7
  have F8 := fun_mk (st := s__law_alike) l8 c8 k8
  have F9 := fun_mk (st := s__law_names) l9 c9 k9
  have F10 := fun_mk (st := s__law_term) l10 c10 k10
  have F11 := fun_mk (st := s__law_is_named) l11 c11 k11
  have F12 := fun_mk (st := s__law_is_outcome) l12 c12 k12
  have F13 := fun_mk (st := s__law_is_whole) l13 c13 k13
  have F14 := fun_mk (st := s__law_is_term) l14 c14 k14
  have F15 := fun_mk (st := s__law_odd) l15 c15 k15
  have F16 := fun_mk (st := s__law_spoilt) l16 c16 k16
  have F17 := fun_mk (st := s__law_text) l17 c17 k17
  have F18 := fun_mk (st := s__law_thing) l18 c18 k18
  have F19 := fun_mk (st := s__law_deep) l19 c19 k19
  have F20 := fun_mk (st := s__law_many_right) l20 c20 k20
  have F21 := fun_mk (st := s_law) l21 c21 k21
  exact ⟨_, fun s u => .of_eq rfl, fun bs _ _ => ok_law { a_is_integer := a0, d_is_integer := _, F_is_integer := F0, f_is_integer := PySem.W.mg_of X G n0, b_is_integer := F0.binds (ps := ["thing"]) (fun _ _ _ _ _ _ us hl => match us, hl with | [_], _ => rfl), a_is_name := a1, d_is_name := _, F_is_name := F1, f_is_name := PySem.W.mg_of X G n1, b_is_name := F1.binds (ps := ["thing"]) (fun _ _ _ _ _ _ us hl => match us, hl with | [_], _ => rfl), a_is_outcome := a2, d_is_outcome := _, F_is_outcome := F2, f_is_outcome := PySem.W.mg_of X G n2, b_is_outcome := F2.binds (ps := ["thing"]) (fun _ _ _ _ _ _ us hl => match us, hl with | [_], _ => rfl), a_are_terms := a3, d_are_terms := _, F_are_terms := F3, f_are_terms := PySem.W.mg_of X G n3, b_are_terms := F3.binds (ps := ["things"]) (fun _ _ _ _ _ _ us hl => match us, hl with | [_], _ => rfl), a_is_term := a4, d_is_term := _, F_is_term := F4, f_is_term := PySem.W.mg_of X G n4, b_is_term := F4.binds (ps := ["thing"]) (fun _ _ _ _ _ _ us hl => match us, hl with | [_], _ => rfl), a_are_values := a5, d_are_values := _, F_are_values := F5, f_are_values := PySem.W.mg_of X G n5, b_are_values := F5.binds (ps := ["many", "thing"]) (fun _ _ _ _ _ _ us hl => match us, hl with | [_, _], _ => rfl), a__law_bag := a6, d__law_bag := _, F__law_bag := F6, f__law_bag := PySem.W.mg_of X G n6, b__law_bag := F6.binds (ps := ["_law_script"]) (fun _ _ _ _ _ _ us hl => match us, hl with | [_], _ => rfl), a__law_take := a7, d__law_take := _, F__law_take := F7, f__law_take := PySem.W.mg_of X G n7, b__law_take := F7.binds (ps := ["_law_bag_here", "_law_many"]) (fun _ _ _ _ _ _ us hl => match us, hl with | [_, _], _ => rfl), a__law_alike := a8, d__law_alike := _, F__law_alike := F8, f__law_alike := PySem.W.mg_of X G n8, b__law_alike := F8.binds (ps := ["_law_found", "_law_due"]) (fun _ _ _ _ _ _ us hl => match us, hl with | [_, _], _ => rfl), a__law_names := a9, d__law_names := _, F__law_names := F9, f__law_names := PySem.W.mg_of X G n9, b__law_names := F9.binds (ps := ["_law_bag_here", "_law_many"]) (fun _ _ _ _ _ _ us hl => match us, hl with | [_, _], _ => rfl), a__law_term := a10, d__law_term := _, F__law_term := F10, f__law_term := PySem.W.mg_of X G n10, b__law_term := F10.binds (ps := ["_law_bag_here", "_law_names_here", "_law_many", "_law_deep_here"]) (fun _ _ _ _ _ _ us hl => match us, hl with | [_, _, _, _], _ => rfl), a__law_is_named := a11, d__law_is_named := _, F__law_is_named := F11, f__law_is_named := PySem.W.mg_of X G n11, b__law_is_named := F11.binds (ps := ["_law_thing_here"]) (fun _ _ _ _ _ _ us hl => match us, hl with | [_], _ => rfl), a__law_is_outcome := a12, d__law_is_outcome := _, F__law_is_outcome := F12, f__law_is_outcome := PySem.W.mg_of X G n12, b__law_is_outcome := F12.binds (ps := ["_law_thing_here"]) (fun _ _ _ _ _ _ us hl => match us, hl with | [_], _ => rfl), a__law_is_whole := a13, d__law_is_whole := _, F__law_is_whole := F13, f__law_is_whole := PySem.W.mg_of X G n13, b__law_is_whole := F13.binds (ps := ["_law_thing_here"]) (fun _ _ _ _ _ _ us hl => match us, hl with | [_], _ => rfl), a__law_is_term := a14, d__law_is_term := _, F__law_is_term := F14, f__law_is_term := PySem.W.mg_of X G n14, b__law_is_term := F14.binds (ps := ["_law_thing_here"]) (fun _ _ _ _ _ _ us hl => match us, hl with | [_], _ => rfl), a__law_odd := a15, d__law_odd := _, F__law_odd := F15, f__law_odd := PySem.W.mg_of X G n15, b__law_odd := F15.binds (ps := ["_law_bag_here"]) (fun _ _ _ _ _ _ us hl => match us, hl with | [_], _ => rfl), a__law_spoilt := a16, d__law_spoilt := _, F__law_spoilt := F16, f__law_spoilt := PySem.W.mg_of X G n16, b__law_spoilt := F16.binds (ps := ["_law_bag_here", "_law_term_here"]) (fun _ _ _ _ _ _ us hl => match us, hl with | [_, _], _ => rfl), a__law_text := a17, d__law_text := _, F__law_text := F17, f__law_text := PySem.W.mg_of X G n17, b__law_text := F17.binds (ps := ["_law_bag_here"]) (fun _ _ _ _ _ _ us hl => match us, hl with | [_], _ => rfl), a__law_thing := a18, d__law_thing := _, F__law_thing := F18, f__law_thing := PySem.W.mg_of X G n18, b__law_thing := F18.binds (ps := ["_law_bag_here", "_law_names_here"]) (fun _ _ _ _ _ _ us hl => match us, hl with | [_, _], _ => rfl), a__law_deep := a19, d__law_deep := _, F__law_deep := F19, f__law_deep := PySem.W.mg_of X G n19, b__law_deep := F19.binds (ps := ["_law_bag_here", "_law_names_here"]) (fun _ _ _ _ _ _ us hl => match us, hl with | [_, _], _ => rfl), a__law_many_right := a20, d__law_many_right := _, F__law_many_right := F20, f__law_many_right := PySem.W.mg_of X G n20, b__law_many_right := F20.binds (ps := ["_law_bag_here"]) (fun _ _ _ _ _ _ us hl => match us, hl with | [_], _ => rfl), a_law := fa, d_law := _, F_law := F21, f_law := PySem.W.mg_of X G n21, b_law := F21.binds (ps := ["_law_script"]) (fun _ _ _ _ _ _ us hl => match us, hl with | [_], _ => rfl), m_abs := PySem.W.mg_none_of X G z_abs, m_all := PySem.W.mg_none_of X G z_all, m_bool := PySem.W.mg_none_of X G z_bool, m_int := PySem.W.mg_none_of X G z_int, m_isinstance := PySem.W.mg_none_of X G z_isinstance, m_len := PySem.W.mg_none_of X G z_len, m_list := PySem.W.mg_none_of X G z_list, m_range := PySem.W.mg_none_of X G z_range, m_repr := PySem.W.mg_none_of X G z_repr, m_str := PySem.W.mg_none_of X G z_str, m_tuple := PySem.W.mg_none_of X G z_tuple, t_LETTERS := t_LETTERS, g_LETTERS := PySem.W.mg_of X G z_LETTERS }⟩
theorem walk {l : PySem.W.OpenLaw} {q : Program} {loose : List Str} {XP : (Str → Option Value) → Heap → Prop} {YP : World → Heap → Prop} {d : DefRec} {K : Params → PySem.W.Frag} (hn : l.most = some 63) (hdf : d.params.defaults = [])
    (hY : ∀ (w : World) (h : Heap), YP w h → (K w.params).In h)
    (F : ∀ (w : World) (mg : Str → Option Value) (fa : Addr) (h : Heap), (K w.params).In h → h.Ns mainGlobals mg → mg d.name = some (.ref fa) →
      ∃ fd : FuncData, (∀ (s : Shared) (u : Value), BindsTo s fd ⟨[u], []⟩ [("_law_script", u)]) ∧ ∀ bs : Heap, (K w.params).In bs → bs.Ns mainGlobals mg → FnG l.prog w (K w.params) mg bs 64 fa fd ["_law_script"] (spLaw (K w.params))) :
    PySem.W.WalkO q loose XP YP l.row.toRowW d [] (fun f vs => PySem.call f vs) :=
  Fm.walkG (n := 63) (k := 64) (x := "_law_script") (sp := fun w => spLaw (K w.params)) hn (by decide) hdf ⟨rfl, by decide, by decide⟩ hY F fun _ _ a ns hl hS => ⟨a, ns, rfl, hS, hl, fun _ => rfl⟩
end K11
open PySem PySem.W PyProof.Rows in
set_option maxRecDepth 100000 in
set_option maxHeartbeats 0 in
theorem PySem.Challenge.cw_framemoves_k11_kinds_known_holds : PySem.Challenge.rw_framemoves_k11_kinds_known.Holds := by
  w_on; o_law; k_head; (case hw => w_witness2)
  k_fill
  refine K11.walk (l := PySem.Challenge.rw_framemoves_k11_kinds_known) rfl rfl (fun w h Y => PySem.W.kIn_of Y) ?F
  case F =>
    intro w mg fa h KX G hmg
    refine' K11.all_mk KX G hmg ?n0 ?l0 ?c0 ?k0 ?n1 ?l1 ?c1 ?k1 ?n2 ?l2 ?c2 ?k2 ?n3 ?l3 ?c3 ?k3 ?n4 ?l4 ?c4 ?k4 ?n5 ?l5 ?c5 ?k5 ?n6 ?l6 ?c6 ?k6 ?n7 ?l7 ?c7 ?k7 ?n8 ?l8 ?c8 ?k8 ?n9 ?l9 ?c9 ?k9 ?n10 ?l10 ?c10 ?k10 ?n11 ?l11 ?c11 ?k11 ?n12 ?l12 ?c12 ?k12 ?n13 ?l13 ?c13 ?k13 ?n14 ?l14 ?c14 ?k14 ?n15 ?l15 ?c15 ?k15 ?n16 ?l16 ?c16 ?k16 ?n17 ?l17 ?c17 ?k17 ?n18 ?l18 ?c18 ?k18 ?n19 ?l19 ?c19 ?k19 ?n20 ?l20 ?c20 ?k20 ?n21 ?l21 ?c21 ?k21 ?z_abs ?z_all ?z_bool ?z_int ?z_isinstance ?z_len ?z_list ?z_range ?z_repr ?z_str ?z_tuple ?z_LETTERS
    (case n0 => k_is)
    (case l0 => k_is)
    (case c0 => k_is)
    (case k0 => k_is)
    (case n1 => k_is)
    (case l1 => k_is)
    (case c1 => k_is)
    (case k1 => k_is)
    (case n2 => k_is)
    (case l2 => k_is)
    (case c2 => k_is)
    (case k2 => k_is)
    (case n3 => k_is)
    (case l3 => k_is)
    (case c3 => k_is)
    (case k3 => k_is)
    (case n4 => k_is)
    (case l4 => k_is)
    (case c4 => k_is)
    (case k4 => k_is)
    (case n5 => k_is)
    (case l5 => k_is)
    (case c5 => k_is)
    (case k5 => k_is)
    (case n6 => k_is)
    (case l6 => k_is)
    (case c6 => k_is)
    (case k6 => k_is)
    (case n7 => k_is)
    (case l7 => k_is)
    (case c7 => k_is)
    (case k7 => k_is)
    (case n8 => k_is)
    (case l8 => k_is)
    (case c8 => k_is)
    (case k8 => k_is)
    (case n9 => k_is)
    (case l9 => k_is)
    (case c9 => k_is)
    (case k9 => k_is)
    (case n10 => k_is)
    (case l10 => k_is)
    (case c10 => k_is)
    (case k10 => k_is)
    (case n11 => k_is)
    (case l11 => k_is)
    (case c11 => k_is)
    (case k11 => k_is)
    (case n12 => k_is)
    (case l12 => k_is)
    (case c12 => k_is)
    (case k12 => k_is)
    (case n13 => k_is)
    (case l13 => k_is)
    (case c13 => k_is)
    (case k13 => k_is)
    (case n14 => k_is)
    (case l14 => k_is)
    (case c14 => k_is)
    (case k14 => k_is)
    (case n15 => k_is)
    (case l15 => k_is)
    (case c15 => k_is)
    (case k15 => k_is)
    (case n16 => k_is)
    (case l16 => k_is)
    (case c16 => k_is)
    (case k16 => k_is)
    (case n17 => k_is)
    (case l17 => k_is)
    (case c17 => k_is)
    (case k17 => k_is)
    (case n18 => k_is)
    (case l18 => k_is)
    (case c18 => k_is)
    (case k18 => k_is)
    (case n19 => k_is)
    (case l19 => k_is)
    (case c19 => k_is)
    (case k19 => k_is)
    (case n20 => k_is)
    (case l20 => k_is)
    (case c20 => k_is)
    (case k20 => k_is)
    (case n21 => k_is)
    (case l21 => k_is)
    (case c21 => k_is)
    (case k21 => k_is)
    (case z_abs => k_is)
    (case z_all => k_is)
    (case z_bool => k_is)
    (case z_int => k_is)
    (case z_isinstance => k_is)
    (case z_len => k_is)
    (case z_list => k_is)
    (case z_range => k_is)
    (case z_repr => k_is)
    (case z_str => k_is)
    (case z_tuple => k_is)
    (case z_LETTERS => k_is)
