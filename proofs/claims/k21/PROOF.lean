import PyProof.Rows.All
import Wide.All
import OpenK.AllK
import Wide.FinOn
import KE.KDictCopyH
import HandS.Dict
import HandS.ForMost
import HandS.IsInst
import HandS.Sort
import HandS.More
import HandS.TupAny
import HandS.TupMul
import HandS.Walk
import HandS.Evl
import HandS.Wide
import PyProof.ListMulRoad
import PyProof.FactsAll.tuple_2
import HandS.Style
import HandS.SetKeys
import HandS.Conv
import HandS.Rev
import HandS.Iter
import HandS.DictTup
import PyProof.DictMoreH
import HandS.TupLen
import HandS.WordsDict
import HandS.SetBool
import HandS.Strs
import PyProof.ReprLen
import HandS.SetFor
import PyProof.ReprReads
import HandS.DictComp
import HandS.ForSpec
import KE.OsGo
import Open.SpecLaws
import HandS.ExcValue
import HandS.ExcIs
import HandS.ExcField
import KE.KExcIs
import KE.KDictItemsList
import HandS.Keys
import HandS.ListItems
import HandS.OwnEq
import HandS.DeepEq
import KE.KSortTupAny
import PyProof.Rows.SortStr
import PyProof.Rows.StrMeet
import HandS.Finally
import PySem.Challenge.RW_framemoves_k21_worlds_refused
set_option Elab.async false
set_option linter.all false
set_option maxRecDepth 100000
set_option maxHeartbeats 2000000
/-! dicts whose keys are of mixed kinds (names, whole numbers, truths, None, tuples of such): found, read, stored -/
namespace NkD
open PySem PySem.Spec PyProof.Rows
open Sem (wp)
/-- an entry whose key is k -/
structure Ent (w : World) (h : Heap) (e : DictEntry) (k : NestedKey) : Prop where
  is : NestedIs h k e.key
  hs : e.hash = k.hash w
  dp : k.depth ≤ 8
theorem paired_len {α β : Type} {R : α → β → Prop} : ∀ {xs : List α} {ys : List β}, Paired R xs ys → xs.length = ys.length
  | _, _, .nil => rfl
  | _, _, .cons _ t => congrArg (· + 1) (paired_len t)
theorem paired_l {α β : Type} {R : α → β → Prop} : ∀ {xs : List α} {ys : List β}, Paired R xs ys → ∀ {i : Nat} {x : α}, xs[i]? = some x → ∃ y, ys[i]? = some y ∧ R x y
  | _, _, .nil, i, x, e => by simp at e
  | _, _, .cons r _, 0, x, e => by simp at e; subst e; exact ⟨_, rfl, r⟩
  | _, _, .cons _ t, i + 1, x, e => by
    obtain ⟨y, h1, h2⟩ := paired_l t (i := i) (by simpa using e)
    exact ⟨y, by simpa using h1, h2⟩
theorem paired_r {α β : Type} {R : α → β → Prop} : ∀ {xs : List α} {ys : List β}, Paired R xs ys → ∀ {i : Nat} {y : β}, ys[i]? = some y → ∃ x, xs[i]? = some x ∧ R x y
  | _, _, .nil, i, x, e => by simp at e
  | _, _, .cons r _, 0, x, e => by simp at e; subst e; exact ⟨_, rfl, r⟩
  | _, _, .cons _ t, i + 1, x, e => by
    obtain ⟨y, h1, h2⟩ := paired_r t (i := i) (by simpa using e)
    exact ⟨y, by simpa using h1, h2⟩
section
variable {prog : Program} {w : World} {A : Around} {E : Value → Shared → Prop} {s : Shared}
/-- no key of these tells anything when asked -/
theorem table_quiet {key : Value} {k : NestedKey} {st : List Value} {Q : Bool → Shared → Prop} (hk : NestedIs s.heap k key) (hd : k.depth ≤ 8)
    (hst : ∀ v ∈ st, ∃ k', NestedIs s.heap k' v ∧ k'.depth ≤ 8) (h : Q false s) : wpAny (model prog w) A (tableMayTell key st) Q E s := by
  unfold tableMayTell
  split
  · exact wpAny_pure h
  · refine wpAny_bind (quiet_key k key 8 s hk hd A E _ ?_)
    rw [Bool.not_true, if_neg Bool.false_ne_true]
    refine wpAny_bind (wpAny_forIn_list _ (fun rest b s' => (s' = s ∧ b = (none, ())) ∧ ∀ v ∈ rest, v ∈ st) _ ?_ ?_ _ _ ⟨⟨rfl, rfl⟩, fun _ z => z⟩)
    · rintro v rest b s' ⟨⟨rfl, rfl⟩, sub⟩
      obtain ⟨k', n1, n2⟩ := hst v (sub v List.mem_cons_self)
      refine wpAny_bind (quiet_key k' v 8 s' n1 n2 A E _ ?_)
      rw [Bool.not_true, if_neg Bool.false_ne_true]
      exact wpAny_pure ⟨⟨rfl, rfl⟩, fun u hu => sub u (List.mem_cons_of_mem _ hu)⟩
    · rintro b s' ⟨⟨rfl, rfl⟩, _⟩
      exact wpAny_pure h
theorem same_n {a b : NestedKey} {u v : Value} {Q : Bool → Shared → Prop} (hu : A.units + 8 < cLine) (ha : NestedIs s.heap a u) (hb : NestedIs s.heap b v) (hd : b.depth ≤ 8) (h : Q (decide (a = b)) s) : wpAny (model prog w) A (eqBool u v) Q E s :=
  eqAt_key a b A s u v ha hb (by omega) _ _ _ _ (by rw [← NestedKey.decide_eq]; exact h)
theorem find_n {d : Addr} {key : Value} {o : Obj} {es : Array DictEntry} {ep : Nat} {ks : List NestedKey} {k : NestedKey} {Q : Option Nat → Shared → Prop} (hu : A.units + 8 < cLine) (hk : NestedIs s.heap k key) (hd : k.depth ≤ 8)
    (ho : s.heap.get? d = some o) (hdat : o.data = .dict es ep) (hE : Paired (Ent w s.heap) es.toList ks) (nd : ks.Nodup) (hn : k ∉ ks → Q none s) (hy : ∀ j, ks[j]? = some k → Q (some j) s) :
    wpAny (model prog w) A (dictFind d key (k.hash w)) Q E s := by
  have getE : ∀ {j : Nat} {e : DictEntry}, es[j]? = some e → ∃ k', ks[j]? = some k' ∧ Ent w s.heap e k' := fun {j e} z => paired_l hE (by rw [Array.getElem?_toList]; exact z)
  have getK : ∀ {j : Nat} {k' : NestedKey}, ks[j]? = some k' → ∃ e, es[j]? = some e ∧ Ent w s.heap e k' := fun {j k'} z => by
    obtain ⟨e, h1, h2⟩ := paired_r hE z
    exact ⟨e, by rw [← Array.getElem?_toList]; exact h1, h2⟩
  have uniq : ∀ {i j : Nat}, ks[i]? = some k → ks[j]? = some k → i = j := fun {i j} h1 h2 =>
    (List.getElem?_inj (List.getElem?_eq_some_iff.mp h1).1 nd).mp (h1.trans h2.symm)
  obtain ⟨pl, hpl⟩ : ∃ pl, pl = placesWithHash es.size (fun i => es[i]?.map (·.hash)) (k.hash w) := ⟨_, rfl⟩
  have memP : ∀ i, i ∈ pl ↔ i < es.size ∧ es[i]?.map (·.hash) = some (k.hash w) := fun i => by
    rw [hpl, placesWithHash, List.mem_filter, List.mem_range, beq_iff_eq]
  have ndP : pl.Nodup := by
    rw [hpl, placesWithHash]
    exact List.nodup_range.filter _
  have inP : ∀ {j : Nat}, ks[j]? = some k → j ∈ pl := fun {j} z => by
    obtain ⟨e, h1, h2⟩ := getK z
    refine (memP j).mpr ⟨(Array.getElem?_eq_some_iff.mp h1).1, ?_⟩
    rw [h1, Option.map_some, h2.hs]
  have none_of : (∀ i ∈ pl, ks[i]? ≠ some k) → k ∉ ks := fun z m => by
    obtain ⟨j, hj⟩ := List.mem_iff_getElem?.mp m
    exact z j (inP hj) hj
  have allN : ∀ v ∈ pl.filterMap (fun i => es[i]?.map (·.key)), ∃ k', NestedIs s.heap k' v ∧ k'.depth ≤ 8 := fun v hv => by
    obtain ⟨i, _, hi⟩ := List.mem_filterMap.mp hv
    obtain ⟨e, he, rfl⟩ := Option.map_eq_some_iff.mp hi
    obtain ⟨k', _, h2⟩ := getE he
    exact ⟨k', h2.is, h2.dp⟩
  unfold dictFind
  refine wpAny_holding (wpAny_bind (wpAny_dictEntries ho hdat ?_))
  have hany : ¬ ((es.any fun e => e.key == key && e.hash != NestedKey.hash w k) = true) := by
    rw [Array.any_eq_true]
    rintro ⟨i, hi, z⟩
    rw [Bool.and_eq_true, beq_iff_eq, bne_iff_ne] at z
    obtain ⟨k', _, x⟩ := getE (Array.getElem?_eq_getElem hi)
    have e1 : k' = k := NestedIs.inj _ _ _ (by rw [← z.1]; exact x.is) hk
    exact z.2 (by rw [x.hs, e1])
  have plain : wpAny (model prog w) A (dictWalkPlain d key (k.hash w) es pl) Q E s := by
    unfold dictWalkPlain
    refine wpAny_bind (wpAny_forIn_list _ (fun rest b s' => (s' = s ∧ b = (none, ())) ∧ ∃ pre, pl = pre ++ rest ∧ ∀ i ∈ pre, ks[i]? ≠ some k) _ ?_ ?_ _ _ ⟨⟨rfl, rfl⟩, [], rfl, fun _ z => (List.not_mem_nil z).elim⟩)
    · rintro i rest b s' ⟨⟨rfl, rfl⟩, pre, e1, no⟩
      obtain ⟨li, hi⟩ := (memP i).mp (by rw [e1]; exact List.mem_append_right _ List.mem_cons_self)
      have he := Array.getElem?_eq_getElem li
      rw [he]
      dsimp only
      rw [if_pos (by rw [he] at hi; simpa using hi)]
      obtain ⟨k', hk', x⟩ := getE he
      refine wpAny_bind (wpAny_dictEpoch ho hdat (wpAny_bind (same_n hu x.is hk hd (wpAny_bind (wpAny_dictEpoch ho hdat ?_)))))
      rw [if_neg (by simp)]
      by_cases c : k' = k
      · rw [decide_eq_true c]
        exact wpAny_bind (wpAny_rule (wpAny_pure (wpAny_pure (hy i (by rw [hk', c])))))
      · rw [decide_eq_false c]
        replace c : ks[i]? ≠ some k := fun z => c (Option.some.inj (hk'.symm.trans z))
        refine wpAny_bind (wpAny_rule (wpAny_pure ⟨⟨rfl, rfl⟩, pre ++ [i], by rw [e1]; simp, fun j hj => ?_⟩))
        rcases List.mem_append.mp hj with z | z
        · exact no j z
        · rw [List.mem_singleton.mp z]
          exact c
    · rintro b s' ⟨⟨rfl, rfl⟩, pre, e1, no⟩
      rw [List.append_nil] at e1
      exact wpAny_pure (hn (none_of (by rw [e1]; exact no)))
  have found : ∀ x u, key = .str x u → (es.all fun e => isExactStrKey e.key) = true → wpAny (model prog w) A (foundByValue d key es x) Q E s := by
    intro x u ekey all_
    have hk0 := hk
    rw [ekey] at hk0
    unfold foundByValue
    have kx : k = .text x := NestedIs.inj _ _ _ hk0 (.text x u)
    have isx : ∀ {j : Nat} {e : DictEntry}, es[j]? = some e → (e.key.isStr x = true ↔ ks[j]? = some k) := fun {j e} he => by
      obtain ⟨k', h1, h2⟩ := getE he
      have es1 := Array.all_eq_true.mp all_ j (Array.getElem?_eq_some_iff.mp he).1
      rw [(Array.getElem?_eq_some_iff.mp he).2] at es1
      have h3 := h2.is
      rw [h1]
      generalize e.key = y0 at es1 h3 ⊢
      cases y0 with
      | str y u2 =>
        have ky : k' = .text y := NestedIs.inj _ _ _ h3 (.text y u2)
        rw [kx, ky]
        simp only [Value.isStr, beq_iff_eq, Option.some.injEq, NestedKey.text.injEq]
      | _ => exact absurd es1 Bool.false_ne_true
    cases hf : es.findIdx? (fun e => e.key.isStr x) with
    | none =>
      refine wpAny_pure (hn fun m => ?_)
      obtain ⟨j, hj⟩ := List.mem_iff_getElem?.mp m
      obtain ⟨e, he, _⟩ := getK hj
      have := Array.findIdx?_eq_none_iff.mp hf e (Array.mem_of_getElem? he)
      rw [(isx he).mpr hj] at this
      cases this
    | some i =>
      obtain ⟨li, hi, _⟩ := Array.findIdx?_eq_some_iff_getElem.mp hf
      have he := Array.getElem?_eq_getElem li
      have hi' := (isx he).mp hi
      dsimp only
      rw [he]
      obtain ⟨k', hk', x⟩ := getE he
      refine wpAny_bind (wpAny_dictEpoch ho hdat (wpAny_bind (same_n hu x.is hk hd (wpAny_bind (wpAny_dictEpoch ho hdat ?_)))))
      rw [if_neg (by simp), decide_eq_true (Option.some.inj (hk'.symm.trans hi'))]
      exact wpAny_bind (wpAny_rule (wpAny_pure (hy i hi')))
  obtain ⟨P, hP⟩ : ∃ P : Nat → Prop, ∀ i, P i ↔ ks[i]? = some k := ⟨_, fun _ => Iff.rfl⟩
  have noP : (∀ i ∈ pl, ¬ P i) → Q none s := fun z => hn (none_of fun i hi e => z i hi ((hP i).mpr e))
  have yesP : ∀ i, P i → Q (some i) s := fun i z => hy i ((hP i).mp z)
  have uniqP : ∀ {i j : Nat}, P i → P j → i = j := fun {i j} h1 h2 => uniq ((hP i).mp h1) ((hP j).mp h2)
  have askP : ∀ {i : Nat} {e : DictEntry} {Q' : Bool → Shared → Prop}, es[i]? = some e → (P i → Q' true s) → (¬ P i → Q' false s) → wpAny (model prog w) A (eqBool e.key key) Q' E s := fun {i e Q'} he h1 h2 => by
    obtain ⟨k', hk', x⟩ := getE he
    refine same_n hu x.is hk hd ?_
    by_cases c : k' = k
    · rw [decide_eq_true c]
      exact h1 ((hP i).mpr (by rw [hk', c]))
    · rw [decide_eq_false c]
      exact h2 fun z => c (Option.some.inj (hk'.symm.trans ((hP i).mp z)))
  have hashP : ∀ {i : Nat}, i ∈ pl → ∃ e, es[i]? = some e ∧ (e.hash == k.hash w) = true := fun {i} z => by
    obtain ⟨li, hi⟩ := (memP i).mp z
    refine ⟨_, Array.getElem?_eq_getElem li, ?_⟩
    rw [Array.getElem?_eq_getElem li] at hi
    simpa using hi
  have quietP : ∀ {Q' : Bool → Shared → Prop}, Q' false s → wpAny (model prog w) A (tableMayTell key (pl.filterMap fun i => es[i]?.map (·.key))) Q' E s := fun {Q'} z => table_quiet hk hd allN z
  have hk0 := hk
  clear getK getE memP none_of inP uniq hP hn hy allN
  cases hk0
  all_goals
    dsimp only
    try refine wpAny_ite_split (fun all_ => found _ _ rfl all_) (fun _ => ?_)
    rw [← hpl]
    refine wpAny_ite_split (fun _ => plain) (fun _ => ?_)
    try rw [if_neg hany]
    refine wpAny_ite_split (fun _ => wpAny_bind (wpAny_pure ?_)) (fun _ => wpAny_bind (quietP ?_))
    all_goals
      rw [Bool.false_and, if_neg Bool.false_ne_true]
      refine wpAny_bind (wpAny_forIn_list _ (fun rest b s' => s' = s ∧ b.1 = none ∧ ∃ pre, pl = pre ++ rest ∧ ((b.2 = none ∧ ∀ i ∈ pre, ¬ P i) ∨ ∃ j, b.2 = some j ∧ j ∈ pre ∧ P j)) _ ?_ ?_ _ _ ⟨rfl, rfl, [], rfl, .inl ⟨rfl, fun _ z => (List.not_mem_nil z).elim⟩⟩)
      · rintro i rest ⟨b1, b2⟩ s' ⟨rfl, e0, pre, e1, st⟩
        cases e0
        obtain ⟨e, he, hh⟩ := hashP (i := i) (by rw [e1]; exact List.mem_append_right _ List.mem_cons_self)
        have nin : i ∉ pre := fun z => by
          rw [e1] at ndP
          exact (List.nodup_append.mp ndP).2.2 i z i List.mem_cons_self rfl
        rw [he]
        dsimp only
        rw [if_pos hh]
        refine wpAny_bind (wpAny_dictEpoch ho hdat (wpAny_bind (askP he (fun c => wpAny_bind (wpAny_dictEpoch ho hdat ?_)) (fun c => wpAny_bind (wpAny_dictEpoch ho hdat ?_)))))
        · rw [if_neg (by simp), if_pos rfl]
          rcases st with ⟨e2, no⟩ | ⟨j, _, hj, hjk⟩
          · cases e2
            rw [if_neg (by simp)]
            refine wpAny_bind (wpAny_rule (wpAny_ite_split (fun _ => wpAny_pure (wpAny_pure (yesP i c))) (fun _ => wpAny_pure ⟨rfl, rfl, pre ++ [i], by rw [e1]; simp, .inr ⟨i, rfl, by simp, c⟩⟩)))
          · rw [uniqP hjk c] at hj
            exact absurd hj nin
        · rw [if_neg (by simp), if_neg Bool.false_ne_true]
          refine wpAny_bind (wpAny_rule ?_)
          rw [Bool.false_and, if_neg Bool.false_ne_true]
          refine wpAny_pure ⟨rfl, rfl, pre ++ [i], by rw [e1]; simp, ?_⟩
          rcases st with ⟨e2, no⟩ | ⟨j, e2, hj, hjk⟩
          · refine .inl ⟨e2, fun l hl => ?_⟩
            rcases List.mem_append.mp hl with z | z
            · exact no l z
            · rw [List.mem_singleton.mp z]
              exact c
          · exact .inr ⟨j, e2, List.mem_append_left _ hj, hjk⟩
      · rintro ⟨b1, b2⟩ s' ⟨rfl, e0, pre, e1, st⟩
        cases e0
        rw [List.append_nil] at e1
        dsimp only
        rcases st with ⟨e2, no⟩ | ⟨j, e2, _, hjk⟩
        · cases e2
          exact wpAny_pure (noP (by rw [e1]; exact no))
        · cases e2
          exact wpAny_pure (yesP j hjk)
end
end NkD
set_option maxRecDepth 100000
set_option maxHeartbeats 2000000
/-! Fm: defs that are run where nothing is being shown (no guard on the stack), so that repr tells the whole text. -/
namespace Fm
open PySem PySem.Spec PyProof.Rows L2

/-- a def's promise, kept where no guard stands; no exception leaves it -/
structure FnG (P : Program) (w : World) (K : PySem.W.Frag) (mg : Str → Option Value) (bs : Heap) (k : Nat) (f : Addr) (fd : FuncData) (ps : List Str) (sp : Sp) : Prop where
  many : ∀ vs H Q E, sp vs H Q E → vs.length = ps.length
  runs : ∀ (A : Around) (fr : List Env) (s : Shared) (H : Hp) (ar : Args) (us : List Value) (vs : List V) (Q : VK),
    Room k A → A.guards = some [] → Env0 P w K mg bs A fr s H → BindsTo s fd ar (ps.zip us) → Vals vs us → sp vs H Q E0 → codeAny (model P w) A (.call (.ref f) ar) (CR CX0 fr P w H s Q E0) s
section
variable {P : Program} {w : World} {K : PySem.W.Frag} {mg : Str → Option Value} {bs : Heap} {k : Nat}
theorem FnG.of {f : Addr} {fd : FuncData} {ps : List Str} {sp : Sp} (F : FnOk P w K mg bs CX0 k f fd ps sp) : FnG P w K mg bs k f fd ps sp :=
  ⟨F.len, fun A fr s H ar us vs Q r _ e b v h => F.run A fr s H ar us vs Q E0 r e b v h⟩
/-- the rule for such a def -/
theorem fnG {x qual : Str} {st : Stmt} {f : Addr} {fd : FuncData} {N ps : List Str} {sp : Sp} (F : Fun K x qual st f fd) (S : FnScope N ps (defScope st)) (len : ∀ vs H Q E, sp vs H Q E → vs.length = ps.length)
    (body : ∀ (cdv : Value) (A : Around) (fr : List Env) (s : Shared) (H : Hp) (vs : List V) (Q : VK), A.guards = some [] → Room k (A.deeper (envOfC qual (defScope st) s.heap.objs.size f cdv)) → sp vs H Q E0 →
      ∃ t, PSs (cxOf CX0 P w K mg bs N qual (defScope st) f cdv A fr s H E0).nox (defBody st) t ∧ t { nx := fun _ H' => Q .non H', rt := Q } (start N vs) H) : FnG P w K mg bs (k + 1) f fd ps sp := by
  obtain ⟨oc, od, kV, doc, pm, an, cdv, ct, osl, rfl, lk, hcd⟩ := F.ex
  refine ⟨len, ?_⟩
  intro A fr s H ar us vs Q room gd env bound rel hyp
  have nvs := len _ _ _ _ hyp
  have kin : K.In s.heap := env.mod.kin.keeps (fun b o q => (env.bs b o q).1)
  have nl : s.heap.NoLimit := env.mod.nolimit.keeps (fun b o q => (env.bs b o q).1)
  have kinds : ∀ y ∈ ps.zip us, (defScope st).names.lookup y.1 = some .local ∨ ((defScope st).names.lookup y.1 = some .cell ∧
      ((cellsFrom (s.heap.objs.size + 1) (defScope st).names []).lookup y.1).isSome = true) := by
    rintro ⟨n, v⟩ hy
    have hp := S.par n (List.of_mem_zip hy).1
    cases hp with
    | inl q => exact Or.inl q
    | inr q => exact Or.inr ⟨q, PySem.W.cellsFrom_some _ _ _ (Or.inl q)⟩
  refine codeAny_call_function room.depth (kin _ _ lk) rfl S.co S.gen rfl (PySem.W.codeRec_of kin hcd) (bound _ _ _ _ ?_)
  refine wpAny_newFunctionEnv_cells S.kind kinds fun env1 he s1 x1 => ?_
  subst he
  refine ⟨nl.keeps x1.toInCall.keep, codeAny_func ?_⟩
  obtain ⟨t, ht, hq⟩ := body cdv A fr s H vs Q gd (room.deeper _) hyp
  have J := inv_start (CX := CX0) (E := E0) S room.hd env nvs rel x1
  refine wpAny_mono (ht.nox.run [] s1 (start N vs) H _ J hq) (fun fl s' hs => ?_) (fun _ _ z => z)
  cases fl with
  | ret u =>
    obtain ⟨v, σ', H', J2, rv, q⟩ := hs
    exact ⟨v, H', J2.os, J2.bare, J2.base, J2.hok, rv, q⟩
  | next =>
    obtain ⟨σ', H', J2, q⟩ := hs
    exact ⟨V.non, H', J2.os, J2.bare, J2.base, J2.hok, rfl, q⟩
  | brk =>
    obtain ⟨_, _, _, q⟩ := hs
    exact q.elim
  | cont =>
    obtain ⟨_, _, _, q⟩ := hs
    exact q.elim
end
section
variable {X : Cx} {k : Nat} {f : Addr} {fd : FuncData} {ps : List Str} {sp : Sp} {x : Str} {p pos : Pos} {e : Expr} {es : List Expr} {t : TA}
theorem goG {pins : List (Addr × Obj)} {σ : L2.St} {H : Hp} {s : Shared} {Q : VK} {us : List Value} {vs : List V} (F : FnG X.prog X.w X.K X.mg X.base k f fd ps sp) (hr : Room k X.A) (gd : X.A.guards = some []) (hb : Binds X.K fd ps [])
    (I : Inv X pins σ H s) (r : Vals vs us) (h : sp vs H Q E0) : wpAny (model X.prog X.w) X.A (call (.ref f) us) (EP X pins σ Q) X.xe s := by
  have n1 := F.many _ _ _ _ h
  have n2 : (us ++ []).length = ps.length := by rw [List.append_nil, ← r.length, n1]
  have b1 := hb s us I.kIn n2
  rw [List.append_nil] at b1
  refine wpAny_call (codeAny_mono (F.runs X.A X.stack s H ⟨us, []⟩ us vs Q hr gd I.env0 b1 r h) fun res s' hq => ?_)
  cases res with
  | error e => exact False.elim hq
  | ok fl =>
    cases fl with
    | ret u => exact I.after hq
    | next => exact False.elim hq
    | brk => exact False.elim hq
    | cont => exact False.elim hq
/-- f(e, ..) -/
theorem pe_callG (F : FnG X.prog X.w X.K X.mg X.base k f fd ps sp) (hr : Room k X.A) (gd : X.A.guards = some []) (hg : Gl X x) (hm : X.mg x = some (.ref f)) (kp : PySem.W.keepIn X.K (.ref f) = true) (hb : Binds X.K fd ps [])
    (ha : PA X (e :: es) t) (n0 : (x == ("__debug__" : Str)) = false := by decide) (n1 : starEach (e :: es) X.env = (false, eval e X.env) :: starEach es X.env := by rfl) (n2 : (backTo pos (starEach es X.env)).any (·.1) = false := by rfl) :
    PE X (.Call (.Name x p) (e :: es) [] pos) (fun σ H Q => t σ H fun vs H1 => sp vs H1 Q E0) := by
  constructor
  intro pins s σ H Q I h
  refine wpAny_Call_Name_kw (ld_glob I hg hm ?_ n0)
  refine PySem.W.callWith_K (h₀ := X.base) I.ok.mod.kin kp (thn (ha.run pos pins s σ H _ I h) ?_) n1 n2
  rintro us s1 ⟨vs, H1, I1, r, q⟩
  exact ⟨I1.kIn, goG F hr gd hb I1 r q⟩
end

/-! ### the end of a law's row, for a def that is run where no guard stands -/
section
variable {P : Program} {w : World} {K : PySem.W.Frag} {mg mb : Str → Option Value} {k : Nat}
theorem lawG {fa a : Addr} {fd : FuncData} {x : Str} {sp : Sp} {s1 : Shared} {vs : List Value} {ns : List Int}
    (kin : K.In s1.heap) (g0 : s1.heap.Ns mainGlobals mg) (g1 : s1.heap.Ns builtinsNs mb) (g2 : ∀ y : Str, y ≠ "__name__" → mb y = bootBuiltins y) (nl : s1.heap.NoLimit) (gens : s1.gens = #[])
    (obj : s1.heap.get? a = some { cls := .type "list", data := .seq vs.toArray }) (hin : IntsAre vs ns) (len : ns.length ≤ sizeLine) (room : Room k callerA)
    (F : ∀ bs : Heap, K.In bs → bs.Ns mainGlobals mg → FnG P w K mg bs k fa fd [x] sp) (bound : ∀ (s : Shared) (u : Value), BindsTo s fd ⟨[u], []⟩ [(x, u)])
    (hsp : ∀ H : Hp, SqL K H a (ns.map V.int) → sp [.ref a] H (fun v _ => v = .bl true) E0) :
    codeAny (model P w) callerA (.call (.ref fa) ⟨[.ref a], []⟩) (fun r s' => r = .ok (.ret (.bool true)) ∧ OldK s1.heap s'.heap ∧ s'.os = s1.os ∧ AllBare s'.gens) s1 := by
  have rv := vals_ints hin
  have nvs := hin.length
  -- over any abstract heap that tracks at most the script, frozen
  have main : ∀ H : Hp, (∀ b, H b = none ∨ ∃ o xs, H b = some (.frz o (.lst xs))) → SqL K H a (ns.map V.int) → HOk P w H s1.heap → (∀ b, H b ≠ none → b = a) → (H a ≠ none → K.lookup a = none) →
      codeAny (model P w) callerA (.call (.ref fa) ⟨[.ref a], []⟩) (fun r s' => r = .ok (.ret (.bool true)) ∧ OldK s1.heap s'.heap ∧ s'.os = s1.os ∧ AllBare s'.gens) s1 := by
    intro H only hS hok hA hK
    have hid : ∀ {b : Addr} {o : Obj}, s1.heap.get? b = some o → H b = none → (hidT s1.heap H).get? b = some o := fun q n => hidT_get q n
    have dicts : ∀ {b : Addr} {o : Obj} {es : Array DictEntry} {ep : Nat}, s1.heap.get? b = some o → o.data = .dict es ep → H b = none := by
      intro b o es ep q d
      cases z : H b with
      | none => rfl
      | some u =>
        have eb : b = a := hA b (by rw [z]; exact fun y => nomatch y)
        rw [eb, obj] at q
        cases q
        exact nomatch (show Data.seq vs.toArray _ = Data.dict es ep from d)
    have nss : ∀ {b : Addr} {m : Str → Option Value}, s1.heap.Ns b m → (hidT s1.heap H).Ns b m := by
      rintro b m ⟨o, es, ep, q, d, r⟩
      exact ⟨o, es, ep, hid q (dicts q d), d, r⟩
    have kinH : K.In (hidT s1.heap H) := by
      intro b o q
      refine hid (kin b o q) ?_
      cases z : H b with
      | none => rfl
      | some u =>
        have eb : b = a := hA b (by rw [z]; exact fun y => nomatch y)
        subst eb
        rw [hK (by rw [z]; exact fun y => nomatch y)] at q
        cases q
    have hM : Mod K mg (hidT s1.heap H) := by
      obtain ⟨mc, h1, h2⟩ := nl
      exact ⟨kinH, nss g0, ⟨mb, nss g1, g2⟩, ⟨mc, nss h1, h2⟩⟩
    have env : Env0 P w K mg (hidT s1.heap H) callerA [] s1 H :=
      ⟨rfl, hM, fun b o q => of_hidT q, Nat.le_of_eq (hidT_size _ _), trivial, fun b hb => (by simp [frs] at hb), hok, .of_eq gens⟩
    have fin := (F _ kinH (nss g0)).runs callerA [] s1 H ⟨[.ref a], []⟩ [.ref a] [.ref a] _ room rfl env (bound s1 (.ref a)) (.cons rfl .nil) (hsp H hS)
    refine codeAny_mono fin fun r s' h => ?_
    match r, h with
    | .ok (.ret u), h =>
      obtain ⟨v, H', os, bare, un, hok', r', q⟩ := h
      have q' : v = .bl true := q
      subst q'
      obtain rfl : u = Value.bool true := r'
      refine ⟨rfl, OldK.of_keep (fun b o e => ?_), os, bare⟩
      cases z : H b with
      | none => exact un.keep b o e z (by simp [frs]) (by simp)
      | some y =>
        rcases only b with z1 | ⟨ob, xs, z1⟩
        · rw [z] at z1
          cases z1
        · have e1 := (hok b _ z1).1
          have e2 := (hok' b _ (un.frzs b ob _ z1)).1
          rw [e] at e1
          cases e1
          exact e2
  cases hk : K.lookup a with
  | some o =>
    have e := kin a o hk
    rw [obj] at e
    cases e
    refine main (fun _ => none) (fun _ => Or.inl rfl) (Or.inr ⟨_, vs.toArray, _, hk, rfl, rfl, rfl, ?_, ?_⟩) (fun b u z => nomatch z) (fun b z => absurd rfl z) (fun z => absurd rfl z)
    · rw [List.size_toArray, nvs]
      exact len
    · simpa using rv
  | none =>
    refine main (fun b => if b = a then some (.frz { cls := .type "list", data := .seq vs.toArray } (.lst (ns.map V.int))) else none) ?_ ?_ ?_ ?_ (fun _ => hk)
    · intro b
      by_cases hb : b = a
      · exact Or.inr ⟨_, _, if_pos hb⟩
      · exact Or.inl (if_neg hb)
    · exact Or.inl (Or.inr ⟨{ cls := .type "list", data := .seq vs.toArray }, if_pos rfl⟩)
    · intro b u z
      by_cases hb : b = a
      · have z1 := (if_pos hb).symm.trans z
        cases z1
        rw [hb]
        exact ⟨obj, by rw [List.length_map]; exact len, vs, _, rv, obj⟩
      · have z1 := (if_neg hb).symm.trans z
        cases z1
    · intro b z
      by_cases hb : b = a
      · exact hb
      · exact absurd (if_neg hb) z
end
theorem walkG {l : PySem.W.OpenLaw} {n k : Nat} {q : Program} {loose : List Str} {XP : (Str → Option Value) → Heap → Prop} {YP : World → Heap → Prop} {d : DefRec} {K : Params → PySem.W.Frag} {sp : World → Sp} {x : Str}
    (hn : l.most = some n) (n2 : n ≤ sizeLine) (hdf : d.params.defaults = []) (room : Room k callerA) (hY : ∀ (w : World) (h : Heap), YP w h → (K w.params).In h)
    (F : ∀ (w : World) (mg : Str → Option Value) (fa : Addr) (h : Heap), (K w.params).In h → h.Ns mainGlobals mg → mg d.name = some (.ref fa) →
      ∃ fd : FuncData, (∀ (s : Shared) (u : Value), BindsTo s fd ⟨[u], []⟩ [(x, u)]) ∧ ∀ bs : Heap, (K w.params).In bs → bs.Ns mainGlobals mg → FnG l.prog w (K w.params) mg bs k fa fd [x] (sp w))
    (hsp : ∀ (w : World) (H : Hp) (a : Addr) (ns : List Int), ns.length ≤ n → SqL (K w.params) H a (ns.map V.int) → sp w [.ref a] H (fun v _ => v = .bl true) E0) :
    PySem.W.WalkO q loose XP YP l.row.toRowW d [] (fun f vs => PySem.call f vs) := by
  refine Att.attach_call hn hdf ?_
  intro w s0 s1 mg mb fa o pm cd doc a vs ns G Y ho hd hcd hmg hobj hints hlen hg
  obtain ⟨fd, hb, hF⟩ := F w mg fa _ (hY w _ Y) G.T.g hmg
  exact lawG (hY w _ Y) G.T.g G.T.b G.T.builtins G.T.nolimit hg hobj hints (Nat.le_trans hlen n2) room hF hb (fun H hS => hsp w H a ns hlen hS)

/-! ### repr of data -/
section
variable {X : Cx}
def rRepr (K : PySem.W.Frag) : List V → Hp → VK → Prop := fun vs H Q => ∃ v d, vs = [v] ∧ Dp K H v d ∧ d.showable = true ∧ d.hasDict = false ∧ d.depth ≤ 60 ∧ d.shown.length ≤ sizeLine ∧ Q (.str d.shown) H
theorem call_repr {k : Nat} (hr : Room k X.A) (gd : X.A.guards = some []) : CallR X (.builtin "repr") (rRepr X.K) := by
  intro pins s σ H xs us Q I r h
  obtain ⟨v, d, rfl, hd, hs, hn, hz, hl, q⟩ := h
  obtain ⟨u, rfl, ru⟩ := r.one
  obtain ⟨as, rd⟩ := Dp.reads I d v u hd ru
  have hu := hr.units
  have done : ∀ (tk : Tok) (t : Nat), EP X pins σ Q (.str d.shown tk) { s with toks := t } := fun tk t => ⟨.str d.shown, H, I.tok _, ⟨_, rfl⟩, q⟩
  cases hd with
  | non =>
    cases ru
    exact PySem.P.repr_of_none (done _ _)
  | bl b => cases b <;> (cases ru; exact PySem.P.repr_of_bool (done _ _))
  | int i =>
    obtain ⟨t, rfl⟩ := ru
    exact PySem.P.repr_of_int (by simpa [PyData.showable] using hs) (done _ _)
  | str z =>
    obtain ⟨t, rfl⟩ := ru
    exact PySem.P.repr_of_str (done _ _) hl
  | lst a b =>
    cases ru
    refine repr_of_reads' rd hs (PyData.noDict_hsm hn) gd (by omega) (fun _ _ e => e) (fun h' u tk hk => ?_) hl
    exact ⟨.str _, H, I.un (t' := tk) (Un.kept hk) (I.hok.kept hk), ⟨u, rfl⟩, q⟩
  | tup a b =>
    cases ru
    refine repr_of_reads' rd hs (PyData.noDict_hsm hn) gd (by omega) (fun _ _ e => e) (fun h' u tk hk => ?_) hl
    exact ⟨.str _, H, I.un (t' := tk) (Un.kept hk) (I.hok.kept hk), ⟨u, rfl⟩, q⟩
end

/-! ### further rules -/

theorem ext_tup (l : Addr) (xs : Array Value) (n : Nat) (b : Addr) (ys : Array Value) (m : Nat) (dd : Option Addr) (sl : Array (Option Value)) (c0 : ¬ (!xs.isEmpty && Builtin.List.listTooLong (xs.size + ys.size)) = true) (c1 : xs.size ≤ sizeLine)
    (c2 : xs.size + ys.size ≤ sizeLine + 1) :
    Meets (Builtin.«list.extend» ⟨[.ref l, .ref b], []⟩) (fun _ R s => s.heap.get? l = some { cls := .type "list", data := .seq xs n } ∧ s.heap.get? b = some { cls := .type "tuple", dict := dd, data := .seq ys m, slots := sl } ∧
      R (.ok (.ret Value.none)) { s with heap := s.heap.update l (Obj.mapSeq fun z => z ++ ys), toks := s.toks }) :=
  .of_wp fun prog w A R s h => by
    obtain ⟨hp, g, d, tk, os⟩ := s
    obtain ⟨hl, hb, h⟩ := h
    have i1 := AutoSeq1.idx_int
    have i2 := AutoSeq1.sub_tuple_tuple
    have i3 := AutoSeq1.sub_list_list
    have i4 := AutoSeq1.sub_tuple_list
    have i5 := AutoSeq1.sub_list_tuple
    have zz : (xs ++ ys).size ≤ sizeLine + 1 := by
      rw [Array.size_append]
      exact c2
    wp_walk using (wpAny_updateSeq hl rfl (hz := c1) (_hz' := zz)), wpAny_loadPart' hl, wpAny_loadPart' hb
    exact ⟨_, rfl, h⟩
section
variable {X : Cx}
/-- xs.extend(t), t a tuple -/
def rExtT (K : PySem.W.Frag) : V → List V → Hp → VK → Prop := fun x vs H Q => ∃ l b xs zs, x = .ref l ∧ vs = [.ref b] ∧ H l = some (.lst xs) ∧ SqT K H b zs ∧ xs.length + zs.length ≤ sizeLine ∧ Q .non (upd H l (.lst (xs ++ zs)))
theorem mt_extT : MtM X "list.extend" (rExtT X.K) := by
  intro pins s σ H x vs v us Q I rx rv h
  obtain ⟨l, b, xs, zs, rfl, rfl, hH, hB, hz, q⟩ := h
  cases rx
  obtain ⟨u, rfl, ru⟩ := rv.one
  cases ru
  obtain ⟨z, i1, n, r1, l1, e1⟩ := I.lstM hH
  obtain ⟨i2, r2, ⟨⟨cls, dd, data, sl⟩, e2, c2, n2, d2⟩, _⟩ := I.tuple hB
  simp only at c2 d2
  subst c2 d2
  have l2 := r2.length
  have sz : i1.toArray.size + i2.toArray.size ≤ sizeLine := by
    rw [List.size_toArray, List.size_toArray]
    omega
  have long : ¬ (!i1.toArray.isEmpty && Builtin.List.listTooLong (i1.toArray.size + i2.toArray.size)) = true := by
    rw [notLongL sz, Bool.and_false]
    exact Bool.false_ne_true
  refine call_meets F.slot_list_extend ⟨_, e1, rfl⟩ F.entry_list_extend (F.args_list_extend_2 _ _) (ext_tup l i1.toArray n b i2.toArray n2 dd sl long (by rw [List.size_toArray]; omega) (by omega)) ⟨e1, e2, ?_⟩
  refine ⟨.non, _, I.lset (its' := i1 ++ i2) hH e1 (by simp) (r1.append r2) ?_, rfl, q⟩
  rw [List.length_append]
  omega

/-- xs[i] as it is read by xs[i] op= e -/
def gL (K : PySem.W.Frag) : V → V → Hp → VK → Prop := fun x y H Q => ∃ l xs i v, x = .ref l ∧ y = .int i ∧ H l = some (.lst xs) ∧ 0 ≤ i ∧ xs[i.toNat]? = some v ∧ Q v H
theorem pg_list : PGet X (gL X.K) := by
  intro pins s σ H o i ov iv Q I ro ri h
  obtain ⟨l, xs, j, v, rfl, rfl, hH, h0, hv, q⟩ := h
  cases ro
  obtain ⟨t, rfl⟩ := ri
  obtain ⟨z, i1, n, r1, l1, e1⟩ := I.lstM hH
  obtain ⟨u, hu, ru⟩ := r1.get hv
  have lt := (List.getElem?_eq_some_iff.mp hv).1
  have b1 : (2 : Int) ^ 63 = 9223372036854775808 := by decide
  have b2 := sizeLine_eq
  exact wpAny_getItem_list ⟨_, e1, rfl, _, rfl⟩ h0 (by omega) (by simpa using hu) ⟨v, H, I, ru, q⟩

/-- i not in range(a, b) -/
theorem op_ni_rng : OpR X (compareOp .NotIn) (fun x y H Q => ∃ i a lo hi, x = V.int i ∧ y = V.ref a ∧ H a = some (.rng lo hi) ∧ Q (.bl (!decide (lo ≤ i ∧ i < hi))) H) := by
  intro pins s σ H x y v u Q I rx ry h
  obtain ⟨i, a, lo, hi, rfl, rfl, ha, q⟩ := h
  obtain ⟨k, rfl⟩ := rx
  cases (show u = Value.ref a from ry)
  obtain ⟨t1, t2, t3, ho⟩ := I.hok a _ ha
  have e1 : s.TypeIs (.ref a) "range" := ⟨_, ho, rfl⟩
  show wpAny _ _ (do return Value.bool (!(← contains (Value.ref a) (Value.int i k)))) _ _ s
  refine wpAny_bind (wpAny_contains_slot e1 F.slot_range_contains (call_meets F.slot_range_contains e1 F.entry_range_contains (F.args_range_contains_2 _ _) (q_contains a lo hi i t1 t2 t3 k) ⟨ho, wpAny_truthy_bool (wpAny_pure ?_)⟩))
  refine ⟨.bl _, H, I, rfl, ?_⟩
  rw [place1]
  exact q
/-- is not True, is not False, of an int or a bool -/
def rNotB2 : R2 := fun x y H Q => ∃ b : Bool, y = .bl b ∧ ((∃ i, x = .int i) ∨ ∃ a, x = .bl a) ∧ Q (.bl (!decide (x = y))) H
theorem op_notB2 : OpR X (compareOp .IsNot) rNotB2 := by
  intro pins s σ H x y v u Q I rx ry h
  obtain ⟨b, rfl, hx, q⟩ := h
  cases (show u = Value.bool b from ry)
  rcases hx with ⟨i, rfl⟩ | ⟨a, rfl⟩
  · obtain ⟨t, rfl⟩ := rx
    refine wpAny_isNot_other rfl (fun z => nomatch z) ⟨.bl true, H, I, rfl, ?_⟩
    simpa using q
  · cases (show v = Value.bool a from rx)
    by_cases e : a = b
    · subst e
      exact wpAny_isNot_self rfl ⟨.bl false, H, I, rfl, by simpa using q⟩
    · exact wpAny_isNot_other rfl (fun z => e (Value.bool.inj z)) ⟨.bl true, H, I, rfl, by simpa [e] using q⟩
end
end Fm
namespace Fm
open PySem PySem.Spec PyProof.Rows L2
theorem tupN_fill : fillsNumberSlot (.type "tuple") "mul" = pure false :=
  PySem.fillsNumberSlot_seq (id := "tuple.__mul__") (r := some (.builtin "tuple.__rmul__")) PySem.F.slot_tuple_mul.lookup (by decide +kernel)
    PySem.F.slot_tuple_rmul.lookup (by decide +kernel)
theorem tupN_rep : seqRepeat? (.type "tuple") = pure (some (.builtin "tuple.__mul__")) := by
  unfold seqRepeat?
  rw [PySem.seqSlot_of (T := "tuple") (name := "__mul__") (id := "tuple.__mul__") PySem.F.slot_tuple_mul.lookup (by decide +kernel)]
  rw [PySem.seqSlot_of (T := "tuple") (name := "__rmul__") (id := "tuple.__rmul__") PySem.F.slot_tuple_rmul.lookup (by decide +kernel)]
  rfl
theorem tupN_int (i : Int) (u : Tok) (b : Addr) (xs : Array Value) (n : Nat) (dd : Option Addr) (sl : Array (Option Value)) :
    Meets (Builtin.«int.__rmul__» ⟨[.int i u, .ref b], []⟩) (fun _ R s => s.heap.get? b = some { cls := .type "tuple", dict := dd, data := .seq xs n, slots := sl } ∧ R (.ok (.ret Value.notImplemented)) s) :=
  .of_wp fun prog w A R s h => by
    obtain ⟨hp, g, d, tk, os⟩ := s
    obtain ⟨hl, h⟩ := h
    wp_walk using wpAny_loadPart' hl
    exact ⟨_, rfl, h⟩
/-- t * 1 is t -/
theorem tupN_one (b : Addr) (xs : Array Value) (n : Nat) (dd : Option Addr) (sl : Array (Option Value)) (u : Tok) :
    Meets (Builtin.«tuple.__mul__» ⟨[.ref b, .int 1 u], []⟩) (fun _ R s => s.heap.get? b = some { cls := .type "tuple", dict := dd, data := .seq xs n, slots := sl } ∧ R (.ok (.ret (.ref b))) s) :=
  .of_wp fun prog w A R s h => by
    obtain ⟨hp, g, d, tk, os⟩ := s
    obtain ⟨hl, h⟩ := h
    have f1 := AutoSeq1.idx_int
    wp_walk using wpAny_loadPart' hl
    exact ⟨_, rfl, h⟩
/-- t * 0 is a new empty tuple -/
theorem tupN_zero (b : Addr) (xs : Array Value) (n : Nat) (dd : Option Addr) (sl : Array (Option Value)) (u : Tok) (hx : xs.isEmpty = false) :
    Meets (Builtin.«tuple.__mul__» ⟨[.ref b, .int 0 u], []⟩) (fun _ R s => s.heap.get? b = some { cls := .type "tuple", dict := dd, data := .seq xs n, slots := sl } ∧
      R (.ok (.ret (Value.ref s.heap.objs.size))) { s with heap := s.heap.push { cls := Value.type "tuple", data := Data.seq #[] }, toks := s.toks }) :=
  .of_wp fun prog w A R s h => by
    obtain ⟨hp, g, d, tk, os⟩ := s
    obtain ⟨hl, h⟩ := h
    have f1 := AutoSeq1.idx_int
    wp_walk using wpAny_loadPart' hl
    exact ⟨_, rfl, h⟩
section
variable {X : Cx}
/-- t * k, t one item, k 0 or 1 -/
def rRep1 (K : PySem.W.Frag) : R2 := fun x y H Q => ∃ l k v, x = .ref l ∧ y = .int k ∧ SqT K H l [v] ∧ (k = 0 ∨ k = 1) ∧ (k = 0 → ∀ p, H p = none → Q (.ref p) (upd H p (.tup []))) ∧ (k = 1 → Q (.ref l) H)
theorem op_rep1 : OpR X (binaryOp .Mult) (rRep1 X.K) := by
  intro pins s σ H x y v u Q I rx ry h
  obtain ⟨l, k, w1, rfl, rfl, hT, hk, q0, q1⟩ := h
  cases rx
  obtain ⟨t, rfl⟩ := ry
  obtain ⟨its, r, ⟨⟨cls, dd, data, sl⟩, ho, hc, n, hd⟩, hs⟩ := I.tuple hT
  simp only at hc hd
  subst hc hd
  have ne : its.toArray.isEmpty = false := by
    cases r with
    | cons r1 r2 => rfl
  have ty : s.TypeIs (.ref l) "tuple" := ⟨_, ho, rfl⟩
  rcases hk with rfl | rfl
  · refine wpAny_binaryOp_repeat_ref (T := "tuple") (U := "int") (by decide) ty (fun s' => typeIs_int s' 0 t) tupN_fill F.fills_int_mul F.slot_int_rmul tupN_rep F.slot_int_index.lookup
      (call_meets F.slot_int_rmul (typeIs_int s 0 t) F.entry_int_rmul (F.args_int_rmul_2 _ _) (tupN_int 0 t l its.toArray n dd sl) ⟨ho, rfl, ty, ?_⟩)
    refine call_meets F.slot_tuple_mul ty F.entry_tuple_mul (F.args_tuple_mul_2 _ _) (tupN_zero l its.toArray n dd sl t ne) ⟨ho, ?_⟩
    refine ⟨.ref s.heap.objs.size, _, I.laid (t' := s.toks) (o := .tup []) (fun b ob q => Heap.get?_push_of_some _ q) (Nat.le_refl _) ?_, rfl, q0 rfl _ (I.hok.fresh (Nat.le_refl _))⟩
    exact ⟨Nat.zero_le _, [], .nil, IsTup.new _ _⟩
  · refine wpAny_binaryOp_repeat_ref (T := "tuple") (U := "int") (by decide) ty (fun s' => typeIs_int s' 1 t) tupN_fill F.fills_int_mul F.slot_int_rmul tupN_rep F.slot_int_index.lookup
      (call_meets F.slot_int_rmul (typeIs_int s 1 t) F.entry_int_rmul (F.args_int_rmul_2 _ _) (tupN_int 1 t l its.toArray n dd sl) ⟨ho, rfl, ty, ?_⟩)
    exact call_meets F.slot_tuple_mul ty F.entry_tuple_mul (F.args_tuple_mul_2 _ _) (tupN_one l its.toArray n dd sl t) ⟨ho, ⟨.ref l, H, I, rfl, q1 rfl⟩⟩
end
end Fm
set_option maxRecDepth 100000
set_option maxHeartbeats 2000000
/-! Fm: values that a law makes, as trees over the abstract heap. -/
namespace Fm
open PySem PySem.Spec PyProof.Rows L2

inductive D where
  | non | bl (b : Bool) | int (i : Int) | str (x : Str) | tup (xs : List D) | lst (xs : List D) | dic
mutual
inductive Dv (H : Hp) : V → D → Prop
  | non : Dv H .non .non
  | bl (b : Bool) : Dv H (.bl b) (.bl b)
  | int (i : Int) : Dv H (.int i) (.int i)
  | str (x : Str) : PyData.strOk x = true → Dv H (.str x) (.str x)
  | tup {a : Addr} {xs : List V} {ds : List D} : H a = some (.tup xs) → DvL H xs ds → Dv H (.ref a) (.tup ds)
  | lst {a : Addr} {xs : List V} {ds : List D} : H a = some (.lst xs) → DvL H xs ds → Dv H (.ref a) (.lst ds)
  | dic {a : Addr} : H a = some (.dK []) → Dv H (.ref a) .dic
inductive DvL (H : Hp) : List V → List D → Prop
  | nil : DvL H [] []
  | cons {v : V} {vs : List V} {d : D} {ds : List D} : Dv H v d → DvL H vs ds → DvL H (v :: vs) (d :: ds)
end
mutual
theorem Dv.same {H H' : Hp} (k : Same H H') : ∀ (d : D) (v : V), Dv H v d → Dv H' v d
  | .non, _, h => by cases h; exact .non
  | .bl _, _, h => by cases h; exact .bl _
  | .int _, _, h => by cases h; exact .int _
  | .str _, _, h => by
    cases h with
    | str _ o => exact .str _ o
  | .tup ds, _, h => by
    cases h with
    | tup a b => exact .tup (k _ _ a) (DvL.same k ds _ b)
  | .lst ds, _, h => by
    cases h with
    | lst a b => exact .lst (k _ _ a) (DvL.same k ds _ b)
  | .dic, _, h => by
    cases h with
    | dic a => exact .dic (k _ _ a)
theorem DvL.same {H H' : Hp} (k : Same H H') : ∀ (ds : List D) (vs : List V), DvL H vs ds → DvL H' vs ds
  | [], _, h => by cases h; exact .nil
  | d :: ds, _, h => by
    cases h with
    | cons a b => exact .cons (Dv.same k d _ a) (DvL.same k ds _ b)
end
theorem DvL.len {H : Hp} : ∀ {vs : List V} {ds : List D}, DvL H vs ds → vs.length = ds.length
  | _, _, .nil => rfl
  | _, _, .cons _ h => congrArg (· + 1) (DvL.len h)
theorem DvL.app {H : Hp} : ∀ {vs : List V} {ds : List D} {us : List V} {es : List D}, DvL H vs ds → DvL H us es → DvL H (vs ++ us) (ds ++ es)
  | _, _, _, _, .nil, h => h
  | _, _, _, _, .cons a b, h => .cons a (DvL.app b h)
theorem DvL.get {H : Hp} : ∀ {vs : List V} {ds : List D} {i : Nat} {v : V}, DvL H vs ds → vs[i]? = some v → ∃ d, ds[i]? = some d ∧ Dv H v d
  | _, _, _, _, .nil, e => by simp at e
  | _, _, 0, _, .cons a b, e => by simp at e; subst e; exact ⟨_, rfl, a⟩
  | _, _, i + 1, _, .cons a b, e => by
    obtain ⟨d, h1, h2⟩ := DvL.get (i := i) b (by simpa using e)
    exact ⟨d, by simpa using h1, h2⟩
theorem DvL.getD {H : Hp} : ∀ {vs : List V} {ds : List D} {i : Nat} {d : D}, DvL H vs ds → ds[i]? = some d → ∃ v, vs[i]? = some v ∧ Dv H v d
  | _, _, _, _, .nil, e => by simp at e
  | _, _, 0, _, .cons a b, e => by simp at e; subst e; exact ⟨_, rfl, a⟩
  | _, _, i + 1, _, .cons a b, e => by
    obtain ⟨d, h1, h2⟩ := DvL.getD (i := i) b (by simpa using e)
    exact ⟨d, by simpa using h1, h2⟩
theorem DvL.drop {H : Hp} : ∀ {vs : List V} {ds : List D} (n : Nat), DvL H vs ds → DvL H (vs.drop n) (ds.drop n)
  | _, _, 0, h => h
  | _, _, _ + 1, .nil => .nil
  | _, _, n + 1, .cons _ h => DvL.drop n h
theorem DvL.take {H : Hp} : ∀ {vs : List V} {ds : List D} (n : Nat), DvL H vs ds → DvL H (vs.take n) (ds.take n)
  | _, _, 0, _ => .nil
  | _, _, _ + 1, .nil => .nil
  | _, _, n + 1, .cons a h => .cons a (DvL.take n h)
theorem DvL.set {H : Hp} {v : V} {d : D} (a : Dv H v d) : ∀ {vs : List V} {ds : List D} (n : Nat), DvL H vs ds → DvL H (vs.set n v) (ds.set n d)
  | _, _, _, .nil => .nil
  | _, _, 0, .cons _ h => .cons a h
  | _, _, n + 1, .cons b h => .cons b (DvL.set a n h)

/-! ### sizes, depths -/
mutual
def D.size : D → Nat
  | .str x => x.length + 1
  | .tup ds => sizes ds + 1
  | .lst ds => sizes ds + 1
  | _ => 1
def sizes : List D → Nat
  | [] => 0
  | d :: ds => d.size + sizes ds
end
mutual
def D.deep : D → Nat
  | .tup ds => deeps ds + 1
  | .lst ds => deeps ds + 1
  | _ => 0
def deeps : List D → Nat
  | [] => 0
  | d :: ds => max d.deep (deeps ds)
end
theorem sizes_app (a b : List D) : sizes (a ++ b) = sizes a + sizes b := by
  induction a with
  | nil => simp [sizes]
  | cons x r ih => simp only [List.cons_append, sizes, ih]; omega
theorem size_pos (d : D) : 1 ≤ d.size := by cases d <;> simp [D.size]
theorem len_sizes (ds : List D) : ds.length ≤ sizes ds := by
  induction ds with
  | nil => simp [sizes]
  | cons x r ih => have := size_pos x; simp only [List.length_cons, sizes]; omega
theorem sizes_drop (ds : List D) (n : Nat) : sizes (ds.drop n) ≤ sizes ds := by
  induction ds generalizing n with
  | nil => simp
  | cons x r ih =>
    cases n with
    | zero => simp
    | succ n => have := ih n; simp only [List.drop_succ_cons, sizes]; omega
theorem size_mem {d : D} {ds : List D} (h : d ∈ ds) : d.size ≤ sizes ds := by
  induction ds with
  | nil => cases h
  | cons x r ih =>
    simp only [sizes]
    rcases List.mem_cons.mp h with rfl | h
    · omega
    · have := ih h; omega
theorem deep_mem {d : D} {ds : List D} (h : d ∈ ds) : d.deep ≤ deeps ds := by
  induction ds with
  | nil => cases h
  | cons x r ih =>
    simp only [deeps]
    rcases List.mem_cons.mp h with rfl | h
    · omega
    · have := ih h; omega

/-! ### kinds -/
def tyN : D → String
  | .non => "NoneType" | .bl _ => "bool" | .int _ => "int" | .str _ => "str" | .tup _ => "tuple" | .lst _ => "list" | .dic => "dict"
theorem Dv.ty {K : PySem.W.Frag} {H : Hp} {v : V} {d : D} (h : Dv H v d) : TyX K H v (.type (tyN d)) := by
  cases h with
  | non => exact .base .non
  | bl b => exact .base (.bl b)
  | int i => exact .base (.int i)
  | str x _ => exact .base (.str x)
  | tup a _ => exact .base (.tup a)
  | lst a _ => exact .base (.lst a)
  | dic a => exact .base (.dK a)
def isI : D → Bool
  | .int _ => true | .bl _ => true | _ => false
def isB : D → Bool
  | .bl _ => true | _ => false
def isS : D → Bool
  | .str _ => true | _ => false
def isT : D → Bool
  | .tup _ => true | _ => false
def isL : D → Bool
  | .lst _ => true | _ => false
section
variable {K : PySem.W.Frag} (d : D)
theorem kit_I : PySem.W.kitOne K (.type (tyN d)) (.type "int") = some (isI d) := by cases d <;> exact kit_ty (by simp only [tyN, isI]; decide +kernel)
theorem kit_B : PySem.W.kitOne K (.type (tyN d)) (.type "bool") = some (isB d) := by cases d <;> exact kit_ty (by simp only [tyN, isB]; decide +kernel)
theorem kit_S : PySem.W.kitOne K (.type (tyN d)) (.type "str") = some (isS d) := by cases d <;> exact kit_ty (by simp only [tyN, isS]; decide +kernel)
theorem kit_T : PySem.W.kitOne K (.type (tyN d)) (.type "tuple") = some (isT d) := by cases d <;> exact kit_ty (by simp only [tyN, isT]; decide +kernel)
theorem kit_L : PySem.W.kitOne K (.type (tyN d)) (.type "list") = some (isL d) := by cases d <;> exact kit_ty (by simp only [tyN, isL]; decide +kernel)
end
/-- isinstance(x, T) of data, told -/
theorem isi_I {K : PySem.W.Frag} {H : Hp} {v : V} {d : D} {Q : VK} (h : Dv H v d) (q : Q (.bl (isI d)) H) : rIsi K [v, .ty "int"] H Q := ⟨_, _, _, _, _, rfl, .ty _, h.ty, kit_I d, q⟩
theorem isi_B {K : PySem.W.Frag} {H : Hp} {v : V} {d : D} {Q : VK} (h : Dv H v d) (q : Q (.bl (isB d)) H) : rIsi K [v, .ty "bool"] H Q := ⟨_, _, _, _, _, rfl, .ty _, h.ty, kit_B d, q⟩
theorem isi_S {K : PySem.W.Frag} {H : Hp} {v : V} {d : D} {Q : VK} (h : Dv H v d) (q : Q (.bl (isS d)) H) : rIsi K [v, .ty "str"] H Q := ⟨_, _, _, _, _, rfl, .ty _, h.ty, kit_S d, q⟩
theorem isi_T {K : PySem.W.Frag} {H : Hp} {v : V} {d : D} {Q : VK} (h : Dv H v d) (q : Q (.bl (isT d)) H) : rIsi K [v, .ty "tuple"] H Q := ⟨_, _, _, _, _, rfl, .ty _, h.ty, kit_T d, q⟩

/-! ### names, outcomes, terms -/
def letters : Str := "abcdefghijklmnopqrstuvwxyz"
def signOk (x : Str) : Bool := !(Builtin.Str.occurrences letters x 0 letters.length 1).isEmpty
def signs (s : Str) : List Str := s.cps.toList.map fun c => ⟨#[c]⟩
def isNameS (s : Str) : Bool := decide (1 ≤ s.length) && decide (s.length ≤ 8) && (signs s).all signOk
def isName : D → Bool
  | .str s => isNameS s
  | _ => false
def isWhole : D → Bool
  | .int _ => true | _ => false
def cutLast (s : Str) : Str := cutS s none (some (-1))
def isOutS (s : Str) : Bool := isNameS s || (Txt.endswith s "-" && isNameS (cutLast s))
def isOut : D → Bool
  | .str s => isOutS s
  | _ => false
mutual
def isTerm : D → Bool
  | .int i => decide (0 ≤ i)
  | .tup ds => isTermT ds
  | _ => false
def isTermT : List D → Bool
  | [] => false
  | x :: r => decide (r.length ≤ 3) && isName x && areTerms r
def areTerms : List D → Bool
  | [] => true
  | d :: ds => isTerm d && areTerms ds
end
theorem areTerms_app (a b : List D) : areTerms (a ++ b) = (areTerms a && areTerms b) := by
  induction a with
  | nil => simp [areTerms]
  | cons x r ih => simp only [List.cons_append, areTerms, ih, Bool.and_assoc]
theorem areTerms_all (a : List D) : areTerms a = a.all isTerm := by
  induction a with
  | nil => rfl
  | cons x r ih => simp only [areTerms, List.all_cons, ih]
end Fm
set_option maxRecDepth 100000
set_option maxHeartbeats 2000000
/-! Fm: rules in other readings. -/
namespace Fm
open PySem PySem.Spec PyProof.Rows L2
section
variable {X : Cx} {e c : Expr} {t t' te : TE} {p pos : Pos}
theorem peI (h : PE X e t) (k : ∀ σ H Q, t' σ H Q → t σ H Q) : PE X e t' := ⟨fun pins s σ H Q I q => h.run pins s σ H Q I (k σ H Q q)⟩
/-- isinstance(x, T) of data -/
def tIs (f : D → Bool) (te : TE) : TE := fun σ H Q => te σ H fun v H1 => ∃ d, Dv H1 v d ∧ Q (.bl (f d)) H1
/-- how a reading of an expression grows with what is wanted: asked where it is re-read -/
def MonE (te : TE) : Prop := ∀ σ H (Q Q' : VK), (∀ v H1, Q v H1 → Q' v H1) → te σ H Q → te σ H Q'
theorem mon_var {i : Nat} : MonE (tVar i) := fun _ _ _ _ k ⟨v, a, b⟩ => ⟨v, a, k _ _ b⟩
theorem pe_isD {n : String} {f : D → Bool} (hk : ∀ K d, PySem.W.kitOne K (.type (tyN d)) (.type n) = some (f d)) (hm : X.mg "isinstance" = none) (he : PE X e te) (hc : PE X c (tC (.ty n))) (mo : MonE te)
    (hg : Gl X "isinstance" := by rfl) (h1 : starEach [e, c] X.env = (false, eval e X.env) :: starEach [c] X.env := by rfl) (h2 : starEach [c] X.env = (false, eval c X.env) :: starEach [] X.env := by rfl)
    (h3 : (backTo pos (starEach [c] X.env)).any (·.1) = false := by rfl) : PE X (.Call (.Name "isinstance" p) [e, c] [] pos) (tIs f te) := by
  refine peI (pe_callB call_isi hg hm (by decide +kernel) (pa_cons he (pa_cons hc pa_nil h2) h1) (he := h1) (hpl := h3)) ?_
  intro σ H Q h
  refine mo σ H _ _ ?_ h
  rintro v H1 ⟨d, hd, q⟩
  exact ⟨v, .ty n, _, _, f d, rfl, .ty n, hd.ty, hk _ d, q⟩
def isTL : D → Bool
  | .tup _ => true | .lst _ => true | _ => false
/-- isinstance(x, (tuple, list)) -/
def tIs2 (te : TE) : TE := fun σ H Q => te σ H fun v H1 => ∃ d, Dv H1 v d ∧ ∀ p, H1 p = none → Q (.bl (isTL d)) (upd H1 p (.tup [.ty "tuple", .ty "list"]))
theorem pe_isD2 {a b : Expr} {k2} {pt : Pos} (hm : X.mg "isinstance" = none) (he : PE X e te) (ha : PE X a (tC (.ty "tuple"))) (hb : PE X b (tC (.ty "list"))) (mo : MonE te)
    (hg : Gl X "isinstance" := by rfl) (h1 : starEach [e, .Tuple [a, b] k2 pt] X.env = (false, eval e X.env) :: starEach [.Tuple [a, b] k2 pt] X.env := by rfl)
    (h2 : starEach [.Tuple [a, b] k2 pt] X.env = (false, eval (.Tuple [a, b] k2 pt) X.env) :: starEach [] X.env := by rfl) (h3 : (backTo pos (starEach [.Tuple [a, b] k2 pt] X.env)).any (·.1) = false := by rfl)
    (h4 : starEach [a, b] X.env = (false, eval a X.env) :: starEach [b] X.env := by rfl) (h5 : starEach [b] X.env = (false, eval b X.env) :: starEach [] X.env := by rfl) :
    PE X (.Call (.Name "isinstance" p) [e, .Tuple [a, b] k2 pt] [] pos) (tIs2 te) := by
  refine peI (pe_callB call_isiT hg hm (by decide +kernel) (pa_cons he (pa_cons (pe_tup (pa_cons ha (pa_cons hb pa_nil h5) h4)) pa_nil h2) h1) (he := h1) (hpl := h3)) ?_
  intro σ H Q h
  refine mo σ H _ _ ?_ h
  rintro v H1 ⟨d, hd, q⟩
  refine ⟨by decide, fun p hp => ?_⟩
  have hd' : Dv (upd H1 p (.tup [.ty "tuple", .ty "list"])) v d := hd.same (fun a o q => by rw [upd_ne (ne_of_none q hp)]; exact q) _ _
  refine ⟨v, p, _, _, [.type "tuple", .type "list"], isTL d, rfl, upd_same, .cons (.ty _) (.cons (.ty _) .nil), hd'.ty, ?_, q p hp⟩
  refine kitAny_cons (kit_T d) (fun z => kitAny_cons (kit_L d) (fun y => ?_) (fun y => ?_)) (fun z => ?_)
  · have : isTL d = false := by cases d <;> simp_all [isT, isL, isTL]
    rw [this]
    exact kitAny_nil
  · cases d <;> simp_all [isT, isL, isTL]
  · cases d <;> simp_all [isT, isTL]
end
end Fm
namespace Fm
open PySem PySem.Spec PyProof.Rows L2
theorem Same.new {H : Hp} {p : Addr} {o : HO} (h : H p = none) : Same H (upd H p o) := fun a u e => by
  rw [upd_ne (ne_of_none e h)]
  exact e
theorem Same.upd {H H' : Hp} {p : Addr} {o : HO} (k : Same H H') (h : H p = none) : Same H (upd H' p o) := fun a u e => by
  rw [upd_ne (ne_of_none e h)]
  exact k a u e
theorem sz {n : Nat} (h : n ≤ 10000000) : n ≤ sizeLine := Nat.le_trans h (by decide)
theorem szl {n : Nat} (h : n ≤ 10000000) : n < sizeLine := Nat.lt_of_le_of_lt h (by decide)
theorem signs_len (s : Str) : (signs s).length = s.length := by
  unfold signs Str.length
  simp
theorem signs_get {s : Str} {i c : Nat} (h : s.cps[i]? = some c) : (signs s)[i]? = some ⟨#[c]⟩ := by
  unfold signs
  rw [List.getElem?_map]
  have : s.cps.toList[i]? = some c := by simpa using h
  rw [this]
  rfl
theorem take_succ' {α : Type} {l : List α} {i : Nat} {x : α} (h : l[i]? = some x) : l.take (i + 1) = l.take i ++ [x] := by
  rw [List.take_add_one, h]
  rfl
/-- [f(c) for c in s], f read off each sign by its text -/
theorem lc_signs {K : PySem.W.Frag} {te : TE} {tt : TT} {σ : L2.St} {H : Hp} {s : Str} {j : Nat} {vs : List Nat} {Dl : Addr} {Qd : Hp → Prop} (f : Str → V) (keep : Str → Bool) (hD : H Dl = none) (hz : s.length ≤ 100000)
    (hw : ∀ x, wipe ((wipe σ vs).set j (some x)) vs = wipe σ vs)
    (he : ∀ (x : Str) (H' : Hp) (R : Bool → Hp → Prop), Same H H' → R (keep x) H' → tt ((wipe σ vs).set j (some (.str x))) H' R)
    (hv : ∀ (x : Str) (H' : Hp) (R : VK), Same H H' → keep x = true → R (f x) H' → te ((wipe σ vs).set j (some (.str x))) H' R)
    (q : ∀ H', Same H H' → H' Dl = some (.lst (((signs s).filter keep).map f)) → Qd H') :
    ∃ W : Nat → Nat → Hp → Prop, (∃ m, W 0 m (upd H Dl (.lst []))) ∧ ∀ i m H, W i m H → ((Its s).stop i H ∧ Qd H) ∨ ((Its s).go i H ∧ ∃ Nx : Hp → Prop, (∀ H', Nx H' → ∃ m', m' < m ∧ W (i + 1) m' H') ∧
      ∀ x H', (Its s).yld i H x H' → gName j x (wipe σ vs) H' fun σ2 H2 => wipe σ2 vs = wipe σ vs ∧ tt σ2 H2 fun b H3 => if b = true then te σ2 H3 fun y H4 => ∃ acc, H4 Dl = some (.lst acc) ∧ acc.length < sizeLine ∧ Nx (upd H4 Dl (.lst (acc ++ [y]))) else Nx H3) := by
  refine lc_it (walk_str (z := s)) (fun i H' => Same H H' ∧ H' Dl = some (.lst ((((signs s).take i).filter keep).map f))) ⟨Same.new hD, upd_same⟩ (fun _ _ _ _ => trivial) ?_ ?_
  · rintro i x H1 H2 hi ⟨k, hl⟩ ⟨rfl, c, hc, rfl⟩
    refine ⟨hw _, he _ _ _ k ?_⟩
    have e1 := take_succ' (signs_get hc)
    by_cases hk : keep ⟨#[c]⟩ = true
    · rw [hk]
      refine iteT (hv _ _ _ k hk ⟨_, hl, ?_, Same.upd k hD, ?_⟩)
      · rw [List.length_map]
        refine szl (Nat.le_trans (List.length_filter_le _ _) ?_)
        rw [List.length_take, signs_len]
        omega
      · rw [e1, List.filter_append, List.map_append, List.filter_cons, if_pos hk]
        exact upd_same
    · have hf : keep ⟨#[c]⟩ = false := by simpa using hk
      rw [hf]
      refine iteF ⟨k, ?_⟩
      rw [e1, List.filter_append, List.map_append, List.filter_cons, if_neg (by rw [hf]; decide)]
      simpa using hl
  · rintro H' ⟨k, hl⟩
    refine q H' k ?_
    have : (signs s).take s.cps.size = signs s := List.take_of_length_le (by rw [signs_len]; exact Nat.le_refl _)
    rw [this] at hl
    exact hl
end Fm
namespace Fm
open PySem PySem.Spec PyProof.Rows L2
theorem ite_b {c : Bool} {A B : Prop} (h1 : c = true → A) (h0 : c = false → B) : if c = true then A else B := by
  cases c with
  | true => exact iteT (h1 rfl)
  | false => exact iteF (h0 rfl)
theorem cutV_one (us : List V) (h : 1 ≤ us.length) : cutV us (some 1) none = us.drop 1 ∧ ¬ (HT.sIx us.length 0 (some 1) = 0 ∧ HT.sIx us.length us.length none = us.length) := by
  have e : HT.sIx us.length 0 (some 1) = 1 := by
    have := HT.sIx_nat us.length 0 1
    have z : ((1 : Nat) : Int) = 1 := rfl
    rw [z] at this
    rw [this]
    omega
  constructor
  · unfold cutV
    rw [e]
    exact List.take_of_length_le (by rw [List.length_drop]; exact Nat.le_refl _)
  · rintro ⟨a, _⟩
    rw [e] at a
    cases a
theorem last_split {vs : List V} {ds : List D} {H : Hp} (h : DvL H vs ds) (ne : vs ≠ []) : ∃ y d es, vs[vs.length - 1]? = some y ∧ ds = es ++ [d] ∧ DvL H vs.dropLast es ∧ Dv H y d := by
  have n1 : ds ≠ [] := by
    intro e
    have := h.len
    rw [e] at this
    exact ne (List.length_eq_zero_iff.mp this)
  have l := h.len
  have pos : 0 < vs.length := List.length_pos_iff.mpr ne
  have e0 : ds[vs.length - 1]? = some (ds.getLast n1) := by
    rw [List.getLast_eq_getElem, l]
    exact List.getElem?_eq_getElem (by omega)
  obtain ⟨y, hy, hd⟩ := h.getD e0
  refine ⟨y, ds.getLast n1, ds.dropLast, hy, (List.dropLast_concat_getLast n1).symm, ?_, hd⟩
  have t := h.take (vs.length - 1)
  rw [List.dropLast_eq_take, List.dropLast_eq_take, ← l]
  exact t
end Fm
namespace Fm
open PySem PySem.Spec PyProof.Rows L2
theorem filt {α : Type} (l : List α) : l.filter (fun _ => true) = l := List.filter_eq_self.mpr fun _ _ => rfl
theorem len_last {x : Str} : (cutLast x).length ≤ x.length := by
  unfold cutLast cutS Str.length
  simp
  omega
end Fm
namespace Fm
open PySem PySem.Spec PyProof.Rows L2
theorem deeps_app (a b : List D) : deeps (a ++ b) = max (deeps a) (deeps b) := by
  induction a with
  | nil => simp [deeps]
  | cons x r ih => simp only [List.cons_append, deeps, ih]; omega
end Fm
namespace Fm
open PySem PySem.Spec PyProof.Rows L2
theorem dp_strs {K : PySem.W.Frag} {H : Hp} {p : Addr} {xs : List Str} (h : SqL K H p (xs.map V.str)) : Dp K H (.ref p) (.list (xs.map PyData.str)) := by
  refine .lst h ?_
  clear h
  induction xs with
  | nil => exact .nil
  | cons x r ih => exact .cons (.str x) ih
theorem lay_strs {xs : List Str} (h : ∀ x ∈ xs, PyData.strOk x = true) : PyData.canLayAll0 (xs.map PyData.str) = true := by
  induction xs with
  | nil => simp [PyData.canLayAll0]
  | cons x r ih =>
    have h1 := h x List.mem_cons_self
    have h2 := ih fun y hy => h y (List.mem_cons_of_mem _ hy)
    simp [PyData.canLayAll0, PyData.canLay0, h1, h2]
theorem deep_strs (xs : List Str) : PyData.depthAll (xs.map PyData.str) ≤ 1 := by
  induction xs with
  | nil => simp [PyData.depthAll]
  | cons x r ih => simp [PyData.depthAll, PyData.depth]; omega
theorem shaped_strs {xs : List Str} (h : ∀ x ∈ xs, PyData.strOk x = true) : SeqAt.shaped (.list (xs.map PyData.str)) = true := by
  unfold SeqAt.shaped
  have h1 := lay_strs h
  have h2 := deep_strs xs
  simp [PyData.canLay0, PyData.depth, h1]
  omega
theorem ok_signs {x y : Str} (h : PyData.strOk x = true) (hy : y ∈ signs x) : PyData.strOk y = true := by
  unfold signs at hy
  obtain ⟨c, hc, rfl⟩ := List.mem_map.mp hy
  unfold PyData.strOk at h ⊢
  have := (Array.all_eq_true_iff_forall_mem.mp h) c (by simpa using hc)
  simpa using this
theorem ok_part {x y : Str} (h : PyData.strOk x = true) (hy : ∀ c ∈ y.cps.toList, c ∈ x.cps.toList) : PyData.strOk y = true := by
  unfold PyData.strOk at h ⊢
  refine Array.all_eq_true_iff_forall_mem.mpr fun c hc => ?_
  exact (Array.all_eq_true_iff_forall_mem.mp h) c (by simpa using hy c (by simpa using hc))
theorem ok_cut {x : Str} {lo hi : Option Int} (h : PyData.strOk x = true) : PyData.strOk (cutS x lo hi) = true := by
  refine ok_part h fun c hc => ?_
  unfold cutS at hc
  simp only [List.toList_toArray] at hc
  exact List.mem_of_mem_drop (List.mem_of_mem_take hc)
theorem eqv_nil (xs : List PyData) : PyData.eqv (.list xs) (.list []) = xs.isEmpty := by
  cases xs <;> simp [PyData.eqv, PyData.eqvAll]
end Fm
namespace Fm
open PySem PySem.Spec PyProof.Rows L2
theorem last_sign {x : Str} (h : 1 ≤ x.length) : ∃ c, x.cps.toList[x.length - 1]? = some c ∧ Txt.endswith x "-" = decide (V.str ⟨#[c]⟩ = V.str "-") := by
  have l : x.cps.toList.length = x.length := by simp [Str.length]
  have lt : x.length - 1 < x.cps.size := by
    have : x.cps.size = x.length := rfl
    omega
  refine ⟨x.cps[x.length - 1], by rw [List.getElem?_eq_getElem (by omega)]; simp, ?_⟩
  unfold Txt.endswith Builtin.Str.subAt
  have e1 : (("-" : String) : Str).length = 1 := rfl
  have e2 : x.cps.extract (x.length - 1) (x.length - 1 + 1) = #[x.cps[x.length - 1]] := by
    apply Array.ext
    · simp [Array.size_extract]
      have : x.cps.size = x.length := rfl
      omega
    · intro i h1 h2
      simp only [List.size_toArray, List.length_cons, List.length_nil] at h2
      have i0 : i = 0 := by omega
      subst i0
      simp [Array.getElem_extract]
  rw [e1, e2]
  have e3 : decide (0 + 1 ≤ x.length) = true := decide_eq_true (by omega)
  rw [e3, Bool.true_and]
  rw [Bool.eq_iff_iff, beq_iff_eq, decide_eq_true_iff]
  constructor
  · intro q
    rw [q]
  · intro q
    injection q with q
    exact congrArg Str.cps q
end Fm
namespace Fm
open PySem PySem.Spec PyProof.Rows L2
theorem cutLast_len (x : Str) : (cutLast x).length = x.length - 1 := by
  unfold cutLast cutS
  have e1 : HT.sIx x.length 0 none = 0 := rfl
  have e2 : HT.sIx x.length x.length (some (-1)) = x.length - 1 := by
    show (if (-1 : Int) < 0 then ((-1 : Int) + (x.length : Int)).toNat else min (-1 : Int).toNat x.length) = _
    rw [if_pos (by decide)]
    omega
  rw [e1, e2]
  have l : x.cps.toList.length = x.length := by simp [Str.length]
  show (List.toArray _).size = _
  rw [List.size_toArray, List.length_take, List.length_drop]
  omega
end Fm
namespace Fm
open PySem PySem.Spec PyProof.Rows L2
theorem in_1234 (n : Nat) : inV (.int (n : Int)) [.int 1, .int 2, .int 3, .int 4] = decide (1 ≤ n ∧ n ≤ 4) := by
  rw [Bool.eq_iff_iff]
  simp only [inV, List.any_cons, List.any_nil, eqV, Bool.or_false, Bool.or_eq_true, beq_iff_eq, decide_eq_true_iff]
  omega
theorem tk {α : Type} {l : List α} {i : Nat} {x : α} (h : l[i]? = some x) : x ∈ l := List.mem_of_getElem? h
/-- [f(x) for x in xs] over a tuple of data, f a def that leaves what stood -/
theorem lc_tupD {K : PySem.W.Frag} {te : TE} {tt : TT} {σ : L2.St} {H : Hp} {a : Addr} {xs : List V} {ds : List D} {j : Nat} {vs : List Nat} {Dl : Addr} {Qd : Hp → Prop} (f : D → V) (hT : SqT K H a xs) (hd : DvL H xs ds) (hD : H Dl = none) (hz : xs.length ≤ 100000)
    (hw : ∀ x, wipe ((wipe σ vs).set j (some x)) vs = wipe σ vs)
    (he : ∀ σ' H' (R : Bool → Hp → Prop), R true H' → tt σ' H' R)
    (hv : ∀ (x : V) (d : D) (H' : Hp) (R : VK), Same H H' → d ∈ ds → Dv H x d → (∀ H2, Same H' H2 → R (f d) H2) → te ((wipe σ vs).set j (some x)) H' R)
    (q : ∀ H', Same H H' → H' Dl = some (.lst (ds.map f)) → Qd H') :
    ∃ W : Nat → Nat → Hp → Prop, (∃ m, W 0 m (upd H Dl (.lst []))) ∧ ∀ i m H, W i m H → ((Itt K a).stop i H ∧ Qd H) ∨ ((Itt K a).go i H ∧ ∃ Nx : Hp → Prop, (∀ H', Nx H' → ∃ m', m' < m ∧ W (i + 1) m' H') ∧
      ∀ x H', (Itt K a).yld i H x H' → gName j x (wipe σ vs) H' fun σ2 H2 => wipe σ2 vs = wipe σ vs ∧ tt σ2 H2 fun b H3 => if b = true then te σ2 H3 fun y H4 => ∃ acc, H4 Dl = some (.lst acc) ∧ acc.length < sizeLine ∧ Nx (upd H4 Dl (.lst (acc ++ [y]))) else Nx H3) := by
  have hlen := hd.len
  have st : ∀ H', Same H H' → SqT K H' a xs := fun H' k => Evl.ex_t k hT
  refine lc_tup (fun i H' => Same H H' ∧ H' Dl = some (.lst ((ds.take i).map f))) ⟨Same.new hD, upd_same⟩ (fun i H' _ p => st H' p.1) ?_ ?_
  · rintro i x H1 hx ⟨k, hl⟩
    refine ⟨hw _, he _ _ _ ?_⟩
    rw [if_pos rfl]
    obtain ⟨d, e1, hd1⟩ := hd.get hx
    refine hv x d H1 _ k (tk e1) hd1 fun H2 k2 => ⟨_, k2 _ _ hl, ?_, Same.upd (k.trans k2) hD, ?_⟩
    · rw [List.length_map]
      refine szl ?_
      rw [List.length_take]
      omega
    · rw [take_succ' e1, List.map_append]
      exact upd_same
  · rintro H' ⟨k, hl⟩
    refine q H' k ?_
    have : ds.take xs.length = ds := List.take_of_length_le (by omega)
    rw [this] at hl
    exact hl
end Fm
set_option maxRecDepth 100000
set_option maxHeartbeats 2000000
/-! Fm: the bag that a law draws from: a list of three ints and a list of ints; what is drawn is any int below a bound. -/
namespace Fm
open PySem PySem.Spec PyProof.Rows L2
/-- the heap without the bag -/
def mask (b : Addr) (H : Hp) : Hp := fun a => if a = b then none else H a
theorem mask_ne {b a : Addr} {H : Hp} (h : a ≠ b) : mask b H a = H a := if_neg h
theorem unmask {b : Addr} {H : Hp} : Same (mask b H) H := fun a o e => by
  unfold mask at e
  split at e
  · cases e
  · exact e
theorem mask_same {b : Addr} {H H' : Hp} (k : Same H H') : Same (mask b H) (mask b H') := fun a o e => by
  have e' := unmask _ _ e
  have n : a ≠ b := fun z => by
    rw [z] at e
    simp [mask] at e
  rw [mask_ne n]
  exact k _ _ e'
theorem mask_updb {b : Addr} {H : Hp} {o : HO} : mask b (upd H b o) = mask b H := by
  funext a
  unfold mask
  split
  · rfl
  · rename_i n
    exact upd_ne n
structure BagAt (b p : Addr) (H : Hp) (s m k : Int) (cells : List Int) : Prop where
  at_b : H b = some (.lst [.int s, .int m, .int k, .ref p])
  at_p : H p = some (.lst (cells.map V.int))
  ne : p ≠ b
  s0 : 0 ≤ s
  m0 : 0 ≤ m
  m1 : m < 2147483647
  k0 : 0 ≤ k
  c0 : ∀ c ∈ cells, 0 ≤ c
def Bag (b p : Addr) (H : Hp) : Prop := ∃ s m k cells, BagAt b p H s m k cells
theorem Bag.same {b p : Addr} {H H' : Hp} (B : Bag b p H) (k : Same H H') : Bag b p H' := by
  obtain ⟨s, m, n, cells, h1, h2, h3, h4, h5, h6, h7, h8⟩ := B
  exact ⟨s, m, n, cells, k _ _ h1, k _ _ h2, h3, h4, h5, h6, h7, h8⟩
/-- the bag has gone on, all else stands -/
structure Go (b p : Addr) (H H' : Hp) : Prop where
  k : Same (mask b H) (mask b H')
  B : Bag b p H'
section
variable {b p : Addr} {H H' H2 : Hp}
theorem Go.of (B : Bag b p H) (k : Same H H') : Go b p H H' := ⟨mask_same k, B.same k⟩
theorem Go.refl (B : Bag b p H) : Go b p H H := ⟨Same.refl _, B⟩
theorem Go.trans (g : Go b p H H') (g2 : Go b p H' H2) : Go b p H H2 := ⟨g.k.trans g2.k, g2.B⟩
theorem Go.same (g : Go b p H H') (k : Same H' H2) : Go b p H H2 := g.trans (.of g.B k)
theorem Go.new {q : Addr} {o : HO} (g : Go b p H H') (h : H' q = none) : Go b p H (upd H' q o) := g.same (Same.new h)
theorem Bag.b_ne (B : Bag b p H) {l : Addr} (h : H l = none) : l ≠ b := by
  obtain ⟨s, m, n, cells, h1, _⟩ := B
  exact fun z => by
    rw [z, h1] at h
    cases h
theorem Go.free (g : Go b p H H') {l : Addr} (h : H' l = none) : H l = none := by
  have n := g.B.b_ne h
  cases e : H l with
  | none => rfl
  | some o =>
    have e1 := g.k l o (by rw [mask_ne n]; exact e)
    rw [mask_ne n, h] at e1
    cases e1
/-- an object that was not there at the start changes -/
theorem Go.mut {l : Addr} {o : HO} (B : Bag b p H) (g : Go b p H H') (h : H l = none) : Go b p H (upd H' l o) := by
  have nb := B.b_ne h
  obtain ⟨s, m, n, cells, h1, h2, h3, h4, h5, h6, h7, h8⟩ := B
  have np : p ≠ l := fun z => by
    rw [z, h] at h2
    cases h2
  obtain ⟨s', m', n', cells', g1, g2, g3, g4, g5, g6, g7, g8⟩ := g.B
  refine ⟨fun a u e => ?_, s', m', n', cells', ?_, ?_, g3, g4, g5, g6, g7, g8⟩
  · have na : a ≠ b := fun z => by
      rw [z] at e
      simp [mask] at e
    have nl : a ≠ l := fun z => by
      rw [z, mask_ne nb, h] at e
      cases e
    have e1 := g.k a u e
    rw [mask_ne na] at e1 ⊢
    rw [upd_ne nl]
    exact e1
  · rw [upd_ne nb.symm]
    exact g1
  · rw [upd_ne np]
    exact g2
theorem Go.dv {v : V} {d : D} (g : Go b p H H') (h : Dv (mask b H) v d) : Dv (mask b H') v d := h.same g.k _ _
theorem Go.dvl {vs : List V} {ds : List D} (g : Go b p H H') (h : DvL (mask b H) vs ds) : DvL (mask b H') vs ds := h.same g.k _ _
theorem Dv.un {v : V} {d : D} (h : Dv (mask b H) v d) : Dv H v d := h.same unmask _ _
theorem DvL.un {vs : List V} {ds : List D} (h : DvL (mask b H) vs ds) : DvL H vs ds := h.same unmask _ _
theorem Go.at {q : Addr} {o : HO} (g : Go b p H H') (n : q ≠ b) (h : H q = some o) : H' q = some o := by
  have := g.k q o (by rw [mask_ne n]; exact h)
  rw [mask_ne n] at this
  exact this
end
/-- _law_take: an int below n -/
def spTake : Sp := fun vs H Q _ => ∃ b p n, vs = [.ref b, .int n] ∧ Bag b p H ∧ 0 < n ∧ n ≤ 1000000 ∧ ∀ i H', 0 ≤ i → i < n → Go b p H H' → Q (.int i) H'
end Fm
namespace Fm
open PySem PySem.Spec PyProof.Rows L2
/-- what stands in H2 and not yet in H -/
def newof (H H2 : Hp) : Hp := fun a => match H a with
  | none => H2 a
  | some _ => none
section
variable {b p : Addr} {H H1 H2 H3 : Hp}
theorem newof_of {a : Addr} {o : HO} (h : H a = none) (h2 : H2 a = some o) : newof H H2 a = some o := by
  unfold newof
  rw [h]
  exact h2
theorem newof_is {a : Addr} {o : HO} (h : newof H H2 a = some o) : H a = none ∧ H2 a = some o := by
  unfold newof at h
  cases e : H a with
  | none =>
    rw [e] at h
    exact ⟨rfl, h⟩
  | some u =>
    rw [e] at h
    cases h
theorem newof_sub : Same (newof H H2) H2 := fun _ _ h => (newof_is h).2
theorem newof_mask (B : Bag b p H) : Same (newof H H2) (mask b H2) := fun a o h => by
  obtain ⟨h1, h2⟩ := newof_is h
  rw [mask_ne (B.b_ne h1)]
  exact h2
theorem newof_go (B : Bag b p H) (g : Go b p H1 H2) : Same (newof H H1) (newof H H2) := fun a o h => by
  obtain ⟨h1, h2⟩ := newof_is h
  exact newof_of h1 (g.at (B.b_ne h1) h2)
theorem newof_same (k : Same H1 H2) : Same (newof H H1) (newof H H2) := fun a o h => by
  obtain ⟨h1, h2⟩ := newof_is h
  exact newof_of h1 (k _ _ h2)
theorem newof_lift (f : ∀ a, H1 a = none → H a = none) : Same (newof H1 H2) (newof H H2) := fun a o h => by
  obtain ⟨h1, h2⟩ := newof_is h
  exact newof_of (f _ h1) h2
theorem newof_upd {l : Addr} {o u : HO} (h : H l = some u) : newof H (upd H2 l o) = newof H H2 := by
  funext a
  unfold newof
  cases e : H a with
  | none =>
    show upd H2 l o a = H2 a
    exact upd_ne fun z => by
      rw [z, h] at e
      cases e
  | some _ => rfl
end
/-- [e for k in range(n)], each turn draws from the bag and gives new data -/
theorem lc_bagS {te : TE} {tt : TT} {σ : L2.St} {H : Hp} {b p : Addr} {j n : Nat} {vs : List Nat} {Dl : Addr} {Qd : Hp → Prop} (good : D → Prop) (B : Bag b p H) (hD : H Dl = none) (hz : n ≤ 100000)
    (hw : ∀ x, wipe ((wipe σ vs).set j (some x)) vs = wipe σ vs) (he : ∀ σ' H' (R : Bool → Hp → Prop), R true H' → tt σ' H' R)
    (hv : ∀ (i : Nat) (H' : Hp) (R : VK), i < n → Go b p H H' → (∀ y d H2, Go b p H' H2 → Dv (newof H' H2) y d → good d → R y H2) → te ((wipe σ vs).set j (some (.int (i : Int)))) H' R)
    (q : ∀ H' acc ds, Go b p H H' → H' Dl = some (.lst acc) → DvL (newof (upd H Dl (.lst [])) H') acc ds → (∀ d ∈ ds, good d) → ds.length = n → Qd H') :
    ∃ W : Nat → Nat → Hp → Prop, (∃ m, W 0 m (upd H Dl (.lst []))) ∧ ∀ i m H, W i m H → ((Itr 0 n).stop i H ∧ Qd H) ∨ ((Itr 0 n).go i H ∧ ∃ Nx : Hp → Prop, (∀ H', Nx H' → ∃ m', m' < m ∧ W (i + 1) m' H') ∧
      ∀ x H', (Itr 0 n).yld i H x H' → gName j x (wipe σ vs) H' fun σ2 H2 => wipe σ2 vs = wipe σ vs ∧ tt σ2 H2 fun b H3 => if b = true then te σ2 H3 fun y H4 => ∃ acc, H4 Dl = some (.lst acc) ∧ acc.length < sizeLine ∧ Nx (upd H4 Dl (.lst (acc ++ [y]))) else Nx H3) := by
  have nb := B.b_ne hD
  refine lc_range (lo := 0) (fun i H' => Go b p H H' ∧ ∃ acc ds, H' Dl = some (.lst acc) ∧ DvL (newof (upd H Dl (.lst [])) H') acc ds ∧ (∀ d ∈ ds, good d) ∧ ds.length = i)
    ⟨(Go.refl B).new hD, [], [], upd_same, .nil, fun _ h => (by cases h), rfl⟩ ?_ ?_
  · rintro i H1 hi ⟨g, acc, ds, hl, hds, hg, hn⟩
    refine ⟨hw _, he _ _ _ ?_⟩
    rw [if_pos rfl]
    have e0 : (0 : Int) + (i : Int) = (i : Int) := by omega
    rw [e0]
    refine hv i H1 _ hi g fun y d H2 g2 hy gd => ⟨acc, g2.at nb hl, ?_, (g.trans g2).mut B hD, acc ++ [y], ds ++ [d], upd_same, ?_, ?_, ?_⟩
    · have := hds.len
      exact szl (by omega)
    · have hDl : (upd H Dl (.lst [])) Dl = some (.lst []) := upd_same
      rw [newof_upd hDl]
      have B1 : Bag b p (upd H Dl (.lst [])) := ((Go.refl B).new hD).B
      refine (hds.same (newof_go B1 g2) _ _).app (.cons (hy.same (newof_lift fun a ha => ?_) _ _) .nil)
      have n1 : a ≠ Dl := fun z => by
        rw [z, hl] at ha
        cases ha
      rw [upd_ne n1]
      exact g.free ha
    · intro d' hd'
      rcases List.mem_append.mp hd' with h | h
      · exact hg d' h
      · rw [List.mem_singleton.mp h]
        exact gd
    · rw [List.length_append, hn]
      rfl
  · rintro H' ⟨g, acc, ds, hl, hds, hg, hn⟩
    exact q H' acc ds g hl hds hg hn
/-- [e for k in range(n)], each turn draws from the bag and gives new data -/
theorem lc_bag {te : TE} {tt : TT} {σ : L2.St} {H : Hp} {b p : Addr} {j n : Nat} {vs : List Nat} {Dl : Addr} {Qd : Hp → Prop} (good : D → Prop) (B : Bag b p H) (hD : H Dl = none) (hz : n ≤ 100000)
    (hw : ∀ x, wipe ((wipe σ vs).set j (some x)) vs = wipe σ vs) (he : ∀ σ' H' (R : Bool → Hp → Prop), R true H' → tt σ' H' R)
    (hv : ∀ (i : Nat) (H' : Hp) (R : VK), i < n → Go b p H H' → (∀ y d H2, Go b p H' H2 → Dv (newof H' H2) y d → good d → R y H2) → te ((wipe σ vs).set j (some (.int (i : Int)))) H' R)
    (q : ∀ H' acc ds, Go b p H H' → H' Dl = some (.lst acc) → DvL (newof H H') acc ds → (∀ d ∈ ds, good d) → ds.length = n → Qd H') :
    ∃ W : Nat → Nat → Hp → Prop, (∃ m, W 0 m (upd H Dl (.lst []))) ∧ ∀ i m H, W i m H → ((Itr 0 n).stop i H ∧ Qd H) ∨ ((Itr 0 n).go i H ∧ ∃ Nx : Hp → Prop, (∀ H', Nx H' → ∃ m', m' < m ∧ W (i + 1) m' H') ∧
      ∀ x H', (Itr 0 n).yld i H x H' → gName j x (wipe σ vs) H' fun σ2 H2 => wipe σ2 vs = wipe σ vs ∧ tt σ2 H2 fun b H3 => if b = true then te σ2 H3 fun y H4 => ∃ acc, H4 Dl = some (.lst acc) ∧ acc.length < sizeLine ∧ Nx (upd H4 Dl (.lst (acc ++ [y]))) else Nx H3) :=
  lc_bagS good B hD hz hw he hv fun H' acc ds g hl hds hg hn => q H' acc ds g hl (hds.same (newof_lift fun a ha => by
    by_cases z : a = Dl
    · rw [z]
      exact hD
    · rwa [upd_ne z] at ha) _ _) hg hn
/-- [f(x) for x in xs] over a list, f leaves what stands -/
theorem lc_listF {K : PySem.W.Frag} {te : TE} {tt : TT} {σ : L2.St} {H : Hp} {a : Addr} {xs : List V} {j : Nat} {vs : List Nat} {Dl : Addr} {Qd : Hp → Prop} (f : V → V) (hT : SqL K H a xs) (hD : H Dl = none) (hz : xs.length ≤ 100000)
    (hw : ∀ x, wipe ((wipe σ vs).set j (some x)) vs = wipe σ vs) (he : ∀ σ' H' (R : Bool → Hp → Prop), R true H' → tt σ' H' R)
    (hv : ∀ (x : V) (H' : Hp) (R : VK), Same H H' → x ∈ xs → (∀ H2, Same H' H2 → R (f x) H2) → te ((wipe σ vs).set j (some x)) H' R)
    (q : ∀ H', Same H H' → H' Dl = some (.lst (xs.map f)) → Qd H') :
    ∃ W : Nat → Nat → Hp → Prop, (∃ m, W 0 m (upd H Dl (.lst []))) ∧ ∀ i m H, W i m H → ((Itl K a).stop i H ∧ Qd H) ∨ ((Itl K a).go i H ∧ ∃ Nx : Hp → Prop, (∀ H', Nx H' → ∃ m', m' < m ∧ W (i + 1) m' H') ∧
      ∀ x H', (Itl K a).yld i H x H' → gName j x (wipe σ vs) H' fun σ2 H2 => wipe σ2 vs = wipe σ vs ∧ tt σ2 H2 fun b H3 => if b = true then te σ2 H3 fun y H4 => ∃ acc, H4 Dl = some (.lst acc) ∧ acc.length < sizeLine ∧ Nx (upd H4 Dl (.lst (acc ++ [y]))) else Nx H3) := by
  refine lc_list (fun i H' => Same H H' ∧ H' Dl = some (.lst ((xs.take i).map f))) ⟨Same.new hD, upd_same⟩ (fun i H' _ h => Evl.ex_l h.1 hT) ?_ ?_
  · rintro i x H1 hx ⟨k, hl⟩
    refine ⟨hw _, he _ _ _ ?_⟩
    rw [if_pos rfl]
    refine hv x H1 _ k (tk hx) fun H2 k2 => ⟨_, k2 _ _ hl, ?_, Same.upd (k.trans k2) hD, ?_⟩
    · rw [List.length_map]
      refine szl ?_
      rw [List.length_take]
      omega
    · rw [take_succ' hx, List.map_append]
      exact upd_same
  · rintro H' ⟨k, hl⟩
    refine q H' k ?_
    rw [List.take_length] at hl
    exact hl
end Fm
namespace Fm
open PySem PySem.Spec PyProof.Rows L2
theorem ok_app {x y : Str} (hx : PyData.strOk x = true) (hy : PyData.strOk y = true) : PyData.strOk (x ++ y) = true := by
  unfold PyData.strOk at *
  show (x.cps ++ y.cps).all _ = true
  rw [Array.all_append, hx, hy]
  rfl
theorem ok_join {ys : List Str} (h : ∀ y ∈ ys, PyData.strOk y = true) : PyData.strOk (Txt.join "" ys) = true := by
  have e : Txt.join "" ys = Str.join "" ys := StrLaws.glued_eq_join _ _
  rw [e]
  clear e
  induction ys with
  | nil => decide +kernel
  | cons x r ih =>
    cases r with
    | nil => exact h x List.mem_cons_self
    | cons y r => exact ok_app (ok_app (h x List.mem_cons_self) (by decide +kernel)) (ih fun z hz => h z (List.mem_cons_of_mem _ hz))
theorem len_join {ys : List Str} (h : ∀ y ∈ ys, y.length ≤ 1) : (Txt.join "" ys).length ≤ ys.length := by
  have e : Txt.join "" ys = Str.join "" ys := StrLaws.glued_eq_join _ _
  rw [e]
  refine Nat.le_trans (StrLaws.join_length_le _ _) ?_
  have z : (("" : String) : Str).length = 0 := rfl
  rw [z, Nat.mul_zero, Nat.add_zero]
  clear e
  induction ys with
  | nil => simp
  | cons x r ih =>
    have h1 := h x List.mem_cons_self
    have h2 := ih fun y hy => h y (List.mem_cons_of_mem _ hy)
    rw [List.map_cons, List.sum_cons, List.length_cons]
    omega
theorem sum_len {ys : List Str} (h : ∀ y ∈ ys, y.length ≤ 1) : (ys.map (·.length)).sum ≤ ys.length := by
  induction ys with
  | nil => simp
  | cons x r ih =>
    have h1 := h x List.mem_cons_self
    have h2 := ih fun y hy => h y (List.mem_cons_of_mem _ hy)
    rw [List.map_cons, List.sum_cons, List.length_cons]
    omega
/-- strings as data, and back -/
theorem dvl_strs {H : Hp} {m : Nat} : ∀ {acc : List V} {ds : List D}, DvL H acc ds → (∀ d ∈ ds, ∃ x, d = .str x ∧ PyData.strOk x = true ∧ x.length ≤ m) → ∃ ys : List Str, acc = ys.map V.str ∧ (∀ y ∈ ys, PyData.strOk y = true ∧ y.length ≤ m) ∧ ys.length = ds.length
  | _, _, .nil, _ => ⟨[], rfl, fun _ h => (by cases h), rfl⟩
  | _, _, .cons a b, h => by
    obtain ⟨ys, e, f, g⟩ := dvl_strs b fun d hd => h d (List.mem_cons_of_mem _ hd)
    obtain ⟨x, rfl, o, l⟩ := h _ List.mem_cons_self
    cases a
    refine ⟨x :: ys, by rw [e]; rfl, fun y hy => ?_, by simp [g]⟩
    rcases List.mem_cons.mp hy with rfl | hy
    · exact ⟨o, l⟩
    · exact f y hy
/-- a sign of a written text at an int below its length -/
theorem sign_at {x : Str} {i : Int} (h0 : 0 ≤ i) (h1 : i < x.length) : ∃ c, atI x.cps.toList i = some c ∧ (PyData.strOk x = true → PyData.strOk ⟨#[c]⟩ = true) := by
  obtain ⟨k, rfl⟩ := Int.eq_ofNat_of_zero_le h0
  have l : x.cps.toList.length = x.length := by simp [Str.length]
  have lt : k < x.cps.toList.length := by omega
  refine ⟨x.cps.toList[k], atI_nat (List.getElem?_eq_getElem lt), fun o => ok_part o fun c hc => ?_⟩
  simp only [List.mem_singleton] at hc
  rw [hc]
  exact List.getElem_mem lt
theorem cut_len_le {x : Str} {lo hi : Option Int} : (cutS x lo hi).length ≤ x.length := by
  unfold cutS
  show (List.toArray _).size ≤ _
  rw [List.size_toArray, List.length_take, List.length_drop]
  have l : x.cps.toList.length = x.length := by simp [Str.length]
  omega
theorem len_app (x y : Str) : (x ++ y).length = x.length + y.length := by
  show (x.cps ++ y.cps).size = _
  rw [Array.size_append]
  rfl
/-- the law's bag made of the script -/
def spBag (K : PySem.W.Frag) : Sp := fun vs H Q _ => ∃ (a : Addr) (ns : List Int), vs = [.ref a] ∧ SqL K H a (ns.map V.int) ∧ ns.length ≤ 63 ∧ ∀ b p H', H b = none → Same H H' → Bag b p H' → Q (.ref b) H'
/-- some names -/
def spNames : Sp := fun vs H Q _ => ∃ b p n, vs = [.ref b, .int n] ∧ Bag b p H ∧ 0 ≤ n ∧ n ≤ 20 ∧
  ∀ (l : Addr) (H' : Hp) (xs : List Str), Go b p H H' → newof H H' l = some (.lst (xs.map V.str)) → (xs.length : Int) = n → (∀ x ∈ xs, PyData.strOk x = true ∧ x.length ≤ 30) → Q (.ref l) H'
end Fm
namespace Fm
open PySem PySem.Spec PyProof.Rows L2
theorem cut_strs (ws : List Str) (lo hi : Option Int) : ∃ zs : List Str, cutV (ws.map V.str) lo hi = zs.map V.str ∧ (∀ z ∈ zs, z ∈ ws) ∧ zs.length = min (HT.sIx ws.length ws.length hi - HT.sIx ws.length 0 lo) (ws.length - HT.sIx ws.length 0 lo) := by
  unfold cutV
  rw [List.length_map, ← List.map_drop, ← List.map_take]
  refine ⟨_, rfl, fun z hz => List.mem_of_mem_drop (List.mem_of_mem_take hz), ?_⟩
  rw [List.length_take, List.length_drop]
theorem sIx_none (n d : Nat) : HT.sIx n d none = d := rfl
theorem sIx_at {n d : Nat} {i : Int} (h : 0 ≤ i) : HT.sIx n d (some i) = min i.toNat n := by
  show (if i < 0 then (i + (n : Int)).toNat else min i.toNat n) = _
  rw [if_neg (by omega)]
end Fm
namespace Fm
open PySem PySem.Spec PyProof.Rows L2
/-- a term as a law makes it: an int, or a tuple of a text and terms -/
inductive Tm : D → Prop
  | int (i : Int) : Tm (.int i)
  | tup (x : Str) (ds : List D) : (∀ d ∈ ds, Tm d) → Tm (.tup (.str x :: ds))
/-- a list of names that stands in the heap -/
structure Names (nm b : Addr) (H : Hp) (xs : List Str) : Prop where
  at_ : H nm = some (.lst (xs.map V.str))
  ne : nm ≠ b
  pos : 1 ≤ xs.length
  few : xs.length ≤ 20
  ok : ∀ x ∈ xs, PyData.strOk x = true ∧ x.length ≤ 30
theorem Names.go {nm b p : Addr} {H H' : Hp} {xs : List Str} (N : Names nm b H xs) (g : Go b p H H') : Names nm b H' xs := ⟨g.at N.ne N.at_, N.ne, N.pos, N.few, N.ok⟩
theorem Names.get {nm b : Addr} {H : Hp} {xs : List Str} (N : Names nm b H xs) {i : Int} (h0 : 0 ≤ i) (h1 : i < xs.length) : ∃ x, atI (xs.map V.str) i = some (.str x) ∧ PyData.strOk x = true ∧ x.length ≤ 30 := by
  obtain ⟨k, rfl⟩ := Int.eq_ofNat_of_zero_le h0
  have lt : k < xs.length := by omega
  refine ⟨xs[k], atI_nat ?_, N.ok _ (List.getElem_mem lt)⟩
  rw [List.getElem?_map, List.getElem?_eq_getElem lt]
  rfl
/-- how great a term of so many levels may be -/
def Sized (k : Nat) (d : D) : Prop := d.deep ≤ k ∧ d.size + 16 ≤ 17 * 3 ^ k
theorem sizes_le {ds : List D} {n : Nat} (h : ∀ d ∈ ds, d.size + 16 ≤ n) : sizes ds + 16 * ds.length ≤ n * ds.length := by
  induction ds with
  | nil => simp [sizes]
  | cons x r ih =>
    have h1 := h x List.mem_cons_self
    have h2 := ih fun y hy => h y (List.mem_cons_of_mem _ hy)
    simp only [sizes, List.length_cons, Nat.mul_add, Nat.mul_one]
    omega
theorem deeps_le {ds : List D} {n : Nat} (h : ∀ d ∈ ds, d.deep ≤ n) : deeps ds ≤ n := by
  induction ds with
  | nil => simp [deeps]
  | cons x r ih =>
    have h1 := h x List.mem_cons_self
    have h2 := ih fun y hy => h y (List.mem_cons_of_mem _ hy)
    simp only [deeps]
    omega
theorem Sized.tup {k : Nat} {x : Str} {ds : List D} (lx : x.length ≤ 30) (l3 : ds.length ≤ 3) (h : ∀ d ∈ ds, Sized k d) : Sized (k + 1) (.tup (.str x :: ds)) := by
  have h1 := deeps_le fun d hd => (h d hd).1
  have h2 := sizes_le fun d hd => (h d hd).2
  have h3 : 17 * 3 ^ k * ds.length ≤ 17 * 3 ^ k * 3 := Nat.mul_le_mul_left _ l3
  have h4 : 1 ≤ 3 ^ k := Nat.one_le_pow _ _ (by decide)
  refine ⟨?_, ?_⟩
  · simp only [D.deep, deeps]
    omega
  · simp only [D.size, sizes]
    have e : 17 * 3 ^ (k + 1) = 17 * 3 ^ k * 3 := by rw [Nat.pow_succ]; omega
    rw [e]
    -- three parts, or fewer
    rcases (by omega : ds.length = 0 ∨ ds.length = 1 ∨ ds.length = 2 ∨ ds.length = 3) with z | z | z | z <;> rw [z] at h2 <;> omega
/-- _law_term of a bag, names, so many unknowns and k levels, k below m -/
def spTerm (m : Nat) : Sp := fun vs H Q _ => ∃ (b p nm : Addr) (xs : List Str) (many : Int) (k : Nat) (deep : Int), vs = [.ref b, .ref nm, .int many, .int deep] ∧ deep = (k : Int) ∧ Bag b p H ∧ Names nm b H xs ∧ 0 < many ∧ many ≤ 1000 ∧ k < m ∧ k ≤ 100 ∧
  ∀ v H' d, Go b p H H' → Dv (newof H H') v d → Tm d → Sized k d → Q v H'
end Fm
set_option maxRecDepth 100000
set_option maxHeartbeats 2000000
/-! Fm: written data. -/
namespace Fm
open PySem PySem.Spec PyProof.Rows L2
/-- an expression that makes this data anew, all that stood standing -/
def Ed (te : TE) (d : D) : Prop := ∀ σ H (Q : VK), (∀ v H', Same H H' → Dv (newof H H') v d → Q v H') → te σ H Q
def EdA (ta : TA) (ds : List D) : Prop := ∀ σ H (Q : List V → Hp → Prop), (∀ vs H', Same H H' → DvL (newof H H') vs ds → Q vs H') → ta σ H Q
theorem ed_non : Ed (tC .non) .non := fun _ H _ q => q _ _ (Same.refl H) .non
theorem ed_bl {b : Bool} : Ed (tC (.bl b)) (.bl b) := fun _ H _ q => q _ _ (Same.refl H) (.bl b)
theorem ed_int {i : Int} : Ed (tC (.int i)) (.int i) := fun _ H _ q => q _ _ (Same.refl H) (.int i)
theorem ed_str {x : Str} (h : PyData.strOk x = true) : Ed (tC (.str x)) (.str x) := fun _ H _ q => q _ _ (Same.refl H) (.str x h)
theorem ed_neg {i : Int} : Ed (tUn (rU fun i => .int (-i)) (tC (.int i))) (.int (-i)) := fun _ H _ q => ⟨i, rfl, q _ _ (Same.refl H) (.int _)⟩
theorem eda_nil : EdA tNil [] := fun _ H _ q => q _ _ (Same.refl H) .nil
theorem eda_cons {te : TE} {ta : TA} {d : D} {ds : List D} (h : Ed te d) (h2 : EdA ta ds) : EdA (tCons te ta) (d :: ds) := fun σ H Q q =>
  h σ H _ fun v H1 k1 h1 => h2 σ H1 _ fun vs H2 k2 h3 => q _ _ (k1.trans k2) (.cons (h1.same (newof_same k2) _ _) (h3.same (newof_lift fun _ ha => k1.free ha) _ _))
theorem ed_tup {ta : TA} {ds : List D} (h : EdA ta ds) (hl : ds.length ≤ 1000) : Ed (tTup ta) (.tup ds) := fun σ H Q q =>
  h σ H _ fun vs H1 k1 h1 => ⟨sz (by have := h1.len; omega), fun p hp => q _ _ (k1.trans (Same.new hp)) (.tup (newof_of (k1.free hp) upd_same) (h1.same (newof_same (Same.new hp)) _ _))⟩
theorem ed_lst {ta : TA} {ds : List D} (h : EdA ta ds) (hl : ds.length ≤ 1000) : Ed (tLst ta) (.lst ds) := fun σ H Q q =>
  h σ H _ fun vs H1 k1 h1 => ⟨sz (by have := h1.len; omega), fun p hp => q _ _ (k1.trans (Same.new hp)) (.lst (newof_of (k1.free hp) upd_same) (h1.same (newof_same (Same.new hp)) _ _))⟩
theorem ed_asg {te : TE} {d : D} {i : Nat} {D' : Ends} {σ : L2.St} {H : Hp} (h : Ed te d) (k : ∀ v H', Same H H' → Dv (newof H H') v d → D'.nx (σ.set i (some v)) H') : tAsg te (gName i) D' σ H := h σ H _ k
theorem ed_dic : Ed tDNewK .dic := fun _ H _ q p hp => q _ _ (Same.new hp) (.dic (newof_of hp upd_same))
theorem Ed.use {te : TE} {d : D} {σ : L2.St} {H : Hp} {Q : VK} (h : Ed te d) (k : ∀ v H', Same H H' → Dv (newof H H') v d → Q v H') : te σ H Q := h σ H Q k
/-- _law_odd: a small piece of data -/
def spOdd : Sp := fun vs H Q _ => ∃ b p, vs = [.ref b] ∧ Bag b p H ∧ ∀ v H' d, Go b p H H' → Dv (newof H H') v d → d.deep ≤ 3 → d.size ≤ 40 → Q v H'
end Fm
namespace Fm
open PySem PySem.Spec PyProof.Rows L2
theorem split_at {ds : List D} {k : Nat} (h : k < ds.length) : ds = ds.take k ++ (ds[k] :: ds.drop (k + 1)) := by
  have e := List.take_append_drop k ds
  rw [List.drop_eq_getElem_cons h] at e
  exact e.symm
theorem cut_to {us : List V} {k : Nat} (h : k < us.length) : cutV us none (some (k : Int)) = us.take k ∧ ¬ (HT.sIx us.length 0 none = 0 ∧ HT.sIx us.length us.length (some (k : Int)) = us.length) := by
  have e : HT.sIx us.length us.length (some (k : Int)) = k := by
    rw [HT.sIx_nat]
    omega
  have e0 : HT.sIx us.length 0 none = 0 := rfl
  constructor
  · unfold cutV
    rw [e, e0]
    rfl
  · rintro ⟨_, z⟩
    rw [e] at z
    omega
theorem cut_from {us : List V} {k : Nat} (h : 0 < k) (h2 : k ≤ us.length) : cutV us (some (k : Int)) none = us.drop k ∧ ¬ (HT.sIx us.length 0 (some (k : Int)) = 0 ∧ HT.sIx us.length us.length none = us.length) := by
  have e : HT.sIx us.length 0 (some (k : Int)) = k := by
    rw [HT.sIx_nat]
    omega
  constructor
  · unfold cutV
    rw [e]
    exact List.take_of_length_le (by rw [List.length_drop]; exact Nat.le_refl _)
  · rintro ⟨z, _⟩
    rw [e] at z
    omega
/-- _law_spoilt of a bag and a term -/
def spSpoilt (m : Nat) : Sp := fun vs H Q _ => ∃ b p v d, vs = [.ref b, v] ∧ Bag b p H ∧ Dv (mask b H) v d ∧ Tm d ∧ d.deep < m ∧ d.deep ≤ 90 ∧ d.size ≤ 50000 ∧
  ∀ v' H' d', Go b p H H' → Dv (mask b H') v' d' → d'.deep ≤ d.deep + 3 → d'.size ≤ d.size + 40 → Q v' H'
theorem mask_new {b q : Addr} {H : Hp} {o : HO} (n : q ≠ b) : mask b (upd H q o) q = some o := by
  rw [mask_ne n]
  exact upd_same
end Fm
namespace Fm
open PySem PySem.Spec PyProof.Rows L2
theorem ed_pow {i j : Int} (h : CPow i j) : Ed (tOp (rI CPow fun i j => .int (i ^ j.toNat)) (tC (.int i)) (tC (.int j))) (.int (i ^ j.toNat)) := fun _ H _ q => ⟨i, j, rfl, rfl, h, q _ _ (Same.refl H) (.int _)⟩
theorem op_or {X : Cx} {f : Value → Value → Sem Value} {r1 r2 : R2} (h1 : OpR X f r1) (h2 : OpR X f r2) : OpR X f (fun x y H Q => r1 x y H Q ∨ r2 x y H Q) := fun pins s σ H x y v u Q I rx ry h => by
  rcases h with h | h
  · exact h1 pins s σ H x y v u Q I rx ry h
  · exact h2 pins s σ H x y v u Q I rx ry h
/-- one of some written texts -/
theorem text_at {xs : List Str} {i : Int} (h0 : 0 ≤ i) (h1 : i < xs.length) : ∃ x, atI (xs.map V.str) i = some (.str x) ∧ x ∈ xs := by
  obtain ⟨k, rfl⟩ := Int.eq_ofNat_of_zero_le h0
  have lt : k < xs.length := by omega
  refine ⟨xs[k], atI_nat ?_, List.getElem_mem lt⟩
  rw [List.getElem?_map, List.getElem?_eq_getElem lt]
  rfl
mutual
def noDic : D → Bool
  | .tup ds => noDics ds
  | .lst ds => noDics ds
  | .dic => false
  | _ => true
def noDics : List D → Bool
  | [] => true
  | d :: ds => noDic d && noDics ds
end
theorem noDics_of {ds : List D} (h : ∀ d ∈ ds, noDic d = true) : noDics ds = true := by
  induction ds with
  | nil => rfl
  | cons x r ih =>
    simp only [noDics, h x List.mem_cons_self, Bool.true_and]
    exact ih fun y hy => h y (List.mem_cons_of_mem _ hy)
theorem Tm.noDic {d : D} (t : Tm d) : Fm.noDic d = true := by
  induction t with
  | int i => rfl
  | tup x ds _ ih =>
    simp only [Fm.noDic, noDics, Bool.true_and]
    exact noDics_of ih
mutual
theorem dp_of {K : PySem.W.Frag} {H : Hp} : ∀ (d : D) (v : V), Dv H v d → noDic d = true → ∃ pd, Dp K H v pd ∧ pd.canLay0 = true ∧ pd.depth ≤ d.deep + 1
  | .non, _, h, _ => by cases h; exact ⟨_, .non, rfl, by simp [PyData.depth]⟩
  | .bl _, _, h, _ => by cases h; exact ⟨_, .bl _, rfl, by simp [PyData.depth]⟩
  | .int _, _, h, _ => by cases h; exact ⟨_, .int _, rfl, by simp [PyData.depth]⟩
  | .str _, _, h, _ => by
    cases h with
    | str _ o => exact ⟨_, .str _, by simpa [PyData.canLay0] using o, by simp [PyData.depth]⟩
  | .tup ds, _, h, n => by
    cases h with
    | tup a b =>
      obtain ⟨ps, h1, h2, h3⟩ := dps_of ds _ b (by simpa [noDic] using n)
      exact ⟨_, .tup (SqT.of a) h1, by simpa [PyData.canLay0] using h2, by simp only [PyData.depth, D.deep]; omega⟩
  | .lst ds, _, h, n => by
    cases h with
    | lst a b =>
      obtain ⟨ps, h1, h2, h3⟩ := dps_of ds _ b (by simpa [noDic] using n)
      exact ⟨_, .lst (SqL.of a) h1, by simpa [PyData.canLay0] using h2, by simp only [PyData.depth, D.deep]; omega⟩
  | .dic, _, _, n => by simp [noDic] at n
theorem dps_of {K : PySem.W.Frag} {H : Hp} : ∀ (ds : List D) (vs : List V), DvL H vs ds → noDics ds = true → ∃ ps, DpAll K H vs ps ∧ PyData.canLayAll0 ps = true ∧ PyData.depthAll ps ≤ deeps ds + 1
  | [], _, h, _ => by cases h; exact ⟨[], .nil, by simp [PyData.canLayAll0], by simp [PyData.depthAll]⟩
  | d :: ds, _, h, n => by
    cases h with
    | cons a b =>
      have n' : noDic d = true ∧ noDics ds = true := by simpa [noDics] using n
      obtain ⟨p, h1, h2, h3⟩ := dp_of d _ a n'.1
      obtain ⟨ps, h4, h5, h6⟩ := dps_of ds _ b n'.2
      exact ⟨p :: ps, .cons h1 h4, by simp [PyData.canLayAll0, h2, h5], by simp only [PyData.depthAll, deeps]; omega⟩
end
def spText : Sp := fun vs H Q _ => ∃ b p, vs = [.ref b] ∧ Bag b p H ∧ ∀ x H', Go b p H H' → PyData.strOk x = true → x.length ≤ 13 → Q (.str x) H'
/-- a thing to look at -/
def spThing : Sp := fun vs H Q _ => ∃ b p nm xs, vs = [.ref b, .ref nm] ∧ Bag b p H ∧ Names nm b H xs ∧ ∀ v H' d, Go b p H H' → Dv (mask b H') v d → d.deep ≤ 50 → d.size ≤ 50000 → Q v H'
end Fm
namespace Fm
open PySem PySem.Spec PyProof.Rows L2
theorem sizes_set {ds : List D} {d : D} (n : Nat) : sizes (ds.set n d) ≤ sizes ds + d.size := by
  induction ds generalizing n with
  | nil => simp [sizes]
  | cons x r ih =>
    cases n with
    | zero => simp only [List.set_cons_zero, sizes]; omega
    | succ n => have := ih n; simp only [List.set_cons_succ, sizes]; omega
theorem deeps_set {ds : List D} {d : D} (n : Nat) : deeps (ds.set n d) ≤ max (deeps ds) d.deep := by
  induction ds generalizing n with
  | nil => simp [deeps]
  | cons x r ih =>
    cases n with
    | zero => simp only [List.set_cons_zero, deeps]; omega
    | succ n => have := ih n; simp only [List.set_cons_succ, deeps]; omega
theorem ixN_at {n k : Nat} (h : k < n) : ixN n (k : Int) = some k := by
  unfold ixN
  rw [if_pos (by omega), if_pos (by omega)]
  simp
end Fm
namespace Fm
open PySem PySem.Spec PyProof.Rows L2
/-- (v,) * k, k from 0 to 2 -/
def rRep3 : R2 := fun x y H Q => ∃ l k v, x = .ref l ∧ y = .int k ∧ H l = some (.tup [v]) ∧ 0 ≤ k ∧ k ≤ 2 ∧ ∀ r H', Same H H' → H' r = some (.tup (List.replicate k.toNat v)) → Q (.ref r) H'
theorem op_rep3 {X : Cx} : OpR X (binaryOp .Mult) rRep3 := by
  intro pins s σ H x y v u Q I rx ry h
  obtain ⟨l, k, w1, rfl, rfl, hl, k0, k2, q⟩ := h
  refine op_or op_rep1 op_repT pins s σ H _ _ v u Q I rx ry ?_
  rcases (by omega : k = 0 ∨ k = 1 ∨ k = 2) with rfl | rfl | rfl
  · exact .inl ⟨l, 0, w1, rfl, rfl, SqT.of hl, .inl rfl, fun _ p hp => q p _ (Same.new hp) upd_same, fun z => (by cases z)⟩
  · exact .inl ⟨l, 1, w1, rfl, rfl, SqT.of hl, .inr rfl, fun z => (by cases z), fun _ => q l H (Same.refl H) hl⟩
  · exact .inr ⟨l, 2, [w1], rfl, rfl, SqT.of hl, by simp, by decide, by decide, by simp, fun p hp => q p _ (Same.new hp) upd_same⟩
theorem dvl_rep {H : Hp} {v : V} {d : D} (h : Dv H v d) : ∀ n : Nat, DvL H (List.replicate n v) (List.replicate n d)
  | 0 => .nil
  | n + 1 => .cons h (dvl_rep h n)
end Fm
namespace Fm
open PySem PySem.Spec PyProof.Rows L2
theorem areTerms_set {ds : List D} {d : D} (n : Nat) (h : ∀ x ∈ ds, isTerm x = true) (lt : n < ds.length) : areTerms (ds.set n d) = isTerm d := by
  induction ds generalizing n with
  | nil => simp at lt
  | cons x r ih =>
    have hx := h x List.mem_cons_self
    have hr : areTerms r = true := by
      rw [areTerms_all]
      exact List.all_eq_true.mpr fun y hy => h y (List.mem_cons_of_mem _ hy)
    cases n with
    | zero => simp only [List.set_cons_zero, areTerms, hr, Bool.and_true]
    | succ n =>
      simp only [List.set_cons_succ, areTerms, hx, Bool.true_and]
      exact ih n (fun y hy => h y (List.mem_cons_of_mem _ hy)) (by simpa using lt)
/-- the list of bools, as data -/
def bools (bs : List Bool) : PyData := .list (bs.map .bool)
theorem dp_bools {K : PySem.W.Frag} {H : Hp} {l : Addr} {bs : List Bool} (h : H l = some (.lst (bs.map V.bl))) : Dp K H (.ref l) (bools bs) := by
  refine .lst (SqL.of h) ?_
  clear h
  induction bs with
  | nil => exact .nil
  | cons b r ih => exact .cons (.bl b) ih
def spMany : Sp := fun vs H Q _ => ∃ b p, vs = [.ref b] ∧ Bag b p H ∧ ∀ H', Q (.bl true) H'
def spLaw (K : PySem.W.Frag) : Sp := fun vs H Q _ => ∃ (a : Addr) (ns : List Int), vs = [.ref a] ∧ SqL K H a (ns.map V.int) ∧ ns.length ≤ 63 ∧ ∀ H', Q (.bl true) H'
end Fm
namespace Fm
open PySem PySem.Spec PyProof.Rows L2
theorem bools5 : ∀ b1 b2 b3 b4 b5 : Bool, SeqAt.shaped (bools [b1, b2, b3, b4, b5]) = true ∧ (bools [b1, b2, b3, b4, b5]).showable = true ∧ (bools [b1, b2, b3, b4, b5]).hasDict = false ∧ (bools [b1, b2, b3, b4, b5]).depth ≤ 60 ∧
    (bools [b1, b2, b3, b4, b5]).shown.length ≤ sizeLine := by decide +kernel
end Fm
set_option maxRecDepth 100000
set_option maxHeartbeats 2000000
/-! Fm: rules for terms as numbered nodes: setdefault with tuples as keys, t[:0:-1]. -/
namespace Fm
open PySem PySem.Spec PyProof.Rows L2
section
variable {X : Cx}
/-- d.setdefault(t, v), keys are tuples -/
def rSetdT : V → List V → Hp → VK → Prop := fun x vs H Q => ∃ (a : Addr) (kvs : List (List L2.Key × V)) (k : List L2.Key) (b : Addr) (v : V), x = .ref a ∧ vs = [.ref b, v] ∧ H a = some (.dT kvs) ∧ H b = some (.tup (k.map kV)) ∧ kvs.length < sizeLine ∧
  (∀ w, valV kvs k = some w → Q w H) ∧ (valV kvs k = none → Q v (upd H a (.dT (kvs ++ [(k, v)]))))
theorem mt_setdT (hu : X.A.units + 1 < cLine) : MtR X "dict.setdefault" rSetdT := by
  intro pins s σ H x xs v us Q I rx rxs h
  obtain ⟨a, kvs, k, b, d, rfl, rfl, ha, hb, hl, q1, q2⟩ := h
  cases rx
  obtain ⟨u1, u2, rfl, r1, r2⟩ := vals2 rxs
  cases r1
  obtain ⟨z, hd, xs', rel, dd⟩ := dt_of I.hok ha
  have hz : xs'.length ≤ sizeLine := by rw [← Paired.length rel]; exact z
  refine call_setdefault_heap (knd := tupleKind (mixKind X.prog X.w)) (tupleKind_room_in1 hu) (key_of I.hok hb) hd dd (fun p hp => ?_) (fun hn h' dd' hs => ?_) hz
  · have r := rel.val k
    rw [hp] at r
    obtain ⟨v0, ev, rv⟩ : ∃ v0, valV kvs k = some v0 ∧ RelV v0 p.2 := by
      cases ev : valV kvs k with
      | none =>
        rw [ev] at r
        exact (show False from r).elim
      | some v0 =>
        rw [ev] at r
        exact ⟨v0, rfl, r⟩
    exact ⟨v0, H, I.tok _, rv, q1 v0 ev⟩
  · have r := rel.val k
    rw [hn] at r
    have e : valV kvs k = none := by
      cases ev : valV kvs k with
      | none => rfl
      | some v0 =>
        rw [ev] at r
        exact (show False from r).elim
    obtain ⟨q, es, ep, hq, h2, h3, h4, _, h5⟩ := dd'
    have hl2 : (putK kvs k d).length ≤ sizeLine := by have := length_putK kvs k d; omega
    have I2 := d_write (t' := s.toks + (tupleKind (mixKind X.prog X.w)).draws k) (ob := .dT (putK kvs k d)) I (by rw [ha]; exact True.intro) hs ⟨q, hq⟩ ⟨hl2, hd, _, (rel.put k hb r2).keeps fun c ys ec => (by
      rw [upd_ne (ne_of ec ha (fun z => nomatch z))]
      exact ec), q, es, ep, hq, h2, h3, h4, h5⟩
    rw [putK_new d e] at I2
    exact ⟨d, _, I2, r2, q2 e⟩
end
/-! ### t[:0:-1] -/
section
variable {prog : Program} {w : World} {A : Around} {E : Value → Shared → Prop} {s : Shared}
theorem adjust_back (n : Nat) : Builtin.Slice.sliceAdjust none (some 0) (-1) (n : Int) = ((n : Int) - 1, min 0 ((n : Int) - 1)) := by
  unfold Builtin.Slice.sliceAdjust
  simp
theorem places_back {n : Nat} (h : 1 ≤ n) : Builtin.Slice.slicePlaces ((n : Int) - 1) (min 0 ((n : Int) - 1)) (-1) = n - 1 := by
  unfold Builtin.Slice.slicePlaces
  have e : min (0 : Int) ((n : Int) - 1) = 0 := by omega
  rw [e]
  simp only [show ¬ ((-1 : Int) > 0) by decide, if_false, show (-(-1) : Int) = 1 by decide, Int.ediv_one]
  split <;> omega
theorem sliceApplied_back {sl : Addr} {vu vs : Value} {n : Nat} {Q : Int × Int × Nat → Shared → Prop} (hn : 1 ≤ n) (hs : s.heap.IsSliceOf sl .none vu vs) (pu : IsPart vu (some 0)) (ps : IsPart vs (some (-1)))
    (h : Q ((n : Int) - 1, -1, n - 1) s) : wpAny (model prog w) A (Builtin.Slice.sliceApplied (.ref sl) (pure (n : Int))) Q E s := by
  obtain ⟨os, hos, hcs, hds⟩ := id hs
  unfold Builtin.Slice.sliceApplied Builtin.Slice.sliceFields
  refine wpAny_bind (wpAny_bind (wpAny_field hos hds (x := .none) rfl (wpAny_bind (wpAny_field hos hds (x := vu) rfl (wpAny_bind (wpAny_field hos hds (x := vs) rfl (wpAny_pure ?_)))))))
  refine wpAny_bind (HT.slicePart_ ps ?_)
  show wpAny _ _ (if ((-1 : Int) == 0) = true then _ else _) _ _ s
  rw [if_neg (by decide)]
  refine wpAny_bind (HT.slicePart_ .none (wpAny_bind (HT.slicePart_ pu (wpAny_bind (wpAny_pure ?_)))))
  show wpAny _ _ (match Builtin.Slice.sliceAdjust none (some 0) (-1) (n : Int) with | (lo, hi) => pure (lo, (-1 : Int), Builtin.Slice.slicePlaces lo hi (-1))) _ _ s
  rw [adjust_back n]
  show wpAny _ _ (pure ((n : Int) - 1, (-1 : Int), Builtin.Slice.slicePlaces ((n : Int) - 1) (min 0 ((n : Int) - 1)) (-1))) _ _ s
  rw [places_back hn]
  exact wpAny_pure h
theorem fm_map {α β : Type} {f : α → Option β} {g : α → β} {l : List α} (h : ∀ m ∈ l, f m = some (g m)) : l.filterMap f = l.map g := by
  induction l with
  | nil => rfl
  | cons x r ih => rw [List.filterMap_cons, h x List.mem_cons_self, ih fun m hm => h m (List.mem_cons_of_mem _ hm)]; rfl
theorem pick_back (xs : Array Value) (h : 1 ≤ xs.size) : ((List.range (xs.size - 1)).filterMap fun (m : Nat) => xs[(((xs.size : Int) - 1) + (m : Int) * (-1)).toNat]?).toArray = (xs.toList.drop 1).reverse.toArray := by
  congr 1
  apply List.ext_getElem?
  intro i
  have e : (List.range (xs.size - 1)).filterMap (fun (m : Nat) => xs[(((xs.size : Int) - 1) + (m : Int) * (-1)).toNat]?) = (List.range (xs.size - 1)).map fun m => xs[xs.size - 1 - m]! := by
    refine fm_map fun m hm => ?_
    have lm := List.mem_range.mp hm
    have e1 : (((xs.size : Int) - 1) + (m : Int) * (-1)).toNat = xs.size - 1 - m := by omega
    have lt : xs.size - 1 - m < xs.size := by omega
    rw [e1, getElem!_pos xs (xs.size - 1 - m) lt]
    exact Array.getElem?_eq_getElem lt
  rw [e, List.getElem?_map]
  have l : xs.toList.length = xs.size := Array.length_toList
  by_cases hi : i < xs.size - 1
  · have lt : xs.size - 1 - i < xs.size := by omega
    rw [List.getElem?_range hi, List.getElem?_reverse (by rw [List.length_drop]; omega), List.length_drop, List.getElem?_drop, Option.map_some, getElem!_pos xs (xs.size - 1 - i) lt]
    have e2 : 1 + (xs.toList.length - 1 - 1 - i) = xs.size - 1 - i := by omega
    rw [e2, List.getElem?_eq_getElem (by omega)]
    rfl
  · rw [List.getElem?_eq_none (by rw [List.length_range]; omega), List.getElem?_eq_none (by rw [List.length_reverse, List.length_drop]; omega)]
    rfl
theorem getItem_tuple_back {t sl : Addr} {items : Array Value} {vu vs : Value} {Q : Value → Shared → Prop} (ht : IsTup s.heap t items) (hs : s.heap.IsSliceOf sl .none vu vs) (pu : IsPart vu (some 0)) (ps : IsPart vs (some (-1))) (hn : 1 ≤ items.size)
    (h : Q (.ref s.heap.objs.size) { s with heap := s.heap.push { cls := .type "tuple", data := .seq (items.toList.drop 1).reverse.toArray } })
    (hsz : items.size ≤ sizeLine) : wpAny (model prog w) A (getItem (.ref t) (.ref sl)) Q E s := by
  have htake : sizeOk (.seq (items.toList.drop 1).reverse.toArray) := by
    show (items.toList.drop 1).reverse.toArray.size ≤ sizeLine
    rw [List.size_toArray, List.length_reverse, List.length_drop, Array.length_toList]
    omega
  obtain ⟨os, hos, hcs, hds⟩ := id hs
  have hTs : s.TypeIs (.ref sl) "slice" := ⟨os, hos, hcs⟩
  unfold getItem
  try with_reducible refine wpAny_holding ?_
  first | refine wpAny_bind (wpAny_pure ?_) | skip
  refine wpAny_bind (wpAny_sequenceKey ht.typeIs (by decide) ?_)
  refine wpAny_bind (wpAny_callSpecial?_slot (name := Str.ofString "__getitem__") ht.typeIs PyProof.Rows.slot_tuple_getitem
    (wpAny_call_entry PyProof.Rows.slot_tuple_getitem ht.typeIs entry_tuple_getitem ?_ (args_tuple_getitem _ _)))
  show wpAny _ _ (Builtin.Tuple.tupleItemsOf (.ref t) >>= _) _ _ s
  refine wpAny_bind (tupleItemsOf_ ht ?_)
  refine wpAny_bind (wpAny_typeOf hTs ?_)
  rw [if_pos (by decide)]
  refine wpAny_bind (sliceApplied_back hn hs pu ps ?_)
  have hno : ¬ ((((items.size : Int) - 1) == 0 && (-1 : Int) == 1 && (items.size - 1) == items.size) = true) := by
    intro q
    rw [Bool.and_eq_true, Bool.and_eq_true] at q
    exact absurd q.1.2 (by decide)
  show wpAny _ _ (if (((items.size : Int) - 1) == 0 && (-1 : Int) == 1 && (items.size - 1) == items.size) = true then _ else _) _ _ s
  rw [if_neg hno, pick_back items hn]
  first
    | exact wpAny_bind (m := Builtin.Tuple.tupleExact _) (wpAny_newObj_type (wpAny_pure ⟨_, rfl, wpAny_pure h⟩) htake)
    | exact wpAny_bind (m := Builtin.Tuple.tupleExact _) (wpAny_newObj_type (wpAny_bind (wpAny_pure (wpAny_pure ⟨_, rfl, wpAny_pure h⟩))) htake)
    | exact wpAny_bind (wpAny_bind (m := Builtin.Tuple.tupleExact _) (wpAny_newObj_type (wpAny_pure (wpAny_pure ⟨_, rfl, wpAny_pure h⟩)) htake))
    | exact wpAny_bind (wpAny_bind (m := Builtin.Tuple.tupleExact _) (wpAny_newObj_type (wpAny_pure ⟨_, rfl, wpAny_pure h⟩) htake))
end
/-- t[:0:-1] -/
def tBack (K : PySem.W.Frag) (te : TE) : TE := fun σ H Q => te σ H fun x H1 => ∃ a xs, x = .ref a ∧ SqT K H1 a xs ∧ 1 ≤ xs.length ∧ ∀ p, H1 p = none → Q (.ref p) (upd H1 p (.tup (xs.drop 1).reverse))
theorem pe_back {X : Cx} {e : Expr} {te : TE} {k k0 : Nat} {p0 p1 p2 p3 pos : Pos} (he : PE X e te) : PE X (.Subscript e (.Slice none (some (.Constant (.int 0) k0 p0)) (some (.UnaryOp .USub (.Constant (.int 1) k p1) p2)) p3) pos) (tBack X.K te) := by
  refine ⟨fun pins s σ H Q I h => ?_⟩
  refine Subscript_ (thn (he.run pins s σ H _ I h) fun v s1 ⟨x, H1, I1, r1, q1⟩ => ?_)
  obtain ⟨a, xs, ex, hx, hn, q⟩ := q1
  subst ex
  cases r1
  have hup : PO X (some (.Constant (.int 0) k0 p0)) (tPart (tC (.int 0))) := po_some pe_int
  have hst : PO X (some (.UnaryOp .USub (.Constant (.int 1) k p1) p2)) (tPart (tUn (rU fun i => .int (-i)) (tC (.int 1)))) := po_some (pe_un un_neg pe_int)
  refine wpAny_Slice (thn (po_none.run pins s1 σ H1 (fun o H2 => o = none ∧ H2 = H1) I1 ⟨rfl, rfl⟩) fun vl s2 ⟨l, H2, I2, pl, el, e2⟩ => ?_)
  subst el e2
  refine thn (hup.run pins s2 σ H2 (fun o H3 => o = some 0 ∧ H3 = H2) I2 ⟨0, rfl, rfl, rfl⟩) fun vu s3 ⟨u, H3, I3, pu, eu, e3⟩ => ?_
  subst eu e3
  refine thn (hst.run pins s3 σ H3 (fun o H4 => o = some (-1) ∧ H4 = H3) I3 ⟨1, rfl, -1, rfl, rfl, rfl⟩) fun vs s4 ⟨o, H4, I4, ps, eo, e4⟩ => ?_
  subst eo e4
  cases pl
  have I5 : Inv X pins σ H4 { s4 with heap := s4.heap.push { cls := .type "slice", data := .fields #[.none, vu, vs] } } := I4.kept (t' := s4.toks) fun b ob q => Heap.get?_push_of_some _ q
  obtain ⟨its, r, ht, hz⟩ := I5.tuple hx
  have hlen := r.length
  show wpAny (model X.prog X.w) X.A (subscriptTail e (.Slice none (some (.Constant (.int 0) k0 p0)) (some (.UnaryOp .USub (.Constant (.int 1) k p1) p2)) p3) (.ref a) (.ref s4.heap.objs.size)) (EP X pins σ Q) X.xe { s4 with heap := s4.heap.push { cls := .type "slice", data := .fields #[.none, vu, vs] } }
  refine tail_any (ops := [.ref a, .ref s4.heap.objs.size]) ht.typeIs (PyProof.Rows.slot_tuple_getitem.lookup) ?_ (by with_unfolding_all rfl)
  refine getItem_tuple_back ht (Heap.IsSliceOf.new _ .none vu vs) pu ps (by rw [List.size_toArray]; omega) ?_ (by rw [List.size_toArray]; omega)
  refine ⟨.ref _, _, I5.laid (t' := s4.toks) (o := .tup (xs.drop 1).reverse) (fun b ob q => Heap.get?_push_of_some _ q) (Nat.le_refl _) ?_, rfl, q _ (I5.hok.fresh (Nat.le_refl _))⟩
  exact ⟨by rw [List.length_reverse, List.length_drop]; omega, _, (r.drop 1).reverse, IsTup.new _ _⟩
end Fm
set_option maxRecDepth 100000
set_option maxHeartbeats 2000000
/-! Fm: terms and what is in them, as trees. -/
namespace Fm
open PySem PySem.Spec PyProof.Rows L2
mutual
/-- a term and each part in it, from left to right -/
def flat : D → List D
  | .tup ds => .tup ds :: flatT ds
  | d => [d]
def flatT : List D → List D
  | [] => []
  | _ :: r => flats r
def flats : List D → List D
  | [] => []
  | d :: r => flat d ++ flats r
end
theorem flats_app (a b : List D) : flats (a ++ b) = flats a ++ flats b := by
  induction a with
  | nil => simp [flats]
  | cons x r ih => simp only [List.cons_append, flats, ih, List.append_assoc]
mutual
theorem flat_len : ∀ d : D, (flat d).length ≤ d.size
  | .non => by simp [flat, D.size]
  | .bl _ => by simp [flat, D.size]
  | .int _ => by simp [flat, D.size]
  | .str _ => by simp [flat, D.size]
  | .dic => by simp [flat, D.size]
  | .lst _ => by simp [flat, D.size]
  | .tup ds => by
    have := flatT_len ds
    simp only [flat, D.size, List.length_cons]
    omega
theorem flatT_len : ∀ ds : List D, (flatT ds).length ≤ sizes ds
  | [] => by simp [flatT]
  | x :: r => by
    have := flats_len r
    simp only [flatT, sizes]
    omega
theorem flats_len : ∀ ds : List D, (flats ds).length ≤ sizes ds
  | [] => by simp [flats]
  | x :: r => by
    have h1 := flat_len x
    have h2 := flats_len r
    simp only [flats, sizes, List.length_append]
    omega
end
theorem DvL.rev {H : Hp} {vs : List V} {ds : List D} (h : DvL H vs ds) : DvL H vs.reverse ds.reverse := by
  induction vs generalizing ds with
  | nil => cases h; exact .nil
  | cons v r ih =>
    cases h with
    | cons a b =>
      rw [List.reverse_cons, List.reverse_cons]
      exact (ih b).app (.cons a .nil)
theorem sizes_rev (ds : List D) : sizes ds.reverse = sizes ds := by
  induction ds with
  | nil => rfl
  | cons x r ih => rw [List.reverse_cons, sizes_app, ih]; simp only [sizes]; omega
theorem hu1 {k : Nat} {A : Around} (hr : Room k A) : A.units + 1 < cLine := by have := hr.units; omega
theorem hu0 {k : Nat} {A : Around} (hr : Room k A) : A.units < cLine := by have := hr.units; omega
/-- laid_out: what is told stands where the terms stand -/
def spLaid (K : PySem.W.Frag) : Sp := fun vs H Q _ => ∃ Hb a us ds, vs = [.ref a] ∧ Same Hb H ∧ (SqL K H a us ∨ SqT K H a us) ∧ DvL Hb us ds ∧ (∀ d ∈ ds, Tm d) ∧ sizes ds ≤ 100000 ∧
  ∀ l H' ws, Same H H' → H l = none → H' l = some (.lst ws) → DvL Hb ws (flats ds) → Q (.ref l) H'

/-! ### nodes -/
def parts : D → List D
  | .tup (_ :: r) => r
  | _ => []
theorem flat_eq (d : D) : flat d = d :: flats (parts d) := by
  cases d with
  | tup ds => cases ds <;> simp [flat, flatT, parts, flats]
  | _ => simp [flat, parts, flats]
theorem flats_cons (d : D) (ds : List D) : flats (d :: ds) = d :: flats (parts d ++ ds) := by
  rw [flats_app]
  simp only [flats, flat_eq d, List.cons_append]
theorem flats_split {t : D} {suf : List D} : ∀ {pre ds : List D}, flats ds = pre ++ t :: suf → ∃ rest, suf = flats (parts t ++ rest)
  | [], [], h => by simp [flats] at h
  | [], d :: r, h => by
    rw [flats_cons, List.nil_append] at h
    injection h with h1 h2
    subst h1
    exact ⟨r, h2.symm⟩
  | p :: pre, [], h => by simp [flats] at h
  | p :: pre, d :: r, h => by
    rw [flats_cons, List.cons_append] at h
    injection h with h1 h2
    exact flats_split h2
theorem flats_inj : ∀ {es fs : List D}, flats es = flats fs → es = fs
  | [], [], _ => rfl
  | [], f :: fs, h => by rw [flats_cons] at h; simp [flats] at h
  | e :: es, [], h => by rw [flats_cons] at h; simp [flats] at h
  | e :: es, f :: fs, h => by
    rw [flats_cons, flats_cons] at h
    injection h with h1 h2
    subst h1
    rw [flats_app, flats_app] at h2
    rw [flats_inj (List.append_cancel_left h2)]
/-- the terms at these places -/
inductive Ats (ts : List D) : List Nat → List D → Prop
  | nil : Ats ts [] []
  | cons {j : Nat} {d : D} {js : List Nat} {ds : List D} : ts[j]? = some d → Ats ts js ds → Ats ts (j :: js) (d :: ds)
theorem Ats.len {ts : List D} {js : List Nat} {ds : List D} (h : Ats ts js ds) : js.length = ds.length := by
  induction h with
  | nil => rfl
  | cons _ _ ih => simp [ih]
theorem Ats.app {ts : List D} {js ks : List Nat} {ds es : List D} (h : Ats ts js ds) (g : Ats ts ks es) : Ats ts (js ++ ks) (ds ++ es) := by
  induction h with
  | nil => exact g
  | cons a _ ih => exact .cons a ih
theorem Ats.mono {ts us : List D} {js : List Nat} {ds : List D} (h : Ats ts js ds) (k : ∀ (j : Nat) (d : D), ts[j]? = some d → us[j]? = some d) : Ats us js ds := by
  induction h with
  | nil => exact .nil
  | cons a _ ih => exact .cons (k _ _ a) ih
theorem Ats.split {ts : List D} {js : List Nat} {ds es : List D} (h : Ats ts js (ds ++ es)) : Ats ts (js.take ds.length) ds ∧ Ats ts (js.drop ds.length) es := by
  induction ds generalizing js with
  | nil => exact ⟨.nil, h⟩
  | cons d r ih =>
    cases h with
    | cons a b => exact ⟨.cons a (ih b).1, (ih b).2⟩
theorem Ats.same {ts us : List D} {js : List Nat} {ds es : List D} (h : Ats ts js ds) (g : Ats us js es) (k : ∀ (j : Nat) (d : D), ts[j]? = some d → us[j]? = some d) : ds = es := by
  induction h generalizing es with
  | nil => cases g; rfl
  | cons a _ ih =>
    cases g with
    | cons b c =>
      rw [k _ _ a] at b
      injection b with b
      rw [b, ih c]
theorem Ats.inj {ts : List D} (nd : ts.Nodup) {js ks : List Nat} {ds : List D} (h : Ats ts js ds) (g : Ats ts ks ds) : js = ks := by
  induction h generalizing ks with
  | nil => cases g; rfl
  | cons a _ ih =>
    cases g with
    | cons b c =>
      rw [(List.getElem?_inj (List.getElem?_eq_some_iff.mp a).1 nd).mp (a.trans b.symm), ih c]
theorem Ats.get {ts : List D} {js : List Nat} {ds : List D} (h : Ats ts js ds) {i j : Nat} (e : js[i]? = some j) : ∃ d, ds[i]? = some d ∧ ts[j]? = some d := by
  induction h generalizing i with
  | nil => simp at e
  | cons a _ ih =>
    cases i with
    | zero => simp at e; subst e; exact ⟨_, rfl, a⟩
    | succ i =>
      obtain ⟨d, h1, h2⟩ := ih (i := i) (by simpa using e)
      exact ⟨d, by simpa using h1, h2⟩
def kI (j : Nat) : L2.Key := .inl (j : Int)
/-- the key of a term's node -/
inductive KeyOf (ts : List D) : List L2.Key → D → Prop
  | int (u : Int) : KeyOf ts [.inl u] (.int u)
  | tup (x : Str) (js : List Nat) (ds : List D) : PyData.strOk x = true → ds.length ≤ 100000 → Ats ts js ds → KeyOf ts (.inr x :: js.map kI) (.tup (.str x :: ds))
theorem keys_inj {js ks : List Nat} (h : js.map kI = ks.map kI) : js = ks := by
  refine (List.map_inj_right (f := kI) ?_).mp h
  intro a b e
  have := Sum.inl.inj e
  omega
theorem KeyOf.mono {ts us : List D} {k : List L2.Key} {d : D} (h : KeyOf ts k d) (m : ∀ (j : Nat) (d : D), ts[j]? = some d → us[j]? = some d) : KeyOf us k d := by
  cases h with
  | int u => exact .int u
  | tup x js ds o z a => exact .tup x js ds o z (a.mono m)
theorem KeyOf.fn {ts : List D} {k : List L2.Key} {d e : D} (h : KeyOf ts k d) (g : KeyOf ts k e) : d = e := by
  cases h with
  | int u => cases g; rfl
  | tup x js ds _ _ a =>
    generalize hk : ((Sum.inr x : L2.Key) :: js.map kI) = k' at g
    cases g with
    | int u => simp at hk
    | tup y ks es _ _ b =>
      injection hk with h1 h2
      injection h1 with h1
      have h3 := keys_inj h2
      subst h1 h3
      rw [a.same b (fun _ _ e => e)]
theorem KeyOf.inj {ts : List D} (nd : ts.Nodup) {k l : List L2.Key} {d : D} (h : KeyOf ts k d) (g : KeyOf ts l d) : k = l := by
  cases h with
  | int u => cases g; rfl
  | tup x js ds _ _ a =>
    cases g with
    | tup _ ks _ _ _ b => rw [a.inj nd b]
theorem take_get {ts : List D} {n j : Nat} {d : D} (h : (ts.take n)[j]? = some d) : ts[j]? = some d := by
  rw [List.getElem?_take] at h
  split at h
  · exact h
  · cases h
theorem app_get {ts us : List D} {j : Nat} {d : D} (h : ts[j]? = some d) : (ts ++ us)[j]? = some d := by
  rw [List.getElem?_append_left (List.getElem?_eq_some_iff.mp h).1]
  exact h
/-- a dict's entries are the nodes of these terms -/
structure NodesK (kvs : List (List L2.Key × V)) (ts : List D) : Prop where
  len : kvs.length = ts.length
  val : ∀ (n : Nat) (k : List L2.Key) (v : V), kvs[n]? = some (k, v) → v = .int (n : Int)
  key : ∀ (n : Nat) (k : List L2.Key) (v : V) (d : D), kvs[n]? = some (k, v) → ts[n]? = some d → KeyOf (ts.take n) k d
  nd : ts.Nodup
theorem valV_at {kvs : List (List L2.Key × V)} {k : List L2.Key} {v : V} (h : valV kvs k = some v) : ∃ n : Nat, kvs[n]? = some (k, v) := by
  unfold valV at h
  obtain ⟨⟨k', v'⟩, h1, h2⟩ := Option.map_eq_some_iff.mp h
  have h3 := List.find?_some h1
  simp only [decide_eq_true_eq] at h3 h2
  subst h3 h2
  exact List.mem_iff_getElem?.mp (List.mem_of_find?_eq_some h1)
theorem valV_none {kvs : List (List L2.Key × V)} {k : List L2.Key} (h : valV kvs k = none) {n : Nat} {v : V} : kvs[n]? ≠ some (k, v) := by
  intro e
  unfold valV at h
  rw [Option.map_eq_none_iff, List.find?_eq_none] at h
  have := h _ (List.mem_of_getElem? e)
  simp at this
theorem NodesK.nil : NodesK [] [] := ⟨rfl, fun _ _ _ h => by simp at h, fun _ _ _ _ h => by simp at h, List.nodup_nil⟩
theorem NodesK.old {kvs : List (List L2.Key × V)} {ts : List D} {k : List L2.Key} {v : V} {d : D} (N : NodesK kvs ts) (g : KeyOf ts k d) (h : valV kvs k = some v) : ∃ n : Nat, v = .int (n : Int) ∧ ts[n]? = some d := by
  obtain ⟨n, e⟩ := valV_at h
  have lt : n < ts.length := by
    have := (List.getElem?_eq_some_iff.mp e).1
    rw [N.len] at this
    exact this
  refine ⟨n, N.val _ _ _ e, ?_⟩
  have e2 : ts[n]? = some ts[n] := List.getElem?_eq_getElem lt
  have := (N.key _ _ _ _ e e2).mono (fun _ _ => take_get)
  rw [g.fn this]
  exact e2
theorem NodesK.new {kvs : List (List L2.Key × V)} {ts : List D} {k : List L2.Key} {d : D} (N : NodesK kvs ts) (g : KeyOf ts k d) (h : valV kvs k = none) : NodesK (kvs ++ [(k, .int (kvs.length : Int))]) (ts ++ [d]) := by
  have hd : d ∉ ts := by
    intro hm
    obtain ⟨n, e⟩ := List.mem_iff_getElem?.mp hm
    have lt : n < kvs.length := by
      rw [N.len]
      exact (List.getElem?_eq_some_iff.mp e).1
    have e2 : kvs[n]? = some (kvs[n].1, kvs[n].2) := List.getElem?_eq_getElem lt
    have g2 := (N.key _ _ _ _ e2 e).mono (fun _ _ => take_get)
    rw [g.inj N.nd g2] at h
    exact valV_none h e2
  refine ⟨by simp [N.len], ?_, ?_, ?_⟩
  · intro n k' v e
    by_cases lt : n < kvs.length
    · rw [List.getElem?_append_left lt] at e
      exact N.val _ _ _ e
    · rw [List.getElem?_append_right (by omega)] at e
      have : n - kvs.length = 0 := by
        have := (List.getElem?_eq_some_iff.mp e).1
        simp at this
        omega
      rw [this] at e
      simp at e
      rw [← e.2, show n = kvs.length by omega]
  · intro n k' v d' e f
    by_cases lt : n < kvs.length
    · rw [List.getElem?_append_left lt] at e
      rw [List.getElem?_append_left (by rw [← N.len]; exact lt)] at f
      rw [List.take_append_of_le_length (by rw [← N.len]; omega)]
      exact N.key _ _ _ _ e f
    · rw [List.getElem?_append_right (by omega)] at e
      rw [List.getElem?_append_right (by rw [← N.len]; omega)] at f
      have z : n - kvs.length = 0 := by
        have := (List.getElem?_eq_some_iff.mp e).1
        simp at this
        omega
      have z2 : n - ts.length = 0 := by rw [← N.len]; exact z
      rw [z] at e
      rw [z2] at f
      simp at e f
      rw [← e.1, ← f, show n = ts.length by rw [← N.len]; omega, List.take_left]
      exact g
  · rw [List.nodup_append]
    refine ⟨N.nd, by simp, ?_⟩
    intro a ha b hb
    simp at hb
    subst hb
    rintro rfl
    exact hd ha
/-- these tuples are the nodes of these terms -/
structure Nodes (H : Hp) (bs : List Addr) (ts : List D) : Prop where
  len : bs.length = ts.length
  node : ∀ (n : Nat) (b : Addr) (d : D), bs[n]? = some b → ts[n]? = some d → ∃ k, H b = some (.tup (k.map kV)) ∧ KeyOf (ts.take n) k d
  nd : ts.Nodup
theorem Nodes.same {H H' : Hp} {bs : List Addr} {ts : List D} (N : Nodes H bs ts) (k : Same H H') : Nodes H' bs ts :=
  ⟨N.len, fun n b d e f => let ⟨c, h1, h2⟩ := N.node n b d e f; ⟨c, k _ _ h1, h2⟩, N.nd⟩
theorem paired_get {α β : Type} {R : α → β → Prop} : ∀ {xs : List α} {ys : List β}, Paired R xs ys → ∀ (n : Nat) (y : β), ys[n]? = some y → ∃ x, xs[n]? = some x ∧ R x y
  | _, _, .nil, n, y, h => by simp at h
  | _, _, .cons a b, 0, y, h => by simp at h; subst h; exact ⟨_, rfl, a⟩
  | _, _, .cons a b, n + 1, y, h => by
    obtain ⟨x, h1, h2⟩ := paired_get b n y (by simpa using h)
    exact ⟨x, by simpa using h1, h2⟩
theorem NodesK.nodes {H : Hp} {kvs : List (List L2.Key × V)} {ts : List D} {bs : List Addr} (N : NodesK kvs ts) (h : IsKeys H kvs bs) : Nodes H bs ts := by
  refine ⟨by rw [← Paired.length h, N.len], fun n b d e f => ?_, N.nd⟩
  obtain ⟨⟨k, v⟩, h1, h2⟩ := paired_get h n b e
  exact ⟨k, h2, N.key _ _ _ _ h1 f⟩
theorem len_flats (ds : List D) : ds.length ≤ (flats ds).length := by
  induction ds with
  | nil => simp
  | cons d r ih =>
    rw [flats_cons, List.length_cons, List.length_cons, flats_app, List.length_append]
    omega
theorem flats_tm_go : ∀ (n : Nat) (ds : List D), (flats ds).length ≤ n → (∀ d ∈ ds, Tm d) → ∀ d ∈ flats ds, Tm d
  | _, [], _, _, d, h => by simp [flats] at h
  | 0, d :: r, hn, _, _, _ => by rw [flats_cons] at hn; simp at hn
  | n + 1, d :: r, hn, hm, e, he => by
    rw [flats_cons] at hn he
    rw [List.length_cons] at hn
    rcases List.mem_cons.mp he with rfl | he
    · exact hm _ List.mem_cons_self
    · refine flats_tm_go n _ (by omega) (fun f hf => ?_) e he
      rcases List.mem_append.mp hf with h | h
      · have := hm d List.mem_cons_self
        cases this with
        | int i => simp [parts] at h
        | tup x rs hr => exact hr f h
      · exact hm f (List.mem_cons_of_mem _ h)
theorem flats_tm {ds : List D} (h : ∀ d ∈ ds, Tm d) : ∀ d ∈ flats ds, Tm d := flats_tm_go _ ds (Nat.le_refl _) h
def vI (j : Nat) : V := .int (j : Int)
theorem pop_rev {js : List Nat} {j : Nat} (h : j < js.length) : ((js.drop j).reverse.map vI)[((js.drop j).reverse.map vI).length - 1]? = some (vI js[j]) ∧ ((js.drop j).reverse.map vI).dropLast = (js.drop (j + 1)).reverse.map vI := by
  rw [List.drop_eq_getElem_cons h, List.reverse_cons, List.map_append, List.map_singleton]
  refine ⟨?_, List.dropLast_concat⟩
  rw [List.length_append, List.length_singleton, Nat.add_sub_cancel, List.getElem?_append_right (Nat.le_refl _), Nat.sub_self]
  rfl
theorem kV_kI (js : List Nat) : (js.map kI).map kV = js.map vI := by
  rw [List.map_map]
  rfl
/-- shared -/
def spShared (K : PySem.W.Frag) : Sp := fun vs H Q _ => ∃ a us ds, vs = [.ref a] ∧ (SqL K H a us ∨ SqT K H a us) ∧ DvL H us ds ∧ (∀ d ∈ ds, Tm d) ∧ sizes ds ≤ 100000 ∧
  ∀ (p l1 l2 : Addr) (H' : Hp) (bs : List Addr) (ts : List D) (js : List Nat), Same H H' → H' p = some (.tup [.ref l1, .ref l2]) → H' l1 = some (.lst (bs.map V.ref)) → H' l2 = some (.lst (js.map vI)) → Nodes H' bs ts → Ats ts js ds → ts.length ≤ 100000 → (∀ t ∈ ts, t ∈ flats ds) → js.length ≤ 100000 → Q (.ref p) H'

/-! ### values put in -/
mutual
/-- the term in which each unknown is replaced -/
def putD (f : Int → D) : D → D
  | .int u => f u
  | .tup ds => .tup (putT f ds)
  | d => d
def putT (f : Int → D) : List D → List D
  | [] => []
  | x :: r => x :: puts f r
def puts (f : Int → D) : List D → List D
  | [] => []
  | d :: r => putD f d :: puts f r
end
theorem puts_map (f : Int → D) (ds : List D) : puts f ds = ds.map (putD f) := by
  induction ds with
  | nil => rfl
  | cons d r ih => rw [List.map_cons, puts, ih]
/-- values[u] -/
def Look (K : PySem.W.Frag) (H : Hp) (va : V) (u : Int) (v : V) : Prop := (∃ a xs, va = .ref a ∧ (SqL K H a xs ∨ SqT K H a xs) ∧ atI xs u = some v) ∨ ∃ a kvs, va = .ref a ∧ H a = some (.dK kvs) ∧ valV kvs (.inl u) = some v
theorem Look.same {K : PySem.W.Frag} {H H' : Hp} {va v : V} {u : Int} (h : Look K H va u v) (k : Same H H') : Look K H' va u v := by
  rcases h with ⟨a, xs, e, s, g⟩ | ⟨a, kvs, e, s, g⟩
  · exact .inl ⟨a, xs, e, s.imp (Evl.ex_l k) (Evl.ex_t k), g⟩
  · exact .inr ⟨a, kvs, e, k _ _ s, g⟩
section
variable {X : Cx} {e : Expr}
theorem pe_alt {t1 t2 : TE} (h1 : PE X e t1) (h2 : PE X e t2) : PE X e (fun σ H Q => t1 σ H Q ∨ t2 σ H Q) :=
  ⟨fun pins s σ H Q I h => h.elim (h1.run pins s σ H Q I) (h2.run pins s σ H Q I)⟩
end
theorem mon_ixT {K : PySem.W.Frag} {i : Nat} {y : V} : MonE (tOp (rIxT K) (tVar i) (tC y)) := by
  rintro σ H Q Q' k ⟨v, e, p, xs, j, z, h1, h2, h3, h4, q⟩
  exact ⟨v, e, p, xs, j, z, h1, h2, h3, h4, k _ _ q⟩
theorem DvL.map {H : Hp} {α : Type} {f : α → V} {g : α → D} : ∀ {as : List α}, (∀ a ∈ as, Dv H (f a) (g a)) → DvL H (as.map f) (as.map g)
  | [], _ => .nil
  | a :: r, h => .cons (h a List.mem_cons_self) (DvL.map fun b hb => h b (List.mem_cons_of_mem _ hb))
theorem DvL.snoc {H : Hp} {vs : List V} {ds : List D} {v : V} {d : D} (h : DvL H vs ds) (g : Dv H v d) : DvL H (vs ++ [v]) (ds ++ [d]) := h.app (.cons g .nil)
theorem dvl_ints {H : Hp} (js : List Nat) : DvL H (js.map vI) (js.map fun j : Nat => D.int (j : Int)) := DvL.map fun _ _ => .int _
/-- what is made of the terms at these places -/
def atV (mv : List V) : D → V
  | .int j => mv.getD j.toNat .non
  | _ => .non
theorem atV_get {mv : List V} {j : Nat} (h : j < mv.length) : mv[j]? = some (atV mv (.int (j : Int))) := by
  show mv[j]? = some (mv.getD (j : Int).toNat .non)
  rw [Int.toNat_natCast, List.getD_eq_getElem?_getD, List.getElem?_eq_getElem h]
  rfl
theorem made_parts {H : Hp} {ts : List D} {i : Nat} {f : Int → D} {mv : List V} (hm : DvL H mv ((ts.take i).map (putD f))) {js : List Nat} {ds : List D} (h : Ats (ts.take i) js ds) :
    DvL H ((js.map fun j : Nat => D.int (j : Int)).map (atV mv)) (puts f ds) := by
  induction h with
  | nil => exact .nil
  | @cons j d js ds a _ ih =>
    have e : ((ts.take i).map (putD f))[j]? = some (putD f d) := by rw [List.getElem?_map, a]; rfl
    obtain ⟨v, e1, e2⟩ := hm.getD e
    have lt := (List.getElem?_eq_some_iff.mp e1).1
    have e3 := atV_get lt
    rw [e1] at e3
    injection e3 with e3
    refine .cons ?_ ih
    show Dv H (atV mv (.int (j : Int))) (putD f d)
    rw [← e3]
    exact e2
/-- filled -/
def spFilled (K : PySem.W.Frag) : Sp := fun vs H Q _ => ∃ (l : Addr) (va : V) (bs : List Addr) (ts : List D) (f : Int → D), vs = [.ref l, va] ∧ H l = some (.lst (bs.map V.ref)) ∧ Nodes H bs ts ∧ ts.length ≤ 100000 ∧
  (∀ u, D.int u ∈ ts → ∃ v, Look K H va u v ∧ Dv H v (f u)) ∧ ∀ (m : Addr) (H' : Hp) (ws : List V), Same H H' → H' m = some (.lst ws) → DvL H' ws (ts.map (putD f)) → Q (.ref m) H'
theorem same_mask {H H' : Hp} {m : Addr} (k : Same H H') (h : H m = none) : Same H (mask m H') := fun a o e => by
  rw [mask_ne (ne_of_none e h)]
  exact k _ _ e
theorem mask_same2 {H H' : Hp} {m : Addr} (k : Same H H') : Same (mask m H) (mask m H') := fun a o e => by
  by_cases z : a = m
  · rw [z] at e
    simp [mask] at e
  · rw [mask_ne z] at e ⊢
    exact k _ _ e
theorem ats_sub {ts : List D} {js : List Nat} {ds : List D} (h : Ats ts js ds) : ∀ j ∈ js, j < ts.length := by
  induction h with
  | nil => exact fun _ h => by cases h
  | cons a _ ih =>
    intro j hj
    rcases List.mem_cons.mp hj with rfl | hj
    · exact (List.getElem?_eq_some_iff.mp a).1
    · exact ih j hj
/-- put_all -/
def spPutAll (K : PySem.W.Frag) : Sp := fun vs H Q _ => ∃ (a : Addr) (va : V) (us : List V) (ds : List D) (f : Int → D), vs = [.ref a, va] ∧ (SqL K H a us ∨ SqT K H a us) ∧ DvL H us ds ∧ (∀ d ∈ ds, Tm d) ∧ sizes ds ≤ 100000 ∧
  (∀ u, D.int u ∈ flats ds → ∃ v, Look K H va u v ∧ Dv H v (f u)) ∧ ∀ (m : Addr) (H' : Hp) (ws : List V), Same H H' → H m = none → H' m = some (.lst ws) → DvL (mask m H') ws (puts f ds) → Q (.ref m) H'
/-- put -/
def spPut (K : PySem.W.Frag) : Sp := fun vs H Q _ => ∃ (v va : V) (d : D) (f : Int → D), vs = [v, va] ∧ Dv H v d ∧ Tm d ∧ d.size ≤ 100000 ∧
  (∀ u, D.int u ∈ flat d → ∃ v, Look K H va u v ∧ Dv H v (f u)) ∧ ∀ (v' : V) (H' : Hp), Same H H' → Dv H' v' (putD f d) → Q v' H'
/-- how many operations -/
def opsOf (ds : List D) : Nat := ((flats ds).filter isT).length
def spSize (K : PySem.W.Frag) : Sp := fun vs H Q _ => ∃ a us ds, vs = [.ref a] ∧ (SqL K H a us ∨ SqT K H a us) ∧ DvL H us ds ∧ (∀ d ∈ ds, Tm d) ∧ sizes ds ≤ 100000 ∧ ∀ H', Same H H' → Q (.int (opsOf ds : Nat)) H'
def atVV (mv : List V) : V → V
  | .int j => mv.getD j.toNat .non
  | _ => .non
theorem atVV_map (mv : List V) (js : List Nat) : (js.map vI).map (atVV mv) = (js.map fun j : Nat => D.int (j : Int)).map (atV mv) := by
  rw [List.map_map, List.map_map]
  rfl
theorem atVV_get {mv : List V} {j : Nat} (h : j < mv.length) : mv[j]? = some (atVV mv (vI j)) := atV_get h
/-- [x for x in xs if keep(x)] over a list of data -/
theorem lc_keep {K : PySem.W.Frag} {te : TE} {tt : TT} {σ : L2.St} {H Hb : Hp} {a : Addr} {xs : List V} {ds : List D} {j : Nat} {vs : List Nat} {Dl : Addr} {Qd : Hp → Prop} (keep : D → Bool) (hT : SqL K H a xs) (hd : DvL Hb xs ds) (hD : H Dl = none) (hz : xs.length ≤ 100000)
    (hw : ∀ x, wipe ((wipe σ vs).set j (some x)) vs = wipe σ vs)
    (he : ∀ (x : V) (d : D) (H' : Hp) (R : Bool → Hp → Prop), Same H H' → d ∈ ds → Dv Hb x d → R (keep d) H' → tt ((wipe σ vs).set j (some x)) H' R)
    (hv : ∀ (x : V) (H' : Hp) (R : VK), R x H' → te ((wipe σ vs).set j (some x)) H' R)
    (q : ∀ H' zs, Same H H' → H' Dl = some (.lst zs) → DvL Hb zs (ds.filter keep) → Qd H') :
    ∃ W : Nat → Nat → Hp → Prop, (∃ m, W 0 m (upd H Dl (.lst []))) ∧ ∀ i m H, W i m H → ((Itl K a).stop i H ∧ Qd H) ∨ ((Itl K a).go i H ∧ ∃ Nx : Hp → Prop, (∀ H', Nx H' → ∃ m', m' < m ∧ W (i + 1) m' H') ∧
      ∀ x H', (Itl K a).yld i H x H' → gName j x (wipe σ vs) H' fun σ2 H2 => wipe σ2 vs = wipe σ vs ∧ tt σ2 H2 fun b H3 => if b = true then te σ2 H3 fun y H4 => ∃ acc, H4 Dl = some (.lst acc) ∧ acc.length < sizeLine ∧ Nx (upd H4 Dl (.lst (acc ++ [y]))) else Nx H3) := by
  have hlen := hd.len
  refine lc_list (fun i H' => Same H H' ∧ ∃ zs, H' Dl = some (.lst zs) ∧ DvL Hb zs ((ds.take i).filter keep)) ⟨Same.new hD, [], upd_same, .nil⟩ (fun i H' _ h => Evl.ex_l h.1 hT) ?_ ?_
  · rintro i x H1 hx ⟨k, zs, hl, hz2⟩
    obtain ⟨d, e1, hd1⟩ := hd.get hx
    have zl := hz2.len
    have zl2 := List.length_filter_le keep (ds.take i)
    rw [List.length_take] at zl2
    refine ⟨hw _, he x d _ _ k (tk e1) hd1 (ite_b (fun c => ?_) (fun c => ?_))⟩
    · refine hv x H1 _ ⟨zs, hl, szl (by omega), Same.upd k hD, zs ++ [x], upd_same, ?_⟩
      rw [take_succ' e1, List.filter_append, List.filter_cons, if_pos c, List.filter_nil]
      exact hz2.snoc hd1
    · refine ⟨k, zs, hl, ?_⟩
      rw [take_succ' e1, List.filter_append, List.filter_cons, if_neg (by rw [c]; decide), List.filter_nil, List.append_nil]
      exact hz2
  · rintro H' ⟨k, zs, hl, hz2⟩
    have : ds.take xs.length = ds := List.take_of_length_le (by omega)
    rw [this] at hz2
    exact q H' zs k hl hz2

/-! ### unknowns in their order -/
def intOf : D → Option Int
  | .int u => some u
  | _ => none
/-- the unknowns of terms from left to right -/
def leaves (ds : List D) : List Int := (flats ds).filterMap intOf
def addI (us : List Int) (u : Int) : List Int := if u ∈ us then us else us ++ [u]
/-- the different ones, in the order of their first places -/
def firstsOf (ds : List D) : List Int := (leaves ds).foldl addI []
def ordK : List Int → Nat → List (L2.Key × V)
  | [], _ => []
  | u :: r, n => (.inl u, .int (n : Int)) :: ordK r (n + 1)
theorem ordK_len (us : List Int) (n : Nat) : (ordK us n).length = us.length := by
  induction us generalizing n with
  | nil => rfl
  | cons u r ih => simp [ordK, ih]
theorem ordK_app (us : List Int) (u : Int) (n : Nat) : ordK (us ++ [u]) n = ordK us n ++ [(.inl u, .int ((n + us.length : Nat) : Int))] := by
  induction us generalizing n with
  | nil => rfl
  | cons v r ih =>
    simp only [List.cons_append, ordK, ih, List.length_cons]
    congr 3
    simp only [List.cons.injEq, Prod.mk.injEq, true_and, and_true]
    congr 2
    omega
theorem ordK_val (us : List Int) (u : Int) (n : Nat) : valV (ordK us n) (.inl u) = if u ∈ us then some (.int ((n + us.idxOf u : Nat) : Int)) else none := by
  induction us generalizing n with
  | nil => rfl
  | cons v r ih =>
    by_cases e : v = u
    · subst e
      rw [ordK, valV_pos rfl, if_pos List.mem_cons_self, List.idxOf_cons_self]
      rfl
    · have e2 : ¬ ((Sum.inl v : L2.Key) = .inl u) := fun z => e (Sum.inl.inj z)
      rw [ordK, valV_neg e2, ih]
      have e3 : (u ∈ v :: r) ↔ u ∈ r := by simp [Ne.symm e]
      by_cases m : u ∈ r
      · have e4 : (v :: r).idxOf u = r.idxOf u + 1 := by
          rw [List.idxOf_cons, show (v == u) = false from by simpa using e]
          rfl
        rw [if_pos m, if_pos (e3.mpr m), e4]
        congr 3
        omega
      · rw [if_neg m, if_neg (fun z => m (e3.mp z))]
theorem addI_mem {us : List Int} {u v : Int} : v ∈ addI us u ↔ v ∈ us ∨ v = u := by
  unfold addI
  split
  · constructor
    · exact .inl
    · rintro (h | rfl)
      · exact h
      · assumption
  · simp
theorem foldl_addI_mem {ls us : List Int} {v : Int} : v ∈ ls.foldl addI us ↔ v ∈ us ∨ v ∈ ls := by
  induction ls generalizing us with
  | nil => simp
  | cons u r ih =>
    rw [List.foldl_cons, ih, addI_mem, List.mem_cons]
    constructor
    · rintro ((h | h) | h)
      · exact .inl h
      · exact .inr (.inl h)
      · exact .inr (.inr h)
    · rintro (h | h | h)
      · exact .inl (.inl h)
      · exact .inl (.inr h)
      · exact .inr h
theorem firstsOf_mem {ds : List D} {u : Int} : u ∈ firstsOf ds ↔ D.int u ∈ flats ds := by
  unfold firstsOf leaves
  rw [foldl_addI_mem]
  simp only [List.not_mem_nil, false_or, List.mem_filterMap]
  constructor
  · rintro ⟨d, h1, h2⟩
    cases d <;> simp [intOf] at h2
    subst h2
    exact h1
  · exact fun h => ⟨_, h, rfl⟩
theorem addI_len (us : List Int) (u : Int) : (addI us u).length ≤ us.length + 1 := by
  unfold addI
  split <;> simp
theorem foldl_addI_len (ls us : List Int) : (ls.foldl addI us).length ≤ us.length + ls.length := by
  induction ls generalizing us with
  | nil => simp
  | cons u r ih =>
    have h1 := ih (addI us u)
    have h2 := addI_len us u
    rw [List.foldl_cons, List.length_cons]
    omega
/-- the number of an unknown -/
def numF (ds : List D) (u : Int) : D := .int ((firstsOf ds).idxOf u : Nat)
def spNumbered (K : PySem.W.Frag) : Sp := fun vs H Q _ => ∃ (a : Addr) (us : List V) (ds : List D), vs = [.ref a] ∧ (SqL K H a us ∨ SqT K H a us) ∧ DvL H us ds ∧ (∀ d ∈ ds, Tm d) ∧ sizes ds ≤ 100000 ∧
  ∀ (m : Addr) (H' : Hp) (ws : List V), Same H H' → H m = none → H' m = some (.lst ws) → DvL (mask m H') ws (puts (numF ds) ds) → Q (.ref m) H'
end Fm
set_option maxRecDepth 100000
set_option maxHeartbeats 2000000
/-! Fm: set comprehensions over any kind of tracked sets; sets of ints. -/
namespace Fm
open PySem PySem.Spec PyProof.Rows L2 PpSet
/-- what a new set's object is -/
abbrev noSet (w : World) : Obj := { cls := .type "set", dict := none, data := .set #[] 0 (.fresh 0 0 (!w.params.followText "set-order")) }
/-- a kind of tracked sets: states, the empty one, what adding a value makes of a state -/
structure SetK' (P : Program) (w : World) (S : Type) where
  obj : Addr → S → HO
  init : S
  step : S → V → S → Prop
  fresh : ∀ (H : Hp) (h : Heap), ObjOk P w H (h.push (noSet w)) h.objs.size (obj h.objs.size init)
  add : ∀ (X : Cx), X.prog = P → X.w = w → ∀ {pins : List (Addr × Obj)} {σ : L2.St} {H : Hp} {s : Shared} {E : Value → Shared → Prop} {D : Addr} {a b : S} {y : V} {u : Value} {Q : Value → Shared → Prop}, Inv X pins σ H s → H D = some (obj D a) → RelV y u → step a y b →
    (∀ s', Inv X pins σ (upd H D (obj D b)) s' → Q .none s') → wpAny (model X.prog X.w) X.A (call (.builtin "set.add") [.ref D, u]) Q E s
section
variable {X : Cx} {S : Type}
/-- {elt for target in iter if ..}: D the new set, W by the turn and a measure -/
def tSetC (k : SetK' X.prog X.w S) (wi : TI) (g : TG) (tt : TT) (te : TE) (vs : List Nat) : TE := fun σ H Q => wi σ H fun J H1 => ∀ D, H1 D = none → ∃ W : Nat → Nat → Hp → Prop, (∃ m, W 0 m (upd H1 D (k.obj D k.init))) ∧ ∀ i m H, W i m H →
  (J.stop i H ∧ Q (.ref D) H) ∨ (J.go i H ∧ ∃ Nx : Hp → Prop, (∀ H', Nx H' → ∃ m', m' < m ∧ W (i + 1) m' H') ∧ ∀ x H', J.yld i H x H' → g x (wipe σ vs) H' fun σ2 H2 => wipe σ2 vs = wipe σ vs ∧ tt σ2 H2 fun b H3 =>
    if b = true then te σ2 H3 fun y H4 => ∃ a b, H4 D = some (k.obj D a) ∧ k.step a y b ∧ Nx (upd H4 D (k.obj D b)) else Nx H3)
theorem pe_setC (k : SetK' X.prog X.w S) {elt tg iter : Expr} {ifs : List Expr} {scope : Scope} {own : List (PySem.Str × Nat)} {pos : Pos} {wi : TI} {g : TG} {tt : TT} {te : TE} (hc : X.calm = true) (hN : X.N.Nodup) (hi : PI X tg iter wi) (ok : BlkOk X.N X.env.scope scope own)
    (hg : ∀ (s : Shared) (H : Hp) (C : Addr) (cl : List (PySem.Str × Addr)) (fp : List Addr), PG (X.blk s H scope (compEnvC scope cl C X.env) fp) tg g) (ht : ∀ (s : Shared) (H : Hp) (C : Addr) (cl : List (PySem.Str × Addr)) (fp : List Addr), PTs (X.blk s H scope (compEnvC scope cl C X.env) fp) ifs tt)
    (he : ∀ (s : Shared) (H : Hp) (C : Addr) (cl : List (PySem.Str × Addr)) (fp : List Addr), PE (X.blk s H scope (compEnvC scope cl C X.env) fp) elt te) (hs : ∀ x, foldedSetIterable iter X.env x = pure x := by intro _; rfl) :
    PE X (.SetComp elt [⟨tg, iter, ifs, 0⟩] scope pos) (tSetC k wi g tt te (own.map (·.2))) := by
  refine ⟨fun pins s σ H Q I h => ?_⟩
  rw [eval_SetComp]
  have free : ∀ y ∈ scope.names, y.2 = .free → ∃ c, X.env.cells.lookup y.1 = some c := fun y hy e => (ok.free y hy e).elim (fun z => I.ok.has _ (.inl z)) fun z => I.ok.has _ (.inr z)
  refine wpAny_comprehension_free rfl hs (closure_ok free) ok.kind (fun y hy e => by rw [ok.uniq y hy, e]) (thn (hi.run pins s σ H _ I h) fun xv s1 hx => thn hx fun itv s2 ⟨it, fp, tn, J, H2, e, I2, T, st2, f2, q⟩ => ?_)
  subst e
  refine newSet_ok (newEnv_comp ?_)
  -- the new set, at the end of the heap
  generalize hD : s2.heap.objs.size = D
  obtain ⟨W, ⟨m0, w0⟩, turn⟩ := q D (I2.hok.fresh (Nat.le_of_eq hD))
  generalize hs3 : ({ s2 with heap := s2.heap.push (noSet X.w) } : Shared) = s3
  have h3 : s3.heap = s2.heap.push (noSet X.w) := by rw [← hs3]
  have I3 : Inv X pins σ (upd H2 D (k.obj D k.init)) s3 := by
    rw [← hs3, ← hD]
    exact I2.laid (t' := s2.toks) (fun b o e => Heap.get?_push_of_some _ e) (Nat.le_refl _) (k.fresh _ _)
  have up : ∀ b o, s2.heap.get? b = some o → s3.heap.get? b = some o := fun b o e => by rw [h3]; exact Heap.get?_push_of_some _ e
  have f3 : ∀ b ∈ fp, FpOk X pins (upd H2 D (k.obj D k.init)) b ∧ b < s3.heap.objs.size := fun b hb => by
    obtain ⟨o, e, _⟩ := T.obj _ _ st2 b hb
    have lt : b < D := by rw [← hD]; exact Heap.lt_size e
    exact ⟨⟨by rw [upd_ne (Nat.ne_of_lt lt)]; exact (f2 b hb).1, (f2 b hb).2⟩, Heap.lt_size (up b o e)⟩
  have I4 := block_start I3 ok hN f3
  have pg := hg s3 (upd H2 D (k.obj D k.init)) s3.heap.objs.size (cellsFrom (s3.heap.objs.size + 1) scope.names (cloFrom X.env.cells scope.names [])) fp
  have pt := ht s3 (upd H2 D (k.obj D k.init)) s3.heap.objs.size (cellsFrom (s3.heap.objs.size + 1) scope.names (cloFrom X.env.cells scope.names [])) fp
  have pe := he s3 (upd H2 D (k.obj D k.init)) s3.heap.objs.size (cellsFrom (s3.heap.objs.size + 1) scope.names (cloFrom X.env.cells scope.names [])) fp
  have none3 : ∀ b ∈ fp, (upd H2 D (k.obj D k.init)) b = none := fun b hb => (f3 b hb).1.1
  show codeAny _ _ (.compStart (.SetComp elt [⟨tg, iter, ifs, 0⟩] scope pos) 0 (.ref it) (.ref D) (compEnvC scope (cellsFrom (s3.heap.objs.size + 1) scope.names (cloFrom X.env.cells scope.names [])) s3.heap.objs.size X.env)) _ { s3 with heap := pushCells (s3.heap.push { cls := .type "dict", data := .dict #[] }) scope.names }
  generalize hce : compEnvC scope (cellsFrom (s3.heap.objs.size + 1) scope.names (cloFrom X.env.cells scope.names [])) s3.heap.objs.size X.env = ce at I4 pg pt pe ⊢
  have cL : ce.locals = s3.heap.objs.size := by subst hce; rfl
  generalize hH3 : upd H2 D (k.obj D k.init) = H3 at I3 I4 pg pt pe w0 none3 f3
  generalize hs4 : ({ s3 with heap := pushCells (s3.heap.push { cls := .type "dict", data := .dict #[] }) scope.names } : Shared) = s4 at I4 ⊢
  have st4 : tn 0 s4.heap := T.keep _ _ _ (T.keep _ _ _ st2 fun b _ o e => up b o e) fun b _ o e => by rw [← hs4]; exact pushCells_keeps _ _ _ _ (Heap.get?_push_of_some _ e)
  have stat : ∀ {σ' : L2.St} {H' : Hp} {s' : Shared}, Inv (X.blk s3 H3 scope ce fp) [] σ' H' s' → (∀ b ∈ fp, H' b = none) → ∀ b ∈ fp, FpOk (X.blk s3 H3 scope ce fp) [] H' b := fun I' hn b hb =>
    ⟨hn b hb, (I'.ok.exf b hb).1, I'.ok.exfs b hb, .inl hb, fun x c e => (I'.ok.exf b hb).2 x c e, fun p hp => absurd (show p ∈ ([] : List (Addr × Obj)) ++ [] from hp) (by simp)⟩
  refine (fun loop => codeAny_compStart_set loop (T.self X.A 0 _ _ _ st4 loop)) ?_
  refine compLoopS_any (fun n s' => ∃ i H', Inv (X.blk s3 H3 scope ce fp) [] (wipe σ (own.map (·.2))) H' s' ∧ tn i s'.heap ∧ (∀ b ∈ fp, H' b = none) ∧ W i n H') ?_ m0 ⟨0, H3, I4, st4, none3, w0⟩
  rintro n s5 ⟨i, H5, I5, st5, n5, w5⟩
  rcases turn i n H5 w5 with ⟨stop, qq⟩ | ⟨go, Nx, hNx, step⟩
  · refine thnF (T.done (X.blk s3 H3 scope ce fp) rfl rfl rfl hc i [] s5 _ H5 (fun _ _ => False) I5 (stat I5 n5) st5 stop) fun r s6 ⟨hr, I6⟩ => ?_
    subst hr
    have I7 : Inv X pins σ H5 s6 := I3.call' (ch := fp) I6.os I6.base I6.hok I6.bare fun b hb => let z := (f3 b hb).1; ⟨z.2.2.2.1, z.2.1, z.2.2.2.2.1, z.2.2.2.2.2⟩
    have nC : H5 s3.heap.objs.size = none := by rw [← cL]; exact I6.free
    obtain ⟨m, hn, _⟩ := I6.loc
    have hn : s6.heap.Ns s3.heap.objs.size m := by rw [← cL]; exact hn
    refine ⟨m, hn, fun h'' sb => ?_⟩
    obtain ⟨f0, f1, f2', f3', f4, f5⟩ := I3.fpOk (H' := H5) (Nat.le_refl _) nC
    exact ⟨.ref D, H5, I7.turned (t' := s6.toks) (fun b o hb e => (sb.2 b hb).trans e) f0 f1 f3' f4 f5, rfl, qq⟩
  · refine thnF (T.item (X.blk s3 H3 scope ce fp) rfl rfl rfl hc i [] s5 _ H5 (fun _ _ => False) I5 (stat I5 n5) st5 go) fun r s6 ⟨u, hr, h6⟩ => ?_
    subst hr
    refine thnF h6 fun _ s7 ⟨x, H7, I7, r7, y7, st7, n7⟩ => ?_
    refine thnF (pg.run _ s7 _ H7 x u _ (I7.pinned (stat I7 n7) (T.obj _ _ st7)) r7 (step x H7 y7)) fun _ s8 ⟨σ8, H8, I8, hw8, q8⟩ => ?_
    refine thnF (pt.run _ s8 σ8 H8 _ I8 q8) fun b s9 ⟨H9, I9, q9⟩ => ?_
    have fin : ∀ {s' : Shared} {H' : Hp}, Inv (X.blk s3 H3 scope ce fp) ([] ++ pinsAt fp s7.heap) σ8 H' s' → Nx H' → ∃ m, m < n ∧ ∃ i H', Inv (X.blk s3 H3 scope ce fp) [] (wipe σ (own.map (·.2))) H' s' ∧ tn i s'.heap ∧ (∀ b ∈ fp, H' b = none) ∧ W i m H' := fun {s' H'} I' nx => by
      obtain ⟨m', hm, w'⟩ := hNx H' nx
      have pin' : ∀ b ∈ fp, ∀ o, s7.heap.get? b = some o → s'.heap.get? b = some o ∧ H' b = none := fun b hb o e =>
        let z := I'.pin (b, o) (List.mem_append_right _ (List.mem_append_right _ (mem_pinsAt hb e)))
        ⟨z.1, z.2.1⟩
      refine ⟨m', hm, i + 1, H', (I'.unpinned (pins := [])).weak (by rw [← hw8, wipe_length]) (fun j v e => ?_), T.keep _ _ _ st7 fun b hb o e => (pin' b hb o e).1, fun b hb => ?_, w'⟩
      · rw [← hw8] at e
        exact (wipe_some e).1
      · obtain ⟨o, e, _⟩ := T.obj _ _ st7 b hb
        exact (pin' b hb o e).2
    cases b with
    | false =>
      rw [if_neg (by decide)] at q9
      rw [if_neg (by decide)]
      exact fin I9 q9
    | true =>
      rw [if_pos rfl] at q9
      rw [if_pos rfl]
      refine thnF (pe.run _ s9 σ8 H9 _ I9 q9) fun z s10 ⟨yv, H10, I10, r10, a, b, hD10, hst, nx⟩ => ?_
      exact k.add (X.blk s3 H3 scope ce fp) rfl rfl I10 hD10 r10 hst fun s11 I11 => fin I11 nx
/-- sets of ints -/
def intSets (P : Program) (w : World) : SetK' P w ((Int → Bool) × Nat) where
  obj D a := SetO w D a.1 a.2
  init := (fun _ => false, 0)
  step a y b := ∃ c, y = .int c ∧ a.2 + 1 < scanBound ∧ b = (fun j => a.1 j || decide (j = c), if a.1 c = true then a.2 else a.2 + 1)
  fresh H h := setO_new (setR_fresh w)
  add := by
    rintro X rfl rfl pins σ H s E D ⟨S, n⟩ b y u Q I hD r ⟨c, rfl, room, rfl⟩ q
    obtain ⟨t, rfl⟩ := r
    refine setR_add (setO_get I hD) room fun h' sb new => ?_
    have he : ∃ u, h'.get? D = some u := by
      have ⟨o, _, _, _, ho, _⟩ := new
      exact ⟨o, ho⟩
    exact q _ (I.write (e := D) (t' := s.toks + 1) (by rw [hD]; trivial) (.inl rfl) (fun b u hb hu => (sb.2 b hb).trans hu) he (setO_new new))
end
section
variable {J : It} {n : Nat} {G : Hp → Prop} {Y : Nat → Hp → V → Hp → Prop} {P : Program} {w : World} {S : Type}
/-- a set comprehension over a walk -/
theorem setC_it (k : SetK' P w S) (wk : Walk J n G Y) {g : TG} {tt : TT} {te : TE} {vs : List Nat} {σ : L2.St} {H1 : Hp} {D : Addr} {Qd : Hp → Prop} (Pv : Nat → Hp → Prop) (h0 : Pv 0 (upd H1 D (k.obj D k.init))) (hG : ∀ i H, i ≤ n → Pv i H → G H)
    (hs : ∀ i x H H', i < n → Pv i H → Y i H x H' → g x (wipe σ vs) H' fun σ2 H2 => wipe σ2 vs = wipe σ vs ∧ tt σ2 H2 fun b H3 =>
      if b = true then te σ2 H3 fun y H4 => ∃ a b, H4 D = some (k.obj D a) ∧ k.step a y b ∧ Pv (i + 1) (upd H4 D (k.obj D b)) else Pv (i + 1) H3) (hd : ∀ H, Pv n H → Qd H) :
    ∃ W : Nat → Nat → Hp → Prop, (∃ m, W 0 m (upd H1 D (k.obj D k.init))) ∧ ∀ i m H, W i m H →
      (J.stop i H ∧ Qd H) ∨ (J.go i H ∧ ∃ Nx : Hp → Prop, (∀ H', Nx H' → ∃ m', m' < m ∧ W (i + 1) m' H') ∧ ∀ x H', J.yld i H x H' → g x (wipe σ vs) H' fun σ2 H2 => wipe σ2 vs = wipe σ vs ∧ tt σ2 H2 fun b H3 =>
        if b = true then te σ2 H3 fun y H4 => ∃ a b, H4 D = some (k.obj D a) ∧ k.step a y b ∧ Nx (upd H4 D (k.obj D b)) else Nx H3) := by
  refine ⟨fun i m H => m = n - i ∧ i ≤ n ∧ Pv i H, ⟨n, by simp, Nat.zero_le _, h0⟩, ?_⟩
  rintro i m H ⟨rfl, hi, p⟩
  have q := hG i H hi p
  by_cases hlt : i < n
  · exact .inr ⟨wk.goes i H hlt q, Pv (i + 1), fun H' p' => ⟨n - (i + 1), by omega, rfl, hlt, p'⟩, fun x H' y => hs i x H H' hlt p (wk.yields i H x H' hlt q y)⟩
  · have e : i = n := by omega
    subst e
    exact .inl ⟨wk.stops H q, hd H p⟩
end
/-- the state of a set of these ints -/
def setAt (us : List Int) : (Int → Bool) × Nat := (fun j => decide (j ∈ us), us.length)
theorem setAt_step {P : Program} {w : World} {us : List Int} {u : Int} (h : us.length + 1 < scanBound) : (intSets P w).step (setAt us) (.int u) (setAt (addI us u)) := by
  refine ⟨u, rfl, h, ?_⟩
  unfold setAt addI
  by_cases m : u ∈ us
  · rw [if_pos m]
    simp only [m, decide_true, if_true]
    refine Prod.ext ?_ rfl
    funext j
    by_cases e : j = u
    · subst e
      simp [m]
    · simp [e]
  · rw [if_neg m]
    simp only [m, decide_false, Bool.false_eq_true, if_false, List.length_append, List.length_singleton]
    refine Prod.ext ?_ rfl
    funext j
    simp
theorem foldl_addI_mono (ls us : List Int) : us.length ≤ (ls.foldl addI us).length := by
  induction ls generalizing us with
  | nil => exact Nat.le_refl _
  | cons u r ih =>
    refine Nat.le_trans ?_ (ih (addI us u))
    unfold addI
    split <;> simp
theorem firsts_take (ds : List D) (i : Nat) : ((((flats ds).take i).filterMap intOf).foldl addI []).length ≤ (firstsOf ds).length := by
  have e : leaves ds = ((flats ds).take i).filterMap intOf ++ ((flats ds).drop i).filterMap intOf := by
    rw [← List.filterMap_append, List.take_append_drop]
    rfl
  unfold firstsOf
  rw [e, List.foldl_append]
  exact foldl_addI_mono _ _
/-- unknowns -/
def spUnknowns (K : PySem.W.Frag) : Sp := fun vs H Q _ => ∃ (a : Addr) (us : List V) (ds : List D), vs = [.ref a] ∧ (SqL K H a us ∨ SqT K H a us) ∧ DvL H us ds ∧ (∀ d ∈ ds, Tm d) ∧ sizes ds ≤ 100000 ∧ (firstsOf ds).length < 64 ∧
  ∀ (p : Addr) (H' : Hp) (ns : List Int), Same H H' → H p = none → H' p = some (.lst (ns.map V.int)) → ns.Pairwise (· < ·) → (∀ k, k ∈ ns ↔ D.int k ∈ flats ds) → Q (.ref p) H'

/-! ### parts of a tuple -/
section
variable {K : PySem.W.Frag} {H : Hp} {a : Addr} {w0 : V} {wr : List V} {Q : VK}
/-- t[:1] -/
theorem first_one (h : H a = some (.tup (w0 :: wr))) (q : ∀ t1 H1, Same H H1 → H1 t1 = some (.tup [w0]) → (t1 = a ∨ H t1 = none) → Q (.ref t1) H1) : rSlA K (.ref a) none (some 1) H Q := by
  refine ⟨a, _, rfl, SqT.of h, fun z => ?_, fun _ p hp => ?_⟩
  · have z2 := z.2
    have e : HT.sIx (w0 :: wr).length (w0 :: wr).length (some 1) = min 1 (w0 :: wr).length := sIx_at (by decide)
    rw [e] at z2
    simp only [List.length_cons] at z2
    have : wr = [] := List.length_eq_zero_iff.mp (by omega)
    subst this
    exact q a H (Same.refl _) h (.inl rfl)
  · have e : cutV (w0 :: wr) none (some 1) = [w0] := by
      unfold cutV
      rw [sIx_at (by decide), sIx_none]
      simp
    rw [e]
    exact q p _ (Same.new hp) upd_same (.inr hp)
/-- t[1:] -/
theorem tail_one {σ : L2.St} (h : H a = some (.tup (w0 :: wr))) (q : ∀ p, H p = none → Q (.ref p) (upd H p (.tup wr))) : tNoPart σ H fun u H3 => rSlA K (.ref a) (some 1) u H3 Q := by
  show rSlA K (.ref a) (some 1) none H Q
  obtain ⟨u1, u2⟩ := cutV_one (w0 :: wr) (by simp)
  refine ⟨a, _, rfl, SqT.of h, fun z => absurd z u2, fun _ p hp => ?_⟩
  rw [u1]
  exact q p hp
/-- (x,) + t -/
theorem cat_one {t1 t2 : Addr} {ws : List V} (h1 : H t1 = some (.tup [w0])) (h2 : H t2 = some (.tup ws)) (hz : ws.length ≤ 100000) (q : ∀ tt H4, Same H H4 → H4 tt = some (.tup (w0 :: ws)) → (tt = t1 ∨ H tt = none) → Q (.ref tt) H4) : rCatA K (.ref t1) (.ref t2) H Q := by
  refine ⟨t1, t2, _, _, rfl, rfl, SqT.of h1, SqT.of h2, ?_, fun z => (by cases z), fun _ z => ?_, fun _ _ p hp => q p _ (Same.new hp) upd_same (.inr hp)⟩
  · simp only [List.length_cons, List.length_nil]
    exact sz (by omega)
  · subst z
    exact q t1 H (Same.refl _) h1 (.inl rfl)
end
section
variable {X : Cx} {tg e : Expr}
theorem pi_alt {w1 w2 : TI} (h1 : PI X tg e w1) (h2 : PI X tg e w2) : PI X tg e (fun σ H R => w1 σ H R ∨ w2 σ H R) :=
  ⟨fun pins s σ H R I h => h.elim (h1.run pins s σ H R I) (h2.run pins s σ H R I)⟩
end
theorem mem_flat_part {d : D} {x : Str} {rs : List D} {u : Int} (hd : d ∈ rs) (h : D.int u ∈ flat d) : D.int u ∈ flat (.tup (.str x :: rs)) := by
  have e : flat (.tup (.str x :: rs)) = .tup (.str x :: rs) :: flats rs := by simp [flat, flatT]
  rw [e]
  refine List.mem_cons_of_mem _ ?_
  induction rs with
  | nil => cases hd
  | cons c r ih =>
    simp only [flats, List.mem_append]
    rcases List.mem_cons.mp hd with rfl | hd
    · exact .inl h
    · exact .inr (ih hd (by simp [flat, flatT]))
/-- a heap and what is laid over it -/
def ovl (Hb N : Hp) : Hp := fun a => match Hb a with
  | some o => some o
  | none => N a
section
variable {Hb N N' H H' : Hp}
theorem ovl_base : Same Hb (ovl Hb N) := fun a o e => by
  unfold ovl
  rw [e]
theorem ovl_new {a : Addr} {o : HO} (h : Hb a = none) (e : N a = some o) : ovl Hb N a = some o := by
  unfold ovl
  rw [h]
  exact e
theorem ovl_mono (k : Same N N') : Same (ovl Hb N) (ovl Hb N') := fun a o e => by
  unfold ovl at e ⊢
  cases z : Hb a with
  | some u =>
    rw [z] at e
    exact e
  | none =>
    rw [z] at e
    exact k _ _ e
theorem ovl_sub (k : Same Hb H') (k2 : Same N H') : Same (ovl Hb N) H' := fun a o e => by
  unfold ovl at e
  cases z : Hb a with
  | some u =>
    rw [z] at e
    cases e
    exact k _ _ z
  | none =>
    rw [z] at e
    exact k2 _ _ e
end
theorem Same.none {H H' : Hp} {l : Addr} (k : Same H H') (h : H' l = none) : H l = none := by
  cases e : H l with
  | none => rfl
  | some o =>
    rw [k _ _ e] at h
    cases h
/-- _law_put: what is told stands in Hb and in what is new -/
def spLPut (K : PySem.W.Frag) (m : Nat) : Sp := fun vs H Q _ => ∃ (Hb : Hp) (v va : V) (d : D) (f : Int → D), vs = [v, va] ∧ Same Hb H ∧ Dv Hb v d ∧ Tm d ∧ d.deep < m ∧ d.size ≤ 100000 ∧
  (∀ u, D.int u ∈ flat d → ∃ v, Look K H va u v ∧ Dv Hb v (f u)) ∧ ∀ (v' : V) (H' : Hp), Same H H' → Dv (ovl Hb (newof H H')) v' (putD f d) → Q v' H'
/-- [f(x) for x in xs], each turn may leave new things and gives new data -/
theorem lc_newD {J : It} {G : Hp → Prop} {te : TE} {tt : TT} {σ : L2.St} {H Hb : Hp} {xs : List V} {ds : List D} {j : Nat} {vs : List Nat} {Dl : Addr} {Qd : Hp → Prop} (f : D → D) (wk : Walk J xs.length G (YAt xs)) (hG : ∀ H', Same H H' → G H') (hd : DvL Hb xs ds) (hD : H Dl = none) (hz : xs.length ≤ 100000)
    (hw : ∀ x, wipe ((wipe σ vs).set j (some x)) vs = wipe σ vs) (he : ∀ σ' H' (R : Bool → Hp → Prop), R true H' → tt σ' H' R)
    (hv : ∀ (x : V) (d : D) (H' : Hp) (R : VK), Same H H' → d ∈ ds → Dv Hb x d → (∀ y H2, Same H' H2 → Dv (ovl Hb (newof H' H2)) y (f d) → R y H2) → te ((wipe σ vs).set j (some x)) H' R)
    (q : ∀ H' zs, Same H H' → H' Dl = some (.lst zs) → DvL (ovl Hb (newof (upd H Dl (.lst [])) H')) zs (ds.map f) → Qd H') :
    ∃ W : Nat → Nat → Hp → Prop, (∃ m, W 0 m (upd H Dl (.lst []))) ∧ ∀ i m H, W i m H → (J.stop i H ∧ Qd H) ∨ (J.go i H ∧ ∃ Nx : Hp → Prop, (∀ H', Nx H' → ∃ m', m' < m ∧ W (i + 1) m' H') ∧
      ∀ x H', J.yld i H x H' → gName j x (wipe σ vs) H' fun σ2 H2 => wipe σ2 vs = wipe σ vs ∧ tt σ2 H2 fun b H3 => if b = true then te σ2 H3 fun y H4 => ∃ acc, H4 Dl = some (.lst acc) ∧ acc.length < sizeLine ∧ Nx (upd H4 Dl (.lst (acc ++ [y]))) else Nx H3) := by
  have hlen := hd.len
  have h0 : (upd H Dl (.lst [])) Dl = some (.lst []) := upd_same
  refine lc_it wk (fun i H' => Same H H' ∧ ∃ zs, H' Dl = some (.lst zs) ∧ DvL (ovl Hb (newof (upd H Dl (.lst [])) H')) zs ((ds.take i).map f)) ⟨Same.new hD, [], upd_same, .nil⟩ (fun i H' _ h => hG H' h.1) ?_ ?_
  · rintro i x H1 H1' hi ⟨k, zs, hl, hz2⟩ ⟨rfl, hx⟩
    obtain ⟨d, e1, hd1⟩ := hd.get hx
    refine ⟨hw _, he _ _ _ ?_⟩
    rw [if_pos rfl]
    refine hv x d H1' _ k (tk e1) hd1 fun y H2 k2 hy => ⟨zs, k2 _ _ hl, ?_, Same.upd (k.trans k2) hD, zs ++ [y], upd_same, ?_⟩
    · have := hz2.len
      rw [List.length_map, List.length_take] at this
      exact szl (by omega)
    · rw [newof_upd h0, take_succ' e1, List.map_append]
      refine (hz2.same (ovl_mono (newof_same k2)) _ _).snoc (hy.same (ovl_mono (newof_lift fun a ha => ?_)) _ _)
      have n1 : a ≠ Dl := fun z => by
        rw [z, hl] at ha
        cases ha
      rw [upd_ne n1]
      exact Same.none k ha
  · rintro H' ⟨k, zs, hl, hz2⟩
    have : ds.take xs.length = ds := List.take_of_length_le (by omega)
    rw [this] at hz2
    exact q H' zs k hl hz2
theorem newof_first {H H' : Hp} {Dl : Addr} {o : HO} (h : H Dl = none) : Same (newof (upd H Dl o) H') (newof H H') := newof_lift fun a ha => by
  by_cases z : a = Dl
  · rw [z]
    exact h
  · rwa [upd_ne z] at ha
end Fm
set_option maxRecDepth 100000
set_option maxHeartbeats 2000000
namespace Fm
open PySem PySem.Spec PyProof.Rows L2
def leaf : D → List Int
  | .int u => [u]
  | .tup (_ :: r) => leaves r
  | _ => []
theorem leaves_app (a b : List D) : leaves (a ++ b) = leaves a ++ leaves b := by
  unfold leaves
  rw [flats_app, List.filterMap_append]
theorem leaves_one (d : D) : leaves [d] = leaf d := by
  unfold leaves
  simp only [flats, List.append_nil]
  rw [flat_eq]
  cases d with
  | int u => rfl
  | tup ds => cases ds <;> rfl
  | _ => rfl
theorem leaves_len (ds : List D) : (leaves ds).length ≤ sizes ds := by
  have h1 := List.length_filterMap_le intOf (flats ds)
  have h2 := flats_len ds
  unfold leaves
  omega
def opOf : D → Nat
  | .tup (_ :: r) => 1 + opsOf r
  | .tup [] => 1
  | _ => 0
theorem ops_app (a b : List D) : opsOf (a ++ b) = opsOf a + opsOf b := by
  unfold opsOf
  rw [flats_app, List.filter_append, List.length_append]
theorem ops_one (d : D) : opsOf [d] = opOf d := by
  unfold opsOf
  simp only [flats, List.append_nil]
  rw [flat_eq]
  cases d with
  | tup ds =>
    cases ds with
    | nil => rfl
    | cons x r =>
      simp only [parts, List.filter_cons, isT, if_true, List.length_cons, opOf, opsOf]
      omega
  | _ => rfl
theorem ops_sum (ds : List D) : ((ds.map fun d => (opOf d : Int))).sum = (opsOf ds : Int) := by
  induction ds with
  | nil => rfl
  | cons d r ih =>
    have e : opsOf (d :: r) = opOf d + opsOf r := by
      rw [← ops_one, ← ops_app]
      rfl
    rw [List.map_cons, List.sum_cons, ih, e]
    omega
theorem dvl_intsOf {H : Hp} : ∀ {ns : List Int} {zs : List V}, DvL H zs (ns.map D.int) → zs = ns.map V.int
  | [], _, h => by cases h; rfl
  | n :: r, _, h => by
    cases h with
    | cons a b =>
      cases a
      rw [dvl_intsOf b]
      rfl
/-- _law_leaves -/
def spLeaves (K : PySem.W.Frag) (m : Nat) : Sp := fun vs H Q _ => ∃ a us ds, vs = [.ref a] ∧ (SqL K H a us ∨ SqT K H a us) ∧ DvL H us ds ∧ (∀ d ∈ ds, Tm d) ∧ deeps ds < m ∧ sizes ds ≤ 100000 ∧
  ∀ l H', Same H H' → H l = none → H' l = some (.lst ((leaves ds).map V.int)) → Q (.ref l) H'
/-- _law_size -/
def spLSize (K : PySem.W.Frag) (m : Nat) : Sp := fun vs H Q _ => ∃ a us ds, vs = [.ref a] ∧ (SqL K H a us ∨ SqT K H a us) ∧ DvL H us ds ∧ (∀ d ∈ ds, Tm d) ∧ deeps ds < m ∧ sizes ds ≤ 100000 ∧ ∀ H', Same H H' → Q (.int (opsOf ds : Nat)) H'
theorem inV_ints (u : Int) (us : List Int) : inV (.int u) (us.map V.int) = decide (u ∈ us) := by
  induction us with
  | nil => rfl
  | cons v r ih =>
    have e : inV (.int u) ((v :: r).map V.int) = ((v == u) || inV (.int u) (r.map V.int)) := rfl
    rw [e, ih, Bool.eq_iff_iff]
    simp only [Bool.or_eq_true, beq_iff_eq, decide_eq_true_iff, List.mem_cons]
    constructor
    · rintro (h | h)
      · exact .inl h.symm
      · exact .inr h
    · rintro (h | h)
      · exact .inl h.symm
      · exact .inr h
theorem flat_ints (us : List Int) : (us.map V.int).all flatV = true := by
  induction us with
  | nil => rfl
  | cons v r ih => rw [List.map_cons, List.all_cons, ih]; rfl
theorem addI_nodup {us : List Int} {u : Int} (h : us.Nodup) : (addI us u).Nodup := by
  unfold addI
  split
  · exact h
  · rename_i m
    rw [List.nodup_append]
    refine ⟨h, by simp, ?_⟩
    intro a ha b hb
    simp at hb
    subst hb
    rintro rfl
    exact m ha
theorem foldl_addI_nodup (ls : List Int) : ∀ {us : List Int}, us.Nodup → (ls.foldl addI us).Nodup := by
  induction ls with
  | nil => exact fun h => h
  | cons u r ih => exact fun h => ih (addI_nodup h)
theorem firstsOf_nodup (ds : List D) : (firstsOf ds).Nodup := foldl_addI_nodup _ List.nodup_nil
theorem merge_ord : ∀ (us pre : List Int), (pre ++ us).Nodup → mergeK (ordK pre 0) (ordK us pre.length) = ordK (pre ++ us) 0
  | [], pre, _ => by rw [List.append_nil]; rfl
  | u :: r, pre, h => by
    have nu : u ∉ pre := fun m => by
      rw [List.nodup_append] at h
      exact h.2.2 u m u List.mem_cons_self rfl
    have e1 : valV (ordK pre 0) (.inl u) = none := by rw [ordK_val, if_neg nu]
    have e2 : mergeK (ordK pre 0) (ordK (u :: r) pre.length) = mergeK (putK (ordK pre 0) (.inl u) (.int (pre.length : Int))) (ordK r (pre.length + 1)) := rfl
    have e3 : ordK pre 0 ++ [(.inl u, .int (pre.length : Int))] = ordK (pre ++ [u]) 0 := by rw [ordK_app, Nat.zero_add]
    have e4 : pre.length + 1 = (pre ++ [u]).length := by simp
    rw [e2, putK_new _ e1, e3, e4, merge_ord r (pre ++ [u]) (by rw [List.append_assoc]; exact h), List.append_assoc]
    rfl
theorem walk_rangeA {n : Nat} : Walk (Itr 0 n) ((List.range n).map fun i : Nat => V.int (i : Int)).length (fun _ => True) (YAt ((List.range n).map fun i : Nat => V.int (i : Int))) := by
  rw [List.length_map, List.length_range]
  refine walk_range.mono (fun _ h => h) fun i H x H' hi _ ⟨e, y⟩ => ⟨e, ?_⟩
  rw [List.getElem?_map, List.getElem?_range hi, y]
  show some (V.int (i : Int)) = some (.int (0 + (i : Int)))
  rw [Int.zero_add]
/-- a list of pairs as a dict's entries -/
theorem dvl_pairs {K : PySem.W.Frag} {H : Hp} : ∀ {us : List Int} {n : Nat} {zs : List V}, DvL H zs ((us.zipIdx n).map fun p => D.tup [.int p.1, .int (p.2 : Int)]) → ∃ ps : List Addr, zs = ps.map V.ref ∧ Paired (fun p kv => SqT K H p [kV kv.1, kv.2]) ps (ordK us n)
  | [], n, zs, h => by cases h; exact ⟨[], rfl, .nil⟩
  | u :: r, n, zs, h => by
    rw [List.zipIdx_cons, List.map_cons] at h
    cases h with
    | cons a b =>
      obtain ⟨ps, rfl, h2⟩ := dvl_pairs b
      cases a with
      | @tup p xs _ h3 h4 =>
      cases h4 with
      | cons a1 b1 =>
      cases b1 with
      | cons a2 b2 =>
      cases a1
      cases a2
      cases b2
      exact ⟨p :: ps, rfl, .cons (SqT.of h3) h2⟩
def pairAt (us : List Int) (d : D) : D := .tup [.int (us.getD (match d with | .int i => i.toNat | _ => 0) 0), d]
theorem pairs_eq (us : List Int) : ((List.range us.length).map fun i : Nat => D.int (i : Int)).map (pairAt us) = (us.zipIdx 0).map fun p => D.tup [.int p.1, .int (p.2 : Int)] := by
  apply List.ext_getElem?
  intro i
  rw [List.getElem?_map, List.getElem?_map, List.getElem?_map, List.getElem?_zipIdx]
  by_cases h : i < us.length
  · rw [List.getElem?_range h, List.getElem?_eq_getElem h]
    simp only [Option.map_some, pairAt, Int.toNat_natCast, Nat.zero_add]
    rw [List.getD_eq_getElem?_getD, List.getElem?_eq_getElem h]
    rfl
  · rw [List.getElem?_eq_none (by rw [List.length_range]; omega), List.getElem?_eq_none (by omega)]
    rfl
theorem pairAt_get {us : List Int} {i : Nat} (h : i < us.length) : pairAt us (.int (i : Int)) = .tup [.int us[i], .int (i : Int)] := by
  simp only [pairAt, Int.toNat_natCast]
  rw [List.getD_eq_getElem?_getD, List.getElem?_eq_getElem h]
  rfl
theorem mem_flats {d e : D} {ds : List D} (hd : d ∈ ds) (h : e ∈ flat d) : e ∈ flats ds := by
  induction ds with
  | nil => cases hd
  | cons c r ih =>
    simp only [flats, List.mem_append]
    rcases List.mem_cons.mp hd with rfl | hd
    · exact .inl h
    · exact .inr (ih hd)
/-- _law_numbered -/
def spLNum (K : PySem.W.Frag) (m : Nat) : Sp := fun vs H Q _ => ∃ a us ds, vs = [.ref a] ∧ SqL K H a us ∧ DvL H us ds ∧ (∀ d ∈ ds, Tm d) ∧ deeps ds < m ∧ sizes ds ≤ 100000 ∧
  ∀ l H' ws, Same H H' → H l = none → H' l = some (.lst ws) → DvL H' ws (puts (numF ds) ds) → Q (.ref l) H'
/-- unknowns from 0 on, below n -/
def Unk (n : Int) (d : D) : Prop := ∀ u, D.int u ∈ flat d → 0 ≤ u ∧ u < n
theorem Unk.int {n i : Int} (h0 : 0 ≤ i) (h1 : i < n) : Unk n (.int i) := fun u hu => by
  simp [flat] at hu
  subst hu
  exact ⟨h0, h1⟩
theorem flats_mem {e : D} {ds : List D} (h : e ∈ flats ds) : ∃ d ∈ ds, e ∈ flat d := by
  induction ds with
  | nil => simp [flats] at h
  | cons c r ih =>
    simp only [flats, List.mem_append] at h
    rcases h with h | h
    · exact ⟨c, List.mem_cons_self, h⟩
    · obtain ⟨d, h1, h2⟩ := ih h
      exact ⟨d, List.mem_cons_of_mem _ h1, h2⟩
theorem Unk.tup {n : Int} {x : Str} {ds : List D} (h : ∀ d ∈ ds, Unk n d) : Unk n (.tup (.str x :: ds)) := fun u hu => by
  have e : flat (.tup (.str x :: ds)) = .tup (.str x :: ds) :: flats ds := by simp [flat, flatT]
  rw [e] at hu
  rcases List.mem_cons.mp hu with z | hu
  · cases z
  · obtain ⟨d, h1, h2⟩ := flats_mem hu
    exact h d h1 u h2
theorem Unk.mono {n m : Int} {d : D} (h : Unk n d) (k : n ≤ m) : Unk m d := fun u hu => let ⟨a, b⟩ := h u hu; ⟨a, by omega⟩
def spTermU (m : Nat) : Sp := fun vs H Q _ => ∃ (b p nm : Addr) (xs : List Str) (many : Int) (k : Nat) (deep : Int), vs = [.ref b, .ref nm, .int many, .int deep] ∧ deep = (k : Int) ∧ Bag b p H ∧ Names nm b H xs ∧ 0 < many ∧ many ≤ 1000 ∧ k < m ∧ k ≤ 100 ∧
  ∀ v H' d, Go b p H H' → Dv (newof H H') v d → Tm d → Sized k d → Unk many d → Q v H'
/-- _law_great -/
def spGreat : Sp := fun vs H Q _ => ∃ (b p nm : Addr) (xs : List Str), vs = [.ref b, .ref nm] ∧ Bag b p H ∧ Names nm b H xs ∧
  ∀ v H' d, Go b p H H' → Dv (newof H H') v d → Tm d → d.deep ≤ 30 → d.size ≤ 3000 → Unk 5 d → Q v H'
end Fm
set_option maxRecDepth 100000
set_option maxHeartbeats 2000000
/-! Fm: what data are as Python's values, and how long they are shown. -/
namespace Fm
open PySem PySem.Spec PyProof.Rows L2
mutual
def pdOf : D → PyData
  | .non => .none
  | .bl b => .bool b
  | .int i => .int i
  | .str x => .str x
  | .tup ds => .tuple (pdsOf ds)
  | .lst ds => .list (pdsOf ds)
  | .dic => .none
def pdsOf : List D → List PyData
  | [] => []
  | d :: r => pdOf d :: pdsOf r
end
mutual
theorem dp_pd {K : PySem.W.Frag} {H : Hp} : ∀ (d : D) (v : V), Dv H v d → noDic d = true → Dp K H v (pdOf d) ∧ (pdOf d).canLay0 = true
  | .non, _, h, _ => by cases h; exact ⟨.non, rfl⟩
  | .bl _, _, h, _ => by cases h; exact ⟨.bl _, rfl⟩
  | .int _, _, h, _ => by cases h; exact ⟨.int _, rfl⟩
  | .str _, _, h, _ => by
    cases h with
    | str _ o => exact ⟨.str _, by simpa [pdOf, PyData.canLay0] using o⟩
  | .tup ds, _, h, n => by
    cases h with
    | tup a b =>
      obtain ⟨h1, h2⟩ := dps_pd ds _ b (by simpa [noDic] using n)
      exact ⟨.tup (SqT.of a) h1, by simpa [pdOf, PyData.canLay0] using h2⟩
  | .lst ds, _, h, n => by
    cases h with
    | lst a b =>
      obtain ⟨h1, h2⟩ := dps_pd ds _ b (by simpa [noDic] using n)
      exact ⟨.lst (SqL.of a) h1, by simpa [pdOf, PyData.canLay0] using h2⟩
  | .dic, _, _, n => by simp [noDic] at n
theorem dps_pd {K : PySem.W.Frag} {H : Hp} : ∀ (ds : List D) (vs : List V), DvL H vs ds → noDics ds = true → DpAll K H vs (pdsOf ds) ∧ PyData.canLayAll0 (pdsOf ds) = true
  | [], _, h, _ => by cases h; exact ⟨.nil, by simp [pdsOf, PyData.canLayAll0]⟩
  | d :: ds, _, h, n => by
    cases h with
    | cons a b =>
      have n' : noDic d = true ∧ noDics ds = true := by simpa [noDics] using n
      obtain ⟨h1, h2⟩ := dp_pd d _ a n'.1
      obtain ⟨h4, h5⟩ := dps_pd ds _ b n'.2
      exact ⟨.cons h1 h4, by simp [pdsOf, PyData.canLayAll0, h2, h5]⟩
end
mutual
theorem pd_depth : ∀ d : D, (pdOf d).depth ≤ d.deep + 1
  | .non => by simp [pdOf, PyData.depth]
  | .bl _ => by simp [pdOf, PyData.depth]
  | .int _ => by simp [pdOf, PyData.depth]
  | .str _ => by simp [pdOf, PyData.depth]
  | .dic => by simp [pdOf, PyData.depth]
  | .tup ds => by
    have := pds_depth ds
    simp only [pdOf, PyData.depth, D.deep]
    omega
  | .lst ds => by
    have := pds_depth ds
    simp only [pdOf, PyData.depth, D.deep]
    omega
theorem pds_depth : ∀ ds : List D, PyData.depthAll (pdsOf ds) ≤ deeps ds + 1
  | [] => by simp [pdsOf, PyData.depthAll]
  | d :: r => by
    have h1 := pd_depth d
    have h2 := pds_depth r
    simp only [pdsOf, PyData.depthAll, deeps]
    omega
end
mutual
/-- the ints in data -/
def intsIn : D → List Int
  | .int i => [i]
  | .tup ds => intsOf ds
  | .lst ds => intsOf ds
  | _ => []
def intsOf : List D → List Int
  | [] => []
  | d :: r => intsIn d ++ intsOf r
end
/-- ints of at most so many bits, and no longer shown than B -/
def Short (B bits : Nat) (i : Int) : Prop := i.natAbs.log2 + 1 ≤ bits ∧ bits ≤ 1900 ∧ (PyData.shown (.int i)).length ≤ B
mutual
theorem pd_short {B bits : Nat} : ∀ d : D, (∀ i ∈ intsIn d, Short B bits i) → (pdOf d).intsShort B = true ∧ (pdOf d).showable = true ∧ (pdOf d).weight + 1 ≤ 2 * d.size + bits * (intsIn d).length
  | .non, _ => by
    simp [pdOf, PyData.intsShort, PyData.showable, PyData.weight, D.size]
    omega
  | .bl _, _ => by
    simp [pdOf, PyData.intsShort, PyData.showable, PyData.weight, D.size]
    omega
  | .dic, _ => by
    simp [pdOf, PyData.intsShort, PyData.showable, PyData.weight, D.size]
    omega
  | .str x, _ => by
    refine ⟨by simp [pdOf, PyData.intsShort], by simp [pdOf, PyData.showable], ?_⟩
    simp only [pdOf, PyData.weight, D.size]
    have : x.cps.size = x.length := rfl
    omega
  | .int i, h => by
    have := h i (by simp [intsIn])
    obtain ⟨h1, h2, h3⟩ := this
    refine ⟨by simpa only [pdOf, PyData.intsShort, decide_eq_true_eq] using h3, ?_, ?_⟩
    · simp only [pdOf, PyData.showable, decide_eq_true_eq]
      omega
    · simp only [pdOf, PyData.weight, D.size, intsIn, List.length_singleton]
      split <;> omega
  | .tup ds, h => by
    obtain ⟨h1, h2, h3⟩ := pds_short ds (by simpa [intsIn] using h)
    refine ⟨by simpa only [pdOf, PyData.intsShort] using h1, by simpa only [pdOf, PyData.showable] using h2, ?_⟩
    have h4 : PyData.weight (pdOf (.tup ds)) = PyData.weightAll (pdsOf ds) := rfl
    have h5 : intsIn (.tup ds) = intsOf ds := by simp [intsIn]
    rw [h4, h5]
    simp only [D.size]
    omega
  | .lst ds, h => by
    obtain ⟨h1, h2, h3⟩ := pds_short ds (by simpa [intsIn] using h)
    refine ⟨by simpa only [pdOf, PyData.intsShort] using h1, by simpa only [pdOf, PyData.showable] using h2, ?_⟩
    have h4 : PyData.weight (pdOf (.lst ds)) = PyData.weightAll (pdsOf ds) := rfl
    have h5 : intsIn (.lst ds) = intsOf ds := by simp [intsIn]
    rw [h4, h5]
    simp only [D.size]
    omega
theorem pds_short {B bits : Nat} : ∀ ds : List D, (∀ i ∈ intsOf ds, Short B bits i) → PyData.intsShortAll B (pdsOf ds) = true ∧ PyData.showableAll (pdsOf ds) = true ∧ PyData.weightAll (pdsOf ds) ≤ 2 * sizes ds + bits * (intsOf ds).length
  | [], _ => by simp [pdsOf, PyData.intsShortAll, PyData.showableAll, PyData.weightAll]
  | d :: r, h => by
    obtain ⟨a1, a2, a3⟩ := pd_short d fun i hi => h i (by simp [intsOf, hi])
    obtain ⟨b1, b2, b3⟩ := pds_short r fun i hi => h i (by simp [intsOf, hi])
    refine ⟨by simp [pdsOf, PyData.intsShortAll, a1, b1], by simp [pdsOf, PyData.showableAll, a2, b2], ?_⟩
    have := size_pos d
    simp only [pdsOf, PyData.weightAll, sizes, intsOf, List.length_append, Nat.mul_add]
    omega
end
/-- what is asked of data that are compared and shown -/
theorem pd_ok {B bits : Nat} (hB : 8 ≤ B) {d : D} {K : PySem.W.Frag} {H : Hp} {v : V} (h : Dv H v d) (hs : ∀ i ∈ intsIn d, Short B bits i) (nd : noDic d = true) (dz : d.deep ≤ 58) (hz : (B + 2) * (2 * d.size + bits * (intsIn d).length) + B ≤ 16000000) :
    Dp K H v (pdOf d) ∧ SeqAt.shaped (pdOf d) = true ∧ (pdOf d).showable = true ∧ (pdOf d).hasDict = false ∧ (pdOf d).depth ≤ 60 ∧ (pdOf d).shown.length ≤ sizeLine := by
  obtain ⟨h1, h2⟩ := dp_pd (K := K) d v h nd
  obtain ⟨a1, a2, a3⟩ := pd_short d hs
  have dd := pd_depth d
  refine ⟨h1, ?_, a2, PyData.hasDict_of_canLay _ h2, by omega, ?_⟩
  · unfold SeqAt.shaped
    simp [h2]
    omega
  · have e := PyData.shown_le B hB (pdOf d) (PyData.leavesShort_of_canLay0 B _ h2 a1)
    have e2 : (B + 2) * (pdOf d).weight ≤ (B + 2) * (2 * d.size + bits * (intsIn d).length) := Nat.mul_le_mul_left _ (by omega)
    have e3 : sizeLine = 16777216 := by decide
    omega
theorem short_small {i : Int} (h0 : 0 ≤ i) (h1 : i < 1000000) : Short 13 20 i := by
  have e12 : (10 : Nat) ^ 12 = 1000000000000 := by decide
  refine ⟨?_, by decide, PyData.shown_int_le (by omega)⟩
  have : i.natAbs.log2 < 20 := by
    by_cases z : i.natAbs = 0
    · rw [z]; decide
    · rw [Nat.log2_lt z]
      have : (2 : Nat) ^ 20 = 1048576 := by decide
      omega
  omega
theorem short_far : Short 41 130 (10 ^ 39) := by
  refine ⟨by decide +kernel, by decide, by decide +kernel⟩
theorem Short.wide {B bits B' bits' : Nat} {i : Int} (h : Short B bits i) (h1 : B ≤ B') (h2 : bits ≤ bits') (h3 : bits' ≤ 1900) : Short B' bits' i := ⟨Nat.le_trans h.1 h2, h3, Nat.le_trans h.2.2 h1⟩
/-- unknowns below n, of at most so many places -/
def UnkL (n : Int) (k : Nat) (d : D) : Prop := Unk n d ∧ (intsIn d).length ≤ 3 ^ k
theorem UnkL.int {n i : Int} {k : Nat} (h0 : 0 ≤ i) (h1 : i < n) : UnkL n k (.int i) := ⟨Unk.int h0 h1, by
  have : 1 ≤ 3 ^ k := Nat.one_le_pow _ _ (by decide)
  simpa [intsIn] using this⟩
theorem intsOf_len {ds : List D} {m : Nat} (h : ∀ d ∈ ds, (intsIn d).length ≤ m) : (intsOf ds).length ≤ ds.length * m := by
  induction ds with
  | nil => simp [intsOf]
  | cons d r ih =>
    have h1 := h d List.mem_cons_self
    have h2 := ih fun e he => h e (List.mem_cons_of_mem _ he)
    simp only [intsOf, List.length_append, List.length_cons, Nat.add_mul, Nat.one_mul]
    omega
theorem UnkL.tup {n : Int} {k : Nat} {x : Str} {ds : List D} (l : ds.length ≤ 3) (h : ∀ d ∈ ds, UnkL n k d) : UnkL n (k + 1) (.tup (.str x :: ds)) := by
  refine ⟨Unk.tup fun d hd => (h d hd).1, ?_⟩
  have h1 := intsOf_len fun d hd => (h d hd).2
  have h2 : ds.length * 3 ^ k ≤ 3 * 3 ^ k := Nat.mul_le_mul_right _ l
  have e : intsIn (.tup (.str x :: ds)) = intsOf ds := by simp [intsIn, intsOf]
  rw [e, Nat.pow_succ]
  omega
def spTermV (m : Nat) : Sp := fun vs H Q _ => ∃ (b p nm : Addr) (xs : List Str) (many : Int) (k : Nat) (deep : Int), vs = [.ref b, .ref nm, .int many, .int deep] ∧ deep = (k : Int) ∧ Bag b p H ∧ Names nm b H xs ∧ 0 < many ∧ many ≤ 1000 ∧ k < m ∧ k ≤ 100 ∧
  ∀ v H' d, Go b p H H' → Dv (newof H H') v d → Tm d → Sized k d → UnkL many k d → Q v H'
/-- a term as _law_great makes it -/
structure Grt (d : D) : Prop where
  tm : Tm d
  dp : d.deep ≤ 20
  sz : d.size ≤ 1400
  un : Unk 5 d
  few : (intsIn d).length ≤ 81
def spGreatV : Sp := fun vs H Q _ => ∃ (b p nm : Addr) (xs : List Str), vs = [.ref b, .ref nm] ∧ Bag b p H ∧ Names nm b H xs ∧
  ∀ v H' d, Go b p H H' → Dv (newof H H') v d → Grt d → Q v H'
def FarI (z : Int) : Prop := z = 0 ∨ z = 5 ∨ z = 7 ∨ z = 10 ^ 39
/-- a term with far unknowns -/
structure Far (d : D) : Prop where
  tm : Tm d
  dp : d.deep ≤ 30
  sz : d.size ≤ 1400
  un : ∀ i ∈ intsIn d, FarI i
  few : (intsIn d).length ≤ 81
structure Kept (f : Int → D) (d : D) : Prop where
  tm : Tm (putD f d)
  dp : (putD f d).deep = d.deep
  sz : (putD f d).size = d.size
  len : (intsIn (putD f d)).length = (intsIn d).length
theorem kept_list {f : Int → D} {ds : List D} (h : ∀ d ∈ ds, Kept f d) : deeps (puts f ds) = deeps ds ∧ sizes (puts f ds) = sizes ds ∧ (intsOf (puts f ds)).length = (intsOf ds).length := by
  induction ds with
  | nil => exact ⟨rfl, rfl, rfl⟩
  | cons d r ih =>
    obtain ⟨a, b, c⟩ := ih fun e he => h e (List.mem_cons_of_mem _ he)
    have hd := h d List.mem_cons_self
    simp only [puts, deeps, sizes, intsOf, List.length_append, a, b, c, hd.dp, hd.sz, hd.len, and_self]
theorem kept_of {f : Int → D} (hf : ∀ u, ∃ z, f u = .int z) {d : D} (t : Tm d) : Kept f d := by
  induction t with
  | int u =>
    obtain ⟨z, hz⟩ := hf u
    have e : putD f (.int u) = .int z := hz
    exact ⟨by rw [e]; exact .int z, by rw [e]; rfl, by rw [e]; rfl, by rw [e]; rfl⟩
  | tup x ds _ ih =>
    obtain ⟨a, b, c⟩ := kept_list ih
    have e : putD f (.tup (.str x :: ds)) = .tup (.str x :: puts f ds) := rfl
    refine ⟨?_, ?_, ?_, ?_⟩
    · rw [e]
      refine .tup x _ fun d hd => ?_
      rw [puts_map] at hd
      obtain ⟨d', h1, rfl⟩ := List.mem_map.mp hd
      exact (ih d' h1).tm
    · rw [e]
      simp only [D.deep, deeps, a]
    · rw [e]
      simp only [D.size, sizes, b]
    · rw [e]
      simp only [intsIn, intsOf, List.nil_append, c]
theorem ints_put {f : Int → D} {Pz : Int → Prop} (hf : ∀ u, ∃ z, f u = .int z ∧ Pz z) {d : D} (t : Tm d) : ∀ i ∈ intsIn (putD f d), Pz i := by
  induction t with
  | int u =>
    obtain ⟨z, hz, pz⟩ := hf u
    have e : putD f (.int u) = .int z := hz
    rw [e]
    intro i hi
    simp [intsIn] at hi
    subst hi
    exact pz
  | tup x ds _ ih =>
    have e : intsIn (putD f (.tup (.str x :: ds))) = intsOf (puts f ds) := by
      show intsIn (.tup (.str x :: puts f ds)) = _
      simp [intsIn, intsOf]
    rw [e]
    clear e
    induction ds with
    | nil => intro i hi; simp [puts, intsOf] at hi
    | cons d r ih2 =>
      intro i hi
      simp only [puts, intsOf, List.mem_append] at hi
      rcases hi with hi | hi
      · exact ih d List.mem_cons_self i hi
      · exact ih2 (fun c hc => by rename_i hall; exact hall c (List.mem_cons_of_mem _ hc)) (fun c hc => ih c (List.mem_cons_of_mem _ hc)) i hi
/-- _law_far -/
def spFar : Sp := fun vs H Q _ => ∃ (Hb : Hp) (b p : Addr) (v : V) (d : D), vs = [.ref b, v] ∧ Bag b p H ∧ Same Hb (mask b H) ∧ Dv Hb v d ∧ Grt d ∧
  ∀ v' H' d', Go b p H H' → Dv (ovl Hb (newof H H')) v' d' → Far d' → Q v' H'
theorem ints_flat {d : D} (t : Tm d) : ∀ i ∈ intsIn d, D.int i ∈ flat d := by
  induction t with
  | int u => intro i hi; simp [intsIn] at hi; subst hi; simp [flat]
  | tup x ds _ ih =>
    have e : intsIn (.tup (.str x :: ds)) = intsOf ds := by simp [intsIn, intsOf]
    have e2 : flat (.tup (.str x :: ds)) = .tup (.str x :: ds) :: flats ds := by simp [flat, flatT]
    rw [e, e2]
    intro i hi
    refine List.mem_cons_of_mem _ ?_
    clear e e2
    have go : ∀ cs : List D, (∀ c ∈ cs, c ∈ ds) → i ∈ intsOf cs → D.int i ∈ flats cs := by
      intro cs
      induction cs with
      | nil => intro _ h; simp [intsOf] at h
      | cons c r ih2 =>
        intro hc h
        simp only [intsOf, List.mem_append] at h
        simp only [flats, List.mem_append]
        rcases h with h | h
        · exact .inl (ih c (hc c List.mem_cons_self) i h)
        · exact .inr (ih2 (fun z hz => hc z (List.mem_cons_of_mem _ hz)) h)
    exact go ds (fun _ h => h) hi
theorem Grt.short {d : D} (g : Grt d) : ∀ i ∈ intsIn d, Short 13 20 i := fun i hi => by
  obtain ⟨a, b⟩ := g.un i (ints_flat g.tm i hi)
  exact short_small a (by omega)
/-- what putting values in makes of sizes -/
structure PutOk (f : Int → D) (d : D) : Prop where
  tm : Tm (putD f d)
  dp : (putD f d).deep ≤ d.deep + 20
  sz : (putD f d).size ≤ d.size + (intsIn d).length * 1400
  len : (intsIn (putD f d)).length ≤ (intsIn d).length * 81
  sh : ∀ i ∈ intsIn (putD f d), Short 13 20 i
theorem putOk_list {f : Int → D} {ds : List D} (h : ∀ d ∈ ds, PutOk f d) : deeps (puts f ds) ≤ deeps ds + 20 ∧ sizes (puts f ds) ≤ sizes ds + (intsOf ds).length * 1400 ∧ (intsOf (puts f ds)).length ≤ (intsOf ds).length * 81 ∧ ∀ i ∈ intsOf (puts f ds), Short 13 20 i := by
  induction ds with
  | nil => exact ⟨Nat.zero_le _, Nat.le_refl _, Nat.le_refl _, fun i hi => by simp [puts, intsOf] at hi⟩
  | cons d r ih =>
    obtain ⟨a, b, c, e⟩ := ih fun x hx => h x (List.mem_cons_of_mem _ hx)
    have hd := h d List.mem_cons_self
    have h1 := hd.dp
    have h2 := hd.sz
    have h3 := hd.len
    simp only [puts, deeps, sizes, intsOf, List.length_append, Nat.add_mul]
    refine ⟨by omega, by omega, by omega, fun i hi => ?_⟩
    rcases List.mem_append.mp hi with hi | hi
    · exact hd.sh i hi
    · exact e i hi
theorem putOk_of {f : Int → D} (hf : ∀ u, Grt (f u)) {d : D} (t : Tm d) : PutOk f d := by
  induction t with
  | int u =>
    have g := hf u
    have e : putD f (.int u) = f u := rfl
    have h1 := g.dp
    have h2 := g.sz
    have h3 := g.few
    refine ⟨by rw [e]; exact g.tm, by rw [e]; omega, ?_, ?_, by rw [e]; exact g.short⟩
    · rw [e]
      simp only [intsIn, List.length_singleton]
      omega
    · rw [e]
      simp only [intsIn, List.length_singleton]
      omega
  | tup x ds _ ih =>
    obtain ⟨a, b, c, e5⟩ := putOk_list ih
    have e : putD f (.tup (.str x :: ds)) = .tup (.str x :: puts f ds) := rfl
    have e2 : intsIn (.tup (.str x :: ds)) = intsOf ds := by simp [intsIn, intsOf]
    have e3 : intsIn (.tup (.str x :: puts f ds)) = intsOf (puts f ds) := by simp [intsIn, intsOf]
    refine ⟨?_, ?_, ?_, ?_, ?_⟩
    · rw [e]
      refine .tup x _ fun d hd => ?_
      rw [puts_map] at hd
      obtain ⟨d', h1, rfl⟩ := List.mem_map.mp hd
      exact (ih d' h1).tm
    · rw [e]
      simp only [D.deep, deeps]
      omega
    · rw [e, e2]
      simp only [D.size, sizes]
      omega
    · rw [e, e2, e3]
      exact c
    · rw [e, e3]
      exact e5
theorem intsOf_mem {i : Int} {ds : List D} (h : i ∈ intsOf ds) : ∃ d ∈ ds, i ∈ intsIn d := by
  induction ds with
  | nil => simp [intsOf] at h
  | cons c r ih =>
    simp only [intsOf, List.mem_append] at h
    rcases h with h | h
    · exact ⟨c, List.mem_cons_self, h⟩
    · obtain ⟨d, h1, h2⟩ := ih h
      exact ⟨d, List.mem_cons_of_mem _ h1, h2⟩
structure Grts (ds : List D) (n : Nat) : Prop where
  sz : sizes ds ≤ n * 1400
  dp : deeps ds ≤ 20
  few : (intsOf ds).length ≤ n * 81
  sh : ∀ i ∈ intsOf ds, Short 13 20 i
  nd : noDics ds = true
theorem grts_of {ds : List D} {n : Nat} (h : ∀ d ∈ ds, Grt d) (hn : ds.length ≤ n) : Grts ds n := by
  have h1 := sizes_le (n := 1416) fun d hd => by have := (h d hd).sz; omega
  have h2 := deeps_le fun d hd => (h d hd).dp
  have h3 := intsOf_len fun d hd => (h d hd).few
  have h4 : 1416 * ds.length ≤ 1416 * n := Nat.mul_le_mul_left _ hn
  have h5 : ds.length * 81 ≤ n * 81 := Nat.mul_le_mul_right _ hn
  refine ⟨?_, h2, by omega, fun i hi => ?_, noDics_of fun d hd => (h d hd).tm.noDic⟩
  · have : sizes ds ≤ 1400 * ds.length := by omega
    have : 1400 * ds.length ≤ 1400 * n := Nat.mul_le_mul_left _ hn
    omega
  · obtain ⟨d, h6, h7⟩ := intsOf_mem hi
    exact (h d h6).short i h7
/-- _law_put_right -/
def spPutRight : Sp := fun vs H Q _ => ∃ (b p nm : Addr) (xs : List Str) (la : Addr) (us : List V) (ds : List D), vs = [.ref b, .ref nm, .ref la] ∧ Bag b p H ∧ Names nm b H xs ∧ la ≠ b ∧ H la = some (.lst us) ∧ DvL (mask b H) us ds ∧ (∀ d ∈ ds, Grt d) ∧ ds.length ≤ 4 ∧
  ∀ H', Go b p H H' → Q (.bl true) H'
end Fm
set_option maxRecDepth 100000
set_option maxHeartbeats 3200000
/-! Fm: set(xs), xs a list of ints. -/
namespace Fm
open PySem PySem.Spec PyProof.Rows L2
section
variable {P : Program} {w : World} {A : Around} {E : Value → Shared → Prop} {s : Shared}
/-- set(x): what the new set's init does of x, in the heap with the new set -/
theorem set_of {a : Value} {Q : Value → Shared → Prop} (Z : Shared → Prop)
    (hi : wpAny (model P w) A.in1.in1 (Builtin.«set.__init__» ⟨[.ref s.heap.objs.size, a], []⟩) (fun fin s' => match fin with
        | Fin.done f => wants (fun r s₂ => r = .none ∧ Z s₂) E (.ok f) s'
        | Fin.again c' => c'.quiet = true ∧ codeAny (model P w) A.in1 c' (wants (fun r s₂ => r = .none ∧ Z s₂) E) s') (fun e s' => wants (fun r s₂ => r = .none ∧ Z s₂) E (.error e) s') { s with heap := s.heap.push (noSet w) })
    (h : ∀ s', Z s' → Q (.ref s.heap.objs.size) s') : wpAny (model P w) A (call (.type "set") [a]) Q E s := by
  have c := F.called_set
  obtain ⟨c0, tl, hmro⟩ := c.mro
  have hmade := c.made
  have hsub := c.sub
  have h1 := c.notType
  have h2 := c.canCreate
  have hct := F.typeCall_set_1 a
  refine wpAny_call (codeAny_of_tree ?_)
  show wpAny _ _ (callAny (.type "set") _) _ _ _
  refine wpAny_pure ⟨Code.quiet_builtin _ (by decide +kernel), codeAny_builtin F.entry_type_call ?_⟩
  rw [Around.under_plain (weight_type_call_type "set" [a] []) rfl]
  repeat (any_goals (first | assumption | wp_step))
  refine codeAny_mono (code_set_led1 a (E := E) (Q₁ := fun obj s₁ => obj = .ref s.heap.objs.size ∧ s₁ = { s with heap := s.heap.push (noSet w) }) ⟨rfl, rfl⟩) fun r s₁ hr => ?_
  cases r with
  | error e => exact hr
  | ok fl =>
    cases fl with
    | ret obj =>
      obtain ⟨rfl, rfl⟩ := hr
      have hS : (s.heap.push (noSet w)).get? s.heap.objs.size = some (noSet w) := Heap.get?_push_size _ rfl
      have hT : Shared.TypeIs { s with heap := s.heap.push (noSet w) } (.ref s.heap.objs.size) "set" := ⟨_, hS, rfl⟩
      have hli := F.called_set.init.lookup
      have hbi := F.called_set.init.bind (.ref s.heap.objs.size)
      repeat (any_goals (first | assumption | wp_step))
      refine codeAny_mono (codeAny_call_builtin (R := wants (fun r s₂ => r = .none ∧ Z s₂) E) F.called_set.init.plain F.entry_set_init (check_set_init_1 hT ?_)) fun r₂ s₂ hr₂ => ?_
      · exact hi
      · cases r₂ with
        | error e => exact hr₂
        | ok fl₂ =>
          cases fl₂ with
          | ret r =>
            obtain ⟨rfl, z⟩ := hr₂
            have hq := h _ z
            repeat (any_goals (first | assumption | wp_step))
          | _ => exact hr₂.elim
    | _ => exact hr.elim
/-- set(xs) of a list of ints: its members, at most as many as the ints -/
theorem set_ints {l : Addr} {items : Array Value} (ns : List Int) {Q : Value → Shared → Prop} (hh : A.handled = none) (hl : s.heap.IsList l items) (hit : IntsAre items.toList ns) (hb : ns.length + 1 < scanBound)
    (h : ∀ (h' : Heap) (tk c : Nat), SetR w h' s.heap.objs.size (fun j => decide (j ∈ ns)) c → c ≤ ns.length → (∀ b o, s.heap.get? b = some o → h'.get? b = some o) → Q (.ref s.heap.objs.size) { s with heap := h', toks := tk }) :
    wpAny (model P w) A (call (.type "set") [.ref l]) Q E s := by
  have hn : items.size = ns.length := by rw [← IntsAre.length hit, Array.length_toList]
  refine set_of (fun s' => ∃ h' tk c, s' = { s with heap := h', toks := tk } ∧ SetR w h' s.heap.objs.size (fun j => decide (j ∈ ns)) c ∧ c ≤ ns.length ∧ ∀ b o, s.heap.get? b = some o → h'.get? b = some o) ?_ ?_
  · have l1 : (s.heap.push (noSet w)).IsList l items := by
      obtain ⟨o, e, c1, c2, c3⟩ := hl
      exact ⟨o, Heap.get?_push_of_some _ e, c1, c2, c3⟩
    have lt : l < s.heap.objs.size := by
      obtain ⟨o, e, _⟩ := hl
      exact Heap.lt_size e
    have new : (s.heap.push (noSet w)).get? s.heap.objs.size = some (noSet w) := Heap.get?_push_size _ rfl
    have n1 : (s.heap.push (noSet w)).objs.size = s.heap.objs.size + 1 := Heap.size_push ..
    obtain ⟨⟨ocls, odict, odata, oslots⟩, e, c1, nl, c3⟩ := id l1
    simp only at c1 c3
    subst c1 c3
    have t1 := F.sub_list_set
    have t2 := F.sub_list_frozenset
    have t3 : (Value.type "list" == Value.type "dict") = false := by decide
    unfold Builtin.«set.__init__» noKeywords Builtin.Frozenset.updateFrom
    generalize hPI : pyIter = PI
    wp_walk
    subst hPI
    refine wpAny_pyIter_list l1 ?_
    refine wpAny_bind (wpAny_runValue ?_)
    have n2 : l ≠ (s.heap.push (noSet w)).objs.size := by
      rw [n1]
      exact Nat.ne_of_lt (Nat.lt_succ_of_lt lt)
    have n3 : s.heap.objs.size ∉ [(s.heap.push (noSet w)).objs.size, l] := by
      rw [n1]
      simp only [List.mem_cons, List.not_mem_nil, or_false, not_or]
      exact ⟨Nat.ne_of_lt (Nat.lt_succ_self _), Nat.ne_of_gt lt⟩
    have val : ∀ (i : Nat) (v : Value), items[i]? = some v → ∃ k t, ns[i]? = some k ∧ v = .int k t := fun i v hv => by
      have hi : i < ns.length := by rw [← hn]; exact (Array.getElem?_eq_some_iff.mp hv).1
      obtain ⟨t, e⟩ := PyProof.Rows.IntsAre.int_at hit i v (by rw [Array.getElem?_toList]; exact hv)
      refine ⟨ns[i], t, List.getElem?_eq_getElem hi, ?_⟩
      rw [e, List.getD_eq_getElem?_getD, List.getElem?_eq_getElem hi]
      rfl
    have hh3 : A.in1.in1.in1.handled = none := by simp [hh]
    refine set_update_ints ((Walks.list hh3 _ l n2 items).toS) s.heap.objs.size n3 ns hn hb val (items.size - 0) 0 _ (by omega) (Nat.zero_le _) ⟨⟨_, Heap.get?_push_size _ rfl, rfl, rfl⟩, l1.push _⟩ ⟨0, Nat.le_refl 0, setR_new_at (Heap.get?_push_of_some _ new)⟩ ?_
    intro s' c' hm hc' hS'
    obtain ⟨h', g2, d', tk', os'⟩ := s'
    have eg : g2 = s.gens := hm.gens
    have ed : d' = s.drawn := hm.drawn
    have eo : os' = s.os := hm.os
    subst eg ed eo
    rw [hn] at hc'
    refine wpAny_pure (wpAny_pure ⟨rfl, h', tk', c', rfl, hS', hc', fun b o eb => ?_⟩)
    have lb := Heap.lt_size eb
    refine hm.heap b o ?_ (Heap.get?_push_of_some _ (Heap.get?_push_of_some _ eb))
    simp only [List.mem_cons, List.not_mem_nil, or_false, not_or]
    exact ⟨Nat.ne_of_lt lb, by rw [n1]; exact Nat.ne_of_lt (Nat.lt_succ_of_lt lb)⟩
  · rintro s' ⟨h', tk, c, rfl, h1, h2, h3⟩
    exact h h' tk c h1 h2 h3
end
theorem nodup_len : ∀ {xs ys : List Int}, xs.Nodup → (∀ x ∈ xs, x ∈ ys) → xs.length ≤ ys.length
  | [], _, _, _ => Nat.zero_le _
  | x :: r, ys, h, k => by
    rw [List.nodup_cons] at h
    have hx := k x List.mem_cons_self
    have ih := nodup_len (xs := r) (ys := ys.erase x) h.2 fun y hy => by
      have ne : y ≠ x := fun e => h.1 (e ▸ hy)
      exact (List.mem_erase_of_ne ne).mpr (k y (List.mem_cons_of_mem _ hy))
    rw [List.length_erase_of_mem hx] at ih
    have pos : 0 < ys.length := List.length_pos_of_mem hx
    simp only [List.length_cons]
    omega
theorem setR_few {w : World} {h : Heap} {a : Addr} {ns : List Int} {c : Nat} (R : SetR w h a (fun j => decide (j ∈ ns)) c) : c ≤ (ns.foldl addI []).length := by
  obtain ⟨o, es, ep, t, _, _, _, _, nd, hm, _, _, hn, _⟩ := R
  have := nodup_len nd (ys := ns.foldl addI []) fun x hx => by
    have h1 := (hm x).mpr hx
    have h2 := of_decide_eq_true h1
    exact foldl_addI_mem.mpr (.inr h2)
  rw [List.length_map, Array.length_toList, hn] at this
  exact this
/-- two ascending lists with the same members are one -/
theorem asc_eq : ∀ {xs ys : List Int}, xs.Pairwise (· < ·) → ys.Pairwise (· < ·) → (∀ k, k ∈ xs ↔ k ∈ ys) → xs = ys
  | [], [], _, _, _ => rfl
  | [], y :: r, _, _, h => by have := (h y).mpr List.mem_cons_self; cases this
  | x :: r, [], _, _, h => by have := (h x).mp List.mem_cons_self; cases this
  | x :: r, y :: t, hx, hy, h => by
    rw [List.pairwise_cons] at hx hy
    have e : x = y := by
      have h1 := (h x).mp List.mem_cons_self
      have h2 := (h y).mpr List.mem_cons_self
      rcases List.mem_cons.mp h1 with e | h1
      · exact e
      · rcases List.mem_cons.mp h2 with e | h2
        · exact e.symm
        · have := hx.1 y h2
          have := hy.1 x h1
          omega
    subst e
    rw [asc_eq hx.2 hy.2 fun k => ?_]
    constructor
    · intro hk
      rcases List.mem_cons.mp ((h k).mp (List.mem_cons_of_mem _ hk)) with e | z
      · have := hx.1 k hk
        omega
      · exact z
    · intro hk
      rcases List.mem_cons.mp ((h k).mpr (List.mem_cons_of_mem _ hk)) with e | z
      · have := hy.1 k hk
        omega
      · exact z
section
variable {X : Cx}
/-- set(xs), a list of ints -/
def rSetI (K : PySem.W.Frag) (w : World) : List V → Hp → VK → Prop := fun xs H Q => ∃ (a : Addr) (ns : List Int), xs = [.ref a] ∧ SqL K H a (ns.map V.int) ∧ ns.length + 1 < scanBound ∧
  ∀ (p : Addr) (c : Nat), H p = none → c ≤ (ns.foldl addI []).length → Q (.ref p) (upd H p (SetO w p (fun j => decide (j ∈ ns)) c))
theorem cr_setI (hc : X.calm = true) : CallR X (.type "set") (rSetI X.K X.w) := by
  intro pins s σ H xs us Q I r h
  obtain ⟨a, ns, rfl, hs, hb, q⟩ := h
  rw [Vals.ref1 r]
  obtain ⟨its, rv, hl, hz⟩ := I.list hs
  have fresh : H s.heap.objs.size = none := I.hok.fresh (Nat.le_refl _)
  refine set_ints ns (I.ok.hd hc) hl.isList (by simpa using ints_of_vals rv) hb fun h' tk c R lc k => ?_
  exact ⟨.ref _, upd H s.heap.objs.size (SetO X.w s.heap.objs.size (fun j => decide (j ∈ ns)) c), I.laid (t' := tk) k (Nat.le_refl _) (setO_new R), rfl, q _ c fresh (setR_few R)⟩
end
/-- [f(bag, x) for x in xs]: each turn draws from the bag and gives new data over a base -/
theorem lc_bagN {K : PySem.W.Frag} {te : TE} {tt : TT} {σ : L2.St} {H Hb : Hp} {a b p : Addr} {xs : List V} {ds : List D} {j : Nat} {vs : List Nat} {Dl : Addr} {Qd : Hp → Prop} (good : D → Prop) (B : Bag b p H) (na : a ≠ b) (hT : H a = some (.lst xs)) (hd : DvL Hb xs ds) (hD : H Dl = none) (hz : xs.length ≤ 100000)
    (hw : ∀ x, wipe ((wipe σ vs).set j (some x)) vs = wipe σ vs) (he : ∀ σ' H' (R : Bool → Hp → Prop), R true H' → tt σ' H' R)
    (hv : ∀ (x : V) (d : D) (H' : Hp) (R : VK), Go b p H H' → d ∈ ds → Dv Hb x d → (∀ y H2 e, Go b p H' H2 → Dv (ovl Hb (newof H' H2)) y e → good e → R y H2) → te ((wipe σ vs).set j (some x)) H' R)
    (q : ∀ H' zs es, Go b p H H' → H' Dl = some (.lst zs) → DvL (ovl Hb (newof (upd H Dl (.lst [])) H')) zs es → (∀ e ∈ es, good e) → es.length = ds.length → Qd H') :
    ∃ W : Nat → Nat → Hp → Prop, (∃ m, W 0 m (upd H Dl (.lst []))) ∧ ∀ i m H, W i m H → ((Itl K a).stop i H ∧ Qd H) ∨ ((Itl K a).go i H ∧ ∃ Nx : Hp → Prop, (∀ H', Nx H' → ∃ m', m' < m ∧ W (i + 1) m' H') ∧
      ∀ x H', (Itl K a).yld i H x H' → gName j x (wipe σ vs) H' fun σ2 H2 => wipe σ2 vs = wipe σ vs ∧ tt σ2 H2 fun b H3 => if b = true then te σ2 H3 fun y H4 => ∃ acc, H4 Dl = some (.lst acc) ∧ acc.length < sizeLine ∧ Nx (upd H4 Dl (.lst (acc ++ [y]))) else Nx H3) := by
  have hlen := hd.len
  have nb := B.b_ne hD
  have h0 : (upd H Dl (.lst [])) Dl = some (.lst []) := upd_same
  have B1 : Bag b p (upd H Dl (.lst [])) := ((Go.refl B).new hD).B
  refine lc_it (walk_list (K := K) (a := a) (xs := xs)) (fun i H' => Go b p H H' ∧ ∃ zs es, H' Dl = some (.lst zs) ∧ DvL (ovl Hb (newof (upd H Dl (.lst [])) H')) zs es ∧ (∀ e ∈ es, good e) ∧ es.length = i)
    ⟨(Go.refl B).new hD, [], [], upd_same, .nil, fun _ h => (by cases h), rfl⟩ (fun i H' _ h => SqL.of (h.1.at na hT)) ?_ ?_
  · rintro i x H1 H1' hi ⟨g, zs, es, hl, hz2, hg, hn⟩ ⟨rfl, hx⟩
    obtain ⟨d, e1, hd1⟩ := hd.get hx
    refine ⟨hw _, he _ _ _ ?_⟩
    rw [if_pos rfl]
    refine hv x d H1' _ g (tk e1) hd1 fun y H2 e g2 hy ge => ⟨zs, g2.at nb hl, ?_, (g.trans g2).mut B hD, zs ++ [y], es ++ [e], upd_same, ?_, ?_, ?_⟩
    · have := hz2.len
      exact szl (by omega)
    · rw [newof_upd h0]
      refine (hz2.same (ovl_mono (newof_go B1 g2)) _ _).snoc (hy.same (ovl_mono (newof_lift fun c hc => ?_)) _ _)
      have n1 : c ≠ Dl := fun z => by
        rw [z, hl] at hc
        cases hc
      rw [upd_ne n1]
      exact g.free hc
    · intro e' he'
      rcases List.mem_append.mp he' with h | h
      · exact hg e' h
      · rw [List.mem_singleton.mp h]
        exact ge
    · rw [List.length_append, hn]
      rfl
  · rintro H' ⟨g, zs, es, hl, hz2, hg, hn⟩
    exact q H' zs es g hl hz2 hg (by omega)
end Fm
set_option maxRecDepth 100000
set_option maxHeartbeats 2000000
namespace Fm
open PySem PySem.Spec PyProof.Rows L2
theorem ints_of_flat {d : D} (t : Tm d) : ∀ i, D.int i ∈ flat d → i ∈ intsIn d := by
  induction t with
  | int u => intro i hi; simp [flat] at hi; subst hi; simp [intsIn]
  | tup x ds _ ih =>
    have e : intsIn (.tup (.str x :: ds)) = intsOf ds := by simp [intsIn, intsOf]
    have e2 : flat (.tup (.str x :: ds)) = .tup (.str x :: ds) :: flats ds := by simp [flat, flatT]
    rw [e, e2]
    intro i hi
    rcases List.mem_cons.mp hi with h | h
    · cases h
    clear e e2 hi
    induction ds with
    | nil => simp [flats] at h
    | cons c r ih2 =>
      simp only [flats, List.mem_append] at h
      simp only [intsOf, List.mem_append]
      rcases h with h | h
      · exact .inl (ih c List.mem_cons_self i h)
      · exact .inr (ih2 (fun c hc => by rename_i hall; exact hall c (List.mem_cons_of_mem _ hc)) (fun c hc => ih c (List.mem_cons_of_mem _ hc)) h)
theorem intsOf_in {i : Int} {d : D} : ∀ {ds : List D}, d ∈ ds → i ∈ intsIn d → i ∈ intsOf ds
  | [], h, _ => by cases h
  | x :: r, h, k => by
    simp only [intsOf, List.mem_append]
    rcases List.mem_cons.mp h with rfl | h
    · exact .inl k
    · exact .inr (intsOf_in h k)
/-- a list of terms whose told things can be shown -/
structure CaseOk (ds : List D) : Prop where
  tm : ∀ d ∈ ds, Tm d
  dp : deeps ds ≤ 30
  sz : sizes ds ≤ 5700
  few : (intsOf ds).length ≤ 324
  sh : ∀ i ∈ intsOf ds, Short 41 130 i
  nd : noDics ds = true
  un : (firstsOf ds).length ≤ 5
  len : ds.length ≤ 4
theorem caseOk_grt {ds : List D} (h : ∀ d ∈ ds, Grt d) (hn : ds.length ≤ 4) : CaseOk ds := by
  have g := grts_of h hn
  have h1 := g.sz
  have h2 := g.dp
  have h3 := g.few
  refine ⟨fun d hd => (h d hd).tm, by omega, by omega, by omega, fun i hi => (g.sh i hi).wide (by decide) (by decide) (by decide), g.nd, ?_, hn⟩
  have := nodup_len (firstsOf_nodup ds) (ys := [0, 1, 2, 3, 4]) fun u hu => by
    obtain ⟨d, hd, hf⟩ := flats_mem (firstsOf_mem.mp hu)
    obtain ⟨a, b⟩ := (h d hd).un u hf
    have : u = 0 ∨ u = 1 ∨ u = 2 ∨ u = 3 ∨ u = 4 := by omega
    simpa using this
  simpa using this
theorem caseOk_far {ds : List D} (h : ∀ d ∈ ds, Far d) (hn : ds.length ≤ 4) : CaseOk ds := by
  have h1 := sizes_le (n := 1416) fun d hd => by have := (h d hd).sz; omega
  have h2 := deeps_le fun d hd => (h d hd).dp
  have h3 := intsOf_len fun d hd => (h d hd).few
  have h4 : 1416 * ds.length ≤ 1416 * 4 := Nat.mul_le_mul_left _ hn
  have h5 : ds.length * 81 ≤ 4 * 81 := Nat.mul_le_mul_right _ hn
  refine ⟨fun d hd => (h d hd).tm, h2, by omega, by omega, fun i hi => ?_, noDics_of fun d hd => (h d hd).tm.noDic, ?_, hn⟩
  · obtain ⟨d, h6, h7⟩ := intsOf_mem hi
    rcases (h d h6).un i h7 with e | e | e | e
    · rw [e]; exact (short_small (by decide) (by decide)).wide (by decide) (by decide) (by decide)
    · rw [e]; exact (short_small (by decide) (by decide)).wide (by decide) (by decide) (by decide)
    · rw [e]; exact (short_small (by decide) (by decide)).wide (by decide) (by decide) (by decide)
    · rw [e]; exact short_far
  · have := nodup_len (firstsOf_nodup ds) (ys := [0, 5, 7, 10 ^ 39]) fun u hu => by
      obtain ⟨d, hd, hf⟩ := flats_mem (firstsOf_mem.mp hu)
      have : u = 0 ∨ u = 5 ∨ u = 7 ∨ u = 10 ^ 39 := (h d hd).un u (ints_of_flat (h d hd).tm u hf)
      simp only [List.mem_cons, List.not_mem_nil, or_false]
      exact this
    simp only [List.length_cons, List.length_nil] at this
    omega
theorem ops_len (ds : List D) : opsOf ds ≤ sizes ds := by
  have h1 := List.length_filter_le isT (flats ds)
  have h2 := flats_len ds
  unfold opsOf
  omega
theorem leaves_ints : ∀ {ds : List D}, (∀ d ∈ ds, Tm d) → leaves ds = intsOf ds := by
  have one : ∀ d, Tm d → leaf d = intsIn d := by
    intro d t
    induction t with
    | int u => simp [leaf, intsIn]
    | tup x ds _ ih =>
      have e : intsIn (.tup (.str x :: ds)) = intsOf ds := by simp [intsIn, intsOf]
      rw [e]
      show leaves ds = _
      clear e
      induction ds with
      | nil => rfl
      | cons c r ih2 =>
        have e3 : leaves (c :: r) = leaf c ++ leaves r := by rw [← leaves_one, ← leaves_app]; rfl
        rw [e3, ih c List.mem_cons_self, ih2 (fun c hc => by rename_i hall; exact hall c (List.mem_cons_of_mem _ hc)) (fun c hc => ih c (List.mem_cons_of_mem _ hc))]
        rfl
  intro ds
  induction ds with
  | nil => intro _; rfl
  | cons c r ih =>
    intro h
    have e3 : leaves (c :: r) = leaf c ++ leaves r := by rw [← leaves_one, ← leaves_app]; rfl
    rw [e3, one c (h c List.mem_cons_self), ih fun d hd => h d (List.mem_cons_of_mem _ hd)]
    rfl
theorem dvl_nums {H : Hp} : ∀ ns : List Int, DvL H (ns.map V.int) (ns.map D.int)
  | [] => .nil
  | n :: r => .cons (.int n) (dvl_nums r)
/-- what is told of terms -/
def dueD (ds : List D) (ns : List Int) : D := .lst [.int (opsOf ds : Nat), .lst (ns.map D.int), .lst (puts (numF ds) ds)]
theorem ints_facts : ∀ ns : List Int, sizes (ns.map D.int) = ns.length ∧ deeps (ns.map D.int) ≤ 1 ∧ intsOf (ns.map D.int) = ns ∧ noDics (ns.map D.int) = true
  | [] => ⟨rfl, Nat.zero_le _, rfl, rfl⟩
  | n :: r => by
    obtain ⟨a, b, c, e⟩ := ints_facts r
    refine ⟨?_, ?_, ?_, ?_⟩
    · simp only [List.map_cons, sizes, D.size, a, List.length_cons]; omega
    · simp only [List.map_cons, deeps, D.deep]; omega
    · simp only [List.map_cons, intsOf, intsIn, c]; rfl
    · simp only [List.map_cons, noDics, noDic, e]; rfl
theorem due_ok {ds : List D} {ns : List Int} {K : PySem.W.Frag} {H : Hp} {v : V} (c : CaseOk ds) (hn : ns.length ≤ 5) (hs : ∀ k ∈ ns, D.int k ∈ flats ds) (h : Dv H v (dueD ds ns)) :
    Dp K H v (pdOf (dueD ds ns)) ∧ SeqAt.shaped (pdOf (dueD ds ns)) = true ∧ (pdOf (dueD ds ns)).showable = true ∧ (pdOf (dueD ds ns)).hasDict = false ∧ (pdOf (dueD ds ns)).depth ≤ 60 ∧ (pdOf (dueD ds ns)).shown.length ≤ sizeLine := by
  obtain ⟨a1, a2, a3, a4⟩ := ints_facts ns
  have kf : ∀ u : Int, ∃ z : Int, numF ds u = .int z ∧ Short 13 20 z := fun u => ⟨_, rfl, short_small (by omega) (by
    have : (firstsOf ds).idxOf u ≤ (firstsOf ds).length := List.idxOf_le_length
    have := c.un
    omega)⟩
  have kf2 : ∀ u : Int, ∃ z : Int, numF ds u = .int z := fun u => ⟨_, rfl⟩
  obtain ⟨b1, b2, b3⟩ := kept_list fun d hd => kept_of kf2 (c.tm d hd)
  have b4 : noDics (puts (numF ds) ds) = true := noDics_of fun e he => by
    rw [puts_map] at he
    obtain ⟨d, hd, rfl⟩ := List.mem_map.mp he
    exact (kept_of kf2 (c.tm d hd)).tm.noDic
  have b5 : ∀ i ∈ intsOf (puts (numF ds) ds), Short 41 130 i := fun i hi => by
    obtain ⟨e, he, hi2⟩ := intsOf_mem hi
    rw [puts_map] at he
    obtain ⟨d, hd, rfl⟩ := List.mem_map.mp he
    exact (ints_put kf (c.tm d hd) i hi2).wide (by decide) (by decide) (by decide)
  have fi : intsIn (dueD ds ns) = (opsOf ds : Int) :: (ns ++ intsOf (puts (numF ds) ds)) := by
    simp [dueD, intsIn, intsOf, a3]
  have c1 := c.dp
  have c2 := c.sz
  have c3 := c.few
  have c4 := ops_len ds
  refine pd_ok (B := 41) (bits := 130) (by decide) h ?_ ?_ ?_ ?_
  · rw [fi]
    intro i hi
    rcases List.mem_cons.mp hi with rfl | hi
    · exact (short_small (by omega) (by omega)).wide (by decide) (by decide) (by decide)
    · rcases List.mem_append.mp hi with hi | hi
      · obtain ⟨d, hd, hf⟩ := flats_mem (hs i hi)
        refine c.sh i ?_
        have := ints_of_flat (c.tm d hd) i hf
        exact intsOf_in hd this
      · exact b5 i hi
  · simp [dueD, noDic, noDics, a4, b4]
  · simp only [dueD, D.deep, deeps, b1]
    omega
  · rw [fi]
    simp only [dueD, D.size, sizes, b2, a1, List.length_cons, List.length_append, b3]
    omega
theorem kept_ok {ds : List D} {K : PySem.W.Frag} {H : Hp} {v : V} (c : CaseOk ds) (h : Dv H v (.lst ds)) :
    Dp K H v (pdOf (.lst ds)) ∧ SeqAt.shaped (pdOf (.lst ds)) = true ∧ (pdOf (.lst ds)).showable = true ∧ (pdOf (.lst ds)).hasDict = false ∧ (pdOf (.lst ds)).depth ≤ 60 ∧ (pdOf (.lst ds)).shown.length ≤ sizeLine := by
  have c1 := c.dp
  have c2 := c.sz
  have c3 := c.few
  have fi : intsIn (.lst ds) = intsOf ds := by simp [intsIn]
  refine pd_ok (B := 41) (bits := 130) (by decide) h ?_ ?_ ?_ ?_
  · rw [fi]; exact c.sh
  · simp [noDic, c.nd]
  · simp only [D.deep]; omega
  · rw [fi]
    simp only [D.size]
    omega
end Fm
set_option maxRecDepth 100000
set_option maxHeartbeats 2000000
namespace Fm
open PySem PySem.Spec PyProof.Rows L2
open PySem.Builtin PySem.Builtin.Str
/-- a text of small letters -/
def Low (x : Str) : Prop := ∀ c ∈ x.cps.toList, 97 ≤ c ∧ c ≤ 122
/-- terms of names of small letters and of small unknowns -/
inductive TmL : D → Prop
  | int (i : Nat) : i < 10 → TmL (.int (i : Int))
  | tup (x : Str) (ds : List D) : Low x → (∀ d ∈ ds, TmL d) → TmL (.tup (.str x :: ds))
theorem low_prints : ∀ k, k < 26 → Unicode.isPrintable (97 + k) = true := by decide +kernel
theorem reprChar_low {c : Nat} (h : 97 ≤ c ∧ c ≤ 122) : reprChar 39 c = [c] := by
  have hp : Unicode.isPrintable c = true := by
    have := low_prints (c - 97) (by omega)
    rwa [show 97 + (c - 97) = c by omega] at this
  unfold reprChar
  rw [if_neg (by simp; omega), if_neg (by simp; omega), if_neg (by simp; omega), if_neg (by simp; omega), if_pos hp]
theorem fold_low : ∀ (l : List Nat) (acc : Array Nat), (∀ c ∈ l, 97 ≤ c ∧ c ≤ 122) → (l.foldl (fun out c => out ++ (reprChar 39 c).toArray) acc).toList = acc.toList ++ l
  | [], acc, _ => by simp
  | c :: r, acc, h => by
    rw [List.foldl_cons, fold_low r _ fun d hd => h d (List.mem_cons_of_mem _ hd), reprChar_low (h c List.mem_cons_self)]
    simp
theorem reprText_low {x : Str} (h : Low x) : (reprText x).cps.toList = 39 :: (x.cps.toList ++ [39]) := by
  have q : reprQuote x = 39 := by
    unfold reprQuote
    have : x.cps.contains 39 = false := by
      rw [Bool.eq_false_iff]
      intro e
      rw [Array.contains_iff_mem] at e
      have := h 39 (Array.mem_toList_iff.mpr e)
      omega
    rw [this]
    rfl
  unfold reprText
  rw [q]
  show (Array.push _ 39).toList = _
  rw [Array.toList_push, ← Array.foldl_toList, fold_low _ _ h]
  simp
mutual
def rt : D → List Nat
  | .int i => [48 + i.toNat]
  | .tup (.str x :: []) => 40 :: 39 :: (x.cps.toList ++ [39, 44, 41])
  | .tup (.str x :: d :: r) => 40 :: 39 :: (x.cps.toList ++ 39 :: (44 :: 32 :: rt d ++ rts r ++ [41]))
  | _ => []
def rts : List D → List Nat
  | [] => []
  | d :: r => 44 :: 32 :: rt d ++ rts r
end
def tails (ds : List D) : List Nat := match ds with
  | [] => [44, 41]
  | d :: r => rts (d :: r) ++ [41]
theorem rt_tup (x : Str) (ds : List D) : rt (.tup (.str x :: ds)) = 40 :: 39 :: (x.cps.toList ++ 39 :: tails ds) := by
  cases ds with
  | nil => simp [rt, tails]
  | cons d r => simp [rt, rts, tails]
theorem low_split : ∀ {xs ys : List Nat} {s t : List Nat}, (∀ c ∈ xs, 97 ≤ c ∧ c ≤ 122) → (∀ c ∈ ys, 97 ≤ c ∧ c ≤ 122) → xs ++ 39 :: s = ys ++ 39 :: t → xs = ys ∧ s = t
  | [], [], _, _, _, _, h => by simpa using h
  | [], y :: r, _, _, _, hy, h => by
    have := hy y List.mem_cons_self
    simp at h
    omega
  | x :: r, [], _, _, hx, _, h => by
    have := hx x List.mem_cons_self
    simp at h
    omega
  | x :: r, y :: r2, _, _, hx, hy, h => by
    simp only [List.cons_append, List.cons.injEq] at h
    obtain ⟨rfl, h⟩ := h
    obtain ⟨e, k⟩ := low_split (fun c hc => hx c (List.mem_cons_of_mem _ hc)) (fun c hc => hy c (List.mem_cons_of_mem _ hc)) h
    exact ⟨by rw [e], k⟩
/-- what one term's text and what stands behind it say -/
def Tells (a : D) : Prop := ∀ (b : D) (s t : List Nat), TmL b → rt a ++ s = rt b ++ t → a = b ∧ s = t
theorem rts_tell : ∀ {ds es : List D} {s t : List Nat}, (∀ d ∈ ds, Tells d) → (∀ e ∈ es, TmL e) → rts ds ++ 41 :: s = rts es ++ 41 :: t → ds = es ∧ s = t
  | [], [], _, _, _, _, h => by simpa [rts] using h
  | [], e :: r, _, _, _, _, h => by simp [rts] at h
  | d :: r, [], _, _, _, _, h => by simp [rts] at h
  | d :: r, e :: r2, s, t, hd, he, h => by
    simp only [rts, List.cons_append, List.append_assoc, List.cons.injEq, true_and] at h
    obtain ⟨rfl, k⟩ := hd d List.mem_cons_self e _ _ (he e List.mem_cons_self) h
    obtain ⟨rfl, k2⟩ := rts_tell (fun x hx => hd x (List.mem_cons_of_mem _ hx)) (fun x hx => he x (List.mem_cons_of_mem _ hx)) k
    exact ⟨rfl, k2⟩
theorem str_ext {x y : Str} (h : x.cps.toList = y.cps.toList) : x = y := by
  cases x
  cases y
  simp only [Str.mk.injEq]
  exact Array.toList_inj.mp h
theorem rt_tells {a : D} (h : TmL a) : Tells a := by
  induction h with
  | int i hi =>
    intro b s t hb e
    cases hb with
    | int j hj =>
      simp only [rt, List.cons_append, List.nil_append, List.cons.injEq, Int.toNat_natCast] at e
      obtain ⟨e, k⟩ := e
      exact ⟨by rw [show i = j by omega], k⟩
    | tup y es hy hes =>
      rw [rt_tup] at e
      simp only [rt, List.cons_append, List.nil_append, List.cons.injEq, Int.toNat_natCast] at e
      omega
  | tup x ds hx _ ih =>
    intro b s t hb e
    cases hb with
    | int j hj =>
      rw [rt_tup] at e
      simp only [rt, List.cons_append, List.nil_append, List.cons.injEq, Int.toNat_natCast] at e
      omega
    | tup y es hy hes =>
      rw [rt_tup, rt_tup] at e
      simp only [List.cons_append, List.append_assoc, List.cons.injEq, true_and] at e
      obtain ⟨e1, e2⟩ := low_split hx hy e
      cases str_ext e1
      cases ds with
      | nil =>
        cases es with
        | nil => simpa [tails] using e2
        | cons f r => simp [tails, rts] at e2
      | cons d r =>
        cases es with
        | nil => simp [tails, rts] at e2
        | cons f r2 =>
          simp only [tails, List.append_assoc, List.singleton_append] at e2
          obtain ⟨e3, e4⟩ := rts_tell ih hes e2
          exact ⟨by rw [e3], e4⟩
theorem cps_app (x y : Str) : (x ++ y).cps.toList = x.cps.toList ++ y.cps.toList := Array.toList_append
theorem join_rts : ∀ (ds : List D) (y : Str), (∀ d ∈ ds, (PyData.shown (pdOf d)).cps.toList = rt d) → (Str.join ", " (y :: PyData.shownAll (pdsOf ds))).cps.toList = y.cps.toList ++ rts ds
  | [], y, _ => by simp [PyData.shownAll, pdsOf, Str.join, rts]
  | d :: r, y, h => by
    have e : Str.join ", " (y :: PyData.shownAll (pdsOf (d :: r))) = y ++ ", " ++ Str.join ", " (PyData.shown (pdOf d) :: PyData.shownAll (pdsOf r)) := rfl
    rw [e, cps_app, cps_app, join_rts r _ fun x hx => h x (List.mem_cons_of_mem _ hx), h d List.mem_cons_self]
    have c : ((", " : String) : Str).cps.toList = [44, 32] := by decide
    rw [c]
    simp [rts]
theorem digit_text : ∀ i : Nat, i < 10 → (PyData.shown (.int (i : Int))).cps.toList = [48 + i] := by decide
theorem shown_rt {a : D} (h : TmL a) : (PyData.shown (pdOf a)).cps.toList = rt a := by
  induction h with
  | int i hi =>
    show (PyData.shown (.int (i : Int))).cps.toList = _
    rw [digit_text i hi]
    simp [rt]
  | tup x ds hx _ ih =>
    rw [rt_tup]
    have e : PyData.shown (pdOf (.tup (.str x :: ds))) = ("(" : Str) ++ Str.join ", " (reprText x :: PyData.shownAll (pdsOf ds)) ++ (if (reprText x :: PyData.shownAll (pdsOf ds)).length == 1 then ",)" else ")" : String) := rfl
    rw [e, cps_app, cps_app, join_rts ds _ ih, reprText_low hx]
    have c1 : ((("(" : String) : Str)).cps.toList = [40] := by decide
    have c2 : (((",)" : String) : Str)).cps.toList = [44, 41] := by decide
    have c3 : (((")" : String) : Str)).cps.toList = [41] := by decide
    rw [c1]
    cases ds with
    | nil =>
      have : ((reprText x :: PyData.shownAll (pdsOf [])).length == 1) = true := rfl
      rw [if_pos this, c2]
      simp [rts, tails]
    | cons d r =>
      have : ¬ ((reprText x :: PyData.shownAll (pdsOf (d :: r))).length == 1) = true := by
        simp [pdsOf, PyData.shownAll]
      rw [if_neg this, c3]
      simp [rts, tails]
/-- what is shown of terms tells them -/
theorem shown_inj {a b : D} (ha : TmL a) (hb : TmL b) (h : PyData.shown (pdOf a) = PyData.shown (pdOf b)) : a = b := by
  have e : rt a ++ [] = rt b ++ [] := by rw [← shown_rt ha, ← shown_rt hb, h]
  exact (rt_tells ha b [] [] hb e).1
end Fm
set_option maxRecDepth 100000
set_option maxHeartbeats 2000000
namespace Fm
open PySem PySem.Spec PyProof.Rows L2
def okL (x : Str) : Bool := x.cps.all fun c => decide (97 ≤ c) && decide (c ≤ 122)
theorem okL_iff {x : Str} : okL x = true ↔ Low x := by
  unfold okL Low
  rw [Array.all_eq_true_iff_forall_mem]
  constructor
  · intro h c hc
    have := h c (Array.mem_toList_iff.mp hc)
    simpa using this
  · intro h c hc
    simpa using h c (Array.mem_toList_iff.mpr hc)
theorem okL_ok {x : Str} (h : okL x = true) : PyData.strOk x = true := by
  have l := okL_iff.mp h
  unfold PyData.strOk
  rw [Array.all_eq_true_iff_forall_mem]
  intro c hc
  have := l c (Array.mem_toList_iff.mpr hc)
  simp
  omega
theorem okL_part {x y : Str} (h : okL x = true) (k : ∀ c ∈ y.cps.toList, c ∈ x.cps.toList) : okL y = true :=
  okL_iff.mpr fun c hc => okL_iff.mp h c (k c hc)
theorem okL_app {x y : Str} (hx : okL x = true) (hy : okL y = true) : okL (x ++ y) = true := by
  refine okL_iff.mpr fun c hc => ?_
  rw [cps_app] at hc
  rcases List.mem_append.mp hc with h | h
  · exact okL_iff.mp hx c h
  · exact okL_iff.mp hy c h
theorem okL_join {ys : List Str} (h : ∀ y ∈ ys, okL y = true) : okL (Txt.join "" ys) = true := by
  have e : Txt.join "" ys = Str.join "" ys := StrLaws.glued_eq_join _ _
  rw [e]
  clear e
  induction ys with
  | nil => decide +kernel
  | cons x r ih =>
    cases r with
    | nil => exact h x List.mem_cons_self
    | cons y r => exact okL_app (okL_app (h x List.mem_cons_self) (by decide +kernel)) (ih fun z hz => h z (List.mem_cons_of_mem _ hz))
theorem okL_cut {x : Str} {lo hi : Option Int} (h : okL x = true) : okL (cutS x lo hi) = true := by
  refine okL_part h fun c hc => ?_
  have e : (cutS x lo hi).cps.toList = (x.cps.toList.drop (HT.sIx x.cps.toList.length 0 lo)).take (HT.sIx x.cps.toList.length x.cps.toList.length hi - HT.sIx x.cps.toList.length 0 lo) := by
    first | rfl | simp [cutS]
  rw [e] at hc
  exact List.mem_of_mem_drop (List.mem_of_mem_take hc)
theorem dvl_strsL {H : Hp} {m : Nat} : ∀ {acc : List V} {ds : List D}, DvL H acc ds → (∀ d ∈ ds, ∃ x, d = .str x ∧ okL x = true ∧ x.length ≤ m) → ∃ ys : List Str, acc = ys.map V.str ∧ (∀ y ∈ ys, okL y = true ∧ y.length ≤ m) ∧ ys.length = ds.length
  | _, _, .nil, _ => ⟨[], rfl, fun _ h => (by cases h), rfl⟩
  | _, _, .cons a b, h => by
    obtain ⟨ys, e, f, g⟩ := dvl_strsL b fun d hd => h d (List.mem_cons_of_mem _ hd)
    obtain ⟨x, rfl, o, l⟩ := h _ List.mem_cons_self
    cases a
    refine ⟨x :: ys, by rw [e]; rfl, fun y hy => ?_, by simp [g]⟩
    rcases List.mem_cons.mp hy with rfl | hy
    · exact ⟨o, l⟩
    · exact f y hy
theorem sign_atL {x : Str} {i : Int} (h0 : 0 ≤ i) (h1 : i < x.length) : ∃ c, atI x.cps.toList i = some c ∧ (okL x = true → okL ⟨#[c]⟩ = true) := by
  obtain ⟨k, rfl⟩ := Int.eq_ofNat_of_zero_le h0
  have l : x.cps.toList.length = x.length := by simp [Str.length]
  have lt : k < x.cps.toList.length := by omega
  refine ⟨x.cps.toList[k], atI_nat (List.getElem?_eq_getElem lt), fun o => okL_part o fun c hc => ?_⟩
  simp only [List.mem_singleton] at hc
  rw [hc]
  exact List.getElem_mem lt
/-- some names of small letters -/
def spNamesL : Sp := fun vs H Q _ => ∃ b p n, vs = [.ref b, .int n] ∧ Bag b p H ∧ 0 ≤ n ∧ n ≤ 20 ∧
  ∀ (l : Addr) (H' : Hp) (xs : List Str), Go b p H H' → newof H H' l = some (.lst (xs.map V.str)) → (xs.length : Int) = n → (∀ x ∈ xs, okL x = true ∧ x.length ≤ 30) → Q (.ref l) H'
structure NamesL (nm b : Addr) (H : Hp) (xs : List Str) : Prop where
  at_ : H nm = some (.lst (xs.map V.str))
  ne : nm ≠ b
  pos : 1 ≤ xs.length
  few : xs.length ≤ 20
  ok : ∀ x ∈ xs, okL x = true ∧ x.length ≤ 30
theorem NamesL.go {nm b p : Addr} {H H' : Hp} {xs : List Str} (N : NamesL nm b H xs) (g : Go b p H H') : NamesL nm b H' xs := ⟨g.at N.ne N.at_, N.ne, N.pos, N.few, N.ok⟩
theorem NamesL.get {nm b : Addr} {H : Hp} {xs : List Str} (N : NamesL nm b H xs) {i : Int} (h0 : 0 ≤ i) (h1 : i < xs.length) : ∃ x, atI (xs.map V.str) i = some (.str x) ∧ okL x = true ∧ x.length ≤ 30 := by
  obtain ⟨k, rfl⟩ := Int.eq_ofNat_of_zero_le h0
  have lt : k < xs.length := by omega
  refine ⟨xs[k], atI_nat ?_, N.ok _ (List.getElem_mem lt)⟩
  rw [List.getElem?_map, List.getElem?_eq_getElem lt]
  rfl
def spTermL (m : Nat) : Sp := fun vs H Q _ => ∃ (b p nm : Addr) (xs : List Str) (many : Int) (k : Nat) (deep : Int), vs = [.ref b, .ref nm, .int many, .int deep] ∧ deep = (k : Int) ∧ Bag b p H ∧ NamesL nm b H xs ∧ 0 < many ∧ many ≤ 10 ∧ k < m ∧ k ≤ 100 ∧
  ∀ v H' d, Go b p H H' → Dv (newof H H') v d → TmL d → Sized k d → UnkL many k d → Q v H'
theorem TmL.tm {d : D} (h : TmL d) : Tm d := by
  induction h with
  | int i _ => exact .int _
  | tup x ds _ _ ih => exact .tup x ds ih
section
variable {X : Cx}
/-- x in a list of data -/
def rInD (K : PySem.W.Frag) (neg : Bool) : R2 := fun x y H Q => ∃ (d : PyData) (ds : List PyData), Dp K H x d ∧ Dp K H y (.list ds) ∧ PyData.canLayAll0 ds = true ∧ d.canLay0 = true ∧ min (PyData.depthAll ds) d.depth < 60 ∧
  Q (.bl (if neg then !(ds.any fun e => PyData.eqv e d) else ds.any fun e => PyData.eqv e d)) H
theorem op_inD (hu : X.A.units + 64 < cLine) : OpR X (compareOp .In) (rInD X.K false) := by
  intro pins s σ H x y v u Q I rx ry h
  obtain ⟨d, ds, hd, he, sd, se, dz, q⟩ := h
  obtain ⟨as, r1⟩ := Dp.reads I d x v hd rx
  obtain ⟨bs, r2⟩ := Dp.reads I _ y u he ry
  exact SeqAt.in_list_reads r2 r1 sd se (by omega) ⟨.bl _, H, I, rfl, q⟩
theorem op_niD (hu : X.A.units + 64 < cLine) : OpR X (compareOp .NotIn) (rInD X.K true) := by
  intro pins s σ H x y v u Q I rx ry h
  obtain ⟨d, ds, hd, he, sd, se, dz, q⟩ := h
  obtain ⟨as, r1⟩ := Dp.reads I d x v hd rx
  obtain ⟨bs, r2⟩ := Dp.reads I _ y u he ry
  exact SeqAt.notIn_list_reads r2 r1 sd se (by omega) ⟨.bl _, H, I, rfl, q⟩
end
end Fm
set_option maxRecDepth 100000
set_option maxHeartbeats 2000000
/-! worlds: what the law's dicts are -/
namespace Fm
open PySem PySem.Spec PyProof.Rows L2
abbrev Outs := List (Str × Int)
abbrev Acts := List (Str × (Int × Outs))
/-- the names of an association list differ -/
def Nds {α : Type} (l : List (Str × α)) : Prop := (l.map (·.1)).Nodup
structure OutsOk (o : Outs) : Prop where
  nd : Nds o
  lo : 1 ≤ o.length
  hi : o.length ≤ 6
  ok : ∀ p ∈ o, isOutS p.1 = true ∧ PyData.strOk p.1 = true ∧ p.1.length ≤ 20 ∧ 0 ≤ p.2 ∧ p.2 < 3
structure ActsOk (l : Acts) : Prop where
  nd : Nds l
  hi : l.length ≤ 20
  ok : ∀ p ∈ l, isNameS p.1 = true ∧ PyData.strOk p.1 = true ∧ p.1.length ≤ 20 ∧ 0 ≤ p.2.1 ∧ p.2.1 < 3 ∧ OutsOk p.2.2
def kO (o : Outs) : List (Key × V) := o.map fun p => (.inr p.1, V.int p.2)
/-- a dict of outcomes -/
def OutsAt (H : Hp) (d : Addr) (o : Outs) : Prop := H d = some (.dK (kO o))
/-- an act: a pair of a number and such a dict -/
def ActAt (H : Hp) (v : V) (a : Int × Outs) : Prop := ∃ t d, v = .ref t ∧ H t = some (.tup [.int a.1, .ref d]) ∧ OutsAt H d a.2
inductive ActsL (H : Hp) : List (Key × V) → Acts → Prop
  | nil : ActsL H [] []
  | cons {n : Str} {v : V} {a : Int × Outs} {ks : List (Key × V)} {l : Acts} : ActAt H v a → ActsL H ks l → ActsL H ((.inr n, v) :: ks) ((n, a) :: l)
/-- a dict of acts -/
def ActsAt (H : Hp) (p : Addr) (l : Acts) : Prop := ∃ ks, H p = some (.dK ks) ∧ ActsL H ks l
theorem OutsAt.same {H H' : Hp} {d : Addr} {o : Outs} (h : OutsAt H d o) (k : Same H H') : OutsAt H' d o := k _ _ h
theorem ActAt.same {H H' : Hp} {v : V} {a : Int × Outs} (h : ActAt H v a) (k : Same H H') : ActAt H' v a := by
  obtain ⟨t, d, e, h1, h2⟩ := h
  exact ⟨t, d, e, k _ _ h1, h2.same k⟩
theorem ActsL.same {H H' : Hp} {ks : List (Key × V)} {l : Acts} (h : ActsL H ks l) (k : Same H H') : ActsL H' ks l := by
  induction h with
  | nil => exact .nil
  | cons a _ ih => exact .cons (a.same k) ih
theorem ActsAt.same {H H' : Hp} {p : Addr} {l : Acts} (h : ActsAt H p l) (k : Same H H') : ActsAt H' p l := by
  obtain ⟨ks, h1, h2⟩ := h
  exact ⟨ks, k _ _ h1, h2.same k⟩
theorem ActsL.keys {H : Hp} {ks : List (Key × V)} {l : Acts} (h : ActsL H ks l) : ks.map (·.1) = (l.map (·.1)).map Sum.inr := by
  induction h with
  | nil => rfl
  | cons a _ ih => simp only [List.map_cons, ih]
theorem ActsL.len {H : Hp} {ks : List (Key × V)} {l : Acts} (h : ActsL H ks l) : ks.length = l.length := by
  have := congrArg List.length h.keys
  simpa using this
/-- what stands at the i-th place -/
theorem ActsL.get {H : Hp} {ks : List (Key × V)} {l : Acts} (h : ActsL H ks l) : ∀ {i : Nat} {k : Key} {v : V}, ks[i]? = some (k, v) → ∃ n a, l[i]? = some (n, a) ∧ k = .inr n ∧ ActAt H v a := by
  induction h with
  | nil => intro i k v e; simp at e
  | cons a _ ih =>
    intro i k v e
    cases i with
    | zero =>
      cases e
      exact ⟨_, _, rfl, rfl, a⟩
    | succ i => exact ih e
/-- looked up by name -/
theorem ActsL.look {H : Hp} {ks : List (Key × V)} {l : Acts} (h : ActsL H ks l) (n : Str) : (valV ks (.inr n) = none ∧ l.lookup n = none) ∨ ∃ v a, valV ks (.inr n) = some v ∧ l.lookup n = some a ∧ ActAt H v a := by
  induction h with
  | nil => exact .inl ⟨rfl, rfl⟩
  | @cons m v a ks l ha _ ih =>
    by_cases c : n = m
    · subst c
      refine .inr ⟨v, a, ?_, ?_, ha⟩
      · simp [valV]
      · simp [List.lookup]
    · have e1 : valV ((.inr m, v) :: ks) (.inr n : Key) = valV ks (.inr n) := by
        simp [valV, Ne.symm c]
      have e2 : List.lookup n ((m, a) :: l) = List.lookup n l := by
        rw [List.lookup_cons]
        have : (n == m) = false := by simpa using c
        rw [this]
      rw [e1, e2]
      exact ih
/-- a comprehension whose turns give f 0, f 1, .. and leave what stood -/
theorem lc_itF {J : It} {n : Nat} {G : Hp → Prop} {Y : Nat → Hp → V → Hp → Prop} (w : Walk J n G Y) {g : TG} {tt : TT} {te : TE} {vs : List Nat} {σ : L2.St} {H : Hp} {Dl : Addr} {Qd : Hp → Prop} (f : Nat → V) (hD : H Dl = none) (hz : n ≤ 100000)
    (hG : ∀ H', Same H H' → G H')
    (hv : ∀ (i : Nat) (x : V) (H' H2 : Hp) (R : VK) (Nx : Hp → Prop), i < n → Same H H' → Y i H' x H2 → (∀ H3, Same H' H3 → R (f i) H3) → g x (wipe σ vs) H2 fun σ2 H3 => wipe σ2 vs = wipe σ vs ∧ tt σ2 H3 fun b H4 => if b = true then te σ2 H4 R else Nx H4)
    (q : ∀ H', Same H H' → H' Dl = some (.lst ((List.range n).map f)) → Qd H') :
    ∃ W : Nat → Nat → Hp → Prop, (∃ m, W 0 m (upd H Dl (.lst []))) ∧ ∀ i m H, W i m H →
      (J.stop i H ∧ Qd H) ∨ (J.go i H ∧ ∃ Nx : Hp → Prop, (∀ H', Nx H' → ∃ m', m' < m ∧ W (i + 1) m' H') ∧ ∀ x H', J.yld i H x H' → g x (wipe σ vs) H' fun σ2 H2 => wipe σ2 vs = wipe σ vs ∧ tt σ2 H2 fun b H3 =>
        if b = true then te σ2 H3 fun y H4 => ∃ acc, H4 Dl = some (.lst acc) ∧ acc.length < sizeLine ∧ Nx (upd H4 Dl (.lst (acc ++ [y]))) else Nx H3) := by
  refine lc_it w (fun i H' => Same H H' ∧ H' Dl = some (.lst ((List.range i).map f))) ⟨Same.new hD, upd_same⟩ (fun i H' _ h => hG H' h.1) ?_ (fun H' h => q H' h.1 h.2)
  rintro i x H1 H2 hi ⟨k, hl⟩ y
  refine hv i x H1 H2 _ _ hi k y fun H3 k3 => ⟨_, k3 _ _ hl, ?_, Same.upd (k.trans k3) hD, ?_⟩
  · rw [List.length_map, List.length_range]
    exact szl (by omega)
  · rw [List.range_succ, List.map_append]
    exact upd_same
/-- behind a locked dict: what stood stands -/
theorem lock_back {H H' : Hp} {d : Addr} {u : HO} {od : Obj} (hu : H d = some u) (k : Same (upd H d (.frz od u)) H') : Same H (upd H' d u) := fun a o e => by
  by_cases c : a = d
  · rw [c] at e ⊢
    rw [upd_same, ← e]
    exact hu.symm
  · rw [upd_ne c]
    exact k a o (by rw [upd_ne c]; exact e)
theorem acts_mem {l : Acts} {n : Str} {a : Int × Outs} (h : l.lookup n = some a) : (n, a) ∈ l := by
  induction l with
  | nil => cases h
  | cons p l ih =>
    obtain ⟨m, b⟩ := p
    rw [List.lookup_cons] at h
    by_cases c : n = m
    · subst c
      simp only [beq_self_eq_true] at h
      cases h
      exact List.mem_cons_self
    · have : (n == m) = false := by simpa using c
      rw [this] at h
      exact List.mem_cons_of_mem _ (ih h)
theorem acts_look {l : Acts} {n : Str} (h : n ∈ l.map (·.1)) : ∃ a, l.lookup n = some a := by
  induction l with
  | nil => cases h
  | cons p l ih =>
    obtain ⟨m, b⟩ := p
    rw [List.lookup_cons]
    by_cases c : n = m
    · subst c
      simp
    · have : (n == m) = false := by simpa using c
      rw [this]
      rcases List.mem_cons.mp h with h | h
      · exact absurd h c
      · exact ih h
/-- a dict comprehension over what is walked -/
theorem dc_it {J : It} {n : Nat} {G : Hp → Prop} {Y : Nat → Hp → V → Hp → Prop} (w : Walk J n G Y) {g : TG} {tt : TT} {tk tv : TE} {vs : List Nat} {σ : L2.St} {H1 : Hp} {D : Addr} {Qd : Hp → Prop} (Pv : Nat → Hp → Prop) (h0 : Pv 0 (upd H1 D (.dK []))) (hG : ∀ i H, i ≤ n → Pv i H → G H)
    (hs : ∀ i x H H', i < n → Pv i H → Y i H x H' → g x (wipe σ vs) H' fun σ2 H2 => wipe σ2 vs = wipe σ vs ∧ tt σ2 H2 fun b H3 =>
      if b = true then tk σ2 H3 fun y H4 => tv σ2 H4 fun z H5 => ∃ kvs k, y = kV k ∧ H5 D = some (.dK kvs) ∧ kvs.length < sizeLine ∧ Pv (i + 1) (upd H5 D (.dK (putK kvs k z))) else Pv (i + 1) H3) (hd : ∀ H, Pv n H → Qd H) :
    ∃ W : Nat → Nat → Hp → Prop, (∃ m, W 0 m (upd H1 D (.dK []))) ∧ ∀ i m H, W i m H →
      (J.stop i H ∧ Qd H) ∨ (J.go i H ∧ ∃ Nx : Hp → Prop, (∀ H', Nx H' → ∃ m', m' < m ∧ W (i + 1) m' H') ∧ ∀ x H', J.yld i H x H' → g x (wipe σ vs) H' fun σ2 H2 => wipe σ2 vs = wipe σ vs ∧ tt σ2 H2 fun b H3 =>
        if b = true then tk σ2 H3 fun y H4 => tv σ2 H4 fun z H5 => ∃ kvs k, y = kV k ∧ H5 D = some (.dK kvs) ∧ kvs.length < sizeLine ∧ Nx (upd H5 D (.dK (putK kvs k z))) else Nx H3) := by
  refine ⟨fun i m H => m = n - i ∧ i ≤ n ∧ Pv i H, ⟨n, rfl, Nat.zero_le _, h0⟩, fun i m H y => ?_⟩
  obtain ⟨rfl, hi, p⟩ := y
  have gg := hG i H hi p
  rcases Nat.lt_or_ge i n with lt | ge
  · exact .inr ⟨w.goes i H lt gg, Pv (i + 1), fun H' p' => ⟨n - (i + 1), by omega, rfl, lt, p'⟩, fun x H' y => hs i x H H' lt p (w.yields i H x H' lt gg y)⟩
  · have e : i = n := by omega
    subst e
    exact .inl ⟨w.stops H gg, hd H p⟩
theorem valV_no {kvs : List (Key × V)} {k : Key} (h : ∀ p ∈ kvs, p.1 ≠ k) : valV kvs k = none := by
  induction kvs with
  | nil => rfl
  | cons p r ih =>
    rw [valV_neg (h p List.mem_cons_self)]
    exact ih fun q hq => h q (List.mem_cons_of_mem _ hq)
theorem nds_take {α : Type} {l : List (Str × α)} (nd : Nds l) {i : Nat} {n : Str} {a : α} (h : l[i]? = some (n, a)) : ∀ p ∈ l.take i, p.1 ≠ n := by
  intro p hp e
  obtain ⟨j, hj, hpj⟩ := List.mem_iff_getElem.mp hp
  have lj : j < i := by rw [List.length_take] at hj; omega
  have pw := List.pairwise_iff_getElem.mp nd
  obtain ⟨hi, hv⟩ := List.getElem?_eq_some_iff.mp h
  have q := pw j i (by rw [List.length_map]; omega) (by rw [List.length_map]; exact hi) lj
  rw [List.getElem_map, List.getElem_map, hv] at q
  rw [List.getElem_take] at hpj
  rw [hpj] at q
  exact q e
theorem look_get {l : Acts} (nd : Nds l) {i : Nat} {n : Str} {a : Int × Outs} (h : l[i]? = some (n, a)) : l.lookup n = some a := by
  induction l generalizing i with
  | nil => simp at h
  | cons p l ih =>
    obtain ⟨m, b⟩ := p
    rw [List.lookup_cons]
    obtain ⟨n1, n2⟩ := List.nodup_cons.mp nd
    cases i with
    | zero =>
      cases h
      simp
    | succ i =>
      have h' : l[i]? = some (n, a) := h
      have mem : n ∈ l.map (·.1) := List.mem_map.mpr ⟨_, List.mem_of_getElem? h', rfl⟩
      have ne : (n == m) = false := by
        rw [beq_eq_false_iff_ne]
        intro e
        rw [e] at mem
        exact n1 mem
      rw [ne]
      exact ih n2 h'
/-- the numbers of the acts -/
def kA (l : Acts) : List (Key × V) := l.map fun p => (.inr p.1, V.int p.2.1)
theorem kA_step {l : Acts} (nd : Nds l) {i : Nat} {n : Str} {a : Int × Outs} (h : l[i]? = some (n, a)) : putK ((kA l).take i) (.inr n) (.int a.1) = (kA l).take (i + 1) := by
  have e1 : (kA l)[i]? = some (.inr n, .int a.1) := by
    unfold kA
    rw [List.getElem?_map, h]
    rfl
  rw [putK_new _ (valV_no ?_), List.take_add_one, e1]
  · rfl
  · intro p hp e
    unfold kA at hp
    rw [← List.map_take] at hp
    obtain ⟨q, hq, rfl⟩ := List.mem_map.mp hp
    exact nds_take nd h q hq (Sum.inr.inj e)
/-- the dict of what the acts bring: each act's outcomes in a dict of their own -/
inductive BringsL (H : Hp) : List (Key × V) → Acts → Prop
  | nil : BringsL H [] []
  | cons {n : Str} {d : Addr} {a : Int × Outs} {ks : List (Key × V)} {l : Acts} : OutsAt H d a.2 → BringsL H ks l → BringsL H ((.inr n, .ref d) :: ks) ((n, a) :: l)
theorem BringsL.same {H H' : Hp} {ks : List (Key × V)} {l : Acts} (h : BringsL H ks l) (k : Same H H') : BringsL H' ks l := by
  induction h with
  | nil => exact .nil
  | cons a _ ih => exact .cons (a.same k) ih
theorem BringsL.keys {H : Hp} {ks : List (Key × V)} {l : Acts} (h : BringsL H ks l) : ks.map (·.1) = (l.map (·.1)).map Sum.inr := by
  induction h with
  | nil => rfl
  | cons a _ ih => simp only [List.map_cons, ih]
theorem BringsL.len {H : Hp} {ks : List (Key × V)} {l : Acts} (h : BringsL H ks l) : ks.length = l.length := by
  have := congrArg List.length h.keys
  simpa using this
theorem BringsL.snoc {H : Hp} {ks : List (Key × V)} {l : Acts} (h : BringsL H ks l) {n : Str} {d : Addr} {a : Int × Outs} (o : OutsAt H d a.2) : BringsL H (ks ++ [(.inr n, .ref d)]) (l ++ [(n, a)]) := by
  induction h with
  | nil => exact .cons o .nil
  | cons b _ ih => exact .cons b ih
theorem BringsL.step {H : Hp} {ks : List (Key × V)} {l : Acts} (nd : Nds l) {i : Nat} (h : BringsL H ks (l.take i)) {n : Str} {d : Addr} {a : Int × Outs} (e : l[i]? = some (n, a)) (o : OutsAt H d a.2) : BringsL H (putK ks (.inr n) (.ref d)) (l.take (i + 1)) := by
  rw [putK_new _ (valV_no ?_), List.take_add_one, e]
  · exact h.snoc o
  · intro p hp e2
    have m : p.1 ∈ ks.map (·.1) := List.mem_map.mpr ⟨p, hp, rfl⟩
    rw [h.keys] at m
    obtain ⟨x, hx, hx2⟩ := List.mem_map.mp m
    obtain ⟨q, hq, rfl⟩ := List.mem_map.mp hx
    rw [← hx2] at e2
    exact nds_take nd e q hq (Sum.inr.inj e2)
theorem BringsL.mono {H H' : Hp} {ks : List (Key × V)} {l : Acts} (h : BringsL H ks l) (f : ∀ d o, OutsAt H d o → OutsAt H' d o) : BringsL H' ks l := by
  induction h with
  | nil => exact .nil
  | cons a _ ih => exact .cons (f _ _ a) ih
end Fm
set_option maxRecDepth 100000
set_option maxHeartbeats 2000000
/-! such dicts in the abstract heap -/
namespace NkD
open PySem PySem.Spec PyProof.Rows L2 Fm
open Sem (wp)
def EntV (w : World) (e : DictEntry) (x : NestedKey × V × V) : Prop := e.hash = x.1.hash w ∧ RelV x.2.1 e.key ∧ RelV x.2.2 e.val
/-- at a stands a dict with these keys and values -/
def rawP (w : World) (a : Addr) (es : List (NestedKey × V × V)) : Heap → Prop := fun h =>
  es.length ≤ sizeLine ∧ (a == sysModules) = false ∧ ∃ o ar ep, h.get? a = some o ∧ o.ExactDict ∧ o.data = .dict ar ep ∧ Paired (EntV w) ar.toList es
/-- the value v is the key k -/
inductive NK (H : Hp) : NestedKey → V → Prop
  | non : NK H .none .non
  | bl (b : Bool) : NK H (.num (if b = true then 1 else 0)) (.bl b)
  | int (i : Int) : NK H (.num i) (.int i)
  | str (x : Str) : NK H (.text x) (.str x)
  | tup (t : Addr) (x : Str) : H t = some (.tup [.str x]) → NK H (.tup [.text x]) (.ref t)
theorem NK.same {H H' : Hp} {k : NestedKey} {v : V} (h : NK H k v) (c : Same H H') : NK H' k v := by
  cases h with
  | non => exact .non
  | bl b => exact .bl b
  | int i => exact .int i
  | str x => exact .str x
  | tup t x e => exact .tup t x (c _ _ e)
theorem NK.dp {H : Hp} {k : NestedKey} {v : V} (h : NK H k v) : k.depth ≤ 1 := by
  cases h <;> simp [NestedKey.depth, NestedKey.depthAll]
theorem NK.is {P : Program} {w : World} {H : Hp} {h : Heap} {k : NestedKey} {v : V} {u : Value} (n : NK H k v) (ok : HOk P w H h) (r : RelV v u) : NestedIs h k u := by
  cases n with
  | non => cases r; exact .none
  | bl b => cases r; exact .bool rfl
  | int i => obtain ⟨t, rfl⟩ := r; exact .int i t
  | str x => obtain ⟨t, rfl⟩ := r; exact .text x t
  | tup t x e =>
    cases r
    obtain ⟨_, its, rv, o, ho, hc, n, hd⟩ := ok t _ e
    obtain ⟨y, rfl, ty, rfl⟩ := rv.one
    exact .tup ho hc hd (.cons (.text x ty) .nil)
/-- the keys are such, no two the same -/
structure KeysN (H : Hp) (es : List (NestedKey × V × V)) : Prop where
  nk : ∀ x ∈ es, NK H x.1 x.2.1
  nd : (es.map (·.1)).Nodup
theorem KeysN.same {H H' : Hp} {es : List (NestedKey × V × V)} (h : KeysN H es) (c : Same H H') : KeysN H' es := ⟨fun x hx => (h.nk x hx).same c, h.nd⟩
theorem rawP.typeIs {w : World} {a : Addr} {es : List (NestedKey × V × V)} {s : Shared} (h : rawP w a es s.heap) : s.TypeIs (.ref a) "dict" := by
  obtain ⟨_, _, o, ar, ep, ho, hc, _⟩ := h
  exact ⟨o, ho, hc.1⟩
theorem rawP.ents {P : Program} {w : World} {a : Addr} {es : List (NestedKey × V × V)} {H : Hp} {h : Heap} {ar : List DictEntry} (ok : HOk P w H h) : ∀ {es : List (NestedKey × V × V)} {ar : List DictEntry}, (∀ x ∈ es, NK H x.1 x.2.1) → Paired (EntV w) ar es → Paired (Ent w h) ar (es.map (·.1))
  | _, _, _, .nil => .nil
  | _, _, k, .cons r t => .cons ⟨(k _ List.mem_cons_self).is ok r.2.1, r.1, Nat.le_trans (k _ List.mem_cons_self).dp (by decide)⟩ (rawP.ents (a := a) (es := es) (ar := ar) ok (fun x hx => k x (List.mem_cons_of_mem _ hx)) t)
section
variable {P : Program} {w : World} {A : Around} {E : Value → Shared → Prop} {s : Shared} {H : Hp} {a : Addr} {es : List (NestedKey × V × V)} {k : NestedKey} {y v : V} {u r : Value}
theorem units1 (hu : A.units + 9 < cLine) : A.in1.units + 8 < cLine := by rw [Around.in1_units]; omega
/-- d[y], there -/
theorem raw_get {ky : V} {j : Nat} {Q : Value → Shared → Prop} (hu : A.units + 9 < cLine) (ok : HOk P w H s.heap) (hr : rawP w a es s.heap) (kn : KeysN H es) (hk : NK H k y) (ry : RelV y u) (he : es[j]? = some (k, ky, v))
    (h : ∀ w' tk, RelV v w' → Q w' { s with toks := tk }) : wpAny (model P w) A (getItem (.ref a) u) Q E s := by
  have hT := hr.typeIs
  obtain ⟨_, _, o, ar, ep, ho, hc, hd, hp⟩ := hr
  have dp := hk.dp
  have hu1 := units1 hu
  unfold getItem
  refine wpAny_holding (wpAny_bind (wpAny_sequenceKey hT (by decide) ?_))
  refine wpAny_bind (wpAny_callSpecial?_slot (name := Str.ofString "__getitem__") hT slot_dict_getitem (wpAny_call_entry slot_dict_getitem hT entry_dict_getitem ?_ (args_dict_getitem _ _)))
  show wpAny _ _ (dictGet a u >>= _) _ _ s
  refine wpAny_bind ?_
  unfold dictGet
  refine wpAny_holding (wpAny_bind (pyHash_key k u A.in1 s _ (hk.is ok ry) (by omega) ?_))
  refine wpAny_bind (find_n (s := { s with toks := s.toks + k.draws }) hu1 (hk.is ok ry) (by omega) ho hd (rawP.ents (a := a) (es := es) (ar := ar.toList) ok kn.nk hp) kn.nd (fun no => ?_) (fun i hi => ?_))
  · exact absurd (List.mem_map.mpr ⟨_, List.mem_of_getElem? he, rfl⟩) no
  · have e1 : (es.map (·.1))[j]? = some k := by rw [List.getElem?_map, he]; rfl
    obtain rfl : i = j := (List.getElem?_inj (List.getElem?_eq_some_iff.mp hi).1 kn.nd).mp (hi.trans e1.symm)
    obtain ⟨e, e2, _, _, rv⟩ := paired_r hp he
    refine wpAny_bind (wpAny_dictEntries (s := { s with toks := s.toks + k.draws }) ho hd ?_)
    rw [show ar[i]? = some e from by rw [← Array.getElem?_toList]; exact e2]
    exact wpAny_pure (wpAny_pure ⟨e.val, rfl, wpAny_pure (h _ _ rv)⟩)
theorem paired_set {α β : Type} {R : α → β → Prop} {f : α → α} {y' : β} : ∀ {xs : List α} {ys : List β} {i : Nat} {x : α}, Paired R xs ys → xs[i]? = some x → R (f x) y' → Paired R (xs.modify i f) (ys.set i y')
  | _, _, i, x, .nil, e, _ => by simp at e
  | _, _, 0, x, .cons _ t, e, h => by
    simp at e
    subst e
    exact .cons h t
  | _, _, i + 1, x, .cons r t, e, h => .cons r (paired_set (i := i) t (by simpa using e) h)
/-- d[y] = v: at its place, or at the end -/
theorem raw_put {Q : Unit → Shared → Prop} (hu : A.units + 9 < cLine) (ok : HOk P w H s.heap) (hr : rawP w a es s.heap) (kn : KeysN H es) (hk : NK H k y) (ry : RelV y u) (rv : RelV v r) (hz : es.length + 1 ≤ 1000000)
    (h1 : ∀ j ky v0 h' tk, es[j]? = some (k, ky, v0) → rawP w a (es.set j (k, ky, v)) h' → Heap.SameBut a s.heap h' → (∃ q, h'.get? a = some q) → Q () { s with heap := h', toks := tk })
    (h2 : ∀ h' tk, k ∉ es.map (·.1) → rawP w a (es ++ [(k, y, v)]) h' → Heap.SameBut a s.heap h' → (∃ q, h'.get? a = some q) → Q () { s with heap := h', toks := tk }) : wpAny (model P w) A (dictSet a u r) Q E s := by
  obtain ⟨_, hs, o, ar, ep, ho, hc, hd, hp⟩ := hr
  have dp := hk.dp
  have lz : ar.size = es.length := by rw [← Array.length_toList]; exact paired_len hp
  have big : 1000000 ≤ sizeLine := by decide
  unfold dictSet
  refine wpAny_holding (wpAny_bind (pyHash_key k u A s _ (hk.is ok ry) (by omega) ?_))
  unfold dictSetHashed
  refine wpAny_holding (wpAny_bind (find_n (s := { s with toks := s.toks + k.draws }) (by omega) (hk.is ok ry) (by omega) ho hd (rawP.ents (a := a) (es := es) (ar := ar.toList) ok kn.nk hp) kn.nd (fun no => ?_) (fun i hi => ?_)))
  · refine wpAny_bind (wpAny_rule (wpAny_updateDictKeys (hz := by omega) (s := { s with toks := s.toks + k.draws }) ho hd ?_))
    have hg := Heap.get?_update_self (h := s.heap) (Obj.mapDictKeys fun es => es.push ⟨k.hash w, u, r⟩) ho (Obj.isFreed_of_dict (Obj.data_mapDictKeys hd _))
    refine h2 _ _ no ⟨by rw [List.length_append, List.length_singleton]; omega, hs, _, _, ep + 1, hg, hc.mapDictKeys _, Obj.data_mapDictKeys hd _, ?_⟩ (Heap.SameBut.update ..) ⟨_, hg⟩
    rw [Array.toList_push]
    exact hp.snoc ⟨rfl, ry, rv⟩
  · rw [List.getElem?_map] at hi
    obtain ⟨⟨k', ky, v0⟩, e1, e2⟩ := Option.map_eq_some_iff.mp hi
    obtain rfl : k' = k := e2
    obtain ⟨e, e3, f1, f2, _⟩ := paired_r hp e1
    refine wpAny_bind (wpAny_rule (wpAny_bind (wpAny_updateDict (s := { s with toks := s.toks + k'.draws }) ho hd (wpAny_point ?_))))
    have hg := Heap.get?_update_self (h := s.heap) (Obj.mapDict fun es => es.modify i fun e => { e with val := r }) ho (Obj.isFreed_of_dict (Obj.data_mapDict hd _))
    refine h1 i ky v0 _ _ e1 ⟨by rw [List.length_set]; omega, hs, _, _, ep, hg, hc.mapDict _, Obj.data_mapDict hd _, ?_⟩ (Heap.SameBut.update ..) ⟨_, hg⟩
    rw [Array.toList_modify]
    exact paired_set hp e3 ⟨f1, f2, rv⟩
end
end NkD
set_option maxRecDepth 100000
set_option maxHeartbeats 2000000

namespace PySem
namespace Erplace
open PySem.W PySem.Calls PyProof.Rows PySem.HandSPX
/-! ### the text of __init__ -/
def iA (p1 p2 : Pos) : Arguments := { posonlyargs := [], args := [{ arg := "self", annotation := none, pos := p1 }, { arg := "place", annotation := none, pos := p2 }], vararg := none, kwonlyargs := [], kw_defaults := [], kwarg := none, defaults := [] }
def iB (q1 q2 q3 q4 : Pos) : List Stmt := [.Assign [.Attribute (.Name "self" q1) "place" q2] (.Name "place" q3) q4]
def iS : Scope := { kind := .function, names := [(PySem.Str.ofString "self", .local), (PySem.Str.ofString "place", .local)], isGenerator := false, isCoroutine := false, more := [] }
/-- what the written part says of Low, at C, and of its __init__, at fI -/
structure ErTxt (K : Frag) (mg : Str → Option Value) (cn qn : Str) (C fI : Addr) : Prop where
  gC : mg cn = some (.ref C)
  cls : ∃ nm q N bs bm sn sub ab col dd k0 k1 k2 k3 k5, K.lookup C = some (excClassObj nm q C N bs bm true sn sub ab col dd k0 k1 k2 k3 k5 "ValueError.__new__") ∧ refsVE bm = true
  sa : findIn K (.ref C) "__setattr__" = some (some (.builtin "object.__setattr__"))
  ga : findIn K (.ref C) "__getattribute__" = some (some (.builtin "BaseException.__getattribute__"))
  gg : findIn K (.ref C) "__getattr__" = some none
  noN : findIn K (.ref C) "place" = some none
  iC : findIn K (.ref C) "__init__" = some (some (.ref fI))
  tC : typeIn K (.ref fI) = some (.type "function")
  kC : keepIn K (.ref C) = true
  exC : subIn K (.ref C) (.type "BaseException") = some true
  tyC : typeIn K (.ref C) = some (.type "type")
  hdC : hasDictIn K C = true
  fn : ∃ (oc : Value) (od : Option Addr) (doc pm : Value) (an : Option Addr) (cdv ct : Value) (osl : Array (Option Value)) (p1 p2 q1 q2 q3 q4 : Pos),
    K.lookup fI = some ⟨oc, od, .func (fnOf "__init__" qn (iA p1 p2) (iB q1 q2 q3 q4) iS .none .none doc pm an cdv ct), osl⟩ ∧ codeIn K cdv qn = true
theorem one_size (v : Value) : [v].length ≤ sizeLine := by
  rw [sizeLine_eq]
  exact (by decide : 1 ≤ 16777216)
theorem kept_but {K : Frag} {h h' : Heap} {x : Addr} (X : K.In h) (hx : K.lookup x = none) (k : ∀ b o, b ≠ x → h.get? b = some o → h'.get? b = some o) : K.In h' := fun a o e =>
  k a o (fun z => by rw [z, hx] at e; cases e) (X a o e)
theorem ldC {M : Model} {s : Shared} {name : Str} {scope : Scope} {L a : Addr} {cd : Value} {m : Str → Option Value} {x : Str} {pos : Pos} {v : Value} {Q : Value → Shared → Prop} {A : Around} {E : Value → Shared → Prop} (hn : s.heap.Ns L m) (hv : m x = some v) (h : Q v s)
    (hk : scope.kind = .function := by rfl) (hl : (envOfC name scope L a cd).kindOf x = some .local := by rfl) (hd : (x == ("__debug__" : Str)) = false := by decide) :
    wpAny M A (eval (.Name x pos) (envOfC name scope L a cd)) Q E s := wpAny_Name (wpAny_loadName_local hk hl hn hv h) hd
/-- what __init__ leaves of a fresh exception at x -/
structure InitEnd (h h' : Heap) (x C dx t1 : Addr) (v : Value) : Prop where
  keep : ∀ b o, b ≠ x → h.get? b = some o → h'.get? b = some o
  obj : h'.get? x = some { cls := .ref C, dict := some dx, data := .fields #[.ref t1, .none, .none, .none, .bool false, .none] }
  dbig : h.objs.size ≤ dx
  dne : dx ≠ x
  ns : h'.Ns1 dx (fun y => if y = "place" then some v else none)
/-- a made Low -/
structure OwnMade (h h' : Heap) (e C d : Addr) (v : Value) : Prop where
  keep : ∀ b o, h.get? b = some o → h'.get? b = some o
  new : h.objs.size ≤ e
  obj : ∃ oe vs, h'.get? e = some oe ∧ oe.cls = .ref C ∧ oe.dict = some d ∧ oe.data = .fields vs ∧ vs[1]? = some .none
  dbig : h.objs.size ≤ d
  dne : d ≠ e
  ns : h'.Ns1 d (fun y => if y = "place" then some v else none)
section
variable {prog : Program} {w : World} {A : Around} {E : Value → Shared → Prop} {R : Result → Shared → Prop} {s : Shared} {K : Frag} {mg : Str → Option Value} {cn qn : Str} {C fI : Addr}
theorem low_init (T : ErTxt K mg cn qn C fI) {x t0 : Addr} {v : Value} (X : K.In s.heap) (hlim : s.heap.NoLimit) (hx : s.heap.get? x = some (excO C t0)) (hnx : K.lookup x = none) (hroom : A.depth < recursionLimit)
    (hq : ∀ h' tk dx, InitEnd s.heap h' x C dx t0 v → R (.ok (.ret .none)) { s with heap := h', toks := tk }) :
    codeAny (model prog w) A (.call (.ref fI) ⟨[.ref x, v], []⟩) R s := by
  obtain ⟨oc, od, doc, pm, an, cdv, ct, osl, p1, p2, q1, q2, q3, q4, ho, hcd⟩ := T.fn
  obtain ⟨nm, q, N, bs, bm, sn, sub, ab, col, dd, k0, k1, k2, k3, k5, hC, hbm⟩ := T.cls
  have hcl : clsIn K C = some { name := nm, bases := bs, mro := .ref C :: bm, ns := N, qualname := q, hasDict := true, slotNames := sn, subclasses := sub, abstract := ab, collection := col, hasDel := false } := by unfold clsIn; rw [hC] <;> rfl
  refine Att.call_fn (binds := [("self", .ref x), ("place", v)]) X hlim ho hcd hroom (BindsTo.of_eq (by first | rfl | with_unfolding_all rfl)) (by first | rfl | decide | with_unfolding_all rfl) (fun s₁ IC => ?_) rfl rfl rfl
  obtain ⟨h₁, tk₁, rfl⟩ := IC.toInCall.same
  have k : ∀ b o, s.heap.get? b = some o → h₁.get? b = some o := IC.toInCall.keep
  have hn := IC.toInCall.ns
  have hxL : s.heap.objs.size ≠ x := Nat.ne_of_gt (Heap.lt_size hx)
  have X₁ : K.In h₁ := X.keeps k
  have hx₁ := k _ _ hx
  -- self.by = by
  show wpAny _ _ (execs _ _) _ _ _
  refine wpAny_execs_cons (plainObj_wpAny_Assign_Attribute ?_)
  refine ldC (v := v) hn (by first | rfl | with_unfolding_all rfl | kernel_rfl) (ldC (v := .ref x) hn (by first | rfl | with_unfolding_all rfl | kernel_rfl) ?_)
  refine set_plain X₁ (ox := excO C t0) (od := none) ⟨hx₁, rfl, rfl, trivial⟩ T.sa ?_
  refine exc_osa X₁ hx₁ hcl (show refsVE (.ref C :: bm) = true from hbm) rfl T.noN (fun h₃ tk₃ dx k₃ dn dne hx₃ hn₃ => ?_)
  show wpAny _ _ (execs _ _) _ _ _
  have z : s.heap.objs.size < h₁.objs.size := hn.lt
  exact wpAny_execs_nil (hq h₃ tk₃ dx ⟨fun b o hb e => k₃ b o hb (k b o e), hx₃, Nat.le_of_lt (Nat.lt_of_lt_of_le z dn), dne, hn₃⟩)
theorem low_made (T : ErTxt K mg cn qn C fI) {v : Value} (X : K.In s.heap) (hlim : s.heap.NoLimit) (hroom : A.depth + 1 < recursionLimit)
    (hq : ∀ h' tk e d, OwnMade s.heap h' e C d v → R (.ok (.ret (.ref e))) { s with heap := h', toks := tk }) :
    codeAny (model prog w) A (.call (.ref C) ⟨[v], []⟩) R s := by
  obtain ⟨nm, q, N, bs, bm, sn, sub, ab, col, dd, k0, k1, k2, k3, k5, hC, hbm⟩ := T.cls
  obtain ⟨hp, g, dr, tk, os⟩ := s
  have k : ∀ b o, hp.get? b = some o → ((hp.push (kdv_tup [v])).push (excO C hp.objs.size)).get? b = some o := fun b o e => Heap.get?_push_of_some _ (Heap.get?_push_of_some _ e)
  have hget : ((hp.push (kdv_tup [v])).push (excO C hp.objs.size)).get? (hp.objs.size + 1) = some (excO C hp.objs.size) := by heap_get
  have hnx : K.lookup (hp.objs.size + 1) = none := by
    cases e : K.lookup (hp.objs.size + 1) with
    | none => rfl
    | some o =>
      have z : hp.get? (hp.objs.size + 1) = some o := X _ _ e
      exact absurd (Nat.lt_of_succ_lt (Heap.lt_size z)) (Nat.lt_irrefl _)
  refine call_own F.excBase_ValueError (fun X => refsVE_contains X bm hbm) (X _ _ hC) (looks_findIn X T.iC) (fun self => bind_fn X self T.tC) (one_size v) ?_
  refine low_init (s := ⟨(hp.push (kdv_tup [v])).push (excO C hp.objs.size), g, dr, tk, os⟩) T (X.keeps k) (hlim.keeps k) hget hnx ?_ fun h' tk' dx ⟨k', hx, dn, dne, hns⟩ => ?_
  · show A.depth + 1 < recursionLimit
    exact hroom
  · have old : ∀ b o, hp.get? b = some o → h'.get? b = some o := fun b o e => k' b o (Nat.ne_of_lt (Nat.lt_succ_of_lt (Heap.lt_size e))) (k b o e)
    have z : hp.objs.size + 1 + 1 ≤ dx := by
      first
        | (simpa only [Heap.size_push] using dn)
        | exact dn
        | (have q := dn; rw [Heap.size_push, Heap.size_push] at q; exact q)
    exact ⟨rfl, hq h' tk' (hp.objs.size + 1) dx ⟨old, Nat.le_succ _, ⟨_, _, hx, rfl, rfl, rfl, rfl⟩, Nat.le_trans (Nat.le_trans (Nat.le_succ _) (Nat.le_succ _)) z, dne, hns⟩⟩
end
end Erplace
end PySem
namespace L2
open PySem PySem.Spec PyProof.Rows
theorem relO_low_place {v : V} {v' : Value} (r : RelV v v') (f : Str) : RelO (List.lookup f [(("place" : Str), v)]) (if f = "place" then some v' else none) := by
  by_cases hw : f = "place"
  · subst hw
    rw [if_pos rfl]
    have q : List.lookup ("place" : Str) [(("place" : Str), v)] = some v := by simp [List.lookup]
    rw [q]
    exact r
  · rw [if_neg hw]
    have qw : (f == ("place" : Str)) = false := by simpa using hw
    have q2 : List.lookup f [(("place" : Str), v)] = none := by simp [List.lookup, qw]
    rw [q2]
    trivial
section
variable {X : Cx} {cn qn : Str} {C fI : Addr}
/-- Low(e) -/
def tMkLow_place (C : Addr) (ta : TA) : St → Hp → XK → Prop := fun σ H Q => ta σ H fun vs H1 => ∃ v, vs = [v] ∧ ∀ d, H1 d = none → Q (.ref C) (some d) (upd H1 d (.xd [(("place" : Str), v)]))
theorem pmk_low_place {a : Expr} {ta : TA} {p pos : Pos} {k : Nat} (T : PySem.Erplace.ErTxt X.K X.mg cn qn C fI) (hr : Room k X.A) (ha : PA X [a] ta) (hg : Gl X cn) (hdb : (cn == ("__debug__" : Str)) = false)
    (he : starEach (a :: []) X.env = (false, eval a X.env) :: starEach [] X.env := by rfl) (hpl : (backTo pos (starEach [] X.env)).any (·.1) = false := by rfl) :
    PMk X (.Call (.Name cn p) [a] [] pos) (tMkLow_place C ta) := by
  intro pins s σ H Q I h
  refine wpAny_Call_Name_kw (ld_glob I hg T.gC ?_ hdb)
  refine PySem.W.callWith_K (h₀ := X.base) I.ok.mod.kin T.kC (thn (ha.run pos pins s σ H _ I h) fun us s1 hh => ?_) he hpl
  obtain ⟨vs, H1, I1, r1, v, ev, q1⟩ := hh
  subst ev
  refine ⟨I1.kIn, ?_⟩
  cases r1 with
  | cons rv rn =>
    rename_i v' us'
    cases rn
    show wpAny _ _ (call (.ref C) [v']) _ _ _
    have hlim := I1.nolimit
    obtain ⟨hp, g, dr, tk, os⟩ := s1
    refine wpAny_call (PySem.Erplace.low_made T I1.kIn hlim (by have := hr.dp; omega) fun h' tk' e d M => ?_)
    show MkP X pins σ Q (.ref e) ⟨h', g, dr, tk', os⟩
    obtain ⟨oe, fv, hoe, hc, hd, hdat, h1⟩ := M.obj
    have hns := M.ns
    obtain ⟨G', g1, g2⟩ := restrict h' fun b => decide (b ≠ e)
    have gk : ∀ b, b ≠ e → G'.get? b = h'.get? b := fun b hb => g1 b (decide_eq_true hb)
    have ge : G'.get? e = none := g2 e (by simp)
    have old : ∀ b o, hp.get? b = some o → G'.get? b = some o := fun b o q => (gk b (Nat.ne_of_lt (Nat.lt_of_lt_of_le (Heap.lt_size q) M.new))).trans (M.keep b o q)
    have ob : ObjOk X.prog X.w (upd H1 d (.xd [(("place" : Str), v)])) G' d (.xd [(("place" : Str), v)]) :=
      ⟨_, hns.at (fun o q => (gk d M.dne).trans q), fun f => relO_low_place rv f⟩
    have J : Inv X pins σ (upd H1 d (.xd [(("place" : Str), v)])) ⟨G', g, dr, tk', os⟩ := I1.laid (t' := tk') old M.dbig ob
    refine ⟨e, oe, fv, ⟨G', g, dr, tk', os⟩, _, .ref C, some d, rfl, J, fun b o q => ?_, ge, hoe, ⟨hc, hd⟩, hdat, h1, ?_, rfl, I1.bare, raises_own T.exC T.tyC, q1 d (I1.hok.fresh M.dbig)⟩
    · by_cases hb : b = e
      · have q' : G'.get? b = some o := q
        rw [hb, ge] at q'; cases q'
      · exact (gk b hb).symm.trans q
    · rw [upd_ne (Ne.symm M.dne)]
      exact I1.hok.fresh M.new
/-- raise Low(e) -/
def tRaiseLow_place (C : Addr) (W : WX) (ta : TA) : TS := fun _ σ H => tMkLow_place C ta σ H fun cls d H' => W cls d σ H'
theorem ps_raiseLow_place {a : Expr} {ta : TA} {W : WX} {p pos pos2 : Pos} {k : Nat} (hc : X.calm = true) (T : PySem.Erplace.ErTxt X.K X.mg cn qn C fI) (hr : Room k X.A) (tk : Takes X W) (ha : PA X [a] ta) (hg : Gl X cn) (hdb : (cn == ("__debug__" : Str)) = false)
    (he : starEach (a :: []) X.env = (false, eval a X.env) :: starEach [] X.env := by rfl) (hpl : (backTo pos (starEach [] X.env)).any (·.1) = false := by rfl) :
    PS X (.Raise (some (.Call (.Name cn p) [a] [] pos)) none pos2) (tRaiseLow_place C W ta) := ps_raise hc tk (pmk_low_place T hr ha hg hdb he hpl)
/-- low.by, low the exception that the suite holds (at a; its class cls, its dict d) -/
def tByLow_place (C : Addr) (a : Addr) (cls : Value) (d : Option Addr) (te : TE) : TE := fun σ H Q => te σ H fun x H1 => x = .ref a ∧ cls = .ref C ∧ ∃ (dd : Addr) (v : V), d = some dd ∧ H1 dd = some (.xd [(("place" : Str), v)]) ∧ Q v H1
theorem pe_byLow_place {a : Addr} {oe : Obj} {cls : Value} {d : Option Addr} {pn : List (Addr × Obj)} {e : Expr} {te : TE} {pos : Pos} (T : PySem.Erplace.ErTxt X.K X.mg cn qn C fI) (hz : Zc cls d oe) (hf : ∃ vs, oe.data = .fields vs) (he : PE (X.suite a ((a, oe) :: pn)) e te)
    (hb : attributeBase e "place" X.env (eval e X.env) = eval e X.env := by rfl) :
    PE (X.suite a ((a, oe) :: pn)) (.Attribute e "place" pos) (tByLow_place C a cls d te) := by
  refine ⟨fun pins s σ H Q I h => ?_⟩
  refine attr_of hb (thn (he.run pins s σ H _ I h) fun u s1 hh => ?_)
  obtain ⟨x, H1, I1, rx, ex, ec, dd, v, ed, ea, q⟩ := hh
  subst ex
  obtain rfl : u = Value.ref a := rx
  subst ec
  subst ed
  obtain ⟨ha, _⟩ := I1.pin (a, oe) (List.mem_append_left _ List.mem_cons_self)
  obtain ⟨vs, hd⟩ := hf
  have hx : ObjOk X.prog X.w H1 s1.heap dd (.xd [(("place" : Str), v)]) := I1.hok dd _ ea
  obtain ⟨mA, hns, hr⟩ := hx
  obtain ⟨od, ho, hl⟩ := lookIn_ns hns
  have l : List.lookup ("place" : Str) [(("place" : Str), v)] = some v := by simp [List.lookup]
  obtain ⟨u, hu, ru⟩ := RelO.some_of (v := v) (o := mA "place") (by rw [← l]; exact hr "place")
  have J : PySem.W.InstAt s1.heap a oe C (some od) := ⟨ha, hz.1, by unfold PySem.W.notCls; rw [hd] <;> rfl, by rw [hz.2]; exact ho⟩
  exact HandSPX.exc_get I1.kIn J T.ga T.gg T.exC (PySem.W.findObj_own T.hdC T.noN rfl (by rw [hl, hu])) (handed_of ru) ⟨v, H1, I1.tok _, ru, q⟩
end
end L2


namespace PySem
namespace Ername
open PySem.W PySem.Calls PyProof.Rows PySem.HandSPX
/-! ### the text of __init__ -/
def iA (p1 p2 : Pos) : Arguments := { posonlyargs := [], args := [{ arg := "self", annotation := none, pos := p1 }, { arg := "name", annotation := none, pos := p2 }], vararg := none, kwonlyargs := [], kw_defaults := [], kwarg := none, defaults := [] }
def iB (q1 q2 q3 q4 : Pos) : List Stmt := [.Assign [.Attribute (.Name "self" q1) "name" q2] (.Name "name" q3) q4]
def iS : Scope := { kind := .function, names := [(PySem.Str.ofString "self", .local), (PySem.Str.ofString "name", .local)], isGenerator := false, isCoroutine := false, more := [] }
/-- what the written part says of Low, at C, and of its __init__, at fI -/
structure ErTxt (K : Frag) (mg : Str → Option Value) (cn qn : Str) (C fI : Addr) : Prop where
  gC : mg cn = some (.ref C)
  cls : ∃ nm q N bs bm sn sub ab col dd k0 k1 k2 k3 k5, K.lookup C = some (excClassObj nm q C N bs bm true sn sub ab col dd k0 k1 k2 k3 k5 "ValueError.__new__") ∧ refsVE bm = true
  sa : findIn K (.ref C) "__setattr__" = some (some (.builtin "object.__setattr__"))
  ga : findIn K (.ref C) "__getattribute__" = some (some (.builtin "BaseException.__getattribute__"))
  gg : findIn K (.ref C) "__getattr__" = some none
  noN : findIn K (.ref C) "name" = some none
  iC : findIn K (.ref C) "__init__" = some (some (.ref fI))
  tC : typeIn K (.ref fI) = some (.type "function")
  kC : keepIn K (.ref C) = true
  exC : subIn K (.ref C) (.type "BaseException") = some true
  tyC : typeIn K (.ref C) = some (.type "type")
  hdC : hasDictIn K C = true
  fn : ∃ (oc : Value) (od : Option Addr) (doc pm : Value) (an : Option Addr) (cdv ct : Value) (osl : Array (Option Value)) (p1 p2 q1 q2 q3 q4 : Pos),
    K.lookup fI = some ⟨oc, od, .func (fnOf "__init__" qn (iA p1 p2) (iB q1 q2 q3 q4) iS .none .none doc pm an cdv ct), osl⟩ ∧ codeIn K cdv qn = true
theorem one_size (v : Value) : [v].length ≤ sizeLine := by
  rw [sizeLine_eq]
  exact (by decide : 1 ≤ 16777216)
theorem kept_but {K : Frag} {h h' : Heap} {x : Addr} (X : K.In h) (hx : K.lookup x = none) (k : ∀ b o, b ≠ x → h.get? b = some o → h'.get? b = some o) : K.In h' := fun a o e =>
  k a o (fun z => by rw [z, hx] at e; cases e) (X a o e)
theorem ldC {M : Model} {s : Shared} {name : Str} {scope : Scope} {L a : Addr} {cd : Value} {m : Str → Option Value} {x : Str} {pos : Pos} {v : Value} {Q : Value → Shared → Prop} {A : Around} {E : Value → Shared → Prop} (hn : s.heap.Ns L m) (hv : m x = some v) (h : Q v s)
    (hk : scope.kind = .function := by rfl) (hl : (envOfC name scope L a cd).kindOf x = some .local := by rfl) (hd : (x == ("__debug__" : Str)) = false := by decide) :
    wpAny M A (eval (.Name x pos) (envOfC name scope L a cd)) Q E s := wpAny_Name (wpAny_loadName_local hk hl hn hv h) hd
/-- what __init__ leaves of a fresh exception at x -/
structure InitEnd (h h' : Heap) (x C dx t1 : Addr) (v : Value) : Prop where
  keep : ∀ b o, b ≠ x → h.get? b = some o → h'.get? b = some o
  obj : h'.get? x = some { cls := .ref C, dict := some dx, data := .fields #[.ref t1, .none, .none, .none, .bool false, .none] }
  dbig : h.objs.size ≤ dx
  dne : dx ≠ x
  ns : h'.Ns1 dx (fun y => if y = "name" then some v else none)
/-- a made Low -/
structure OwnMade (h h' : Heap) (e C d : Addr) (v : Value) : Prop where
  keep : ∀ b o, h.get? b = some o → h'.get? b = some o
  new : h.objs.size ≤ e
  obj : ∃ oe vs, h'.get? e = some oe ∧ oe.cls = .ref C ∧ oe.dict = some d ∧ oe.data = .fields vs ∧ vs[1]? = some .none
  dbig : h.objs.size ≤ d
  dne : d ≠ e
  ns : h'.Ns1 d (fun y => if y = "name" then some v else none)
section
variable {prog : Program} {w : World} {A : Around} {E : Value → Shared → Prop} {R : Result → Shared → Prop} {s : Shared} {K : Frag} {mg : Str → Option Value} {cn qn : Str} {C fI : Addr}
theorem low_init (T : ErTxt K mg cn qn C fI) {x t0 : Addr} {v : Value} (X : K.In s.heap) (hlim : s.heap.NoLimit) (hx : s.heap.get? x = some (excO C t0)) (hnx : K.lookup x = none) (hroom : A.depth < recursionLimit)
    (hq : ∀ h' tk dx, InitEnd s.heap h' x C dx t0 v → R (.ok (.ret .none)) { s with heap := h', toks := tk }) :
    codeAny (model prog w) A (.call (.ref fI) ⟨[.ref x, v], []⟩) R s := by
  obtain ⟨oc, od, doc, pm, an, cdv, ct, osl, p1, p2, q1, q2, q3, q4, ho, hcd⟩ := T.fn
  obtain ⟨nm, q, N, bs, bm, sn, sub, ab, col, dd, k0, k1, k2, k3, k5, hC, hbm⟩ := T.cls
  have hcl : clsIn K C = some { name := nm, bases := bs, mro := .ref C :: bm, ns := N, qualname := q, hasDict := true, slotNames := sn, subclasses := sub, abstract := ab, collection := col, hasDel := false } := by unfold clsIn; rw [hC] <;> rfl
  refine Att.call_fn (binds := [("self", .ref x), ("name", v)]) X hlim ho hcd hroom (BindsTo.of_eq (by first | rfl | with_unfolding_all rfl)) (by first | rfl | decide | with_unfolding_all rfl) (fun s₁ IC => ?_) rfl rfl rfl
  obtain ⟨h₁, tk₁, rfl⟩ := IC.toInCall.same
  have k : ∀ b o, s.heap.get? b = some o → h₁.get? b = some o := IC.toInCall.keep
  have hn := IC.toInCall.ns
  have hxL : s.heap.objs.size ≠ x := Nat.ne_of_gt (Heap.lt_size hx)
  have X₁ : K.In h₁ := X.keeps k
  have hx₁ := k _ _ hx
  -- self.by = by
  show wpAny _ _ (execs _ _) _ _ _
  refine wpAny_execs_cons (plainObj_wpAny_Assign_Attribute ?_)
  refine ldC (v := v) hn (by first | rfl | with_unfolding_all rfl | kernel_rfl) (ldC (v := .ref x) hn (by first | rfl | with_unfolding_all rfl | kernel_rfl) ?_)
  refine set_plain X₁ (ox := excO C t0) (od := none) ⟨hx₁, rfl, rfl, trivial⟩ T.sa ?_
  refine exc_osa X₁ hx₁ hcl (show refsVE (.ref C :: bm) = true from hbm) rfl T.noN (fun h₃ tk₃ dx k₃ dn dne hx₃ hn₃ => ?_)
  show wpAny _ _ (execs _ _) _ _ _
  have z : s.heap.objs.size < h₁.objs.size := hn.lt
  exact wpAny_execs_nil (hq h₃ tk₃ dx ⟨fun b o hb e => k₃ b o hb (k b o e), hx₃, Nat.le_of_lt (Nat.lt_of_lt_of_le z dn), dne, hn₃⟩)
theorem low_made (T : ErTxt K mg cn qn C fI) {v : Value} (X : K.In s.heap) (hlim : s.heap.NoLimit) (hroom : A.depth + 1 < recursionLimit)
    (hq : ∀ h' tk e d, OwnMade s.heap h' e C d v → R (.ok (.ret (.ref e))) { s with heap := h', toks := tk }) :
    codeAny (model prog w) A (.call (.ref C) ⟨[v], []⟩) R s := by
  obtain ⟨nm, q, N, bs, bm, sn, sub, ab, col, dd, k0, k1, k2, k3, k5, hC, hbm⟩ := T.cls
  obtain ⟨hp, g, dr, tk, os⟩ := s
  have k : ∀ b o, hp.get? b = some o → ((hp.push (kdv_tup [v])).push (excO C hp.objs.size)).get? b = some o := fun b o e => Heap.get?_push_of_some _ (Heap.get?_push_of_some _ e)
  have hget : ((hp.push (kdv_tup [v])).push (excO C hp.objs.size)).get? (hp.objs.size + 1) = some (excO C hp.objs.size) := by heap_get
  have hnx : K.lookup (hp.objs.size + 1) = none := by
    cases e : K.lookup (hp.objs.size + 1) with
    | none => rfl
    | some o =>
      have z : hp.get? (hp.objs.size + 1) = some o := X _ _ e
      exact absurd (Nat.lt_of_succ_lt (Heap.lt_size z)) (Nat.lt_irrefl _)
  refine call_own F.excBase_ValueError (fun X => refsVE_contains X bm hbm) (X _ _ hC) (looks_findIn X T.iC) (fun self => bind_fn X self T.tC) (one_size v) ?_
  refine low_init (s := ⟨(hp.push (kdv_tup [v])).push (excO C hp.objs.size), g, dr, tk, os⟩) T (X.keeps k) (hlim.keeps k) hget hnx ?_ fun h' tk' dx ⟨k', hx, dn, dne, hns⟩ => ?_
  · show A.depth + 1 < recursionLimit
    exact hroom
  · have old : ∀ b o, hp.get? b = some o → h'.get? b = some o := fun b o e => k' b o (Nat.ne_of_lt (Nat.lt_succ_of_lt (Heap.lt_size e))) (k b o e)
    have z : hp.objs.size + 1 + 1 ≤ dx := by
      first
        | (simpa only [Heap.size_push] using dn)
        | exact dn
        | (have q := dn; rw [Heap.size_push, Heap.size_push] at q; exact q)
    exact ⟨rfl, hq h' tk' (hp.objs.size + 1) dx ⟨old, Nat.le_succ _, ⟨_, _, hx, rfl, rfl, rfl, rfl⟩, Nat.le_trans (Nat.le_trans (Nat.le_succ _) (Nat.le_succ _)) z, dne, hns⟩⟩
end
end Ername
end PySem
namespace L2
open PySem PySem.Spec PyProof.Rows
theorem relO_low_name {v : V} {v' : Value} (r : RelV v v') (f : Str) : RelO (List.lookup f [(("name" : Str), v)]) (if f = "name" then some v' else none) := by
  by_cases hw : f = "name"
  · subst hw
    rw [if_pos rfl]
    have q : List.lookup ("name" : Str) [(("name" : Str), v)] = some v := by simp [List.lookup]
    rw [q]
    exact r
  · rw [if_neg hw]
    have qw : (f == ("name" : Str)) = false := by simpa using hw
    have q2 : List.lookup f [(("name" : Str), v)] = none := by simp [List.lookup, qw]
    rw [q2]
    trivial
section
variable {X : Cx} {cn qn : Str} {C fI : Addr}
/-- Low(e) -/
def tMkLow_name (C : Addr) (ta : TA) : St → Hp → XK → Prop := fun σ H Q => ta σ H fun vs H1 => ∃ v, vs = [v] ∧ ∀ d, H1 d = none → Q (.ref C) (some d) (upd H1 d (.xd [(("name" : Str), v)]))
theorem pmk_low_name {a : Expr} {ta : TA} {p pos : Pos} {k : Nat} (T : PySem.Ername.ErTxt X.K X.mg cn qn C fI) (hr : Room k X.A) (ha : PA X [a] ta) (hg : Gl X cn) (hdb : (cn == ("__debug__" : Str)) = false)
    (he : starEach (a :: []) X.env = (false, eval a X.env) :: starEach [] X.env := by rfl) (hpl : (backTo pos (starEach [] X.env)).any (·.1) = false := by rfl) :
    PMk X (.Call (.Name cn p) [a] [] pos) (tMkLow_name C ta) := by
  intro pins s σ H Q I h
  refine wpAny_Call_Name_kw (ld_glob I hg T.gC ?_ hdb)
  refine PySem.W.callWith_K (h₀ := X.base) I.ok.mod.kin T.kC (thn (ha.run pos pins s σ H _ I h) fun us s1 hh => ?_) he hpl
  obtain ⟨vs, H1, I1, r1, v, ev, q1⟩ := hh
  subst ev
  refine ⟨I1.kIn, ?_⟩
  cases r1 with
  | cons rv rn =>
    rename_i v' us'
    cases rn
    show wpAny _ _ (call (.ref C) [v']) _ _ _
    have hlim := I1.nolimit
    obtain ⟨hp, g, dr, tk, os⟩ := s1
    refine wpAny_call (PySem.Ername.low_made T I1.kIn hlim (by have := hr.dp; omega) fun h' tk' e d M => ?_)
    show MkP X pins σ Q (.ref e) ⟨h', g, dr, tk', os⟩
    obtain ⟨oe, fv, hoe, hc, hd, hdat, h1⟩ := M.obj
    have hns := M.ns
    obtain ⟨G', g1, g2⟩ := restrict h' fun b => decide (b ≠ e)
    have gk : ∀ b, b ≠ e → G'.get? b = h'.get? b := fun b hb => g1 b (decide_eq_true hb)
    have ge : G'.get? e = none := g2 e (by simp)
    have old : ∀ b o, hp.get? b = some o → G'.get? b = some o := fun b o q => (gk b (Nat.ne_of_lt (Nat.lt_of_lt_of_le (Heap.lt_size q) M.new))).trans (M.keep b o q)
    have ob : ObjOk X.prog X.w (upd H1 d (.xd [(("name" : Str), v)])) G' d (.xd [(("name" : Str), v)]) :=
      ⟨_, hns.at (fun o q => (gk d M.dne).trans q), fun f => relO_low_name rv f⟩
    have J : Inv X pins σ (upd H1 d (.xd [(("name" : Str), v)])) ⟨G', g, dr, tk', os⟩ := I1.laid (t' := tk') old M.dbig ob
    refine ⟨e, oe, fv, ⟨G', g, dr, tk', os⟩, _, .ref C, some d, rfl, J, fun b o q => ?_, ge, hoe, ⟨hc, hd⟩, hdat, h1, ?_, rfl, I1.bare, raises_own T.exC T.tyC, q1 d (I1.hok.fresh M.dbig)⟩
    · by_cases hb : b = e
      · have q' : G'.get? b = some o := q
        rw [hb, ge] at q'; cases q'
      · exact (gk b hb).symm.trans q
    · rw [upd_ne (Ne.symm M.dne)]
      exact I1.hok.fresh M.new
/-- raise Low(e) -/
def tRaiseLow_name (C : Addr) (W : WX) (ta : TA) : TS := fun _ σ H => tMkLow_name C ta σ H fun cls d H' => W cls d σ H'
theorem ps_raiseLow_name {a : Expr} {ta : TA} {W : WX} {p pos pos2 : Pos} {k : Nat} (hc : X.calm = true) (T : PySem.Ername.ErTxt X.K X.mg cn qn C fI) (hr : Room k X.A) (tk : Takes X W) (ha : PA X [a] ta) (hg : Gl X cn) (hdb : (cn == ("__debug__" : Str)) = false)
    (he : starEach (a :: []) X.env = (false, eval a X.env) :: starEach [] X.env := by rfl) (hpl : (backTo pos (starEach [] X.env)).any (·.1) = false := by rfl) :
    PS X (.Raise (some (.Call (.Name cn p) [a] [] pos)) none pos2) (tRaiseLow_name C W ta) := ps_raise hc tk (pmk_low_name T hr ha hg hdb he hpl)
/-- low.by, low the exception that the suite holds (at a; its class cls, its dict d) -/
def tByLow_name (C : Addr) (a : Addr) (cls : Value) (d : Option Addr) (te : TE) : TE := fun σ H Q => te σ H fun x H1 => x = .ref a ∧ cls = .ref C ∧ ∃ (dd : Addr) (v : V), d = some dd ∧ H1 dd = some (.xd [(("name" : Str), v)]) ∧ Q v H1
theorem pe_byLow_name {a : Addr} {oe : Obj} {cls : Value} {d : Option Addr} {pn : List (Addr × Obj)} {e : Expr} {te : TE} {pos : Pos} (T : PySem.Ername.ErTxt X.K X.mg cn qn C fI) (hz : Zc cls d oe) (hf : ∃ vs, oe.data = .fields vs) (he : PE (X.suite a ((a, oe) :: pn)) e te)
    (hb : attributeBase e "name" X.env (eval e X.env) = eval e X.env := by rfl) :
    PE (X.suite a ((a, oe) :: pn)) (.Attribute e "name" pos) (tByLow_name C a cls d te) := by
  refine ⟨fun pins s σ H Q I h => ?_⟩
  refine attr_of hb (thn (he.run pins s σ H _ I h) fun u s1 hh => ?_)
  obtain ⟨x, H1, I1, rx, ex, ec, dd, v, ed, ea, q⟩ := hh
  subst ex
  obtain rfl : u = Value.ref a := rx
  subst ec
  subst ed
  obtain ⟨ha, _⟩ := I1.pin (a, oe) (List.mem_append_left _ List.mem_cons_self)
  obtain ⟨vs, hd⟩ := hf
  have hx : ObjOk X.prog X.w H1 s1.heap dd (.xd [(("name" : Str), v)]) := I1.hok dd _ ea
  obtain ⟨mA, hns, hr⟩ := hx
  obtain ⟨od, ho, hl⟩ := lookIn_ns hns
  have l : List.lookup ("name" : Str) [(("name" : Str), v)] = some v := by simp [List.lookup]
  obtain ⟨u, hu, ru⟩ := RelO.some_of (v := v) (o := mA "name") (by rw [← l]; exact hr "name")
  have J : PySem.W.InstAt s1.heap a oe C (some od) := ⟨ha, hz.1, by unfold PySem.W.notCls; rw [hd] <;> rfl, by rw [hz.2]; exact ho⟩
  exact HandSPX.exc_get I1.kIn J T.ga T.gg T.exC (PySem.W.findObj_own T.hdC T.noN rfl (by rw [hl, hu])) (handed_of ru) ⟨v, H1, I1.tok _, ru, q⟩
end
end L2


namespace PySem
namespace Erat
open PySem.W PySem.Calls PyProof.Rows PySem.HandSPX
/-! ### the text of __init__ -/
def iA (p1 p2 : Pos) : Arguments := { posonlyargs := [], args := [{ arg := "self", annotation := none, pos := p1 }, { arg := "at", annotation := none, pos := p2 }], vararg := none, kwonlyargs := [], kw_defaults := [], kwarg := none, defaults := [] }
def iB (q1 q2 q3 q4 : Pos) : List Stmt := [.Assign [.Attribute (.Name "self" q1) "at" q2] (.Name "at" q3) q4]
def iS : Scope := { kind := .function, names := [(PySem.Str.ofString "self", .local), (PySem.Str.ofString "at", .local)], isGenerator := false, isCoroutine := false, more := [] }
/-- what the written part says of Low, at C, and of its __init__, at fI -/
structure ErTxt (K : Frag) (mg : Str → Option Value) (cn qn : Str) (C fI : Addr) : Prop where
  gC : mg cn = some (.ref C)
  cls : ∃ nm q N bs bm sn sub ab col dd k0 k1 k2 k3 k5, K.lookup C = some (excClassObj nm q C N bs bm true sn sub ab col dd k0 k1 k2 k3 k5 "ValueError.__new__") ∧ refsVE bm = true
  sa : findIn K (.ref C) "__setattr__" = some (some (.builtin "object.__setattr__"))
  ga : findIn K (.ref C) "__getattribute__" = some (some (.builtin "BaseException.__getattribute__"))
  gg : findIn K (.ref C) "__getattr__" = some none
  noN : findIn K (.ref C) "at" = some none
  iC : findIn K (.ref C) "__init__" = some (some (.ref fI))
  tC : typeIn K (.ref fI) = some (.type "function")
  kC : keepIn K (.ref C) = true
  exC : subIn K (.ref C) (.type "BaseException") = some true
  tyC : typeIn K (.ref C) = some (.type "type")
  hdC : hasDictIn K C = true
  fn : ∃ (oc : Value) (od : Option Addr) (doc pm : Value) (an : Option Addr) (cdv ct : Value) (osl : Array (Option Value)) (p1 p2 q1 q2 q3 q4 : Pos),
    K.lookup fI = some ⟨oc, od, .func (fnOf "__init__" qn (iA p1 p2) (iB q1 q2 q3 q4) iS .none .none doc pm an cdv ct), osl⟩ ∧ codeIn K cdv qn = true
theorem one_size (v : Value) : [v].length ≤ sizeLine := by
  rw [sizeLine_eq]
  exact (by decide : 1 ≤ 16777216)
theorem kept_but {K : Frag} {h h' : Heap} {x : Addr} (X : K.In h) (hx : K.lookup x = none) (k : ∀ b o, b ≠ x → h.get? b = some o → h'.get? b = some o) : K.In h' := fun a o e =>
  k a o (fun z => by rw [z, hx] at e; cases e) (X a o e)
theorem ldC {M : Model} {s : Shared} {name : Str} {scope : Scope} {L a : Addr} {cd : Value} {m : Str → Option Value} {x : Str} {pos : Pos} {v : Value} {Q : Value → Shared → Prop} {A : Around} {E : Value → Shared → Prop} (hn : s.heap.Ns L m) (hv : m x = some v) (h : Q v s)
    (hk : scope.kind = .function := by rfl) (hl : (envOfC name scope L a cd).kindOf x = some .local := by rfl) (hd : (x == ("__debug__" : Str)) = false := by decide) :
    wpAny M A (eval (.Name x pos) (envOfC name scope L a cd)) Q E s := wpAny_Name (wpAny_loadName_local hk hl hn hv h) hd
/-- what __init__ leaves of a fresh exception at x -/
structure InitEnd (h h' : Heap) (x C dx t1 : Addr) (v : Value) : Prop where
  keep : ∀ b o, b ≠ x → h.get? b = some o → h'.get? b = some o
  obj : h'.get? x = some { cls := .ref C, dict := some dx, data := .fields #[.ref t1, .none, .none, .none, .bool false, .none] }
  dbig : h.objs.size ≤ dx
  dne : dx ≠ x
  ns : h'.Ns1 dx (fun y => if y = "at" then some v else none)
/-- a made Low -/
structure OwnMade (h h' : Heap) (e C d : Addr) (v : Value) : Prop where
  keep : ∀ b o, h.get? b = some o → h'.get? b = some o
  new : h.objs.size ≤ e
  obj : ∃ oe vs, h'.get? e = some oe ∧ oe.cls = .ref C ∧ oe.dict = some d ∧ oe.data = .fields vs ∧ vs[1]? = some .none
  dbig : h.objs.size ≤ d
  dne : d ≠ e
  ns : h'.Ns1 d (fun y => if y = "at" then some v else none)
section
variable {prog : Program} {w : World} {A : Around} {E : Value → Shared → Prop} {R : Result → Shared → Prop} {s : Shared} {K : Frag} {mg : Str → Option Value} {cn qn : Str} {C fI : Addr}
theorem low_init (T : ErTxt K mg cn qn C fI) {x t0 : Addr} {v : Value} (X : K.In s.heap) (hlim : s.heap.NoLimit) (hx : s.heap.get? x = some (excO C t0)) (hnx : K.lookup x = none) (hroom : A.depth < recursionLimit)
    (hq : ∀ h' tk dx, InitEnd s.heap h' x C dx t0 v → R (.ok (.ret .none)) { s with heap := h', toks := tk }) :
    codeAny (model prog w) A (.call (.ref fI) ⟨[.ref x, v], []⟩) R s := by
  obtain ⟨oc, od, doc, pm, an, cdv, ct, osl, p1, p2, q1, q2, q3, q4, ho, hcd⟩ := T.fn
  obtain ⟨nm, q, N, bs, bm, sn, sub, ab, col, dd, k0, k1, k2, k3, k5, hC, hbm⟩ := T.cls
  have hcl : clsIn K C = some { name := nm, bases := bs, mro := .ref C :: bm, ns := N, qualname := q, hasDict := true, slotNames := sn, subclasses := sub, abstract := ab, collection := col, hasDel := false } := by unfold clsIn; rw [hC] <;> rfl
  refine Att.call_fn (binds := [("self", .ref x), ("at", v)]) X hlim ho hcd hroom (BindsTo.of_eq (by first | rfl | with_unfolding_all rfl)) (by first | rfl | decide | with_unfolding_all rfl) (fun s₁ IC => ?_) rfl rfl rfl
  obtain ⟨h₁, tk₁, rfl⟩ := IC.toInCall.same
  have k : ∀ b o, s.heap.get? b = some o → h₁.get? b = some o := IC.toInCall.keep
  have hn := IC.toInCall.ns
  have hxL : s.heap.objs.size ≠ x := Nat.ne_of_gt (Heap.lt_size hx)
  have X₁ : K.In h₁ := X.keeps k
  have hx₁ := k _ _ hx
  -- self.by = by
  show wpAny _ _ (execs _ _) _ _ _
  refine wpAny_execs_cons (plainObj_wpAny_Assign_Attribute ?_)
  refine ldC (v := v) hn (by first | rfl | with_unfolding_all rfl | kernel_rfl) (ldC (v := .ref x) hn (by first | rfl | with_unfolding_all rfl | kernel_rfl) ?_)
  refine set_plain X₁ (ox := excO C t0) (od := none) ⟨hx₁, rfl, rfl, trivial⟩ T.sa ?_
  refine exc_osa X₁ hx₁ hcl (show refsVE (.ref C :: bm) = true from hbm) rfl T.noN (fun h₃ tk₃ dx k₃ dn dne hx₃ hn₃ => ?_)
  show wpAny _ _ (execs _ _) _ _ _
  have z : s.heap.objs.size < h₁.objs.size := hn.lt
  exact wpAny_execs_nil (hq h₃ tk₃ dx ⟨fun b o hb e => k₃ b o hb (k b o e), hx₃, Nat.le_of_lt (Nat.lt_of_lt_of_le z dn), dne, hn₃⟩)
theorem low_made (T : ErTxt K mg cn qn C fI) {v : Value} (X : K.In s.heap) (hlim : s.heap.NoLimit) (hroom : A.depth + 1 < recursionLimit)
    (hq : ∀ h' tk e d, OwnMade s.heap h' e C d v → R (.ok (.ret (.ref e))) { s with heap := h', toks := tk }) :
    codeAny (model prog w) A (.call (.ref C) ⟨[v], []⟩) R s := by
  obtain ⟨nm, q, N, bs, bm, sn, sub, ab, col, dd, k0, k1, k2, k3, k5, hC, hbm⟩ := T.cls
  obtain ⟨hp, g, dr, tk, os⟩ := s
  have k : ∀ b o, hp.get? b = some o → ((hp.push (kdv_tup [v])).push (excO C hp.objs.size)).get? b = some o := fun b o e => Heap.get?_push_of_some _ (Heap.get?_push_of_some _ e)
  have hget : ((hp.push (kdv_tup [v])).push (excO C hp.objs.size)).get? (hp.objs.size + 1) = some (excO C hp.objs.size) := by heap_get
  have hnx : K.lookup (hp.objs.size + 1) = none := by
    cases e : K.lookup (hp.objs.size + 1) with
    | none => rfl
    | some o =>
      have z : hp.get? (hp.objs.size + 1) = some o := X _ _ e
      exact absurd (Nat.lt_of_succ_lt (Heap.lt_size z)) (Nat.lt_irrefl _)
  refine call_own F.excBase_ValueError (fun X => refsVE_contains X bm hbm) (X _ _ hC) (looks_findIn X T.iC) (fun self => bind_fn X self T.tC) (one_size v) ?_
  refine low_init (s := ⟨(hp.push (kdv_tup [v])).push (excO C hp.objs.size), g, dr, tk, os⟩) T (X.keeps k) (hlim.keeps k) hget hnx ?_ fun h' tk' dx ⟨k', hx, dn, dne, hns⟩ => ?_
  · show A.depth + 1 < recursionLimit
    exact hroom
  · have old : ∀ b o, hp.get? b = some o → h'.get? b = some o := fun b o e => k' b o (Nat.ne_of_lt (Nat.lt_succ_of_lt (Heap.lt_size e))) (k b o e)
    have z : hp.objs.size + 1 + 1 ≤ dx := by
      first
        | (simpa only [Heap.size_push] using dn)
        | exact dn
        | (have q := dn; rw [Heap.size_push, Heap.size_push] at q; exact q)
    exact ⟨rfl, hq h' tk' (hp.objs.size + 1) dx ⟨old, Nat.le_succ _, ⟨_, _, hx, rfl, rfl, rfl, rfl⟩, Nat.le_trans (Nat.le_trans (Nat.le_succ _) (Nat.le_succ _)) z, dne, hns⟩⟩
end
end Erat
end PySem
namespace L2
open PySem PySem.Spec PyProof.Rows
theorem relO_low_at {v : V} {v' : Value} (r : RelV v v') (f : Str) : RelO (List.lookup f [(("at" : Str), v)]) (if f = "at" then some v' else none) := by
  by_cases hw : f = "at"
  · subst hw
    rw [if_pos rfl]
    have q : List.lookup ("at" : Str) [(("at" : Str), v)] = some v := by simp [List.lookup]
    rw [q]
    exact r
  · rw [if_neg hw]
    have qw : (f == ("at" : Str)) = false := by simpa using hw
    have q2 : List.lookup f [(("at" : Str), v)] = none := by simp [List.lookup, qw]
    rw [q2]
    trivial
section
variable {X : Cx} {cn qn : Str} {C fI : Addr}
/-- Low(e) -/
def tMkLow_at (C : Addr) (ta : TA) : St → Hp → XK → Prop := fun σ H Q => ta σ H fun vs H1 => ∃ v, vs = [v] ∧ ∀ d, H1 d = none → Q (.ref C) (some d) (upd H1 d (.xd [(("at" : Str), v)]))
theorem pmk_low_at {a : Expr} {ta : TA} {p pos : Pos} {k : Nat} (T : PySem.Erat.ErTxt X.K X.mg cn qn C fI) (hr : Room k X.A) (ha : PA X [a] ta) (hg : Gl X cn) (hdb : (cn == ("__debug__" : Str)) = false)
    (he : starEach (a :: []) X.env = (false, eval a X.env) :: starEach [] X.env := by rfl) (hpl : (backTo pos (starEach [] X.env)).any (·.1) = false := by rfl) :
    PMk X (.Call (.Name cn p) [a] [] pos) (tMkLow_at C ta) := by
  intro pins s σ H Q I h
  refine wpAny_Call_Name_kw (ld_glob I hg T.gC ?_ hdb)
  refine PySem.W.callWith_K (h₀ := X.base) I.ok.mod.kin T.kC (thn (ha.run pos pins s σ H _ I h) fun us s1 hh => ?_) he hpl
  obtain ⟨vs, H1, I1, r1, v, ev, q1⟩ := hh
  subst ev
  refine ⟨I1.kIn, ?_⟩
  cases r1 with
  | cons rv rn =>
    rename_i v' us'
    cases rn
    show wpAny _ _ (call (.ref C) [v']) _ _ _
    have hlim := I1.nolimit
    obtain ⟨hp, g, dr, tk, os⟩ := s1
    refine wpAny_call (PySem.Erat.low_made T I1.kIn hlim (by have := hr.dp; omega) fun h' tk' e d M => ?_)
    show MkP X pins σ Q (.ref e) ⟨h', g, dr, tk', os⟩
    obtain ⟨oe, fv, hoe, hc, hd, hdat, h1⟩ := M.obj
    have hns := M.ns
    obtain ⟨G', g1, g2⟩ := restrict h' fun b => decide (b ≠ e)
    have gk : ∀ b, b ≠ e → G'.get? b = h'.get? b := fun b hb => g1 b (decide_eq_true hb)
    have ge : G'.get? e = none := g2 e (by simp)
    have old : ∀ b o, hp.get? b = some o → G'.get? b = some o := fun b o q => (gk b (Nat.ne_of_lt (Nat.lt_of_lt_of_le (Heap.lt_size q) M.new))).trans (M.keep b o q)
    have ob : ObjOk X.prog X.w (upd H1 d (.xd [(("at" : Str), v)])) G' d (.xd [(("at" : Str), v)]) :=
      ⟨_, hns.at (fun o q => (gk d M.dne).trans q), fun f => relO_low_at rv f⟩
    have J : Inv X pins σ (upd H1 d (.xd [(("at" : Str), v)])) ⟨G', g, dr, tk', os⟩ := I1.laid (t' := tk') old M.dbig ob
    refine ⟨e, oe, fv, ⟨G', g, dr, tk', os⟩, _, .ref C, some d, rfl, J, fun b o q => ?_, ge, hoe, ⟨hc, hd⟩, hdat, h1, ?_, rfl, I1.bare, raises_own T.exC T.tyC, q1 d (I1.hok.fresh M.dbig)⟩
    · by_cases hb : b = e
      · have q' : G'.get? b = some o := q
        rw [hb, ge] at q'; cases q'
      · exact (gk b hb).symm.trans q
    · rw [upd_ne (Ne.symm M.dne)]
      exact I1.hok.fresh M.new
/-- raise Low(e) -/
def tRaiseLow_at (C : Addr) (W : WX) (ta : TA) : TS := fun _ σ H => tMkLow_at C ta σ H fun cls d H' => W cls d σ H'
theorem ps_raiseLow_at {a : Expr} {ta : TA} {W : WX} {p pos pos2 : Pos} {k : Nat} (hc : X.calm = true) (T : PySem.Erat.ErTxt X.K X.mg cn qn C fI) (hr : Room k X.A) (tk : Takes X W) (ha : PA X [a] ta) (hg : Gl X cn) (hdb : (cn == ("__debug__" : Str)) = false)
    (he : starEach (a :: []) X.env = (false, eval a X.env) :: starEach [] X.env := by rfl) (hpl : (backTo pos (starEach [] X.env)).any (·.1) = false := by rfl) :
    PS X (.Raise (some (.Call (.Name cn p) [a] [] pos)) none pos2) (tRaiseLow_at C W ta) := ps_raise hc tk (pmk_low_at T hr ha hg hdb he hpl)
/-- low.by, low the exception that the suite holds (at a; its class cls, its dict d) -/
def tByLow_at (C : Addr) (a : Addr) (cls : Value) (d : Option Addr) (te : TE) : TE := fun σ H Q => te σ H fun x H1 => x = .ref a ∧ cls = .ref C ∧ ∃ (dd : Addr) (v : V), d = some dd ∧ H1 dd = some (.xd [(("at" : Str), v)]) ∧ Q v H1
theorem pe_byLow_at {a : Addr} {oe : Obj} {cls : Value} {d : Option Addr} {pn : List (Addr × Obj)} {e : Expr} {te : TE} {pos : Pos} (T : PySem.Erat.ErTxt X.K X.mg cn qn C fI) (hz : Zc cls d oe) (hf : ∃ vs, oe.data = .fields vs) (he : PE (X.suite a ((a, oe) :: pn)) e te)
    (hb : attributeBase e "at" X.env (eval e X.env) = eval e X.env := by rfl) :
    PE (X.suite a ((a, oe) :: pn)) (.Attribute e "at" pos) (tByLow_at C a cls d te) := by
  refine ⟨fun pins s σ H Q I h => ?_⟩
  refine attr_of hb (thn (he.run pins s σ H _ I h) fun u s1 hh => ?_)
  obtain ⟨x, H1, I1, rx, ex, ec, dd, v, ed, ea, q⟩ := hh
  subst ex
  obtain rfl : u = Value.ref a := rx
  subst ec
  subst ed
  obtain ⟨ha, _⟩ := I1.pin (a, oe) (List.mem_append_left _ List.mem_cons_self)
  obtain ⟨vs, hd⟩ := hf
  have hx : ObjOk X.prog X.w H1 s1.heap dd (.xd [(("at" : Str), v)]) := I1.hok dd _ ea
  obtain ⟨mA, hns, hr⟩ := hx
  obtain ⟨od, ho, hl⟩ := lookIn_ns hns
  have l : List.lookup ("at" : Str) [(("at" : Str), v)] = some v := by simp [List.lookup]
  obtain ⟨u, hu, ru⟩ := RelO.some_of (v := v) (o := mA "at") (by rw [← l]; exact hr "at")
  have J : PySem.W.InstAt s1.heap a oe C (some od) := ⟨ha, hz.1, by unfold PySem.W.notCls; rw [hd] <;> rfl, by rw [hz.2]; exact ho⟩
  exact HandSPX.exc_get I1.kIn J T.ga T.gg T.exC (PySem.W.findObj_own T.hdC T.noN rfl (by rw [hl, hu])) (handed_of ru) ⟨v, H1, I1.tok _, ru, q⟩
end
end L2


namespace PySem
namespace Erlimit
open PySem.W PySem.Calls PyProof.Rows PySem.HandSPX
/-! ### the text of __init__ -/
def iA (p1 p2 : Pos) : Arguments := { posonlyargs := [], args := [{ arg := "self", annotation := none, pos := p1 }, { arg := "limit", annotation := none, pos := p2 }], vararg := none, kwonlyargs := [], kw_defaults := [], kwarg := none, defaults := [] }
def iB (q1 q2 q3 q4 : Pos) : List Stmt := [.Assign [.Attribute (.Name "self" q1) "limit" q2] (.Name "limit" q3) q4]
def iS : Scope := { kind := .function, names := [(PySem.Str.ofString "self", .local), (PySem.Str.ofString "limit", .local)], isGenerator := false, isCoroutine := false, more := [] }
/-- what the written part says of Low, at C, and of its __init__, at fI -/
structure ErTxt (K : Frag) (mg : Str → Option Value) (cn qn : Str) (C fI : Addr) : Prop where
  gC : mg cn = some (.ref C)
  cls : ∃ nm q N bs bm sn sub ab col dd k0 k1 k2 k3 k5, K.lookup C = some (excClassObj nm q C N bs bm true sn sub ab col dd k0 k1 k2 k3 k5 "ValueError.__new__") ∧ refsVE bm = true
  sa : findIn K (.ref C) "__setattr__" = some (some (.builtin "object.__setattr__"))
  ga : findIn K (.ref C) "__getattribute__" = some (some (.builtin "BaseException.__getattribute__"))
  gg : findIn K (.ref C) "__getattr__" = some none
  noN : findIn K (.ref C) "limit" = some none
  iC : findIn K (.ref C) "__init__" = some (some (.ref fI))
  tC : typeIn K (.ref fI) = some (.type "function")
  kC : keepIn K (.ref C) = true
  exC : subIn K (.ref C) (.type "BaseException") = some true
  tyC : typeIn K (.ref C) = some (.type "type")
  hdC : hasDictIn K C = true
  fn : ∃ (oc : Value) (od : Option Addr) (doc pm : Value) (an : Option Addr) (cdv ct : Value) (osl : Array (Option Value)) (p1 p2 q1 q2 q3 q4 : Pos),
    K.lookup fI = some ⟨oc, od, .func (fnOf "__init__" qn (iA p1 p2) (iB q1 q2 q3 q4) iS .none .none doc pm an cdv ct), osl⟩ ∧ codeIn K cdv qn = true
theorem one_size (v : Value) : [v].length ≤ sizeLine := by
  rw [sizeLine_eq]
  exact (by decide : 1 ≤ 16777216)
theorem kept_but {K : Frag} {h h' : Heap} {x : Addr} (X : K.In h) (hx : K.lookup x = none) (k : ∀ b o, b ≠ x → h.get? b = some o → h'.get? b = some o) : K.In h' := fun a o e =>
  k a o (fun z => by rw [z, hx] at e; cases e) (X a o e)
theorem ldC {M : Model} {s : Shared} {name : Str} {scope : Scope} {L a : Addr} {cd : Value} {m : Str → Option Value} {x : Str} {pos : Pos} {v : Value} {Q : Value → Shared → Prop} {A : Around} {E : Value → Shared → Prop} (hn : s.heap.Ns L m) (hv : m x = some v) (h : Q v s)
    (hk : scope.kind = .function := by rfl) (hl : (envOfC name scope L a cd).kindOf x = some .local := by rfl) (hd : (x == ("__debug__" : Str)) = false := by decide) :
    wpAny M A (eval (.Name x pos) (envOfC name scope L a cd)) Q E s := wpAny_Name (wpAny_loadName_local hk hl hn hv h) hd
/-- what __init__ leaves of a fresh exception at x -/
structure InitEnd (h h' : Heap) (x C dx t1 : Addr) (v : Value) : Prop where
  keep : ∀ b o, b ≠ x → h.get? b = some o → h'.get? b = some o
  obj : h'.get? x = some { cls := .ref C, dict := some dx, data := .fields #[.ref t1, .none, .none, .none, .bool false, .none] }
  dbig : h.objs.size ≤ dx
  dne : dx ≠ x
  ns : h'.Ns1 dx (fun y => if y = "limit" then some v else none)
/-- a made Low -/
structure OwnMade (h h' : Heap) (e C d : Addr) (v : Value) : Prop where
  keep : ∀ b o, h.get? b = some o → h'.get? b = some o
  new : h.objs.size ≤ e
  obj : ∃ oe vs, h'.get? e = some oe ∧ oe.cls = .ref C ∧ oe.dict = some d ∧ oe.data = .fields vs ∧ vs[1]? = some .none
  dbig : h.objs.size ≤ d
  dne : d ≠ e
  ns : h'.Ns1 d (fun y => if y = "limit" then some v else none)
section
variable {prog : Program} {w : World} {A : Around} {E : Value → Shared → Prop} {R : Result → Shared → Prop} {s : Shared} {K : Frag} {mg : Str → Option Value} {cn qn : Str} {C fI : Addr}
theorem low_init (T : ErTxt K mg cn qn C fI) {x t0 : Addr} {v : Value} (X : K.In s.heap) (hlim : s.heap.NoLimit) (hx : s.heap.get? x = some (excO C t0)) (hnx : K.lookup x = none) (hroom : A.depth < recursionLimit)
    (hq : ∀ h' tk dx, InitEnd s.heap h' x C dx t0 v → R (.ok (.ret .none)) { s with heap := h', toks := tk }) :
    codeAny (model prog w) A (.call (.ref fI) ⟨[.ref x, v], []⟩) R s := by
  obtain ⟨oc, od, doc, pm, an, cdv, ct, osl, p1, p2, q1, q2, q3, q4, ho, hcd⟩ := T.fn
  obtain ⟨nm, q, N, bs, bm, sn, sub, ab, col, dd, k0, k1, k2, k3, k5, hC, hbm⟩ := T.cls
  have hcl : clsIn K C = some { name := nm, bases := bs, mro := .ref C :: bm, ns := N, qualname := q, hasDict := true, slotNames := sn, subclasses := sub, abstract := ab, collection := col, hasDel := false } := by unfold clsIn; rw [hC] <;> rfl
  refine Att.call_fn (binds := [("self", .ref x), ("limit", v)]) X hlim ho hcd hroom (BindsTo.of_eq (by first | rfl | with_unfolding_all rfl)) (by first | rfl | decide | with_unfolding_all rfl) (fun s₁ IC => ?_) rfl rfl rfl
  obtain ⟨h₁, tk₁, rfl⟩ := IC.toInCall.same
  have k : ∀ b o, s.heap.get? b = some o → h₁.get? b = some o := IC.toInCall.keep
  have hn := IC.toInCall.ns
  have hxL : s.heap.objs.size ≠ x := Nat.ne_of_gt (Heap.lt_size hx)
  have X₁ : K.In h₁ := X.keeps k
  have hx₁ := k _ _ hx
  -- self.by = by
  show wpAny _ _ (execs _ _) _ _ _
  refine wpAny_execs_cons (plainObj_wpAny_Assign_Attribute ?_)
  refine ldC (v := v) hn (by first | rfl | with_unfolding_all rfl | kernel_rfl) (ldC (v := .ref x) hn (by first | rfl | with_unfolding_all rfl | kernel_rfl) ?_)
  refine set_plain X₁ (ox := excO C t0) (od := none) ⟨hx₁, rfl, rfl, trivial⟩ T.sa ?_
  refine exc_osa X₁ hx₁ hcl (show refsVE (.ref C :: bm) = true from hbm) rfl T.noN (fun h₃ tk₃ dx k₃ dn dne hx₃ hn₃ => ?_)
  show wpAny _ _ (execs _ _) _ _ _
  have z : s.heap.objs.size < h₁.objs.size := hn.lt
  exact wpAny_execs_nil (hq h₃ tk₃ dx ⟨fun b o hb e => k₃ b o hb (k b o e), hx₃, Nat.le_of_lt (Nat.lt_of_lt_of_le z dn), dne, hn₃⟩)
theorem low_made (T : ErTxt K mg cn qn C fI) {v : Value} (X : K.In s.heap) (hlim : s.heap.NoLimit) (hroom : A.depth + 1 < recursionLimit)
    (hq : ∀ h' tk e d, OwnMade s.heap h' e C d v → R (.ok (.ret (.ref e))) { s with heap := h', toks := tk }) :
    codeAny (model prog w) A (.call (.ref C) ⟨[v], []⟩) R s := by
  obtain ⟨nm, q, N, bs, bm, sn, sub, ab, col, dd, k0, k1, k2, k3, k5, hC, hbm⟩ := T.cls
  obtain ⟨hp, g, dr, tk, os⟩ := s
  have k : ∀ b o, hp.get? b = some o → ((hp.push (kdv_tup [v])).push (excO C hp.objs.size)).get? b = some o := fun b o e => Heap.get?_push_of_some _ (Heap.get?_push_of_some _ e)
  have hget : ((hp.push (kdv_tup [v])).push (excO C hp.objs.size)).get? (hp.objs.size + 1) = some (excO C hp.objs.size) := by heap_get
  have hnx : K.lookup (hp.objs.size + 1) = none := by
    cases e : K.lookup (hp.objs.size + 1) with
    | none => rfl
    | some o =>
      have z : hp.get? (hp.objs.size + 1) = some o := X _ _ e
      exact absurd (Nat.lt_of_succ_lt (Heap.lt_size z)) (Nat.lt_irrefl _)
  refine call_own F.excBase_ValueError (fun X => refsVE_contains X bm hbm) (X _ _ hC) (looks_findIn X T.iC) (fun self => bind_fn X self T.tC) (one_size v) ?_
  refine low_init (s := ⟨(hp.push (kdv_tup [v])).push (excO C hp.objs.size), g, dr, tk, os⟩) T (X.keeps k) (hlim.keeps k) hget hnx ?_ fun h' tk' dx ⟨k', hx, dn, dne, hns⟩ => ?_
  · show A.depth + 1 < recursionLimit
    exact hroom
  · have old : ∀ b o, hp.get? b = some o → h'.get? b = some o := fun b o e => k' b o (Nat.ne_of_lt (Nat.lt_succ_of_lt (Heap.lt_size e))) (k b o e)
    have z : hp.objs.size + 1 + 1 ≤ dx := by
      first
        | (simpa only [Heap.size_push] using dn)
        | exact dn
        | (have q := dn; rw [Heap.size_push, Heap.size_push] at q; exact q)
    exact ⟨rfl, hq h' tk' (hp.objs.size + 1) dx ⟨old, Nat.le_succ _, ⟨_, _, hx, rfl, rfl, rfl, rfl⟩, Nat.le_trans (Nat.le_trans (Nat.le_succ _) (Nat.le_succ _)) z, dne, hns⟩⟩
end
end Erlimit
end PySem
namespace L2
open PySem PySem.Spec PyProof.Rows
theorem relO_low_limit {v : V} {v' : Value} (r : RelV v v') (f : Str) : RelO (List.lookup f [(("limit" : Str), v)]) (if f = "limit" then some v' else none) := by
  by_cases hw : f = "limit"
  · subst hw
    rw [if_pos rfl]
    have q : List.lookup ("limit" : Str) [(("limit" : Str), v)] = some v := by simp [List.lookup]
    rw [q]
    exact r
  · rw [if_neg hw]
    have qw : (f == ("limit" : Str)) = false := by simpa using hw
    have q2 : List.lookup f [(("limit" : Str), v)] = none := by simp [List.lookup, qw]
    rw [q2]
    trivial
section
variable {X : Cx} {cn qn : Str} {C fI : Addr}
/-- Low(e) -/
def tMkLow_limit (C : Addr) (ta : TA) : St → Hp → XK → Prop := fun σ H Q => ta σ H fun vs H1 => ∃ v, vs = [v] ∧ ∀ d, H1 d = none → Q (.ref C) (some d) (upd H1 d (.xd [(("limit" : Str), v)]))
theorem pmk_low_limit {a : Expr} {ta : TA} {p pos : Pos} {k : Nat} (T : PySem.Erlimit.ErTxt X.K X.mg cn qn C fI) (hr : Room k X.A) (ha : PA X [a] ta) (hg : Gl X cn) (hdb : (cn == ("__debug__" : Str)) = false)
    (he : starEach (a :: []) X.env = (false, eval a X.env) :: starEach [] X.env := by rfl) (hpl : (backTo pos (starEach [] X.env)).any (·.1) = false := by rfl) :
    PMk X (.Call (.Name cn p) [a] [] pos) (tMkLow_limit C ta) := by
  intro pins s σ H Q I h
  refine wpAny_Call_Name_kw (ld_glob I hg T.gC ?_ hdb)
  refine PySem.W.callWith_K (h₀ := X.base) I.ok.mod.kin T.kC (thn (ha.run pos pins s σ H _ I h) fun us s1 hh => ?_) he hpl
  obtain ⟨vs, H1, I1, r1, v, ev, q1⟩ := hh
  subst ev
  refine ⟨I1.kIn, ?_⟩
  cases r1 with
  | cons rv rn =>
    rename_i v' us'
    cases rn
    show wpAny _ _ (call (.ref C) [v']) _ _ _
    have hlim := I1.nolimit
    obtain ⟨hp, g, dr, tk, os⟩ := s1
    refine wpAny_call (PySem.Erlimit.low_made T I1.kIn hlim (by have := hr.dp; omega) fun h' tk' e d M => ?_)
    show MkP X pins σ Q (.ref e) ⟨h', g, dr, tk', os⟩
    obtain ⟨oe, fv, hoe, hc, hd, hdat, h1⟩ := M.obj
    have hns := M.ns
    obtain ⟨G', g1, g2⟩ := restrict h' fun b => decide (b ≠ e)
    have gk : ∀ b, b ≠ e → G'.get? b = h'.get? b := fun b hb => g1 b (decide_eq_true hb)
    have ge : G'.get? e = none := g2 e (by simp)
    have old : ∀ b o, hp.get? b = some o → G'.get? b = some o := fun b o q => (gk b (Nat.ne_of_lt (Nat.lt_of_lt_of_le (Heap.lt_size q) M.new))).trans (M.keep b o q)
    have ob : ObjOk X.prog X.w (upd H1 d (.xd [(("limit" : Str), v)])) G' d (.xd [(("limit" : Str), v)]) :=
      ⟨_, hns.at (fun o q => (gk d M.dne).trans q), fun f => relO_low_limit rv f⟩
    have J : Inv X pins σ (upd H1 d (.xd [(("limit" : Str), v)])) ⟨G', g, dr, tk', os⟩ := I1.laid (t' := tk') old M.dbig ob
    refine ⟨e, oe, fv, ⟨G', g, dr, tk', os⟩, _, .ref C, some d, rfl, J, fun b o q => ?_, ge, hoe, ⟨hc, hd⟩, hdat, h1, ?_, rfl, I1.bare, raises_own T.exC T.tyC, q1 d (I1.hok.fresh M.dbig)⟩
    · by_cases hb : b = e
      · have q' : G'.get? b = some o := q
        rw [hb, ge] at q'; cases q'
      · exact (gk b hb).symm.trans q
    · rw [upd_ne (Ne.symm M.dne)]
      exact I1.hok.fresh M.new
/-- raise Low(e) -/
def tRaiseLow_limit (C : Addr) (W : WX) (ta : TA) : TS := fun _ σ H => tMkLow_limit C ta σ H fun cls d H' => W cls d σ H'
theorem ps_raiseLow_limit {a : Expr} {ta : TA} {W : WX} {p pos pos2 : Pos} {k : Nat} (hc : X.calm = true) (T : PySem.Erlimit.ErTxt X.K X.mg cn qn C fI) (hr : Room k X.A) (tk : Takes X W) (ha : PA X [a] ta) (hg : Gl X cn) (hdb : (cn == ("__debug__" : Str)) = false)
    (he : starEach (a :: []) X.env = (false, eval a X.env) :: starEach [] X.env := by rfl) (hpl : (backTo pos (starEach [] X.env)).any (·.1) = false := by rfl) :
    PS X (.Raise (some (.Call (.Name cn p) [a] [] pos)) none pos2) (tRaiseLow_limit C W ta) := ps_raise hc tk (pmk_low_limit T hr ha hg hdb he hpl)
/-- low.by, low the exception that the suite holds (at a; its class cls, its dict d) -/
def tByLow_limit (C : Addr) (a : Addr) (cls : Value) (d : Option Addr) (te : TE) : TE := fun σ H Q => te σ H fun x H1 => x = .ref a ∧ cls = .ref C ∧ ∃ (dd : Addr) (v : V), d = some dd ∧ H1 dd = some (.xd [(("limit" : Str), v)]) ∧ Q v H1
theorem pe_byLow_limit {a : Addr} {oe : Obj} {cls : Value} {d : Option Addr} {pn : List (Addr × Obj)} {e : Expr} {te : TE} {pos : Pos} (T : PySem.Erlimit.ErTxt X.K X.mg cn qn C fI) (hz : Zc cls d oe) (hf : ∃ vs, oe.data = .fields vs) (he : PE (X.suite a ((a, oe) :: pn)) e te)
    (hb : attributeBase e "limit" X.env (eval e X.env) = eval e X.env := by rfl) :
    PE (X.suite a ((a, oe) :: pn)) (.Attribute e "limit" pos) (tByLow_limit C a cls d te) := by
  refine ⟨fun pins s σ H Q I h => ?_⟩
  refine attr_of hb (thn (he.run pins s σ H _ I h) fun u s1 hh => ?_)
  obtain ⟨x, H1, I1, rx, ex, ec, dd, v, ed, ea, q⟩ := hh
  subst ex
  obtain rfl : u = Value.ref a := rx
  subst ec
  subst ed
  obtain ⟨ha, _⟩ := I1.pin (a, oe) (List.mem_append_left _ List.mem_cons_self)
  obtain ⟨vs, hd⟩ := hf
  have hx : ObjOk X.prog X.w H1 s1.heap dd (.xd [(("limit" : Str), v)]) := I1.hok dd _ ea
  obtain ⟨mA, hns, hr⟩ := hx
  obtain ⟨od, ho, hl⟩ := lookIn_ns hns
  have l : List.lookup ("limit" : Str) [(("limit" : Str), v)] = some v := by simp [List.lookup]
  obtain ⟨u, hu, ru⟩ := RelO.some_of (v := v) (o := mA "limit") (by rw [← l]; exact hr "limit")
  have J : PySem.W.InstAt s1.heap a oe C (some od) := ⟨ha, hz.1, by unfold PySem.W.notCls; rw [hd] <;> rfl, by rw [hz.2]; exact ho⟩
  exact HandSPX.exc_get I1.kIn J T.ga T.gg T.exC (PySem.W.findObj_own T.hdC T.noN rfl (by rw [hl, hu])) (handed_of ru) ⟨v, H1, I1.tok _, ru, q⟩
end
end L2


namespace PySem
namespace Ernumber
open PySem.W PySem.Calls PyProof.Rows PySem.HandSPX
/-! ### the text of __init__ -/
def iA (p1 p2 : Pos) : Arguments := { posonlyargs := [], args := [{ arg := "self", annotation := none, pos := p1 }, { arg := "number", annotation := none, pos := p2 }], vararg := none, kwonlyargs := [], kw_defaults := [], kwarg := none, defaults := [] }
def iB (q1 q2 q3 q4 : Pos) : List Stmt := [.Assign [.Attribute (.Name "self" q1) "number" q2] (.Name "number" q3) q4]
def iS : Scope := { kind := .function, names := [(PySem.Str.ofString "self", .local), (PySem.Str.ofString "number", .local)], isGenerator := false, isCoroutine := false, more := [] }
/-- what the written part says of Low, at C, and of its __init__, at fI -/
structure ErTxt (K : Frag) (mg : Str → Option Value) (cn qn : Str) (C fI : Addr) : Prop where
  gC : mg cn = some (.ref C)
  cls : ∃ nm q N bs bm sn sub ab col dd k0 k1 k2 k3 k5, K.lookup C = some (excClassObj nm q C N bs bm true sn sub ab col dd k0 k1 k2 k3 k5 "ValueError.__new__") ∧ refsVE bm = true
  sa : findIn K (.ref C) "__setattr__" = some (some (.builtin "object.__setattr__"))
  ga : findIn K (.ref C) "__getattribute__" = some (some (.builtin "BaseException.__getattribute__"))
  gg : findIn K (.ref C) "__getattr__" = some none
  noN : findIn K (.ref C) "number" = some none
  iC : findIn K (.ref C) "__init__" = some (some (.ref fI))
  tC : typeIn K (.ref fI) = some (.type "function")
  kC : keepIn K (.ref C) = true
  exC : subIn K (.ref C) (.type "BaseException") = some true
  tyC : typeIn K (.ref C) = some (.type "type")
  hdC : hasDictIn K C = true
  fn : ∃ (oc : Value) (od : Option Addr) (doc pm : Value) (an : Option Addr) (cdv ct : Value) (osl : Array (Option Value)) (p1 p2 q1 q2 q3 q4 : Pos),
    K.lookup fI = some ⟨oc, od, .func (fnOf "__init__" qn (iA p1 p2) (iB q1 q2 q3 q4) iS .none .none doc pm an cdv ct), osl⟩ ∧ codeIn K cdv qn = true
theorem one_size (v : Value) : [v].length ≤ sizeLine := by
  rw [sizeLine_eq]
  exact (by decide : 1 ≤ 16777216)
theorem kept_but {K : Frag} {h h' : Heap} {x : Addr} (X : K.In h) (hx : K.lookup x = none) (k : ∀ b o, b ≠ x → h.get? b = some o → h'.get? b = some o) : K.In h' := fun a o e =>
  k a o (fun z => by rw [z, hx] at e; cases e) (X a o e)
theorem ldC {M : Model} {s : Shared} {name : Str} {scope : Scope} {L a : Addr} {cd : Value} {m : Str → Option Value} {x : Str} {pos : Pos} {v : Value} {Q : Value → Shared → Prop} {A : Around} {E : Value → Shared → Prop} (hn : s.heap.Ns L m) (hv : m x = some v) (h : Q v s)
    (hk : scope.kind = .function := by rfl) (hl : (envOfC name scope L a cd).kindOf x = some .local := by rfl) (hd : (x == ("__debug__" : Str)) = false := by decide) :
    wpAny M A (eval (.Name x pos) (envOfC name scope L a cd)) Q E s := wpAny_Name (wpAny_loadName_local hk hl hn hv h) hd
/-- what __init__ leaves of a fresh exception at x -/
structure InitEnd (h h' : Heap) (x C dx t1 : Addr) (v : Value) : Prop where
  keep : ∀ b o, b ≠ x → h.get? b = some o → h'.get? b = some o
  obj : h'.get? x = some { cls := .ref C, dict := some dx, data := .fields #[.ref t1, .none, .none, .none, .bool false, .none] }
  dbig : h.objs.size ≤ dx
  dne : dx ≠ x
  ns : h'.Ns1 dx (fun y => if y = "number" then some v else none)
/-- a made Low -/
structure OwnMade (h h' : Heap) (e C d : Addr) (v : Value) : Prop where
  keep : ∀ b o, h.get? b = some o → h'.get? b = some o
  new : h.objs.size ≤ e
  obj : ∃ oe vs, h'.get? e = some oe ∧ oe.cls = .ref C ∧ oe.dict = some d ∧ oe.data = .fields vs ∧ vs[1]? = some .none
  dbig : h.objs.size ≤ d
  dne : d ≠ e
  ns : h'.Ns1 d (fun y => if y = "number" then some v else none)
section
variable {prog : Program} {w : World} {A : Around} {E : Value → Shared → Prop} {R : Result → Shared → Prop} {s : Shared} {K : Frag} {mg : Str → Option Value} {cn qn : Str} {C fI : Addr}
theorem low_init (T : ErTxt K mg cn qn C fI) {x t0 : Addr} {v : Value} (X : K.In s.heap) (hlim : s.heap.NoLimit) (hx : s.heap.get? x = some (excO C t0)) (hnx : K.lookup x = none) (hroom : A.depth < recursionLimit)
    (hq : ∀ h' tk dx, InitEnd s.heap h' x C dx t0 v → R (.ok (.ret .none)) { s with heap := h', toks := tk }) :
    codeAny (model prog w) A (.call (.ref fI) ⟨[.ref x, v], []⟩) R s := by
  obtain ⟨oc, od, doc, pm, an, cdv, ct, osl, p1, p2, q1, q2, q3, q4, ho, hcd⟩ := T.fn
  obtain ⟨nm, q, N, bs, bm, sn, sub, ab, col, dd, k0, k1, k2, k3, k5, hC, hbm⟩ := T.cls
  have hcl : clsIn K C = some { name := nm, bases := bs, mro := .ref C :: bm, ns := N, qualname := q, hasDict := true, slotNames := sn, subclasses := sub, abstract := ab, collection := col, hasDel := false } := by unfold clsIn; rw [hC] <;> rfl
  refine Att.call_fn (binds := [("self", .ref x), ("number", v)]) X hlim ho hcd hroom (BindsTo.of_eq (by first | rfl | with_unfolding_all rfl)) (by first | rfl | decide | with_unfolding_all rfl) (fun s₁ IC => ?_) rfl rfl rfl
  obtain ⟨h₁, tk₁, rfl⟩ := IC.toInCall.same
  have k : ∀ b o, s.heap.get? b = some o → h₁.get? b = some o := IC.toInCall.keep
  have hn := IC.toInCall.ns
  have hxL : s.heap.objs.size ≠ x := Nat.ne_of_gt (Heap.lt_size hx)
  have X₁ : K.In h₁ := X.keeps k
  have hx₁ := k _ _ hx
  -- self.by = by
  show wpAny _ _ (execs _ _) _ _ _
  refine wpAny_execs_cons (plainObj_wpAny_Assign_Attribute ?_)
  refine ldC (v := v) hn (by first | rfl | with_unfolding_all rfl | kernel_rfl) (ldC (v := .ref x) hn (by first | rfl | with_unfolding_all rfl | kernel_rfl) ?_)
  refine set_plain X₁ (ox := excO C t0) (od := none) ⟨hx₁, rfl, rfl, trivial⟩ T.sa ?_
  refine exc_osa X₁ hx₁ hcl (show refsVE (.ref C :: bm) = true from hbm) rfl T.noN (fun h₃ tk₃ dx k₃ dn dne hx₃ hn₃ => ?_)
  show wpAny _ _ (execs _ _) _ _ _
  have z : s.heap.objs.size < h₁.objs.size := hn.lt
  exact wpAny_execs_nil (hq h₃ tk₃ dx ⟨fun b o hb e => k₃ b o hb (k b o e), hx₃, Nat.le_of_lt (Nat.lt_of_lt_of_le z dn), dne, hn₃⟩)
theorem low_made (T : ErTxt K mg cn qn C fI) {v : Value} (X : K.In s.heap) (hlim : s.heap.NoLimit) (hroom : A.depth + 1 < recursionLimit)
    (hq : ∀ h' tk e d, OwnMade s.heap h' e C d v → R (.ok (.ret (.ref e))) { s with heap := h', toks := tk }) :
    codeAny (model prog w) A (.call (.ref C) ⟨[v], []⟩) R s := by
  obtain ⟨nm, q, N, bs, bm, sn, sub, ab, col, dd, k0, k1, k2, k3, k5, hC, hbm⟩ := T.cls
  obtain ⟨hp, g, dr, tk, os⟩ := s
  have k : ∀ b o, hp.get? b = some o → ((hp.push (kdv_tup [v])).push (excO C hp.objs.size)).get? b = some o := fun b o e => Heap.get?_push_of_some _ (Heap.get?_push_of_some _ e)
  have hget : ((hp.push (kdv_tup [v])).push (excO C hp.objs.size)).get? (hp.objs.size + 1) = some (excO C hp.objs.size) := by heap_get
  have hnx : K.lookup (hp.objs.size + 1) = none := by
    cases e : K.lookup (hp.objs.size + 1) with
    | none => rfl
    | some o =>
      have z : hp.get? (hp.objs.size + 1) = some o := X _ _ e
      exact absurd (Nat.lt_of_succ_lt (Heap.lt_size z)) (Nat.lt_irrefl _)
  refine call_own F.excBase_ValueError (fun X => refsVE_contains X bm hbm) (X _ _ hC) (looks_findIn X T.iC) (fun self => bind_fn X self T.tC) (one_size v) ?_
  refine low_init (s := ⟨(hp.push (kdv_tup [v])).push (excO C hp.objs.size), g, dr, tk, os⟩) T (X.keeps k) (hlim.keeps k) hget hnx ?_ fun h' tk' dx ⟨k', hx, dn, dne, hns⟩ => ?_
  · show A.depth + 1 < recursionLimit
    exact hroom
  · have old : ∀ b o, hp.get? b = some o → h'.get? b = some o := fun b o e => k' b o (Nat.ne_of_lt (Nat.lt_succ_of_lt (Heap.lt_size e))) (k b o e)
    have z : hp.objs.size + 1 + 1 ≤ dx := by
      first
        | (simpa only [Heap.size_push] using dn)
        | exact dn
        | (have q := dn; rw [Heap.size_push, Heap.size_push] at q; exact q)
    exact ⟨rfl, hq h' tk' (hp.objs.size + 1) dx ⟨old, Nat.le_succ _, ⟨_, _, hx, rfl, rfl, rfl, rfl⟩, Nat.le_trans (Nat.le_trans (Nat.le_succ _) (Nat.le_succ _)) z, dne, hns⟩⟩
end
end Ernumber
end PySem
namespace L2
open PySem PySem.Spec PyProof.Rows
theorem relO_low_number {v : V} {v' : Value} (r : RelV v v') (f : Str) : RelO (List.lookup f [(("number" : Str), v)]) (if f = "number" then some v' else none) := by
  by_cases hw : f = "number"
  · subst hw
    rw [if_pos rfl]
    have q : List.lookup ("number" : Str) [(("number" : Str), v)] = some v := by simp [List.lookup]
    rw [q]
    exact r
  · rw [if_neg hw]
    have qw : (f == ("number" : Str)) = false := by simpa using hw
    have q2 : List.lookup f [(("number" : Str), v)] = none := by simp [List.lookup, qw]
    rw [q2]
    trivial
section
variable {X : Cx} {cn qn : Str} {C fI : Addr}
/-- Low(e) -/
def tMkLow_number (C : Addr) (ta : TA) : St → Hp → XK → Prop := fun σ H Q => ta σ H fun vs H1 => ∃ v, vs = [v] ∧ ∀ d, H1 d = none → Q (.ref C) (some d) (upd H1 d (.xd [(("number" : Str), v)]))
theorem pmk_low_number {a : Expr} {ta : TA} {p pos : Pos} {k : Nat} (T : PySem.Ernumber.ErTxt X.K X.mg cn qn C fI) (hr : Room k X.A) (ha : PA X [a] ta) (hg : Gl X cn) (hdb : (cn == ("__debug__" : Str)) = false)
    (he : starEach (a :: []) X.env = (false, eval a X.env) :: starEach [] X.env := by rfl) (hpl : (backTo pos (starEach [] X.env)).any (·.1) = false := by rfl) :
    PMk X (.Call (.Name cn p) [a] [] pos) (tMkLow_number C ta) := by
  intro pins s σ H Q I h
  refine wpAny_Call_Name_kw (ld_glob I hg T.gC ?_ hdb)
  refine PySem.W.callWith_K (h₀ := X.base) I.ok.mod.kin T.kC (thn (ha.run pos pins s σ H _ I h) fun us s1 hh => ?_) he hpl
  obtain ⟨vs, H1, I1, r1, v, ev, q1⟩ := hh
  subst ev
  refine ⟨I1.kIn, ?_⟩
  cases r1 with
  | cons rv rn =>
    rename_i v' us'
    cases rn
    show wpAny _ _ (call (.ref C) [v']) _ _ _
    have hlim := I1.nolimit
    obtain ⟨hp, g, dr, tk, os⟩ := s1
    refine wpAny_call (PySem.Ernumber.low_made T I1.kIn hlim (by have := hr.dp; omega) fun h' tk' e d M => ?_)
    show MkP X pins σ Q (.ref e) ⟨h', g, dr, tk', os⟩
    obtain ⟨oe, fv, hoe, hc, hd, hdat, h1⟩ := M.obj
    have hns := M.ns
    obtain ⟨G', g1, g2⟩ := restrict h' fun b => decide (b ≠ e)
    have gk : ∀ b, b ≠ e → G'.get? b = h'.get? b := fun b hb => g1 b (decide_eq_true hb)
    have ge : G'.get? e = none := g2 e (by simp)
    have old : ∀ b o, hp.get? b = some o → G'.get? b = some o := fun b o q => (gk b (Nat.ne_of_lt (Nat.lt_of_lt_of_le (Heap.lt_size q) M.new))).trans (M.keep b o q)
    have ob : ObjOk X.prog X.w (upd H1 d (.xd [(("number" : Str), v)])) G' d (.xd [(("number" : Str), v)]) :=
      ⟨_, hns.at (fun o q => (gk d M.dne).trans q), fun f => relO_low_number rv f⟩
    have J : Inv X pins σ (upd H1 d (.xd [(("number" : Str), v)])) ⟨G', g, dr, tk', os⟩ := I1.laid (t' := tk') old M.dbig ob
    refine ⟨e, oe, fv, ⟨G', g, dr, tk', os⟩, _, .ref C, some d, rfl, J, fun b o q => ?_, ge, hoe, ⟨hc, hd⟩, hdat, h1, ?_, rfl, I1.bare, raises_own T.exC T.tyC, q1 d (I1.hok.fresh M.dbig)⟩
    · by_cases hb : b = e
      · have q' : G'.get? b = some o := q
        rw [hb, ge] at q'; cases q'
      · exact (gk b hb).symm.trans q
    · rw [upd_ne (Ne.symm M.dne)]
      exact I1.hok.fresh M.new
/-- raise Low(e) -/
def tRaiseLow_number (C : Addr) (W : WX) (ta : TA) : TS := fun _ σ H => tMkLow_number C ta σ H fun cls d H' => W cls d σ H'
theorem ps_raiseLow_number {a : Expr} {ta : TA} {W : WX} {p pos pos2 : Pos} {k : Nat} (hc : X.calm = true) (T : PySem.Ernumber.ErTxt X.K X.mg cn qn C fI) (hr : Room k X.A) (tk : Takes X W) (ha : PA X [a] ta) (hg : Gl X cn) (hdb : (cn == ("__debug__" : Str)) = false)
    (he : starEach (a :: []) X.env = (false, eval a X.env) :: starEach [] X.env := by rfl) (hpl : (backTo pos (starEach [] X.env)).any (·.1) = false := by rfl) :
    PS X (.Raise (some (.Call (.Name cn p) [a] [] pos)) none pos2) (tRaiseLow_number C W ta) := ps_raise hc tk (pmk_low_number T hr ha hg hdb he hpl)
/-- low.by, low the exception that the suite holds (at a; its class cls, its dict d) -/
def tByLow_number (C : Addr) (a : Addr) (cls : Value) (d : Option Addr) (te : TE) : TE := fun σ H Q => te σ H fun x H1 => x = .ref a ∧ cls = .ref C ∧ ∃ (dd : Addr) (v : V), d = some dd ∧ H1 dd = some (.xd [(("number" : Str), v)]) ∧ Q v H1
theorem pe_byLow_number {a : Addr} {oe : Obj} {cls : Value} {d : Option Addr} {pn : List (Addr × Obj)} {e : Expr} {te : TE} {pos : Pos} (T : PySem.Ernumber.ErTxt X.K X.mg cn qn C fI) (hz : Zc cls d oe) (hf : ∃ vs, oe.data = .fields vs) (he : PE (X.suite a ((a, oe) :: pn)) e te)
    (hb : attributeBase e "number" X.env (eval e X.env) = eval e X.env := by rfl) :
    PE (X.suite a ((a, oe) :: pn)) (.Attribute e "number" pos) (tByLow_number C a cls d te) := by
  refine ⟨fun pins s σ H Q I h => ?_⟩
  refine attr_of hb (thn (he.run pins s σ H _ I h) fun u s1 hh => ?_)
  obtain ⟨x, H1, I1, rx, ex, ec, dd, v, ed, ea, q⟩ := hh
  subst ex
  obtain rfl : u = Value.ref a := rx
  subst ec
  subst ed
  obtain ⟨ha, _⟩ := I1.pin (a, oe) (List.mem_append_left _ List.mem_cons_self)
  obtain ⟨vs, hd⟩ := hf
  have hx : ObjOk X.prog X.w H1 s1.heap dd (.xd [(("number" : Str), v)]) := I1.hok dd _ ea
  obtain ⟨mA, hns, hr⟩ := hx
  obtain ⟨od, ho, hl⟩ := lookIn_ns hns
  have l : List.lookup ("number" : Str) [(("number" : Str), v)] = some v := by simp [List.lookup]
  obtain ⟨u, hu, ru⟩ := RelO.some_of (v := v) (o := mA "number") (by rw [← l]; exact hr "number")
  have J : PySem.W.InstAt s1.heap a oe C (some od) := ⟨ha, hz.1, by unfold PySem.W.notCls; rw [hd] <;> rfl, by rw [hz.2]; exact ho⟩
  exact HandSPX.exc_get I1.kIn J T.ga T.gg T.exC (PySem.W.findObj_own T.hdC T.noN rfl (by rw [hl, hu])) (handed_of ru) ⟨v, H1, I1.tok _, ru, q⟩
end
end L2


namespace PySem
namespace Ermany
open PySem.W PySem.Calls PyProof.Rows PySem.HandSPX
/-! ### the text of __init__ -/
def iA (p1 p2 : Pos) : Arguments := { posonlyargs := [], args := [{ arg := "self", annotation := none, pos := p1 }, { arg := "many", annotation := none, pos := p2 }], vararg := none, kwonlyargs := [], kw_defaults := [], kwarg := none, defaults := [] }
def iB (q1 q2 q3 q4 : Pos) : List Stmt := [.Assign [.Attribute (.Name "self" q1) "many" q2] (.Name "many" q3) q4]
def iS : Scope := { kind := .function, names := [(PySem.Str.ofString "self", .local), (PySem.Str.ofString "many", .local)], isGenerator := false, isCoroutine := false, more := [] }
/-- what the written part says of Low, at C, and of its __init__, at fI -/
structure ErTxt (K : Frag) (mg : Str → Option Value) (cn qn : Str) (C fI : Addr) : Prop where
  gC : mg cn = some (.ref C)
  cls : ∃ nm q N bs bm sn sub ab col dd k0 k1 k2 k3 k5, K.lookup C = some (excClassObj nm q C N bs bm true sn sub ab col dd k0 k1 k2 k3 k5 "ValueError.__new__") ∧ refsVE bm = true
  sa : findIn K (.ref C) "__setattr__" = some (some (.builtin "object.__setattr__"))
  ga : findIn K (.ref C) "__getattribute__" = some (some (.builtin "BaseException.__getattribute__"))
  gg : findIn K (.ref C) "__getattr__" = some none
  noN : findIn K (.ref C) "many" = some none
  iC : findIn K (.ref C) "__init__" = some (some (.ref fI))
  tC : typeIn K (.ref fI) = some (.type "function")
  kC : keepIn K (.ref C) = true
  exC : subIn K (.ref C) (.type "BaseException") = some true
  tyC : typeIn K (.ref C) = some (.type "type")
  hdC : hasDictIn K C = true
  fn : ∃ (oc : Value) (od : Option Addr) (doc pm : Value) (an : Option Addr) (cdv ct : Value) (osl : Array (Option Value)) (p1 p2 q1 q2 q3 q4 : Pos),
    K.lookup fI = some ⟨oc, od, .func (fnOf "__init__" qn (iA p1 p2) (iB q1 q2 q3 q4) iS .none .none doc pm an cdv ct), osl⟩ ∧ codeIn K cdv qn = true
theorem one_size (v : Value) : [v].length ≤ sizeLine := by
  rw [sizeLine_eq]
  exact (by decide : 1 ≤ 16777216)
theorem kept_but {K : Frag} {h h' : Heap} {x : Addr} (X : K.In h) (hx : K.lookup x = none) (k : ∀ b o, b ≠ x → h.get? b = some o → h'.get? b = some o) : K.In h' := fun a o e =>
  k a o (fun z => by rw [z, hx] at e; cases e) (X a o e)
theorem ldC {M : Model} {s : Shared} {name : Str} {scope : Scope} {L a : Addr} {cd : Value} {m : Str → Option Value} {x : Str} {pos : Pos} {v : Value} {Q : Value → Shared → Prop} {A : Around} {E : Value → Shared → Prop} (hn : s.heap.Ns L m) (hv : m x = some v) (h : Q v s)
    (hk : scope.kind = .function := by rfl) (hl : (envOfC name scope L a cd).kindOf x = some .local := by rfl) (hd : (x == ("__debug__" : Str)) = false := by decide) :
    wpAny M A (eval (.Name x pos) (envOfC name scope L a cd)) Q E s := wpAny_Name (wpAny_loadName_local hk hl hn hv h) hd
/-- what __init__ leaves of a fresh exception at x -/
structure InitEnd (h h' : Heap) (x C dx t1 : Addr) (v : Value) : Prop where
  keep : ∀ b o, b ≠ x → h.get? b = some o → h'.get? b = some o
  obj : h'.get? x = some { cls := .ref C, dict := some dx, data := .fields #[.ref t1, .none, .none, .none, .bool false, .none] }
  dbig : h.objs.size ≤ dx
  dne : dx ≠ x
  ns : h'.Ns1 dx (fun y => if y = "many" then some v else none)
/-- a made Low -/
structure OwnMade (h h' : Heap) (e C d : Addr) (v : Value) : Prop where
  keep : ∀ b o, h.get? b = some o → h'.get? b = some o
  new : h.objs.size ≤ e
  obj : ∃ oe vs, h'.get? e = some oe ∧ oe.cls = .ref C ∧ oe.dict = some d ∧ oe.data = .fields vs ∧ vs[1]? = some .none
  dbig : h.objs.size ≤ d
  dne : d ≠ e
  ns : h'.Ns1 d (fun y => if y = "many" then some v else none)
section
variable {prog : Program} {w : World} {A : Around} {E : Value → Shared → Prop} {R : Result → Shared → Prop} {s : Shared} {K : Frag} {mg : Str → Option Value} {cn qn : Str} {C fI : Addr}
theorem low_init (T : ErTxt K mg cn qn C fI) {x t0 : Addr} {v : Value} (X : K.In s.heap) (hlim : s.heap.NoLimit) (hx : s.heap.get? x = some (excO C t0)) (hnx : K.lookup x = none) (hroom : A.depth < recursionLimit)
    (hq : ∀ h' tk dx, InitEnd s.heap h' x C dx t0 v → R (.ok (.ret .none)) { s with heap := h', toks := tk }) :
    codeAny (model prog w) A (.call (.ref fI) ⟨[.ref x, v], []⟩) R s := by
  obtain ⟨oc, od, doc, pm, an, cdv, ct, osl, p1, p2, q1, q2, q3, q4, ho, hcd⟩ := T.fn
  obtain ⟨nm, q, N, bs, bm, sn, sub, ab, col, dd, k0, k1, k2, k3, k5, hC, hbm⟩ := T.cls
  have hcl : clsIn K C = some { name := nm, bases := bs, mro := .ref C :: bm, ns := N, qualname := q, hasDict := true, slotNames := sn, subclasses := sub, abstract := ab, collection := col, hasDel := false } := by unfold clsIn; rw [hC] <;> rfl
  refine Att.call_fn (binds := [("self", .ref x), ("many", v)]) X hlim ho hcd hroom (BindsTo.of_eq (by first | rfl | with_unfolding_all rfl)) (by first | rfl | decide | with_unfolding_all rfl) (fun s₁ IC => ?_) rfl rfl rfl
  obtain ⟨h₁, tk₁, rfl⟩ := IC.toInCall.same
  have k : ∀ b o, s.heap.get? b = some o → h₁.get? b = some o := IC.toInCall.keep
  have hn := IC.toInCall.ns
  have hxL : s.heap.objs.size ≠ x := Nat.ne_of_gt (Heap.lt_size hx)
  have X₁ : K.In h₁ := X.keeps k
  have hx₁ := k _ _ hx
  -- self.by = by
  show wpAny _ _ (execs _ _) _ _ _
  refine wpAny_execs_cons (plainObj_wpAny_Assign_Attribute ?_)
  refine ldC (v := v) hn (by first | rfl | with_unfolding_all rfl | kernel_rfl) (ldC (v := .ref x) hn (by first | rfl | with_unfolding_all rfl | kernel_rfl) ?_)
  refine set_plain X₁ (ox := excO C t0) (od := none) ⟨hx₁, rfl, rfl, trivial⟩ T.sa ?_
  refine exc_osa X₁ hx₁ hcl (show refsVE (.ref C :: bm) = true from hbm) rfl T.noN (fun h₃ tk₃ dx k₃ dn dne hx₃ hn₃ => ?_)
  show wpAny _ _ (execs _ _) _ _ _
  have z : s.heap.objs.size < h₁.objs.size := hn.lt
  exact wpAny_execs_nil (hq h₃ tk₃ dx ⟨fun b o hb e => k₃ b o hb (k b o e), hx₃, Nat.le_of_lt (Nat.lt_of_lt_of_le z dn), dne, hn₃⟩)
theorem low_made (T : ErTxt K mg cn qn C fI) {v : Value} (X : K.In s.heap) (hlim : s.heap.NoLimit) (hroom : A.depth + 1 < recursionLimit)
    (hq : ∀ h' tk e d, OwnMade s.heap h' e C d v → R (.ok (.ret (.ref e))) { s with heap := h', toks := tk }) :
    codeAny (model prog w) A (.call (.ref C) ⟨[v], []⟩) R s := by
  obtain ⟨nm, q, N, bs, bm, sn, sub, ab, col, dd, k0, k1, k2, k3, k5, hC, hbm⟩ := T.cls
  obtain ⟨hp, g, dr, tk, os⟩ := s
  have k : ∀ b o, hp.get? b = some o → ((hp.push (kdv_tup [v])).push (excO C hp.objs.size)).get? b = some o := fun b o e => Heap.get?_push_of_some _ (Heap.get?_push_of_some _ e)
  have hget : ((hp.push (kdv_tup [v])).push (excO C hp.objs.size)).get? (hp.objs.size + 1) = some (excO C hp.objs.size) := by heap_get
  have hnx : K.lookup (hp.objs.size + 1) = none := by
    cases e : K.lookup (hp.objs.size + 1) with
    | none => rfl
    | some o =>
      have z : hp.get? (hp.objs.size + 1) = some o := X _ _ e
      exact absurd (Nat.lt_of_succ_lt (Heap.lt_size z)) (Nat.lt_irrefl _)
  refine call_own F.excBase_ValueError (fun X => refsVE_contains X bm hbm) (X _ _ hC) (looks_findIn X T.iC) (fun self => bind_fn X self T.tC) (one_size v) ?_
  refine low_init (s := ⟨(hp.push (kdv_tup [v])).push (excO C hp.objs.size), g, dr, tk, os⟩) T (X.keeps k) (hlim.keeps k) hget hnx ?_ fun h' tk' dx ⟨k', hx, dn, dne, hns⟩ => ?_
  · show A.depth + 1 < recursionLimit
    exact hroom
  · have old : ∀ b o, hp.get? b = some o → h'.get? b = some o := fun b o e => k' b o (Nat.ne_of_lt (Nat.lt_succ_of_lt (Heap.lt_size e))) (k b o e)
    have z : hp.objs.size + 1 + 1 ≤ dx := by
      first
        | (simpa only [Heap.size_push] using dn)
        | exact dn
        | (have q := dn; rw [Heap.size_push, Heap.size_push] at q; exact q)
    exact ⟨rfl, hq h' tk' (hp.objs.size + 1) dx ⟨old, Nat.le_succ _, ⟨_, _, hx, rfl, rfl, rfl, rfl⟩, Nat.le_trans (Nat.le_trans (Nat.le_succ _) (Nat.le_succ _)) z, dne, hns⟩⟩
end
end Ermany
end PySem
namespace L2
open PySem PySem.Spec PyProof.Rows
theorem relO_low_many {v : V} {v' : Value} (r : RelV v v') (f : Str) : RelO (List.lookup f [(("many" : Str), v)]) (if f = "many" then some v' else none) := by
  by_cases hw : f = "many"
  · subst hw
    rw [if_pos rfl]
    have q : List.lookup ("many" : Str) [(("many" : Str), v)] = some v := by simp [List.lookup]
    rw [q]
    exact r
  · rw [if_neg hw]
    have qw : (f == ("many" : Str)) = false := by simpa using hw
    have q2 : List.lookup f [(("many" : Str), v)] = none := by simp [List.lookup, qw]
    rw [q2]
    trivial
section
variable {X : Cx} {cn qn : Str} {C fI : Addr}
/-- Low(e) -/
def tMkLow_many (C : Addr) (ta : TA) : St → Hp → XK → Prop := fun σ H Q => ta σ H fun vs H1 => ∃ v, vs = [v] ∧ ∀ d, H1 d = none → Q (.ref C) (some d) (upd H1 d (.xd [(("many" : Str), v)]))
theorem pmk_low_many {a : Expr} {ta : TA} {p pos : Pos} {k : Nat} (T : PySem.Ermany.ErTxt X.K X.mg cn qn C fI) (hr : Room k X.A) (ha : PA X [a] ta) (hg : Gl X cn) (hdb : (cn == ("__debug__" : Str)) = false)
    (he : starEach (a :: []) X.env = (false, eval a X.env) :: starEach [] X.env := by rfl) (hpl : (backTo pos (starEach [] X.env)).any (·.1) = false := by rfl) :
    PMk X (.Call (.Name cn p) [a] [] pos) (tMkLow_many C ta) := by
  intro pins s σ H Q I h
  refine wpAny_Call_Name_kw (ld_glob I hg T.gC ?_ hdb)
  refine PySem.W.callWith_K (h₀ := X.base) I.ok.mod.kin T.kC (thn (ha.run pos pins s σ H _ I h) fun us s1 hh => ?_) he hpl
  obtain ⟨vs, H1, I1, r1, v, ev, q1⟩ := hh
  subst ev
  refine ⟨I1.kIn, ?_⟩
  cases r1 with
  | cons rv rn =>
    rename_i v' us'
    cases rn
    show wpAny _ _ (call (.ref C) [v']) _ _ _
    have hlim := I1.nolimit
    obtain ⟨hp, g, dr, tk, os⟩ := s1
    refine wpAny_call (PySem.Ermany.low_made T I1.kIn hlim (by have := hr.dp; omega) fun h' tk' e d M => ?_)
    show MkP X pins σ Q (.ref e) ⟨h', g, dr, tk', os⟩
    obtain ⟨oe, fv, hoe, hc, hd, hdat, h1⟩ := M.obj
    have hns := M.ns
    obtain ⟨G', g1, g2⟩ := restrict h' fun b => decide (b ≠ e)
    have gk : ∀ b, b ≠ e → G'.get? b = h'.get? b := fun b hb => g1 b (decide_eq_true hb)
    have ge : G'.get? e = none := g2 e (by simp)
    have old : ∀ b o, hp.get? b = some o → G'.get? b = some o := fun b o q => (gk b (Nat.ne_of_lt (Nat.lt_of_lt_of_le (Heap.lt_size q) M.new))).trans (M.keep b o q)
    have ob : ObjOk X.prog X.w (upd H1 d (.xd [(("many" : Str), v)])) G' d (.xd [(("many" : Str), v)]) :=
      ⟨_, hns.at (fun o q => (gk d M.dne).trans q), fun f => relO_low_many rv f⟩
    have J : Inv X pins σ (upd H1 d (.xd [(("many" : Str), v)])) ⟨G', g, dr, tk', os⟩ := I1.laid (t' := tk') old M.dbig ob
    refine ⟨e, oe, fv, ⟨G', g, dr, tk', os⟩, _, .ref C, some d, rfl, J, fun b o q => ?_, ge, hoe, ⟨hc, hd⟩, hdat, h1, ?_, rfl, I1.bare, raises_own T.exC T.tyC, q1 d (I1.hok.fresh M.dbig)⟩
    · by_cases hb : b = e
      · have q' : G'.get? b = some o := q
        rw [hb, ge] at q'; cases q'
      · exact (gk b hb).symm.trans q
    · rw [upd_ne (Ne.symm M.dne)]
      exact I1.hok.fresh M.new
/-- raise Low(e) -/
def tRaiseLow_many (C : Addr) (W : WX) (ta : TA) : TS := fun _ σ H => tMkLow_many C ta σ H fun cls d H' => W cls d σ H'
theorem ps_raiseLow_many {a : Expr} {ta : TA} {W : WX} {p pos pos2 : Pos} {k : Nat} (hc : X.calm = true) (T : PySem.Ermany.ErTxt X.K X.mg cn qn C fI) (hr : Room k X.A) (tk : Takes X W) (ha : PA X [a] ta) (hg : Gl X cn) (hdb : (cn == ("__debug__" : Str)) = false)
    (he : starEach (a :: []) X.env = (false, eval a X.env) :: starEach [] X.env := by rfl) (hpl : (backTo pos (starEach [] X.env)).any (·.1) = false := by rfl) :
    PS X (.Raise (some (.Call (.Name cn p) [a] [] pos)) none pos2) (tRaiseLow_many C W ta) := ps_raise hc tk (pmk_low_many T hr ha hg hdb he hpl)
/-- low.by, low the exception that the suite holds (at a; its class cls, its dict d) -/
def tByLow_many (C : Addr) (a : Addr) (cls : Value) (d : Option Addr) (te : TE) : TE := fun σ H Q => te σ H fun x H1 => x = .ref a ∧ cls = .ref C ∧ ∃ (dd : Addr) (v : V), d = some dd ∧ H1 dd = some (.xd [(("many" : Str), v)]) ∧ Q v H1
theorem pe_byLow_many {a : Addr} {oe : Obj} {cls : Value} {d : Option Addr} {pn : List (Addr × Obj)} {e : Expr} {te : TE} {pos : Pos} (T : PySem.Ermany.ErTxt X.K X.mg cn qn C fI) (hz : Zc cls d oe) (hf : ∃ vs, oe.data = .fields vs) (he : PE (X.suite a ((a, oe) :: pn)) e te)
    (hb : attributeBase e "many" X.env (eval e X.env) = eval e X.env := by rfl) :
    PE (X.suite a ((a, oe) :: pn)) (.Attribute e "many" pos) (tByLow_many C a cls d te) := by
  refine ⟨fun pins s σ H Q I h => ?_⟩
  refine attr_of hb (thn (he.run pins s σ H _ I h) fun u s1 hh => ?_)
  obtain ⟨x, H1, I1, rx, ex, ec, dd, v, ed, ea, q⟩ := hh
  subst ex
  obtain rfl : u = Value.ref a := rx
  subst ec
  subst ed
  obtain ⟨ha, _⟩ := I1.pin (a, oe) (List.mem_append_left _ List.mem_cons_self)
  obtain ⟨vs, hd⟩ := hf
  have hx : ObjOk X.prog X.w H1 s1.heap dd (.xd [(("many" : Str), v)]) := I1.hok dd _ ea
  obtain ⟨mA, hns, hr⟩ := hx
  obtain ⟨od, ho, hl⟩ := lookIn_ns hns
  have l : List.lookup ("many" : Str) [(("many" : Str), v)] = some v := by simp [List.lookup]
  obtain ⟨u, hu, ru⟩ := RelO.some_of (v := v) (o := mA "many") (by rw [← l]; exact hr "many")
  have J : PySem.W.InstAt s1.heap a oe C (some od) := ⟨ha, hz.1, by unfold PySem.W.notCls; rw [hd] <;> rfl, by rw [hz.2]; exact ho⟩
  exact HandSPX.exc_get I1.kIn J T.ga T.gg T.exC (PySem.W.findObj_own T.hdC T.noN rfl (by rw [hl, hu])) (handed_of ru) ⟨v, H1, I1.tok _, ru, q⟩
end
end L2
set_option maxRecDepth 100000
set_option maxHeartbeats 2000000
/-! own errors without a field: def __init__(self): pass -/
namespace PySem
namespace Er0
open PySem.W PySem.Calls PyProof.Rows PySem.HandSPX
def iA (p1 : Pos) : Arguments := { posonlyargs := [], args := [{ arg := "self", annotation := none, pos := p1 }], vararg := none, kwonlyargs := [], kw_defaults := [], kwarg := none, defaults := [] }
def iB (q1 : Pos) : List Stmt := [.Pass q1]
def iS : Scope := { kind := .function, names := [(PySem.Str.ofString "self", .local)], isGenerator := false, isCoroutine := false, more := [] }
structure ErTxt (K : Frag) (mg : Str → Option Value) (cn qn : Str) (C fI : Addr) : Prop where
  gC : mg cn = some (.ref C)
  cls : ∃ nm q N bs bm sn sub ab col dd k0 k1 k2 k3 k5, K.lookup C = some (excClassObj nm q C N bs bm true sn sub ab col dd k0 k1 k2 k3 k5 "ValueError.__new__") ∧ refsVE bm = true
  iC : findIn K (.ref C) "__init__" = some (some (.ref fI))
  tC : typeIn K (.ref fI) = some (.type "function")
  kC : keepIn K (.ref C) = true
  exC : subIn K (.ref C) (.type "BaseException") = some true
  tyC : typeIn K (.ref C) = some (.type "type")
  hdC : hasDictIn K C = true
  fn : ∃ (oc : Value) (od : Option Addr) (doc pm : Value) (an : Option Addr) (cdv ct : Value) (osl : Array (Option Value)) (p1 q1 : Pos),
    K.lookup fI = some ⟨oc, od, .func (fnOf "__init__" qn (iA p1) (iB q1) iS .none .none doc pm an cdv ct), osl⟩ ∧ codeIn K cdv qn = true
section
variable {prog : Program} {w : World} {A : Around} {R : Result → Shared → Prop} {s : Shared} {K : Frag} {mg : Str → Option Value} {cn qn : Str} {C fI : Addr}
theorem init0 (T : ErTxt K mg cn qn C fI) {x : Addr} (X : K.In s.heap) (hlim : s.heap.NoLimit) (hroom : A.depth < recursionLimit)
    (hq : ∀ h' tk, (∀ b o, s.heap.get? b = some o → h'.get? b = some o) → R (.ok (.ret .none)) { s with heap := h', toks := tk }) :
    codeAny (model prog w) A (.call (.ref fI) ⟨[.ref x], []⟩) R s := by
  obtain ⟨oc, od, doc, pm, an, cdv, ct, osl, p1, q1, ho, hcd⟩ := T.fn
  refine Att.call_fn (binds := [("self", .ref x)]) X hlim ho hcd hroom (BindsTo.of_eq (by first | rfl | with_unfolding_all rfl)) (by first | rfl | decide | with_unfolding_all rfl) (fun s₁ IC => ?_) rfl rfl rfl
  obtain ⟨h₁, tk₁, rfl⟩ := IC.toInCall.same
  show wpAny _ _ (execs _ _) _ _ _
  refine wpAny_execs_cons (wpAny_Pass ?_)
  exact wpAny_execs_nil (hq h₁ tk₁ IC.toInCall.keep)
/-- a made one -/
structure Made0 (h h' : Heap) (e C : Addr) : Prop where
  keep : ∀ b o, h.get? b = some o → h'.get? b = some o
  new : h.objs.size ≤ e
  obj : ∃ oe vs, h'.get? e = some oe ∧ oe.cls = .ref C ∧ oe.dict = none ∧ oe.data = .fields vs ∧ vs[1]? = some .none
theorem made0 (T : ErTxt K mg cn qn C fI) (X : K.In s.heap) (hlim : s.heap.NoLimit) (hroom : A.depth + 1 < recursionLimit)
    (hq : ∀ h' tk e, Made0 s.heap h' e C → R (.ok (.ret (.ref e))) { s with heap := h', toks := tk }) :
    codeAny (model prog w) A (.call (.ref C) ⟨[], []⟩) R s := by
  obtain ⟨nm, q, N, bs, bm, sn, sub, ab, col, dd, k0, k1, k2, k3, k5, hC, hbm⟩ := T.cls
  obtain ⟨hp, g, dr, tk, os⟩ := s
  have k : ∀ b o, hp.get? b = some o → ((hp.push (kdv_tup [])).push (excO C hp.objs.size)).get? b = some o := fun b o e => Heap.get?_push_of_some _ (Heap.get?_push_of_some _ e)
  have hget : ((hp.push (kdv_tup [])).push (excO C hp.objs.size)).get? (hp.objs.size + 1) = some (excO C hp.objs.size) := by heap_get
  refine call_own F.excBase_ValueError (fun X => refsVE_contains X bm hbm) (X _ _ hC) (looks_findIn X T.iC) (fun self => bind_fn X self T.tC) (Nat.zero_le _) ?_
  refine init0 (s := ⟨(hp.push (kdv_tup [])).push (excO C hp.objs.size), g, dr, tk, os⟩) T (X.keeps k) (hlim.keeps k) ?_ fun h' tk' k' => ?_
  · show A.depth + 1 < recursionLimit
    exact hroom
  · exact ⟨rfl, hq h' tk' (hp.objs.size + 1) ⟨fun b o e => k' b o (k b o e), Nat.le_succ _, ⟨_, _, k' _ _ hget, rfl, rfl, rfl, rfl⟩⟩⟩
end
end Er0
end PySem
namespace L2
open PySem PySem.Spec PyProof.Rows
section
variable {X : Cx} {cn qn : Str} {C fI : Addr}
/-- C() -/
def tMk0 (C : Addr) : St → Hp → XK → Prop := fun _ H Q => Q (.ref C) none H
theorem pmk_0 {p pos : Pos} {k : Nat} (T : PySem.Er0.ErTxt X.K X.mg cn qn C fI) (hr : Room k X.A) (hg : Gl X cn) (hdb : (cn == ("__debug__" : Str)) = false)
    (hpl : (backTo pos (starEach [] X.env)).any (·.1) = false := by rfl) :
    PMk X (.Call (.Name cn p) [] [] pos) (tMk0 C) := by
  intro pins s σ H Q I h
  have hlim := I.nolimit
  have kin := I.kIn
  obtain ⟨hp, g, dr, tk, os⟩ := s
  refine wpAny_Call_Name_kw (ld_glob I hg T.gC ?_ hdb)
  refine PySem.W.callWith_K0 I.kIn T.kC (wpAny_call (PySem.Er0.made0 T kin hlim (by have := hr.dp; omega) fun h' tk' e M => ?_))
  show MkP X pins σ Q (.ref e) ⟨h', g, dr, tk', os⟩
  obtain ⟨oe, fv, hoe, hc, hd, hdat, h1⟩ := M.obj
  obtain ⟨G', g1, g2⟩ := restrict h' fun b => decide (b ≠ e)
  have gk : ∀ b, b ≠ e → G'.get? b = h'.get? b := fun b hb => g1 b (decide_eq_true hb)
  have ge : G'.get? e = none := g2 e (by simp)
  have old : ∀ b o, hp.get? b = some o → G'.get? b = some o := fun b o q => (gk b (Nat.ne_of_lt (Nat.lt_of_lt_of_le (Heap.lt_size q) M.new))).trans (M.keep b o q)
  have J : Inv X pins σ H ⟨G', g, dr, tk', os⟩ := I.kept (t' := tk') old
  refine ⟨e, oe, fv, ⟨G', g, dr, tk', os⟩, H, .ref C, none, rfl, J, fun b o q => ?_, ge, hoe, ⟨hc, hd⟩, hdat, h1, I.hok.fresh M.new, rfl, I.bare, raises_own T.exC T.tyC, h⟩
  by_cases hb : b = e
  · have q' : G'.get? b = some o := q
    rw [hb, ge] at q'
    cases q'
  · exact (gk b hb).symm.trans q
/-- raise C() -/
def tRaise0 (C : Addr) (W : WX) : TS := fun _ σ H => tMk0 C σ H fun cls d H' => W cls d σ H'
theorem ps_raise0 {W : WX} {p pos pos2 : Pos} {k : Nat} (hc : X.calm = true) (T : PySem.Er0.ErTxt X.K X.mg cn qn C fI) (hr : Room k X.A) (tk : Takes X W) (hg : Gl X cn) (hdb : (cn == ("__debug__" : Str)) = false)
    (hpl : (backTo pos (starEach [] X.env)).any (·.1) = false := by rfl) :
    PS X (.Raise (some (.Call (.Name cn p) [] [] pos)) none pos2) (tRaise0 C W) := ps_raise hc tk (pmk_0 T hr hg hdb hpl)
end
end L2
set_option maxRecDepth 100000
set_option maxHeartbeats 2000000
/-! an exception that is caught and given back: try: .. except X as n: return n -/
namespace L2
open PySem PySem.Spec PyProof.Rows
/-- an exception object of a class, with its dict, at an address -/
def XH (cls : Value) (d : Option Addr) (a : Addr) : HO := .ext fun h => ∃ (oe : Obj) (vs : Array Value), h.get? a = some oe ∧ Zc cls d oe ∧ oe.data = .fields vs
theorem xh_ok {P : Program} {w : World} {H : Hp} {h : Heap} {a : Addr} {cls : Value} {d : Option Addr} {oe : Obj} {vs : Array Value} (e : h.get? a = some oe) (z : Zc cls d oe) (q : oe.data = .fields vs) : ObjOk P w H h a (XH cls d a) :=
  ⟨⟨oe, vs, e, z, q⟩, ⟨oe, e⟩, fun _ _ ⟨o, v, y, r⟩ k => ⟨o, v, k o y, r⟩⟩
/-- what such a try wishes of an exception of its body -/
def wRet (K : PySem.W.Frag) (c : Value) (D : Ends) : WX := fun cls d σ H => PySem.W.exmOne K cls c = some true ∧ ∀ a, H a = none → D.rt (.ref a) (upd H a (XH cls d a))
section
variable {X : Cx} {pins : List (Addr × Obj)} {σ : St} {H : Hp} {s : Shared}
/-- an object that stands and is not tracked yet, and was not there at the entry, is tracked -/
theorem Inv.track {a : Addr} {cls : Value} {d : Option Addr} {oe : Obj} {vs : Array Value} (I : Inv X pins σ H s) (ha : s.heap.get? a = some oe) (z : Zc cls d oe) (q : oe.data = .fields vs) (hn : H a = none) (h0 : X.s_0.heap.get? a = none)
    (nl : a ≠ X.env.locals) (np : ∀ p ∈ X.pn ++ pins, p.1 ≠ a) : Inv X pins σ (upd H a (XH cls d a)) s := by
  have B := I.base
  refine ⟨I.ok, I.os, I.bare, ⟨B.keep, B.slot, fun b o e n hx => ?_, B.there, fun b xs e => ?_, fun b o u e => ?_, fun b ps e => ?_⟩, I.loc, I.cell, ?_, fun x c e => ?_, fun p hp => ?_, HOk.laidN I.hok (fun _ _ e => e) hn (xh_ok ha z q), I.len⟩
  · have nb : b ≠ a := fun y => by
      rw [y, h0] at e
      cases e
    rw [upd_ne nb]
    exact B.free b o e n hx
  · have y := B.tups b xs e
    rw [upd_ne (ne_of_none y hn)]
    exact y
  · have y := B.frzs b o u e
    rw [upd_ne (ne_of_none y hn)]
    exact y
  · obtain ⟨more, y⟩ := B.tbls b ps e
    refine ⟨more, ?_⟩
    rw [upd_ne (ne_of_none y hn)]
    exact y
  · rw [upd_ne (Ne.symm nl)]
    exact I.free
  · obtain ⟨v, w⟩ := I.cell x c e
    have nc : c ≠ a := fun y => by
      obtain ⟨oc, w1, w2⟩ := w
      rw [y, ha] at w1
      have w3 := Option.some.inj w1
      rw [← w3, q] at w2
      cases w2
    rw [upd_ne nc]
    exact I.freeC x c e
  · obtain ⟨e, n, r⟩ := I.pin p hp
    refine ⟨e, ?_, r⟩
    rw [upd_ne (np p hp)]
    exact n
end
section
variable {X : Cx} {x n : Str} {c : Value} {i : Nat} {body : List Stmt} {ep rp rpos pos pos' : Pos} {tb : WX → TS}
theorem ps_try_ret (hs : X.stack = X.env :: X.outer) (hf : X.env.frame = some X.env.locals) (hex : X.ex = []) (hN : X.N.Nodup) (hi : X.N[i]? = some n) (hln : X.env.kindOf n = some .local) (hc : Names X x c) (hd0 : (n == ("__debug__" : Str)) = false) (hd1 : (n == ("__classdict__" : Str)) = false)
    (hb : ∀ (W : WX) (pn : List (Addr × Obj)) (xe : Value → Shared → Prop), Takes (X.tr pn xe) W → PassesOwn (model X.prog X.w) X.A X.env xe → PSs (X.tr pn xe) body (tb W)) :
    PS X (.Try body [.ExceptHandler (some (.Name x ep)) (some n) [.Return (some (.Name n rp)) rpos] pos'] [] [] pos) (fun D σ H => tb (wRet X.K c D) D σ H) := by
  refine ⟨fun pins s σ H D I h => ?_⟩
  have fr : X.A.frames = some (X.env :: X.outer) := by
    rw [I.ok.frames, hs]
  have run := (hb (wRet X.K c D) (X.pn ++ pins) (fun e s₁ => wpAny (model X.prog X.w) X.A (noteFrame e X.env) (fun _ s₂ => wpAny (model X.prog X.w) X.A (setFlight e none)
    (fun _ s₃ => wpAny (model X.prog X.w) X.A (handleBy e X.env [.ExceptHandler (some (.Name x ep)) (some n) [.Return (some (.Name n rp)) rpos] pos']) (SP X pins D) X.xe s₃) X.xe s₂) X.xe s₁)
    (fun u s' caught => ?_) PassesOwn.looking).run [] s σ H D (I.toTry _) h
  · refine wpAny_Try_except (wpAny_mono run (fun f s1 sp => ?_) fun _ _ y => y)
    cases f with
    | next =>
      obtain ⟨σ', H', J, y⟩ := sp
      exact wpAny_execs_nil ⟨σ', H', J.ofTry I.ok, y⟩
    | brk =>
      obtain ⟨σ', H', J, y⟩ := sp
      exact ⟨σ', H', J.ofTry I.ok, y⟩
    | cont =>
      obtain ⟨σ', H', J, y⟩ := sp
      exact ⟨σ', H', J.ofTry I.ok, y⟩
    | ret u =>
      obtain ⟨v, σ', H', J, r, y⟩ := sp
      exact ⟨v, σ', H', J.ofTry I.ok, r, y⟩
  · obtain ⟨a, B, sI, pins', σ', H', cls, d, rfl, J', nb, up, sky, na, os, ag, hm, hw⟩ := caught
    have ok := I.ok
    have J : Inv X pins σ' H' sI := J'.ofTry ok
    have sky2 : Sky B (X.env :: X.outer) a (Zc cls d) X.env.locals s'.heap := hs ▸ sky
    show wpAny (model X.prog X.w) X.A (noteFrame (.ref a) X.env) _ _ _
    refine Sky.land Zc.steady fr hf sky2 fun h3 fly up3 => ?_
    have K3 : Inv X pins σ' H' { s' with heap := h3 } := J.landed nb fly.1 (up.trans up3) os ag
    obtain ⟨oe3, vs3, he3, hz3, hd3⟩ := fly.there
    -- it is none of the frames, and was not there before
    have out : a ∉ frs (X.env :: X.outer) := fun m => by
      obtain ⟨_, o', e', no⟩ := fly.2.2.1.mem m
      rw [he3] at e'
      cases e'
      exact no _ hd3
    have nl : a ≠ X.env.locals := fun y => out (List.mem_filterMap.mpr ⟨X.env, List.mem_cons_self, by rw [hf, y]⟩)
    have nF : a ∉ X.fs := fun m => by
      obtain ⟨e, he, y⟩ := List.mem_filterMap.mp m
      exact out (List.mem_filterMap.mpr ⟨e, List.mem_cons_of_mem _ he, y⟩)
    have newI : sI.heap.get? a = none := by
      cases e : sI.heap.get? a with
      | none => rfl
      | some o =>
        have y := nb a o e (show a ∉ frs X.stack by rw [hs]; exact out)
        rw [fly.2.1] at y
        cases y
    have new0 : X.s_0.heap.get? a = none := by
      cases e : X.s_0.heap.get? a with
      | none => rfl
      | some o =>
        obtain ⟨o', y⟩ := J.base.there a o e (by rw [hex]; simp)
        rw [newI] at y
        cases y
    have np : ∀ p ∈ X.pn ++ pins, p.1 ≠ a := fun p hp y => by
      have z := (J.pin p hp).1
      rw [y, newI] at z
      cases z
    have S3 := K3.suite he3 hd3 na nl nF
    refine wpAny_handleBy_cons (codeAny_handlers_test ?_) (by intro y; cases y)
    have LT : PySem.W.Looks (model X.prog X.w) h3 (typeOf (.ref a)) cls := fun A Q E s k y => wpAny_typeOf_ref (k _ _ he3) (by rw [hz3.1]; exact y)
    have LM := PySem.W.exm_one (M := model X.prog X.w) (K3.kIn) LT hm
    have test : ∀ {Q : Value → Shared → Prop} {E : Value → Shared → Prop}, Q c { s' with heap := h3 } → wpAny (model X.prog X.w) (X.A.mark (some (.ref a))) (eval (.Name x ep) X.env) Q E { s' with heap := h3 } := fun {Q E} y => by
      obtain ⟨g1, g2, g3 | ⟨g3, g4, g5⟩⟩ := hc
      · exact ld_glob (X := X.suite a ((a, oe3) :: (X.pn ++ pins))) S3 g1 g3 y g2
      · exact ld_blt (X := X.suite a ((a, oe3) :: (X.pn ++ pins))) S3 g1 g3 g4 y g5 g2
    refine test (LM.here (codeAny_handlers_suite_as ?_))
    refine HandSPX.lands_againZ fly fun h4 fly4 up4 => ?_
    have K4 : Inv X pins σ' H' { s' with heap := h4 } := J.landed nb fly4.1 ((up.trans up3).trans up4) os ag
    obtain ⟨oe4, vs4, he4, hz4, hd4⟩ := fly4.there
    have S4 := K4.suite he4 hd4 na nl nF
    refine store_ok (X := X.suite a ((a, oe4) :: (X.pn ++ pins))) (v := .ref a) S4 hN hi (.inl hln) rfl (fun s5 S5 => ?_) (.inr hln)
    have li : i < σ'.length := by
      rw [J.len]
      exact (List.getElem?_eq_some_iff.mp hi).1
    have row : PSs (X.suite a ((a, oe4) :: (X.pn ++ pins))) [.Return (some (.Name n rp)) rpos] (tRet (tVar i)) := pss_one (ps_ret (pe_var (X := X.suite a ((a, oe4) :: (X.pn ++ pins))) hi (.inl hln) hd0 hd1))
    refine wpAny_mono (row.run [] s5 _ H' ⟨fun _ _ => False, fun v H2 => v = .ref a ∧ H2 = H', fun _ _ => False, fun _ _ => False⟩ S5 ⟨_, by rw [List.getElem?_set_self li], rfl, rfl⟩) (fun f s6 sp => ?_) (fun _ _ y => False.elim y)
    cases f with
    | next =>
      obtain ⟨_, _, _, y⟩ := sp
      exact False.elim y
    | brk =>
      obtain ⟨_, _, _, y⟩ := sp
      exact False.elim y
    | cont =>
      obtain ⟨_, _, _, y⟩ := sp
      exact False.elim y
    | ret u =>
      obtain ⟨v6, σ6, H6, S6, r6, e1, e2⟩ := sp
      subst e1 e2
      obtain rfl : u = Value.ref a := r6
      refine gone_ok (X := X.suite a ((a, oe4) :: (X.pn ++ pins))) S6 hN hi hln fun s7 S7 => ?_
      obtain ⟨at7, _⟩ := S7.pin (a, oe4) (List.mem_append_left _ List.mem_cons_self)
      exact ⟨.ref a, _, _, (S7.unsuite ok).track at7 hz4 hd4 na new0 nl np, rfl, hw a na⟩
end
end L2
set_option maxRecDepth 100000
set_option maxHeartbeats 2000000
/-! exceptions that are held as values: isinstance, fields, made -/
namespace L2
open PySem PySem.Spec PyProof.Rows
/-- a value's type, an exception's too -/
inductive TyE (K : PySem.W.Frag) (H : Hp) : V → Value → Prop where
  | base {x : V} {t : Value} (h : TyX K H x t) : TyE K H x t
  | bare {a D : Addr} (e : H a = some (XH (.ref D) none a)) (c : ExcC K D) : TyE K H (.ref a) (.ref D)
  | full {a D dd : Addr} {fs : List (Str × V)} (e : H a = some (XH (.ref D) (some dd) a)) (ed : H dd = some (.xd fs)) (c : ExcC K D) : TyE K H (.ref a) (.ref D)
section
variable {X : Cx} {pins : List (Addr × Obj)} {σ : St} {H : Hp} {s : Shared}
theorem xh_at {a : Addr} {cls : Value} {d : Option Addr} (I : Inv X pins σ H s) (e : H a = some (XH cls d a)) : ∃ (oe : Obj) (vs : Array Value), s.heap.get? a = some oe ∧ Zc cls d oe ∧ oe.data = .fields vs := by
  have y : ObjOk X.prog X.w H s.heap a (XH cls d a) := I.hok a _ e
  exact y.1
theorem kitx_held {a D : Addr} {oe : Obj} {od : Option Obj} (c : ExcC X.K D) : PySem.W.KitX X.K (.ref a) (.ref D) (fun h => PySem.W.InstAt h a oe D od) := by
  refine PySem.W.kitx_exc ?_ c.hg c.hk c.hs c.ha c.hn c.ht c.hm
  have y := c.hd
  unfold PySem.W.hasDictIn at y
  cases z : PySem.W.clsIn X.K D with
  | none => rw [z] at y; cases y
  | some cd => rfl
theorem kit_ofE {x : V} {u t : Value} (I : Inv X pins σ H s) (rx : RelV x u) (ty : TyE X.K H x t) : ∃ P : Heap → Prop, PySem.W.KitX X.K u t P ∧ P s.heap ∧ u ≠ .builtin "__main__.__loader__#opaque" := by
  cases ty with
  | base h => exact kit_of I rx h
  | @bare a D e c =>
    cases (show u = Value.ref a from rx)
    obtain ⟨oe, vs, h1, h2, h3⟩ := xh_at I e
    exact ⟨_, kitx_held (od := none) c, ⟨h1, h2.1, by unfold PySem.W.notCls; rw [h3] <;> rfl, by rw [h2.2]; exact True.intro⟩, fun z => nomatch z⟩
  | @full a D dd fs e ed c =>
    cases (show u = Value.ref a from rx)
    obtain ⟨oe, vs, h1, h2, h3⟩ := xh_at I e
    obtain ⟨mA, hns, _⟩ := (show ObjOk X.prog X.w H s.heap dd (.xd fs) from I.hok dd _ ed)
    obtain ⟨od, ho, _⟩ := lookIn_ns hns
    exact ⟨_, kitx_held (od := some od) c, ⟨h1, h2.1, by unfold PySem.W.notCls; rw [h3] <;> rfl, by rw [h2.2]; exact ho⟩, fun z => nomatch z⟩
end
/-- isinstance(x, c), one class, x an exception perhaps -/
def rIsiE (K : PySem.W.Frag) : List V → Hp → VK → Prop := fun xs H Q => ∃ (x c : V) (t u : Value) (b : Bool), xs = [x, c] ∧ ClsV c u ∧ TyE K H x t ∧ PySem.W.kitOne K t u = some b ∧ Q (.bl b) H
section
variable {X : Cx}
theorem call_isiE : CallR X (.builtin "isinstance") (rIsiE X.K) := by
  intro pins s σ H xs us Q I r h
  obtain ⟨x, c, t, u, b, rfl, k, ty, e, q⟩ := h
  obtain ⟨u1, u2, rfl, r1, r2⟩ := vals2 r
  obtain rfl := k.eq r2
  obtain ⟨P, Z, p, hx⟩ := kit_ofE I r1 ty
  exact PySem.W.kia_one Z I.kIn p e hx fun tk => ⟨.bl b, H, I.tok tk, rfl, q⟩
/-- e.f, e an exception that is held -/
def tXh (K : PySem.W.Frag) (f : Str) (te : TE) : TE := fun σ H Q => te σ H fun x H1 => ∃ (a C dd : Addr) (fs : List (Str × V)) (v : V), x = .ref a ∧ XfC K C ∧ PySem.W.findIn K (.ref C) f = some none ∧ H1 a = some (XH (.ref C) (some dd) a) ∧ H1 dd = some (.xd fs) ∧ fs.lookup f = some v ∧ Q v H1
theorem pe_xh {e : Expr} {te : TE} {pos : Pos} {f : Str} (he : PE X e te) (hb : attributeBase e f X.env (eval e X.env) = eval e X.env := by rfl) : PE X (.Attribute e f pos) (tXh X.K f te) := by
  refine ⟨fun pins s σ H Q I h => ?_⟩
  refine attr_of hb (thn (he.run pins s σ H _ I h) fun u s1 hh => ?_)
  obtain ⟨x, H1, I1, rx, a, C, dd, fs, v, rfl, T, hno, ea, ed, l, q⟩ := hh
  cases (show u = Value.ref a from rx)
  obtain ⟨oe, vs, h1, h2, h3⟩ := xh_at I1 ea
  obtain ⟨mA, hns, hr⟩ := (show ObjOk X.prog X.w H1 s1.heap dd (.xd fs) from I1.hok dd _ ed)
  obtain ⟨od, ho, hl⟩ := lookIn_ns hns
  obtain ⟨w, hw, rw'⟩ := RelO.some_of (v := v) (o := mA f) (by rw [← l]; exact hr f)
  have J : PySem.W.InstAt s1.heap a oe C (some od) := ⟨h1, h2.1, by unfold PySem.W.notCls; rw [h3] <;> rfl, by rw [h2.2]; exact ho⟩
  exact HandSPX.exc_get I1.kIn J T.ga T.gg T.exC (PySem.W.findObj_own T.hdC hno rfl (by rw [hl, hw])) (handed_of rw') ⟨v, H1, I1.tok _, rw', q⟩
/-- C(), an error without a field, as a value -/
def tErr0 (C : Addr) : TE := fun _ H Q => ∀ e, H e = none → Q (.ref e) (upd H e (XH (.ref C) none e))
theorem pe_err0 {cn qn : Str} {C fI : Addr} {p pos : Pos} {k : Nat} (T : PySem.Er0.ErTxt X.K X.mg cn qn C fI) (hr : Room k X.A) (hg : Gl X cn) (hdb : (cn == ("__debug__" : Str)) = false) : PE X (.Call (.Name cn p) [] [] pos) (tErr0 C) := by
  refine ⟨fun pins s σ H Q I h => ?_⟩
  have hlim := I.nolimit
  have kin := I.kIn
  obtain ⟨hp, g, dr, tk, os⟩ := s
  refine wpAny_Call_Name_kw (ld_glob I hg T.gC ?_ hdb)
  refine PySem.W.callWith_K0 I.kIn T.kC (wpAny_call (PySem.Er0.made0 T kin hlim (by have := hr.dp; omega) fun h' tk' e M => ?_))
  obtain ⟨oe, fv, hoe, hc, hd, hdat, h1⟩ := M.obj
  exact ⟨.ref e, _, I.laid (t' := tk') M.keep M.new (xh_ok hoe ⟨hc, hd⟩ hdat), rfl, h e (I.hok.fresh M.new)⟩
end
end L2
set_option maxRecDepth 100000
set_option maxHeartbeats 2000000
/-! isinstance of the exception that a suite holds, with its fields -/
namespace L2
open PySem PySem.Spec PyProof.Rows
def rIsE2 (K : PySem.W.Frag) (a : Addr) (cls : Value) (d : Option Addr) : List V → Hp → VK → Prop := fun xs H Q => ∃ (D dd : Addr) (fs : List (Str × V)) (c : V) (cv : Value) (b : Bool), cls = .ref D ∧ d = some dd ∧ ExcC K D ∧ H dd = some (.xd fs) ∧ xs = [.ref a, c] ∧ ClsV c cv ∧ PySem.W.kitOne K (.ref D) cv = some b ∧ Q (.bl b) H
theorem call_isE2 {X : Cx} {a : Addr} {oe : Obj} {cls : Value} {d : Option Addr} {pn : List (Addr × Obj)} (hz : Zc cls d oe) (hf : ∃ vs, oe.data = .fields vs) : CallR (X.suite a ((a, oe) :: pn)) (.builtin "isinstance") (rIsE2 X.K a cls d) := by
  intro pins s σ H xs us Q I r h
  obtain ⟨D, dd, fs, c, cv, b, rfl, rfl, cc, ed, rfl, k, e, q⟩ := h
  obtain ⟨u1, u2, rfl, r1, r2⟩ := vals2 r
  obtain rfl := k.eq r2
  cases (show u1 = Value.ref a from r1)
  obtain ⟨hget, _⟩ := I.pin (a, oe) (List.mem_append.mpr (.inl List.mem_cons_self))
  obtain ⟨vs, hv⟩ := hf
  obtain ⟨mA, hns, _⟩ := (show ObjOk X.prog X.w H s.heap dd (.xd fs) from I.hok dd _ ed)
  obtain ⟨od, ho, _⟩ := lookIn_ns hns
  have J : PySem.W.InstAt s.heap a oe D (some od) := ⟨hget, hz.1, by unfold PySem.W.notCls; rw [hv] <;> rfl, by rw [hz.2]; exact ho⟩
  exact PySem.W.kia_one (kitx_held (X := X) (od := some od) cc) I.kIn J e (fun z => nomatch z) fun tk => ⟨.bl b, H, I.tok tk, rfl, q⟩
/-- what is taken may be wished at slots of the right number alone -/
theorem takes_len {X : Cx} {W : WX} (t : Takes X W) : Takes X (fun c d σ H => σ.length = X.N.length → W c d σ H) := fun u s' ⟨a, B, sI, pins, σ, H, cls, d, e, I, nb, up, sky, na, os, ag, w⟩ =>
  t u s' ⟨a, B, sI, pins, σ, H, cls, d, e, I, nb, up, sky, na, os, ag, w I.len⟩
end L2
set_option maxRecDepth 100000
set_option maxHeartbeats 2000000
/-! such dicts: read, walked, measured -/
namespace NkD
open PySem PySem.Spec PyProof.Rows L2 Fm
open Sem (wp)
def nkOf : Key → NestedKey
  | .inl i => .num i
  | .inr x => .text x
theorem nkOf_inj {a b : Key} (h : nkOf a = nkOf b) : a = b := by
  cases a <;> cases b <;> cases h <;> rfl
/-- what a dict of names and whole numbers holds, told so -/
def lift (kvs : List (Key × V)) : List (NestedKey × V × V) := kvs.map fun p => (nkOf p.1, kV p.1, p.2)
/-- at a stands a dict (a frozen one, perhaps) with these keys and values -/
def DA (w : World) (H : Hp) (a : Addr) (es : List (NestedKey × V × V)) : Prop := (∃ kvs, Rd H a (.dK kvs) ∧ es = lift kvs) ∨ (Rd H a (.ext (rawP w a es)) ∧ KeysN H es)
theorem hash_of {P : Program} {w : World} (k : Key) : (mixKind P w).hash k = (nkOf k).hash w := by
  cases k <;> rfl
theorem pairs_ent {P : Program} {w : World} : ∀ {ar : List DictEntry} {vs : List (Key × Value)} {kvs : List (Key × V)}, Pairs (mixKind P w) ar vs → (∀ e ∈ ar, ∃ k, (mixKind P w).is k e.key = true ∧ e.hash = (mixKind P w).hash k) → KV kvs vs → Paired (EntV w) ar (lift kvs)
  | _, _, _, .nil, _, .nil => .nil
  | _, _, _, .cons h1 h2 t, k, .cons (a := p) h t2 => by
    obtain ⟨hk, hv⟩ := h
    refine .cons ⟨?_, ?_, ?_⟩ (pairs_ent t (fun e he => k e (List.mem_cons_of_mem _ he)) t2)
    · obtain ⟨k', e1, e2⟩ := k _ List.mem_cons_self
      have e3 := (mixKind P w).inj _ _ _ e1 h1
      show _ = (nkOf p.1).hash w
      rw [e2, e3, hash_of, hk]
    · show RelV (kV p.1) _
      rw [hk]
      exact relV_key h1
    · show RelV p.2 _
      rw [h2]
      exact hv
theorem lift_nd {kvs : List (Key × V)} (h : (kvs.map (·.1)).Nodup) : ((lift kvs).map (·.1)).Nodup := by
  have e : (lift kvs).map (·.1) = (kvs.map (·.1)).map nkOf := by unfold lift; rw [List.map_map, List.map_map]; rfl
  rw [e]
  unfold List.Nodup at h ⊢
  rw [List.pairwise_map]
  exact h.imp fun n z => n (nkOf_inj z)
theorem lift_nk {H : Hp} {kvs : List (Key × V)} : ∀ x ∈ lift kvs, NK H x.1 x.2.1 := fun x hx => by
  obtain ⟨⟨k, v⟩, _, rfl⟩ := List.mem_map.mp hx
  cases k with
  | inl i => exact .int i
  | inr y => exact .str y
theorem dk_raw {P : Program} {w : World} {H : Hp} {h : Heap} {a : Addr} {kvs : List (Key × V)} (x : ObjOk P w H h a (.dK kvs)) : rawP w a (lift kvs) h ∧ KeysN H (lift kvs) := by
  obtain ⟨hz, hs, vs, rel, o, ar, ep, ho, hc, hd, hk, hp, nd⟩ := x
  refine ⟨⟨by unfold lift; rw [List.length_map]; exact hz, hs, o, ar, ep, ho, hc, hd, pairs_ent hp (fun e he => hk e (Array.mem_toList_iff.mp he)) rel⟩, lift_nk, lift_nd ?_⟩
  rw [KV.keys rel]
  exact nd
theorem DA.raw {P : Program} {w : World} {H : Hp} {h : Heap} {a : Addr} {es : List (NestedKey × V × V)} (d : DA w H a es) (ok : HOk P w H h) : rawP w a es h ∧ KeysN H es := by
  rcases d with ⟨kvs, r, rfl⟩ | ⟨r, k⟩
  · exact dk_raw (r.ok ok)
  · exact ⟨(r.ok ok).1, k⟩
/-- isinstance's own question of such a dict -/
inductive TyN (w : World) (K : PySem.W.Frag) (H : Hp) : V → Value → Prop where
  | base {x : V} {t : Value} (h : TyE K H x t) : TyN w K H x t
  | raw {a : Addr} {es : List (NestedKey × V × V)} (e : DA w H a es) : TyN w K H (.ref a) (.type "dict")
def rIsiN (w : World) (K : PySem.W.Frag) : List V → Hp → VK → Prop := fun xs H Q => ∃ (x c : V) (t u : Value) (b : Bool), xs = [x, c] ∧ ClsV c u ∧ TyN w K H x t ∧ PySem.W.kitOne K t u = some b ∧ Q (.bl b) H
section
variable {X : Cx} {o i e value : Expr} {pos pos' tpos apos cpos : Pos} {td ty tv : TE}
theorem call_isiN : CallR X (.builtin "isinstance") (rIsiN X.w X.K) := by
  intro pins s σ H xs us Q I r h
  obtain ⟨x, c, t, u, b, rfl, k, ty, e, q⟩ := h
  cases ty with
  | base h => exact call_isiE pins s σ H _ us Q I r ⟨x, c, t, u, b, rfl, k, h, e, q⟩
  | @raw a es d =>
    obtain ⟨u1, u2, rfl, r1, r2⟩ := vals2 r
    obtain rfl := k.eq r2
    cases (show u1 = Value.ref a from r1)
    obtain ⟨⟨_, _, oo, ar, ep, ho, hc, _⟩, _⟩ := d.raw I.hok
    exact PySem.W.kia_one (PySem.W.kitx_dict) I.kIn ⟨oo, ho, hc.1⟩ e (fun z => nomatch z) fun tk => ⟨.bl b, H, I.tok tk, rfl, q⟩
/-- d[y], there -/
def tNGet (w : World) (td ty : TE) : TE := fun σ H Q => td σ H fun x H1 => ty σ H1 fun y H2 => ∃ (a : Addr) (es : List (NestedKey × V × V)) (k : NestedKey) (j : Nat) (ky v : V), x = .ref a ∧ DA w H2 a es ∧ NK H2 k y ∧ es[j]? = some (k, ky, v) ∧ Q v H2
theorem pe_nget (hu : X.A.units + 9 < cLine) (ho : PE X o td) (hi : PE X i ty) (hs : NoSl i) : PE X (.Subscript o i pos) (tNGet X.w td ty) := by
  refine ⟨fun pins s σ H Q I h => ?_⟩
  refine subD_of PySem.F.slot_dict_getitem.lookup hs (thn (ho.run pins s σ H _ I h) fun u s1 ⟨x, H1, I1, rx, q1⟩ => thn (hi.run pins s1 σ H1 _ I1 q1) fun iv s2 ⟨y, H2, I2, ry, a, es, k, j, ky, v, ex, da, nk, he, q2⟩ => ?_)
  subst ex
  obtain rfl : u = Value.ref a := rx
  obtain ⟨hr, kn⟩ := da.raw I2.hok
  exact ⟨hr.typeIs, raw_get hu I2.hok hr kn nk ry he fun w' tk rw' => ⟨v, H2, I2.tok tk, rw', q2⟩⟩
/-- len(d) -/
theorem call_lenN : CallR X (.builtin "len") (fun xs H Q => ∃ a es, xs = [V.ref a] ∧ DA X.w H a es ∧ Q (.int es.length) H) := by
  intro pins s σ H xs us Q I r h
  obtain ⟨a, es, rfl, d, q⟩ := h
  obtain ⟨u, rfl, ru⟩ := r.one
  cases (show u = Value.ref a from ru)
  obtain ⟨⟨hz, hs, oo, ar, ep, ho, hc, hd, hp⟩, _⟩ := d.raw I.hok
  have e : ar.size = es.length := by rw [← Array.length_toList]; exact paired_len hp
  have hT : s.TypeIs (.ref a) "dict" := ⟨oo, ho, hc.1⟩
  have big : ((ar.size : Nat) : Int) < 2 ^ 63 := by
    have b2 := sizeLine_eq
    omega
  refine Calls.call_function_entry kind_len plain_len entry_len (args_len1 _) ?_
  unfold Builtin.«len»
  refine wpAny_bind (m := oneArg "len" _) (wpAny_pure (wpAny_bind (m := callSpecial? (.ref a) (Str.ofString "__len__")) ?_))
  refine wpAny_callSpecial?_slot (name := Str.ofString "__len__") hT F.slot_dict_len (call_meetsIn F.slot_dict_len hT F.entry_dict_len (F.args_dict_len_1 _) (meets_dict_len_raw a hs) ⟨ar, ep, ⟨oo, ho, hc, hd⟩, ?_⟩)
  refine wpAny_bind (wpAny_holding (wpAny_pure (wpAny_bind (wpAny_letGo ?_))))
  show wpAny _ _ (if ((ar.size : Nat) : Int) < 0 then _ else if ((ar.size : Nat) : Int) ≥ 2 ^ 63 then _ else _) _ _ _
  rw [if_neg (by omega), if_neg (by omega)]
  refine wpAny_bind (wpAny_mkInt (wpAny_pure ⟨_, rfl, ?_⟩))
  rw [e]
  exact ⟨.int es.length, H, I.tok _, ⟨_, rfl⟩, q⟩
/-! walks -/
def Itkn (w : World) (d : Addr) (o : Obj) (es : List (NestedKey × V × V)) : It :=
  ⟨fun i H => H d = some (.frz o (.ext (rawP w d es))) ∧ i < es.length, fun i H x H' => H' = H ∧ ∃ k v, es[i]? = some (k, x, v), fun i H => H d = some (.frz o (.ext (rawP w d es))) ∧ es.length ≤ i⟩
def Itin (w : World) (d : Addr) (o : Obj) (es : List (NestedKey × V × V)) : It :=
  ⟨fun i H => H d = some (.frz o (.ext (rawP w d es))) ∧ i < es.length, fun i H x H' => ∃ T k ky v, es[i]? = some (k, ky, v) ∧ x = .ref T ∧ H T = none ∧ H' = upd H T (.tup [ky, v]), fun i H => H d = some (.frz o (.ext (rawP w d es))) ∧ es.length ≤ i⟩
theorem frzN {pins : List (Addr × Obj)} {σ : L2.St} {H : Hp} {s : Shared} {w : World} {d : Addr} {o : Obj} {es : List (NestedKey × V × V)} (I : Inv X pins σ H s) (h : H d = some (.frz o (.ext (rawP w d es)))) :
    (d == sysModules) = false ∧ s.heap.get? d = some o ∧ o.ExactDict ∧ ∃ ar ep, o.data = .dict ar ep ∧ ar.size = es.length ∧ Paired (EntV w) ar.toList es := by
  obtain ⟨e, ⟨_, hs, o', ar, ep, ho, hc, hd, hp⟩, _⟩ := I.hok d _ h
  obtain rfl : o' = o := Option.some.inj (ho.symm.trans e)
  exact ⟨hs, e, hc, ar, ep, hd, by rw [← Array.length_toList]; exact paired_len hp, hp⟩
theorem turn_keysN {P : Program} {w : World} {K : PySem.W.Frag} {tg : Expr} {d : Addr} {o : Obj} {ar : Array DictEntry} {ep : Nat} {es : List (NestedKey × V × V)} (it : Addr) (hod : o.data = .dict ar ep) :
    Turn P w K tg (Itkn w d o es) [it] it (fun i h => h.IsKeyIter it d i es.length ep) where
  mem := List.mem_singleton_self _
  obj := fun i h st b hb => by
    rw [List.mem_singleton.mp hb]
    obtain ⟨oi, e, c, dd⟩ := st
    exact ⟨oi, e, fun v z => nomatch dd.symm.trans z⟩
  keep := fun i h h' st k => st.at fun oi e => k it (List.mem_singleton_self _) oi e
  item := by
    intro X hP hw hK hc i pins s σ H E I hf st hg
    subst hP hw hK
    obtain ⟨f0, f1, f2, f3, f4, f5⟩ := hf it (List.mem_singleton_self _)
    obtain ⟨hs, hgd, hx, ar', ep', hdt, hsz, hp⟩ := frzN I hg.1
    obtain ⟨rfl, rfl⟩ := dict_ep hod hdt
    obtain ⟨⟨k, ky, v⟩, hkv⟩ : ∃ p, es[i]? = some p := ⟨es[i]'hg.2, List.getElem?_eq_getElem hg.2⟩
    obtain ⟨en, hen, _, rk, _⟩ := paired_r hp hkv
    refine next_key_item st hgd hdt hsz (by rw [← Array.getElem?_toList]; exact hen) fun h' st' sb => ?_
    have I1 : Inv X pins σ H { s with heap := h' } := I.turned (t' := s.toks) (fun b ob hb e => (sb.2 b hb).trans e) f0 f1 f3 f4 f5
    obtain ⟨oi, e, c, dd⟩ := id st'
    exact ⟨en.key, rfl, go_of (s := { s with heap := h' }) e c dd (by decide) ⟨ky, H, I1, rk, ⟨rfl, k, v, hkv⟩, st', fun b hb => (hf b hb).1⟩⟩
  done := by
    intro X hP hw hK hc i pins s σ H E I hf st hg
    subst hP hw hK
    obtain ⟨f0, f1, f2, f3, f4, f5⟩ := hf it (List.mem_singleton_self _)
    obtain ⟨hs, hgd, hx, ar', ep', hdt, hsz, hp⟩ := frzN I hg.1
    obtain ⟨rfl, rfl⟩ := dict_ep hod hdt
    exact next_key_end (I.ok.hd hc) st hgd hdt hsz hg.2 fun h' eb => ⟨rfl, I.turned (t' := s.toks) (fun b ob hb e => eb b ob hb e) f0 f1 f3 f4 f5⟩
  self := fun A i s Q E st h => by
    refine wpAny_pyIter_slot st.typeIs F.slot_dict_keyiterator_iter (wpAny_call_entry F.slot_dict_keyiterator_iter st.typeIs F.entry_dict_keyiterator_iter ?_ (F.args_dict_keyiterator_iter_1 _))
    show wpAny _ _ (ret (.ref it)) _ _ s
    exact wpAny_pure ⟨_, rfl, "dict_keyiterator", _, st.typeIs, F.slot_dict_keyiterator_next.lookup, h⟩
theorem turn_itemsN {P : Program} {w : World} {K : PySem.W.Frag} {d : Addr} {o : Obj} {ar : Array DictEntry} {ep : Nat} {es : List (NestedKey × V × V)} {elts : List Expr} {kk : Nat} {tpos : Pos} (it : Addr) (hod : o.data = .dict ar ep) :
    Turn P w K (.Tuple elts kk tpos) (Itin w d o es) [it] it (fun i h => ∃ ok ov, IsItemIter h it d i es.length ep ok ov) where
  mem := List.mem_singleton_self _
  obj := fun i h st b hb => by
    rw [List.mem_singleton.mp hb]
    obtain ⟨ok, ov, e⟩ := st
    exact ⟨_, e, fun v z => nomatch z⟩
  keep := fun i h h' st k => let ⟨ok, ov, e⟩ := st; ⟨ok, ov, k it (List.mem_singleton_self _) _ e⟩
  item := by
    intro X hP hw hK hc i pins s σ H E I hf st hg
    subst hP hw hK
    obtain ⟨hs, hgd, hx, ar', ep', hdt, hsz, hp⟩ := frzN I hg.1
    obtain ⟨rfl, rfl⟩ := dict_ep hod hdt
    obtain ⟨⟨k, ky, v⟩, hkv⟩ : ∃ p, es[i]? = some p := ⟨es[i]'hg.2, List.getElem?_eq_getElem hg.2⟩
    obtain ⟨en, hen, _, rk, rv⟩ := paired_r hp hkv
    obtain ⟨ok, ov, he⟩ := st
    rw [← hsz] at he
    have hlt : it < s.heap.objs.size := Heap.lt_size he
    have hi2 : i < ar'.size := by rw [hsz]; exact hg.2
    have hen2 : ar'[i] = en := by
      have z : ar'[i]? = some en := by rw [← Array.getElem?_toList]; exact hen
      rw [Array.getElem?_eq_getElem hi2] at z
      exact Option.some.inj z
    refine DT.nextI (es := ar') he ⟨o, hgd, hx, hdt⟩ hi2 fun h' ho hT hz hk => ?_
    rw [hen2] at ho hT
    refine ⟨_, rfl, wpAny_letOwnedTupleGo_items (s := { s with heap := h' }) ho fun h'' he' sb => ?_⟩
    have hT2 : h''.get? s.heap.objs.size = some { cls := .type "tuple", data := .seq #[en.key, en.val] } := (sb.2 _ (Nat.ne_of_gt hlt)).trans hT
    have new : ObjOk X.prog X.w (upd H s.heap.objs.size (.tup [ky, v])) h'' s.heap.objs.size (.tup [ky, v]) := ⟨by show 2 ≤ sizeLine; decide, [en.key, en.val], .cons rk (.cons rv .nil), ⟨_, hT2, rfl, _, rfl⟩⟩
    have I1 : Inv X pins σ (upd H s.heap.objs.size (.tup [ky, v])) { s with heap := h'' } :=
      I.turnedNew (t' := s.toks) (ch := [it]) (fun b ob hb e => (sb.2 b (fun z => hb (List.mem_singleton.mpr z))).trans (hk b ob (fun z => hb (List.mem_singleton.mpr z)) e)) hf (Nat.le_refl _) new
    refine ⟨.ref s.heap.objs.size, _, I1, rfl, ⟨_, k, ky, v, hkv, rfl, I.hok.fresh (Nat.le_refl _), rfl⟩, ⟨en.key, en.val, ?_⟩, fun b hb => ?_⟩
    · rw [← hsz]
      exact he'
    · rw [List.mem_singleton.mp hb, upd_ne (Nat.ne_of_lt hlt)]
      exact (hf it (List.mem_singleton_self _)).1
  done := by
    intro X hP hw hK hc i pins s σ H E I hf st hg
    subst hP hw hK
    obtain ⟨f0, f1, f2, f3, f4, f5⟩ := hf it (List.mem_singleton_self _)
    obtain ⟨hs, hgd, hx, ar', ep', hdt, hsz, hp⟩ := frzN I hg.1
    obtain ⟨rfl, rfl⟩ := dict_ep hod hdt
    obtain ⟨ok, ov, he⟩ := st
    rw [← hsz] at he
    exact DT.endI (es := ar') (I.ok.hd hc) he ⟨o, hgd, hx, hdt⟩ (by rw [hsz]; exact hg.2) fun h' eb => ⟨rfl, I.turned (t' := s.toks) (fun b ob hb e => eb b ob hb e) f0 f1 f3 f4 f5⟩
  self := fun A i s Q E st h => let ⟨_, _, e⟩ := st; PySem.W.kcp_self e h

/-- the dict is locked (pe_lock) -/
def iKeysN (w : World) (td : TE) : TI := fun σ H R => td σ H fun x H1 => ∃ d o es, x = .ref d ∧ H1 d = some (.frz o (.ext (rawP w d es))) ∧ R (Itkn w d o es) H1
def iItemsN (w : World) (td : TE) : TI := fun σ H R => td σ H fun x H1 => ∃ d o es, x = .ref d ∧ H1 d = some (.frz o (.ext (rawP w d es))) ∧ R (Itin w d o es) H1
theorem pi_keysN {tg : Expr} (he : PE X e td) : PI X tg e (iKeysN X.w td) := by
  refine ⟨fun pins s σ H R I h => ?_⟩
  refine thn (he.run pins s σ H _ I h) fun u s1 ⟨x, H1, I1, rx, d, oo, es, ex, hd, q⟩ => ?_
  subst ex
  obtain rfl : u = Value.ref d := rx
  obtain ⟨hs, hgd, hx, ar, ep, hdt, hsz, hp⟩ := frzN I1 hd
  refine iter_keys hs hgd hx hdt (pi_one (tk := s1.toks) I1 _ (turn_keysN _ hdt) ⟨_, Heap.get?_push_size _ rfl, rfl, ?_⟩ q)
  rw [hsz] <;> rfl
theorem pi_itemsN {elts : List Expr} {kk : Nat} {tpos : Pos} (he : PE X e td) (hbase : attributeBase e "items" X.env (eval e X.env) = eval e X.env := by rfl) (hline : (apos.endLine == cpos.line) = true := by rfl) :
    PI X (.Tuple elts kk tpos) (.Call (.Attribute e "items" apos) [] [] cpos) (iItemsN X.w td) := by
  refine ⟨fun pins s σ H R I h => ?_⟩
  refine wpAny_Call_method (T := "dict") (id := "dict.items") hbase rfl hline F.plainAttrs_dict F.slot_dict_items F.type_dict_items (thn (he.run pins s σ H _ I h) fun u s1 ⟨x, H1, I1, rx, d, oo, es, ex, hd, q⟩ => ?_)
  subst ex
  obtain rfl : u = Value.ref d := rx
  obtain ⟨hs, hgd, hx, ar, ep, hdt, hsz, hp⟩ := frzN I1 hd
  have hT : s1.TypeIs (.ref d) "dict" := ⟨oo, hgd, hx.1⟩
  refine ⟨hT, fun b z => by cases z; exact ⟨oo, hgd, hx.2.1⟩, ?_⟩
  have I2 : Inv X pins σ H1 { s1 with heap := s1.heap.push { cls := .type "dict_items", data := .fields #[.ref d] } } := I1.kept (t' := s1.toks) fun b ob q => Heap.get?_push_of_some _ q
  have fin : wpAny (model X.prog X.w) X.A (pyIter (.ref s1.heap.objs.size)) (PIE X pins σ (.Tuple elts kk tpos) R) X.xe { s1 with heap := s1.heap.push { cls := .type "dict_items", data := .fields #[.ref d] } } := by
    refine DT.iterI (d := d) (es := ar) (ep := ep) ⟨_, Heap.get?_push_size _ rfl, rfl, rfl⟩ ⟨oo, Heap.get?_push_of_some _ hgd, hx, hdt⟩ (pi_one (tk := s1.toks) I2 _ (turn_itemsN _ hdt) ⟨.none, .none, ?_⟩ q)
    rw [hsz]
    exact Heap.get?_push_size _ rfl
  show wpAny _ _ (callWith cpos (.builtin "dict.items") [.ref d] [] []) _ X.xe s1
  exact method_meetsIn F.slot_dict_items F.entry_dict_items rfl (PySem.evalArgs_none ⟨rfl, hT, F.args_dict_items_1 _, _, DT.meetsItems (es := ar) (ep := ep) hs, ⟨⟨oo, hgd, hx, hdt⟩, fin⟩⟩)
theorem walk_keysN {w : World} {d : Addr} {o : Obj} {es : List (NestedKey × V × V)} : Walk (Itkn w d o es) es.length (fun H => H d = some (.frz o (.ext (rawP w d es)))) (fun i H x H' => H' = H ∧ ∃ k v, es[i]? = some (k, x, v)) :=
  ⟨fun _ _ hi q => ⟨q, hi⟩, fun _ q => ⟨q, Nat.le_refl _⟩, fun _ _ _ _ _ _ y => y⟩
theorem walk_itemsN {w : World} {d : Addr} {o : Obj} {es : List (NestedKey × V × V)} : Walk (Itin w d o es) es.length (fun H => H d = some (.frz o (.ext (rawP w d es)))) (YPair (fun i => es[i]?.map fun e => e.2.1) (fun i => es[i]?.map fun e => e.2.2)) := by
  refine ⟨fun _ _ hi q => ⟨q, hi⟩, fun _ q => ⟨q, Nat.le_refl _⟩, fun i H x H' _ _ y => ?_⟩
  obtain ⟨T, k, ky, v, h1, h2, h3, h4⟩ := y
  exact ⟨T, ky, v, h2, h3, h4, by show Option.map _ es[i]? = _; rw [h1]; rfl, by show Option.map _ es[i]? = _; rw [h1]; rfl⟩
/-- a dict that may be written to -/
def DM (w : World) (H : Hp) (a : Addr) (es : List (NestedKey × V × V)) : Prop := (∃ kvs, H a = some (.dK kvs) ∧ es = lift kvs) ∨ (H a = some (.ext (rawP w a es)) ∧ KeysN H es)
theorem DM.da {w : World} {H : Hp} {a : Addr} {es : List (NestedKey × V × V)} (h : DM w H a es) : DA w H a es := by
  rcases h with ⟨kvs, h, e⟩ | ⟨h, k⟩
  · exact .inl ⟨kvs, .inl h, e⟩
  · exact .inr ⟨.inl h, k⟩
theorem DM.mut {w : World} {H : Hp} {a : Addr} {es : List (NestedKey × V × V)} (h : DM w H a es) : Mut (H a) := by
  rcases h with ⟨kvs, h, e⟩ | ⟨h, k⟩ <;> rw [h] <;> exact True.intro
/-- d[y] = v of such a dict -/
def sNPut (w : World) (td ty tv : TE) : TS := fun D σ H => tv σ H fun v H1 => td σ H1 fun x H2 => ty σ H2 fun y H3 => ∃ (a : Addr) (es : List (NestedKey × V × V)) (k : NestedKey), x = .ref a ∧ DM w H3 a es ∧ es.length ≤ 1000 ∧ NK H3 k y ∧
  (∀ (j : Nat) (ky v0 : V), es[j]? = some (k, ky, v0) → D.nx σ (upd H3 a (.ext (rawP w a (es.set j (k, ky, v)))))) ∧ (k ∉ es.map (·.1) → D.nx σ (upd H3 a (.ext (rawP w a (es ++ [(k, y, v)])))))
theorem raw_ext {P : Program} {w : World} {H : Hp} {h : Heap} {a : Addr} {es : List (NestedKey × V × V)} (r : rawP w a es h) (q : ∃ o, h.get? a = some o) : ObjOk P w H h a (.ext (rawP w a es)) :=
  ⟨r, q, fun h1 h2 z k => by
    obtain ⟨z1, z2, o, ar, ep, ho, z3⟩ := z
    exact ⟨z1, z2, o, ar, ep, k o ho, z3⟩⟩
theorem ps_nput (hu : X.A.units + 10 < cLine) (ho : PE X o td) (hi : PE X i ty) (hv : PE X value tv) (hs : swapsWith value (some (.Subscript o i pos')) pos.line X.env = pure false) :
    PS X (.Assign [.Subscript o i pos'] value pos) (sNPut X.w td ty tv) := by
  refine ⟨fun pins s σ H D I h => ?_⟩
  refine wpAny_Assign_Subscript (thn (hv.run pins s σ H _ I h) fun r s1 ⟨v, H1, I1, rv, q1⟩ => thn (ho.run pins s1 σ H1 _ I1 q1) fun u s2 ⟨x, H2, I2, rx, q2⟩ => thn (hi.run pins s2 σ H2 _ I2 q2) fun iv s3 ⟨y, H3, I3, ry, a, es, k, ex, dm, hz, nk, q3, q4⟩ => ?_) hs
  subst ex
  obtain rfl : u = Value.ref a := rx
  obtain ⟨hr, kn⟩ := dm.da.raw I3.hok
  have hT := hr.typeIs
  unfold setItem
  refine wpAny_holding (wpAny_bind (wpAny_sequenceKey hT (by decide) ?_))
  refine wpAny_bind (wpAny_callSpecial?_slot (name := Str.ofString "__setitem__") hT slot_dict_setitem (wpAny_call_entry slot_dict_setitem hT entry_dict_setitem ?_ (args_dict_setitem _ _ _)))
  show wpAny _ _ (Builtin.Dict.notOrdered "__setitem__" ⟨[.ref a, iv, r], []⟩ >>= _) _ _ s3
  refine wpAny_bind (wpAny_notOrdered_dict hT ?_)
  show wpAny _ _ (dictSet a iv r >>= _) _ _ s3
  have hu2 : X.A.in1.units + 9 < cLine := by rw [Around.in1_units]; omega
  refine wpAny_bind (raw_put hu2 I3.hok hr kn nk ry rv (by omega) (fun j ky v0 h' tk he hr' hs' hq => wpAny_pure ⟨.none, rfl, wpAny_pure ?_⟩) (fun h' tk no hr' hs' hq => wpAny_pure ⟨.none, rfl, wpAny_pure ?_⟩))
  · exact ⟨σ, _, d_write I3 dm.mut hs' hq (raw_ext hr' hq), q3 j ky v0 he⟩
  · exact ⟨σ, _, d_write I3 dm.mut hs' hq (raw_ext hr' hq), q4 no⟩
end
end NkD
set_option maxRecDepth 100000
set_option maxHeartbeats 2000000
/-! such dicts: list(d.items()), dict(pairs) -/
namespace NkD
open PySem PySem.Spec PyProof.Rows L2 Fm
open Sem (wp)
section
variable {X : Cx} {pins : List (Addr × Obj)} {σ : L2.St} {H : Hp} {s : Shared} {h' : Heap} {tk : Nat}
/-- many new things are tracked -/
theorem lay_many (I : Inv X pins σ H s) (hk : ∀ b o, s.heap.get? b = some o → h'.get? b = some o) : ∀ (L : List (Addr × HO)), (∀ p ∈ L, s.heap.objs.size ≤ p.1) → (L.map (·.1)).Nodup → (∀ p ∈ L, ∀ H', ObjOk X.prog X.w H' h' p.1 p.2) →
    ∃ H', Same H H' ∧ (∀ p ∈ L, H' p.1 = some p.2) ∧ (∀ b, b ∉ L.map (·.1) → H' b = H b) ∧ Inv X pins σ H' { s with heap := h', toks := tk }
  | [], _, _, _ => ⟨H, Same.refl H, fun _ h => (List.not_mem_nil h).elim, fun _ _ => rfl, I.kept hk⟩
  | p :: L, big, nd, ok => by
    obtain ⟨n1, n2⟩ := List.nodup_cons.mp nd
    obtain ⟨H1, k1, a1, o1, J⟩ := lay_many I hk L (fun q hq => big q (List.mem_cons_of_mem _ hq)) n2 (fun q hq => ok q (List.mem_cons_of_mem _ hq))
    have bp := big p List.mem_cons_self
    have z : H1 p.1 = none := by rw [o1 _ n1]; exact I.hok.fresh bp
    refine ⟨upd H1 p.1 p.2, Same.upd k1 (I.hok.fresh bp), fun q hq => ?_, fun b hb => ?_, J.take (t' := tk) (fun b ob _ e => e) (I.fpOk bp z) (ok p List.mem_cons_self _)⟩
    · rcases List.mem_cons.mp hq with rfl | hq
      · exact upd_same
      · rw [upd_ne]
        · exact a1 q hq
        · intro e
          exact n1 (show p.1 ∈ _ from by rw [← e]; exact List.mem_map.mpr ⟨q, hq, rfl⟩)
    · rw [List.map_cons] at hb
      rw [upd_ne (fun e => hb (by rw [e]; exact List.mem_cons_self))]
      exact o1 b (fun m => hb (List.mem_cons_of_mem _ m))
/-- a list of pairs: the tuples' addresses and what they hold -/
def PairsAt (H : Hp) (ts : List Addr) (ps : List (V × V)) : Prop := Paired (fun (t : Addr) (q : V × V) => H t = some (.tup [q.1, q.2])) ts ps
theorem PairsAt.same {H H' : Hp} {ts : List Addr} {ps : List (V × V)} (h : PairsAt H ts ps) (c : Same H H') : PairsAt H' ts ps := Paired.mapP h fun _ _ e => c _ _ e
theorem paired_of {α β : Type} {R : α → β → Prop} : ∀ {xs : List α} {ys : List β}, xs.length = ys.length → (∀ (i : Nat) (x : α) (y : β), xs[i]? = some x → ys[i]? = some y → R x y) → Paired R xs ys
  | [], [], _, _ => .nil
  | [], _ :: _, h, _ => by cases h
  | _ :: _, [], h, _ => by cases h
  | x :: xs, y :: ys, h, k => .cons (k 0 x y rfl rfl) (paired_of (by simpa using h) fun i x' y' e1 e2 => k (i + 1) x' y' (by simpa using e1) (by simpa using e2))
/-- list(d.items()): new pairs in a new list -/
def rItemsN (w : World) : V → Hp → VK → Prop := fun x H Q => ∃ (d : Addr) (es : List (NestedKey × V × V)), x = .ref d ∧ DA w H d es ∧
  ∀ (H' : Hp) (p : Addr) (ts : List Addr), Same H H' → H p = none → p ≠ sysModules → (∀ t ∈ ts, H t = none) → p ∉ ts → H' p = some (.lst (ts.map V.ref)) → PairsAt H' ts (es.map (·.2)) → Q (.ref p) H'
def tListItemsN (w : World) (te : TE) : TE := fun σ H Q => te σ H fun x H1 => rItemsN w x H1 Q
theorem pe_listItemsN {e : Expr} {te : TE} {p apos cpos pos : Pos} (hc : X.calm = true) (he : PE X e te) (hg : Gl X "list") (hm : X.mg "list" = none) (hv : bootBuiltins "list" = some (.type "list")) (hbase : attributeBase e "items" X.env (eval e X.env) = eval e X.env := by rfl) (hline : (apos.endLine == cpos.line) = true := by rfl)
    (hs : starEach [.Call (.Attribute e "items" apos) [] [] cpos] X.env = (false, eval (.Call (.Attribute e "items" apos) [] [] cpos) X.env) :: starEach [] X.env := by rfl) :
    PE X (.Call (.Name "list" p) [.Call (.Attribute e "items" apos) [] [] cpos] [] pos) (tListItemsN X.w te) := by
  refine ⟨fun pins s σ H Q I hq => ?_⟩
  refine wpAny_Call_Name_kw (ld_blt I hg hm hv ?_)
  refine PyProof.Rows.callWith_type1 ?_ hs rfl
  rw [hs]
  show wpAny _ _ (spliced ((false, eval (.Call (.Attribute e "items" apos) [] [] cpos) X.env) :: backTo pos (starEach [] X.env))) _ _ s
  refine Calls.spliced_cons (wpAny_Call_method (T := "dict") (id := "dict.items") hbase rfl hline F.plainAttrs_dict F.slot_dict_items F.type_dict_items (thn (he.run pins s σ H _ I hq) fun u s1 ⟨x, H1, I1, rx, d, es, ex, da, q⟩ => ?_))
  subst ex
  obtain rfl : u = Value.ref d := rx
  obtain ⟨⟨hz, hs0, oo, ar, ep, ho, hc2, hd, hp⟩, _⟩ := da.raw I1.hok
  have hT : s1.TypeIs (.ref d) "dict" := ⟨oo, ho, hc2.1⟩
  have sz : ar.size = es.length := by rw [← Array.length_toList]; exact paired_len hp
  have I2 : Inv X pins σ H1 { s1 with heap := s1.heap.push { cls := .type "dict_items", data := .fields #[.ref d] } } := I1.kept (t' := s1.toks) fun b ob q => Heap.get?_push_of_some _ q
  refine ⟨hT, fun b z => by cases z; exact ⟨oo, ho, hc2.2.1⟩, ?_⟩
  show wpAny _ _ (callWith cpos (.builtin "dict.items") [.ref d] [] []) _ X.xe s1
  refine method_meetsIn F.slot_dict_items F.entry_dict_items rfl (PySem.evalArgs_none ⟨rfl, hT, F.args_dict_items_1 _, _, DT.meetsItems (es := ar) (ep := ep) hs0, ⟨⟨oo, ho, hc2, hd⟩, ?_⟩⟩)
  refine Calls.spliced_nil (PySem.W.dil_call (es := ar) (ep := ep) (I1.ok.hd hc) ⟨_, Heap.get?_push_size _ rfl, rfl, rfl⟩ ⟨oo, Heap.get?_push_of_some _ ho, hc2, hd⟩ (by omega) fun h' tk acc c as hk hS hl hG hacc => ?_)
  have big := I2.big
  generalize s1.heap.push { cls := .type "dict_items", data := .fields #[.ref d] } = hp0 at I2 hk hS hG big ⊢
  dsimp only at I2 hk hS hG big ⊢
  have nd : as.Nodup := List.Pairwise.imp (fun {a b} (h : a < b) => Nat.ne_of_lt h) hG.rise
  have nS : hp0.objs.size ∉ as := fun z => Nat.lt_irrefl _ (hG.above _ z)
  have la : as.length = es.length := by rw [hl, sz]
  -- what is laid
  have eM : (as.zip es).map (fun z => z.1) = as := by
    rw [show (fun (z : Addr × NestedKey × V × V) => z.1) = Prod.fst from rfl, List.map_fst_zip (by omega)]
  have b1 : ∀ p ∈ ((hp0.objs.size, HO.lst (as.map V.ref)) :: (as.zip es).map fun z => (z.1, HO.tup [z.2.2.1, z.2.2.2])), hp0.objs.size ≤ p.1 := fun p hp2 => by
    rcases List.mem_cons.mp hp2 with rfl | hp2
    · exact Nat.le_refl _
    · obtain ⟨z, hz2, rfl⟩ := List.mem_map.mp hp2
      exact Nat.le_of_lt (hG.above _ (List.of_mem_zip hz2).1)
  have b2 : (((hp0.objs.size, HO.lst (as.map V.ref)) :: (as.zip es).map fun z => (z.1, HO.tup [z.2.2.1, z.2.2.2])).map (·.1)).Nodup := by
    rw [List.map_cons, List.map_map]
    show (hp0.objs.size :: (as.zip es).map fun z => z.1).Nodup
    rw [eM]
    exact List.nodup_cons.mpr ⟨nS, nd⟩
  have b3 : ∀ p ∈ ((hp0.objs.size, HO.lst (as.map V.ref)) :: (as.zip es).map fun z => (z.1, HO.tup [z.2.2.1, z.2.2.2])), ∀ H' : Hp, ObjOk X.prog X.w H' h' p.1 p.2 := fun p hp2 H' => by
    rcases List.mem_cons.mp hp2 with rfl | hp2
    · exact ⟨by rw [List.length_map]; omega, acc.toList, c, by rw [hacc]; exact LiI.vals_refs as, by rw [Array.toArray_toList]; exact hS⟩
    · obtain ⟨⟨t, z⟩, hz2, rfl⟩ := List.mem_map.mp hp2
      obtain ⟨i, hi⟩ := List.mem_iff_getElem?.mp hz2
      obtain ⟨e1, e2⟩ := List.getElem?_zip_eq_some.mp hi
      obtain ⟨hj, hget⟩ := hG.pairs i t e1
      obtain ⟨en, e3, _, rk, rv⟩ := paired_r hp e2
      have e4 : ar[i] = en := by
        have y : ar[i]? = some en := by rw [← Array.getElem?_toList]; exact e3
        rw [Array.getElem?_eq_getElem hj] at y
        exact Option.some.inj y
      rw [e4] at hget
      exact ⟨by show 2 ≤ sizeLine; decide, [en.key, en.val], .cons rk (.cons rv .nil), ⟨_, hget, rfl, _, rfl⟩⟩
  obtain ⟨H', k1, a1, o1, J⟩ := lay_many (h' := h') (tk := tk) I2 hk _ b1 b2 b3
  refine ⟨.ref _, H', J, rfl, q H' _ as k1 (I2.hok.fresh (Nat.le_refl _)) (Nat.ne_of_gt big) (fun t ht => I2.hok.fresh (Nat.le_of_lt (hG.above t ht))) nS (a1 _ List.mem_cons_self) (paired_of (by rw [List.length_map]; omega) fun i t y e1 e2 => ?_)⟩
  rw [List.getElem?_map] at e2
  obtain ⟨z, e3, rfl⟩ := Option.map_eq_some_iff.mp e2
  exact a1 (t, .tup [z.2.1, z.2.2]) (List.mem_cons_of_mem _ (List.mem_map.mpr ⟨(t, z), List.mem_of_getElem? (List.getElem?_zip_eq_some.mpr ⟨e1, e3⟩), rfl⟩))
/-! dict(pairs) -/
def RawE (h : Heap) (a : Addr) (acc : List DictEntry) : Prop := ∃ o ar ep, h.get? a = some o ∧ o.ExactDict ∧ o.data = .dict ar ep ∧ ar.toList = acc
theorem RawE.at {h h' : Heap} {a : Addr} {acc : List DictEntry} (x : RawE h a acc) (k : ∀ o, h.get? a = some o → h'.get? a = some o) : RawE h' a acc := let ⟨o, ar, ep, ho, r⟩ := x; ⟨o, ar, ep, k o ho, r⟩
end
section
variable {prog : Program} {w : World} {A : Around} {E : Value → Shared → Prop} {s : Shared}
theorem set_new {a : Addr} {acc : List DictEntry} {ks : List NestedKey} {k : NestedKey} {u r : Value} {Q : Unit → Shared → Prop} (hu : A.units + 8 < cLine) (hk : NestedIs s.heap k u) (dp : k.depth ≤ 8) (hr : RawE s.heap a acc) (hE : Paired (Ent w s.heap) acc ks) (nd : ks.Nodup) (no : k ∉ ks) (hz : acc.length ≤ sizeLine)
    (h : ∀ h' tk, RawE h' a (acc ++ [⟨k.hash w, u, r⟩]) → Heap.SameBut a s.heap h' → Q () { s with heap := h', toks := tk }) : wpAny (model prog w) A (dictSet a u r) Q E s := by
  obtain ⟨o, ar, ep, ho, hc, hd, rfl⟩ := hr
  unfold dictSet
  refine wpAny_holding (wpAny_bind (pyHash_key k u A s _ hk (by omega) ?_))
  unfold dictSetHashed
  refine wpAny_holding (wpAny_bind (find_n (s := { s with toks := s.toks + k.draws }) hu hk dp ho hd hE nd (fun _ => ?_) (fun i hi => absurd (List.mem_of_getElem? hi) no)))
  refine wpAny_bind (wpAny_rule (wpAny_updateDictKeys (hz := by rw [← Array.length_toList]; exact hz) (s := { s with toks := s.toks + k.draws }) ho hd ?_))
  have hg := Heap.get?_update_self (h := s.heap) (Obj.mapDictKeys fun es => es.push ⟨k.hash w, u, r⟩) ho (Obj.isFreed_of_dict (Obj.data_mapDictKeys hd _))
  exact h _ _ ⟨_, _, ep + 1, hg, hc.mapDictKeys _, Obj.data_mapDictKeys hd _, Array.toList_push ..⟩ (Heap.SameBut.update ..)
/-- the turns of dict(l) -/
theorem pairs_loop {R : Result → Shared → Prop} {S I l : Addr} {items : Array Value} {res : Value} (hh : A.handled = none) (hu : A.units + 9 < cLine) (hlI : l ≠ I) (hSI : S ≠ I) (hSl : S ≠ l) :
    ∀ (rest : List (NestedKey × Value × Value)) (i : Nat) (acc : List DictEntry) (ks : List NestedKey) (ix : Int) (t : Tok) (s : Shared), items.size = i + rest.length → acc.length + rest.length ≤ sizeLine → Paired (Ent w s.heap) acc ks → (ks ++ rest.map (·.1)).Nodup →
      (∀ (j : Nat) (q : NestedKey × Value × Value), rest[j]? = some q → ∃ b, items[i + j]? = some (.ref b) ∧ b ≠ S ∧ b ≠ I ∧ IsTup s.heap b #[q.2.1, q.2.2] ∧ NestedIs s.heap q.1 q.2.1 ∧ q.1.depth ≤ 8) →
      s.heap.IsListIter I l i → s.heap.IsList l items → RawE s.heap S acc →
      (∀ h' tk, RawE h' S (acc ++ rest.map fun q => ⟨q.1.hash w, q.2.1, q.2.2⟩) → (∀ b o, b ≠ S → b ≠ I → s.heap.get? b = some o → h'.get? b = some o) → R (.ok (.ret res)) { s with heap := h', toks := tk }) →
      codeAny (model prog w) A (.builtin "dict.update.loop" ⟨[.ref S, .ref I, .int ix t, res], []⟩) R s
  | [], i, acc, ks, ix, t, s, hsz, hln, hE, nd, ht, hit, hl, hm, hR => by
    refine codeAny_builtin ud_entry ?_
    rw [Around.under_plainId ud_plain _]
    show wpAny _ A.in1 (pyNext (.ref I) >>= _) _ _ s
    refine wpAny_bind (wpAny_pyNext_list_end (A := A.in1) hh hit hl (Array.getElem?_eq_none (Nat.le_of_eq hsz)) fun h' he => ?_)
    show wpAny _ A.in1 (Builtin.Dict.addKeywords S [] >>= _) _ _ _
    refine wpAny_bind (wpAny_pure (wpAny_pure (hR h' s.toks ?_ fun b o _ hb e => he b o hb e)))
    rw [List.map_nil, List.append_nil]
    exact hm.at fun o e => he S o hSI e
  | q :: rest, i, acc, ks, ix, t, s, hsz, hln, hE, nd, ht, hit, hl, hm, hR => by
    obtain ⟨b, hb, hbS, hbI, htup, hk, dp⟩ := ht 0 q rfl
    rw [List.length_cons] at hsz hln
    refine codeAny_builtin ud_entry ?_
    rw [Around.under_plainId ud_plain _]
    show wpAny _ A.in1 (pyNext (.ref I) >>= _) _ _ s
    refine wpAny_bind (wpAny_pyNext_list_item (x := .ref b) hit hl (by simpa using hb) fun h1 hit1 hs1 => ?_)
    have keep1 : ∀ {k : NestedKey} {v : Value}, NestedIs s.heap k v → NestedIs h1 k v := fun {k v} x => NestedIs.at (fun c o vs n e d => (hs1.2 c (fun z => by
      obtain ⟨oi, e1, c1, d1⟩ := hit
      rw [z, e1] at e
      cases e
      rw [d1] at d
      cases d)).trans e) k v x
    have ht1 : IsTup h1 b #[q.2.1, q.2.2] := htup.extBut hs1.extBut hbI
    have hm1 : RawE h1 S acc := hm.at fun o e => (hs1.2 S hSI).trans e
    obtain ⟨o, ho, hc, n, hd⟩ := id ht1
    show wpAny _ A.in1 (holding [Value.ref b] _ >>= _) _ _ _
    refine wpAny_bind (wpAny_holding (wpAny_bind (wpAny_tryCatch ?_)))
    unfold Builtin.Dict.pairItems
    refine wpAny_bind (wpAny_typeOf (T := "tuple") ⟨o, ho, hc⟩ ?_)
    rw [if_pos (by first | decide | rfl | simp)]
    refine wpAny_bind (wpAny_seqItems ho hd (wpAny_pure ?_))
    show wpAny _ A.in1 (holding [q.2.1, q.2.2] (dictSet S q.2.1 q.2.2)) _ _ _
    have hE1 : Paired (Ent w h1) acc ks := Paired.mapP hE fun e k x => ⟨keep1 x.is, x.hs, x.dp⟩
    obtain ⟨nd1, nd2, nd3⟩ := List.nodup_append.mp nd
    rw [List.map_cons] at nd2 nd3
    have no : q.1 ∉ ks := fun z => nd3 _ z _ List.mem_cons_self rfl
    have hu1 : A.in1.units + 8 < cLine := by rw [Around.in1_units]; omega
    refine wpAny_holding (set_new (k := q.1) hu1 (keep1 hk) dp hm1 hE1 nd1 no (by omega) fun h2 tk2 hm2 hs2 => ?_)
    obtain ⟨oS, arS, epS, hoS, _, hdS, _⟩ := id hm1
    have keep2 : ∀ {k : NestedKey} {v : Value}, NestedIs h1 k v → NestedIs h2 k v := fun {k v} x => NestedIs.at (fun c o vs n e d => (hs2.2 c (fun z => by
      rw [z, hoS] at e
      cases e
      rw [hdS] at d
      cases d)).trans e) k v x
    refine wpAny_pure ⟨plainId_quiet ud_plain _, pairs_loop (items := items) hh hu hlI hSI hSl rest (i + 1) _ (ks ++ [q.1]) (ix + 1) 0 _ (show items.size = i + 1 + rest.length by omega) ?_ ?_ ?_ (fun j q' e => ?_) ?_ ?_ hm2 fun h' tk hd' k => ?_⟩
    · rw [List.length_append, List.length_singleton]
      omega
    · exact (Paired.mapP hE1 fun e k x => ⟨keep2 x.is, x.hs, x.dp⟩).snoc ⟨keep2 (keep1 hk), rfl, dp⟩
    · rw [List.append_assoc]
      exact nd
    · obtain ⟨b', hb', hbS', hbI', htup', hk', dp'⟩ := ht (j + 1) q' (by simpa using e)
      refine ⟨b', ?_, hbS', hbI', (htup'.extBut hs1.extBut hbI').extBut hs2.extBut hbS', keep2 (keep1 hk'), dp'⟩
      rw [show i + 1 + j = i + (j + 1) by omega]
      exact hb'
    · exact hit1.at fun o' e => hs2.extBut I o' (Ne.symm hSI) e
    · exact (hl.extBut hs1.extBut hlI).extBut hs2.extBut (Ne.symm hSl)
    · refine hR h' tk ?_ fun c oc h3 h4 e => k c oc h3 h4 (hs2.extBut c oc h3 (hs1.extBut c oc h4 e))
      rw [List.append_assoc] at hd'
      exact hd'

/-- dict(l) of a list of pairs, no two keys the same -/
theorem dict_pairs {l : Addr} {ol : Obj} {items : Array Value} {n : Nat} {prs : List (NestedKey × Value × Value)} {Q : Value → Shared → Prop} (hh : A.handled = none) (hu : A.units + 10 < cLine) (hl : s.heap.get? l = some ol) (hc : ol.cls = .type "list") (hd : ol.dict = none)
    (hdat : ol.data = .seq items n) (hsz : items.size = prs.length) (hln : prs.length ≤ sizeLine) (nd : (prs.map (·.1)).Nodup)
    (ht : ∀ (j : Nat) (q : NestedKey × Value × Value), prs[j]? = some q → ∃ b, items[j]? = some (.ref b) ∧ IsTup s.heap b #[q.2.1, q.2.2] ∧ NestedIs s.heap q.1 q.2.1 ∧ q.1.depth ≤ 8)
    (h : ∀ h' tk, RawE h' s.heap.objs.size (prs.map fun q => ⟨q.1.hash w, q.2.1, q.2.2⟩) → (∀ b o, s.heap.get? b = some o → h'.get? b = some o) → Q (.ref s.heap.objs.size) { s with heap := h', toks := tk }) :
    wpAny (model prog w) A (call (.type "dict") [.ref l]) Q E s := by
  refine callType_codes (Q₁ := fun obj s₁ => obj = .ref s.heap.objs.size ∧ s₁ = { s with heap := s.heap.push { cls := .type "dict", data := .dict #[] } }) PySem.F.kt_called_dict (PySem.F.kt_typeCall_dict_1 _) PySem.F.entry_dict_init (kt_code_dict_new _ ⟨rfl, rfl⟩) ?_
  rintro obj s₁ ⟨rfl, rfl⟩
  have k0 : ∀ b o, s.heap.get? b = some o → (s.heap.push { cls := .type "dict", data := .dict #[] }).get? b = some o := fun b o e => Heap.get?_push_of_some _ e
  have hg0 : (s.heap.push { cls := .type "dict", data := .dict #[] }).get? s.heap.objs.size = some { cls := .type "dict", data := .dict #[] } := Heap.get?_push_size _ rfl
  have hT : (Shared.TypeIs { s with heap := s.heap.push { cls := .type "dict", data := .dict #[] } } (.ref s.heap.objs.size) "dict") := ⟨_, hg0, rfl⟩
  refine ⟨hT, PySem.F.args_dict_init_2 _ _, ?_⟩
  unfold Builtin.«dict.__init__»
  refine wpAny_bind ?_
  unfold Builtin.Dict.selfAndRest
  refine wpAny_bind (wpAny_notOrdered_dict hT ?_)
  show wpAny _ _ (pure (s.heap.objs.size, [Value.ref l])) _ _ _
  refine wpAny_pure ?_
  show wpAny _ _ (Builtin.Dict.updateFrom "dict.__init__" s.heap.objs.size (.ref l) [] .none) _ _ _
  unfold Builtin.Dict.updateFrom
  refine wpAny_bind (wpAny_typeOf (T := "list") ⟨ol, k0 _ _ hl, hc⟩ ?_)
  rw [if_pos (by first | decide | rfl | simp)]
  refine wpAny_bind (miss_list (k0 _ _ hl) hc hdat hd hh fun h1 tk1 hk1 => ?_)
  rw [if_pos (show (none : Option Value).isNone = true from rfl)]
  have hl1 : h1.IsList l items := ⟨ol, hk1 _ _ (k0 _ _ hl), hc, n, hdat⟩
  have hS1 : s.heap.objs.size < h1.objs.size := Heap.lt_size (hk1 _ _ hg0)
  have hlt : l < s.heap.objs.size := Heap.lt_size hl
  refine wpAny_bind (wpAny_rule (wpAny_bind (wpAny_pyIter_list hl1 ?_)))
  have k2 : ∀ b o, h1.get? b = some o → (h1.push { cls := .type "list_iterator", data := .fields #[.ref l, .int 0 0] }).get? b = some o := fun b o e => Heap.get?_push_of_some _ e
  have kk : ∀ b o, s.heap.get? b = some o → (h1.push { cls := .type "list_iterator", data := .fields #[.ref l, .int 0 0] }).get? b = some o := fun b o e => k2 _ _ (hk1 _ _ (k0 _ _ e))
  have hu1 : A.in1.units + 9 < cLine := by rw [Around.in1_units]; omega
  have key := pairs_loop (prog := prog) (w := w) (A := A.in1) (R := wants (fun r s₂ => r = .none ∧ Q (.ref s.heap.objs.size) s₂) E) (S := s.heap.objs.size) (I := h1.objs.size) (l := l) (items := items) (res := Value.none) hh hu1
    (Nat.ne_of_lt (Nat.lt_trans hlt hS1)) (Nat.ne_of_lt hS1) (Nat.ne_of_gt hlt) prs 0 [] [] 0 0
    { s with heap := h1.push { cls := .type "list_iterator", data := .fields #[.ref l, .int 0 0] }, toks := tk1 } (by rw [hsz, Nat.zero_add]) (by rw [List.length_nil, Nat.zero_add]; exact hln) .nil nd
    (fun j q e => by
      obtain ⟨b, e1, e2, e3, e4⟩ := ht j q e
      have hb : b < s.heap.objs.size := e2.lt
      exact ⟨b, by rw [Nat.zero_add]; exact e1, Nat.ne_of_lt hb, Nat.ne_of_lt (Nat.lt_trans hb hS1), e2.keeps kk, NestedIs.at (fun c o vs n e _ => kk c o e) _ _ e3, e4⟩)
    ⟨_, Heap.get?_push_size _ rfl, rfl, rfl⟩ (hl1.at fun o e => k2 _ _ e) ⟨_, #[], 0, k2 _ _ (hk1 _ _ hg0), ⟨rfl, rfl, rfl⟩, rfl, rfl⟩
    (fun h' tk hd' k => ⟨rfl, h h' tk hd' fun b o e => k b o (Nat.ne_of_lt (Heap.lt_size e)) (Nat.ne_of_lt (Nat.lt_trans (Heap.lt_size e) hS1)) (kk b o e)⟩)
  first
    | exact wpAny_pure ⟨plainId_quiet ud_plain _, key⟩
    | exact wpAny_bind (wpAny_pure (wpAny_pure ⟨plainId_quiet ud_plain _, key⟩))
end
section
variable {X : Cx}
/-- the pairs as the heap has them -/
theorem pairs_vals {pins : List (Addr × Obj)} {σ : L2.St} {H : Hp} {s : Shared} (I : Inv X pins σ H s) : ∀ {ts : List Addr} {es : List (NestedKey × V × V)}, PairsAt H ts (es.map (·.2)) → (∀ x ∈ es, NK H x.1 x.2.1) →
    ∃ prs : List (NestedKey × Value × Value), prs.map (·.1) = es.map (·.1) ∧ Paired (EntV X.w) (prs.map fun q => ⟨q.1.hash X.w, q.2.1, q.2.2⟩) es ∧ prs.length = ts.length ∧
      ∀ (j : Nat) (q : NestedKey × Value × Value), prs[j]? = some q → ∃ b, ts[j]? = some b ∧ IsTup s.heap b #[q.2.1, q.2.2] ∧ NestedIs s.heap q.1 q.2.1 ∧ q.1.depth ≤ 8
  | [], [], _, _ => ⟨[], rfl, .nil, rfl, fun j q e => by simp at e⟩
  | [], _ :: _, h, _ => by cases h
  | _ :: _, [], h, _ => by cases h
  | t :: ts, (k, ky, v) :: es, .cons h1 h2, hk => by
    obtain ⟨prs, e1, e2, e3, e4⟩ := pairs_vals I h2 (fun x hx => hk x (List.mem_cons_of_mem _ hx))
    obtain ⟨_, its, rv, hT⟩ := I.hok t _ h1
    obtain ⟨u, y, rfl, ru, ry⟩ := vals2 rv
    have nk := hk _ List.mem_cons_self
    refine ⟨(k, u, y) :: prs, by rw [List.map_cons, List.map_cons, e1], .cons ⟨rfl, ru, ry⟩ e2, by rw [List.length_cons, List.length_cons, e3], fun j q e => ?_⟩
    cases j with
    | zero =>
      obtain rfl : (k, u, y) = q := Option.some.inj e
      exact ⟨t, rfl, hT, nk.is I.hok ru, Nat.le_trans nk.dp (by decide)⟩
    | succ j =>
      obtain ⟨b, f1, f2⟩ := e4 j q (by simpa using e)
      exact ⟨b, by simpa using f1, f2⟩
/-- dict(xs) of a list of pairs, no two keys the same -/
def rDictN (w : World) : List V → Hp → VK → Prop := fun xs H Q => ∃ (a : Addr) (ts : List Addr) (es : List (NestedKey × V × V)), xs = [.ref a] ∧ H a = some (.lst (ts.map V.ref)) ∧ PairsAt H ts (es.map (·.2)) ∧ KeysN H es ∧
  ∀ p, H p = none → p ≠ sysModules → Q (.ref p) (upd H p (.ext (rawP w p es)))
theorem call_dictN (hcalm : X.calm = true) (hu : X.A.units + 10 < cLine) : CallR X (.type "dict") (rDictN X.w) := by
  intro pins s σ H xs us Q I r q
  obtain ⟨a, ts, es, rfl, hq, hp, kn, q⟩ := q
  obtain ⟨u, rfl, rx⟩ := vals1 r
  cases (show u = Value.ref a from rx)
  obtain ⟨hz, its, n, rv, ho⟩ := I.hok a _ hq
  obtain rfl := refs_at rv
  rw [List.length_map] at hz
  obtain ⟨prs, e1, e2, e3, e4⟩ := pairs_vals I hp kn.nk
  have le : es.length = ts.length := by
    have y := paired_len hp
    rw [List.length_map] at y
    exact y.symm
  refine dict_pairs (prs := prs) (I.ok.hd hcalm) hu ho rfl rfl rfl (by simp [e3]) (by rw [e3]; exact hz) (by rw [e1]; exact kn.nd) (fun j q' e => ?_) fun h' tk hd' k => ?_
  · obtain ⟨b, f1, f2⟩ := e4 j q' e
    exact ⟨b, by simp [f1], f2⟩
  · have big := I.big
    obtain ⟨o, ar, ep, h1, h2, h3, h4⟩ := hd'
    have new : ∀ H2, ObjOk X.prog X.w H2 h' s.heap.objs.size (.ext (rawP X.w s.heap.objs.size es)) := fun H2 => raw_ext ⟨by rw [le]; exact hz, beq_eq_false_iff_ne.mpr (Nat.ne_of_gt big), o, ar, ep, h1, h2, h3, by rw [h4]; exact e2⟩ ⟨o, h1⟩
    exact ⟨.ref s.heap.objs.size, _, I.laid (t' := tk) k (Nat.le_refl _) (new _), rfl, q _ (I.hok.fresh (Nat.le_refl _)) (Nat.ne_of_gt big)⟩
end
end NkD
set_option maxRecDepth 100000
set_option maxHeartbeats 2000000
/-! data with dicts of any such keys, as trees over the abstract heap; repr -/
namespace NkD
open PySem PySem.Spec PyProof.Rows L2 Fm
inductive U where
  | non | bl (b : Bool) | int (i : Int) | str (x : Str) | tup (xs : List U) | lst (xs : List U) | dic (ks vs : List U)
/-- the dict at a: of names and whole numbers alone, or with a key that is none of them -/
def DO (w : World) (H : Hp) (a : Addr) (es : List (NestedKey × V × V)) : Prop := (∃ kvs : List (Key × V), H a = some (.dK kvs) ∧ es = lift kvs ∧ (kvs.map (·.1)).Nodup) ∨ (H a = some (.ext (rawP w a es)) ∧ KeysN H es ∧ ∃ x ∈ es, ∀ y, x.2.1 ≠ .str y)
theorem DO.da {w : World} {H : Hp} {a : Addr} {es : List (NestedKey × V × V)} (h : DO w H a es) : DA w H a es := by
  rcases h with ⟨kvs, h, e, _⟩ | ⟨h1, h2, _⟩
  · exact .inl ⟨kvs, .inl h, e⟩
  · exact .inr ⟨.inl h1, h2⟩
theorem DO.dm {w : World} {H : Hp} {a : Addr} {es : List (NestedKey × V × V)} (h : DO w H a es) : DM w H a es := by
  rcases h with ⟨kvs, h, e, _⟩ | ⟨h1, h2, _⟩
  · exact .inl ⟨kvs, h, e⟩
  · exact .inr ⟨h1, h2⟩
theorem DO.same {w : World} {H H' : Hp} {a : Addr} {es : List (NestedKey × V × V)} (h : DO w H a es) (k : Same H H') : DO w H' a es := by
  rcases h with ⟨kvs, h, e, n⟩ | ⟨h1, h2, h3⟩
  · exact .inl ⟨kvs, k _ _ h, e, n⟩
  · exact .inr ⟨k _ _ h1, h2.same k, h3⟩
mutual
inductive Uv (w : World) (H : Hp) : V → U → Prop
  | non : Uv w H .non .non
  | bl (b : Bool) : Uv w H (.bl b) (.bl b)
  | int (i : Int) : Uv w H (.int i) (.int i)
  | str (x : Str) : PyData.strOk x = true → Uv w H (.str x) (.str x)
  | tup {a : Addr} {xs : List V} {ds : List U} : H a = some (.tup xs) → UvL w H xs ds → Uv w H (.ref a) (.tup ds)
  | lst {a : Addr} {xs : List V} {ds : List U} : a ≠ sysModules → H a = some (.lst xs) → UvL w H xs ds → Uv w H (.ref a) (.lst ds)
  | dic {a : Addr} {es : List (NestedKey × V × V)} {ks vs : List U} : DO w H a es → UvL w H (es.map fun e => e.2.1) ks → UvL w H (es.map fun e => e.2.2) vs → Uv w H (.ref a) (.dic ks vs)
inductive UvL (w : World) (H : Hp) : List V → List U → Prop
  | nil : UvL w H [] []
  | cons {v : V} {vs : List V} {d : U} {ds : List U} : Uv w H v d → UvL w H vs ds → UvL w H (v :: vs) (d :: ds)
end
mutual
theorem Uv.sameR {w : World} {H H' : Hp} (c : Same H H') : ∀ (d : U) (v : V), Uv w H v d → Uv w H' v d
  | .non, _, h => by cases h; exact .non
  | .bl _, _, h => by cases h; exact .bl _
  | .int _, _, h => by cases h; exact .int _
  | .str _, _, h => by
    cases h with
    | str _ o => exact .str _ o
  | .tup ds, _, h => by
    cases h with
    | tup a b => exact .tup (c _ _ a) (UvL.sameR c ds _ b)
  | .lst ds, _, h => by
    cases h with
    | lst n a b => exact .lst n (c _ _ a) (UvL.sameR c ds _ b)
  | .dic ks vs, _, h => by
    cases h with
    | dic a b e => exact .dic (a.same c) (UvL.sameR c ks _ b) (UvL.sameR c vs _ e)
theorem UvL.sameR {w : World} {H H' : Hp} (c : Same H H') : ∀ (ds : List U) (vs : List V), UvL w H vs ds → UvL w H' vs ds
  | [], _, h => by cases h; exact .nil
  | d :: ds, _, h => by
    cases h with
    | cons a b => exact .cons (Uv.sameR c d _ a) (UvL.sameR c ds _ b)
end
theorem Uv.same {w : World} {H H' : Hp} {v : V} {d : U} (h : Uv w H v d) (k : Same H H') : Uv w H' v d := Uv.sameR k _ _ h
theorem UvL.same {w : World} {H H' : Hp} {vs : List V} {ds : List U} (h : UvL w H vs ds) (k : Same H H') : UvL w H' vs ds := UvL.sameR k _ _ h
/-! no dict within -/
mutual
def noD : U → Bool
  | .tup ds => noDs ds
  | .lst ds => noDs ds
  | .dic _ _ => false
  | _ => true
def noDs : List U → Bool
  | [] => true
  | d :: ds => noD d && noDs ds
end
mutual
theorem Uv.lockR {w : World} {H : Hp} {a0 : Addr} {u o : HO} (hu : H a0 = some u) (n1 : ∀ xs, u ≠ .tup xs) (n2 : ∀ xs, u ≠ .lst xs) : ∀ (d : U) (v : V), noD d = true → Uv w H v d → Uv w (upd H a0 o) v d
  | .non, _, _, h => by cases h; exact .non
  | .bl _, _, _, h => by cases h; exact .bl _
  | .int _, _, _, h => by cases h; exact .int _
  | .str _, _, _, h => by
    cases h with
    | str _ o => exact .str _ o
  | .tup ds, _, n, h => by
    cases h with
    | @tup a xs _ e b => exact .tup ((upd_ne (fun z => by rw [z, hu] at e; exact n1 _ (Option.some.inj e))).trans e) (UvL.lockR hu n1 n2 ds _ n b)
  | .lst ds, _, n, h => by
    cases h with
    | @lst a xs _ na e b => exact .lst na ((upd_ne (fun z => by rw [z, hu] at e; exact n2 _ (Option.some.inj e))).trans e) (UvL.lockR hu n1 n2 ds _ n b)
  | .dic ks vs, _, n, h => by cases n
theorem UvL.lockR {w : World} {H : Hp} {a0 : Addr} {u o : HO} (hu : H a0 = some u) (n1 : ∀ xs, u ≠ .tup xs) (n2 : ∀ xs, u ≠ .lst xs) : ∀ (ds : List U) (vs : List V), noDs ds = true → UvL w H vs ds → UvL w (upd H a0 o) vs ds
  | [], _, _, h => by cases h; exact .nil
  | d :: ds, _, n, h => by
    cases h with
    | cons a b =>
      simp only [noDs, Bool.and_eq_true] at n
      exact .cons (Uv.lockR hu n1 n2 d _ n.1 a) (UvL.lockR hu n1 n2 ds _ n.2 b)
end
theorem UvL.len {w : World} {H : Hp} : ∀ {vs : List V} {ds : List U}, UvL w H vs ds → vs.length = ds.length
  | _, _, .nil => rfl
  | _, _, .cons _ h => congrArg (· + 1) (UvL.len h)
theorem UvL.get {w : World} {H : Hp} : ∀ {vs : List V} {ds : List U} {i : Nat} {v : V}, UvL w H vs ds → vs[i]? = some v → ∃ d, ds[i]? = some d ∧ Uv w H v d
  | _, _, _, _, .nil, e => by simp at e
  | _, _, 0, _, .cons a _, e => by simp at e; subst e; exact ⟨_, rfl, a⟩
  | _, _, i + 1, _, .cons _ b, e => by
    obtain ⟨d, h1, h2⟩ := UvL.get (i := i) b (by simpa using e)
    exact ⟨d, by simpa using h1, h2⟩
theorem UvL.getD {w : World} {H : Hp} : ∀ {vs : List V} {ds : List U} {i : Nat} {d : U}, UvL w H vs ds → ds[i]? = some d → ∃ v, vs[i]? = some v ∧ Uv w H v d
  | _, _, _, _, .nil, e => by simp at e
  | _, _, 0, _, .cons a _, e => by simp at e; subst e; exact ⟨_, rfl, a⟩
  | _, _, i + 1, _, .cons _ b, e => by
    obtain ⟨d, h1, h2⟩ := UvL.getD (i := i) b (by simpa using e)
    exact ⟨d, by simpa using h1, h2⟩
theorem UvL.app {w : World} {H : Hp} : ∀ {vs : List V} {ds : List U} {us : List V} {es : List U}, UvL w H vs ds → UvL w H us es → UvL w H (vs ++ us) (ds ++ es)
  | _, _, _, _, .nil, h => h
  | _, _, _, _, .cons a b, h => .cons a (UvL.app b h)
theorem UvL.mk {w : World} {H : Hp} : ∀ {vs : List V} {ds : List U}, vs.length = ds.length → (∀ (i : Nat) (v : V) (d : U), vs[i]? = some v → ds[i]? = some d → Uv w H v d) → UvL w H vs ds
  | [], [], _, _ => .nil
  | [], _ :: _, h, _ => by cases h
  | _ :: _, [], h, _ => by cases h
  | v :: vs, d :: ds, h, k => .cons (k 0 v d rfl rfl) (UvL.mk (by simpa using h) fun i x y e1 e2 => k (i + 1) x y (by simpa using e1) (by simpa using e2))
/-! as data that is shown -/
mutual
def pd : U → PyData
  | .non => .none
  | .bl b => .bool b
  | .int i => .int i
  | .str x => .str x
  | .tup ds => .tuple (pds ds)
  | .lst ds => .list (pds ds)
  | .dic ks vs => .dict ((pds ks).zip (pds vs))
def pds : List U → List PyData
  | [] => []
  | d :: ds => pd d :: pds ds
end
theorem pds_map (ds : List U) : pds ds = ds.map pd := by
  induction ds with
  | nil => rfl
  | cons d ds ih => rw [pds, ih]; rfl
/-! whole numbers of a few figures, or ten to the thirtieth; short texts -/
mutual
def good : U → Bool
  | .int i => decide (i.natAbs < 10 ^ 12) || decide (i = 10 ^ 30)
  | .str x => PyData.strOk x && decide (x.length ≤ 100)
  | .tup ds => goods ds
  | .lst ds => goods ds
  | .dic ks vs => goods ks && goods vs
  | _ => true
def goods : List U → Bool
  | [] => true
  | d :: ds => good d && goods ds
end
mutual
def wt : U → Nat
  | .int _ => 140
  | .str _ => 100
  | .tup ds => wts ds
  | .lst ds => wts ds
  | .dic ks vs => wts ks + wts vs
  | _ => 0
def wts : List U → Nat
  | [] => 0
  | d :: ds => wt d + 1 + wts ds
end
mutual
def dp : U → Nat
  | .tup ds => dps ds + 1
  | .lst ds => dps ds + 1
  | .dic ks vs => max (dps ks) (dps vs) + 1
  | _ => 0
def dps : List U → Nat
  | [] => 0
  | d :: ds => max (dp d) (dps ds)
end
theorem show_zip : ∀ as bs : List PyData, PyData.showableAll as = true → PyData.showableAll bs = true → PyData.showableKv (as.zip bs) = true
  | [], _, _, _ => rfl
  | _ :: _, [], _, _ => rfl
  | a :: as, b :: bs, h1, h2 => by
    simp only [PyData.showableAll, Bool.and_eq_true] at h1 h2
    simp only [List.zip_cons_cons, PyData.showableKv, Bool.and_eq_true]
    exact ⟨⟨h1.1, h2.1⟩, show_zip as bs h1.2 h2.2⟩
theorem leaf_zip (B : Nat) : ∀ as bs : List PyData, PyData.leavesShortAll B as = true → PyData.leavesShortAll B bs = true → PyData.leavesShortKv B (as.zip bs) = true
  | [], _, _, _ => rfl
  | _ :: _, [], _, _ => rfl
  | a :: as, b :: bs, h1, h2 => by
    simp only [PyData.leavesShortAll, Bool.and_eq_true] at h1 h2
    simp only [List.zip_cons_cons, PyData.leavesShortKv, Bool.and_eq_true]
    exact ⟨⟨h1.1, h2.1⟩, leaf_zip B as bs h1.2 h2.2⟩
theorem wt_zip : ∀ as bs : List PyData, PyData.weightKv (as.zip bs) ≤ PyData.weightAll as + PyData.weightAll bs
  | [], _ => Nat.zero_le _
  | _ :: _, [] => Nat.zero_le _
  | a :: as, b :: bs => by
    have := wt_zip as bs
    simp only [List.zip_cons_cons, PyData.weightKv, PyData.weightAll]
    omega
theorem dp_zip : ∀ as bs : List PyData, PyData.depthKv (as.zip bs) ≤ max (PyData.depthAll as) (PyData.depthAll bs)
  | [], _ => Nat.zero_le _
  | _ :: _, [] => Nat.zero_le _
  | a :: as, b :: bs => by
    have := dp_zip as bs
    simp only [List.zip_cons_cons, PyData.depthKv, PyData.depthAll]
    omega
theorem far_good : (10 ^ 30 : Int).natAbs.log2 < 131 ∧ (PyData.shown (.int (10 ^ 30))).length ≤ 41 := ⟨by decide +kernel, by decide +kernel⟩
theorem int_good {i : Int} (h : (decide (i.natAbs < 10 ^ 12) || decide (i = 10 ^ 30)) = true) : i.natAbs.log2 < 131 ∧ (PyData.shown (.int i)).length ≤ 41 := by
  rw [Bool.or_eq_true, decide_eq_true_eq, decide_eq_true_eq] at h
  rcases h with h | rfl
  · refine ⟨?_, Nat.le_trans (PyData.shown_int_le h) (by decide)⟩
    by_cases z : i.natAbs = 0
    · rw [z]; decide
    · rw [Nat.log2_lt z]
      exact Nat.lt_trans h (by decide +kernel)
  · exact far_good
mutual
theorem pd_good : ∀ d : U, good d = true → (pd d).showable = true ∧ (pd d).leavesShort 41 = true ∧ (pd d).weight ≤ wt d ∧ (pd d).depth ≤ dp d
  | .non, _ => ⟨rfl, rfl, Nat.le_refl _, Nat.le_refl _⟩
  | .bl _, _ => ⟨rfl, rfl, Nat.le_refl _, Nat.le_refl _⟩
  | .int i, h => by
    obtain ⟨a, b⟩ := int_good h
    refine ⟨decide_eq_true (by omega), decide_eq_true b, ?_, Nat.le_refl _⟩
    show (if (i == 0) = true then 0 else i.natAbs.log2 + 1) ≤ 140
    split <;> omega
  | .str x, h => by
    simp only [good, Bool.and_eq_true, decide_eq_true_eq] at h
    refine ⟨rfl, ?_, h.2, Nat.le_refl _⟩
    have h0 : x.cps.all (· < 0x110000) = true := h.1
    simp only [pd, PyData.leavesShort, List.all_eq_true, decide_eq_true_eq]
    intro c hc
    have := (Array.all_eq_true_iff_forall_mem.mp h0) c (Array.mem_toList_iff.mp hc)
    have e1 : c < 0x110000 := by simpa using this
    have e : (16 : Nat) ^ 8 = 4294967296 := by decide
    omega
  | .tup ds, h => by
    obtain ⟨a, b, c, e⟩ := pds_good ds h
    exact ⟨a, b, c, Nat.succ_le_succ e⟩
  | .lst ds, h => by
    obtain ⟨a, b, c, e⟩ := pds_good ds h
    exact ⟨a, b, c, Nat.succ_le_succ e⟩
  | .dic ks vs, h => by
    simp only [good, Bool.and_eq_true] at h
    obtain ⟨a, b, c, e⟩ := pds_good ks h.1
    obtain ⟨a2, b2, c2, e2⟩ := pds_good vs h.2
    have w1 := wt_zip (pds ks) (pds vs)
    have w2 := dp_zip (pds ks) (pds vs)
    refine ⟨show_zip _ _ a a2, leaf_zip _ _ _ b b2, ?_, ?_⟩
    · show PyData.weightKv _ ≤ wts ks + wts vs
      omega
    · show PyData.depthKv _ + 1 ≤ max (dps ks) (dps vs) + 1
      omega
theorem pds_good : ∀ ds : List U, goods ds = true → PyData.showableAll (pds ds) = true ∧ PyData.leavesShortAll 41 (pds ds) = true ∧ PyData.weightAll (pds ds) ≤ wts ds ∧ PyData.depthAll (pds ds) ≤ dps ds
  | [], _ => ⟨rfl, rfl, Nat.le_refl _, Nat.le_refl _⟩
  | d :: ds, h => by
    simp only [goods, Bool.and_eq_true] at h
    obtain ⟨a, b, c, e⟩ := pd_good d h.1
    obtain ⟨a2, b2, c2, e2⟩ := pds_good ds h.2
    simp only [pds, PyData.showableAll, PyData.leavesShortAll, PyData.weightAll, PyData.depthAll, wts, dps, a, a2, b, b2]
    exact ⟨rfl, rfl, by omega, by omega⟩
end
section
variable {X : Cx} {pins : List (Addr × Obj)} {σ : L2.St} {H : Hp} {s : Shared}
theorem ent_keys {w : World} : ∀ {ar : List DictEntry} {es : List (NestedKey × V × V)}, Paired (EntV w) ar es → Vals (es.map fun e => e.2.1) (ar.map (·.key))
  | _, _, .nil => .nil
  | _, _, .cons x t => .cons x.2.1 (ent_keys t)
theorem ent_vals {w : World} : ∀ {ar : List DictEntry} {es : List (NestedKey × V × V)}, Paired (EntV w) ar es → Vals (es.map fun e => e.2.2) (ar.map (·.val))
  | _, _, .nil => .nil
  | _, _, .cons x t => .cons x.2.2 (ent_vals t)
mutual
theorem reads_u (I : Inv X pins σ H s) : ∀ (d : U) (v : V) (u : Value), Uv X.w H v d → RelV v u → ∃ as, Reads s.heap u (pd d) as ∧ sysModules ∉ as
  | .non, _, u, h, r => by
    cases h
    cases (show u = Value.none from r)
    exact ⟨_, .none, List.not_mem_nil⟩
  | .bl b, _, u, h, r => by
    cases h
    cases (show u = Value.bool b from r)
    exact ⟨_, .bool b, List.not_mem_nil⟩
  | .int i, _, u, h, r => by
    cases h
    obtain ⟨t, rfl⟩ := r
    exact ⟨_, .int i t, List.not_mem_nil⟩
  | .str x, _, u, h, r => by
    cases h
    obtain ⟨t, rfl⟩ := r
    exact ⟨_, .str x t, List.not_mem_nil⟩
  | .tup ds, _, u, h, r => by
    cases h with
    | @tup a xs _ e hd =>
      cases (show u = Value.ref a from r)
      obtain ⟨_, its, rv, o, h1, h2, n, h3⟩ := I.hok a _ e
      obtain ⟨as, k1, k2⟩ := reads_us I ds xs its hd rv
      exact ⟨as, .tuple h1 h2 h3 k1, k2⟩
  | .lst ds, _, u, h, r => by
    cases h with
    | @lst a xs _ na e hd =>
      cases (show u = Value.ref a from r)
      obtain ⟨_, its, n, rv, h1⟩ := I.hok a _ e
      obtain ⟨as, k1, k2⟩ := reads_us I ds xs its hd rv
      refine ⟨a :: as, .list h1 rfl rfl k1, fun z => ?_⟩
      rcases List.mem_cons.mp z with z | z
      · exact na z.symm
      · exact k2 z
  | .dic ks vs, _, u, h, r => by
    cases h with
    | @dic a es _ _ dd hk hv =>
      cases (show u = Value.ref a from r)
      obtain ⟨⟨_, hs, o, ar, ep, ho, hc, hd, hp⟩, _⟩ := dd.da.raw I.hok
      have rk := ent_keys hp
      have rv := ent_vals hp
      obtain ⟨as, k1, k2⟩ := reads_us I ks _ _ hk rk
      obtain ⟨bs, j1, j2⟩ := reads_us I vs _ _ hv rv
      have l1 := hk.len
      have l2 := hv.len
      rw [List.length_map] at l1 l2
      have e1 : ((pds ks).zip (pds vs)).map (·.1) = pds ks := by
        rw [pds_map, pds_map, show (fun (z : PyData × PyData) => z.1) = Prod.fst from rfl, List.map_fst_zip (by rw [List.length_map, List.length_map]; omega)]
      have e2 : ((pds ks).zip (pds vs)).map (·.2) = pds vs := by
        rw [pds_map, pds_map, show (fun (z : PyData × PyData) => z.2) = Prod.snd from rfl, List.map_snd_zip (by rw [List.length_map, List.length_map]; omega)]
      have na : sysModules ≠ a := fun z => by
        rw [← z] at hs
        simp at hs
      refine ⟨a :: as ++ bs, .dict ho hc.1 hd (by rw [e1]; exact k1) (by rw [e2]; exact j1), fun z => ?_⟩
      rw [List.cons_append] at z
      rcases List.mem_cons.mp z with z | z
      · exact na z
      · rcases List.mem_append.mp z with z | z
        · exact k2 z
        · exact j2 z
theorem reads_us (I : Inv X pins σ H s) : ∀ (ds : List U) (vs : List V) (us : List Value), UvL X.w H vs ds → Vals vs us → ∃ as, ReadsAll s.heap us (pds ds) as ∧ sysModules ∉ as
  | [], _, us, h, r => by
    cases h
    cases r
    exact ⟨[], .nil, List.not_mem_nil⟩
  | d :: ds, _, us, h, r => by
    cases h with
    | cons a b =>
      cases r with
      | cons r1 r2 =>
        obtain ⟨as, k1, k2⟩ := reads_u I d _ _ a r1
        obtain ⟨bs, j1, j2⟩ := reads_us I ds _ _ b r2
        refine ⟨as ++ bs, .cons k1 j1, fun z => ?_⟩
        rcases List.mem_append.mp z with z | z
        · exact k2 z
        · exact j2 z
end
/-- repr of such data -/
def rReprU (w : World) : List V → Hp → VK → Prop := fun vs H Q => ∃ v d, vs = [v] ∧ Uv w H v d ∧ good d = true ∧ dp d ≤ 58 ∧ wt d ≤ 300000 ∧ ((pd d).shown.length ≤ sizeLine → Q (.str (pd d).shown) H)
theorem call_reprU {k : Nat} (hr : Room k X.A) (gd : X.A.guards = some []) : CallR X (.builtin "repr") (rReprU X.w) := by
  intro pins s σ H xs us Q I r h
  obtain ⟨v, d, rfl, hv, hg, hz, hw, q⟩ := h
  obtain ⟨u, rfl, ru⟩ := r.one
  obtain ⟨as, rd, ns⟩ := reads_u I d v u hv ru
  obtain ⟨h1, h2, h3, h4⟩ := pd_good d hg
  have hl : (pd d).shown.length ≤ sizeLine := by
    have e := PyData.shown_le 41 (by decide) (pd d) h2
    have e3 : sizeLine = 16777216 := by decide
    omega
  have hu := hr.units
  have done : ∀ (tk : Tok) (t : Nat), EP X pins σ Q (.str (pd d).shown tk) { s with toks := t } := fun tk t => ⟨.str (pd d).shown, H, I.tok _, ⟨_, rfl⟩, q hl⟩
  have ref : ∀ a, u = .ref a → wpAny (model X.prog X.w) X.A (call (.builtin "repr") [.ref a]) (EP X pins σ Q) X.xe s := fun a e => by
    subst e
    refine repr_of_reads' rd h1 (fun _ => ns) gd (by omega) (fun _ _ e => e) (fun h' u tk hk => ?_) hl
    exact ⟨.str _, H, I.un (t' := tk) (Un.kept hk) (I.hok.kept hk), ⟨u, rfl⟩, q hl⟩
  cases hv with
  | non =>
    cases ru
    exact PySem.P.repr_of_none (done _ _)
  | bl b => cases b <;> (cases ru; exact PySem.P.repr_of_bool (done _ _))
  | int i =>
    obtain ⟨t, rfl⟩ := ru
    exact PySem.P.repr_of_int (by simpa [pd, PyData.showable] using h1) (done _ _)
  | str z =>
    obtain ⟨t, rfl⟩ := ru
    exact PySem.P.repr_of_str (done _ _) hl
  | lst _ a b =>
    cases ru
    exact ref _ rfl
  | tup a b =>
    cases ru
    exact ref _ rfl
  | dic a b c =>
    cases ru
    exact ref _ rfl
end
end NkD
set_option maxRecDepth 100000
set_option maxHeartbeats 2000000
/-! names that the document calls names -/
namespace Fm
open PySem PySem.Spec PyProof.Rows L2
theorem sign_low : ∀ k, k < 26 → signOk ⟨#[97 + k]⟩ = true := by decide +kernel
theorem isNameS_low {x : Str} (h : okL x = true) (h1 : 1 ≤ x.length) (h8 : x.length ≤ 8) : isNameS x = true := by
  unfold isNameS
  rw [decide_eq_true h1, decide_eq_true h8, Bool.true_and, Bool.true_and, List.all_eq_true]
  intro y hy
  unfold signs at hy
  obtain ⟨c, hc, rfl⟩ := List.mem_map.mp hy
  obtain ⟨l1, l2⟩ := okL_iff.mp h c hc
  obtain ⟨k, rfl⟩ : ∃ k, c = 97 + k := ⟨c - 97, by omega⟩
  exact sign_low k (by omega)
theorem cut_len {x : Str} {lo hi : Option Int} : (cutS x lo hi).length = min (HT.sIx x.length x.length hi - HT.sIx x.length 0 lo) (x.length - HT.sIx x.length 0 lo) := by
  have l : x.cps.toList.length = x.length := by simp [Str.length]
  unfold cutS
  show (List.toArray _).size = _
  rw [List.size_toArray, List.length_take, List.length_drop, l]
theorem cut_two {x : Str} {a : Int} (h0 : 0 ≤ a) : (cutS x none (some a)).length + (cutS x (some a) none).length = x.length := by
  rw [cut_len, cut_len, sIx_none, sIx_none, sIx_at h0, sIx_at h0]
  omega
theorem dvl_strsK {H : Hp} : ∀ {acc : List V} {ds : List D}, DvL H acc ds → (∀ d ∈ ds, ∃ x, d = .str x ∧ okL x = true ∧ 1 ≤ x.length ∧ x.length ≤ 8) → ∃ ys : List Str, acc = ys.map V.str ∧ (∀ y ∈ ys, okL y = true ∧ 1 ≤ y.length ∧ y.length ≤ 8) ∧ ys.length = ds.length
  | _, _, .nil, _ => ⟨[], rfl, fun _ h => (by cases h), rfl⟩
  | _, _, .cons a b, h => by
    obtain ⟨ys, e, f, g⟩ := dvl_strsK b fun d hd => h d (List.mem_cons_of_mem _ hd)
    obtain ⟨x, rfl, o, l⟩ := h _ List.mem_cons_self
    cases a
    refine ⟨x :: ys, by rw [e]; rfl, fun y hy => ?_, by simp [g]⟩
    rcases List.mem_cons.mp hy with rfl | hy
    · exact ⟨o, l⟩
    · exact f y hy
/-- some names of one to eight small letters -/
def spNamesK : Sp := fun vs H Q _ => ∃ b p n, vs = [.ref b, .int n] ∧ Bag b p H ∧ 0 ≤ n ∧ n ≤ 20 ∧
  ∀ (l : Addr) (H' : Hp) (xs : List Str), Go b p H H' → newof H H' l = some (.lst (xs.map V.str)) → (xs.length : Int) = n → (∀ x ∈ xs, okL x = true ∧ 1 ≤ x.length ∧ x.length ≤ 8) → Q (.ref l) H'
/-- stored under a name -/
def putS {α : Type} (l : List (Str × α)) (n : Str) (a : α) : List (Str × α) := if (l.any fun p => decide (p.1 = n)) = true then l.map (fun p => if p.1 = n then (p.1, a) else p) else l ++ [(n, a)]
section
variable {α : Type} {l : List (Str × α)} {n : Str} {a : α}
theorem mem_putS {p : Str × α} (h : p ∈ putS l n a) : p ∈ l ∨ p = (n, a) := by
  unfold putS at h
  split at h
  · obtain ⟨q, hq, rfl⟩ := List.mem_map.mp h
    by_cases c : q.1 = n
    · rw [if_pos c, c]; exact .inr rfl
    · rw [if_neg c]; exact .inl hq
  · rcases List.mem_append.mp h with h | h
    · exact .inl h
    · exact .inr (List.mem_singleton.mp h)
theorem len_putS : (putS l n a).length ≤ l.length + 1 ∧ 1 ≤ (putS l n a).length := by
  unfold putS
  split
  · rename_i h
    rw [List.length_map]
    refine ⟨Nat.le_succ _, ?_⟩
    cases l with
    | nil => simp at h
    | cons _ _ => simp
  · rw [List.length_append]
    exact ⟨Nat.le_refl _, Nat.le_add_left _ _⟩
theorem nds_putS (nd : Nds l) : Nds (putS l n a) := by
  unfold putS Nds
  split
  · have e : (l.map fun p => if p.1 = n then (p.1, a) else p).map (·.1) = l.map (·.1) := by
      rw [List.map_map]
      refine List.map_congr_left fun p _ => ?_
      show (if p.1 = n then (p.1, a) else p).1 = p.1
      split <;> rfl
    rw [e]
    exact nd
  · rename_i h
    rw [List.map_append]
    refine List.nodup_append.mpr ⟨nd, by simp, fun x hx y hy => ?_⟩
    obtain ⟨p, hp, rfl⟩ := List.mem_map.mp hx
    simp only [List.map_cons, List.map_nil, List.mem_singleton] at hy
    subst hy
    intro e
    exact h (List.any_eq_true.mpr ⟨p, hp, decide_eq_true e⟩)
end
theorem any_keys {α : Type} {l : List (Str × α)} {ks : List (Key × V)} (h : ks.map (·.1) = (l.map (·.1)).map Sum.inr) (n : Str) : (ks.any fun kv => decide (kv.1 = (.inr n : Key))) = l.any fun p => decide (p.1 = n) := by
  induction ks generalizing l with
  | nil =>
    cases l with
    | nil => rfl
    | cons p l => simp at h
  | cons k ks ih =>
    cases l with
    | nil => simp at h
    | cons p l =>
      simp only [List.map_cons, List.cons.injEq] at h
      rw [List.any_cons, List.any_cons, ih h.2, h.1]
      congr 1
      rw [Bool.eq_iff_iff, decide_eq_true_iff, decide_eq_true_iff]
      exact ⟨fun e => Sum.inr.inj e, fun e => congrArg Sum.inr e⟩
theorem kO_put (o : Outs) (n : Str) (i : Int) : putK (kO o) (.inr n) (.int i) = kO (putS o n i) := by
  have e := any_keys (l := o) (ks := kO o) (by unfold kO; rw [List.map_map, List.map_map]; rfl) n
  unfold putK putS
  rw [e]
  split
  · unfold kO
    rw [List.map_map, List.map_map]
    refine List.map_congr_left fun p _ => ?_
    show (if (Sum.inr p.1 : Key) = Sum.inr n then ((Sum.inr p.1 : Key), V.int i) else (Sum.inr p.1, V.int p.2)) = (Sum.inr (if p.1 = n then (p.1, i) else p).1, V.int (if p.1 = n then (p.1, i) else p).2)
    by_cases c : p.1 = n
    · rw [if_pos c, if_pos (congrArg Sum.inr c)]
    · rw [if_neg c, if_neg (fun z => c (Sum.inr.inj z))]
  · unfold kO
    rw [List.map_append]
    rfl
theorem ActsL.app {H : Hp} {ks : List (Key × V)} {l : Acts} (h : ActsL H ks l) {n : Str} {v : V} {a : Int × Outs} (o : ActAt H v a) : ActsL H (ks ++ [(.inr n, v)]) (l ++ [(n, a)]) := by
  induction h with
  | nil => exact .cons o .nil
  | cons b _ ih => exact .cons b ih
theorem ActsL.map {H : Hp} {ks : List (Key × V)} {l : Acts} (h : ActsL H ks l) {n : Str} {v : V} {a : Int × Outs} (o : ActAt H v a) :
    ActsL H (ks.map fun kv => if kv.1 = (.inr n : Key) then (kv.1, v) else kv) (l.map fun p => if p.1 = n then (p.1, a) else p) := by
  induction h with
  | nil => exact .nil
  | @cons m w b ks l hb _ ih =>
    rw [List.map_cons, List.map_cons]
    by_cases c : m = n
    · rw [if_pos (congrArg Sum.inr c), if_pos c]
      exact .cons o ih
    · rw [if_neg (fun z => c (Sum.inr.inj z)), if_neg c]
      exact .cons hb ih
theorem ActsL.put {H : Hp} {ks : List (Key × V)} {l : Acts} (h : ActsL H ks l) {n : Str} {v : V} {a : Int × Outs} (o : ActAt H v a) : ActsL H (putK ks (.inr n) v) (putS l n a) := by
  unfold putK putS
  rw [any_keys h.keys n]
  split
  · exact h.map o
  · exact h.app o
/-- a name of the law -/
def NmOk (x : Str) : Prop := okL x = true ∧ 1 ≤ x.length ∧ x.length ≤ 8
structure OutsSm (o : Outs) : Prop where
  nd : Nds o
  lo : 1 ≤ o.length
  hi : o.length ≤ 3
  ok : ∀ p ∈ o, NmOk p.1 ∧ 0 ≤ p.2 ∧ p.2 < 3
structure ActsSm (k : Nat) (l : Acts) : Prop where
  nd : Nds l
  hi : l.length ≤ k
  ok : ∀ p ∈ l, NmOk p.1 ∧ 0 ≤ p.2.1 ∧ p.2.1 < 3 ∧ OutsSm p.2.2
theorem newof_updn {H H2 : Hp} {l : Addr} {o : HO} (h : H l = none) : newof H (upd H2 l o) = upd (newof H H2) l o := by
  funext a
  unfold newof
  by_cases c : a = l
  · rw [c, h, upd_same, upd_same]
  · rw [upd_ne c, upd_ne c]
end Fm
set_option maxRecDepth 100000
set_option maxHeartbeats 2000000
/-! such data: what they are -/
namespace NkD
open PySem PySem.Spec PyProof.Rows L2 Fm
theorem hu9 {k : Nat} {A : Around} (r : Room k A) : A.units + 9 < cLine := by have := r.un; omega
theorem hu10 {k : Nat} {A : Around} (r : Room k A) : A.units + 10 < cLine := by have := r.un; omega
section
variable {X : Cx}
theorem ps_alt {st : Stmt} {t1 t2 : TS} (h1 : PS X st t1) (h2 : PS X st t2) : PS X st (fun D σ H => t1 D σ H ∨ t2 D σ H) :=
  ⟨fun pins s σ H D I h => h.elim (h1.run pins s σ H D I) (h2.run pins s σ H D I)⟩
theorem pe_ngetK {w : World} (e : X.w = w) {o i : Expr} {pos : Pos} {td ty : TE} (hu : X.A.units + 9 < cLine) (ho : PE X o td) (hi : PE X i ty) (hs : NoSl i) : PE X (.Subscript o i pos) (tNGet w td ty) := e ▸ pe_nget hu ho hi hs
theorem call_isiNK {w : World} {K : PySem.W.Frag} (e : X.w = w) (e2 : X.K = K) : CallR X (.builtin "isinstance") (rIsiN w K) := e ▸ e2 ▸ call_isiN
end
/-! types -/
def tyU : U → Value
  | .non => .type "NoneType"
  | .bl _ => .type "bool"
  | .int _ => .type "int"
  | .str _ => .type "str"
  | .tup _ => .type "tuple"
  | .lst _ => .type "list"
  | .dic _ _ => .type "dict"
theorem Uv.ty {w : World} {K : PySem.W.Frag} {H : Hp} {v : V} {d : U} (h : Uv w H v d) : TyN w K H v (tyU d) := by
  cases h with
  | non => exact .base (.base (.base .non))
  | bl b => exact .base (.base (.base (.bl b)))
  | int i => exact .base (.base (.base (.int i)))
  | str x _ => exact .base (.base (.base (.str x)))
  | tup e _ => exact .base (.base (.base (.tup e)))
  | lst _ e _ => exact .base (.base (.base (.lst e)))
  | dic e _ _ => exact .raw e.da
def isDic : U → Bool
  | .dic _ _ => true
  | _ => false
def isTup : U → Bool
  | .tup _ => true
  | _ => false
def isInt : U → Bool
  | .int _ => true
  | .bl _ => true
  | _ => false
def isBl : U → Bool
  | .bl _ => true
  | _ => false
def isStr : U → Bool
  | .str _ => true
  | _ => false
theorem kit_dic {K : PySem.W.Frag} (d : U) : PySem.W.kitOne K (tyU d) (.type "dict") = some (isDic d) := by cases d <;> rfl
theorem kit_tup {K : PySem.W.Frag} (d : U) : PySem.W.kitOne K (tyU d) (.type "tuple") = some (isTup d) := by cases d <;> rfl
theorem kit_int {K : PySem.W.Frag} (d : U) : PySem.W.kitOne K (tyU d) (.type "int") = some (isInt d) := by cases d <;> rfl
theorem kit_bl {K : PySem.W.Frag} (d : U) : PySem.W.kitOne K (tyU d) (.type "bool") = some (isBl d) := by cases d <;> rfl
theorem kit_str {K : PySem.W.Frag} (d : U) : PySem.W.kitOne K (tyU d) (.type "str") = some (isStr d) := by cases d <;> rfl
/-! what the program and the law ask -/
def wholeU : U → Bool
  | .int _ => true
  | _ => false
def belowU (n : Int) : U → Bool
  | .int i => decide (0 ≤ i) && decide (i < n)
  | _ => false
def nameU : U → Bool
  | .str x => isNameS x
  | _ => false
def outU : U → Bool
  | .str x => isOutS x
  | _ => false
def pairU (p : U × U) : Bool := outU p.1 && belowU 3 p.2
def outsU : U → Bool
  | .dic ks vs => decide (1 ≤ ks.length) && decide (ks.length ≤ 6) && (ks.zip vs).all pairU
  | _ => false
def actU : U → Bool
  | .tup [n, o] => belowU 3 n && outsU o
  | _ => false
theorem outU_str {k : U} (h : outU k = true) : ∃ x, k = .str x := by
  cases k with
  | str x => exact ⟨x, rfl⟩
  | _ => cases h
theorem nameU_str {k : U} (h : nameU k = true) : ∃ x, k = .str x := by
  cases k with
  | str x => exact ⟨x, rfl⟩
  | _ => cases h
/-- a dict whose keys are texts is one of names -/
theorem strs_dict {w : World} {H : Hp} {v : V} {ks vs : List U} (h : Uv w H v (.dic ks vs)) (hk : ∀ k ∈ ks, ∃ x, k = .str x) :
    ∃ (a : Addr) (kvs : List (Key × V)) (l : List (Str × U)), v = .ref a ∧ H a = some (.dK kvs) ∧ ks = l.map (fun p => .str p.1) ∧ vs = l.map (·.2) ∧ kvs.map (·.1) = l.map (fun p => .inr p.1) ∧ UvL w H (kvs.map (·.2)) (l.map (·.2)) ∧ (l.map (·.1)).Nodup ∧ (∀ p ∈ l, PyData.strOk p.1 = true) := by
  cases h with
  | @dic a es _ _ dd h1 h2 =>
  rcases dd with ⟨kvs, r, rfl, nd⟩ | ⟨_, _, ⟨kk, ky, vv⟩, hx, no⟩
  · have e1 : (lift kvs).map (fun e => e.2.1) = kvs.map (fun p => kV p.1) := by unfold lift; rw [List.map_map]; rfl
    have e2 : (lift kvs).map (fun e => e.2.2) = kvs.map (·.2) := by unfold lift; rw [List.map_map]; rfl
    rw [e1] at h1
    rw [e2] at h2
    suffices hs : ∃ l : List (Str × U), ks = l.map (fun p => .str p.1) ∧ vs = l.map (·.2) ∧ kvs.map (·.1) = l.map (fun p => .inr p.1) ∧ (∀ p ∈ l, PyData.strOk p.1 = true) by
      obtain ⟨l, a1, a2, a3, a4⟩ := hs
      refine ⟨a, kvs, l, rfl, r, a1, a2, a3, by rw [← a2]; exact h2, ?_, a4⟩
      rw [a3] at nd
      have e3 : l.map (fun p => (Sum.inr p.1 : Key)) = (l.map (·.1)).map Sum.inr := by rw [List.map_map]; rfl
      rw [e3] at nd
      unfold List.Nodup at nd ⊢
      rw [List.pairwise_map] at nd
      exact nd.imp fun n z => n (congrArg Sum.inr z)
    clear r nd e1 e2
    induction kvs generalizing ks vs with
    | nil =>
      cases h1
      cases h2
      exact ⟨[], rfl, rfl, rfl, fun _ h => (List.not_mem_nil h).elim⟩
    | cons p kvs ih =>
      obtain ⟨kp, vp⟩ := p
      cases h1 with
      | @cons _ _ k ks b1 b2 =>
      cases h2 with
      | @cons _ _ y vs c1 c2 =>
      obtain ⟨l, a1, a2, a3, a4⟩ := ih (fun k hk' => hk k (List.mem_cons_of_mem _ hk')) b2 c2
      obtain ⟨x, rfl⟩ := hk k List.mem_cons_self
      cases kp with
      | inl i => cases b1
      | inr z =>
        cases b1 with
        | str _ o =>
        exact ⟨(x, y) :: l, by rw [a1]; rfl, by rw [a2]; rfl, by rw [List.map_cons, a3]; rfl, fun p hp => by
          rcases List.mem_cons.mp hp with rfl | hp
          · exact o
          · exact a4 p hp⟩
  · exfalso
    obtain ⟨i, hi⟩ := List.mem_iff_getElem?.mp hx
    obtain ⟨k, hk1, hk2⟩ := h1.get (i := i) (v := ky) (by rw [List.getElem?_map, hi]; rfl)
    obtain ⟨z, rfl⟩ := hk k (List.mem_of_getElem? hk1)
    cases hk2 with
    | str _ _ => exact no z rfl
theorem goods_mem {ds : List U} (h : goods ds = true) : ∀ d ∈ ds, good d = true := by
  induction ds with
  | nil => intro d hd; cases hd
  | cons x ds ih =>
    simp only [goods, Bool.and_eq_true] at h
    intro d hd
    rcases List.mem_cons.mp hd with rfl | hd
    · exact h.1
    · exact ih h.2 d hd
end NkD
set_option maxRecDepth 100000
set_option maxHeartbeats 2000000
/-! repr of {"a": [n]}; a new list that is surely not the table of modules -/
namespace L2
open PySem PySem.Spec PyProof.Rows Fm
/-- [e, ..]; the new list is told to stand behind the table of modules -/
def tLstB (t : TA) : TE := fun σ H Q => t σ H fun xs H1 => xs.length ≤ sizeLine ∧ ∀ p, H1 p = none → p ≠ sysModules → Q (.ref p) (upd H1 p (.lst xs))
section
variable {X : Cx} {es : List Expr} {t : TA} {pos : Pos}
theorem pe_lstB (h : PA X es t) : PE X (.List es pos) (tLstB t) := by
  refine ⟨fun pins s σ H Q I hq => ?_⟩
  refine wpAny_List_spliced (thn (h.run pos pins s σ H _ I hq) fun us s1 hh => ?_)
  obtain ⟨xs, H1, I1, r, z, q⟩ := hh
  refine ⟨by rw [← r.length]; exact z, ?_⟩
  have big := I1.big
  refine ⟨.ref s1.heap.objs.size, _, I1.laid (o := .lst xs) (t' := s1.toks) (fun b u e => Heap.get?_push_of_some _ e) (Nat.le_refl _) ⟨z, us, 0, r, Heap.get?_push_size _ rfl⟩, rfl, q _ (I1.hok.fresh (Nat.le_refl _)) fun y => ?_⟩
  rw [y] at big
  exact absurd big (Nat.lt_irrefl _)
/-- repr({x: [n]}) -/
def rReprD : List V → Hp → VK → Prop := fun vs H Q => ∃ (a l : Addr) (x : Str) (n : Int), vs = [.ref a] ∧ H a = some (.dK [(.inr x, .ref l)]) ∧ H l = some (.lst [.int n]) ∧ l ≠ sysModules ∧ (PyData.dict [(.str x, .list [.int n])]).showable = true ∧ (PyData.dict [(.str x, .list [.int n])]).shown.length ≤ sizeLine ∧
  Q (.str (PyData.dict [(.str x, .list [.int n])]).shown) H
theorem call_reprD {k : Nat} (hr : Room k X.A) (gd : X.A.guards = some []) : CallR X (.builtin "repr") rReprD := by
  intro pins s σ H xs us Q I r h
  obtain ⟨a, l, x, n, rfl, ha, hl, nl, hs, hz, q⟩ := h
  obtain ⟨u, rfl, ru⟩ := r.one
  cases (show u = Value.ref a from ru)
  obtain ⟨_, nS, vs, rel, o, es, ep, h1, h2, h3, h4, h5, h6⟩ := dk_of I.hok ha
  obtain ⟨its, nn, r2, h7, _⟩ := I.lst hl
  have hu := hr.units
  cases rel with
  | @cons p q ps qs h8 h9 =>
  cases h9
  obtain ⟨k1, v1⟩ := q
  obtain ⟨e1, e2⟩ := h8
  cases (show Sum.inr x = k1 from e1)
  cases (show v1 = Value.ref l from e2)
  obtain ⟨eo, hes, hkey, hval⟩ : ∃ e, es.toList = [e] ∧ keyIs (.inr x) e.key = true ∧ e.val = .ref l := by
    generalize es.toList = ls at h5
    cases h5 with
    | @cons e kv es kvs y1 y2 y3 =>
      cases y3
      exact ⟨e, rfl, y1, y2⟩
  obtain ⟨i0, t0, z, _⟩ | ⟨y, t0, z, ek⟩ := keyIs_shape hkey
  · cases z
  cases z
  obtain ⟨it, rfl, ri⟩ := vals1 r2
  obtain ⟨t1, rfl⟩ := ri
  have r3 : Reads s.heap (.ref l) (.list [.int n]) (l :: ([] ++ [])) := .list h7 rfl rfl (.cons (.int n t1) .nil)
  have r4 : Reads s.heap (.ref a) (.dict [(.str x, .list [.int n])]) (a :: ([] ++ []) ++ ((l :: ([] ++ [])) ++ [])) := by
    refine .dict h1 h2.1 h3 ?_ ?_
    · rw [hes]
      show ReadsAll s.heap [eo.key] [.str x] ([] ++ [])
      rw [ek]
      exact .cons (.str x t0) .nil
    · rw [hes]
      show ReadsAll s.heap [eo.val] [.list [.int n]] ((l :: ([] ++ [])) ++ [])
      rw [hval]
      exact .cons r3 .nil
  have na : sysModules ≠ a := fun y => by
    rw [← y] at nS
    simp at nS
  have dz : (PyData.dict [(PyData.str x, PyData.list [PyData.int n])]).depth ≤ 5 := by simp [PyData.depth, PyData.depthKv, PyData.depthAll]
  refine repr_of_reads' r4 hs (fun _ m => ?_) gd (by omega) (fun _ _ e => e) (fun h' u tk hk => ?_) hz
  · simp only [List.append_nil, List.cons_append, List.nil_append, List.mem_cons, List.not_mem_nil, or_false] at m
    rcases m with y | y
    · exact na y
    · exact nl y.symm
  · exact ⟨.str _, H, I.un (t' := tk) (Un.kept hk) (I.hok.kept hk), ⟨u, rfl⟩, q⟩
/-- repr of data, or of such a dict -/
theorem call_reprA {k : Nat} (hr : Room k X.A) (gd : X.A.guards = some []) : CallR X (.builtin "repr") (fun vs H Q => rRepr X.K vs H Q ∨ rReprD vs H Q) := (call_repr hr gd).or (call_reprD hr gd)
end
end L2
set_option maxRecDepth 100000
set_option maxHeartbeats 4000000
namespace Fm
open PySem L2
/-- a class of the program's errors, right under MoveError -/
def veTop : List Value := [.type "ValueError", .type "Exception", .type "BaseException", .type "object"]
def ClsM (K : PySem.W.Frag) (CM C : Addr) : Prop := ∃ nm q N bs sn sub ab col dd k0 k1 k2 k3 k5, K.lookup C = some (excClassObj nm q C N bs (.ref CM :: veTop) true sn sub ab col dd k0 k1 k2 k3 k5 "ValueError.__new__")
def ClsT (K : PySem.W.Frag) (CM : Addr) : Prop := ∃ nm q N bs sn sub ab col dd k0 k1 k2 k3 k5, K.lookup CM = some (excClassObj nm q CM N bs veTop true sn sub ab col dd k0 k1 k2 k3 k5 "ValueError.__new__")
section
variable {K : PySem.W.Frag} {CM C D : Addr}
theorem ClsM.cls (h : ClsM K CM C) : ∃ cd, PySem.W.clsIn K C = some cd ∧ cd.mro = .ref C :: .ref CM :: veTop ∧ cd.hasDict = true := by
  obtain ⟨nm, q, N, bs, sn, sub, ab, col, dd, k0, k1, k2, k3, k5, h⟩ := h
  unfold PySem.W.clsIn
  rw [h]
  exact ⟨_, rfl, rfl, rfl⟩
theorem ClsM.ty (h : ClsM K CM C) : PySem.W.typeIn K (.ref C) = some (.type "type") := by
  obtain ⟨nm, q, N, bs, sn, sub, ab, col, dd, k0, k1, k2, k3, k5, h⟩ := h
  show (List.lookup C K).map (·.cls) = _
  rw [h]
  rfl
theorem ClsT.cls (h : ClsT K CM) : ∃ cd, PySem.W.clsIn K CM = some cd ∧ cd.mro = .ref CM :: veTop := by
  obtain ⟨nm, q, N, bs, sn, sub, ab, col, dd, k0, k1, k2, k3, k5, h⟩ := h
  unfold PySem.W.clsIn
  rw [h]
  exact ⟨_, rfl, rfl⟩
theorem ClsT.ty (h : ClsT K CM) : PySem.W.typeIn K (.ref CM) = some (.type "type") := by
  obtain ⟨nm, q, N, bs, sn, sub, ab, col, dd, k0, k1, k2, k3, k5, h⟩ := h
  show (List.lookup CM K).map (·.cls) = _
  rw [h]
  rfl
theorem ClsM.sub (h : ClsM K CM C) (b : Value) : PySem.W.subIn K (.ref C) b = some ((Value.ref C :: .ref CM :: veTop).contains b) := by
  obtain ⟨cd, h1, h2, _⟩ := h.cls
  show PySem.W.mroIn K C b = _
  unfold PySem.W.mroIn
  rw [h1]
  show (if cd.mro.isEmpty then none else some (cd.mro.contains b)) = _
  rw [h2]
  rfl
theorem ClsM.hd (h : ClsM K CM C) : PySem.W.hasDictIn K C = true := by
  obtain ⟨cd, h1, _, h3⟩ := h.cls
  unfold PySem.W.hasDictIn
  rw [h1]
  exact h3
theorem kit_ref (hc : ∃ cd, PySem.W.clsIn K D = some cd) (ht : PySem.W.typeIn K (.ref D) = some (.type "type")) (t : Value) (ne : (t == .ref D) = false) : PySem.W.kitOne K t (.ref D) = PySem.W.subIn K t (.ref D) := by
  obtain ⟨cd, hc⟩ := hc
  unfold PySem.W.kitOne
  rw [ne]
  show (if ((PySem.W.clsIn K D).isSome && PySem.W.typeIn K (.ref D) == some (.type "type")) = true then PySem.W.subIn K t (.ref D) else none) = _
  rw [hc, ht]
  rfl
theorem ref_beq {a b : Addr} (h : a ≠ b) : ((Value.ref a == .ref b) = false) := by
  rw [beq_eq_false_iff_ne]
  intro y
  cases y
  exact h rfl
theorem has_ref {a b : Addr} (h : a ≠ b) (n : a ≠ CM) : (Value.ref b :: .ref CM :: veTop).contains (.ref a) = false := by
  show ((Value.ref a == .ref b) || ((Value.ref a == .ref CM) || List.elem (.ref a) veTop)) = false
  rw [ref_beq h, ref_beq n]
  rfl
theorem exm_of (hT : ClsT K CM) (h : ClsM K CM C) (ne : C ≠ CM) : PySem.W.exmOne K (.ref C) (.ref CM) = some true := by
  obtain ⟨cd, h1, h2⟩ := hT.cls
  have hs : PySem.W.subIn K (.ref CM) (.type "BaseException") = some true := by
    show PySem.W.mroIn K CM _ = _
    unfold PySem.W.mroIn
    rw [h1]
    show (if cd.mro.isEmpty then none else some (cd.mro.contains _)) = _
    rw [h2]
    rfl
  unfold PySem.W.exmOne
  rw [hs]
  show (if ((PySem.W.clsIn K CM).isSome && PySem.W.typeIn K (.ref CM) == some (.type "type")) = true then PySem.W.subIn K (.ref C) (.ref CM) else none) = _
  rw [h1, hT.ty]
  refine (h.sub _).trans ?_
  show some ((Value.ref _ == .ref _) || ((Value.ref CM == .ref CM) || _)) = _
  rw [beq_self_eq_true, Bool.true_or, Bool.or_true]
theorem excC_of (h : ClsM K CM C) (hg : PySem.W.findIn K (.ref C) "__getattribute__" = some (some (.builtin "BaseException.__getattribute__"))) (hk : PySem.W.findIn K (.ref C) "__getattr__" = some none)
    (ha : PySem.W.findIn K (.ref C) "__class__" = some (some (.builtin "object.__class__"))) (hn : PySem.W.specialIn K (.builtin "object.__class__") "__get__" = some (some (.builtin "getset_descriptor.__get__"))) (ht : PySem.W.takesIn K (.builtin "object.__class__") = some true) : ExcC K C :=
  ⟨hg, hk, (h.sub _).trans rfl, h.hd, ha, hn, ht, (h.sub _).trans rfl⟩
open PySem.W PySem.Calls PyProof.Rows PySem.HandSPX in
theorem refs_of (CM : Addr) : refsVE (.ref CM :: veTop) = true := by
  show refsVE veTop = true
  decide +kernel
end
theorem hk_of {K : PySem.W.Frag} {C : Addr} (h : PySem.W.hasDictIn K C = true) (t : PySem.W.typeIn K (.ref C) = some (.type "type")) : ((PySem.W.clsIn K C).isSome && PySem.W.typeIn K (.ref C) == some (.type "type")) = true := by
  unfold PySem.W.hasDictIn at h
  cases z : PySem.W.clsIn K C with
  | none => rw [z] at h; cases h
  | some cd =>
    rw [t]
    simp
end Fm
set_option maxRecDepth 100000
set_option maxHeartbeats 2000000
/-! == and != by an own __eq__, both answers -/
namespace L2
open PySem PySem.Spec PyProof.Rows
/-- x == y, x an instance of C with an own __eq__ that promises sp -/
def rOwnEq (K : PySem.W.Frag) (C : Addr) (sp : Sp) (E : XK) : R2 := fun x y H Q => ∃ a dx fs t, x = .ref a ∧ H a = some (.ins C dx fs) ∧ TyE K H y t ∧ PySem.W.notFirst K C t = true ∧ sp [x, y] H (fun v H' => ∃ c, v = .bl c ∧ Q v H') E
section
variable {X : Cx}
theorem op_eqOwn {CX : CXT} {C f : Addr} {fd : FuncData} {ps : List Str} {sp : Sp} {E : XK} {n : Nat} (F : FnOk X.prog X.w X.K X.mg X.base CX n f fd ps sp)
    (hs : PySem.W.findIn X.K (.ref C) "__eq__" = some (some (.ref f))) (hf : PySem.W.isFn X.K (.ref f) = true) (hb : Binds X.K fd ps []) (hx : Passes CX X E) (hr : Room n X.A) : OpR X (compareOp .Eq) (rOwnEq X.K C sp E) := by
  intro pins s σ H x y v u Q I rx ry hq
  obtain ⟨a, dx, fs, t, rfl, ha, ty, nf, hsp⟩ := hq
  cases (show v = Value.ref a from rx)
  obtain ⟨mA, J, _⟩ := ins_get I.hok ha
  obtain ⟨od, J, _⟩ := J.look
  obtain ⟨m, hF⟩ := I.fr
  obtain ⟨P, Z, p, _⟩ := kit_ofE I ry ty
  show wpAny (model X.prog X.w) X.A (richCompare .Eq (.ref a) u) (EP X pins σ Q) X.xe s
  refine PySem.W.cmp_K (op := .Eq) (tb := t) hr.units0 hF I.ok.mod.kin J (Z.ty _ _ I.kIn p) nf hs hf ?_
  have hl := F.len _ _ _ _ hsp
  have r2 : Vals [V.ref a, y] [Value.ref a, u] := .cons rfl (.cons ry .nil)
  refine wpAny_call (codeAny_mono (F.run X.A X.stack s H ⟨[.ref a, u], []⟩ [.ref a, u] [.ref a, y] _ E hr I.env0 (by
    have := hb s [.ref a, u] I.kIn (by simpa using hl)
    simpa using this) r2 hsp) fun r s' hq => ?_)
  cases r with
  | error e => exact hx pins σ H s e s' I hq
  | ok fl =>
    cases fl with
    | ret w =>
      obtain ⟨z, H', I', rz, c, ez, q⟩ := I.after hq
      subst ez
      cases rz
      exact ⟨.bl c, H', I', rfl, q⟩
    | next => exact False.elim hq
    | brk => exact False.elim hq
    | cont => exact False.elim hq
end
end L2
set_option maxRecDepth 100000
set_option maxHeartbeats 4000000
/-! == of two tuples of one length within one model, both answers -/
namespace GQ
open PySem PySem.SeqAt
open AutoSeq1 (wpAny_loadPart')
open MeetsSeq MeetsSeq2 MeetsSeq3 SeqRoads2
section
variable {prog : Program} {w : World} {A : Around} {R : Result → Shared → Prop}
theorem tuple_eqP (l b : Addr) (items items2 : Array Value) (n n2 : Nat) (dd dd2 : Option Addr) (sl sl2 : Array (Option Value)) (hsz : items.size = items2.size) (e : Nat → Bool) {s : Shared}
    (he : ∀ i (h1 : i < items.size) (h2 : i < items2.size), EqP prog w A.in1 s items[i] items2[i] (e i))
    (fin : R (.ok (.ret (.bool ((List.range items.size).all e)))) s) (hl1 : s.heap.get? l = some { cls := .type "tuple", dict := dd, data := .seq items n, slots := sl }) (hb1 : s.heap.get? b = some { cls := .type "tuple", dict := dd2, data := .seq items2 n2, slots := sl2 }) :
    wpAny (model prog w) A.in1 (Builtin.«tuple.__eq__» ⟨[.ref l, .ref b], []⟩) (FinOf prog w A R) (fun e s' => R (.error e) s') s := by
  have f2 := AutoSeq1.sub_tuple_tuple
  have hZ : (items.toList.zip items2.toList).length = items.size := by simp [hsz]
  have no : ∀ i, i < items.size → e i = false → (List.range items.size).all e = false := fun i hi hf => by
    rw [List.all_eq_false]
    exact ⟨i, List.mem_range.mpr hi, by rw [hf]; exact fun c => nomatch c⟩
  have s0 : s = s := rfl
  generalize hs : s = t at he fin hl1 hb1 ⊢
  have hst : s = t := hs
  obtain ⟨hp, g, d, tk, os⟩ := t
  wp_walk using wpAny_loadPart' hl1, wpAny_loadPart' hb1, wpAny_forIn_list _ (fun rest b s' => b.1 = none ∧ ∃ i, rest = (items.toList.zip items2.toList).drop i ∧ i ≤ items.size ∧ (∀ j, j < i → e j = true) ∧ s' = ⟨hp, g, d, tk, os⟩) _
  case turn =>
    rintro ⟨y, x⟩ rest b s' ⟨hb', i, hz, hi, hI, rfl⟩
    have hlt : i < (items.toList.zip items2.toList).length := by
      rcases Nat.lt_or_ge i (items.toList.zip items2.toList).length with h' | h'
      · exact h'
      · rw [List.drop_of_length_le h'] at hz; cases hz
    have h1 : i < items.size := hZ ▸ hlt
    have h2 : i < items2.size := hsz ▸ h1
    rw [List.drop_eq_getElem_cons hlt] at hz
    injection hz with hyx hrest
    have hy : y = items[i] := by have := congrArg Prod.fst hyx; simpa using this
    have hx : x = items2[i] := by have := congrArg Prod.snd hyx; simpa using this
    subst hy hx
    refine wpAny_bind (he i h1 h2 _ _ ?_)
    cases hei : e i with
    | true =>
      wp_walk
      refine ⟨rfl, i + 1, hrest, h1, fun j hj => ?_, rfl⟩
      by_cases c : j = i
      · rw [c]; exact hei
      · exact hI j (by omega)
    | false =>
      have hR := fin
      rw [no i h1 hei] at hR
      wp_walk
      exact hR
  case fin =>
    rintro ⟨b1, b2⟩ s' ⟨hb', i, hz, hi, hI, rfl⟩
    simp only at hb'
    subst hb'
    have hge : items.size ≤ i := by
      rcases Nat.lt_or_ge i (items.toList.zip items2.toList).length with h' | h'
      · rw [List.drop_eq_getElem_cons h'] at hz; cases hz
      · exact hZ ▸ h'
    have hi' : i = items.size := by omega
    have hall : (List.range items.size).all e = true := List.all_eq_true.mpr fun j hj => hI j (by have := List.mem_range.mp hj; omega)
    rw [hall] at fin
    wp_walk
    simpa [Builtin.Tuple.tupleCompareSizes, hsz] using fin
  case h =>
    exact ⟨rfl, 0, rfl, Nat.zero_le _, fun j hj => absurd hj (Nat.not_lt_zero j), rfl⟩
theorem rcP_tuples {A : Around} {s : Shared} {l b : Addr} {items items2 : Array Value} {e : Nat → Bool} (hl : s.heap.IsTuple l items) (hb : s.heap.IsTuple b items2) (hsz : items.size = items2.size) (hu : A.units < cLine)
    (he : ∀ j (h1 : j < items.size) (h2 : j < items2.size), EqP prog w A.in1 s items[j] items2[j] (e j)) (E Q : Value → Shared → Prop) (h : Q (.bool ((List.range items.size).all e)) s) : wpAny (model prog w) A (richCompare .Eq (.ref l) (.ref b)) Q E s := by
  obtain ⟨⟨cls, dd, data, sl⟩, ho, hc, n, hd⟩ := id hl
  obtain ⟨⟨cls2, dd2, data2, sl2⟩, ho2, hc2, n2, hd2⟩ := id hb
  simp only at hc hd hc2 hd2
  subst hc hd hc2 hd2
  refine wpAny_richCompare_same_room (op := .Eq) ⟨_, ho, rfl⟩ ⟨_, ho2, rfl⟩ F.slot_tuple_eq (call_here F.slot_tuple_eq ⟨_, ho, rfl⟩ F.entry_tuple_eq (F.args_tuple_eq_2 _ _) ?_) hu
  exact tuple_eqP (R := wants (fun v s' => v ≠ .notImplemented ∧ Q v s') E) l b items items2 n n2 dd dd2 sl sl2 hsz e he ⟨(fun x => nomatch x), h⟩ ho ho2
end
end GQ
set_option maxRecDepth 100000
set_option maxHeartbeats 2000000
/-! == of nested dicts and tuples, both answers -/
namespace L2
open PySem PySem.Spec PyProof.Rows
/-- the pairs of one dict looked up in the other -/
inductive HitsB (F : V → V → Bool → Prop) (ls : List (Key × V)) : List (Key × V) → Bool → Prop
  | nil : HitsB F ls [] true
  | miss {k : Key} {v : V} {r : List (Key × V)} : valV ls k = none → HitsB F ls ((k, v) :: r) false
  | hit {k : Key} {v u : V} {r : List (Key × V)} {e b : Bool} : valV ls k = some u → F v u e → HitsB F ls r b → HitsB F ls ((k, v) :: r) (e && b)
/-- items side by side -/
inductive PrsB (F : V → V → Bool → Prop) : List V → List V → List Bool → Prop
  | nil : PrsB F [] [] []
  | cons {x y : V} {xs ys : List V} {b : Bool} {bs : List Bool} : F x y b → PrsB F xs ys bs → PrsB F (x :: xs) (y :: ys) (b :: bs)
/-- two tuples of one length, or two dicts -/
def EqRB (K : PySem.W.Frag) (H : Hp) (F : V → V → Bool → Prop) (x y : V) (b : Bool) : Prop :=
  (∃ a c xs ys bs, x = .ref a ∧ y = .ref c ∧ SqT K H a xs ∧ SqT K H c ys ∧ PrsB F xs ys bs ∧ b = bs.all id) ∨
    ∃ a c ks ls r, x = .ref a ∧ y = .ref c ∧ H a = some (.dK ks) ∧ H c = some (.dK ls) ∧ (ks.length = ls.length → HitsB F ls ks r) ∧ b = (ks.length == ls.length && r)
/-- of nesting below n -/
def EqVB (K : PySem.W.Frag) (H : Hp) : Nat → V → V → Bool → Prop
  | 0 => fun _ _ _ => False
  | n + 1 => fun x y b => (flatV x = true ∧ flatV y = true ∧ b = eqV x y) ∨ (∃ a, x = .ref a ∧ y = .ref a ∧ b = true) ∨ ((∀ a, x = .ref a → y = .ref a → b = true) ∧ EqRB K H (EqVB K H n) x y b)
theorem PrsB.run {P : Program} {w : World} {A : Around} {s : Shared} {F : V → V → Bool → Prop} (ih : ∀ x y b v u, F x y b → RelV x v → RelV y u → SeqAt.EqP P w A s v u b) {xs ys : List V} {bs : List Bool} (hp : PrsB F xs ys bs) :
    ∀ {us ws : List Value}, Vals xs us → Vals ys ws → us.length = ws.length ∧ bs.length = us.length ∧ ∀ j (h1 : j < us.length) (h2 : j < ws.length), SeqAt.EqP P w A s us[j] ws[j] (bs.getD j true) := by
  induction hp with
  | nil =>
    intro us ws r1 r2
    cases r1
    cases r2
    exact ⟨rfl, rfl, fun j h1 h2 => absurd h1 (Nat.not_lt_zero j)⟩
  | cons h _ k =>
    intro us ws r1 r2
    cases r1 with
    | cons a1 b1 =>
      cases r2 with
      | cons a2 b2 =>
        obtain ⟨e1, e2, k⟩ := k b1 b2
        refine ⟨congrArg (· + 1) e1, congrArg (· + 1) e2, fun j h1 h2 => ?_⟩
        cases j with
        | zero => exact ih _ _ _ _ _ h a1 a2
        | succ j => exact k j (Nat.lt_of_succ_lt_succ h1) (Nat.lt_of_succ_lt_succ h2)
theorem HitsB.run {P : Program} {w : World} {A : Around} {s : Shared} {F : V → V → Bool → Prop} (ih : ∀ x y b v u, F x y b → RelV x v → RelV y u → SeqAt.EqP P w A s v u b) {ls : List (Key × V)} {vb : List (Key × Value)} (rb : KV ls vb) {ks : List (Key × V)} {b : Bool}
    (hp : HitsB F ls ks b) : ∀ {va : List (Key × Value)}, KV ks va → PySem.W.KeqHitsP P w A s vb va b := by
  induction hp with
  | nil =>
    intro va ra
    cases ra
    exact .nil
  | @miss k v r hn =>
    intro va ra
    cases ra with
    | @cons p q ps qs h t =>
      obtain ⟨h1, h2⟩ := h
      obtain ⟨key, w'⟩ := q
      have h1' : k = key := h1
      have rr : RelO none (valueAt vb k) := by rw [← hn]; exact rb.val k
      rw [h1'] at rr
      exact .miss (RelO.none_of rr)
  | @hit k v u r e b hu hf _ kk =>
    intro va ra
    cases ra with
    | @cons p q ps qs h t =>
      obtain ⟨h1, h2⟩ := h
      obtain ⟨key, w'⟩ := q
      have h1' : k = key := h1
      have rr : RelO (some u) (valueAt vb k) := by rw [← hu]; exact rb.val k
      obtain ⟨y, hy, ry⟩ := rr.some_of
      rw [h1'] at hy
      exact .hit hy (ih _ _ _ _ _ hf h2 ry) (kk t)
section
variable {X : Cx} {pins : List (Addr × Obj)} {σ : St} {H : Hp} {s : Shared}
theorem all_getD (bs : List Bool) : (List.range bs.length).all (fun j => bs.getD j true) = bs.all id := by
  induction bs with
  | nil => rfl
  | cons b bs ih =>
    rw [List.length_cons, List.range_succ_eq_map, List.all_cons, List.all_map]
    show (b && (List.range bs.length).all _) = (b && bs.all id)
    rw [← ih]
    rfl
theorem eqRB_run (I : Inv X pins σ H s) {A : Around} {F : V → V → Bool → Prop} (hu : A.units < cLine) (ih : ∀ x y b v u, F x y b → RelV x v → RelV y u → SeqAt.EqP X.prog X.w A.in1 s v u b) {x y : V} {b : Bool} {v u : Value} (h : EqRB X.K H F x y b) (rx : RelV x v) (ry : RelV y u)
    (E Q : Value → Shared → Prop) (q : Q (.bool b) s) : wpAny (model X.prog X.w) A (richCompare .Eq v u) Q E s := by
  rcases h with ⟨a, c, xs, ys, bs, rfl, rfl, ha, hb, hp, rfl⟩ | ⟨a, c, ks, ls, r, rfl, rfl, ha, hb, hp, rfl⟩
  · cases (show v = Value.ref a from rx)
    cases (show u = Value.ref c from ry)
    obtain ⟨us, r1, p1, _⟩ := I.tuple ha
    obtain ⟨ws, r2, p2, _⟩ := I.tuple hb
    obtain ⟨e1, e2, k⟩ := hp.run ih r1 r2
    refine GQ.rcP_tuples (e := fun j => bs.getD j true) p1 p2 (by simpa using e1) hu (fun j h1 h2 => ?_) E Q ?_
    · have := k j (by simpa using h1) (by simpa using h2)
      simpa using this
    · rw [List.size_toArray, ← e2, all_getD]
      exact q
  · cases (show v = Value.ref a from rx)
    cases (show u = Value.ref c from ry)
    obtain ⟨_, ya, va, ra, da⟩ := (show ObjOk X.prog X.w H s.heap a (.dK ks) from I.hok a _ ha)
    obtain ⟨_, yb, vb, rb, db⟩ := (show ObjOk X.prog X.w H s.heap c (.dK ls) from I.hok c _ hb)
    refine PySem.W.rcP_dicts (knd := mixKind X.prog X.w) (r := r) ya yb da db hu (fun e => (hp (by rw [ra.length, rb.length]; exact e)).run ih rb ra) E Q ?_
    have e1 := ra.length
    have e2 := rb.length
    rw [← e1, ← e2]
    exact q
theorem eqVB_run (I : Inv X pins σ H s) : ∀ (n : Nat) (A : Around), A.units + n < cLine → ∀ (x y : V) (b : Bool) (v u : Value), EqVB X.K H n x y b → RelV x v → RelV y u → SeqAt.EqP X.prog X.w A s v u b
  | 0, _, _, _, _, _, _, _, h, _, _ => (show False from h).elim
  | n + 1, A, hu, x, y, b, v, u, h, rx, ry => by
    rcases h with ⟨f1, f2, rfl⟩ | ⟨a, rfl, rfl, rfl⟩ | ⟨same, h⟩
    · exact (eqAt_V rx ry f1 f2).eqP
    · cases (show v = Value.ref a from rx)
      cases (show u = Value.ref a from ry)
      exact (SeqAt.EqAt.same _).eqP
    · have step := eqRB_run I (A := A) (by omega) (eqVB_run I n A.in1 (by show A.units + 1 + n < cLine; omega)) h rx ry
      obtain ⟨a, c, rfl, rfl⟩ : ∃ a c, x = .ref a ∧ y = .ref c := by
        rcases h with ⟨a, c, _, _, _, e1, e2, _⟩ | ⟨a, c, _, _, _, e1, e2, _⟩
        · exact ⟨a, c, e1, e2⟩
        · exact ⟨a, c, e1, e2⟩
      cases (show v = Value.ref a from rx)
      cases (show u = Value.ref c from ry)
      by_cases e : a = c
      · subst e
        rw [same a rfl rfl]
        exact (SeqAt.EqAt.same _).eqP
      · exact SeqAt.eqP_refs e step
end
section
variable {X : Cx}
/-- a == b, dicts or tuples of one length -/
def rEqVB (K : PySem.W.Frag) : R2 := fun x y H Q => ∃ n b, n ≤ 60 ∧ EqRB K H (EqVB K H n) x y b ∧ Q (.bl b) H
theorem op_eqVB (hu : X.A.units + 64 < cLine) : OpR X (compareOp .Eq) (rEqVB X.K) := by
  intro pins s σ H x y v u Q I rx ry h
  obtain ⟨n, b, hn, h, q⟩ := h
  exact eqRB_run I (A := X.A) (by omega) (eqVB_run I n X.A.in1 (by show X.A.units + 1 + n < cLine; omega)) h rx ry _ _ ⟨.bl b, H, I, rfl, q⟩
end
end L2
set_option maxRecDepth 100000
set_option maxHeartbeats 2000000
/-! sorted(d.items()): pairs of a text and an int -/
namespace Fm
open PySem PySem.Spec PyProof.Rows L2
section
variable {prog : Program} {w : World} {A : Around} {E : Value → Shared → Prop} {s : Shared}
/-- v is a tuple of a text and an int in the heap -/
def IsSI (h : Heap) (v : Value) (x : Str) (y : Int) : Prop := ∃ a o t u n, v = .ref a ∧ h.get? a = some o ∧ o.cls = .type "tuple" ∧ o.data = .seq #[.str x t, .int y u] n
theorem IsSI.keeps {h h' : Heap} {v : Value} {x : Str} {y : Int} (p : IsSI h v x y) (k : ∀ b o, h.get? b = some o → o.cls = .type "tuple" → h'.get? b = some o) : IsSI h' v x y := by
  obtain ⟨a, o, t, u, n, e, ho, hc, hd⟩ := p
  exact ⟨a, o, t, u, n, e, k _ _ ho hc, hc, hd⟩
theorem si_tot {vs : List Value} (hp : ∀ v ∈ vs, ∃ x y, IsSI s.heap v x y) : Srt.Tot prog w A s (tuples' true) (fun p => p.1 ∈ vs) := by
  intro p q hm hm'
  obtain ⟨x, y, a, o, t, u, n, e, ho, hc, hd⟩ := hp _ hm
  obtain ⟨x', y', a', o', t', u', n', e', ho', hc', hd'⟩ := hp _ hm'
  rw [e, e']
  refine ⟨if x = x' then (if y = y' then false else decide (y < y')) else decide (x.cps.toList < x'.cps.toList), ?_⟩
  refine PySem.W.kat_lt ho hd ho' hd' ?_
  show PySem.W.KatLex prog w A true (decide (2 < 2)) _ [(.str x t, .str x' t'), (.int y u, .int y' u')] 0 s
  refine PySem.W.kat_cons (SeqAt.EqAt.str_str x t x' t' prog w _ _ ?_)
  refine PySem.W.kat_go (fun e1 => ?_) (fun e1 => ?_)
  · have ex : x = x' := by simpa using e1
    refine PySem.W.kat_yes (PySem.W.kat_cons (SeqAt.EqAt.int_int y u y' u' prog w _ _ ?_))
    refine PySem.W.kat_go (fun e2 => ?_) (fun e2 => ?_)
    · have ey : y = y' := by simpa using e2
      have e3 : (if x = x' then (if y = y' then false else decide (y < y')) else decide (x.cps.toList < x'.cps.toList)) = false := by rw [if_pos ex, if_pos ey]
      exact PySem.W.kat_yes (PySem.W.kat_nil ⟨rfl, e3.symm⟩)
    · have ey : ¬ y = y' := by simpa using e2
      have e3 : (if x = x' then (if y = y' then false else decide (y < y')) else decide (x.cps.toList < x'.cps.toList)) = decide (y < y') := by rw [if_pos ex, if_neg ey]
      refine PySem.W.kat_no (PySem.W.kat_one _ _ (PyProof.Rows.lt_int ?_))
      exact (show s = s ∧ decide (y < y') = (if x = x' then (if y = y' then false else decide (y < y')) else decide (x.cps.toList < x'.cps.toList)) from ⟨rfl, e3.symm⟩)
  · have ex : ¬ x = x' := by simpa using e1
    have e3 : (if x = x' then (if y = y' then false else decide (y < y')) else decide (x.cps.toList < x'.cps.toList)) = decide (x.cps.toList < x'.cps.toList) := by rw [if_neg ex]
    exact PySem.W.kat_no (oneLt_any_str ⟨rfl, e3.symm⟩)
theorem si_firsts {h : Heap} : ∀ {vs : List Value}, (∀ v ∈ vs, ∃ x y, IsSI h v x y) → ∃ fs : List Value, PySem.W.KatTups h vs fs ∧ fs.length = vs.length ∧ ∀ f ∈ fs, ∃ x t, f = Value.str x t
  | [], _ => ⟨[], PySem.W.KatTups.nil, rfl, fun _ hm => by simp at hm⟩
  | v :: vs, hp => by
    obtain ⟨fs, h1, h2, h3⟩ := si_firsts (vs := vs) fun v' hm => hp v' (List.mem_cons_of_mem _ hm)
    obtain ⟨x, y, a, o, t, u, n, e, ho, hc, hd⟩ := hp v (List.mem_cons_self ..)
    subst e
    refine ⟨.str x t :: fs, PySem.W.KatTups.cons ho hc hd rfl h1, by rw [List.length_cons, List.length_cons, h2], fun f hm => ?_⟩
    rcases List.mem_cons.mp hm with rfl | hm
    · exact ⟨x, t, rfl⟩
    · exact h3 f hm
theorem si_sortable {a : Addr} {vs : List Value} (h0 : 0 < vs.length) (hp : ∀ v ∈ vs, ∃ x y, IsSI s.heap v x y) (ha : ∀ o, s.heap.get? a = some o → o.cls ≠ .type "tuple") : Srt.Sortable prog w A s a vs := by
  intro h' keep
  have hp' : ∀ v ∈ vs, ∃ x y, IsSI h' v x y := fun v hm => by
    obtain ⟨x, y, p⟩ := hp v hm
    exact ⟨x, y, p.keeps fun b o e c => keep b o (fun z => by subst z; exact ha o e c) e⟩
  obtain ⟨fs, h1, h2, h3⟩ := si_firsts hp'
  refine ⟨tuples' true, fun Q E hq => ?_, si_tot hp'⟩
  refine PySem.W.kat_kind (T := .type "str") h1 (by omega) (fun f hm => ?_) (by rfl) ?_
  · obtain ⟨x, t, rfl⟩ := h3 f hm
    exact PySem.W.Looks.now
  · have e : (Value.type "str" != Value.type "tuple") = true := by first | decide +kernel | rfl | decide
    rw [e]
    exact hq
end
section
variable {X : Cx}
/-- d.items() of a dict of names -/
def rItemsK : V → List V → Hp → VK → Prop := fun x xs H Q => ∃ (a : Addr) (kvs : List (Key × V)), x = .ref a ∧ xs = [] ∧ H a = some (.dK kvs) ∧ ∀ p, H p = none → Q (.ref p) (upd H p (L2.DX.itemsO p a))
theorem mt_itemsK : MtR X "dict.items" rItemsK := by
  intro pins s σ H x xs v us Q I rx rxs h
  obtain ⟨a, kvs, rfl, rfl, ha, q⟩ := h
  cases rx
  cases rxs
  obtain ⟨hz, hs0, vs, kv, hdo⟩ := I.hok a _ ha
  have hf : H s.heap.objs.size = none := I.hok.fresh (Nat.le_refl _)
  refine call_meetsIn PySem.F.slot_dict_items hdo.typeIs PySem.F.entry_dict_items (PySem.F.args_dict_items_1 _) (meets_dict_items (mixKind X.prog X.w) a hs0) ⟨⟨vs, hdo⟩, ?_⟩
  exact ⟨.ref s.heap.objs.size, upd H s.heap.objs.size (L2.DX.itemsO s.heap.objs.size a), I.laid (t' := s.toks) (fun b u e => Heap.get?_push_of_some _ e) (Nat.le_refl _) (L2.DX.itemsO_ok (Heap.get?_push_size _ rfl)), rfl, q _ hf⟩
/-- sorted(d.items()): the same pairs in some order -/
def rSortIK : List V → Hp → VK → Prop := fun vs H Q => ∃ (p a : Addr) (ks : Outs), vs = [.ref p] ∧ H p = some (L2.DX.itemsO p a) ∧ H a = some (.dK (kO ks)) ∧ 1 ≤ ks.length ∧ ks.length < 64 ∧
  ∀ (H' : Hp) (l : Addr) (zs : List (Addr × (Str × Int))), Same H H' → H l = none → (zs.map (·.2)).Perm ks → H' l = some (.lst (zs.map fun z => V.ref z.1)) → (∀ z ∈ zs, H' z.1 = some (.tup [.str z.2.1, .int z.2.2])) → Q (.ref l) H'
theorem cr_sortIK (hc : X.calm = true) : CallR X (.builtin "sorted") rSortIK := by
  intro pins s σ H xs us Q I r h
  obtain ⟨p, a, ks, rfl, hp, ha, h1k, h64, q⟩ := h
  obtain rfl := Vals.ref1 r
  have view : s.heap.IsItemsView p a := (show ObjOk X.prog X.w H s.heap p (L2.DX.itemsO p a) from I.hok p _ hp).1
  obtain ⟨hz, hs0, vs, kv, hdo⟩ := I.hok a _ ha
  obtain ⟨ep, hat⟩ := hdo.dictAt
  have lk : (kO ks).length = vs.length := Paired.length kv
  have lks : ks.length = vs.length := by rw [← lk]; unfold kO; rw [List.length_map]
  have hh : X.A.handled = none := I.ok.hd hc
  refine Calls.call_function_entry kind_sorted plain_sorted entry_sorted (args_sorted1 _) ?_
  unfold Builtin.«sorted»
  refine wpAny_bind (m := checkCount "sorted" 1 1 _) (wpAny_pure ?_)
  refine wpAny_bind (PySem.W.kdx_collect (A := X.A.in1) (knd := mixKind X.prog X.w) (kvs := vs) (ep := ep) hh view hat (by omega) fun h' tk as hk hl hG => ?_)
  have lak : as.length = ks.length := by omega
  have nd : as.Nodup := List.Pairwise.imp (fun {a b} (h : a < b) => Nat.ne_of_lt h) hG.rise
  refine wpAny_bind (wpAny_newList ?_ (by rw [List.length_map, sizeLine_eq]; omega))
  -- the pairs that were made
  have pr : ∀ (j : Nat) (b : Addr), as[j]? = some b → ∃ (e : Str × Int) (t u : Tok), ks[j]? = some e ∧ h'.get? b = some { cls := .type "tuple", data := .seq #[Value.str e.1 t, Value.int e.2 u] } := by
    intro j b hj
    obtain ⟨key, k, x, f1, f2, f3⟩ := hG.pairs j b hj
    obtain ⟨e0, g1, g2, g3⟩ := L2.DX.pget kv f1
    unfold kO at g1
    rw [List.getElem?_map] at g1
    cases hkj : ks[j]? with
    | none => rw [hkj] at g1; exact nomatch (show (none : Option (Key × V)) = some e0 from g1)
    | some e =>
      rw [hkj] at g1
      have ee : ((.inr e.1 : Key), V.int e.2) = e0 := Option.some.inj g1
      rw [← ee] at g2 g3
      have g2' : (.inr e.1 : Key) = k := g2
      have rk : RelV (kV (.inr e.1)) key := by
        rw [g2']
        exact relV_key (show keyIs k key = true from f2)
      obtain ⟨t, rfl⟩ := rk
      obtain ⟨u, rfl⟩ := g3
      exact ⟨e, t, u, rfl, f3⟩
  have hob : (h'.push { cls := .type "list", data := .seq (as.map Value.ref).toArray }).get? h'.objs.size = some (seqObj "list" (as.map Value.ref).toArray 0) := Heap.get?_push_size _ rfl
  have kb : ∀ b o, s.heap.get? b = some o → (h'.push { cls := .type "list", data := .seq (as.map Value.ref).toArray }).get? b = some o := fun b o e => Heap.get?_push_of_some _ (hk b o e)
  have ne0 : ∀ b o, h'.get? b = some o → b ≠ h'.objs.size := fun b o e => Nat.ne_of_lt (Heap.lt_size e)
  have hle : s.heap.objs.size ≤ h'.objs.size := by
    obtain ⟨b, hb⟩ : ∃ b, b ∈ as := by
      cases as with
      | nil => simp at lak; omega
      | cons b _ => exact ⟨b, List.mem_cons_self⟩
    exact Nat.le_of_lt (Nat.lt_trans (hG.above b hb) (hG.there hb))
  generalize hh2 : h'.push { cls := .type "list", data := .seq (as.map Value.ref).toArray } = h2 at hob kb ⊢
  have ka : ∀ b o, h'.get? b = some o → h2.get? b = some o := fun b o e => by rw [← hh2]; exact Heap.get?_push_of_some _ e
  refine wpAny_bind (wpAny_holding (wpAny_call_entry slot_list_sort ⟨_, hob, rfl⟩ entry_list_sort (Srt.list_sort_any (s := { s with heap := h2, toks := tk }) hob (by rw [List.length_map, sizeLine_eq]; omega) (fun h2' => ?_) fun out hp2 => ⟨_, rfl, ?_⟩) (args_list_sort _)))
  · refine si_sortable (s := { s with heap := h2, toks := tk }) (by omega) (fun v hv => ?_) fun o e c => ?_
    · obtain ⟨b, hb, rfl⟩ := List.mem_map.mp hv
      obtain ⟨j, hj⟩ := List.mem_iff_getElem?.mp hb
      obtain ⟨e, t, u, _, hg⟩ := pr j b hj
      exact ⟨e.1, e.2, b, _, t, u, 0, rfl, ka _ _ hg, rfl, rfl⟩
    · have e' : some o = some (seqObj "list" (as.map Value.ref).toArray 0) := e.symm.trans hob
      cases e'
      exact absurd (Value.type.inj c) (by decide)
  · refine wpAny_pure ⟨_, rfl, ?_⟩
    show EP X pins σ Q (.ref h'.objs.size) { s with heap := sortedHeap h2 h'.objs.size (as.map Value.ref) out.toArray, toks := tk }
    -- the order of the pairs
    obtain ⟨zs, pz, ez⟩ := perm_lift (fun z : Addr × Str × Int => Value.ref z.1) hp2 (as.zip ks) (by
      have : (as.zip ks).map (fun z : Addr × Str × Int => Value.ref z.1) = ((as.zip ks).map (·.1)).map Value.ref := by rw [List.map_map]; rfl
      rw [this, List.map_fst_zip (by rw [lak]; exact Nat.le_refl _)])
    have idx : ∀ z ∈ zs, ∃ j : Nat, as[j]? = some z.1 ∧ ks[j]? = some z.2 := by
      intro z' hz'
      obtain ⟨j, hj⟩ := List.mem_iff_getElem?.mp (pz.mem_iff.mp hz')
      exact ⟨j, List.getElem?_zip_eq_some.mp hj⟩
    have hperm : (zs.map (·.2)).Perm ks := by
      have e := pz.map (·.2)
      have m2 : (as.zip ks).map (·.2) = ks := List.map_snd_zip (by rw [lak]; exact Nat.le_refl _)
      rw [m2] at e
      exact e
    have kF : ∀ b o, b ≠ h'.objs.size → h2.get? b = some o → (sortedHeap h2 h'.objs.size (as.map Value.ref) out.toArray).get? b = some o := fun b o hb e => (PyProof.Rows.sortedHeap_old hb (Heap.lt_size e)).trans e
    have kS : ∀ b o, s.heap.get? b = some o → (sortedHeap h2 h'.objs.size (as.map Value.ref) out.toArray).get? b = some o := fun b o e => kF b o (ne0 _ _ (hk b o e)) (kb b o e)
    obtain ⟨eF, heF⟩ := PyProof.Rows.sortedHeap_at (vs := as.map Value.ref) (out := out.toArray) hob
    have I1 : Inv X pins σ H { s with heap := sortedHeap h2 h'.objs.size (as.map Value.ref) out.toArray, toks := tk } := I.kept (t' := tk) kS
    have hn0 : H h'.objs.size = none := I.hok.fresh hle
    have hlen : (zs.map fun z => V.ref z.1).length ≤ sizeLine := by
      have e := hperm.length_eq
      rw [List.length_map] at e
      rw [List.length_map, sizeLine_eq]
      omega
    have rv : Vals (zs.map fun z => V.ref z.1) out := by
      rw [← ez]
      exact vals_maps (fun z : Addr × Str × Int => V.ref z.1) (fun z => Value.ref z.1) zs fun _ _ => rfl
    have I2 : Inv X pins σ (upd H h'.objs.size (.lst (zs.map fun z => V.ref z.1))) { s with heap := sortedHeap h2 h'.objs.size (as.map Value.ref) out.toArray, toks := tk } :=
      I1.take (h' := sortedHeap h2 h'.objs.size (as.map Value.ref) out.toArray) (t' := tk) (fun b ob _ e => e) (I.fpOk hle hn0) ⟨hlen, out, eF, rv, heF⟩
    obtain ⟨H2, I3, g, qt⟩ := L2.DX.takeT (P := fun b vs => ∃ (j : Nat) (e : Str × Int), as[j]? = some b ∧ ks[j]? = some e ∧ vs = [.str e.1, .int e.2]) I as _ I2 nd fun b hb => by
      obtain ⟨j, hj⟩ := List.mem_iff_getElem?.mp hb
      obtain ⟨e, t, u, he, hg⟩ := pr j b hj
      have hbl : s.heap.objs.size ≤ b := Nat.le_of_lt (hG.above b hb)
      refine ⟨hbl, ?_, [.str e.1, .int e.2], ⟨j, e, hj, he, rfl⟩, fun H3 => ⟨(by rw [sizeLine_eq]; show 2 ≤ 16777216; omega), [Value.str e.1 t, Value.int e.2 u], .cons ⟨t, rfl⟩ (.cons ⟨u, rfl⟩ .nil), ⟨_, kF _ _ (ne0 _ _ hg) (ka _ _ hg), rfl, 0, rfl⟩⟩⟩
      rw [upd_ne (ne0 _ _ hg)]
      exact I.hok.fresh hbl
    have gr : ∀ b o, H b = some o → H2 b = some o := fun b o e => g b o (by rw [upd_ne (ne_of_none e hn0)]; exact e)
    refine ⟨.ref h'.objs.size, H2, I3, rfl, q H2 h'.objs.size zs gr hn0 hperm (g _ _ upd_same) fun z' hz' => ?_⟩
    obtain ⟨i, i1, i2⟩ := idx z' hz'
    obtain ⟨vs, ⟨j, e, j1, j2, ev⟩, hH⟩ := qt z'.1 (List.mem_of_getElem? i1)
    have eij : i = j := (List.getElem?_inj (List.getElem?_eq_some_iff.mp i1).1 nd).mp (i1.trans j1.symm)
    subst eij
    have ee : e = z'.2 := Option.some.inj (j2.symm.trans i2)
    rw [ev, ee] at hH
    exact hH
theorem pe_itemsK {K : PySem.W.Frag} {o : Expr} {to : TE} {apos cpos : Pos} (hK : X.K = K) (ho : PE X o to) (hbase : attributeBase o "items" X.env (eval o X.env) = eval o X.env := by rfl) (hline : (apos.endLine == cpos.line) = true := by rfl) :
    PE X (.Call (.Attribute o "items" apos) [] [] cpos) (tBM0 K "dict" rItemsK to) := by
  subst hK
  exact pe_bm0 PySem.F.plainAttrs_dict PySem.F.slot_dict_items PySem.F.type_dict_items mt_itemsK ho hbase hline
/-- dict(l) of pairs -/
def rDictP (K : PySem.W.Frag) : List V → Hp → VK → Prop := fun xs H Q => ∃ (a : Addr) (ps : List Addr) (kvs : List (Key × V)), xs = [.ref a] ∧ SqL K H a (ps.map V.ref) ∧ Paired (fun (p : Addr) (kv : Key × V) => SqT K H p [kV kv.1, kv.2]) ps kvs ∧ ∀ p, H p = none → Q (.ref p) (upd H p (.dK (mergeK [] kvs)))
end
end Fm
set_option maxRecDepth 100000
set_option maxHeartbeats 2000000
/-! {t: v for target in iter}, keys tuples -/
namespace Fm
open PySem PySem.Spec PyProof.Rows L2
abbrev noDict : Obj := { cls := .type "dict", data := .dict #[] }
theorem d_dictSetT {X : Cx} {pins : List (Addr × Obj)} {σ : L2.St} {H : Hp} {s : Shared} {E : Value → Shared → Prop} {D b : Addr} {kvs : List (List L2.Key × V)} {k : List L2.Key} {v : V} {u r : Value} {Q : Unit → Shared → Prop} (hu : X.A.units < cLine) (I : Inv X pins σ H s) (hD : H D = some (.dT kvs)) (hb : H b = some (.tup (k.map kV))) (hz : kvs.length < sizeLine)
    (ry : RelV (.ref b) u) (rv : RelV v r) (h : ∀ s', Inv X pins σ (upd H D (.dT (putK kvs k v))) s' → Q () s') : wpAny (model X.prog X.w) X.A (dictSet D u r) Q E s := by
  obtain rfl : u = Value.ref b := ry
  obtain ⟨z, nd, xs, pr, dd⟩ := dt_of I.hok hD
  have l1 : xs.length ≤ sizeLine := by
    rw [← Paired.length pr]
    exact z
  have l2 : (putK kvs k v).length ≤ sizeLine := by
    have := length_putK kvs k v
    omega
  refine wpAny_dictSet_heap (hsz := l1) (knd := tupleKind (mixKind X.prog X.w)) hu (key_of I.hok hb) dd fun h' new same => h _ ?_
  obtain ⟨o, es, ep, ho, c1, c2, c3, _, c4⟩ := new
  refine d_write I (by rw [hD]; exact True.intro) same ⟨o, ho⟩ ⟨l2, nd, _, (pr.put k hb rv).keeps fun c ys ec => ?_, o, es, ep, ho, c1, c2, c3, c4⟩
  rw [upd_ne (ne_of ec hD fun z => nomatch z)]
  exact ec
section
variable {X : Cx}
/-- {t: v for target in iter if ..}: D the new dict, W by the turn and a measure -/
def tDcT (wi : TI) (g : TG) (tt : TT) (tk tv : TE) (vs : List Nat) : TE := fun σ H Q => wi σ H fun J H1 => ∀ D, H1 D = none → ∃ W : Nat → Nat → Hp → Prop, (∃ m, W 0 m (upd H1 D (.dT []))) ∧ ∀ i m H, W i m H →
  (J.stop i H ∧ Q (.ref D) H) ∨ (J.go i H ∧ ∃ Nx : Hp → Prop, (∀ H', Nx H' → ∃ m', m' < m ∧ W (i + 1) m' H') ∧ ∀ x H', J.yld i H x H' → g x (wipe σ vs) H' fun σ2 H2 => wipe σ2 vs = wipe σ vs ∧ tt σ2 H2 fun b H3 =>
    if b = true then tk σ2 H3 fun y H4 => tv σ2 H4 fun z H5 => ∃ kvs k b, y = .ref b ∧ H5 b = some (.tup (k.map kV)) ∧ H5 D = some (.dT kvs) ∧ kvs.length < sizeLine ∧ Nx (upd H5 D (.dT (putK kvs k z))) else Nx H3)
theorem dcT_core {pins : List (Addr × Obj)} {s : Shared} {σ : L2.St} {H : Hp} {Q : VK} {pos' : Pos} {use : Option (Value → Sem Unit)} {Qf : Value → Shared → Prop} (hu : X.A.units < cLine) {kx vx tg iter : Expr} {ifs : List Expr} {scope : Scope} {own : List (PySem.Str × Nat)} {pos : Pos} {wi : TI} {g : TG} {tt : TT} {tk tv : TE} (hc : X.calm = true) (hN : X.N.Nodup) (I : Inv X pins σ H s) (hi : PI X tg iter wi) (ok : BlkOk X.N X.env.scope scope own)
    (hg : ∀ (s : Shared) (H : Hp) (C : Addr) (cl : List (PySem.Str × Addr)) (fp : List Addr), PG (X.blk s H scope (compEnvC scope cl C X.env) fp) tg g) (ht : ∀ (s : Shared) (H : Hp) (C : Addr) (cl : List (PySem.Str × Addr)) (fp : List Addr), PTs (X.blk s H scope (compEnvC scope cl C X.env) fp) ifs tt)
    (hk : ∀ (s : Shared) (H : Hp) (C : Addr) (cl : List (PySem.Str × Addr)) (fp : List Addr), PE (X.blk s H scope (compEnvC scope cl C X.env) fp) kx tk)
    (he : ∀ (s : Shared) (H : Hp) (C : Addr) (cl : List (PySem.Str × Addr)) (fp : List Addr), PE (X.blk s H scope (compEnvC scope cl C X.env) fp) vx tv) (hs : ∀ x, foldedSetIterable iter X.env x = pure x)
    (h : tDcT wi g tt tk tv (own.map (·.2)) σ H Q) (post : ∀ D C s' m H', Inv X pins σ H' s' → Q (.ref D) H' → s'.heap.Ns C m → FpOk X pins H' C → compPost (model X.prog X.w) X.A X.xe use Qf (.ref D) C (.ok .next) s') :
    wpAny (model X.prog X.w) X.A (comprehension (.DictComp kx vx [⟨tg, iter, ifs, 0⟩] scope pos) scope X.env pos' newDict false (eval iter X.env) use) Qf X.xe s := by
  have free : ∀ y ∈ scope.names, y.2 = .free → ∃ c, X.env.cells.lookup y.1 = some c := fun y hy e => (ok.free y hy e).elim (fun z => I.ok.has _ (.inl z)) fun z => I.ok.has _ (.inr z)
  refine wpAny_comprehension_free (use := use) rfl hs (closure_ok free) ok.kind (fun y hy e => by rw [ok.uniq y hy, e]) (thn (hi.run pins s σ H _ I h) fun xv s1 hx => thn hx fun itv s2 ⟨it, fp, tn, J, H2, e, I2, T, st2, f2, q⟩ => ?_)
  subst e
  refine wpAny_newObj_type (newEnv_comp ?_)
  -- the new dict, at the end of the heap
  generalize hD : s2.heap.objs.size = D
  obtain ⟨W, ⟨m0, w0⟩, turn⟩ := q D (I2.hok.fresh (Nat.le_of_eq hD))
  generalize hs3 : ({ s2 with heap := s2.heap.push noDict } : Shared) = s3
  have h3 : s3.heap = s2.heap.push noDict := by rw [← hs3]
  have I3 : Inv X pins σ (upd H2 D (.dT [])) s3 := by
    rw [← hs3, ← hD]
    exact I2.laid (t' := s2.toks) (fun b o e => Heap.get?_push_of_some _ e) (Nat.le_refl _) (dt_empty s2.heap I2.big)
  have up : ∀ b o, s2.heap.get? b = some o → s3.heap.get? b = some o := fun b o e => by rw [h3]; exact Heap.get?_push_of_some _ e
  have f3 : ∀ b ∈ fp, FpOk X pins (upd H2 D (.dT [])) b ∧ b < s3.heap.objs.size := fun b hb => by
    obtain ⟨o, e, _⟩ := T.obj _ _ st2 b hb
    have lt : b < D := by rw [← hD]; exact Heap.lt_size e
    exact ⟨⟨by rw [upd_ne (Nat.ne_of_lt lt)]; exact (f2 b hb).1, (f2 b hb).2⟩, Heap.lt_size (up b o e)⟩
  have I4 := block_start I3 ok hN f3
  have pg := hg s3 (upd H2 D (.dT [])) s3.heap.objs.size (cellsFrom (s3.heap.objs.size + 1) scope.names (cloFrom X.env.cells scope.names [])) fp
  have pt := ht s3 (upd H2 D (.dT [])) s3.heap.objs.size (cellsFrom (s3.heap.objs.size + 1) scope.names (cloFrom X.env.cells scope.names [])) fp
  have pk := hk s3 (upd H2 D (.dT [])) s3.heap.objs.size (cellsFrom (s3.heap.objs.size + 1) scope.names (cloFrom X.env.cells scope.names [])) fp
  have pe := he s3 (upd H2 D (.dT [])) s3.heap.objs.size (cellsFrom (s3.heap.objs.size + 1) scope.names (cloFrom X.env.cells scope.names [])) fp
  have none3 : ∀ b ∈ fp, (upd H2 D (.dT [])) b = none := fun b hb => (f3 b hb).1.1
  show codeAny _ _ (.compStart (.DictComp kx vx [⟨tg, iter, ifs, 0⟩] scope pos) 0 (.ref it) (.ref D) (compEnvC scope (cellsFrom (s3.heap.objs.size + 1) scope.names (cloFrom X.env.cells scope.names [])) s3.heap.objs.size X.env)) _ { s3 with heap := pushCells (s3.heap.push { cls := .type "dict", data := .dict #[] }) scope.names }
  generalize hce : compEnvC scope (cellsFrom (s3.heap.objs.size + 1) scope.names (cloFrom X.env.cells scope.names [])) s3.heap.objs.size X.env = ce at I4 pg pt pk pe ⊢
  have cL : ce.locals = s3.heap.objs.size := by subst hce; rfl
  generalize hH3 : upd H2 D (.dT []) = H3 at I3 I4 pg pt pk pe w0 none3 f3
  generalize hs4 : ({ s3 with heap := pushCells (s3.heap.push { cls := .type "dict", data := .dict #[] }) scope.names } : Shared) = s4 at I4 ⊢
  have st4 : tn 0 s4.heap := T.keep _ _ _ (T.keep _ _ _ st2 fun b _ o e => up b o e) fun b _ o e => by rw [← hs4]; exact pushCells_keeps _ _ _ _ (Heap.get?_push_of_some _ e)
  have stat : ∀ {σ' : L2.St} {H' : Hp} {s' : Shared}, Inv (X.blk s3 H3 scope ce fp) [] σ' H' s' → (∀ b ∈ fp, H' b = none) → ∀ b ∈ fp, FpOk (X.blk s3 H3 scope ce fp) [] H' b := fun I' hn b hb =>
    ⟨hn b hb, (I'.ok.exf b hb).1, I'.ok.exfs b hb, .inl hb, fun x c e => (I'.ok.exf b hb).2 x c e, fun p hp => absurd (show p ∈ ([] : List (Addr × Obj)) ++ [] from hp) (by simp)⟩
  refine (fun loop => codeAny_compStart_dict loop (T.self X.A 0 _ _ _ st4 loop)) ?_
  refine compLoop_anyD (fun n s' => ∃ i H', Inv (X.blk s3 H3 scope ce fp) [] (wipe σ (own.map (·.2))) H' s' ∧ tn i s'.heap ∧ (∀ b ∈ fp, H' b = none) ∧ W i n H') ?_ m0 ⟨0, H3, I4, st4, none3, w0⟩
  rintro n s5 ⟨i, H5, I5, st5, n5, w5⟩
  rcases turn i n H5 w5 with ⟨stop, qq⟩ | ⟨go, Nx, hNx, step⟩
  · refine thnF (T.done (X.blk s3 H3 scope ce fp) rfl rfl rfl hc i [] s5 _ H5 (fun _ _ => False) I5 (stat I5 n5) st5 stop) fun r s6 ⟨hr, I6⟩ => ?_
    subst hr
    have I7 : Inv X pins σ H5 s6 := I3.call' (ch := fp) I6.os I6.base I6.hok I6.bare fun b hb => let z := (f3 b hb).1; ⟨z.2.2.2.1, z.2.1, z.2.2.2.2.1, z.2.2.2.2.2⟩
    have nC : H5 s3.heap.objs.size = none := by rw [← cL]; exact I6.free
    obtain ⟨m, hn, _⟩ := I6.loc
    have hn : s6.heap.Ns s3.heap.objs.size m := by rw [← cL]; exact hn
    exact post D s3.heap.objs.size s6 m H5 I7 qq hn (I3.fpOk (Nat.le_refl _) nC)
  · refine thnF (T.item (X.blk s3 H3 scope ce fp) rfl rfl rfl hc i [] s5 _ H5 (fun _ _ => False) I5 (stat I5 n5) st5 go) fun r s6 ⟨u, hr, h6⟩ => ?_
    subst hr
    refine thnF h6 fun _ s7 ⟨x, H7, I7, r7, y7, st7, n7⟩ => ?_
    refine thnF (pg.run _ s7 _ H7 x u _ (I7.pinned (stat I7 n7) (T.obj _ _ st7)) r7 (step x H7 y7)) fun _ s8 ⟨σ8, H8, I8, hw8, q8⟩ => ?_
    refine thnF (pt.run _ s8 σ8 H8 _ I8 q8) fun b s9 ⟨H9, I9, q9⟩ => ?_
    have fin : ∀ {s' : Shared} {H' : Hp}, Inv (X.blk s3 H3 scope ce fp) ([] ++ pinsAt fp s7.heap) σ8 H' s' → Nx H' → ∃ m, m < n ∧ ∃ i H', Inv (X.blk s3 H3 scope ce fp) [] (wipe σ (own.map (·.2))) H' s' ∧ tn i s'.heap ∧ (∀ b ∈ fp, H' b = none) ∧ W i m H' := fun {s' H'} I' nx => by
      obtain ⟨m', hm, w'⟩ := hNx H' nx
      have pin' : ∀ b ∈ fp, ∀ o, s7.heap.get? b = some o → s'.heap.get? b = some o ∧ H' b = none := fun b hb o e =>
        let z := I'.pin (b, o) (List.mem_append_right _ (List.mem_append_right _ (mem_pinsAt hb e)))
        ⟨z.1, z.2.1⟩
      refine ⟨m', hm, i + 1, H', (I'.unpinned (pins := [])).weak (by rw [← hw8, wipe_length]) (fun j v e => ?_), T.keep _ _ _ st7 fun b hb o e => (pin' b hb o e).1, fun b hb => ?_, w'⟩
      · rw [← hw8] at e
        exact (wipe_some e).1
      · obtain ⟨o, e, _⟩ := T.obj _ _ st7 b hb
        exact (pin' b hb o e).2
    cases b with
    | false =>
      rw [if_neg (by decide)] at q9
      rw [if_neg (by decide)]
      exact fin I9 q9
    | true =>
      rw [if_pos rfl] at q9
      rw [if_pos rfl]
      refine thnF (pk.run _ s9 σ8 H9 _ I9 q9) fun z s10 ⟨yk, H10, I10, r10, q10⟩ => ?_
      refine thnF (pe.run _ s10 σ8 H10 _ I10 q10) fun z2 s11 ⟨yv, H11, I11, r11, kvs, k, b, ek, hb11, hD11, hz11, nx⟩ => ?_
      subst ek
      exact d_dictSetT (X := X.blk s3 H3 scope ce fp) hu I11 hD11 hb11 hz11 r10 r11 fun s12 I12 => fin I12 nx
theorem pe_dcT (hu : X.A.units < cLine) {kx vx tg iter : Expr} {ifs : List Expr} {scope : Scope} {own : List (PySem.Str × Nat)} {pos : Pos} {wi : TI} {g : TG} {tt : TT} {tk tv : TE} (hc : X.calm = true) (hN : X.N.Nodup) (hi : PI X tg iter wi) (ok : BlkOk X.N X.env.scope scope own)
    (hg : ∀ (s : Shared) (H : Hp) (C : Addr) (cl : List (PySem.Str × Addr)) (fp : List Addr), PG (X.blk s H scope (compEnvC scope cl C X.env) fp) tg g) (ht : ∀ (s : Shared) (H : Hp) (C : Addr) (cl : List (PySem.Str × Addr)) (fp : List Addr), PTs (X.blk s H scope (compEnvC scope cl C X.env) fp) ifs tt)
    (hk : ∀ (s : Shared) (H : Hp) (C : Addr) (cl : List (PySem.Str × Addr)) (fp : List Addr), PE (X.blk s H scope (compEnvC scope cl C X.env) fp) kx tk)
    (he : ∀ (s : Shared) (H : Hp) (C : Addr) (cl : List (PySem.Str × Addr)) (fp : List Addr), PE (X.blk s H scope (compEnvC scope cl C X.env) fp) vx tv) (hs : ∀ x, foldedSetIterable iter X.env x = pure x := by intro _; rfl) :
    PE X (.DictComp kx vx [⟨tg, iter, ifs, 0⟩] scope pos) (tDcT wi g tt tk tv (own.map (·.2))) := by
  refine ⟨fun pins s σ H Q I h => ?_⟩
  rw [arm_eval_DictComp]
  refine dcT_core hu hc hN I hi ok hg ht hk he hs h fun D C s' m H' I' q hn f => ⟨m, hn, fun h2 sb => ?_⟩
  obtain ⟨a0, a1, a2, a3, a4, a5⟩ := f
  exact ⟨.ref D, H', I'.turned (t' := s'.toks) (fun b o hb e => (sb.2 b hb).trans e) a0 a1 a3 a4 a5, rfl, q⟩
theorem sw_trueD {kx vx : Expr} {gs : List Comprehension} {scope : Scope} {pos py : Pos} {y : PySem.Str} {l : Nat} {env : Env} (hk : env.scope.kind = .function) (hy : env.scope.names.lookup y = some .local) (hl : (py.line == pos.line) = true)
    (ha : (scope.names.any fun (n, k) => n == y && (k == .local || k == .cell)) = false) : swapsWith (.DictComp kx vx gs scope pos) (some (.Name y py)) l env = pure true := by
  have k1 : env.kindOf y = some .local := hy
  have k2 : env.blockKind = .function := by
    unfold Env.blockKind
    rw [hk]
    rfl
  unfold swapsWith
  simp only [k2, k1, ha, Expr.pos, hl]
  rfl
/-- name = {..} on one line, the name a local -/
theorem ps_setDcT (hu : X.A.units < cLine) {i : Nat} {y : PySem.Str} {py : Pos} {kx vx tg iter : Expr} {ifs : List Expr} {scope : Scope} {own : List (PySem.Str × Nat)} {pos spos : Pos} {wi : TI} {g : TG} {tt : TT} {tk tv : TE} (hc : X.calm = true) (hN : X.N.Nodup) (hy : X.N[i]? = some y) (hyl : X.env.scope.names.lookup y = some .local)
    (hsw : swapsWith (.DictComp kx vx [⟨tg, iter, ifs, 0⟩] scope pos) (some (.Name y py)) spos.line X.env = pure true) (hi : PI X tg iter wi) (ok : BlkOk X.N X.env.scope scope own)
    (hg : ∀ (s : Shared) (H : Hp) (C : Addr) (cl : List (PySem.Str × Addr)) (fp : List Addr), PG (X.blk s H scope (compEnvC scope cl C X.env) fp) tg g) (ht : ∀ (s : Shared) (H : Hp) (C : Addr) (cl : List (PySem.Str × Addr)) (fp : List Addr), PTs (X.blk s H scope (compEnvC scope cl C X.env) fp) ifs tt)
    (hk : ∀ (s : Shared) (H : Hp) (C : Addr) (cl : List (PySem.Str × Addr)) (fp : List Addr), PE (X.blk s H scope (compEnvC scope cl C X.env) fp) kx tk)
    (he : ∀ (s : Shared) (H : Hp) (C : Addr) (cl : List (PySem.Str × Addr)) (fp : List Addr), PE (X.blk s H scope (compEnvC scope cl C X.env) fp) vx tv) (hs : ∀ x, foldedSetIterable iter X.env x = pure x := by intro _; rfl) :
    PS X (.Assign [.Name y py] (.DictComp kx vx [⟨tg, iter, ifs, 0⟩] scope pos) spos) (tAsg (tDcT wi g tt tk tv (own.map (·.2))) (gName i)) := by
  refine ⟨fun pins s σ H D I h => ?_⟩
  have h0 : tDcT wi g tt tk tv (own.map (·.2)) σ H (fun x H1 => gName i x σ H1 D.nx) := h
  rw [exec_Assign_Name_used _ _ _ _ hsw]
  refine (fun z => wpAny_bind (wpAny_standAt (wpAny_bind z))) ?_
  show wpAny _ X.A (do let _ ← comprehension (.DictComp kx vx [⟨tg, iter, ifs, 0⟩] scope pos) scope X.env (firstIterPos [⟨tg, iter, ifs, 0⟩] pos) newDict false (eval iter X.env) (some (assign (.Name y py) X.env))) _ _ s
  refine wpAny_bind (thn (dcT_core (Qf := fun _ s' => SP X pins D .next s') hu hc hN I hi ok hg ht hk he hs h0 fun L C s' m H' I' q hn f => ?_) fun _ s' z => wpAny_pure (wpAny_pure z))
  show wpAny _ _ (assign (.Name y py) X.env (.ref L)) _ _ _
  obtain ⟨a0, a1, a2, a3, a4, a5⟩ := f
  refine wpAny_assign_Name (store_ok2 (v := V.ref L) I' hN hy (.inl hyl) rfl (fun s2 I2 ⟨a, sb, ha⟩ => ?_) (.inr hyl))
  have ne : C ≠ a := ha.elim (fun z => by rw [z]; exact a1) fun z e => a4 y a z e.symm
  exact ⟨m, hn.sameBut sb ne, fun h3 sb3 => ⟨_, H', I2.turned (t' := s2.toks) (fun b o hb e => (sb3.2 b hb).trans e) a0 a1 a3 a4 a5, q⟩⟩
end
section
variable {J : It} {n : Nat} {G : Hp → Prop} {Y : Nat → Hp → V → Hp → Prop}
/-- such a comprehension over a walk -/
theorem dcT_it (wk : Walk J n G Y) {g : TG} {tt : TT} {tk tv : TE} {vs : List Nat} {σ : L2.St} {H1 : Hp} {D : Addr} {Qd : Hp → Prop} (Pv : Nat → Hp → Prop) (h0 : Pv 0 (upd H1 D (.dT []))) (hG : ∀ i H, i ≤ n → Pv i H → G H)
    (hs : ∀ i x H H', i < n → Pv i H → Y i H x H' → g x (wipe σ vs) H' fun σ2 H2 => wipe σ2 vs = wipe σ vs ∧ tt σ2 H2 fun b H3 =>
      if b = true then tk σ2 H3 fun y H4 => tv σ2 H4 fun z H5 => ∃ kvs k b, y = .ref b ∧ H5 b = some (.tup (k.map kV)) ∧ H5 D = some (.dT kvs) ∧ kvs.length < sizeLine ∧ Pv (i + 1) (upd H5 D (.dT (putK kvs k z))) else Pv (i + 1) H3) (hd : ∀ H, Pv n H → Qd H) :
    ∃ W : Nat → Nat → Hp → Prop, (∃ m, W 0 m (upd H1 D (.dT []))) ∧ ∀ i m H, W i m H →
      (J.stop i H ∧ Qd H) ∨ (J.go i H ∧ ∃ Nx : Hp → Prop, (∀ H', Nx H' → ∃ m', m' < m ∧ W (i + 1) m' H') ∧ ∀ x H', J.yld i H x H' → g x (wipe σ vs) H' fun σ2 H2 => wipe σ2 vs = wipe σ vs ∧ tt σ2 H2 fun b H3 =>
        if b = true then tk σ2 H3 fun y H4 => tv σ2 H4 fun z H5 => ∃ kvs k b, y = .ref b ∧ H5 b = some (.tup (k.map kV)) ∧ H5 D = some (.dT kvs) ∧ kvs.length < sizeLine ∧ Nx (upd H5 D (.dT (putK kvs k z))) else Nx H3) := by
  refine ⟨fun i m H => m = n - i ∧ i ≤ n ∧ Pv i H, ⟨n, by simp, Nat.zero_le _, h0⟩, ?_⟩
  rintro i m H ⟨rfl, hi, p⟩
  have q := hG i H hi p
  by_cases hlt : i < n
  · exact .inr ⟨wk.goes i H hlt q, Pv (i + 1), fun H' p' => ⟨n - (i + 1), by omega, rfl, hlt, p'⟩, fun x H' y => hs i x H H' hlt p (wk.yields i H x H' hlt q y)⟩
  · have e : i = n := by omega
    subst e
    exact .inl ⟨wk.stops H q, hd H p⟩
end
end Fm
set_option maxRecDepth 100000
set_option maxHeartbeats 2000000
/-! dict() without anything: a new dict with no keys -/
namespace L2
open PySem PySem.Spec PyProof.Rows Fm
theorem typeCall_none : checkTypeCall "dict" ⟨[], []⟩ = pure () := by kernel_rfl
theorem newCall_none : checkBuiltinCall "dict.__new__" ⟨[.type "dict"], []⟩ = pure () := by kernel_rfl
section
variable {prog : Program} {w : World} {A : Around} {E : Value → Shared → Prop} {s : Shared}
theorem code_new_none {Q₁ : Value → Shared → Prop} (h : Q₁ (.ref s.heap.objs.size) { s with heap := s.heap.push { cls := .type "dict", data := .dict #[] } }) :
    codeAny (model prog w) A (.call (.builtin "dict.__new__") ⟨[.type "dict"], []⟩) (wants Q₁ E) s := by
  refine codeAny_call_builtin PySem.F.kt_plain_dict_new PySem.F.kt_entry_dict_new (wpAny_of_eq newCall_none ?_)
  have hsub := PySem.F.kt_sub_dict
  have hmro := PySem.F.kt_mro_dict
  obtain ⟨hp, g, d, tk, os⟩ := s
  unfold Builtin.«dict.__new__»
  wp_walk
  exact h
theorem call_dict_none {Q : Value → Shared → Prop} (h : Q (.ref s.heap.objs.size) { s with heap := s.heap.push { cls := .type "dict", data := .dict #[] } }) : wpAny (model prog w) A (call (.type "dict") []) Q E s := by
  refine callType_codes (Q₁ := fun obj s₁ => obj = .ref s.heap.objs.size ∧ s₁ = { s with heap := s.heap.push { cls := .type "dict", data := .dict #[] } }) PySem.F.kt_called_dict typeCall_none PySem.F.entry_dict_init (code_new_none ⟨rfl, rfl⟩) ?_
  rintro obj s₁ ⟨rfl, rfl⟩
  have hnew : (s.heap.push { cls := .type "dict", data := .dict #[] }).DictOf (mixKind prog w) s.heap.objs.size [] := Heap.DictOf.new s.heap
  refine ⟨hnew.typeIs, PySem.F.args_dict_init_1 _, ?_⟩
  unfold Builtin.«dict.__init__»
  refine wpAny_bind ?_
  unfold Builtin.Dict.selfAndRest
  refine wpAny_bind (wpAny_notOrdered_dict hnew.typeIs ?_)
  show wpAny _ _ (pure (s.heap.objs.size, ([] : List Value))) _ _ _
  refine wpAny_pure ?_
  show wpAny _ _ (Builtin.Dict.addKeywords s.heap.objs.size [] >>= _) _ _ _
  exact wpAny_bind (wpAny_pure (wpAny_pure ⟨rfl, h⟩))
end
section
variable {X : Cx}
theorem call_dict0 : CallR X (.type "dict") (fun xs H Q => xs = [] ∧ ∀ p, H p = none → Q (.ref p) (upd H p (.dK []))) := by
  intro pins s σ H xs us Q I r q
  obtain ⟨rfl, q⟩ := q
  cases r
  refine call_dict_none ?_
  have hm : (s.heap.objs.size == sysModules) = false := beq_eq_false_iff_ne.mpr (Nat.ne_of_gt I.big)
  have hd' : (s.heap.push { cls := .type "dict", data := .dict #[] }).DictOf (mixKind X.prog X.w) s.heap.objs.size [] := Heap.DictOf.new s.heap
  exact ⟨.ref s.heap.objs.size, upd H s.heap.objs.size (.dK []), I.laid (t' := s.toks) (fun b o e => Heap.get?_push_of_some _ e) (Nat.le_refl _) (show ObjOk X.prog X.w _ _ _ (.dK []) from ⟨Nat.zero_le _, hm, [], .nil, hd'⟩), rfl, q _ (I.hok.fresh (Nat.le_refl _))⟩
end
end L2
set_option maxRecDepth 100000
set_option maxHeartbeats 2000000
/-! sorted names: one order -/
namespace Fm
open PySem PySem.Spec PyProof.Rows L2
def leS (a b : Str) : Prop := a.cps.toList ≤ b.cps.toList
theorem leS_of {a b : Str} (h : ltCps b.cps.toList a.cps.toList = false) : leS a b := by
  rw [ltCps_eq] at h
  have h' := of_decide_eq_false h
  unfold leS
  exact List.not_lt.mp h'
theorem rising_pw : ∀ (l : List Str) (p : Str), risingS p l = true → (p :: l).Pairwise leS
  | [], p, _ => List.pairwise_singleton _ _
  | x :: r, p, h => by
    have h' : (!ltCps x.cps.toList p.cps.toList && risingS x r) = true := h
    obtain ⟨h1, h2⟩ := Bool.and_eq_true_iff.mp h'
    have ih := rising_pw r x h2
    have px : leS p x := leS_of (by simpa using h1)
    refine List.pairwise_cons.mpr ⟨fun y hy => ?_, ih⟩
    rcases List.mem_cons.mp hy with rfl | hy
    · exact px
    · exact List.le_trans px (List.rel_of_pairwise_cons ih hy)
theorem sorted_pw {l : List Str} (h : sortedS l = true) : l.Pairwise leS := by
  cases l with
  | nil => exact .nil
  | cons x r => exact rising_pw r x h
theorem sorted_one {l m : List Str} (h1 : sortedS l = true) (h2 : sortedS m = true) (p : l.Perm m) : l = m := by
  refine List.Perm.eq_of_pairwise (le := leS) (fun a b _ _ x y => ?_) (sorted_pw h1) (sorted_pw h2) p
  have e : a.cps.toList = b.cps.toList := List.le_antisymm x y
  cases a
  cases b
  simp only at e
  congr 1
  exact Array.ext' e
/-- a list of names as data -/
def dS (ys : List Str) : D := .lst (ys.map D.str)
theorem dvl_names {H : Hp} : ∀ {ys : List Str}, (∀ y ∈ ys, PyData.strOk y = true) → DvL H (ys.map V.str) (ys.map D.str)
  | [], _ => .nil
  | y :: ys, h => .cons (.str y (h y List.mem_cons_self)) (dvl_names fun z hz => h z (List.mem_cons_of_mem _ hz))
theorem strs_d : ∀ {ys : List Str}, (∀ y ∈ ys, y.length ≤ 20) → noDics (ys.map D.str) = true ∧ sizes (ys.map D.str) ≤ 21 * ys.length ∧ deeps (ys.map D.str) = 0 ∧ intsOf (ys.map D.str) = []
  | [], _ => ⟨rfl, Nat.le_refl _, rfl, rfl⟩
  | y :: ys, h => by
    obtain ⟨h1, h2, h3, h4⟩ := strs_d fun z hz => h z (List.mem_cons_of_mem _ hz)
    have ly := h y List.mem_cons_self
    refine ⟨?_, ?_, ?_, ?_⟩
    · simp only [List.map_cons, noDics, noDic, h1, Bool.and_self]
    · simp only [List.map_cons, sizes, D.size, List.length_cons]; omega
    · simp only [List.map_cons, deeps, D.deep, h3]; rfl
    · simp only [List.map_cons, intsOf, intsIn, h4]; rfl
/-- what _law_alike asks of two equal lists of names -/
theorem names_pd {K : PySem.W.Frag} {H : Hp} {v : V} {ys : List Str} (h : Dv H v (dS ys)) (hy : ∀ y ∈ ys, y.length ≤ 20) (n : ys.length ≤ 20) :
    Dp K H v (pdOf (dS ys)) ∧ SeqAt.shaped (pdOf (dS ys)) = true ∧ (pdOf (dS ys)).showable = true ∧ (pdOf (dS ys)).hasDict = false ∧ (pdOf (dS ys)).depth ≤ 60 ∧ (pdOf (dS ys)).shown.length ≤ sizeLine := by
  obtain ⟨h1, h2, h3, h4⟩ := strs_d hy
  have e : intsIn (dS ys) = [] := h4
  refine pd_ok (B := 13) (bits := 20) (by decide) h (by rw [e]; intro i hi; cases hi) h1 (by simp only [dS, D.deep, h3]; omega) ?_
  rw [e]
  simp only [dS, D.size, List.length_nil]
  omega
/-- .. and of two equal pairs of a number and such a list -/
theorem told_pd {K : PySem.W.Frag} {H : Hp} {v : V} {i : Int} {ys : List Str} (h : Dv H v (.lst [.int i, dS ys])) (i0 : 0 ≤ i) (i1 : i < 1000000) (hy : ∀ y ∈ ys, y.length ≤ 20) (n : ys.length ≤ 20) :
    Dp K H v (pdOf (.lst [.int i, dS ys])) ∧ SeqAt.shaped (pdOf (.lst [.int i, dS ys])) = true ∧ (pdOf (.lst [.int i, dS ys])).showable = true ∧ (pdOf (.lst [.int i, dS ys])).hasDict = false ∧ (pdOf (.lst [.int i, dS ys])).depth ≤ 60 ∧ (pdOf (.lst [.int i, dS ys])).shown.length ≤ sizeLine := by
  obtain ⟨h1, h2, h3, h4⟩ := strs_d hy
  have e : intsIn (.lst [.int i, dS ys]) = [i] := by simp only [intsIn, intsOf, dS, h4]; rfl
  refine pd_ok (B := 13) (bits := 20) (by decide) h (by rw [e]; intro j hj; rw [List.mem_singleton.mp hj]; exact short_small i0 i1) ?_ (by simp only [dS, D.deep, deeps, h3]; omega) ?_
  · simp only [noDic, noDics, dS, h1]; rfl
  · rw [e]
    simp only [dS, D.size, sizes, List.length_singleton]
    omega
end Fm
set_option maxRecDepth 100000
set_option maxHeartbeats 2000000
namespace K21
open PySem PySem.Spec PyProof.Rows L2 Fm NkD
/-- the i-th statement of the text -/
def top (i : Nat) : Stmt := PySem.Challenge.pw_framemoves_k21_worlds_refused.main.body.getD i (.Pass ⟨0, 0, 0, 0⟩)
abbrev s__wall : Stmt := top 0
abbrev N__wall : List Str := ["k"]
theorem sc__wall : FnScope N__wall ["k"] (defScope s__wall) := ⟨rfl, rfl, rfl, by decide +kernel, rfl, by decide +kernel, by decide +kernel⟩
abbrev s_is_integer : Stmt := top 7
abbrev N_is_integer : List Str := ["thing"]
theorem sc_is_integer : FnScope N_is_integer ["thing"] (defScope s_is_integer) := ⟨rfl, rfl, rfl, by decide +kernel, rfl, by decide +kernel, by decide +kernel⟩
abbrev s_is_below : Stmt := top 8
abbrev N_is_below : List Str := ["thing", "bound"]
theorem sc_is_below : FnScope N_is_below ["thing", "bound"] (defScope s_is_below) := ⟨rfl, rfl, rfl, by decide +kernel, rfl, by decide +kernel, by decide +kernel⟩
abbrev s_is_name : Stmt := top 9
abbrev N_is_name : List Str := ["thing", "letter"]
theorem sc_is_name : FnScope N_is_name ["thing"] (defScope s_is_name) := ⟨rfl, rfl, rfl, by decide +kernel, rfl, by decide +kernel, by decide +kernel⟩
abbrev s_is_outcome : Stmt := top 10
abbrev N_is_outcome : List Str := ["thing"]
theorem sc_is_outcome : FnScope N_is_outcome ["thing"] (defScope s_is_outcome) := ⟨rfl, rfl, rfl, by decide +kernel, rfl, by decide +kernel, by decide +kernel⟩
abbrev s_are_outcomes : Stmt := top 12
abbrev N_are_outcomes : List Str := ["thing", "outcome", "brought"]
theorem sc_are_outcomes : FnScope N_are_outcomes ["thing"] (defScope s_are_outcomes) := ⟨rfl, rfl, rfl, by decide +kernel, rfl, by decide +kernel, by decide +kernel⟩
abbrev s_is_act : Stmt := top 13
abbrev N_is_act : List Str := ["thing"]
theorem sc_is_act : FnScope N_is_act ["thing"] (defScope s_is_act) := ⟨rfl, rfl, rfl, by decide +kernel, rfl, by decide +kernel, by decide +kernel⟩
abbrev s_World_init : Stmt := inClass (top 14) 0
abbrev N_World_init : List Str := ["self", "acts", "name"]
theorem sc_World_init : FnScope N_World_init ["self", "acts"] (defScope s_World_init) := ⟨rfl, rfl, rfl, by decide +kernel, rfl, by decide +kernel, by decide +kernel⟩
abbrev s_World_acts : Stmt := inClass (top 14) 1
abbrev N_World_acts : List Str := ["self"]
theorem sc_World_acts : FnScope N_World_acts ["self"] (defScope s_World_acts) := ⟨rfl, rfl, rfl, by decide +kernel, rfl, by decide +kernel, by decide +kernel⟩
abbrev s_World_arguments : Stmt := inClass (top 14) 2
abbrev N_World_arguments : List Str := ["self", "act"]
theorem sc_World_arguments : FnScope N_World_arguments ["self", "act"] (defScope s_World_arguments) := ⟨rfl, rfl, rfl, by decide +kernel, rfl, by decide +kernel, by decide +kernel⟩
abbrev s_World_outcomes : Stmt := inClass (top 14) 3
abbrev N_World_outcomes : List Str := ["self", "act"]
theorem sc_World_outcomes : FnScope N_World_outcomes ["self", "act"] (defScope s_World_outcomes) := ⟨rfl, rfl, rfl, by decide +kernel, rfl, by decide +kernel, by decide +kernel⟩
abbrev s_World_brings : Stmt := inClass (top 14) 4
abbrev N_World_brings : List Str := ["self", "act", "outcome"]
theorem sc_World_brings : FnScope N_World_brings ["self", "act", "outcome"] (defScope s_World_brings) := ⟨rfl, rfl, rfl, by decide +kernel, rfl, by decide +kernel, by decide +kernel⟩
abbrev s_World_eq : Stmt := inClass (top 14) 5
abbrev N_World_eq : List Str := ["self", "other"]
theorem sc_World_eq : FnScope N_World_eq ["self", "other"] (defScope s_World_eq) := ⟨rfl, rfl, rfl, by decide +kernel, rfl, by decide +kernel, by decide +kernel⟩
abbrev s__law_bag : Stmt := top 16
abbrev N__law_bag : List Str := ["_law_script", "_law_cell"]
theorem sc__law_bag : FnScope N__law_bag ["_law_script"] (defScope s__law_bag) := ⟨rfl, rfl, rfl, by decide +kernel, rfl, by decide +kernel, by decide +kernel⟩
abbrev s__law_take : Stmt := top 17
abbrev N__law_take : List Str := ["_law_bag_here", "_law_many", "_law_cell", "_law_mixed_here", "_law_value", "_law_begin", "_law_second"]
theorem sc__law_take : FnScope N__law_take ["_law_bag_here", "_law_many"] (defScope s__law_take) := ⟨rfl, rfl, rfl, by decide +kernel, rfl, by decide +kernel, by decide +kernel⟩
abbrev s__law_alike : Stmt := top 18
abbrev N__law_alike : List Str := ["_law_found", "_law_due_here"]
theorem sc__law_alike : FnScope N__law_alike ["_law_found", "_law_due_here"] (defScope s__law_alike) := ⟨rfl, rfl, rfl, by decide +kernel, rfl, by decide +kernel, by decide +kernel⟩
abbrev s__law_mixed : Stmt := top 19
abbrev N__law_mixed : List Str := ["_law_bag_here", "_law_things", "_law_found", "_law_thing_here"]
theorem sc__law_mixed : FnScope N__law_mixed ["_law_bag_here", "_law_things"] (defScope s__law_mixed) := ⟨rfl, rfl, rfl, by decide +kernel, rfl, by decide +kernel, by decide +kernel⟩
abbrev s__law_names : Stmt := top 20
abbrev N__law_names : List Str := ["_law_bag_here", "_law_many", "_law_letters", "_law_words", "_law_way", "_law_turn", "_law_base", "_law_at", "_law_k"]
theorem sc__law_names : FnScope N__law_names ["_law_bag_here", "_law_many"] (defScope s__law_names) := ⟨rfl, rfl, rfl, by decide +kernel, rfl, by decide +kernel, by decide +kernel⟩
abbrev s__law_acts : Stmt := top 21
abbrev N__law_acts : List Str := ["_law_bag_here", "_law_many", "_law_names_here", "_law_words", "_law_acts_here", "_law_name", "_law_outcomes", "_law_word"]
theorem sc__law_acts : FnScope N__law_acts ["_law_bag_here", "_law_many"] (defScope s__law_acts) := ⟨rfl, rfl, rfl, by decide +kernel, rfl, by decide +kernel, by decide +kernel⟩
abbrev s__law_is_whole : Stmt := top 22
abbrev N__law_is_whole : List Str := ["_law_thing_here", "_law_low", "_law_high"]
theorem sc__law_is_whole : FnScope N__law_is_whole ["_law_thing_here", "_law_low", "_law_high"] (defScope s__law_is_whole) := ⟨rfl, rfl, rfl, by decide +kernel, rfl, by decide +kernel, by decide +kernel⟩
abbrev s__law_is_word : Stmt := top 23
abbrev N__law_is_word : List Str := ["_law_thing_here", "_law_sign"]
theorem sc__law_is_word : FnScope N__law_is_word ["_law_thing_here"] (defScope s__law_is_word) := ⟨rfl, rfl, rfl, by decide +kernel, rfl, by decide +kernel, by decide +kernel⟩
abbrev s__law_is_outcome : Stmt := top 24
abbrev N__law_is_outcome : List Str := ["_law_thing_here"]
theorem sc__law_is_outcome : FnScope N__law_is_outcome ["_law_thing_here"] (defScope s__law_is_outcome) := ⟨rfl, rfl, rfl, by decide +kernel, rfl, by decide +kernel, by decide +kernel⟩
abbrev s__law_is_act : Stmt := top 25
abbrev N__law_is_act : List Str := ["_law_thing_here", "_law_outcomes", "_law_one"]
theorem sc__law_is_act : FnScope N__law_is_act ["_law_thing_here"] (defScope s__law_is_act) := ⟨rfl, rfl, rfl, by decide +kernel, rfl, by decide +kernel, by decide +kernel⟩
abbrev s__law_due : Stmt := top 26
abbrev N__law_due : List Str := ["_law_thing_here", "_law_bad", "_law_one", "_law_name"]
theorem sc__law_due : FnScope N__law_due ["_law_thing_here"] (defScope s__law_due) := ⟨rfl, rfl, rfl, by decide +kernel, rfl, by decide +kernel, by decide +kernel⟩
abbrev s__law_heard : Stmt := top 27
abbrev N__law_heard : List Str := ["_law_thing_here", "e", "_law_kinds"]
theorem sc__law_heard : FnScope N__law_heard ["_law_thing_here"] (defScope s__law_heard) := ⟨rfl, rfl, rfl, by decide +kernel, rfl, by decide +kernel, by decide +kernel⟩
abbrev s__law_odd_act : Stmt := top 28
abbrev N__law_odd_act : List Str := ["_law_bag_here", "_law_act", "_law_arguments", "_law_outcomes", "_law_one", "_law_more", "_law_some", "_law_key", "_law_given_out", "_law_many", "_law_k"]
theorem sc__law_odd_act : FnScope N__law_odd_act ["_law_bag_here", "_law_act"] (defScope s__law_odd_act) := ⟨rfl, rfl, rfl, by decide +kernel, rfl, by decide +kernel, by decide +kernel⟩
abbrev s__law_thing : Stmt := top 29
abbrev N__law_thing : List Str := ["_law_bag_here", "_law_acts_here", "_law_way", "_law_key", "_law_turn", "_law_name", "_law_one"]
theorem sc__law_thing : FnScope N__law_thing ["_law_bag_here"] (defScope s__law_thing) := ⟨rfl, rfl, rfl, by decide +kernel, rfl, by decide +kernel, by decide +kernel⟩
abbrev s_law : Stmt := top 30
abbrev N_law : List Str := ["_law_script", "_law_bag_here", "_law_turn", "_law_thing_here", "_law_text", "_law_inner", "_law_k", "_law_found"]
theorem sc_law : FnScope N_law ["_law_script"] (defScope s_law) := ⟨rfl, rfl, rfl, by decide +kernel, rfl, by decide +kernel, by decide +kernel⟩
/-- what the top has written: where each def stands, what names are still the built-in ones -/
structure Txt (K : PySem.W.Frag) (mg : Str → Option Value) where
  a__wall : Addr
  d__wall : FuncData
  F__wall : Fun K "_wall" "_wall" s__wall a__wall d__wall
  f__wall : mg "_wall" = some (.ref a__wall)
  b__wall : Binds K d__wall ["k"] []
  a_is_integer : Addr
  d_is_integer : FuncData
  F_is_integer : Fun K "is_integer" "is_integer" s_is_integer a_is_integer d_is_integer
  f_is_integer : mg "is_integer" = some (.ref a_is_integer)
  b_is_integer : Binds K d_is_integer ["thing"] []
  a_is_below : Addr
  d_is_below : FuncData
  F_is_below : Fun K "is_below" "is_below" s_is_below a_is_below d_is_below
  f_is_below : mg "is_below" = some (.ref a_is_below)
  b_is_below : Binds K d_is_below ["thing", "bound"] []
  a_is_name : Addr
  d_is_name : FuncData
  F_is_name : Fun K "is_name" "is_name" s_is_name a_is_name d_is_name
  f_is_name : mg "is_name" = some (.ref a_is_name)
  b_is_name : Binds K d_is_name ["thing"] []
  a_is_outcome : Addr
  d_is_outcome : FuncData
  F_is_outcome : Fun K "is_outcome" "is_outcome" s_is_outcome a_is_outcome d_is_outcome
  f_is_outcome : mg "is_outcome" = some (.ref a_is_outcome)
  b_is_outcome : Binds K d_is_outcome ["thing"] []
  a_are_outcomes : Addr
  d_are_outcomes : FuncData
  F_are_outcomes : Fun K "are_outcomes" "are_outcomes" s_are_outcomes a_are_outcomes d_are_outcomes
  f_are_outcomes : mg "are_outcomes" = some (.ref a_are_outcomes)
  b_are_outcomes : Binds K d_are_outcomes ["thing"] []
  a_is_act : Addr
  d_is_act : FuncData
  F_is_act : Fun K "is_act" "is_act" s_is_act a_is_act d_is_act
  f_is_act : mg "is_act" = some (.ref a_is_act)
  b_is_act : Binds K d_is_act ["thing"] []
  a_World_init : Addr
  d_World_init : FuncData
  F_World_init : Fun K "__init__" "World.__init__" s_World_init a_World_init d_World_init
  b_World_init : Binds K d_World_init ["self", "acts"] []
  a_World_acts : Addr
  d_World_acts : FuncData
  F_World_acts : Fun K "acts" "World.acts" s_World_acts a_World_acts d_World_acts
  b_World_acts : Binds K d_World_acts ["self"] []
  a_World_arguments : Addr
  d_World_arguments : FuncData
  F_World_arguments : Fun K "arguments" "World.arguments" s_World_arguments a_World_arguments d_World_arguments
  b_World_arguments : Binds K d_World_arguments ["self", "act"] []
  a_World_outcomes : Addr
  d_World_outcomes : FuncData
  F_World_outcomes : Fun K "outcomes" "World.outcomes" s_World_outcomes a_World_outcomes d_World_outcomes
  b_World_outcomes : Binds K d_World_outcomes ["self", "act"] []
  a_World_brings : Addr
  d_World_brings : FuncData
  F_World_brings : Fun K "brings" "World.brings" s_World_brings a_World_brings d_World_brings
  b_World_brings : Binds K d_World_brings ["self", "act", "outcome"] []
  a_World_eq : Addr
  d_World_eq : FuncData
  F_World_eq : Fun K "__eq__" "World.__eq__" s_World_eq a_World_eq d_World_eq
  b_World_eq : Binds K d_World_eq ["self", "other"] []
  a__law_bag : Addr
  d__law_bag : FuncData
  F__law_bag : Fun K "_law_bag" "_law_bag" s__law_bag a__law_bag d__law_bag
  f__law_bag : mg "_law_bag" = some (.ref a__law_bag)
  b__law_bag : Binds K d__law_bag ["_law_script"] []
  a__law_take : Addr
  d__law_take : FuncData
  F__law_take : Fun K "_law_take" "_law_take" s__law_take a__law_take d__law_take
  f__law_take : mg "_law_take" = some (.ref a__law_take)
  b__law_take : Binds K d__law_take ["_law_bag_here", "_law_many"] []
  a__law_alike : Addr
  d__law_alike : FuncData
  F__law_alike : Fun K "_law_alike" "_law_alike" s__law_alike a__law_alike d__law_alike
  f__law_alike : mg "_law_alike" = some (.ref a__law_alike)
  b__law_alike : Binds K d__law_alike ["_law_found", "_law_due_here"] []
  a__law_mixed : Addr
  d__law_mixed : FuncData
  F__law_mixed : Fun K "_law_mixed" "_law_mixed" s__law_mixed a__law_mixed d__law_mixed
  f__law_mixed : mg "_law_mixed" = some (.ref a__law_mixed)
  b__law_mixed : Binds K d__law_mixed ["_law_bag_here", "_law_things"] []
  a__law_names : Addr
  d__law_names : FuncData
  F__law_names : Fun K "_law_names" "_law_names" s__law_names a__law_names d__law_names
  f__law_names : mg "_law_names" = some (.ref a__law_names)
  b__law_names : Binds K d__law_names ["_law_bag_here", "_law_many"] []
  a__law_acts : Addr
  d__law_acts : FuncData
  F__law_acts : Fun K "_law_acts" "_law_acts" s__law_acts a__law_acts d__law_acts
  f__law_acts : mg "_law_acts" = some (.ref a__law_acts)
  b__law_acts : Binds K d__law_acts ["_law_bag_here", "_law_many"] []
  a__law_is_whole : Addr
  d__law_is_whole : FuncData
  F__law_is_whole : Fun K "_law_is_whole" "_law_is_whole" s__law_is_whole a__law_is_whole d__law_is_whole
  f__law_is_whole : mg "_law_is_whole" = some (.ref a__law_is_whole)
  b__law_is_whole : Binds K d__law_is_whole ["_law_thing_here", "_law_low", "_law_high"] []
  a__law_is_word : Addr
  d__law_is_word : FuncData
  F__law_is_word : Fun K "_law_is_word" "_law_is_word" s__law_is_word a__law_is_word d__law_is_word
  f__law_is_word : mg "_law_is_word" = some (.ref a__law_is_word)
  b__law_is_word : Binds K d__law_is_word ["_law_thing_here"] []
  a__law_is_outcome : Addr
  d__law_is_outcome : FuncData
  F__law_is_outcome : Fun K "_law_is_outcome" "_law_is_outcome" s__law_is_outcome a__law_is_outcome d__law_is_outcome
  f__law_is_outcome : mg "_law_is_outcome" = some (.ref a__law_is_outcome)
  b__law_is_outcome : Binds K d__law_is_outcome ["_law_thing_here"] []
  a__law_is_act : Addr
  d__law_is_act : FuncData
  F__law_is_act : Fun K "_law_is_act" "_law_is_act" s__law_is_act a__law_is_act d__law_is_act
  f__law_is_act : mg "_law_is_act" = some (.ref a__law_is_act)
  b__law_is_act : Binds K d__law_is_act ["_law_thing_here"] []
  a__law_due : Addr
  d__law_due : FuncData
  F__law_due : Fun K "_law_due" "_law_due" s__law_due a__law_due d__law_due
  f__law_due : mg "_law_due" = some (.ref a__law_due)
  b__law_due : Binds K d__law_due ["_law_thing_here"] []
  a__law_heard : Addr
  d__law_heard : FuncData
  F__law_heard : Fun K "_law_heard" "_law_heard" s__law_heard a__law_heard d__law_heard
  f__law_heard : mg "_law_heard" = some (.ref a__law_heard)
  b__law_heard : Binds K d__law_heard ["_law_thing_here"] []
  a__law_odd_act : Addr
  d__law_odd_act : FuncData
  F__law_odd_act : Fun K "_law_odd_act" "_law_odd_act" s__law_odd_act a__law_odd_act d__law_odd_act
  f__law_odd_act : mg "_law_odd_act" = some (.ref a__law_odd_act)
  b__law_odd_act : Binds K d__law_odd_act ["_law_bag_here", "_law_act"] []
  a__law_thing : Addr
  d__law_thing : FuncData
  F__law_thing : Fun K "_law_thing" "_law_thing" s__law_thing a__law_thing d__law_thing
  f__law_thing : mg "_law_thing" = some (.ref a__law_thing)
  b__law_thing : Binds K d__law_thing ["_law_bag_here"] []
  a_law : Addr
  d_law : FuncData
  F_law : Fun K "law" "law" s_law a_law d_law
  f_law : mg "law" = some (.ref a_law)
  b_law : Binds K d_law ["_law_script"] []
  C_World : Addr
  g_World : mg "World" = some (.ref C_World)
  cl_World : Cls K C_World
  mk_World : Mk K C_World a_World_init
  me_World_acts : Meth K C_World "acts" a_World_acts
  me_World_arguments : Meth K C_World "arguments" a_World_arguments
  me_World_outcomes : Meth K C_World "outcomes" a_World_outcomes
  me_World_brings : Meth K C_World "brings" a_World_brings
  sp_World_eq : PySem.W.findIn K (.ref C_World) "__eq__" = some (some (.ref a_World_eq))
  fn_World_eq : PySem.W.isFn K (.ref a_World_eq) = true
  na_World__arguments : NoAttr K C_World "_arguments"
  na_World__brings : NoAttr K C_World "_brings"
  ne_World : PySem.W.findIn K (.ref C_World) "__ne__" = some (some (.builtin "object.__ne__"))
  C_MoveError : Addr
  g_MoveError : mg "MoveError" = some (.ref C_MoveError)
  C_Wrong : Addr
  g_Wrong : mg "Wrong" = some (.ref C_Wrong)
  fI_Wrong : Addr
  e_Wrong : PySem.Erplace.ErTxt K mg "Wrong" "Wrong.__init__" C_Wrong fI_Wrong
  x_Wrong : ExcC K C_Wrong
  m_Wrong : PySem.W.exmOne K (.ref C_Wrong) (.ref C_MoveError) = some true
  C_BadAct : Addr
  g_BadAct : mg "BadAct" = some (.ref C_BadAct)
  fI_BadAct : Addr
  e_BadAct : PySem.Ername.ErTxt K mg "BadAct" "BadAct.__init__" C_BadAct fI_BadAct
  x_BadAct : ExcC K C_BadAct
  m_BadAct : PySem.W.exmOne K (.ref C_BadAct) (.ref C_MoveError) = some true
  m_ValueError : mg "ValueError" = none
  m_abs : mg "abs" = none
  m_all : mg "all" = none
  m_bool : mg "bool" = none
  m_dict : mg "dict" = none
  m_int : mg "int" = none
  m_isinstance : mg "isinstance" = none
  m_len : mg "len" = none
  m_list : mg "list" = none
  m_min : mg "min" = none
  m_range : mg "range" = none
  m_repr : mg "repr" = none
  m_sorted : mg "sorted" = none
  m_str : mg "str" = none
  m_tuple : mg "tuple" = none
  t_LETTERS : Tok
  g_LETTERS : mg "LETTERS" = some (.str "abcdefghijklmnopqrstuvwxyz" t_LETTERS)
end K21
set_option maxRecDepth 100000
set_option maxHeartbeats 2000000
namespace K21
open PySem L2 Fm NkD
section
variable {P : Program} {w : World} {K : PySem.W.Frag} {mg : Str → Option Value} {base : Heap} (T : Txt K mg)
/-- a def over one value that hands back a bool and leaves what stood -/
def sp1 (w : World) (f : U → Bool) : Sp := fun vs H Q _ => ∃ v d, vs = [v] ∧ Uv w H v d ∧ good d = true ∧ ∀ H', Same H H' → Q (.bl (f d)) H'
theorem sp1_len {f : U → Bool} : ∀ vs H Q E, sp1 w f vs H Q E → vs.length = 1 := by
  rintro vs H Q E ⟨v, d, rfl, _⟩
  rfl
theorem ok_is_integer : FnOk P w K mg base CX0 1 T.a_is_integer T.d_is_integer ["thing"] (sp1 w wholeU) := by
  refine T.F_is_integer.ok sc_is_integer sp1_len (fun cdv A outer s H vs Q E hr h => ?_)
  obtain ⟨v, d, rfl, hd, hg, q⟩ := h
  refine ⟨_, 
    (pss_one (ps_ret (pe_and (pe_callB call_isiN (by rfl) T.m_isinstance (by decide +kernel) (pa_cons (pv 0) (pa_cons (pe_bltn (v := .ty "int") (u := .type "int") (by rfl) T.m_int (by decide +kernel) rfl) pa_nil))) (pe_one (pe_not (pe_callB call_isiN (by rfl) T.m_isinstance (by decide +kernel) (pa_cons (pv 0) (pa_cons (pe_bltn (v := .ty "bool") (u := .type "bool") (by rfl) T.m_bool (by decide +kernel) rfl) pa_nil)))))))), ?_⟩
  refine ⟨_, rfl, _, _, _, _, _, rfl, .ty _, hd.ty, kit_int d, _, rfl, ite_b (fun hI => ?_) (fun hI => ?_)⟩
  · refine ⟨_, rfl, _, _, _, _, _, rfl, .ty _, hd.ty, kit_bl d, _, rfl, ?_⟩
    have : wholeU d = !isBl d := by cases d <;> simp_all [isInt, wholeU, isBl]
    rw [← this]
    exact q _ (Same.refl _)
  · have : wholeU d = false := by cases d <;> simp_all [isInt, wholeU]
    rw [← this]
    exact q _ (Same.refl _)
def spBelow (w : World) : Sp := fun vs H Q _ => ∃ v d n, vs = [v, .int n] ∧ Uv w H v d ∧ good d = true ∧ ∀ H', Same H H' → Q (.bl (belowU n d)) H'
theorem ok_is_below : FnOk P w K mg base CX0 2 T.a_is_below T.d_is_below ["thing", "bound"] (spBelow w) := by
  have G_is_integer := ok_is_integer (P := P) (w := w) (base := base) T
  refine T.F_is_below.ok sc_is_below ?_ (fun cdv A outer s H vs Q E hr h => ?_)
  · rintro vs H Q E ⟨v, d, n, rfl, _⟩
    rfl
  obtain ⟨v, d, n, rfl, hd, hg, q⟩ := h
  refine ⟨_, 
    (pss_one (ps_ret (pe_and (pe_call G_is_integer (hr.mono (by omega)) (by rfl) T.f_is_integer T.F_is_integer.kp T.b_is_integer .nil pass0 (pa_cons (pv 0) pa_nil)) (pe_one (pe_chain op_le op_lt pe_int (pv 0) (pv 1)))))), ?_⟩
  refine ⟨_, rfl, v, d, rfl, hd, hg, fun H1 k1 => ⟨_, rfl, ite_b (fun c => ?_) (fun c => ?_)⟩⟩
  · obtain ⟨i, rfl⟩ : ∃ i, d = .int i := by
      cases d with
      | int i => exact ⟨i, rfl⟩
      | _ => cases c
    cases hd
    refine ⟨_, rfl, _, _, rfl, rfl, _, rfl, ite_b (fun h1 => ?_) (fun h1 => ?_)⟩
    · refine ⟨_, rfl, _, _, rfl, rfl, ?_⟩
      have := q H1 k1
      rw [show belowU n (.int i) = (decide (0 ≤ i) && decide (i < n)) from rfl] at this
      rw [h1, Bool.true_and] at this
      exact this
    · have := q H1 k1
      rw [show belowU n (.int i) = (decide (0 ≤ i) && decide (i < n)) from rfl] at this
      rw [h1, Bool.false_and] at this
      exact this
  · have e : belowU n d = false := by cases d <;> first | rfl | cases c
    rw [← e]
    exact q _ k1
theorem ok_is_name : FnOk P w K mg base CX0 1 T.a_is_name T.d_is_name ["thing"] (sp1 w nameU) := by
  refine T.F_is_name.ok sc_is_name sp1_len (fun cdv A outer s H vs Q E hr h => ?_)
  obtain ⟨v, d, rfl, hd, hg, q⟩ := h
  refine ⟨_, 
    (pss_one (ps_ret (pe_and (pe_callB call_isiN (by rfl) T.m_isinstance (by decide +kernel) (pa_cons (pv 0) (pa_cons (pe_bltn (v := .ty "str") (u := .type "str") (by rfl) T.m_str (by decide +kernel) rfl) pa_nil))) (pe_and (pe_chain op_le op_le pe_int (pe_callB call_len_str (by rfl) T.m_len (by decide +kernel) (pa_cons (pv 0) pa_nil)) pe_int) (pe_one (pe_callB (cr_all rfl) (by rfl) T.m_all (by decide +kernel) (pa_cons (pe_lc (own := [("letter", 1)]) (g := gName 1) (tt := tYes) rfl sc_is_name.nd (pi_str (pv 0)) (blkOk_by (N := N_is_name) (sc := defScope s_is_name) (by decide +kernel)) (fun _ _ _ _ _ => pg_name (i := 1) sc_is_name.nd rfl (Or.inl rfl)) (fun _ _ _ _ _ => pts_nil) (fun _ _ _ _ _ => pe_cmpR op_in_str (pv 1) (pe_glob (v := .str "abcdefghijklmnopqrstuvwxyz") rfl T.g_LETTERS ⟨_, rfl⟩) (by rfl))) pa_nil))))))), ?_⟩
  refine ⟨_, rfl, _, _, _, _, _, rfl, .ty _, hd.ty, kit_str d, _, rfl, ite_b (fun hS => ?_) (fun hS => ?_)⟩
  · obtain ⟨x, rfl⟩ : ∃ x, d = .str x := by
      cases d with
      | str x => exact ⟨x, rfl⟩
      | _ => cases hS
    cases hd
    have lx : x.length ≤ 100 := by
      simp only [good, Bool.and_eq_true, decide_eq_true_eq] at hg
      exact hg.2
    refine ⟨_, rfl, x, rfl, sz (by omega), _, _, rfl, rfl, _, rfl, ite_b (fun h1 => ?_) (fun h1 => ?_)⟩
    · refine ⟨_, _, rfl, rfl, _, rfl, ite_b (fun h2 => ?_) (fun h2 => ?_)⟩
      · have l8 : x.length ≤ 8 := by have := of_decide_eq_true h2; omega
        refine ⟨_, rfl, x, rfl, ?_⟩
        intro Dl hD
        refine lc_signs (K := K) (fun y => .bl (signOk y)) (fun _ => true) hD (by omega) (fun _ => rfl) (fun _ _ _ _ r => r) (fun y H' R _ _ r => ⟨_, rfl, _, _, rfl, rfl, r⟩) (fun H' k hl => ?_)
        refine ⟨Dl, (signs x).map signOk, rfl, SqL.of ?_, ?_⟩
        · rw [hl]
          rw [filt]
          simp [List.map_map, Function.comp_def]
        · have e : nameU (.str x) = ((signs x).map signOk).all id := by
            have a1 : 1 ≤ x.length := by have := of_decide_eq_true h1; omega
            simp [nameU, isNameS, a1, l8, List.all_map, Function.comp_def]
          rw [← e]
          exact q _ k
      · have e : nameU (.str x) = false := by
          have : ¬ x.length ≤ 8 := by have := of_decide_eq_false h2; omega
          simp [nameU, isNameS, this]
        rw [← e]
        exact q _ (Same.refl _)
    · have e : nameU (.str x) = false := by
        have : ¬ 1 ≤ x.length := by have := of_decide_eq_false h1; omega
        simp only [nameU, isNameS, decide_eq_false this, Bool.false_and]
      refine ⟨_, rfl, iteF ?_⟩
      rw [← e]
      exact q _ (Same.refl _)
  · have : nameU d = false := by cases d <;> first | rfl | cases hS
    rw [← this]
    exact q _ (Same.refl _)
theorem good_cut {x : Str} (h : good (.str x) = true) : good (.str (cutLast x)) = true := by
  simp only [good, Bool.and_eq_true, decide_eq_true_eq] at h ⊢
  have ll := len_last (x := x)
  exact ⟨ok_cut h.1, by omega⟩
theorem ok_is_outcome : FnOk P w K mg base CX0 2 T.a_is_outcome T.d_is_outcome ["thing"] (sp1 w outU) := by
  have G_is_name := ok_is_name (P := P) (w := w) (base := base) T
  refine T.F_is_outcome.ok sc_is_outcome sp1_len (fun cdv A outer s H vs Q E hr h => ?_)
  obtain ⟨v, d, rfl, hd, hg, q⟩ := h
  refine ⟨_, 
    (pss_one (ps_ret (pe_and (pe_callB call_isiN (by rfl) T.m_isinstance (by decide +kernel) (pa_cons (pv 0) (pa_cons (pe_bltn (v := .ty "str") (u := .type "str") (by rfl) T.m_str (by decide +kernel) rfl) pa_nil))) (pe_one (pe_or (pe_call G_is_name (hr.mono (by omega)) (by rfl) T.f_is_name T.F_is_name.kp T.b_is_name .nil pass0 (pa_cons (pv 0) pa_nil)) (pe_one (pe_and (pe_bm PySem.F.plainAttrs_str PySem.F.slot_str_endswith PySem.F.type_str_endswith mt_endswith (pv 0) (pa_cons pe_str pa_nil)) (pe_one (pe_call G_is_name (hr.mono (by omega)) (by rfl) T.f_is_name T.F_is_name.kp T.b_is_name .nil pass0 (pa_cons (pe_slice sl_str (pv 0) po_none (po_some (pe_un un_neg pe_int))) pa_nil)))))))))), ?_⟩
  refine ⟨_, rfl, _, _, _, _, _, rfl, .ty _, hd.ty, kit_str d, _, rfl, ite_b (fun hS => ?_) (fun hS => ?_)⟩
  · obtain ⟨x, rfl⟩ : ∃ x, d = .str x := by
      cases d with
      | str x => exact ⟨x, rfl⟩
      | _ => cases hS
    cases hd with
    | str _ ox =>
    have lx : x.length ≤ 100 := by
      simp only [good, Bool.and_eq_true, decide_eq_true_eq] at hg
      exact hg.2
    refine ⟨_, rfl, _, _, rfl, .str x ox, hg, fun H1 k1 => ⟨_, rfl, ite_b (fun h1 => ?_) (fun h1 => ?_)⟩⟩
    · have e : outU (.str x) = true := by
        have h1' : isNameS x = true := h1
        simp [outU, isOutS, h1']
      rw [← e]
      exact q _ k1
    · have h1' : isNameS x = false := h1
      refine ⟨_, rfl, rfl, _, _, rfl, rfl, _, rfl, ite_b (fun h2 => ?_) (fun h2 => ?_)⟩
      · refine ⟨_, rfl, _, rfl, _, rfl, x, rfl, sz (by omega), _, _, rfl, (.str (cutLast x) (ok_cut ox)), good_cut hg, fun H2 k2 => ?_⟩
        have e : outU (.str x) = isNameS (cutLast x) := by
          simp [outU, isOutS, h1', h2]
        have q2 := q _ (k1.trans k2)
        rw [e] at q2
        exact q2
      · have e : outU (.str x) = false := by
          simp [outU, isOutS, h1', h2]
        have q2 := q _ k1
        rw [e] at q2
        exact q2
  · have : outU d = false := by cases d <;> first | rfl | cases hS
    rw [← this]
    exact q _ (Same.refl _)
end
end K21
set_option maxRecDepth 100000
set_option maxHeartbeats 2000000
/-! such dicts walked, of either kind -/
namespace NkD
open PySem PySem.Spec PyProof.Rows L2 Fm
section
variable {w : World} {H : Hp} {a : Addr} {es : List (NestedKey × V × V)} {σ : L2.St} {td : TE}
theorem lift_get {kvs : List (Key × V)} {i : Nat} : (lift kvs)[i]? = kvs[i]?.map fun p => (nkOf p.1, kV p.1, p.2) := by
  unfold lift
  rw [List.getElem?_map]
theorem lift_len (kvs : List (Key × V)) : (lift kvs).length = kvs.length := by unfold lift; rw [List.length_map]
/-- for k, v in d.items(), d locked -/
theorem items_ti (hd : ∀ (Q : VK) H', Q (.ref a) H' → td σ H' Q) (D : DO w H a es) : ∃ u, H a = some u ∧ Mut (some u) ∧ (∀ xs, u ≠ .tup xs) ∧ (∀ xs, u ≠ .lst xs) ∧ ∀ (od : Obj) (R : It → Hp → Prop),
    (∀ J, Walk J es.length (fun H' => H' a = some (.frz od u)) (YPair (fun i => es[i]?.map fun e => e.2.1) (fun i => es[i]?.map fun e => e.2.2)) → R J (upd H a (.frz od u))) →
      iItems td σ (upd H a (.frz od u)) R ∨ iItemsN w td σ (upd H a (.frz od u)) R := by
  rcases D with ⟨kvs, h, rfl, _⟩ | ⟨h, _⟩
  · refine ⟨_, h, True.intro, fun _ => nofun, fun _ => nofun, fun od R k => .inl (hd _ _ ⟨a, od, kvs, rfl, upd_same, k _ ?_⟩)⟩
    have y := walk_items (d := a) (o := od) (kvs := kvs)
    rw [lift_len]
    have e1 : (fun i : Nat => kvs[i]?.map fun kv => kV kv.1) = fun i : Nat => (lift kvs)[i]?.map fun e => e.2.1 := by
      funext i
      rw [lift_get, Option.map_map]
      rfl
    have e2 : (fun i : Nat => kvs[i]?.map Prod.snd) = fun i : Nat => (lift kvs)[i]?.map fun e => e.2.2 := by
      funext i
      rw [lift_get, Option.map_map]
      rfl
    rw [e1, e2] at y
    exact y
  · exact ⟨_, h, True.intro, fun _ => nofun, fun _ => nofun, fun od R k => .inr (hd _ _ ⟨a, od, es, rfl, upd_same, k _ walk_itemsN⟩)⟩
/-- for k in d, d locked -/
theorem keys_ti (hd : ∀ (Q : VK) H', Q (.ref a) H' → td σ H' Q) (D : DO w H a es) : ∃ u, H a = some u ∧ Mut (some u) ∧ (∀ xs, u ≠ .tup xs) ∧ (∀ xs, u ≠ .lst xs) ∧ ∀ (od : Obj) (R : It → Hp → Prop),
    DA w (upd H a (.frz od u)) a es → (∀ J, Walk J es.length (fun H' => H' a = some (.frz od u)) (fun i H x H' => H' = H ∧ ∃ k v, es[i]? = some (k, x, v)) → R J (upd H a (.frz od u))) →
      iKeys td σ (upd H a (.frz od u)) R ∨ iKeysN w td σ (upd H a (.frz od u)) R := by
  rcases D with ⟨kvs, h, rfl, _⟩ | ⟨h, _⟩
  · refine ⟨_, h, True.intro, fun _ => nofun, fun _ => nofun, fun od R _ k => .inl (hd _ _ ⟨a, od, rfl, .inl ⟨kvs, upd_same, k _ ?_⟩⟩)⟩
    rw [lift_len]
    refine (walk_keys (d := a) (o := od) (kvs := kvs)).mono (fun _ h => h) fun i H1 x H2 _ _ y => ?_
    obtain ⟨e, k, v, e2, e3⟩ := y
    exact ⟨e, nkOf k, v, by rw [lift_get, e2, e3]; rfl⟩
  · exact ⟨_, h, True.intro, fun _ => nofun, fun _ => nofun, fun od R _ k => .inr (hd _ _ ⟨a, od, es, rfl, upd_same, k _ walk_keysN⟩)⟩
theorem DO.locked {u : HO} (od : Obj) (D : DO w H a es) (hu : H a = some u) (n1 : ∀ xs, u ≠ .tup xs) : DA w (upd H a (.frz od u)) a es := by
  rcases D with ⟨kvs, h, e, _⟩ | ⟨h, kn, _⟩
  · rw [hu] at h
    cases h
    exact .inl ⟨kvs, .inr ⟨od, upd_same⟩, e⟩
  · rw [hu] at h
    cases h
    refine .inr ⟨.inr ⟨od, upd_same⟩, fun x hx => ?_, kn.nd⟩
    have y := kn.nk x hx
    generalize x.1 = k at y ⊢
    generalize x.2.1 = v at y ⊢
    cases y with
    | non => exact .non
    | bl b => exact .bl b
    | int i => exact .int i
    | str x => exact .str x
    | tup t x e =>
      exact .tup t x ((upd_ne (fun z => by rw [z, hu] at e; cases e)).trans e)
theorem DA.same {H' : Hp} (D : DA w H a es) (k : Same H H') : DA w H' a es := by
  have rd : ∀ u, Rd H a u → Rd H' a u := fun u r => r.elim (fun z => .inl (k _ _ z)) fun ⟨o, z⟩ => .inr ⟨o, k _ _ z⟩
  rcases D with ⟨kvs, h, e⟩ | ⟨h, kn⟩
  · exact .inl ⟨kvs, rd _ h, e⟩
  · exact .inr ⟨rd _ h, kn.same k⟩
end
/-! all of a range -/
theorem range_all {α : Type} {xs : List α} {f : α → Bool} {g : Nat → Bool} (h : ∀ (i : Nat) (x : α), xs[i]? = some x → g i = f x) : ((List.range xs.length).map g).all id = xs.all f := by
  induction xs generalizing g with
  | nil => rfl
  | cons x xs ih =>
    rw [List.length_cons, List.range_succ_eq_map, List.map_cons, List.map_map, List.all_cons, List.all_cons]
    rw [ih (g := g ∘ Nat.succ) fun i y e => h (i + 1) y (by simpa using e)]
    rw [show id (g 0) = g 0 from rfl, h 0 x rfl]
/-- what holds at the i-th place -/
def atB {α : Type} (f : α → Bool) (xs : List α) (i : Nat) : Bool := match xs[i]? with
  | some x => f x
  | none => true
theorem atB_get {α : Type} {f : α → Bool} {xs : List α} {i : Nat} {x : α} (h : xs[i]? = some x) : atB f xs i = f x := by unfold atB; rw [h]
/-! shapes -/
def shpO : U → Bool
  | .dic ks vs => noDs ks && noDs vs && decide (ks.length ≤ 1000)
  | _ => true
def shpA : U → Bool
  | .tup [_, o] => shpO o
  | _ => true
def shpT : U → Bool
  | .dic ks vs => noDs ks && vs.all shpA && decide (ks.length ≤ 60)
  | _ => true
theorem noDs_mem {ds : List U} (h : noDs ds = true) : ∀ d ∈ ds, noD d = true := by
  induction ds with
  | nil => intro d hd; cases hd
  | cons x ds ih =>
    simp only [noDs, Bool.and_eq_true] at h
    intro d hd
    rcases List.mem_cons.mp hd with rfl | hd
    · exact h.1
    · exact ih h.2 d hd
end NkD
set_option maxRecDepth 100000
set_option maxHeartbeats 2000000
namespace K21
open PySem L2 Fm NkD
section
variable {P : Program} {w : World} {K : PySem.W.Frag} {mg : Str → Option Value} {base : Heap} (T : Txt K mg)
def spOuts (w : World) : Sp := fun vs H Q _ => ∃ v d, vs = [v] ∧ Uv w H v d ∧ good d = true ∧ shpO d = true ∧ ∀ H', Same H H' → Q (.bl (outsU d)) H'
theorem ok_are_outcomes : FnOk P w K mg base CX0 3 T.a_are_outcomes T.d_are_outcomes ["thing"] (spOuts w) := by
  have G_is_below := ok_is_below (P := P) (w := w) (base := base) T
  have G_is_outcome := ok_is_outcome (P := P) (w := w) (base := base) T
  refine T.F_are_outcomes.ok sc_are_outcomes ?_ (fun cdv A outer s H vs Q E hr h => ?_)
  · rintro vs H Q E ⟨v, d, rfl, _⟩
    rfl
  obtain ⟨v, d, rfl, hd, hg, hs, q⟩ := h
  refine ⟨_, 
    (pss_cons (ps_if (pt_not (PW.pt (pw_and (pt_val (pe_callB call_isiN (by rfl) T.m_isinstance (by decide +kernel) (pa_cons (pv 0) (pa_cons (pe_bltn (v := .ty "dict") (u := .type "dict") (by rfl) T.m_dict (by decide +kernel) rfl) pa_nil)))) (pw_and1 (pt_chain op_le op_le pe_int (pe_callB call_lenN (by rfl) T.m_len (by decide +kernel) (pa_cons (pv 0) pa_nil)) pe_int))))) (pss_one (ps_ret pe_bl)) pss_nil)
    (pss_one (ps_ret (pe_callB (cr_all rfl) (by rfl) T.m_all (by decide +kernel) (pa_cons (pe_lock (pe_lc (own := [("outcome", 1), ("brought", 2)]) (g := gTup K 2 (gCons (gName 1) (gCons (gName 2) gNil))) (tt := tYes) rfl sc_are_outcomes.nd (pi_alt (pi_items (pv 0)) (pi_itemsN (pv 0))) (blkOk_by (N := N_are_outcomes) (sc := defScope s_are_outcomes) (by decide +kernel)) (fun _ _ _ _ _ => pg_tup rfl (pgs_cons (pg_name (i := 1) sc_are_outcomes.nd rfl (Or.inl rfl)) (pgs_cons (pg_name (i := 2) sc_are_outcomes.nd rfl (Or.inl rfl)) pgs_nil))) (fun _ _ _ _ _ => pts_nil) (fun _ _ _ _ _ => pe_and (pe_call G_is_outcome (hr.mono (by omega)) (by rfl) T.f_is_outcome T.F_is_outcome.kp T.b_is_outcome .nil pass0 (pa_cons (pv 1) pa_nil)) (pe_one (pe_call G_is_below (hr.mono (by omega)) (by rfl) T.f_is_below T.F_is_below.kp T.b_is_below .nil pass0 (pa_cons (pv 2) (pa_cons pe_int pa_nil))))))) pa_nil))))), ?_⟩
  refine ⟨_, rfl, _, _, _, _, _, rfl, .ty _, hd.ty, kit_dic d, _, rfl, ite_b (fun hI => ?_) (fun hI => ?_)⟩
  · obtain ⟨ks, vs, rfl⟩ : ∃ ks vs, d = .dic ks vs := by
      cases d with
      | dic ks vs => exact ⟨ks, vs, rfl⟩
      | _ => cases hI
    cases hd with
    | @dic a es _ _ dd hk hv =>
    have lk := hk.len
    have lv := hv.len
    rw [List.length_map] at lk lv
    simp only [shpO, Bool.and_eq_true, decide_eq_true_eq] at hs
    simp only [good, Bool.and_eq_true] at hg
    have no : ¬ (1 ≤ ks.length ∧ ks.length ≤ 6) → outsU (.dic ks vs) = false := fun z => by
      show (decide (1 ≤ ks.length) && decide (ks.length ≤ 6) && (ks.zip vs).all pairU) = false
      rw [← Bool.decide_and, decide_eq_false z, Bool.false_and]
    refine ⟨_, rfl, a, es, rfl, dd.da, _, _, rfl, rfl, _, rfl, ite_b (fun h1 => ?_) (fun h1 => ?_)⟩
    · refine ⟨_, _, rfl, rfl, _, rfl, ite_b (fun h2 => ?_) (fun h2 => ?_)⟩
      · have e2 := no (fun z => by rw [decide_eq_true (show ((es.length : Nat) : Int) ≤ 6 by omega)] at h2; cases h2)
        rw [← e2]
        exact q _ (Same.refl _)
      · obtain ⟨u, hu, mu, n1, n2, ti⟩ := items_ti (w := w) (σ := [some (.ref a), none, none]) (td := tVar 0) (fun Q H' h => ⟨_, rfl, h⟩) dd
        refine ⟨a, u, hu, mu, fun od => ti od _ fun J wk Dl hD => ?_⟩
        have z6 : ks.length ≤ 6 := by
          refine Classical.byContradiction fun z => ?_
          rw [decide_eq_false (show ¬ ((es.length : Nat) : Int) ≤ 6 by omega)] at h2
          cases h2
        have z1 : 1 ≤ ks.length := by have := of_decide_eq_true h1; omega
        have hk2 := UvL.lockR (o := .frz od u) hu n1 n2 ks _ hs.1.1 hk
        have hv2 := UvL.lockR (o := .frz od u) hu n1 n2 vs _ hs.1.2 hv
        have zl : (ks.zip vs).length = es.length := by rw [List.length_zip]; omega
        refine lc_itF wk (fun i => .bl (atB pairU (ks.zip vs) i)) hD (by omega) (fun H' k => k _ _ upd_same) (fun i x H' H2 R Nx hi k y r => ?_) (fun H' k hl2 => ?_)
        · obtain ⟨T2, kk, vv, rfl, hT, rfl, e1, e2⟩ := y
          obtain ⟨kd, k1, k2⟩ := hk2.get (i := i) (v := kk) (by rw [List.getElem?_map]; exact e1)
          obtain ⟨vd, v1, v2⟩ := hv2.get (i := i) (v := vv) (by rw [List.getElem?_map]; exact e2)
          have eb : atB pairU (ks.zip vs) i = pairU (kd, vd) := atB_get (List.getElem?_zip_eq_some.mpr ⟨k1, v1⟩)
          rw [eb] at r
          have kT : Same H' (upd H' T2 (.tup [kk, vv])) := Same.new hT
          refine ⟨T2, _, rfl, SqT.of upd_same, rfl, _, _, rfl, _, _, rfl, rfl, rfl, ?_⟩
          refine ⟨_, rfl, _, _, rfl, k2.same (k.trans kT), goods_mem hg.1 _ (List.mem_of_getElem? k1), fun H3 k3 => ⟨_, rfl, ite_b (fun c => ?_) (fun c => ?_)⟩⟩
          · refine ⟨_, rfl, _, _, _, rfl, v2.same ((k.trans kT).trans k3), goods_mem hg.2 _ (List.mem_of_getElem? v1), fun H4 k4 => ?_⟩
            have e3 : pairU (kd, vd) = belowU 3 vd := by unfold pairU; rw [c, Bool.true_and]
            rw [e3] at r
            exact r H4 (kT.trans (k3.trans k4))
          · have e3 : pairU (kd, vd) = false := by unfold pairU; rw [c, Bool.false_and]
            rw [e3] at r
            exact r H3 (kT.trans k3)
        · refine ⟨k _ _ upd_same, ?_⟩
          have nd : Dl ≠ a := fun z => by rw [z, upd_same] at hD; cases hD
          refine ⟨Dl, (List.range es.length).map (atB pairU (ks.zip vs)), rfl, SqL.of ?_, ?_⟩
          · rw [upd_ne nd, hl2, List.map_map]
            rfl
          · have e : ((List.range es.length).map (atB pairU (ks.zip vs))).all id = outsU (.dic ks vs) := by
              rw [← zl, range_all (f := pairU) fun i x e => atB_get e]
              simp [outsU, z1, z6]
            rw [e]
            exact q _ (lock_back hu k)
    · have e2 := no (fun z => by have := of_decide_eq_false h1; omega)
      refine ⟨_, rfl, iteT ?_⟩
      rw [← e2]
      exact q _ (Same.refl _)
  · have e2 : outsU d = false := by cases d <;> first | rfl | cases hI
    refine iteT ?_
    rw [← e2]
    exact q _ (Same.refl _)
def spAct (w : World) : Sp := fun vs H Q _ => ∃ v d, vs = [v] ∧ Uv w H v d ∧ good d = true ∧ shpA d = true ∧ ∀ H', Same H H' → Q (.bl (actU d)) H'
theorem ok_is_act : FnOk P w K mg base CX0 4 T.a_is_act T.d_is_act ["thing"] (spAct w) := by
  have G_is_below := ok_is_below (P := P) (w := w) (base := base) T
  have G_are_outcomes := ok_are_outcomes (P := P) (w := w) (base := base) T
  refine T.F_is_act.ok sc_is_act ?_ (fun cdv A outer s H vs Q E hr h => ?_)
  · rintro vs H Q E ⟨v, d, rfl, _⟩
    rfl
  obtain ⟨v, d, rfl, hd, hg, hs, q⟩ := h
  refine ⟨_, 
    (pss_one (ps_ret (pe_and (pe_callB call_isiN (by rfl) T.m_isinstance (by decide +kernel) (pa_cons (pv 0) (pa_cons (pe_bltn (v := .ty "tuple") (u := .type "tuple") (by rfl) T.m_tuple (by decide +kernel) rfl) pa_nil))) (pe_and (pe_cmpR op_eq (pe_callB call_len_seq (by rfl) T.m_len (by decide +kernel) (pa_cons (pv 0) pa_nil)) pe_int (nomark _)) (pe_and (pe_call G_is_below (hr.mono (by omega)) (by rfl) T.f_is_below T.F_is_below.kp T.b_is_below .nil pass0 (pa_cons (pe_ix ix_tup (pv 0) pe_int (fun _ _ => rfl)) (pa_cons pe_int pa_nil))) (pe_one (pe_call G_are_outcomes (hr.mono (by omega)) (by rfl) T.f_are_outcomes T.F_are_outcomes.kp T.b_are_outcomes .nil pass0 (pa_cons (pe_ix ix_tup (pv 0) pe_int (fun _ _ => rfl)) pa_nil)))))))), ?_⟩
  refine ⟨_, rfl, _, _, _, _, _, rfl, .ty _, hd.ty, kit_tup d, _, rfl, ite_b (fun hI => ?_) (fun hI => ?_)⟩
  · obtain ⟨ds, rfl⟩ : ∃ ds, d = .tup ds := by
      cases d with
      | tup ds => exact ⟨ds, rfl⟩
      | _ => cases hI
    cases hd with
    | @tup t xs _ ht hx =>
    have lx := hx.len
    refine ⟨_, rfl, t, _, rfl, .inr (SqT.of ht), rfl, _, rfl, ite_b (fun h2 => ?_) (fun h2 => ?_)⟩
    · have l2 : ds.length = 2 := by simp at h2; omega
      obtain ⟨n, o, rfl⟩ : ∃ n o, ds = [n, o] := by
        match ds, l2 with
        | [n, o], _ => exact ⟨n, o, rfl⟩
      cases hx with
      | @cons x0 _ _ _ h0 hx =>
      cases hx with
      | @cons x1 _ _ _ h1 hx =>
      cases hx
      have gn : good n = true ∧ good o = true := by
        simp only [good, goods, Bool.and_eq_true] at hg
        exact ⟨hg.1, hg.2.1⟩
      have eA : actU (.tup [n, o]) = (belowU 3 n && outsU o) := rfl
      refine ⟨_, rfl, t, _, 0, _, rfl, rfl, SqT.of ht, atI_nat (j := 0) rfl, _, _, _, rfl, h0, gn.1, fun H1 k1 => ⟨_, rfl, ite_b (fun c => ?_) (fun c => ?_)⟩⟩
      · refine ⟨_, rfl, t, _, 1, _, rfl, rfl, SqT.of (k1 _ _ ht), atI_nat (j := 1) rfl, _, _, rfl, h1.same k1, gn.2, hs, fun H2 k2 => ?_⟩
        rw [eA, c, Bool.true_and] at q
        exact q H2 (k1.trans k2)
      · rw [eA, c, Bool.false_and] at q
        exact q H1 k1
    · have e2 : actU (.tup ds) = false := by
        have l2 : ¬ ds.length = 2 := fun z => by simp at h2; omega
        match ds, l2 with
        | [], _ => rfl
        | [_], _ => rfl
        | [_, _], z => exact absurd rfl z
        | _ :: _ :: _ :: _, _ => rfl
      rw [← e2]
      exact q _ (Same.refl _)
  · have e2 : actU d = false := by cases d <;> first | rfl | cases hI
    rw [← e2]
    exact q _ (Same.refl _)
end
end K21
set_option maxRecDepth 100000
set_option maxHeartbeats 2000000
/-! dicts of acts among such data -/
namespace NkD
open PySem PySem.Spec PyProof.Rows L2 Fm
theorem last_len {x : Str} : x.length ≤ (cutLast x).length + 1 := by
  unfold cutLast cutS Str.length
  simp [HT.sIx]
  omega
theorem name_len {x : Str} (h : isNameS x = true) : x.length ≤ 8 := by
  simp only [isNameS, Bool.and_eq_true, decide_eq_true_eq] at h
  exact h.1.2
theorem out_len {x : Str} (h : isOutS x = true) : x.length ≤ 9 := by
  simp only [isOutS, Bool.or_eq_true, Bool.and_eq_true] at h
  rcases h with h | h
  · have := name_len h
    omega
  · have := name_len h.2
    have := last_len (x := x)
    omega
/-- what an act is, as it is told -/
def toOut : U × U → Str × Int
  | (.str x, .int j) => (x, j)
  | _ => (Str.empty, 0)
def toOuts : U → Outs
  | .dic ks vs => (ks.zip vs).map toOut
  | _ => []
def toAct : U → Int × Outs
  | .tup [.int i, o] => (i, toOuts o)
  | _ => (0, [])
def toActs (l : List (Str × U)) : Acts := l.map fun p => (p.1, toAct p.2)
theorem below_int {n : Int} {d : U} (h : belowU n d = true) : ∃ i, d = .int i ∧ 0 ≤ i ∧ i < n := by
  cases d with
  | int i =>
    have h' : (decide (0 ≤ i) && decide (i < n)) = true := h
    rw [Bool.and_eq_true, decide_eq_true_eq, decide_eq_true_eq] at h'
    exact ⟨i, rfl, h'⟩
  | _ => cases h
theorem outs_at {w : World} {H : Hp} {v : V} {d : U} (h : Uv w H v d) (ho : outsU d = true) : ∃ a, v = .ref a ∧ OutsAt H a (toOuts d) ∧ OutsOk (toOuts d) := by
  obtain ⟨ks, vs, rfl⟩ : ∃ ks vs, d = .dic ks vs := by
    cases d with
    | dic ks vs => exact ⟨ks, vs, rfl⟩
    | _ => cases ho
  have ho' : (decide (1 ≤ ks.length) && decide (ks.length ≤ 6) && (ks.zip vs).all pairU) = true := ho
  rw [Bool.and_eq_true, Bool.and_eq_true, decide_eq_true_eq, decide_eq_true_eq, List.all_eq_true] at ho'
  obtain ⟨⟨z1, z6⟩, al⟩ := ho'
  have ln : ks.length = vs.length := by
    cases h with
    | dic _ h1 h2 =>
      have a := h1.len
      have b := h2.len
      rw [List.length_map] at a b
      omega
  have hk : ∀ k ∈ ks, ∃ x, k = .str x := fun k hk => by
    obtain ⟨i, hi⟩ := List.mem_iff_getElem?.mp hk
    have li := (List.getElem?_eq_some_iff.mp hi).1
    obtain ⟨y, hy⟩ : ∃ y, vs[i]? = some y := ⟨_, List.getElem?_eq_getElem (by omega)⟩
    have := al (k, y) (List.mem_of_getElem? (List.getElem?_zip_eq_some.mpr ⟨hi, hy⟩))
    simp only [pairU, Bool.and_eq_true] at this
    exact outU_str this.1
  obtain ⟨a, kvs, l, rfl, e, rfl, rfl, ek, hv, nd, ok⟩ := strs_dict h hk
  have zp : ((l.map fun p => U.str p.1).zip (l.map (·.2))) = l.map fun p => (U.str p.1, p.2) := by
    rw [List.zip_map']
  rw [zp] at al
  have al2 : ∀ p ∈ l, isOutS p.1 = true ∧ ∃ j, p.2 = .int j ∧ 0 ≤ j ∧ j < 3 := fun p hp => by
    have := al _ (List.mem_map.mpr ⟨p, hp, rfl⟩)
    simp only [pairU, Bool.and_eq_true] at this
    exact ⟨this.1, below_int this.2⟩
  have e1 : toOuts (.dic (l.map fun p => .str p.1) (l.map (·.2))) = l.map fun p => toOut (.str p.1, p.2) := by
    show (List.zip _ _).map toOut = _
    rw [zp, List.map_map]
    rfl
  rw [e1]
  have fst : ∀ p ∈ l, toOut (.str p.1, p.2) = (p.1, (toOut (.str p.1, p.2)).2) := fun p hp => by
    obtain ⟨_, j, ej, _⟩ := al2 p hp
    rw [ej]
    rfl
  refine ⟨a, rfl, ?_, ?_, ?_, ?_, ?_⟩
  · show H a = some (.dK (kO _))
    rw [e]
    congr 2
    clear e nd ok z1 z6 ln hk zp al h e1 ho
    induction l generalizing kvs with
    | nil =>
      cases kvs with
      | nil => rfl
      | cons _ _ => cases ek
    | cons p l ih =>
      cases kvs with
      | nil => cases ek
      | cons q kvs =>
        obtain ⟨qk, qv⟩ := q
        rw [List.map_cons, List.map_cons] at ek
        obtain ⟨e2, e3⟩ := List.cons.inj ek
        cases hv with
        | cons b1 b2 =>
        obtain ⟨_, j, ej, _⟩ := al2 p List.mem_cons_self
        have b1' : Uv w H qv p.2 := b1
        rw [ej] at b1'
        cases b1'
        dsimp only at e2
        subst e2
        rw [ih kvs e3 b2 (fun p hp => al2 p (List.mem_cons_of_mem _ hp)) (fun p hp => fst p (List.mem_cons_of_mem _ hp))]
        unfold kO
        rw [List.map_cons, List.map_cons, ej]
        rfl
  · show ((l.map fun p => toOut (.str p.1, p.2)).map (·.1)).Nodup
    rw [List.map_map]
    have e2 : l.map ((fun x : Str × Int => x.1) ∘ fun p => toOut (U.str p.1, p.2)) = l.map (·.1) := List.map_congr_left fun p hp => by
      show (toOut _).1 = p.1
      rw [fst p hp]
    rw [e2]
    exact nd
  · rw [List.length_map] at z1 ⊢
    exact z1
  · rw [List.length_map] at z6 ⊢
    exact z6
  · intro q hq
    obtain ⟨p, hp, rfl⟩ := List.mem_map.mp hq
    obtain ⟨a1, j, ej, a2, a3⟩ := al2 p hp
    rw [ej]
    exact ⟨a1, ok p hp, Nat.le_trans (out_len a1) (by decide), a2, a3⟩
theorem act_at {w : World} {H : Hp} {v : V} {d : U} (h : Uv w H v d) (ho : actU d = true) : ActAt H v (toAct d) ∧ 0 ≤ (toAct d).1 ∧ (toAct d).1 < 3 ∧ OutsOk (toAct d).2 := by
  obtain ⟨n, o, rfl⟩ : ∃ n o, d = .tup [n, o] := by
    match d, ho with
    | .tup [n, o], _ => exact ⟨n, o, rfl⟩
  have ho' : (belowU 3 n && outsU o) = true := ho
  rw [Bool.and_eq_true] at ho'
  obtain ⟨i, rfl, i0, i3⟩ := below_int ho'.1
  cases h with
  | @tup t xs _ ht hx =>
  cases hx with
  | cons b1 hx =>
  cases hx with
  | cons b2 hx =>
  cases hx
  cases b1
  obtain ⟨a, rfl, a1, a2⟩ := outs_at b2 ho'.2
  exact ⟨⟨t, a, rfl, ht, a1⟩, i0, i3, a2⟩
/-- a dict of good acts -/
theorem acts_at {w : World} {H : Hp} {kvs : List (Key × V)} {l : List (Str × U)} (ek : kvs.map (·.1) = l.map (fun p => .inr p.1)) (hv : UvL w H (kvs.map (·.2)) (l.map (·.2))) (al : ∀ p ∈ l, actU p.2 = true) : ActsL H kvs (toActs l) := by
  induction l generalizing kvs with
  | nil =>
    cases kvs with
    | nil => exact .nil
    | cons _ _ => cases ek
  | cons p l ih =>
    cases kvs with
    | nil => cases ek
    | cons q kvs =>
      obtain ⟨qk, qv⟩ := q
      rw [List.map_cons, List.map_cons] at ek
      obtain ⟨e2, e3⟩ := List.cons.inj ek
      cases hv with
      | cons b1 b2 =>
      dsimp only at e2
      subst e2
      exact .cons (act_at b1 (al p List.mem_cons_self)).1 (ih e3 b2 fun p hp => al p (List.mem_cons_of_mem _ hp))
theorem acts_ok {w : World} {H : Hp} {kvs : List (Key × V)} {l : List (Str × U)} (ek : kvs.map (·.1) = l.map (fun p => .inr p.1)) (hv : UvL w H (kvs.map (·.2)) (l.map (·.2))) (al : ∀ p ∈ l, actU p.2 = true) (nm : ∀ p ∈ l, isNameS p.1 = true) (ok : ∀ p ∈ l, PyData.strOk p.1 = true) (nd : (l.map (·.1)).Nodup) (hl : l.length ≤ 20) : ActsOk (toActs l) := by
  refine ⟨?_, by unfold toActs; rw [List.length_map]; exact hl, fun q hq => ?_⟩
  · show ((l.map fun p => (p.1, toAct p.2)).map (·.1)).Nodup
    rw [List.map_map]
    exact nd
  · obtain ⟨p, hp, rfl⟩ := List.mem_map.mp hq
    obtain ⟨i, hi⟩ := List.mem_iff_getElem?.mp hp
    obtain ⟨v, _, hv2⟩ := hv.getD (i := i) (d := p.2) (by rw [List.getElem?_map, hi]; rfl)
    obtain ⟨_, a1, a2, a3⟩ := act_at hv2 (al p hp)
    exact ⟨nm p hp, ok p hp, Nat.le_trans (name_len (nm p hp)) (by decide), a1, a2, a3⟩
/-- is the value under this name no act? -/
def badIn (l : List (Str × U)) (n : Str) : Bool := match l.lookup n with
  | some u => !actU u
  | none => false
theorem lookup_mem {α : Type} {l : List (Str × α)} {n : Str} {a : α} (h : l.lookup n = some a) : (n, a) ∈ l := by
  induction l with
  | nil => cases h
  | cons p l ih =>
    obtain ⟨m, b⟩ := p
    rw [List.lookup_cons] at h
    by_cases c : n = m
    · subst c
      simp only [beq_self_eq_true] at h
      cases h
      exact List.mem_cons_self
    · have : (n == m) = false := by simpa using c
      rw [this] at h
      exact List.mem_cons_of_mem _ (ih h)
theorem mem_lookup {α : Type} {l : List (Str × α)} (nd : (l.map (·.1)).Nodup) {p : Str × α} (h : p ∈ l) : l.lookup p.1 = some p.2 := by
  induction l with
  | nil => cases h
  | cons q l ih =>
    obtain ⟨m, b⟩ := q
    obtain ⟨n1, n2⟩ := List.nodup_cons.mp nd
    rw [List.lookup_cons]
    rcases List.mem_cons.mp h with e | e
    · rw [e]
      simp
    · have mem : p.1 ∈ l.map (·.1) := List.mem_map.mpr ⟨_, e, rfl⟩
      have ne : (p.1 == m) = false := by
        rw [beq_eq_false_iff_ne]
        intro z
        rw [z] at mem
        exact n1 mem
      rw [ne]
      exact ih n2 e
/-- looked up by name in such a dict -/
theorem dict_look {w : World} {H : Hp} {kvs : List (Key × V)} {l : List (Str × U)} (ek : kvs.map (·.1) = l.map (fun p => .inr p.1)) (hv : UvL w H (kvs.map (·.2)) (l.map (·.2))) {n : Str} {u : U} (h : l.lookup n = some u) : ∃ v, valV kvs (.inr n) = some v ∧ Uv w H v u := by
  induction l generalizing kvs with
  | nil => cases h
  | cons p l ih =>
    obtain ⟨m, b⟩ := p
    cases kvs with
    | nil => cases ek
    | cons q kvs =>
      obtain ⟨qk, qv⟩ := q
      rw [List.map_cons, List.map_cons] at ek
      obtain ⟨e2, e3⟩ := List.cons.inj ek
      cases hv with
      | cons b1 b2 =>
      dsimp only at e2
      subst e2
      rw [List.lookup_cons] at h
      by_cases c : n = m
      · subst c
        simp only [beq_self_eq_true] at h
        cases h
        exact ⟨qv, valV_pos rfl, b1⟩
      · have : (n == m) = false := by simpa using c
        rw [this] at h
        obtain ⟨v, h1, h2⟩ := ih e3 b2 h
        exact ⟨v, by rw [valV_neg (fun e => c (Sum.inr.inj e).symm)]; exact h1, h2⟩
theorem find_none {l : List (Str × U)} {ys : List Str} (pm : ys.Perm (l.map (·.1))) (nd : (l.map (·.1)).Nodup) (h : ys.find? (badIn l) = none) : ∀ p ∈ l, actU p.2 = true := fun p hp => by
  have := List.find?_eq_none.mp h p.1 (pm.mem_iff.mpr (List.mem_map.mpr ⟨p, hp, rfl⟩))
  unfold badIn at this
  rw [mem_lookup nd hp] at this
  simpa using this
end NkD
set_option maxRecDepth 100000
set_option maxHeartbeats 4000000
namespace K21
open PySem L2 Fm NkD
theorem find_at {p : Str → Bool} {ys : List Str} {i : Nat} {n : Str} (h : ys[i]? = some n) (hn : p n = true) (pre : ∀ j m, j < i → ys[j]? = some m → p m = false) : ys.find? p = some n := by
  induction ys generalizing i with
  | nil => simp at h
  | cons y ys ih =>
    cases i with
    | zero =>
      have : y = n := by simpa using h
      rw [List.find?_cons, this, hn]
    | succ i =>
      have y0 := pre 0 y (Nat.succ_pos _) rfl
      rw [List.find?_cons, y0]
      exact ih (by simpa using h) fun j m hj e => pre (j + 1) m (Nat.succ_lt_succ hj) (by simpa using e)
section
variable {P : Program} {w : World} {K : PySem.W.Frag} {mg : Str → Option Value} {base : Heap} (T : Txt K mg)
/-- a World of these acts -/
def WorldAt (C : Addr) (H : Hp) (x : Addr) (l : Acts) : Prop := ∃ dx d1 d2 ks, H x = some (.ins C dx (putF "_brings" (.ref d2) (putF "_arguments" (.ref d1) []))) ∧ H d1 = some (.dK (kA l)) ∧ H d2 = some (.dK ks) ∧ BringsL H ks l
/-- what stands in H' and not yet in H, and what stands at x -/
def newx (H H' : Hp) (x : Addr) : Hp := fun a => if a = x then H' a else newof H H' a
theorem newx_sub {H H' : Hp} {x : Addr} : Same (newx H H' x) H' := fun a o e => by
  unfold newx at e
  split at e
  · exact e
  · exact newof_sub _ _ e
theorem newx_of {H H' : Hp} {x a : Addr} {o : HO} (n : a ≠ x) (h : H a = none) (h2 : H' a = some o) : newx H H' x a = some o := by
  unfold newx
  rw [if_neg n]
  exact newof_of h h2

def WrongAt (C : Addr) (n : Int) (H : Hp) (E : XK) : Prop := ∀ d H', Same H H' → H d = none → H' d = some (.xd [(("place" : Str), V.int n)]) → E (.ref C) (some d) H'
def BadAt (C : Addr) (n : Str) (H : Hp) (E : XK) : Prop := ∀ d H', Same H H' → H d = none → H' d = some (.xd [(("name" : Str), V.str n)]) → E (.ref C) (some d) H'
/-- a dict of names -/
def namesU : U → Bool
  | .dic ks _ => ks.all nameU
  | _ => false
/-- told as names and values -/
structure Names (d : U) (l : List (Str × U)) : Prop where
  eq : d = .dic (l.map fun p => .str p.1) (l.map (·.2))
  nd : (l.map (·.1)).Nodup
  ok : ∀ p ∈ l, PyData.strOk p.1 = true
def spInit (w : World) : Sp := fun vs H Q E => ∃ (x dx : Addr) (v : V) (d : U), vs = [.ref x, v] ∧ H x = some (.ins T.C_World dx []) ∧ Uv w H v d ∧ good d = true ∧ shpT d = true ∧ (∀ ks vs, d = .dic ks vs → ks.length ≤ 20) ∧
  (namesU d = false → WrongAt T.C_Wrong 0 H E) ∧ ∀ (l : List (Str × U)) (ys : List Str), Names d l → namesU d = true → ys.Perm (l.map (·.1)) → PyProof.Rows.sortedS ys = true →
    (∀ n, ys.find? (badIn l) = some n → BadAt T.C_BadAct n H E) ∧
    (ys.find? (badIn l) = none → ActsOk (toActs l) → ∀ H', (∀ b o, H b = some o → b ≠ x → H' b = some o) → WorldAt T.C_World (newx H H' x) x (toActs l) → Q .non H')
theorem ok_World_init : FnOk P w K mg base (L2.CX P w) 5 T.a_World_init T.d_World_init ["self", "acts"] (spInit T w) := by
  have G_is_act := ok_is_act (P := P) (w := w) (base := base) T
  have G_is_name := ok_is_name (P := P) (w := w) (base := base) T
  refine T.F_World_init.okX sc_World_init ?_ (fun cdv A outer s H vs Q E hr h => ?_)
  · rintro vs H Q E ⟨x, dx, v, d, rfl, _⟩
    rfl
  obtain ⟨x, dx, v, d, rfl, hx, hd, hg, hs, h20, q0, q1⟩ := h
  refine ⟨_, 
    (pss_cons (ps_if (pt_not (PW.pt (pw_and (pt_val (pe_callB call_isiN (by rfl) T.m_isinstance (by decide +kernel) (pa_cons (pv 1) (pa_cons (pe_bltn (v := .ty "dict") (u := .type "dict") (by rfl) T.m_dict (by decide +kernel) rfl) pa_nil)))) (pw_and1 (pt_val (pe_callB (cr_all rfl) (by rfl) T.m_all (by decide +kernel) (pa_cons (pe_lock (pe_lc (own := [("name", 2)]) (g := gName 2) (tt := tYes) rfl sc_World_init.nd (pi_alt (pi_keys (pv 1)) (pi_keysN (pv 1))) (blkOk_by (N := N_World_init) (sc := defScope s_World_init) (by decide +kernel)) (fun _ _ _ _ _ => pg_name (i := 2) sc_World_init.nd rfl (Or.inl rfl)) (fun _ _ _ _ _ => pts_nil) (fun _ _ _ _ _ => pe_call G_is_name (hr.mono (by omega)) (by rfl) T.f_is_name T.F_is_name.kp T.b_is_name .nil pass0 (pa_cons (pv 2) pa_nil)))) pa_nil))))))) (pss_one (ps_raiseLow_place rfl T.e_Wrong hr (takes_of rfl rfl rfl rfl) (pa_cons pe_int pa_nil) (by rfl) (by decide))) pss_nil)
    (pss_cons (ps_for (passes_of rfl) rfl (pi_list (pe_callB (call_sortedD rfl) (by rfl) T.m_sorted (by decide +kernel) (pa_cons (pv 1) pa_nil))) (pg_name (i := 2) sc_World_init.nd rfl (Or.inl rfl)) (pss_one (ps_if (pt_not (pt_val (pe_call G_is_act (hr.mono (by omega)) (by rfl) T.f_is_act T.F_is_act.kp T.b_is_act .nil pass0 (pa_cons (pe_dget (hu1 hr) (pv 1) (pv 2) (fun _ _ => rfl)) pa_nil)))) (pss_one (ps_raiseLow_name rfl T.e_BadAct hr (takes_of rfl rfl rfl rfl) (pa_cons (pv 2) pa_nil) (by rfl) (by decide))) pss_nil)))
    (pss_cons (ps_fld (pv 0) (pe_lock (pe_dc (own := [("name", 2)]) (g := gName 2) (tt := tYes) rfl sc_World_init.nd (pi_alt (pi_keys (pv 1)) (pi_keysN (pv 1))) (blkOk_by (N := N_World_init) (sc := defScope s_World_init) (by decide +kernel)) (fun _ _ _ _ _ => pg_name (i := 2) sc_World_init.nd rfl (Or.inl rfl)) (fun _ _ _ _ _ => pts_nil) (fun _ _ _ _ _ => pv 2) (fun _ _ _ _ _ => pe_ix (r := rIxT K) ix_tup (pe_dget (hu1 hr) (pv 1) (pv 2) (fun _ _ => rfl)) pe_int (fun _ _ => rfl)))) rfl)
    (pss_one (ps_fld (pv 0) (pe_lock (pe_dc (own := [("name", 2)]) (g := gName 2) (tt := tYes) rfl sc_World_init.nd (pi_alt (pi_keys (pv 1)) (pi_keysN (pv 1))) (blkOk_by (N := N_World_init) (sc := defScope s_World_init) (by decide +kernel)) (fun _ _ _ _ _ => pg_name (i := 2) sc_World_init.nd rfl (Or.inl rfl)) (fun _ _ _ _ _ => pts_nil) (fun _ _ _ _ _ => pv 2) (fun _ _ _ _ _ => pe_callTy call_dictD (by rfl) T.m_dict (by decide +kernel) (pa_cons (pe_ix (r := rIxT K) ix_tup (pe_dget (hu1 hr) (pv 1) (pv 2) (fun _ _ => rfl)) pe_int (fun _ _ => rfl)) pa_nil)))) rfl))))), ?_⟩
  -- isinstance(acts, dict)
  refine ⟨_, rfl, _, _, _, _, _, rfl, .ty _, hd.ty, kit_dic d, _, rfl, ite_b (fun hI => ?_) (fun hI => iteT ⟨_, rfl, fun dd hd => q0 (by cases d <;> first | rfl | cases hI) dd _ (Same.new hd) hd upd_same⟩)⟩
  obtain ⟨kd, vd, rfl⟩ : ∃ ks vs, d = .dic ks vs := by
    cases d with
    | dic ks vs => exact ⟨ks, vs, rfl⟩
    | _ => cases hI
  have hd0 := hd
  cases hd with
  | @dic p es _ _ dd hk hv =>
  have lk := hk.len
  rw [List.length_map] at lk
  simp only [shpT, Bool.and_eq_true, decide_eq_true_eq] at hs
  simp only [good, Bool.and_eq_true] at hg
  have z20 := h20 _ _ rfl
  -- all names
  obtain ⟨u, hu, mu, n1, n2, ti⟩ := keys_ti (w := w) (σ := [some (.ref x), some (.ref p), none]) (td := tVar 1) (fun Q H' h => ⟨_, rfl, h⟩) dd
  refine ⟨p, u, hu, mu, fun od => ti od _ (dd.locked od hu n1) fun J wk Dl hD => ?_⟩
  have hk2 := UvL.lockR (o := .frz od u) hu n1 n2 kd _ hs.1.1 hk
  refine lc_itF wk (fun i => .bl (atB nameU kd i)) hD (by omega) (fun H' k => k _ _ upd_same) (fun i y H' H2 R Nx hi k yy r => ?_) (fun H' k hl2 => ?_)
  · obtain ⟨rfl, kk, vv, e1⟩ := yy
    obtain ⟨kx, f1, f2⟩ := hk2.get (i := i) (v := y) (by rw [List.getElem?_map, e1]; rfl)
    refine ⟨rfl, ?_⟩
    refine ⟨_, rfl, _, _, rfl, f2.same k, goods_mem hg.1 _ (List.mem_of_getElem? f1), fun H3 k3 => ?_⟩
    rw [atB_get f1] at r
    exact r H3 k3
  refine ⟨k _ _ upd_same, ?_⟩
  have nd : Dl ≠ p := fun z => by rw [z, upd_same] at hD; cases hD
  refine ⟨Dl, (List.range es.length).map (atB nameU kd), rfl, SqL.of (by rw [upd_ne nd, hl2, List.map_map]; rfl), ?_⟩
  have e : ((List.range es.length).map (atB nameU kd)).all id = kd.all nameU := by
    rw [lk]
    exact range_all fun i x e => atB_get e
  rw [e]
  have k1 := lock_back hu k
  clear hl2 k hk2 ti
  generalize upd H' p u = H1 at k1 ⊢
  refine ⟨_, rfl, ite_b (fun c => ?_) (fun c => ?_)⟩
  · exact ⟨_, rfl, fun dd hd => q0 (by simpa [namesU] using c) dd _ (k1.trans (Same.new hd)) (Same.none k1 hd) upd_same⟩
  have nm : kd.all nameU = true := by simpa using c
  obtain ⟨a, ks, l, ev, hks, el, el2, ek, hvl, ndl, okl⟩ := strs_dict hd0 fun k hk => nameU_str (List.all_eq_true.mp nm k hk)
  cases ev
  subst el el2
  have llen : ks.length = l.length := by
    have := congrArg List.length ek
    simpa using this
  rw [List.length_map] at z20
  have nmS : ∀ q ∈ l, isNameS q.1 = true := fun q hq => List.all_eq_true.mp nm _ (List.mem_map.mpr ⟨q, hq, rfl⟩)
  have nml : Names (.dic (l.map fun p => .str p.1) (l.map (·.2))) l := ⟨rfl, ndl, okl⟩
  -- for name in sorted(acts)
  have ek2 : ks.map (·.1) = (l.map (·.1)).map Sum.inr := by rw [ek, List.map_map]; rfl
  refine ⟨_, rfl, p, ks, l.map (·.1), rfl, .of (k1 _ _ hks), ek2, (by rw [List.length_map]; omega), fun ys pl perm srt hpl => ?_⟩
  obtain ⟨qb, qn⟩ := q1 l ys nml nm perm srt
  have k2 : Same H1 (upd H1 pl (.lst (ys.map V.str))) := Same.new hpl
  refine ⟨pl, rfl, ⟨_, SqL.of upd_same⟩, ?_⟩
  refine for_list (xs := ys.map V.str) (fun i σ H' => ∃ o2, σ = [some (.ref x), some (.ref p), o2] ∧ Same (upd H1 pl (.lst (ys.map V.str))) H' ∧ ∀ j m, j < i → ys[j]? = some m → badIn l m = false) ⟨none, rfl, Same.refl _, fun j m h => absurd h (Nat.not_lt_zero _)⟩ (fun i σ H' _ h => by obtain ⟨_, _, k, _⟩ := h; exact SqL.of (k _ _ upd_same)) ?_ ?_
  · rintro i y σ H3 hy ⟨o2, rfl, k3, pre⟩
    rw [List.getElem?_map] at hy
    obtain ⟨n, hn, rfl⟩ := Option.map_eq_some_iff.mp hy
    obtain ⟨⟨n', b⟩, hb, en⟩ := List.mem_map.mp (perm.mem_iff.mp (List.mem_of_getElem? hn))
    have en' : n' = n := en
    subst en'
    have hl := mem_lookup ndl hb
    obtain ⟨v', hv1, hv2⟩ := dict_look ek hvl hl
    have k03 := (k1.trans k2).trans k3
    have gb : good b = true := goods_mem hg.2 _ (List.mem_map.mpr ⟨_, hb, rfl⟩)
    have sb : shpA b = true := List.all_eq_true.mp hs.1.2 _ (List.mem_map.mpr ⟨_, hb, rfl⟩)
    have eb : badIn l n' = !actU b := by unfold badIn; rw [hl]
    refine ⟨_, rfl, _, rfl, p, v', rfl, (by rw [← hv1]; exact DGet.k (k := .inr n') (k03 _ _ hks)), _, b, rfl, hv2.same k03, gb, sb, fun H4 k4 => ⟨_, rfl, ite_b (fun c => ?_) (fun c => ?_)⟩⟩
    · have bad : badIn l n' = true := by rw [eb]; exact c
      have k04 := k03.trans k4
      exact ⟨_, rfl, _, rfl, fun dd hd => qb n' (find_at hn bad pre) dd _ (k04.trans (Same.new hd)) (Same.none k04 hd) upd_same⟩
    · refine ⟨_, rfl, k3.trans k4, fun j m hj e => ?_⟩
      rcases Nat.lt_or_ge j i with h | h
      · exact pre j m h e
      · obtain rfl : j = i := by omega
        rw [hn] at e
        cases e
        rw [eb]
        simpa using c
  · rintro σ H3 ⟨o2, rfl, k3, pre⟩
    have fnd : ys.find? (badIn l) = none := List.find?_eq_none.mpr fun m hm => by
      obtain ⟨j, hj⟩ := List.mem_iff_getElem?.mp hm
      rw [pre j m (by rw [List.length_map]; exact (List.getElem?_eq_some_iff.mp hj).1) hj]
      exact Bool.false_ne_true
    have al := find_none perm ndl fnd
    have ok := acts_ok ek hvl al nmS okl ndl z20
    have hL := acts_at ek hvl al
    have q := qn fnd ok
    generalize toActs l = l at ok hL q ⊢
    have llen := hL.len
    have k03 := (k1.trans k2).trans k3
    have hks3 := k03 _ _ hks
    have hL3 := hL.same k03
    -- self._arguments
    refine ⟨p, _, hks3, trivial, fun od2 => .inl ⟨_, rfl, p, od2, rfl, .inl ⟨_, upd_same, fun D1 hD1 => ?_⟩⟩⟩
    have nd1 : D1 ≠ p := fun z => by rw [z, upd_same] at hD1; cases hD1
    refine dc_it walk_keys (fun i H' => Same (upd H3 p (.frz od2 (.dK ks))) H' ∧ H' D1 = some (.dK ((kA l).take i))) ⟨Same.new hD1, upd_same⟩ (fun i H' _ h => h.1 _ _ upd_same) ?_ (fun H4 h => ?_)
    · rintro i y H4 H4' hi ⟨k4, hD4⟩ ⟨rfl, kk, vv, e1, rfl⟩
      obtain ⟨n, a, e2, rfl, act⟩ := hL3.get e1
      obtain ⟨v', a', hv, ha', ⟨t, d, rfl, ht, _⟩⟩ : ∃ v' a', valV ks (.inr n) = some v' ∧ l.lookup n = some a' ∧ ActAt H3 v' a' := by
        rcases hL3.look n with ⟨_, z⟩ | ⟨v', a', h1, h2, h3⟩
        · rw [look_get ok.nd e2] at z; cases z
        · exact ⟨v', a', h1, h2, h3⟩
      obtain rfl : a' = a := Option.some.inj (ha'.symm.trans (look_get ok.nd e2))
      have ntp : t ≠ p := fun z => by rw [z, hks3] at ht; cases ht
      have ht4 := k4 _ _ ((upd_ne ntp).trans ht)
      refine ⟨rfl, _, rfl, _, rfl, _, rfl, p, _, rfl, .inl ⟨ks, .inr n, .inr ⟨od2, k4 _ _ upd_same⟩, rfl, hv.symm⟩, t, _, 0, _, rfl, rfl, SqT.of ht4, atI_nat (j := 0) rfl, (kA l).take i, .inr n, rfl, hD4, ?_, Same.upd k4 hD1, ?_⟩
      · rw [List.length_take]
        exact szl (by omega)
      · rw [← kA_step ok.nd e2]
        exact upd_same
    · obtain ⟨k4, hD4⟩ := h
      refine ⟨k4 _ _ upd_same, ?_⟩
      have k34 := lock_back hks3 k4
      have k04 := k03.trans k34
      have hD5 : (upd H4 p (.dK ks)) D1 = some (.dK (kA l)) := by
        rw [upd_ne nd1, hD4, List.take_of_length_le (by unfold kA; rw [List.length_map]; omega)]
      generalize upd H4 p (.dK ks) = H5 at k34 k04 hD5 ⊢
      have hx5 := k04 _ _ hx
      refine ⟨_, rfl, x, _, dx, [], rfl, hx5, T.cl_World, T.na_World__arguments, (by show 0 < 1000; decide), ?_⟩
      have npx : p ≠ x := fun z => by rw [z] at hks; rw [hx] at hks; cases hks
      -- self._brings
      have hks5 := k04 _ _ hks
      have hL5 := hL.same k04
      obtain ⟨H6, hH6⟩ : ∃ H6, H6 = upd H5 x (.ins T.C_World dx (putF "_arguments" (.ref D1) [])) := ⟨_, rfl⟩
      have hx6 : H6 x = some (.ins T.C_World dx (putF "_arguments" (.ref D1) [])) := by rw [hH6]; exact upd_same
      have k56 : ∀ c o, H5 c = some o → c ≠ x → H6 c = some o := fun c o e n => by rw [hH6, upd_ne n]; exact e
      have hks6 := k56 _ _ hks5 npx
      rw [← hH6]
      refine ⟨p, _, hks6, trivial, fun od3 => .inl ⟨_, rfl, p, od3, rfl, .inl ⟨_, upd_same, fun D2 hD2 => ?_⟩⟩⟩
      have nd2 : D2 ≠ p := fun z => by rw [z, upd_same] at hD2; cases hD2
      have ndx : D2 ≠ x := fun z => by
        rw [z, upd_ne npx.symm, hx6] at hD2
        cases hD2
      refine dc_it walk_keys (fun i H' => Same (upd H6 p (.frz od3 (.dK ks))) H' ∧ ∃ ks2, H' D2 = some (.dK ks2) ∧ BringsL (mask D2 (newof H H')) ks2 (l.take i)) ⟨Same.new hD2, [], upd_same, .nil⟩ (fun i H' _ h => h.1 _ _ upd_same) ?_ (fun H8 h => ?_)
      · rintro i y H7 H7' hi ⟨k7, ks2, hD7, br⟩ ⟨rfl, kk, vv, e1, rfl⟩
        obtain ⟨n, a, e2, rfl, act⟩ := hL5.get e1
        obtain ⟨v', a', hv, ha', ⟨t, d, rfl, ht, ho⟩⟩ : ∃ v' a', valV ks (.inr n) = some v' ∧ l.lookup n = some a' ∧ ActAt H5 v' a' := by
          rcases hL5.look n with ⟨_, z⟩ | ⟨v', a', h1, h2, h3⟩
          · rw [look_get ok.nd e2] at z; cases z
          · exact ⟨v', a', h1, h2, h3⟩
        obtain rfl : a' = a := Option.some.inj (ha'.symm.trans (look_get ok.nd e2))
        have ho' : H5 d = some (.dK (kO a'.2)) := ho
        have ntp : t ≠ p := fun z => by rw [z, hks5] at ht; cases ht
        have ntx : t ≠ x := fun z => by rw [z, hx5] at ht; cases ht
        have ndx' : d ≠ x := fun z => by rw [z, hx5] at ho'; cases ho'
        have ndp : d ≠ p := fun z => by
          rw [z, hks5] at ho'
          obtain ⟨_, _, vr, _, _⟩ := act
          have ek : ks = kO a'.2 := by injection ho' with q; injection q
          rw [ek, vr] at e1
          unfold kO at e1
          rw [List.getElem?_map] at e1
          cases z2 : a'.2[i]? with
          | none => rw [z2] at e1; cases e1
          | some q => rw [z2] at e1; cases e1
        have ht7 := k7 _ _ ((upd_ne ntp).trans (k56 _ _ ht ntx))
        have hd7 := k7 _ _ ((upd_ne ndp).trans (k56 _ _ ho' ndx'))
        refine ⟨rfl, _, rfl, _, rfl, _, rfl, p, _, rfl, .inl ⟨ks, .inr n, .inr ⟨od3, k7 _ _ upd_same⟩, rfl, hv.symm⟩, t, _, 1, _, rfl, rfl, SqT.of ht7, atI_nat (j := 1) rfl, d, kO a'.2, rfl, .of hd7, fun nw hnw => ?_⟩
        have nne : D2 ≠ nw := ne_of_none hD7 hnw
        have kn := Same.new (o := .dK (kO a'.2)) hnw
        have dom : ∀ c, H7' c = none → H c = none := fun c e => by
          cases z : H c with
          | none => rfl
          | some o =>
            exfalso
            by_cases cp : c = p
            · rw [cp, k7 _ _ upd_same] at e; cases e
            by_cases cx : c = x
            · rw [cx, k7 _ _ ((upd_ne npx.symm).trans hx6)] at e; cases e
            · rw [k7 _ _ ((upd_ne cp).trans (k56 _ _ (k04 _ _ z) cx))] at e; cases e
        have zD2 : H D2 = none := by
          cases z : H D2 with
          | none => rfl
          | some o =>
            have := k56 _ _ (k04 _ _ z) ndx
            rw [upd_ne nd2, this] at hD2
            cases hD2
        refine ⟨ks2, .inr n, rfl, kn _ _ hD7, ?_, Same.upd (k7.trans kn) hD2, _, upd_same, ?_⟩
        · have := br.len
          rw [List.length_take] at this
          exact szl (by omega)
        · rw [newof_updn zD2, mask_updb]
          refine BringsL.step ok.nd (br.same (mask_same (newof_same kn))) e2 ?_
          show mask D2 _ nw = _
          rw [mask_ne nne.symm]
          exact newof_of (dom nw hnw) upd_same
      · obtain ⟨k8, ks2, hD8, br⟩ := h
        refine ⟨k8 _ _ upd_same, ?_⟩
        have k69 := lock_back hks6 k8
        have hx9 := k69 _ _ hx6
        refine ⟨_, rfl, x, _, dx, _, rfl, hx9, T.cl_World, T.na_World__brings, (by show 1 < 1000; decide), ?_⟩
        have n1x : D1 ≠ x := fun z => by rw [z, hx5] at hD5; cases hD5
        have zD1 : H D1 = none := by
          rw [upd_ne nd1] at hD1
          exact Same.none k03 hD1
        have zD2 : H D2 = none := by
          cases z : H D2 with
          | none => rfl
          | some o =>
            have := k56 _ _ (k04 _ _ z) ndx
            rw [upd_ne nd2, this] at hD2
            cases hD2
        refine q _ (fun c o e n => ?_) ⟨dx, D1, D2, ks2, (if_pos rfl).trans upd_same, newx_of n1x zD1 ?_, newx_of ndx zD2 ?_, ?_⟩
        · rw [upd_ne n]
          exact k69 _ _ (k56 _ _ (k04 _ _ e) n)
        · rw [upd_ne n1x]
          exact k69 _ _ (k56 _ _ hD5 n1x)
        · rw [upd_ne ndx, upd_ne nd2]
          exact hD8
        · rw [List.take_of_length_le (by omega)] at br
          refine br.mono fun d o h => ?_
          have h' : mask D2 (newof H H8) d = some (.dK (kO o)) := h
          obtain ⟨z8, h8⟩ := newof_is (unmask _ _ h')
          have e1 : d ≠ p := fun z => by
            rw [z, k8 _ _ upd_same] at h8
            cases h8
          have e2 : d ≠ x := fun z => by
            have w1 := hx9
            rw [upd_ne npx.symm] at w1
            rw [z, w1] at h8
            cases h8
          refine newx_of e2 z8 ?_
          rw [upd_ne e2, upd_ne e1]
          exact h8
end
end K21
set_option maxRecDepth 100000
set_option maxHeartbeats 2000000
namespace K21
open PySem L2 Fm NkD
section
variable {P : Program} {w : World} {K : PySem.W.Frag} {mg : Str → Option Value} {base : Heap} (T : Txt K mg)
theorem fld_a {d1 d2 : V} : (putF "_brings" d2 (putF "_arguments" d1 [])).lookup ("_arguments" : Str) = some d1 := by
  rw [lookup_putF, if_neg (by decide +kernel), lookup_putF, if_pos rfl]
theorem fld_b {d1 d2 : V} : (putF "_brings" d2 (putF "_arguments" d1 [])).lookup ("_brings" : Str) = some d2 := by
  rw [lookup_putF, if_pos rfl]
theorem kA_look {l : Acts} {n : Str} {a : Int × Outs} (h : l.lookup n = some a) : valV (kA l) (.inr n) = some (.int a.1) := by
  induction l with
  | nil => cases h
  | cons p l ih =>
    obtain ⟨m, b⟩ := p
    rw [List.lookup_cons] at h
    by_cases c : n = m
    · subst c
      simp only [beq_self_eq_true] at h
      cases h
      exact valV_pos rfl
    · have : (n == m) = false := by simpa using c
      rw [this] at h
      show valV ((.inr m, V.int b.1) :: kA l) (.inr n) = _
      rw [valV_neg (fun e => c (Sum.inr.inj e).symm)]
      exact ih h
theorem BringsL.look {H : Hp} {ks : List (Key × V)} {l : Acts} (h : BringsL H ks l) {n : Str} {a : Int × Outs} (e : l.lookup n = some a) : ∃ d, valV ks (.inr n) = some (.ref d) ∧ OutsAt H d a.2 := by
  induction h with
  | nil => cases e
  | @cons m d b ks l ho _ ih =>
    rw [List.lookup_cons] at e
    by_cases c : n = m
    · subst c
      simp only [beq_self_eq_true] at e
      cases e
      exact ⟨d, valV_pos rfl, ho⟩
    · have : (n == m) = false := by simpa using c
      rw [this] at e
      obtain ⟨d', h1, h2⟩ := ih e
      exact ⟨d', by rw [valV_neg (fun e => c (Sum.inr.inj e).symm)]; exact h1, h2⟩
theorem kO_look {l : Outs} {n : Str} {a : Int} (h : l.lookup n = some a) : valV (kO l) (.inr n) = some (.int a) := by
  induction l with
  | nil => cases h
  | cons p l ih =>
    obtain ⟨m, b⟩ := p
    rw [List.lookup_cons] at h
    by_cases c : n = m
    · subst c
      simp only [beq_self_eq_true] at h
      cases h
      exact valV_pos rfl
    · have : (n == m) = false := by simpa using c
      rw [this] at h
      show valV ((.inr m, V.int b) :: kO l) (.inr n) = _
      rw [valV_neg (fun e => c (Sum.inr.inj e).symm)]
      exact ih h
/-- what isinstance asks of the class -/
structure WKit : Prop where
  ha : PySem.W.findIn K (.ref T.C_World) "__class__" = some (some (.builtin "object.__class__"))
  hn : PySem.W.specialIn K (.builtin "object.__class__") "__get__" = some (some (.builtin "getset_descriptor.__get__"))
  ht : PySem.W.takesIn K (.builtin "object.__class__") = some true
  hm : PySem.W.mroIn K T.C_World (.type "object") = some true
  hne : PySem.W.findIn K (.ref T.C_World) "__ne__" = some (some (.builtin "object.__ne__"))
  hk : ((PySem.W.clsIn K T.C_World).isSome && PySem.W.typeIn K (.ref T.C_World) == some (.type "type")) = true
/-- two dicts of outcomes, == -/
def eqO (o1 o2 : Outs) : Bool := o1.length == o2.length && o1.all fun p => o2.lookup p.1 == some p.2
def eqArgs (l1 l2 : Acts) : Bool := l1.length == l2.length && l1.all fun p => match l2.lookup p.1 with | some a => p.2.1 == a.1 | none => false
def eqBr (l1 l2 : Acts) : Bool := l1.length == l2.length && l1.all fun p => match l2.lookup p.1 with | some a => eqO p.2.2 a.2 | none => false
def eqW (l1 l2 : Acts) : Bool := eqArgs l1 l2 && eqBr l1 l2
theorem kO_none {l : Outs} {n : Str} (h : l.lookup n = none) : valV (kO l) (.inr n) = none := by
  refine valV_no fun p hp e => ?_
  unfold kO at hp
  obtain ⟨q, hq, rfl⟩ := List.mem_map.mp hp
  have e' : q.1 = n := Sum.inr.inj e
  rw [List.lookup_eq_none_iff] at h
  have := h q hq
  rw [e'] at this
  simp at this
theorem kA_none {l : Acts} {n : Str} (h : l.lookup n = none) : valV (kA l) (.inr n) = none := by
  refine valV_no fun p hp e => ?_
  unfold kA at hp
  obtain ⟨q, hq, rfl⟩ := List.mem_map.mp hp
  have e' : q.1 = n := Sum.inr.inj e
  rw [List.lookup_eq_none_iff] at h
  have := h q hq
  rw [e'] at this
  simp at this
theorem BringsL.none {H : Hp} {ks : List (Key × V)} {l : Acts} (h : BringsL H ks l) {n : Str} (e : l.lookup n = none) : valV ks (.inr n) = none := by
  refine valV_no fun p hp e2 => ?_
  have m : p.1 ∈ ks.map (·.1) := List.mem_map.mpr ⟨p, hp, rfl⟩
  rw [h.keys] at m
  obtain ⟨x, hx, hx2⟩ := List.mem_map.mp m
  obtain ⟨q, hq, rfl⟩ := List.mem_map.mp hx
  rw [← hx2] at e2
  have e' : q.1 = n := Sum.inr.inj e2
  rw [List.lookup_eq_none_iff] at e
  have := e q hq
  rw [e'] at this
  simp at this
theorem flat_int {H : Hp} {n : Nat} (i j : Int) : EqVB K H (n + 1) (.int i) (.int j) (i == j) := .inl ⟨rfl, rfl, rfl⟩
theorem hits_o {H : Hp} {n : Nat} (o2 : Outs) : ∀ o1 : Outs, HitsB (EqVB K H (n + 1)) (kO o2) (kO o1) (o1.all fun p => o2.lookup p.1 == some p.2)
  | [] => .nil
  | p :: o1 => by
    show HitsB _ (kO o2) ((.inr p.1, V.int p.2) :: kO o1) _
    rw [List.all_cons]
    cases e : o2.lookup p.1 with
    | none => exact .miss (kO_none e)
    | some j =>
      have e2 : ((some j == some p.2) : Bool) = (p.2 == j) := by
        rw [Bool.eq_iff_iff, beq_iff_eq, beq_iff_eq]
        exact ⟨fun h => (Option.some.inj h).symm, fun h => congrArg some h.symm⟩
      rw [e2]
      exact .hit (kO_look e) (flat_int p.2 j) (hits_o o2 o1)
theorem hits_a {H : Hp} {n : Nat} (l2 : Acts) : ∀ l1 : Acts, HitsB (EqVB K H (n + 1)) (kA l2) (kA l1) (l1.all fun p => match l2.lookup p.1 with | some a => p.2.1 == a.1 | none => false)
  | [] => .nil
  | p :: l1 => by
    show HitsB _ (kA l2) ((.inr p.1, V.int p.2.1) :: kA l1) _
    rw [List.all_cons]
    cases e : l2.lookup p.1 with
    | none => exact .miss (kA_none e)
    | some a => exact .hit (kA_look e) (flat_int p.2.1 a.1) (hits_a l2 l1)
theorem look_mem {α : Type} {l : List (Str × α)} (nd : Nds l) {p : Str × α} (h : p ∈ l) : l.lookup p.1 = some p.2 := by
  induction l with
  | nil => cases h
  | cons q l ih =>
    obtain ⟨m, b⟩ := q
    obtain ⟨n1, n2⟩ := List.nodup_cons.mp nd
    rw [List.lookup_cons]
    rcases List.mem_cons.mp h with e | e
    · rw [e]
      simp
    · have mem : p.1 ∈ l.map (·.1) := List.mem_map.mpr ⟨_, e, rfl⟩
      have ne : (p.1 == m) = false := by
        rw [beq_eq_false_iff_ne]
        intro z
        rw [z] at mem
        exact n1 mem
      rw [ne]
      exact ih n2 e
theorem kO_inj : ∀ {a b : Outs}, kO a = kO b → a = b
  | [], [], _ => rfl
  | [], _ :: _, h => by cases h
  | _ :: _, [], h => by cases h
  | (n, i) :: a, (m, j) :: b, h => by
    have h' : ((Sum.inr n : Key), V.int i) :: kO a = (Sum.inr m, V.int j) :: kO b := h
    obtain ⟨h1, h2⟩ := List.cons.inj h'
    cases h1
    rw [kO_inj h2]
theorem eqO_self {o : Outs} (nd : Nds o) : eqO o o = true := by
  unfold eqO
  rw [beq_self_eq_true, Bool.true_and, List.all_eq_true]
  intro p hp
  rw [look_mem nd hp]
  exact beq_self_eq_true _
theorem hits_b {H : Hp} {n : Nat} {ks2 : List (Key × V)} {l2 : Acts} (h2 : BringsL H ks2 l2) {ks1 : List (Key × V)} {l1 : Acts} (h1 : BringsL H ks1 l1) (nd : ∀ p ∈ l1, Nds p.2.2) : HitsB (EqVB K H (n + 2)) ks2 ks1 (l1.all fun p => match l2.lookup p.1 with | some a => eqO p.2.2 a.2 | none => false) := by
  induction h1 with
  | nil => exact .nil
  | @cons m d a ks l ho _ ih =>
    rw [List.all_cons]
    cases e : l2.lookup m with
    | none => exact .miss (BringsL.none h2 e)
    | some b =>
      obtain ⟨d2, hv, ho2⟩ := BringsL.look h2 e
      refine .hit hv (.inr (.inr ⟨fun c y1 y2 => ?_, .inr ⟨d, d2, kO a.2, kO b.2, _, rfl, rfl, ho, ho2, fun _ => hits_o b.2 a.2, ?_⟩⟩)) (ih fun p hp => nd p (List.mem_cons_of_mem _ hp))
      · cases y1
        cases y2
        have q1 : H d = some (.dK (kO a.2)) := ho
        have q2 : H d = some (.dK (kO b.2)) := ho2
        rw [q1] at q2
        have q3 : kO a.2 = kO b.2 := by injection q2 with z; injection z
        show eqO a.2 b.2 = true
        rw [← kO_inj q3]
        exact eqO_self (nd _ List.mem_cons_self)
      · unfold eqO kO
        simp only [List.length_map]
def spEqW : Sp := fun vs H Q _ => ∃ (x : Addr) (y : V) (l : Acts), vs = [.ref x, y] ∧ WorldAt T.C_World H x l ∧ (∀ p ∈ l, Nds p.2.2) ∧ ((∃ x2 l2, y = .ref x2 ∧ WorldAt T.C_World H x2 l2 ∧ Q (.bl (eqW l l2)) H) ∨ ∃ t, TyE K H y t ∧ PySem.W.kitOne K t (.ref T.C_World) = some false ∧ Q (.bl false) H)
theorem ok_World_eq (Kw : WKit T) : FnOk P w K mg base CX0 1 T.a_World_eq T.d_World_eq ["self", "other"] (spEqW T) := by
  refine T.F_World_eq.ok sc_World_eq ?_ (fun cdv A outer s H vs Q E hr h => ?_)
  · rintro vs H Q E ⟨x, y, l, rfl, _⟩
    rfl
  obtain ⟨x, y, l, rfl, ⟨dx, d1, d2, ks, hx, h1, h2, br⟩, nd, h⟩ := h
  refine ⟨_, 
    (pss_one (ps_ret (pe_and (pe_callB call_isiE (by rfl) T.m_isinstance (by decide +kernel) (pa_cons (pv 1) (pa_cons (pe_glob (v := .ref T.C_World) (u := .ref T.C_World) (by rfl) T.g_World rfl) pa_nil))) (pe_and (pe_cmpR (op_eqVB hr.units) (pe_fld (pv 0) rfl) (pe_fld (pv 1) rfl) (nomark _)) (pe_one (pe_cmpR (op_eqVB hr.units) (pe_fld (pv 0) rfl) (pe_fld (pv 1) rfl) (nomark _))))))), ?_⟩
  rcases h with ⟨x2, l2, rfl, ⟨dy, e1, e2, ks2, hy, g1, g2, br2⟩, q⟩ | ⟨t, ty, kt, q⟩
  · refine ⟨_, rfl, _, _, _, _, true, rfl, .own _, .base (.base (.ins hy T.cl_World Kw.ha Kw.hn Kw.ht Kw.hm)), (by unfold PySem.W.kitOne; rw [if_pos (beq_self_eq_true _)]), true, rfl, ite_b (fun _ => ?_) (fun c => nomatch c)⟩
    refine ⟨_, rfl, x, T.C_World, dx, _, _, rfl, hx, T.cl_World, T.na_World__arguments, fld_a, _, rfl, x2, T.C_World, dy, _, _, rfl, hy, T.cl_World, T.na_World__arguments, fld_a, 1, eqArgs l l2, by decide, .inr ⟨d1, e1, kA l, kA l2, _, rfl, rfl, h1, g1, fun _ => hits_a l2 l, (by unfold eqArgs kA; simp only [List.length_map])⟩, eqArgs l l2, rfl, ite_b (fun c => ?_) (fun c => ?_)⟩
    · refine ⟨_, rfl, x, T.C_World, dx, _, _, rfl, hx, T.cl_World, T.na_World__brings, fld_b, _, rfl, x2, T.C_World, dy, _, _, rfl, hy, T.cl_World, T.na_World__brings, fld_b, 2, eqBr l l2, by decide, .inr ⟨d2, e2, ks, ks2, _, rfl, rfl, h2, g2, fun _ => hits_b br2 br nd, (by unfold eqBr; rw [br.len, br2.len])⟩, ?_⟩
      unfold eqW at q
      rw [c, Bool.true_and] at q
      exact q
    · unfold eqW at q
      rw [c, Bool.false_and] at q
      exact q
  · exact ⟨_, rfl, _, _, _, _, false, rfl, .own _, ty, kt, false, rfl, ite_b (fun c => nomatch c) (fun _ => q)⟩
end
end K21
set_option maxRecDepth 100000
set_option maxHeartbeats 4000000
namespace K21
open PySem L2 Fm NkD
section
variable {P : Program} {w : World} {K : PySem.W.Frag} {mg : Str → Option Value} {base : Heap} (T : Txt K mg)
theorem ok_law_take : FnOk P w K mg base CX0 1 T.a__law_take T.d__law_take ["_law_bag_here", "_law_many"] spTake := by
  refine T.F__law_take.ok sc__law_take ?_ (fun cdv A outer s H vs Q E hr h => ?_)
  · rintro vs H Q E ⟨b, p, n, rfl, _⟩
    rfl
  obtain ⟨b, p, n, rfl, B0, n0, n1, q⟩ := h
  refine ⟨_, 
    (Evl.pss_cut (ps_if (pt_cmpR op_eq (pe_ix ix_list (pv 0) pe_int (fun _ _ => rfl)) pe_int (nomark _)) (pss_cons (ps_set (i := 2) sc__law_take.nd rfl (Or.inl rfl) pe_int) (Evl.pss_cut (ps_if (pt_cmpR op_lt (pe_ix ix_list (pv 0) pe_int (fun _ _ => rfl)) (pe_callB call_len_seq (by rfl) T.m_len (by decide +kernel) (pa_cons (pe_ix ix_list (pv 0) pe_int (fun _ _ => rfl)) pa_nil)) (nomark _)) (pss_one (ps_set (i := 2) sc__law_take.nd rfl (Or.inl rfl) (pe_ix ix_list (pe_ix ix_list (pv 0) pe_int (fun _ _ => rfl)) (pe_ix ix_list (pv 0) pe_int (fun _ _ => rfl)) (fun _ _ => rfl)))) pss_nil) (pss_cons (ps_augS (pv 0) pe_int pg_list pe_int ip_add set_list) (Evl.pss_cut (ps_if (pt_cmpR op_ge (pv 2) pe_int (nomark _)) (pss_one (ps_asg (pv 2) (pg_sub (pv 0) pe_int set_list))) pss_nil) (pss_cons (ps_set (i := 3) sc__law_take.nd rfl (Or.inl rfl) (pe_op op_add (pe_op op_add (pe_op op_mul (pe_ix ix_list (pv 0) pe_int (fun _ _ => rfl)) pe_int) (pe_op op_mod (pe_callTy call_int1 (by rfl) T.m_int (by decide +kernel) (pa_cons (pv 2) pa_nil)) pe_int)) (pe_op op_mul pe_int (pe_ix ix_list (pv 0) pe_int (fun _ _ => rfl))))) (pss_one (ps_asg (pe_op op_mod (pe_callTy call_int1 (by rfl) T.m_int (by decide +kernel) (pa_cons (pv 3) pa_nil)) pe_int) (pg_sub (pv 0) pe_int set_list)))))))) pss_nil)
    (pss_cons (ps_if (pt_cmpR op_gt (pe_ix ix_list (pv 0) pe_int (fun _ _ => rfl)) pe_int (nomark _)) (pss_cons (ps_set (i := 4) sc__law_take.nd rfl (Or.inl rfl) (pe_op op_mod (pe_callTy call_int1 (by rfl) T.m_int (by decide +kernel) (pa_cons (pe_ix ix_list (pv 0) pe_int (fun _ _ => rfl)) pa_nil)) (pv 1))) (pss_cons (ps_asg (pe_op op_fdiv (pe_ix ix_list (pv 0) pe_int (fun _ _ => rfl)) (pv 1)) (pg_sub (pv 0) pe_int set_list)) (pss_one (ps_ret (pv 4))))) pss_nil)
    (pss_cons (ps_set (i := 5) sc__law_take.nd rfl (Or.inl rfl) (pe_op op_mod (pe_callTy call_int1 (by rfl) T.m_int (by decide +kernel) (pa_cons (pe_op op_mul (pe_op op_add (pe_ix ix_list (pv 0) pe_int (fun _ _ => rfl)) pe_int) pe_int) pa_nil)) pe_int))
    (pss_cons (ps_set (i := 6) sc__law_take.nd rfl (Or.inl rfl) (pe_op op_mod (pe_callTy call_int1 (by rfl) T.m_int (by decide +kernel) (pa_cons (pe_op op_mul (pe_op op_mod (pe_callTy call_int1 (by rfl) T.m_int (by decide +kernel) (pa_cons (pe_op op_mul (pv 5) (pv 5)) pa_nil)) pe_int) pe_int) pa_nil)) pe_int))
    (pss_cons (ps_if (pt_cmpR op_gt (pv 1) pe_int (nomark _)) (pss_one (ps_ret (pe_op op_mod (pe_callTy call_int1 (by rfl) T.m_int (by decide +kernel) (pa_cons (pe_op op_add (pe_op op_mul (pv 6) pe_int) (pv 5)) pa_nil)) (pv 1)))) pss_nil)
    (pss_one (ps_ret (pe_op op_mod (pe_callTy call_int1 (by rfl) T.m_int (by decide +kernel) (pa_cons (pe_op op_fdiv (pv 6) pe_int) pa_nil)) (pv 1))))))))), ?_⟩
  -- the first if: the state behind it
  refine ⟨fun σ H' => ∃ c mx, σ = [some (.ref b), some (.int n), c, mx, none, none, none] ∧ Go b p H H', ?_, ?_⟩
  · obtain ⟨st, m, k, cells, hb, hp, ne, s0, m0, m1, k0, c0⟩ := id B0
    obtain ⟨kn, rfl⟩ := Int.eq_ofNat_of_zero_le k0
    refine ⟨_, rfl, b, _, 0, _, rfl, rfl, SqL.of hb, atI_nat (j := 0) rfl, rfl, _, rfl, ite_b (fun h1 => ?_) (fun h1 => ?_)⟩
    · refine ⟨fun σ H' => ∃ c, σ = [some (.ref b), some (.int n), some (.int c), none, none, none, none] ∧ H' = H ∧ 0 ≤ c, ?_, ?_⟩
      · refine ⟨_, rfl, b, _, 2, _, rfl, rfl, SqL.of hb, atI_nat (j := 2) rfl, _, rfl, b, _, 3, _, rfl, rfl, SqL.of hb, atI_nat (j := 3) rfl, p, cells.map V.int, rfl, .inl (SqL.of hp), _, _, rfl, rfl, _, rfl, ite_b (fun h2 => ?_) (fun h2 => ?_)⟩
        · have lt : kn < cells.length := by
            have := of_decide_eq_true h2
            rw [List.length_map] at this
            omega
          have ga : (cells.map V.int)[kn]? = some (.int cells[kn]) := by
            rw [List.getElem?_map]
            simp [lt]
          refine ⟨_, rfl, b, _, 3, _, rfl, rfl, SqL.of hb, atI_nat (j := 3) rfl, _, rfl, b, _, 2, _, rfl, rfl, SqL.of hb, atI_nat (j := 2) rfl, p, cells.map V.int, kn, _, rfl, rfl, SqL.of hp, atI_nat ga, ?_⟩
          exact ⟨_, rfl, rfl, c0 _ (List.getElem_mem lt)⟩
        · exact ⟨0, rfl, rfl, Int.le_refl _⟩
      · rintro σ H' ⟨c, rfl, rfl, c1⟩
        refine ⟨_, rfl, b, _, 2, _, rfl, rfl, hb, by decide, rfl, _, _, rfl, rfl, b, _, 2, 2, rfl, rfl, hb, rfl, ?_⟩
        refine ⟨fun σ H2 => σ = [some (.ref b), some (.int n), some (.int c), none, none, none, none] ∧ ∃ s1, H2 = upd H' b (.lst [.int s1, .int m, .int ((kn : Int) + 1), .ref p]) ∧ 0 ≤ s1, ?_, ?_⟩
        · refine ⟨_, rfl, _, _, rfl, rfl, _, rfl, ite_b (fun h2 => ?_) (fun h2 => ?_)⟩
          · refine ⟨_, rfl, _, rfl, b, _, 0, 0, rfl, rfl, upd_same, rfl, ?_⟩
            exact ⟨rfl, c, upd_upd, c1⟩
          · exact ⟨rfl, st, rfl, s0⟩
        · rintro σ H2 ⟨rfl, s1, rfl, s2⟩
          have e1 : (upd H' b (.lst [.int s1, .int m, .int ((kn : Int) + 1), .ref p])) b = some (.lst [.int s1, .int m, .int ((kn : Int) + 1), .ref p]) := upd_same
          refine ⟨_, rfl, b, _, 1, _, rfl, rfl, SqL.of e1, atI_nat (j := 1) rfl, _, _, rfl, rfl, .inl ⟨by omega, by omega⟩, _, rfl, .inl ⟨_, rfl, _, _, rfl, rfl, (by show (0 : Int) < _; decide), _, _, rfl, rfl, _, rfl, b, _, 2, _, rfl, rfl, SqL.of e1, atI_nat (j := 2) rfl, _, _, rfl, rfl, .inl ⟨by decide, by decide⟩, _, _, rfl, rfl, ?_⟩⟩
          refine ⟨_, rfl, .inl ⟨_, rfl, _, _, rfl, rfl, (by show (0 : Int) < _; decide), _, rfl, b, _, 1, 1, rfl, rfl, e1, rfl, ?_⟩⟩
          refine ⟨_, _, rfl, ?_, s1, _, (kn : Int) + 1, cells, upd_same, ?_, ne, s2, Int.emod_nonneg _ (by decide), Int.emod_lt_of_pos _ (by decide), by omega, c0⟩
          · rw [upd_upd, mask_updb]
            exact Same.refl _
          · rw [upd_ne ne, upd_ne ne]
            exact hp
    · exact ⟨none, none, rfl, .refl B0⟩
  · rintro σ H' ⟨c, mx, rfl, g⟩
    obtain ⟨st, m, k, cells, hb, hp, ne, s0, m0, m1, k0, c0⟩ := g.B
    refine ⟨_, rfl, b, _, 0, _, rfl, rfl, SqL.of hb, atI_nat (j := 0) rfl, _, _, rfl, rfl, _, rfl, ite_b (fun h1 => ?_) (fun h1 => ?_)⟩
    · refine ⟨_, rfl, b, _, 0, _, rfl, rfl, SqL.of hb, atI_nat (j := 0) rfl, .inl ⟨_, rfl, _, rfl, _, _, rfl, rfl, n0, ?_⟩⟩
      refine ⟨_, rfl, b, _, 0, _, rfl, rfl, SqL.of hb, atI_nat (j := 0) rfl, _, rfl, _, _, rfl, rfl, ⟨n0, by omega⟩, _, rfl, b, _, 0, 0, rfl, rfl, hb, rfl, ?_⟩
      refine ⟨_, rfl, q _ _ (Int.emod_nonneg _ (by omega)) (Int.emod_lt_of_pos _ n0) ⟨?_, st / n, m, k, cells, upd_same, ?_, ne, Int.ediv_nonneg s0 (by omega), m0, m1, k0, c0⟩⟩
      · rw [mask_updb]
        exact g.k
      · rw [upd_ne ne]
        exact hp
    · refine ⟨_, rfl, b, _, 1, _, rfl, rfl, SqL.of hb, atI_nat (j := 1) rfl, _, _, rfl, rfl, _, _, rfl, rfl, .inl ⟨by omega, by omega⟩, .inl ⟨_, rfl, _, _, rfl, rfl, (by show (0 : Int) < _; decide), ?_⟩⟩
      refine ⟨_, rfl, _, rfl, _, _, rfl, rfl, .inl ⟨?_, ?_⟩, .inl ⟨_, rfl, _, _, rfl, rfl, (by show (0 : Int) < _; decide), _, _, rfl, rfl, .inl ⟨?_, ?_⟩, .inl ⟨_, rfl, _, _, rfl, rfl, (by show (0 : Int) < _; decide), ?_⟩⟩⟩
      · have := Int.emod_nonneg ((m + 1) * 39373) (show (1000000007 : Int) ≠ 0 by decide)
        omega
      · have := Int.emod_lt_of_pos ((m + 1) * 39373) (show (0 : Int) < 1000000007 by decide)
        omega
      · have := Int.emod_nonneg ((m + 1) * 39373 % 1000000007 * ((m + 1) * 39373 % 1000000007)) (show (998244353 : Int) ≠ 0 by decide)
        omega
      · have := Int.emod_lt_of_pos ((m + 1) * 39373 % 1000000007 * ((m + 1) * 39373 % 1000000007)) (show (0 : Int) < 998244353 by decide)
        omega
      · refine ⟨_, rfl, _, _, rfl, rfl, _, rfl, ite_b (fun h2 => ?_) (fun h2 => ?_)⟩
        · have := of_decide_eq_true h2
          omega
        · refine ⟨_, rfl, _, _, rfl, rfl, ⟨by decide, by decide⟩, .inl ⟨_, rfl, _, rfl, _, _, rfl, rfl, n0, ?_⟩⟩
          exact q _ _ (Int.emod_nonneg _ (by omega)) (Int.emod_lt_of_pos _ n0) g
end
end K21
namespace K21
open PySem L2 Fm NkD
section
variable {P : Program} {w : World} {K : PySem.W.Frag} {mg : Str → Option Value} {base : Heap} (T : Txt K mg)
theorem ok_law_bag : FnOk P w K mg base CX0 1 T.a__law_bag T.d__law_bag ["_law_script"] (spBag K) := by
  refine T.F__law_bag.ok sc__law_bag ?_ (fun cdv A outer s H vs Q E hr h => ?_)
  · rintro vs H Q E ⟨a, ns, rfl, _⟩
    rfl
  obtain ⟨a, ns, rfl, hs, hl, q⟩ := h
  refine ⟨_, 
    (pss_one (ps_ret (pe_lst (pa_cons pe_int (pa_cons pe_int (pa_cons pe_int (pa_cons (pe_lc (own := [("_law_cell", 1)]) (g := gName 1) (tt := tYes) rfl sc__law_bag.nd (pi_list (pe_slice sl_list (pv 0) po_none (po_some pe_int))) (blkOk_by (N := N__law_bag) (sc := defScope s__law_bag) (by decide +kernel)) (fun _ _ _ _ _ => pg_name (i := 1) sc__law_bag.nd rfl (Or.inl rfl)) (fun _ _ _ _ _ => pts_nil) (fun _ _ _ _ _ => pe_callB call_abs (by rfl) T.m_abs (by decide +kernel) (pa_cons (pv 1) pa_nil))) pa_nil))))))), ?_⟩
  refine ⟨_, rfl, _, rfl, a, _, rfl, hs, fun c hc => ⟨c, rfl, ⟨_, SqL.of upd_same⟩, fun Dl hD => ?_⟩⟩
  obtain ⟨ms, em, lm⟩ : ∃ ms : List Int, cutV (ns.map V.int) none (some 63) = ms.map V.int ∧ ms.length ≤ 63 := by
    unfold cutV
    rw [← List.map_drop, ← List.map_take]
    refine ⟨_, rfl, ?_⟩
    rw [List.length_take, List.length_drop]
    omega
  have k1 : Same H (upd H c (.lst (cutV (ns.map V.int) none (some 63)))) := Same.new hc
  rw [em] at hD k1 ⊢
  refine lc_listF (K := K) (fun v => match v with | .int i => .int (if i < 0 then -i else i) | v => v) (SqL.of upd_same) hD (by rw [List.length_map]; omega) (fun _ => rfl) (fun _ _ _ r => r) ?_ ?_
  · intro x H' R k hx r
    obtain ⟨i, _, rfl⟩ := List.mem_map.mp hx
    exact ⟨_, rfl, i, rfl, r _ (Same.refl _)⟩
  · intro H' k hl2
    refine ⟨(by show 4 ≤ sizeLine; decide), fun b hb => ?_⟩
    have k2 := k1.trans k
    have k3 : Same H' (upd H' b (.lst [.int 0, .int 1234567891, .int 0, .ref Dl])) := Same.new hb
    refine q b Dl _ (Same.free k2 hb) (k2.trans k3) ⟨0, 1234567891, 0, ms.map fun i => if i < 0 then -i else i, upd_same, k3 _ _ ?_, ne_of_none hl2 hb, by decide, by decide, by decide, by decide, ?_⟩
    · rw [hl2]
      simp [List.map_map, Function.comp_def]
    · intro z hz
      obtain ⟨i, _, rfl⟩ := List.mem_map.mp hz
      by_cases hi : i < 0
      · rw [if_pos hi]
        omega
      · rw [if_neg hi]
        omega
end
end K21
namespace K21
open PySem L2 Fm NkD
section
variable {P : Program} {w : World} {K : PySem.W.Frag} {mg : Str → Option Value} {base : Heap} (T : Txt K mg)
def spAlike (K : PySem.W.Frag) : Sp := fun vs H Q _ => ∃ v1 v2 d, vs = [v1, v2] ∧ Dp K H v1 d ∧ Dp K H v2 d ∧ SeqAt.shaped d = true ∧ d.showable = true ∧ d.hasDict = false ∧ d.depth ≤ 60 ∧ d.shown.length ≤ sizeLine ∧ Q (.bl true) H
theorem ok_law_alike : FnG P w K mg base 1 T.a__law_alike T.d__law_alike ["_law_found", "_law_due_here"] (spAlike K) := by
  refine fnG T.F__law_alike sc__law_alike ?_ (fun cdv A outer s H vs Q gd hr h => ?_)
  · rintro vs H Q E ⟨v1, v2, d, rfl, _⟩
    rfl
  obtain ⟨v1, v2, d, rfl, h1, h2, sh, so, nd, dz, sl, q⟩ := h
  refine ⟨_, 
    (pss_one (ps_ret (pe_and (pe_cmpR (op_eqD hr.units) (pv 0) (pv 1) (nomark _)) (pe_one (pe_cmpR op_eq (pe_callB (call_repr hr gd) (by rfl) T.m_repr (by decide +kernel) (pa_cons (pv 0) pa_nil)) (pe_callB (call_repr hr gd) (by rfl) T.m_repr (by decide +kernel) (pa_cons (pv 1) pa_nil)) (nomark _)))))), ?_⟩
  refine ⟨_, rfl, _, rfl, d, d, h1, h2, sh, sh, _, rfl, ite_b (fun c => ?_) (fun c => ?_)⟩
  · refine ⟨_, rfl, v1, d, rfl, h1, so, nd, dz, sl, _, rfl, v2, d, rfl, h2, so, nd, dz, sl, rfl, ?_⟩
    rw [decide_eq_true rfl]
    exact q
  · rw [SeqAt.eqv_refl d (SeqAt.canLay_of_shaped sh)] at c
    cases c
def ws : List Str := Txt.split (("set ask end nil may must go begin move drop version back call silent same" : Str) ++ (" a b ab ba z" : Str)) " "
theorem ws_len : ws.length = 20 := by decide +kernel
theorem ws_ok : ∀ x ∈ ws, okL x = true ∧ 1 ≤ x.length ∧ x.length ≤ 8 := by decide +kernel
theorem lt_len : letters.length = 26 := by decide +kernel
theorem lt_ok : okL letters = true := by decide +kernel
theorem ok_law_names : FnOk P w K mg base CX0 2 T.a__law_names T.d__law_names ["_law_bag_here", "_law_many"] spNamesK := by
  have G__law_take := ok_law_take (P := P) (w := w) (base := base) T
  refine T.F__law_names.ok sc__law_names ?_ (fun cdv A outer s H vs Q E hr h => ?_)
  · rintro vs H Q E ⟨b, p, n, rfl, _⟩
    rfl
  obtain ⟨b, p, n, rfl, B, n0, n1, q⟩ := h
  refine ⟨_, 
    (pss_cons (ps_set (i := 2) sc__law_names.nd rfl (Or.inr rfl) pe_str)
    (pss_cons (ps_set (i := 3) sc__law_names.nd rfl (Or.inl rfl) pe_str)
    (pss_cons (ps_set (i := 3) sc__law_names.nd rfl (Or.inl rfl) (pe_bm PySem.F.plainAttrs_str PySem.F.slot_str_split PySem.F.type_str_split mt_split (pe_op op_add_str (pv 3) pe_str) (pa_cons pe_str pa_nil)))
    (pss_cons (ps_asg (pe_tup (pa_cons (pe_call G__law_take (hr.mono (by omega)) (by rfl) T.f__law_take T.F__law_take.kp T.b__law_take .nil pass0 (pa_cons (pv 0) (pa_cons pe_int pa_nil))) (pa_cons (pe_call G__law_take (hr.mono (by omega)) (by rfl) T.f__law_take T.F__law_take.kp T.b__law_take .nil pass0 (pa_cons (pv 0) (pa_cons pe_int pa_nil))) pa_nil))) (pg_tup rfl (pgs_cons (pg_name (i := 4) sc__law_names.nd rfl (Or.inl rfl)) (pgs_cons (pg_name (i := 5) sc__law_names.nd rfl (Or.inr rfl)) pgs_nil))))
    (pss_cons (ps_set (i := 6) sc__law_names.nd rfl (Or.inr rfl) (pe_bm PySem.F.plainAttrs_str PySem.F.slot_str_join PySem.F.type_str_join mt_join pe_str (pa_cons (pe_lc (own := [("_law_k", 8)]) (g := gName 8) (tt := tYes) rfl sc__law_names.nd (pi_range1 (by rfl) T.m_range (pa_cons (pe_op op_add pe_int (pe_call G__law_take (hr.mono (by omega)) (by rfl) T.f__law_take T.F__law_take.kp T.b__law_take .nil pass0 (pa_cons (pv 0) (pa_cons pe_int pa_nil)))) pa_nil)) (blkOk_by (N := N__law_names) (sc := defScope s__law_names) (by decide +kernel)) (fun _ _ _ _ _ => pg_name (i := 8) sc__law_names.nd rfl (Or.inl rfl)) (fun _ _ _ _ _ => pts_nil) (fun _ _ _ _ _ => pe_ix ix_str (pv 2) (pe_call G__law_take (hr.mono (by omega)) (by rfl) T.f__law_take T.F__law_take.kp T.b__law_take .nil pass0 (pa_cons (pv 0) (pa_cons pe_int pa_nil))) (fun _ _ => rfl))) pa_nil)))
    (pss_cons (ps_set (i := 7) sc__law_names.nd rfl (Or.inr rfl) (pe_call G__law_take (hr.mono (by omega)) (by rfl) T.f__law_take T.F__law_take.kp T.b__law_take .nil pass0 (pa_cons (pv 0) (pa_cons (pe_op op_add (pe_callB call_len_str (by rfl) T.m_len (by decide +kernel) (pa_cons (pv 6) pa_nil)) pe_int) pa_nil))))
    (pss_cons (ps_if (pt_cmpR op_eq (pv 4) pe_int (nomark _)) (pss_one (ps_ret (pe_slice sl_list (pe_op op_cat (pe_slice sl_list (pv 3) (po_some (pv 5)) po_none) (pe_slice sl_list (pv 3) po_none (po_some (pv 5)))) po_none (po_some (pv 1))))) pss_nil)
    (pss_cons (ps_if (pt_cmpR op_eq (pv 4) pe_int (nomark _)) (pss_one (ps_ret (pe_lc (own := [("_law_k", 8)]) (g := gName 8) (tt := tYes) rfl sc__law_names.nd (pi_range1 (by rfl) T.m_range (pa_cons (pv 1) pa_nil)) (blkOk_by (N := N__law_names) (sc := defScope s__law_names) (by decide +kernel)) (fun _ _ _ _ _ => pg_name (i := 8) sc__law_names.nd rfl (Or.inl rfl)) (fun _ _ _ _ _ => pts_nil) (fun _ _ _ _ _ => pe_ix ix_str (pv 2) (pe_op op_mod (pe_callTy call_int1 (by rfl) T.m_int (by decide +kernel) (pa_cons (pe_op op_add (pv 5) (pe_op op_mul pe_int (pv 8))) pa_nil)) pe_int) (fun _ _ => rfl))))) pss_nil)
    (pss_one (ps_ret (pe_lc (own := [("_law_k", 8)]) (g := gName 8) (tt := tYes) rfl sc__law_names.nd (pi_range1 (by rfl) T.m_range (pa_cons (pv 1) pa_nil)) (blkOk_by (N := N__law_names) (sc := defScope s__law_names) (by decide +kernel)) (fun _ _ _ _ _ => pg_name (i := 8) sc__law_names.nd rfl (Or.inl rfl)) (fun _ _ _ _ _ => pts_nil) (fun _ _ _ _ _ => pe_op op_add_str (pe_op op_add_str (pe_slice sl_str (pv 6) po_none (po_some (pv 7))) (pe_ix ix_str (pv 2) (pe_op op_mod (pe_callTy call_int1 (by rfl) T.m_int (by decide +kernel) (pa_cons (pe_op op_add (pv 5) (pe_op op_mul pe_int (pv 8))) pa_nil)) pe_int) (fun _ _ => rfl))) (pe_slice sl_str (pv 6) (po_some (pv 7)) po_none))))))))))))), ?_⟩
  refine ⟨_, rfl, _, _, rfl, rfl, (by decide +kernel), rfl, _, _, rfl, rfl, (by decide +kernel), (by decide +kernel), fun p1 hp1 => ?_⟩
  have g1 : Go b p H (upd H p1 (.lst (ws.map V.str))) := (Go.refl B).new hp1
  have w1 : newof H (upd H p1 (.lst (ws.map V.str))) p1 = some (.lst (ws.map V.str)) := newof_of hp1 upd_same
  refine ⟨_, rfl, b, p, 4, rfl, g1.B, by decide, by decide, fun way H2 a0 a1 g2 => ?_⟩
  refine ⟨_, rfl, b, p, 20, rfl, g2.B, by decide, by decide, fun turn H3 b0 b1 g3 => ⟨(by show 2 ≤ sizeLine; decide), fun tp htp => ?_⟩⟩
  have g4 : Go b p (upd H p1 (.lst (ws.map V.str))) (upd H3 tp (.tup [.int way, .int turn])) := (g2.trans g3).new htp
  have w4 := newof_go B g4 _ _ w1
  refine ⟨tp, _, rfl, SqT.of upd_same, rfl, _, _, rfl, _, _, rfl, rfl, ?_⟩
  have g5 := g1.trans g4
  clear g4 g3 g2 w1 htp
  generalize upd H3 tp (.tup [.int way, .int turn]) = H4 at g5 w4
  -- the base
  refine ⟨rfl, _, rfl, b, p, 7, rfl, g5.B, by decide, by decide, fun i7 H5 c0 c1 g6 => ⟨_, _, rfl, rfl, _, rfl, by omega, by omega, fun Dl hD => ?_⟩⟩
  refine lc_bag (fun d => ∃ x, d = .str x ∧ okL x = true ∧ x.length ≤ 1) g6.B hD (by omega) (fun _ => rfl) (fun _ _ _ r => r) ?_ ?_
  · intro i H' R hi g r
    refine ⟨_, rfl, _, rfl, b, p, 26, rfl, g.B, by decide, by decide, fun j H2 d0 d1 g7 => ?_⟩
    obtain ⟨c, e1, e2⟩ := sign_atL (x := letters) d0 (by rw [lt_len]; exact d1)
    have e3 := e2 lt_ok
    exact ⟨_, _, c, rfl, rfl, (by decide +kernel), e1, r _ (.str ⟨#[c]⟩) H2 g7 (.str _ (okL_ok e3)) ⟨_, rfl, e3, Nat.le_refl _⟩⟩
  intro H6 acc ds g7 hl hds hg hn
  obtain ⟨ys, rfl, ok, ln⟩ := dvl_strsL hds hg
  have l8 : ys.length ≤ 7 := by omega
  have sl := sum_len fun y hy => (ok y hy).2
  refine ⟨_, Dl, ys, rfl, rfl, .inl (SqL.of hl), ?_, ?_⟩
  · have z : (("" : String) : Str).length = 0 := rfl
    rw [z]
    omega
  have g8 := g5.trans (g6.trans g7)
  have w8 := newof_go B (g6.trans g7) _ _ w4
  obtain ⟨base, hb1, hb2, hb3⟩ : ∃ base, Txt.join "" ys = base ∧ okL base = true ∧ base.length ≤ 7 :=
    ⟨_, rfl, okL_join fun y hy => (ok y hy).1, Nat.le_trans (len_join fun y hy => (ok y hy).2) l8⟩
  rw [hb1]
  refine ⟨_, rfl, _, rfl, base, rfl, sz (by omega), _, _, rfl, rfl, b, p, _, rfl, g8.B, by omega, by omega, fun at_ H7 f0 f1 g9 => ?_⟩
  have gA := g8.trans g9
  have wA := newof_go B g9 _ _ w8
  obtain ⟨np1, wB⟩ := newof_is wA
  refine ⟨_, rfl, rfl, _, rfl, ite_b (fun h1 => ?_) (fun h1 => ?_)⟩
  · obtain ⟨z1, e1, m1, l1⟩ := cut_strs ws (some turn) none
    obtain ⟨z2, e2, m2, l2⟩ := cut_strs ws none (some turn)
    rw [ws_len, sIx_none, sIx_at b0] at l1 l2
    refine ⟨_, rfl, _, rfl, _, rfl, p1, _, rfl, SqL.of wB, fun q1 hq1 => ?_⟩
    have s1 : Same H7 (upd H7 q1 (.lst (cutV (ws.map V.str) (some turn) none))) := Same.new hq1
    refine ⟨_, rfl, _, rfl, _, rfl, p1, _, rfl, SqL.of (s1 _ _ wB), fun q2 hq2 => ?_⟩
    refine ⟨q1, q2, _, _, rfl, rfl, Same.new hq2 _ _ upd_same, upd_same, ?_, fun q3 hq3 => ?_⟩
    · rw [e1, e2, List.length_map, List.length_map]
      exact sz (by omega)
    rw [e1, e2] at *
    have s2 := s1.trans ((Same.new (o := .lst (z2.map V.str)) hq2).trans (Same.new (o := .lst (z1.map V.str ++ z2.map V.str)) hq3))
    rw [← List.map_append] at *
    obtain ⟨z3, e3, m3, l3⟩ := cut_strs (z1 ++ z2) none (some n)
    rw [List.length_append, sIx_none, sIx_at n0] at l3
    refine ⟨_, rfl, _, rfl, q3, _, rfl, SqL.of upd_same, fun q4 hq4 => ?_⟩
    rw [e3]
    refine q q4 _ z3 ((gA.same s2).new hq4) (newof_of ((gA.same s2).free hq4) upd_same) (by omega) fun x hx => ?_
    rcases List.mem_append.mp (m3 x hx) with h | h
    · exact ws_ok x (m1 x h)
    · exact ws_ok x (m2 x h)
  · refine ⟨_, rfl, rfl, _, rfl, ite_b (fun h2 => ?_) (fun h2 => ?_)⟩
    · refine ⟨_, rfl, n, rfl, by omega, by omega, fun Dl hD => ?_⟩
      refine lc_bag (fun d => ∃ x, d = .str x ∧ okL x = true ∧ 1 ≤ x.length ∧ x.length ≤ 8) gA.B hD (by omega) (fun _ => rfl) (fun _ _ _ r => r) ?_ ?_
      · intro i H' R hi g r
        obtain ⟨c, e1, e2⟩ := sign_atL (x := letters) (i := (turn + 3 * (i : Int)) % 26) (Int.emod_nonneg _ (by decide)) (by rw [lt_len]; exact Int.emod_lt_of_pos _ (by decide))
        have e3 := e2 lt_ok
        refine ⟨_, rfl, _, rfl, _, rfl, _, _, rfl, rfl, .inl ⟨by decide, by decide⟩, _, _, rfl, rfl, .inl ⟨_, rfl, _, _, rfl, rfl, (by show (0 : Int) < _; decide), _, _, c, rfl, rfl, (by decide +kernel), e1, ?_⟩⟩
        exact r _ (.str ⟨#[c]⟩) H' (.refl g.B) (.str _ (okL_ok e3)) ⟨_, rfl, e3, by show 1 ≤ 1; decide, by show 1 ≤ 8; decide⟩
      · intro H' acc ds g hl hds hg hn
        obtain ⟨ys, rfl, ok, ln⟩ := dvl_strsK hds hg
        exact q Dl H' ys (gA.trans g) (newof_of (gA.free hD) hl) (by omega) ok
    · refine ⟨_, rfl, n, rfl, by omega, by omega, fun Dl hD => ?_⟩
      refine lc_bag (fun d => ∃ x, d = .str x ∧ okL x = true ∧ 1 ≤ x.length ∧ x.length ≤ 8) gA.B hD (by omega) (fun _ => rfl) (fun _ _ _ r => r) ?_ ?_
      · intro i H' R hi g r
        obtain ⟨c, e1, e2⟩ := sign_atL (x := letters) (i := (turn + 3 * (i : Int)) % 26) (Int.emod_nonneg _ (by decide)) (by rw [lt_len]; exact Int.emod_lt_of_pos _ (by decide))
        have e3 := e2 lt_ok
        have c1 := cut_len_le (x := base) (lo := none) (hi := some at_)
        have c2 := cut_len_le (x := base) (lo := some at_) (hi := none)
        have c4 := cut_two (x := base) f0
        have c3 : (⟨#[c]⟩ : Str).length = 1 := rfl
        have l4 := len_app (cutS base none (some at_)) ⟨#[c]⟩
        have l5 := len_app (cutS base none (some at_) ++ ⟨#[c]⟩) (cutS base (some at_) none)
        refine ⟨_, rfl, _, rfl, _, rfl, base, rfl, sz (by omega), _, rfl, _, rfl, _, rfl, _, _, rfl, rfl, .inl ⟨by decide, by decide⟩, _, _, rfl, rfl, .inl ⟨_, rfl, _, _, rfl, rfl, (by show (0 : Int) < _; decide), _, _, c, rfl, rfl, (by decide +kernel), e1, _, _, rfl, rfl, sz (by omega), ?_⟩⟩
        refine ⟨_, rfl, _, rfl, _, rfl, base, rfl, sz (by omega), _, _, rfl, rfl, sz (by omega), ?_⟩
        have ok := okL_app (okL_app (okL_cut (lo := none) (hi := some at_) hb2) e3) (okL_cut (lo := some at_) (hi := none) hb2)
        exact r _ _ H' (.refl g.B) (.str _ (okL_ok ok)) ⟨_, rfl, ok, by omega, by omega⟩
      · intro H' acc ds g hl hds hg hn
        obtain ⟨ys, rfl, ok, ln⟩ := dvl_strsK hds hg
        exact q Dl H' ys (gA.trans g) (newof_of (gA.free hD) hl) (by omega) ok
end
end K21
set_option maxRecDepth 100000
set_option maxHeartbeats 2000000
namespace K21
open PySem L2 Fm NkD
section
variable {P : Program} {w : World} {K : PySem.W.Frag} {mg : Str → Option Value} {base : Heap} (T : Txt K mg)
/-- a list's items in a drawn order, in a new list -/
def spMixV (K : PySem.W.Frag) : Sp := fun vs H Q _ => ∃ (b p la : Addr) (xs : List V), vs = [.ref b, .ref la] ∧ Bag b p H ∧ la ≠ b ∧ H la = some (.lst xs) ∧ xs.length ≤ 100 ∧
  ∀ (l : Addr) (H' : Hp) (zs : List V), Go b p H H' → newof H H' l = some (.lst zs) → zs.Perm xs → Q (.ref l) H'
theorem ok_law_mixed : FnOk P w K mg base CX0 2 T.a__law_mixed T.d__law_mixed ["_law_bag_here", "_law_things"] (spMixV K) := by
  have G__law_take := ok_law_take (P := P) (w := w) (base := base) T
  refine T.F__law_mixed.ok sc__law_mixed ?_ (fun cdv A outer s H vs Q E hr h => ?_)
  · rintro vs H Q E ⟨b, p, la, xs, rfl, _⟩
    rfl
  obtain ⟨b, p, la, xs, rfl, B, na, hla, hj, q⟩ := h
  refine ⟨_, 
    (pss_cons (ps_set (i := 2) sc__law_mixed.nd rfl (Or.inl rfl) (pe_lst pa_nil))
    (pss_cons (ps_for PassesOwn.never rfl (pi_list (pv 1)) (pg_name (i := 3) sc__law_mixed.nd rfl (Or.inl rfl)) (pss_one (ps_expr (pe_bm PySem.F.plainAttrs_list PySem.F.slot_list_insert PySem.F.type_list_insert mt_insert (pv 2) (pa_cons (pe_call G__law_take (hr.mono (by omega)) (by rfl) T.f__law_take T.F__law_take.kp T.b__law_take .nil pass0 (pa_cons (pv 0) (pa_cons (pe_op op_add (pe_callB call_len_seq (by rfl) T.m_len (by decide +kernel) (pa_cons (pv 2) pa_nil)) pe_int) pa_nil))) (pa_cons (pv 3) pa_nil))))))
    (pss_one (ps_ret (pv 2))))), ?_⟩
  refine ⟨by decide, fun l hl => ?_⟩
  have g0 : Go b p H (upd H l (.lst [])) := (Go.refl B).new hl
  have nl : l ≠ b := B.b_ne hl
  refine ⟨_, rfl, la, rfl, ⟨_, SqL.of (g0.at na hla)⟩, ?_⟩
  refine for_list (xs := xs) (fun i σ H' => ∃ o3 zs, σ = [some (.ref b), some (.ref la), some (.ref l), o3] ∧ Go b p H H' ∧ H' l = some (.lst zs) ∧ zs.Perm (xs.take i))
    ⟨none, [], rfl, g0, upd_same, .nil⟩ (fun i σ H' _ ⟨_, _, _, g, _⟩ => SqL.of (g.at na hla)) ?_ ?_
  · rintro i x σ H1 hx ⟨o3, zs, rfl, g, hl1, hp⟩
    have li : i < xs.length := (List.getElem?_eq_some_iff.mp hx).1
    have hn : zs.length = i := by
      rw [hp.length_eq, List.length_take]
      omega
    refine ⟨_, rfl, .inl ⟨rfl, _, SqL.of hl1⟩, _, rfl, _, rfl, l, _, rfl, .inl (SqL.of hl1), _, _, rfl, rfl, b, p, _, rfl, g.B, by omega, by omega, fun at_ H2 a0 a1 g2 => ?_⟩
    have hl2 := g2.at nl hl1
    refine ⟨_, rfl, l, zs, at_, x, rfl, rfl, hl2, szl (by omega), a0, by omega, ?_⟩
    refine ⟨_, _, rfl, (g.trans g2).mut B hl, upd_same, ?_⟩
    have e : xs.take (i + 1) = xs.take i ++ [x] := by
      rw [List.take_add_one, hx]
      rfl
    rw [e]
    have p1 : (zs.take at_.toNat ++ [x] ++ zs.drop at_.toNat).Perm (zs ++ [x]) := by
      rw [List.append_assoc]
      refine (List.perm_middle).trans ?_
      show (x :: (zs.take at_.toNat ++ zs.drop at_.toNat)).Perm (zs ++ [x])
      rw [List.take_append_drop]
      exact (List.perm_append_singleton x zs).symm
    refine List.Perm.trans ?_ (List.Perm.append_right _ hp)
    first | exact p1 | (rw [← List.append_assoc] at *; exact p1) | trace_state
  · rintro σ H1 ⟨o3, zs, rfl, g, hl1, hp⟩
    rw [List.take_length] at hp
    exact ⟨_, rfl, q l H1 zs g (newof_of hl hl1) hp⟩
end
end K21
set_option maxRecDepth 100000
set_option maxHeartbeats 2000000
namespace K21
open PySem L2 Fm NkD
section
variable {P : Program} {w : World} {K : PySem.W.Frag} {mg : Str → Option Value} {base : Heap} (T : Txt K mg)
/-- drawn acts -/
def spLActs : Sp := fun vs H Q _ => ∃ (b p : Addr) (m : Int), vs = [.ref b, .int m] ∧ Bag b p H ∧ 0 ≤ m ∧ m < 3 ∧
  ∀ (d : Addr) (H' : Hp) (l : Acts), Go b p H H' → ActsAt (newof H H') d l → ActsSm 3 l → 1 ≤ l.length → Q (.ref d) H'
theorem five {i : Int} (h0 : 0 ≤ i) (h1 : i < 5) : ∃ j : Int, atI ([.int 0, .int 1, .int 0, .int 1, .int 2] : List V) i = some (.int j) ∧ 0 ≤ j ∧ j < 3 := by
  obtain ⟨k, rfl⟩ := Int.eq_ofNat_of_zero_le h0
  rcases (by omega : k = 0 ∨ k = 1 ∨ k = 2 ∨ k = 3 ∨ k = 4) with rfl | rfl | rfl | rfl | rfl
  · exact ⟨0, atI_nat (j := 0) rfl, by decide, by decide⟩
  · exact ⟨1, atI_nat (j := 1) rfl, by decide, by decide⟩
  · exact ⟨0, atI_nat (j := 2) rfl, by decide, by decide⟩
  · exact ⟨1, atI_nat (j := 3) rfl, by decide, by decide⟩
  · exact ⟨2, atI_nat (j := 4) rfl, by decide, by decide⟩
theorem cutV_first {xs : List V} {k : Int} (h : 0 ≤ k) : cutV xs none (some (1 + k)) = xs.take (1 + k).toNat := by
  unfold cutV
  rw [sIx_none, sIx_at (by omega), List.drop_zero, Nat.sub_zero]
  rw [List.take_eq_take_iff]
  omega
theorem ok_law_acts : FnOk P w K mg base CX0 3 T.a__law_acts T.d__law_acts ["_law_bag_here", "_law_many"] spLActs := by
  have G__law_take := ok_law_take (P := P) (w := w) (base := base) T
  have G__law_names := ok_law_names (P := P) (w := w) (base := base) T
  have G__law_mixed := ok_law_mixed (P := P) (w := w) (base := base) T
  refine T.F__law_acts.ok sc__law_acts ?_ (fun cdv A outer s H vs Q E hr h => ?_)
  · rintro vs H Q E ⟨b, p, m, rfl, _⟩
    rfl
  obtain ⟨b, p, m, rfl, B, m0, m3, q⟩ := h
  refine ⟨_, 
    (pss_cons (ps_par3 (i := 2) (j := 3) (l := 4) (by rfl) sc__law_acts.nd rfl rfl rfl (by decide) (by decide) (by decide) rfl rfl rfl (pa_cons (pe_call G__law_names (hr.mono (by omega)) (by rfl) T.f__law_names T.F__law_names.kp T.b__law_names .nil pass0 (pa_cons (pv 0) (pa_cons pe_int pa_nil))) (pa_cons (pe_call G__law_names (hr.mono (by omega)) (by rfl) T.f__law_names T.F__law_names.kp T.b__law_names .nil pass0 (pa_cons (pv 0) (pa_cons pe_int pa_nil))) (pa_cons pe_dnewK pa_nil))) (by rfl))
    (pss_cons (ps_for PassesOwn.never rfl (pi_list (pe_slice sl_list (pv 2) po_none (po_some (pe_op op_add pe_int (pe_call G__law_take (hr.mono (by omega)) (by rfl) T.f__law_take T.F__law_take.kp T.b__law_take .nil pass0 (pa_cons (pv 0) (pa_cons pe_int pa_nil))))))) (pg_name (i := 5) sc__law_acts.nd rfl (Or.inl rfl)) (pss_cons (ps_set (i := 6) sc__law_acts.nd rfl (Or.inl rfl) pe_dnewK) (pss_cons (ps_for PassesOwn.never rfl (pi_list (pe_slice sl_list (pe_call G__law_mixed (hr.mono (by omega)) (by rfl) T.f__law_mixed T.F__law_mixed.kp T.b__law_mixed .nil pass0 (pa_cons (pv 0) (pa_cons (pv 3) pa_nil))) po_none (po_some (pe_op op_add pe_int (pe_call G__law_take (hr.mono (by omega)) (by rfl) T.f__law_take T.F__law_take.kp T.b__law_take .nil pass0 (pa_cons (pv 0) (pa_cons pe_int pa_nil))))))) (pg_name (i := 7) sc__law_acts.nd rfl (Or.inl rfl)) (pss_one (ps_dput (hu1 hr) (pv 6) (pv 7) (pe_callB (call_min2 rfl) (by rfl) T.m_min (by decide +kernel) (pa_cons (pv 1) (pa_cons (pe_ix ix_list (pe_lst (pa_cons pe_int (pa_cons pe_int (pa_cons pe_int (pa_cons pe_int (pa_cons pe_int pa_nil)))))) (pe_call G__law_take (hr.mono (by omega)) (by rfl) T.f__law_take T.F__law_take.kp T.b__law_take .nil pass0 (pa_cons (pv 0) (pa_cons pe_int pa_nil))) (fun _ _ => rfl)) pa_nil))) rfl))) (pss_one (ps_dput (hu1 hr) (pv 4) (pv 5) (pe_tup (pa_cons (pe_call G__law_take (hr.mono (by omega)) (by rfl) T.f__law_take T.F__law_take.kp T.b__law_take .nil pass0 (pa_cons (pv 0) (pa_cons pe_int pa_nil))) (pa_cons (pv 6) pa_nil))) rfl)))))
    (pss_one (ps_ret (pv 4))))), ?_⟩
  refine ⟨_, rfl, b, p, 3, rfl, B, by decide, by decide, fun nm H1 xs g1 hnm lx ox => ?_⟩
  refine ⟨_, rfl, b, p, 6, rfl, g1.B, by decide, by decide, fun wd H2 ys g2 hwd ly oy => ?_⟩
  have gA := g1.trans g2
  have nm2 := newof_go B g2 _ _ hnm
  have wd2 : newof H H2 wd = some (.lst (ys.map V.str)) := newof_lift (fun a h => g1.free h) _ _ hwd
  refine fun d4 hd4 => ⟨_, _, _, rfl, ?_⟩
  have z4 := gA.free hd4
  have gB := gA.new (o := .dK []) hd4
  have nB : newof H (upd H2 d4 (.dK [])) = upd (newof H H2) d4 (.dK []) := newof_updn z4
  have hn4 : newof H H2 d4 = none := by unfold newof; rw [z4]; exact hd4
  have kB : Same (newof H H2) (newof H (upd H2 d4 (.dK []))) := by rw [nB]; exact Same.new hn4
  have fd0 : newof H (upd H2 d4 (.dK [])) d4 = some (.dK []) := newof_of z4 upd_same
  have nm3 := kB _ _ nm2
  have wd3 := kB _ _ wd2
  generalize upd H2 d4 (.dK []) = H3 at gB fd0 nm3 wd3 ⊢
  have n_b4 : d4 ≠ b := B.b_ne z4
  have n_wd4 : wd ≠ d4 := fun z => by rw [z, fd0] at wd3; cases wd3
  refine ⟨_, rfl, _, rfl, b, p, 3, rfl, gB.B, by decide, by decide, fun k H4 k0 k1 g4 => ⟨_, _, rfl, rfl, _, rfl, nm, _, rfl, SqL.of (newof_is (newof_go B g4 _ _ nm3)).2, fun q1 hq1 => ?_⟩⟩
  rw [cutV_first k0, ← List.map_take]
  have gC := gB.trans g4
  have z1 := gC.free hq1
  have gD := gC.new (o := .lst ((xs.take (1 + k).toNat).map V.str)) hq1
  have fq0 : newof H (upd H4 q1 (.lst ((xs.take (1 + k).toNat).map V.str))) q1 = some (.lst ((xs.take (1 + k).toNat).map V.str)) := newof_of z1 upd_same
  have kD : Same (newof H H3) (newof H (upd H4 q1 (.lst ((xs.take (1 + k).toNat).map V.str)))) := (newof_go B g4).trans (by rw [newof_updn z1]; exact Same.new (by unfold newof; rw [z1]; exact hq1))
  have wd4 := kD _ _ wd3
  have fd4 := kD _ _ fd0
  have zl : (xs.take (1 + k).toNat).length ≤ 3 ∧ 1 ≤ (xs.take (1 + k).toNat).length := by rw [List.length_take]; omega
  have zok : ∀ x ∈ xs.take (1 + k).toNat, NmOk x := fun x hx => ox x (List.mem_of_mem_take hx)
  generalize xs.take (1 + k).toNat = zs at zl zok gD fq0 kD wd4 fd4 ⊢
  generalize upd H4 q1 (.lst (zs.map V.str)) = H5 at gD fq0 wd4 fd4 ⊢
  have n_q4 : q1 ≠ d4 := fun z => by rw [z, fd4] at fq0; cases fq0
  refine ⟨q1, rfl, ⟨_, SqL.of (newof_is fq0).2⟩, ?_⟩
  refine for_list (xs := zs.map V.str) (fun i σ H' => ∃ o5 o6 o7 ks l, σ = [some (.ref b), some (.int m), some (.ref nm), some (.ref wd), some (.ref d4), o5, o6, o7] ∧ Go b p H H' ∧ newof H H' wd = some (.lst (ys.map V.str)) ∧ newof H H' q1 = some (.lst (zs.map V.str)) ∧ newof H H' d4 = some (.dK ks) ∧
      ActsL (mask d4 (newof H H')) ks l ∧ Nds l ∧ l.length ≤ i ∧ (1 ≤ i → 1 ≤ l.length) ∧ ∀ p ∈ l, NmOk p.1 ∧ 0 ≤ p.2.1 ∧ p.2.1 < 3 ∧ OutsSm p.2.2)
    ⟨none, none, none, [], [], rfl, gD, wd4, fq0, fd4, .nil, List.nodup_nil, Nat.le_refl _, fun h => absurd h (by decide), fun _ h => by cases h⟩ (fun i σ H' _ h => by obtain ⟨_, _, _, _, _, _, _, _, h, _⟩ := h; exact SqL.of (newof_is h).2) ?_ ?_
  · rintro i y σ Ho hy ⟨o5, o6, o7, ks, l, rfl, go, fwd, fq, fd, hL, nd, ln, l1, okl⟩
    obtain ⟨n, hn, rfl⟩ : ∃ n, n ∈ zs ∧ y = .str n := by
      obtain ⟨n, h1, h2⟩ := List.mem_map.mp (List.mem_of_getElem? hy)
      exact ⟨n, h1, h2.symm⟩
    have hi3 : i < 3 := by
      have := (List.getElem?_eq_some_iff.mp hy).1
      rw [List.length_map] at this
      omega
    refine fun d6 hd6 => ?_
    have z6 := go.free hd6
    have nb6 : d6 ≠ b := B.b_ne z6
    obtain ⟨zwd, awd⟩ := newof_is fwd
    obtain ⟨zd, ad⟩ := newof_is fd
    have n64 : d6 ≠ d4 := fun z => by rw [z, ad] at hd6; cases hd6
    have gi0 := (Go.refl go.B).new (o := .dK []) hd6
    have a60 : (upd Ho d6 (.dK [])) d6 = some (.dK []) := upd_same
    generalize upd Ho d6 (.dK []) = H6 at gi0 a60 ⊢
    refine ⟨_, rfl, _, rfl, b, p, wd, ys.map V.str, rfl, gi0.B, B.b_ne zwd, gi0.at (B.b_ne zwd) awd, (by rw [List.length_map]; omega), fun l2 H7 zs2 g7 hz2 pm2 => ?_⟩
    obtain ⟨zl2, al2⟩ := newof_is hz2
    have nl2 : l2 ≠ b := gi0.B.b_ne zl2
    have len2 : zs2.length = 6 := by rw [pm2.length_eq, List.length_map]; omega
    refine ⟨_, rfl, b, p, 3, rfl, g7.B, by decide, by decide, fun k2 H8 j0 j1 g8 => ⟨_, _, rfl, rfl, _, rfl, l2, _, rfl, SqL.of (g8.at nl2 al2), fun q2 hq2 => ?_⟩⟩
    rw [cutV_first j0]
    have cl : (zs2.take (1 + k2).toNat).length ≤ 3 ∧ 1 ≤ (zs2.take (1 + k2).toNat).length := by rw [List.length_take]; omega
    have cm : ∀ y ∈ zs2.take (1 + k2).toNat, ∃ x, y = .str x ∧ NmOk x := fun y hy => by
      obtain ⟨x, h1, h2⟩ := List.mem_map.mp (pm2.mem_iff.mp (List.mem_of_mem_take hy))
      exact ⟨x, h2.symm, oy x h1⟩
    generalize zs2.take (1 + k2).toNat = cz at cl cm ⊢
    have g78 := g7.trans g8
    have gi8 := gi0.trans g78
    have a68 := g78.at nb6 a60
    have nq6 : q2 ≠ d6 := fun z => by rw [z, a68] at hq2; cases hq2
    have nbq : q2 ≠ b := gi8.B.b_ne hq2
    have gi9 := gi8.new (o := .lst cz) hq2
    have a69 : (upd H8 q2 (.lst cz)) d6 = some (.dK []) := (upd_ne nq6.symm).trans a68
    have aq9 : (upd H8 q2 (.lst cz)) q2 = some (.lst cz) := upd_same
    generalize upd H8 q2 (.lst cz) = H9 at gi9 a69 aq9 ⊢
    refine ⟨q2, rfl, ⟨_, SqL.of aq9⟩, ?_⟩
    refine for_list (xs := cz) (fun j σ H' => ∃ o7 o, σ = [some (.ref b), some (.int m), some (.ref nm), some (.ref wd), some (.ref d4), some (.str n), some (.ref d6), o7] ∧ Go b p Ho H' ∧ H' q2 = some (.lst cz) ∧ H' d6 = some (.dK (kO o)) ∧
        Nds o ∧ o.length ≤ j ∧ (1 ≤ j → 1 ≤ o.length) ∧ ∀ p ∈ o, NmOk p.1 ∧ 0 ≤ p.2 ∧ p.2 < 3)
      ⟨_, [], rfl, gi9, aq9, a69, List.nodup_nil, Nat.le_refl _, fun h => absurd h (by decide), fun _ h => by cases h⟩ (fun j σ H' _ h => by obtain ⟨_, _, _, _, h, _⟩ := h; exact SqL.of h) ?_ ?_
    · rintro j y σ H10 hy ⟨o7, o, rfl, gi, aq, a6, ndo, lo, o1, oko⟩
      have hj3 : j < 3 := by
        have := (List.getElem?_eq_some_iff.mp hy).1
        omega
      obtain ⟨x, rfl, hx⟩ := cm y (List.mem_of_getElem? hy)
      refine ⟨_, rfl, (by show 5 ≤ sizeLine; decide), fun lp hlp => ⟨_, rfl, b, p, 5, rfl, (gi.new hlp).B, by decide, by decide, fun k5 H12 v0 v1 g12 => ?_⟩⟩
      have nlb : lp ≠ b := gi.B.b_ne hlp
      have n6p : d6 ≠ lp := fun z => by rw [← z, a6] at hlp; cases hlp
      have nqp : q2 ≠ lp := fun z => by rw [← z, aq] at hlp; cases hlp
      obtain ⟨jv, e5, jv0, jv3⟩ := five v0 v1
      have a62 := g12.at nb6 ((upd_ne n6p).trans a6)
      have aq2 := g12.at nbq ((upd_ne nqp).trans aq)
      have gi2 := (gi.new (o := .lst [.int 0, .int 1, .int 0, .int 1, .int 2]) hlp).trans g12
      refine ⟨lp, _, k5, .int jv, rfl, rfl, SqL.of (g12.at nlb upd_same), e5, m, jv, rfl, ?_⟩
      refine ⟨_, rfl, _, rfl, d6, _, rfl, DPut.k (k := .inr x) a62 (szl (by unfold kO; rw [List.length_map]; omega)), ?_⟩
      have lp2 := len_putS (l := o) (n := x) (a := if jv < m then jv else m)
      refine ⟨_, putS o x (if jv < m then jv else m), rfl, Go.mut go.B gi2 hd6, (upd_ne nq6).trans aq2, ?_, nds_putS ndo, by omega, fun _ => lp2.2, fun p hp => ?_⟩
      · rw [← kO_put]
        exact upd_same
      · rcases mem_putS hp with h | rfl
        · exact oko p h
        · refine ⟨hx, ?_⟩
          show 0 ≤ (if jv < m then jv else m) ∧ (if jv < m then jv else m) < 3
          split <;> omega
    · rintro σ H10 ⟨o7, o, rfl, gi, aq, a6, ndo, lo, o1, oko⟩
      have so : OutsSm o := ⟨ndo, o1 cl.2, by omega, oko⟩
      refine ⟨_, rfl, b, p, 3, rfl, gi.B, by decide, by decide, fun k9 H13 v0 v1 g13 => ⟨_, rfl, (by show 2 ≤ sizeLine; decide), fun tp htp => ?_⟩⟩
      have gi3 := gi.trans g13
      have a63 := g13.at nb6 a6
      have ad3 := gi3.at n_b4 ad
      have zt := (go.trans gi3).free htp
      have nt4 : tp ≠ d4 := fun z => by rw [z, ad3] at htp; cases htp
      have nt6 : d6 ≠ tp := fun z => by rw [← z, a63] at htp; cases htp
      have gi4 := gi3.new (o := .tup [.int k9, .ref d6]) htp
      have ad4 := (upd_ne (o := .tup [.int k9, .ref d6]) nt4.symm).trans ad3
      have a64 := (upd_ne (o := .tup [.int k9, .ref d6]) nt6).trans a63
      have at4 : (upd H13 tp (.tup [.int k9, .ref d6])) tp = some (.tup [.int k9, .ref d6]) := upd_same
      generalize upd H13 tp (.tup [.int k9, .ref d6]) = H14 at gi4 ad4 a64 at4 ⊢
      have kk := newof_go B gi4
      refine ⟨_, rfl, _, rfl, d4, _, rfl, DPut.k (k := .inr n) ad4 (szl (by rw [hL.len]; omega)), ?_⟩
      have lp2 := len_putS (l := l) (n := n) (a := (k9, o))
      refine ⟨_, _, _, putK ks (.inr n) (.ref tp), putS l n (k9, o), rfl, Go.mut B (go.trans gi4) z4, ?_, ?_, ?_, ?_, nds_putS nd, by omega, fun _ => lp2.2, fun p hp => ?_⟩
      · rw [newof_updn z4, upd_ne n_wd4]
        exact kk _ _ fwd
      · rw [newof_updn z4, upd_ne n_q4]
        exact kk _ _ fq
      · rw [newof_updn z4]
        exact upd_same
      · rw [newof_updn z4, mask_updb]
        refine (hL.same (mask_same kk)).put ⟨tp, d6, rfl, ?_, ?_⟩
        · rw [mask_ne nt4]
          exact newof_of zt at4
        · show mask d4 _ d6 = _
          rw [mask_ne n64]
          exact newof_of z6 a64
      · rcases mem_putS hp with h | rfl
        · exact okl p h
        · exact ⟨zok n hn, v0, v1, so⟩
  · rintro σ Ho ⟨o5, o6, o7, ks, l, rfl, go, fwd, fq, fd, hL, nd, ln, l1, okl⟩
    rw [List.length_map] at ln l1
    exact ⟨_, rfl, q d4 Ho l go ⟨ks, fd, hL.same unmask⟩ ⟨nd, by omega, okl⟩ (l1 (by omega))⟩
end
end K21
set_option maxRecDepth 100000
set_option maxHeartbeats 2000000
/-! comprehensions with a test over what is walked; such data compared -/
namespace NkD
open PySem PySem.Spec PyProof.Rows L2 Fm
/-- a comprehension whose turns that are kept give f 0, f 1, .. and leave what stood -/
theorem lc_itK {J : It} {n : Nat} {G : Hp → Prop} {Y : Nat → Hp → V → Hp → Prop} (w : Walk J n G Y) {g : TG} {tt : TT} {te : TE} {vs : List Nat} {σ : L2.St} {H : Hp} {Dl : Addr} {Qd : Hp → Prop} (f : Nat → V) (keep : Nat → Bool) (hD : H Dl = none) (hz : n ≤ 100000)
    (hG : ∀ H', Same H H' → G H')
    (hv : ∀ (i : Nat) (x : V) (H' H2 : Hp) (R : VK) (Nx : Hp → Prop), i < n → Same H H' → Y i H' x H2 → (keep i = true → ∀ H3, Same H' H3 → R (f i) H3) → (keep i = false → ∀ H3, Same H' H3 → Nx H3) →
      g x (wipe σ vs) H2 fun σ2 H3 => wipe σ2 vs = wipe σ vs ∧ tt σ2 H3 fun b H4 => if b = true then te σ2 H4 R else Nx H4)
    (q : ∀ H', Same H H' → H' Dl = some (.lst (((List.range n).filter keep).map f)) → Qd H') :
    ∃ W : Nat → Nat → Hp → Prop, (∃ m, W 0 m (upd H Dl (.lst []))) ∧ ∀ i m H, W i m H →
      (J.stop i H ∧ Qd H) ∨ (J.go i H ∧ ∃ Nx : Hp → Prop, (∀ H', Nx H' → ∃ m', m' < m ∧ W (i + 1) m' H') ∧ ∀ x H', J.yld i H x H' → g x (wipe σ vs) H' fun σ2 H2 => wipe σ2 vs = wipe σ vs ∧ tt σ2 H2 fun b H3 =>
        if b = true then te σ2 H3 fun y H4 => ∃ acc, H4 Dl = some (.lst acc) ∧ acc.length < sizeLine ∧ Nx (upd H4 Dl (.lst (acc ++ [y]))) else Nx H3) := by
  refine lc_it w (fun i H' => Same H H' ∧ H' Dl = some (.lst (((List.range i).filter keep).map f))) ⟨Same.new hD, upd_same⟩ (fun i H' _ h => hG H' h.1) ?_ (fun H' h => q H' h.1 h.2)
  rintro i x H1 H2 hi ⟨k, hl⟩ y
  refine hv i x H1 H2 _ _ hi k y (fun hk H3 k3 => ⟨_, k3 _ _ hl, ?_, Same.upd (k.trans k3) hD, ?_⟩) (fun hk H3 k3 => ⟨k.trans k3, ?_⟩)
  · rw [List.length_map]
    have := List.length_filter_le keep (List.range i)
    rw [List.length_range] at this
    exact szl (by omega)
  · rw [List.range_succ, List.filter_append, List.map_append]
    have e : [i].filter keep = [i] := by rw [List.filter_cons, hk]; rfl
    rw [e]
    exact upd_same
  · rw [List.range_succ, List.filter_append, List.map_append]
    have e : [i].filter keep = [] := by rw [List.filter_cons, hk]; rfl
    rw [e, List.map_nil, List.append_nil]
    exact k3 _ _ hl
theorem range_keep {α : Type} {xs : List α} {p : α → Bool} {g : Nat → Bool} (h : ∀ (i : Nat) (x : α), xs[i]? = some x → g i = p x) : ((List.range xs.length).filter g).isEmpty = xs.all fun x => !p x := by
  rw [Bool.eq_iff_iff, List.isEmpty_iff, List.filter_eq_nil_iff, List.all_eq_true]
  constructor
  · intro a x hx
    obtain ⟨i, hi⟩ := List.mem_iff_getElem?.mp hx
    have := a i (List.mem_range.mpr (List.getElem?_eq_some_iff.mp hi).1)
    rw [h i x hi] at this
    simpa using this
  · intro a i hi
    have li := List.mem_range.mp hi
    rw [h i xs[i] (List.getElem?_eq_getElem li)]
    have := a _ (List.getElem_mem li)
    simpa using this
mutual
theorem dp_u {w : World} {K : PySem.W.Frag} {H : Hp} : ∀ (d : U) (v : V), Uv w H v d → noD d = true → Dp K H v (pd d) ∧ (pd d).canLay0 = true
  | .non, _, h, _ => by cases h; exact ⟨.non, rfl⟩
  | .bl _, _, h, _ => by cases h; exact ⟨.bl _, rfl⟩
  | .int _, _, h, _ => by cases h; exact ⟨.int _, rfl⟩
  | .str _, _, h, _ => by
    cases h with
    | str _ o => exact ⟨.str _, by simpa [pd, PyData.canLay0] using o⟩
  | .tup ds, _, h, n => by
    cases h with
    | tup a b =>
      obtain ⟨h1, h2⟩ := dps_u (K := K) ds _ b n
      exact ⟨.tup (SqT.of a) h1, by simpa [pd, PyData.canLay0] using h2⟩
  | .lst ds, _, h, n => by
    cases h with
    | lst _ a b =>
      obtain ⟨h1, h2⟩ := dps_u (K := K) ds _ b n
      exact ⟨.lst (SqL.of a) h1, by simpa [pd, PyData.canLay0] using h2⟩
  | .dic _ _, _, _, n => by cases n
theorem dps_u {w : World} {K : PySem.W.Frag} {H : Hp} : ∀ (ds : List U) (vs : List V), UvL w H vs ds → noDs ds = true → DpAll K H vs (pds ds) ∧ PyData.canLayAll0 (pds ds) = true
  | [], _, h, _ => by cases h; exact ⟨.nil, by simp [pds, PyData.canLayAll0]⟩
  | d :: ds, _, h, n => by
    cases h with
    | cons a b =>
      simp only [noDs, Bool.and_eq_true] at n
      obtain ⟨h1, h2⟩ := dp_u (K := K) d _ a n.1
      obtain ⟨h3, h4⟩ := dps_u (K := K) ds _ b n.2
      exact ⟨.cons h1 h3, by simp [pds, PyData.canLayAll0, h2, h4]⟩
end
theorem shaped_u {d : U} (h : (pd d).canLay0 = true) (hd : (pd d).depth ≤ 60) : SeqAt.shaped (pd d) = true := by
  unfold SeqAt.shaped
  simp [h]
  omega
/-- the keys of a list that are kept -/
theorem dp_keep {w : World} {K : PySem.W.Frag} {H : Hp} {vs : List V} {ds : List U} (h : UvL w H vs ds) (n : noDs ds = true) (g : goods ds = true) (f : Nat → V) (hf : ∀ (i : Nat) (v : V), vs[i]? = some v → f i = v) (is_ : List Nat) (hi : ∀ i ∈ is_, i < vs.length) :
    ∃ ps : List PyData, DpAll K H (is_.map f) ps ∧ PyData.canLayAll0 ps = true ∧ PyData.depthAll ps ≤ dps ds ∧ ps.isEmpty = is_.isEmpty := by
  induction is_ with
  | nil => exact ⟨[], .nil, by simp [PyData.canLayAll0], Nat.zero_le _, rfl⟩
  | cons i is_ ih =>
    obtain ⟨ps, h1, h2, h3, h4⟩ := ih fun j hj => hi j (List.mem_cons_of_mem _ hj)
    have li := hi i List.mem_cons_self
    have hv : vs[i]? = some vs[i] := List.getElem?_eq_getElem li
    obtain ⟨d, e1, e2⟩ := h.get hv
    have md := List.mem_of_getElem? e1
    obtain ⟨k1, k2⟩ := dp_u (K := K) d _ e2 (noDs_mem n d md)
    have k3 := (pd_good d (goods_mem g d md)).2.2.2
    have k4 : dp d ≤ dps ds := by
      clear e1 h k1 k2 k3 h1 h2 h3 h4 ih hf hi n g
      induction ds with
      | nil => cases md
      | cons x ds ihd =>
        simp only [dps]
        rcases List.mem_cons.mp md with rfl | md
        · omega
        · have := ihd md
          omega
    refine ⟨pd d :: ps, ?_, by simp [PyData.canLayAll0, k2, h2], by simp only [PyData.depthAll]; omega, rfl⟩
    rw [List.map_cons, hf i _ hv]
    exact .cons k1 h1
theorem DA.nk {w : World} {H : Hp} {a : Addr} {es : List (NestedKey × V × V)} (d : DA w H a es) : ∀ x ∈ es, NK H x.1 x.2.1 := by
  rcases d with ⟨kvs, _, rfl⟩ | ⟨_, k⟩
  · exact lift_nk
  · exact k.nk
theorem dp_ones {α : Type} {K : PySem.W.Frag} {H : Hp} : ∀ l : List α, DpAll K H (l.map fun _ => V.int 1) (l.map fun _ => PyData.int 1) ∧ PyData.canLayAll0 (l.map fun _ => PyData.int 1) = true ∧ PyData.depthAll (l.map fun _ => PyData.int 1) = 0
  | [] => ⟨.nil, by simp [PyData.canLayAll0], by simp [PyData.depthAll]⟩
  | _ :: l => by
    obtain ⟨a, b, c⟩ := dp_ones (K := K) (H := H) l
    exact ⟨.cons (.int 1) a, by simp [PyData.canLayAll0, PyData.canLay0, b], by simp [PyData.depthAll, PyData.depth, c]⟩
theorem shaped_l {ps : List PyData} (h : PyData.canLayAll0 ps = true) (hd : PyData.depthAll ps ≤ 60) : SeqAt.shaped (.list ps) = true := by
  unfold SeqAt.shaped
  rw [Bool.and_eq_true, decide_eq_true_eq]
  exact ⟨by simpa [PyData.canLay0] using h, by simp only [PyData.depth]; omega⟩
end NkD
set_option maxRecDepth 100000
set_option maxHeartbeats 2000000
namespace K21
open PySem L2 Fm NkD
/-- a whole number from lo to hi -/
def rangeU (lo hi : Int) : U → Bool
  | .int i => decide (lo ≤ i) && decide (i ≤ hi)
  | _ => false
theorem range_below (d : U) : rangeU 0 2 d = belowU 3 d := by
  cases d with
  | int i =>
    show (decide (0 ≤ i) && decide (i ≤ 2)) = (decide (0 ≤ i) && decide (i < 3))
    congr 1
    rw [Bool.eq_iff_iff, decide_eq_true_iff, decide_eq_true_iff]
    omega
  | _ => rfl
/-- the last sign -/
theorem tail_sign {x : Str} (h : 1 ≤ x.length) : ∃ c, cutS x (some (-1)) none = ⟨#[c]⟩ ∧ x.cps.toList[x.length - 1]? = some c ∧ Txt.endswith x "-" = decide (V.str (cutS x (some (-1)) none) = V.str "-") := by
  obtain ⟨c, c0, c1⟩ := last_sign h
  have l : x.cps.toList.length = x.length := by simp [Str.length]
  have e1 : HT.sIx x.length 0 (some (-1)) = x.length - 1 := by
    show (if (-1 : Int) < 0 then ((-1 : Int) + (x.length : Int)).toNat else min (-1 : Int).toNat x.length) = _
    rw [if_pos (by decide)]
    omega
  have e2 : cutS x (some (-1)) none = ⟨#[c]⟩ := by
    unfold cutS
    rw [e1, show HT.sIx x.length x.length none = x.length from rfl]
    have lt : x.length - 1 < x.cps.toList.length := by omega
    rw [List.drop_eq_getElem_cons lt]
    rw [List.getElem?_eq_getElem lt] at c0
    rw [Option.some.inj c0]
    rw [show x.length - (x.length - 1) = 0 + 1 by omega, List.take_succ_cons, List.take_zero]
  exact ⟨c, e2, c0, by rw [e2]; exact c1⟩
theorem cut_whole (x : Str) : cutS x none (some ((x.length : Int) - 0)) = x := by
  unfold cutS
  rw [show HT.sIx x.length 0 none = 0 from rfl, show ((x.length : Int) - 0) = ((x.length : Nat) : Int) by omega, HT.sIx_nat, Nat.min_self, List.drop_zero, Nat.sub_zero, List.take_of_length_le (by simp [Str.length])]
theorem cut_but {x : Str} (h : 1 ≤ x.length) : cutS x none (some ((x.length : Int) - 1)) = cutLast x := by
  unfold cutLast cutS
  rw [show ((x.length : Int) - 1) = ((x.length - 1 : Nat) : Int) by omega, HT.sIx_nat]
  have e2 : HT.sIx x.length x.length (some (-1)) = x.length - 1 := by
    show (if (-1 : Int) < 0 then ((-1 : Int) + (x.length : Int)).toNat else min (-1 : Int).toNat x.length) = _
    rw [if_pos (by decide)]
    omega
  rw [e2, Nat.min_eq_left (by omega)]
theorem minus_no : signOk "-" = false := by decide +kernel
theorem end_no {x : Str} (h : 1 ≤ x.length) (he : Txt.endswith x "-" = true) : isNameS x = false := by
  obtain ⟨c, e1, c0, c1⟩ := tail_sign h
  rw [he, e1] at c1
  have e : (⟨#[c]⟩ : Str) = "-" := by
    have := of_decide_eq_true c1.symm
    injection this
  have m : (⟨#[c]⟩ : Str) ∈ signs x := List.mem_map.mpr ⟨c, List.mem_of_getElem? c0, rfl⟩
  unfold isNameS
  have no : (signs x).all signOk = false := by
    rw [← Bool.not_eq_true, List.all_eq_true]
    intro z
    have := z _ m
    rw [e, minus_no] at this
    cases this
  rw [no, Bool.and_false]
theorem str_good {x : Str} (hg : good (.str x) = true) : x.length ≤ 100 ∧ PyData.strOk x = true := by
  simp only [good, Bool.and_eq_true, decide_eq_true_eq] at hg
  exact ⟨hg.2, hg.1⟩
section
variable {P : Program} {w : World} {K : PySem.W.Frag} {mg : Str → Option Value} {base : Heap} (T : Txt K mg)
def spWhole (w : World) : Sp := fun vs H Q _ => ∃ v d lo hi, vs = [v, .int lo, .int hi] ∧ Uv w H v d ∧ ∀ H', Same H H' → Q (.bl (rangeU lo hi d)) H'
theorem ok_law_is_whole : FnOk P w K mg base CX0 1 T.a__law_is_whole T.d__law_is_whole ["_law_thing_here", "_law_low", "_law_high"] (spWhole w) := by
  refine T.F__law_is_whole.ok sc__law_is_whole ?_ (fun cdv A outer s H vs Q E hr h => ?_)
  · rintro vs H Q E ⟨v, d, lo, hi, rfl, _⟩
    rfl
  obtain ⟨v, d, lo, hi, rfl, hd, q⟩ := h
  refine ⟨_, 
    (pss_one (ps_ret (pe_and (pe_callB call_isiN (by rfl) T.m_isinstance (by decide +kernel) (pa_cons (pv 0) (pa_cons (pe_bltn (v := .ty "int") (u := .type "int") (by rfl) T.m_int (by decide +kernel) rfl) pa_nil))) (pe_and (pe_not (pe_callB call_isiN (by rfl) T.m_isinstance (by decide +kernel) (pa_cons (pv 0) (pa_cons (pe_bltn (v := .ty "bool") (u := .type "bool") (by rfl) T.m_bool (by decide +kernel) rfl) pa_nil)))) (pe_one (pe_chain op_le op_le (pv 1) (pv 0) (pv 2))))))), ?_⟩
  refine ⟨_, rfl, _, _, _, _, _, rfl, .ty _, hd.ty, kit_int d, _, rfl, ite_b (fun hI => ?_) (fun hI => ?_)⟩
  · refine ⟨_, rfl, _, _, _, _, _, rfl, .ty _, hd.ty, kit_bl d, _, rfl, _, rfl, ite_b (fun hB => ?_) (fun hB => ?_)⟩
    · obtain ⟨i, rfl⟩ : ∃ i, d = .int i := by
        cases d with
        | int i => exact ⟨i, rfl⟩
        | bl _ => cases hB
        | _ => cases hI
      cases hd
      refine ⟨_, rfl, _, rfl, _, _, rfl, rfl, _, rfl, ite_b (fun h1 => ?_) (fun h1 => ?_)⟩
      · refine ⟨_, rfl, _, _, rfl, rfl, ?_⟩
        have := q H (Same.refl _)
        rw [show rangeU lo hi (.int i) = (decide (lo ≤ i) && decide (i ≤ hi)) from rfl, h1, Bool.true_and] at this
        exact this
      · have := q H (Same.refl _)
        rw [show rangeU lo hi (.int i) = (decide (lo ≤ i) && decide (i ≤ hi)) from rfl, h1, Bool.false_and] at this
        exact this
    · have e : rangeU lo hi d = false := by cases d <;> first | rfl | cases hB
      have := q H (Same.refl _)
      rw [e] at this
      exact this
  · have e : rangeU lo hi d = false := by cases d <;> first | rfl | cases hI
    have := q H (Same.refl _)
    rw [e] at this
    exact this
theorem ok_law_is_word : FnOk P w K mg base CX0 1 T.a__law_is_word T.d__law_is_word ["_law_thing_here"] (sp1 w nameU) := by
  refine T.F__law_is_word.ok sc__law_is_word sp1_len (fun cdv A outer s H vs Q E hr h => ?_)
  obtain ⟨v, d, rfl, hd, hg, q⟩ := h
  refine ⟨_, 
    (pss_cons (ps_if (PW.pt (pw_or (pt_not (pt_val (pe_callB call_isiN (by rfl) T.m_isinstance (by decide +kernel) (pa_cons (pv 0) (pa_cons (pe_bltn (v := .ty "str") (u := .type "str") (by rfl) T.m_str (by decide +kernel) rfl) pa_nil))))) (pw_or1 (pt_not (pt_chain op_lt op_lt pe_int (pe_callB call_len_str (by rfl) T.m_len (by decide +kernel) (pa_cons (pv 0) pa_nil)) pe_int))))) (pss_one (ps_ret pe_bl)) pss_nil)
    (pss_one (ps_ret (pe_cmpR (op_eqD hr.units) (pe_lc (own := [("_law_sign", 1)]) (g := gName 1) rfl sc__law_is_word.nd (pi_str (pv 0)) (blkOk_by (N := N__law_is_word) (sc := defScope s__law_is_word) (by decide +kernel)) (fun _ _ _ _ _ => pg_name (i := 1) sc__law_is_word.nd rfl (Or.inl rfl)) (fun _ _ _ _ _ => pts_one (pt_cmpR op_notin_str (pv 1) pe_str (by rfl))) (fun _ _ _ _ _ => pv 1)) (pe_lst pa_nil) (nomark _))))), ?_⟩
  refine ⟨_, rfl, _, _, _, _, _, rfl, .ty _, hd.ty, kit_str d, _, rfl, ite_b (fun hS => ?_) (fun hS => ?_)⟩
  · have e : nameU d = false := by cases d <;> first | rfl | cases hS
    have := q H (Same.refl _)
    rw [e] at this
    exact iteT this
  · obtain ⟨x, rfl⟩ : ∃ x, d = .str x := by
      cases d with
      | str x => exact ⟨x, rfl⟩
      | _ => cases hS
    cases hd with
    | str _ ox =>
    obtain ⟨lx, _⟩ := str_good hg
    have big : ¬ (1 ≤ x.length ∧ x.length ≤ 8) → nameU (.str x) = false := fun z => by
      show isNameS x = false
      unfold isNameS
      rw [← Bool.decide_and, decide_eq_false z, Bool.false_and]
    refine ⟨_, rfl, x, rfl, sz (by omega), _, _, rfl, rfl, _, rfl, ite_b (fun h1 => ?_) (fun h1 => ?_)⟩
    · have z1 : 1 ≤ x.length := by have := of_decide_eq_true h1; omega
      refine ⟨_, _, rfl, rfl, _, rfl, ite_b (fun h2 => ?_) (fun h2 => ?_)⟩
      · have e := big (fun z => by rw [decide_eq_true (show ((x.length : Nat) : Int) < 9 by omega)] at h2; cases h2)
        have := q H (Same.refl _)
        rw [e] at this
        exact this
      · have z8 : x.length ≤ 8 := by
          refine Classical.byContradiction fun z => ?_
          rw [decide_eq_false (show ¬ ((x.length : Nat) : Int) < 9 by omega)] at h2
          cases h2
        refine ⟨_, rfl, x, rfl, ?_⟩
        intro Dl hD
        refine lc_signs (K := K) V.str (fun y => !signOk y) hD (by omega) (fun _ => rfl) (fun y H' R _ r => ⟨_, rfl, _, _, rfl, rfl, _, rfl, r⟩) (fun y H' R _ _ r => ⟨_, rfl, r⟩) (fun H' k hl => ?_)
        refine ⟨Nat.zero_le _, fun z hz => ?_⟩
        have hl' : (upd H' z (.lst [])) Dl = some (.lst (((signs x).filter fun y => !signOk y).map V.str)) := by
          rw [upd_ne (ne_of_none hl hz)]
          exact hl
        refine ⟨_, _, dp_strs (SqL.of hl'), .lst (SqL.of upd_same) .nil, shaped_strs (fun y hy => ok_signs ox ((List.mem_filter.mp hy).1)), by decide +kernel, ?_⟩
        rw [eqv_nil]
        have e : nameU (.str x) = (((signs x).filter fun y => !signOk y).map PyData.str).isEmpty := by
          show isNameS x = _
          simp only [isNameS, decide_eq_true z1, decide_eq_true z8, Bool.true_and]
          rw [Bool.eq_iff_iff]
          simp [List.filter_eq_nil_iff]
        rw [← e]
        exact q _ (k.trans (Same.new hz))
    · have e := big (fun z => by have := of_decide_eq_false h1; omega)
      have := q H (Same.refl _)
      rw [e] at this
      exact ⟨_, rfl, iteT this⟩
theorem ok_law_is_outcome : FnOk P w K mg base CX0 2 T.a__law_is_outcome T.d__law_is_outcome ["_law_thing_here"] (sp1 w outU) := by
  have G__law_is_word := ok_law_is_word (P := P) (w := w) (base := base) T
  refine T.F__law_is_outcome.ok sc__law_is_outcome sp1_len (fun cdv A outer s H vs Q E hr h => ?_)
  obtain ⟨v, d, rfl, hd, hg, q⟩ := h
  refine ⟨_, 
    (pss_one (ps_ret (pe_and (pe_callB call_isiN (by rfl) T.m_isinstance (by decide +kernel) (pa_cons (pv 0) (pa_cons (pe_bltn (v := .ty "str") (u := .type "str") (by rfl) T.m_str (by decide +kernel) rfl) pa_nil))) (pe_one (pe_call G__law_is_word (hr.mono (by omega)) (by rfl) T.f__law_is_word T.F__law_is_word.kp T.b__law_is_word .nil pass0 (pa_cons (pe_slice sl_str (pv 0) po_none (po_some (pe_op op_sub (pe_callB call_len_str (by rfl) T.m_len (by decide +kernel) (pa_cons (pv 0) pa_nil)) (pe_callTy call_int1 (by rfl) T.m_int (by decide +kernel) (pa_cons (pe_cmpR op_eq (pe_slice sl_str (pv 0) (po_some (pe_un un_neg pe_int)) po_none) pe_str (nomark _)) pa_nil))))) pa_nil)))))), ?_⟩
  refine ⟨_, rfl, _, _, _, _, _, rfl, .ty _, hd.ty, kit_str d, _, rfl, ite_b (fun hS => ?_) (fun hS => ?_)⟩
  · obtain ⟨x, rfl⟩ : ∃ x, d = .str x := by
      cases d with
      | str x => exact ⟨x, rfl⟩
      | _ => cases hS
    cases hd with
    | str _ ox =>
    obtain ⟨lx, _⟩ := str_good hg
    refine ⟨_, rfl, _, rfl, x, rfl, sz (by omega), _, rfl, _, rfl, _, rfl, x, rfl, sz (by omega), ?_⟩
    by_cases l1 : 1 ≤ x.length
    · obtain ⟨c, e1, c0, c1⟩ := tail_sign l1
      refine ⟨rfl, .inr ⟨_, rfl, _, _, rfl, rfl, _, rfl, x, rfl, sz (by omega), ?_⟩⟩
      rw [← c1]
      cases he : Txt.endswith x "-" with
      | true =>
        refine ⟨_, _, rfl, .str _ ?_, ?_, fun H1 k1 => ?_⟩
        · rw [if_pos rfl, cut_but l1]
          exact ok_cut ox
        · rw [if_pos rfl, cut_but l1]
          exact good_cut hg
        · have e : outU (.str x) = isNameS (cutLast x) := by
            show isOutS x = _
            unfold isOutS
            rw [end_no l1 he, he, Bool.false_or, Bool.true_and]
          have := q H1 k1
          rw [e] at this
          rw [if_pos rfl, cut_but l1]
          exact this
      | false =>
        refine ⟨_, _, rfl, .str _ ?_, ?_, fun H1 k1 => ?_⟩
        · rw [if_neg Bool.false_ne_true, cut_whole]
          exact ox
        · rw [if_neg Bool.false_ne_true, cut_whole]
          exact hg
        · have e : outU (.str x) = isNameS x := by
            show isOutS x = _
            unfold isOutS
            rw [he, Bool.false_and, Bool.or_false]
          have := q H1 k1
          rw [e] at this
          rw [if_neg Bool.false_ne_true, cut_whole]
          exact this
    · have e0 : x = "" := by
        have : x.cps.size = 0 := by
          have : x.length = x.cps.size := rfl
          omega
        cases x with
        | mk cps =>
          have : cps = #[] := Array.eq_empty_of_size_eq_zero this
          rw [this]
          rfl
      subst e0
      refine ⟨rfl, .inr ⟨_, rfl, _, _, rfl, rfl, _, rfl, _, rfl, sz (by decide), _, .str "", rfl, .str _ (by decide +kernel), by decide +kernel, fun H1 k1 => ?_⟩⟩
      exact q H1 k1
  · have e : outU d = false := by cases d <;> first | rfl | cases hS
    have := q H (Same.refl _)
    rw [e] at this
    exact this
end
end K21
set_option maxRecDepth 100000
set_option maxHeartbeats 2000000
namespace K21
open PySem L2 Fm NkD
section
variable {P : Program} {w : World} {K : PySem.W.Frag} {mg : Str → Option Value} {base : Heap} (T : Txt K mg)
theorem ok_law_is_act : FnOk P w K mg base CX0 4 T.a__law_is_act T.d__law_is_act ["_law_thing_here"] (spAct w) := by
  have G__law_is_whole := ok_law_is_whole (P := P) (w := w) (base := base) T
  have G__law_is_outcome := ok_law_is_outcome (P := P) (w := w) (base := base) T
  refine T.F__law_is_act.ok sc__law_is_act ?_ (fun cdv A outer s H vs Q E hr h => ?_)
  · rintro vs H Q E ⟨v, d, rfl, _⟩
    rfl
  obtain ⟨v, d, rfl, hd, hg, hs, q⟩ := h
  refine ⟨_, 
    (pss_cons (ps_if (PW.pt (pw_or (pt_not (pt_val (pe_callB call_isiN (by rfl) T.m_isinstance (by decide +kernel) (pa_cons (pv 0) (pa_cons (pe_bltn (v := .ty "tuple") (u := .type "tuple") (by rfl) T.m_tuple (by decide +kernel) rfl) pa_nil))))) (pw_or (pt_cmpR op_ne (pe_callB call_len_seq (by rfl) T.m_len (by decide +kernel) (pa_cons (pv 0) pa_nil)) pe_int (nomark _)) (pw_or1 (pt_not (pt_val (pe_call G__law_is_whole (hr.mono (by omega)) (by rfl) T.f__law_is_whole T.F__law_is_whole.kp T.b__law_is_whole .nil pass0 (pa_cons (pe_ix ix_tup (pv 0) pe_int (fun _ _ => rfl)) (pa_cons pe_int (pa_cons pe_int pa_nil)))))))))) (pss_one (ps_ret pe_bl)) pss_nil)
    (pss_cons (ps_if (PW.pt (pw_or (pt_not (pt_val (pe_callB call_isiN (by rfl) T.m_isinstance (by decide +kernel) (pa_cons (pe_ix ix_tup (pv 0) pe_int (fun _ _ => rfl)) (pa_cons (pe_bltn (v := .ty "dict") (u := .type "dict") (by rfl) T.m_dict (by decide +kernel) rfl) pa_nil))))) (pw_or1 (pt_not (pt_chain op_lt op_lt pe_int (pe_callB call_lenN (by rfl) T.m_len (by decide +kernel) (pa_cons (pe_ix ix_tup (pv 0) pe_int (fun _ _ => rfl)) pa_nil)) pe_int))))) (pss_one (ps_ret pe_bl)) pss_nil)
    (pss_cons (ps_set (i := 1) sc__law_is_act.nd rfl (Or.inr rfl) (pe_ix ix_tup (pv 0) pe_int (fun _ _ => rfl)))
    (pss_one (ps_ret (pe_cmpR (op_eqD hr.units) (pe_lock (pe_lc (own := [("_law_one", 2)]) (g := gName 2) rfl sc__law_is_act.nd (pi_alt (pi_keys (pv 1)) (pi_keysN (pv 1))) (blkOk_by (N := N__law_is_act) (sc := defScope s__law_is_act) (by decide +kernel)) (fun _ _ _ _ _ => pg_name (i := 2) sc__law_is_act.nd rfl (Or.inl rfl)) (fun _ _ _ _ _ => pts_one (PW.pt (pw_or (pt_not (pt_val (pe_call G__law_is_outcome (hr.mono (by omega)) (by rfl) T.f__law_is_outcome T.F__law_is_outcome.kp T.b__law_is_outcome .nil pass0 (pa_cons (pv 2) pa_nil)))) (pw_or1 (pt_not (pt_val (pe_call G__law_is_whole (hr.mono (by omega)) (by rfl) T.f__law_is_whole T.F__law_is_whole.kp T.b__law_is_whole .nil pass0 (pa_cons (pe_ngetK (w := w) rfl (hu9 hr) (pv 1) (pv 2) (fun _ _ => rfl)) (pa_cons pe_int (pa_cons pe_int pa_nil)))))))))) (fun _ _ _ _ _ => pe_int))) (pe_lst pa_nil) (nomark _))))))), ?_⟩
  have no : actU d = false → ∀ H1, Same H H1 → Q (.bl false) H1 := fun e H1 k1 => by
    have := q H1 k1
    rw [e] at this
    exact this
  refine ⟨_, rfl, _, _, _, _, _, rfl, .ty _, hd.ty, kit_tup d, _, rfl, ite_b (fun hI => ?_) (fun hI => ?_)⟩
  · exact iteT (no (by cases d <;> first | rfl | cases hI) H (Same.refl _))
  obtain ⟨ds, rfl⟩ : ∃ ds, d = .tup ds := by
    cases d with
    | tup ds => exact ⟨ds, rfl⟩
    | _ => cases hI
  cases hd with
  | @tup t xs _ ht hx =>
  have lx := hx.len
  refine ⟨_, rfl, t, _, rfl, .inr (SqT.of ht), rfl, _, rfl, ite_b (fun h2 => ?_) (fun h2 => ?_)⟩
  · have l2 : ¬ ds.length = 2 := fun z => by simp at h2; omega
    refine iteT (no ?_ H (Same.refl _))
    match ds, l2 with
    | [], _ => rfl
    | [_], _ => rfl
    | [_, _], z => exact absurd rfl z
    | _ :: _ :: _ :: _, _ => rfl
  have l2 : ds.length = 2 := by simp at h2; omega
  obtain ⟨n, o, rfl⟩ : ∃ n o, ds = [n, o] := by
    match ds, l2 with
    | [n, o], _ => exact ⟨n, o, rfl⟩
  cases hx with
  | @cons x0 _ _ _ h0 hx =>
  cases hx with
  | @cons x1 _ _ _ h1 hx =>
  cases hx
  have gn : good n = true ∧ good o = true := by
    simp only [good, goods, Bool.and_eq_true] at hg
    exact ⟨hg.1, hg.2.1⟩
  have eA : actU (.tup [n, o]) = (belowU 3 n && outsU o) := rfl
  refine ⟨_, rfl, t, _, 0, _, rfl, rfl, SqT.of ht, atI_nat (j := 0) rfl, _, _, _, _, rfl, h0, fun H1 k1 => ⟨_, rfl, ite_b (fun c => ?_) (fun c => ?_)⟩⟩
  · refine no ?_ H1 k1
    rw [range_below] at c
    rw [eA, show belowU 3 n = false by simpa using c, Bool.false_and]
  have c0 : belowU 3 n = true := by
    rw [range_below] at c
    simpa using c
  have h1' := h1.same k1
  have ht1 := k1 _ _ ht
  refine ⟨_, rfl, t, _, 1, _, rfl, rfl, SqT.of ht1, atI_nat (j := 1) rfl, _, _, _, _, _, rfl, .ty _, h1'.ty, kit_dic o, _, rfl, ite_b (fun hI => ?_) (fun hI => ?_)⟩
  · refine iteT (no ?_ H1 k1)
    rw [eA, show outsU o = false from (by cases o <;> first | rfl | cases hI), Bool.and_false]
  obtain ⟨ks, vs, rfl⟩ : ∃ ks vs, o = .dic ks vs := by
    cases o with
    | dic ks vs => exact ⟨ks, vs, rfl⟩
    | _ => cases hI
  cases h1' with
  | @dic a es _ _ dd hk hv =>
  have lk := hk.len
  have lv := hv.len
  rw [List.length_map] at lk lv
  have hs' : ((noDs ks && noDs vs) && decide (ks.length ≤ 1000)) = true := hs
  simp only [Bool.and_eq_true, decide_eq_true_eq] at hs'
  have gd : goods ks = true ∧ goods vs = true := by
    have := gn.2
    simp only [good, Bool.and_eq_true] at this
    exact this
  have eO : outsU (.dic ks vs) = (decide (1 ≤ ks.length) && decide (ks.length ≤ 6) && (ks.zip vs).all pairU) := rfl
  have few : ¬ (1 ≤ ks.length ∧ ks.length ≤ 6) → actU (.tup [n, .dic ks vs]) = false := fun z => by
    rw [eA, eO, ← Bool.decide_and, decide_eq_false z, Bool.false_and, Bool.and_false]
  refine ⟨_, rfl, t, _, 1, _, rfl, rfl, SqT.of ht1, atI_nat (j := 1) rfl, a, es, rfl, dd.da, _, _, rfl, rfl, _, rfl, ite_b (fun h3 => ?_) (fun h3 => ?_)⟩
  · have z1 : 1 ≤ ks.length := by have := of_decide_eq_true h3; omega
    refine ⟨_, _, rfl, rfl, _, rfl, ite_b (fun h4 => ?_) (fun h4 => ?_)⟩
    · exact no (few fun z => by rw [decide_eq_true (show ((es.length : Nat) : Int) < 7 by omega)] at h4; cases h4) H1 k1
    · have z6 : ks.length ≤ 6 := by
        refine Classical.byContradiction fun z => ?_
        rw [decide_eq_false (show ¬ ((es.length : Nat) : Int) < 7 by omega)] at h4
        cases h4
      refine ⟨_, rfl, t, _, 1, _, rfl, rfl, SqT.of ht1, atI_nat (j := 1) rfl, ?_⟩
      obtain ⟨u, hu, mu, n1, n2, ti⟩ := keys_ti (w := w) (σ := [some (.ref t), some (.ref a), none]) (td := tVar 1) (fun Q H' h => ⟨_, rfl, h⟩) dd
      have dl := dd.locked (u := u)
      refine ⟨a, u, hu, mu, fun od => ti od _ (dl od hu n1) fun J wk Dl hD => ?_⟩
      have hk2 := UvL.lockR (o := .frz od u) hu n1 n2 ks _ hs'.1.1 hk
      have hv2 := UvL.lockR (o := .frz od u) hu n1 n2 vs _ hs'.1.2 hv
      have da := dl od hu n1
      have kn := hk.len
      have zl : (ks.zip vs).length = es.length := by rw [List.length_zip]; omega
      refine lc_itK wk (fun _ => .int 1) (fun i => !atB pairU (ks.zip vs) i) hD (by omega) (fun H' k => k _ _ upd_same) (fun i y H' H2 R Nx hi k yy r rn => ?_) (fun H' k hl2 => ?_)
      · obtain ⟨rfl, kk, vv, e1⟩ := yy
        obtain ⟨kd, f1, f2⟩ := hk2.get (i := i) (v := y) (by rw [List.getElem?_map, e1]; rfl)
        obtain ⟨vd, v1, v2⟩ := hv2.get (i := i) (v := vv) (by rw [List.getElem?_map, e1]; rfl)
        have eb : atB pairU (ks.zip vs) i = pairU (kd, vd) := atB_get (List.getElem?_zip_eq_some.mpr ⟨f1, v1⟩)
        rw [eb] at r rn
        refine ⟨rfl, ?_⟩
        refine ⟨_, rfl, _, _, rfl, f2.same k, goods_mem gd.1 _ (List.mem_of_getElem? f1), fun H3 k3 => ⟨_, rfl, ite_b (fun c => ?_) (fun c => ?_)⟩⟩
        · have ep : pairU (kd, vd) = false := by
            unfold pairU
            rw [show outU kd = false by simpa using c, Bool.false_and]
          exact iteT (r (by rw [ep]; rfl) H3 k3)
        · have ok : outU kd = true := by simpa using c
          obtain ⟨x, rfl⟩ := outU_str ok
          have nk : NK H2 kk y := (da.same k).nk _ (List.mem_of_getElem? e1)
          refine ⟨_, rfl, _, rfl, a, es, kk, i, y, vv, rfl, da.same (k.trans k3), nk.same k3, e1, _, _, _, _, rfl, v2.same (k.trans k3), fun H4 k4 => ⟨_, rfl, ite_b (fun c => ?_) (fun c => ?_)⟩⟩
          · have ep : pairU (.str x, vd) = false := by
              unfold pairU
              rw [range_below] at c
              rw [show belowU 3 vd = false by simpa using c, Bool.and_false]
            exact r (by rw [ep]; rfl) H4 (k3.trans k4)
          · have ep : pairU (.str x, vd) = true := by
              unfold pairU
              rw [range_below] at c
              rw [ok, show belowU 3 vd = true by simpa using c]
              rfl
            exact rn (by rw [ep]; rfl) H4 (k3.trans k4)
      · refine ⟨k _ _ upd_same, Nat.zero_le _, fun z hz => ?_⟩
        have nd : Dl ≠ a := fun z => by rw [z, upd_same] at hD; cases hD
        have kb := lock_back hu k
        have hl3 : (upd H' a u) Dl = some (.lst (((List.range es.length).filter fun i => !atB pairU (ks.zip vs) i).map fun _ => .int 1)) := by rw [upd_ne nd]; exact hl2
        have hl4 : (upd (upd H' a u) z (.lst [])) Dl = some (.lst (((List.range es.length).filter fun i => !atB pairU (ks.zip vs) i).map fun _ => .int 1)) := by
          rw [upd_ne (ne_of_none hl3 hz)]
          exact hl3
        obtain ⟨b1, b2, b3⟩ := dp_ones (K := K) (H := upd (upd H' a u) z (.lst [])) ((List.range es.length).filter fun i => !atB pairU (ks.zip vs) i)
        refine ⟨_, _, .lst (SqL.of hl4) b1, .lst (SqL.of upd_same) .nil, shaped_l b2 (by omega), by decide +kernel, ?_⟩
        rw [eqv_nil]
        have e : actU (.tup [n, .dic ks vs]) = (((List.range es.length).filter fun i => !atB pairU (ks.zip vs) i).map fun _ => PyData.int 1).isEmpty := by
          rw [eA, c0, eO, decide_eq_true z1, decide_eq_true z6, Bool.true_and, Bool.true_and, Bool.true_and]
          have y := range_keep (xs := ks.zip vs) (p := fun q => !pairU q) (g := fun i => !atB pairU (ks.zip vs) i) fun i q e => by rw [atB_get e]
          rw [zl] at y
          rw [List.isEmpty_map, y]
          simp
        rw [← e]
        exact q _ ((k1.trans kb).trans (Same.new hz))
  · exact ⟨_, rfl, iteT (no (few fun z => by have := of_decide_eq_false h3; omega) H1 k1)⟩
end
end K21
set_option maxRecDepth 100000
set_option maxHeartbeats 2000000
namespace K21
open PySem L2 Fm NkD
theorem range_filter {α β : Type} {xs : List α} {p : α → Bool} {h : α → β} {g : Nat → Bool} {f : Nat → β} (hg : ∀ (i : Nat) (x : α), xs[i]? = some x → g i = p x ∧ f i = h x) : ((List.range xs.length).filter g).map f = (xs.filter p).map h := by
  induction xs generalizing g f with
  | nil => rfl
  | cons x xs ih =>
    obtain ⟨e1, e2⟩ := hg 0 x rfl
    have y := ih (g := g ∘ Nat.succ) (f := f ∘ Nat.succ) fun i z e => hg (i + 1) z (by simpa using e)
    rw [List.length_cons, List.range_succ_eq_map, List.filter_cons, List.filter_cons, e1]
    rw [List.filter_map]
    cases p x with
    | true =>
      rw [if_pos rfl, if_pos rfl, List.map_cons, List.map_cons, List.map_map, e2, ← y]
    | false =>
      rw [if_neg Bool.false_ne_true, if_neg Bool.false_ne_true, List.map_map, ← y]
section
variable {P : Program} {w : World} {K : PySem.W.Frag} {mg : Str → Option Value} {base : Heap} (T : Txt K mg)
def spDue (w : World) : Sp := fun vs H Q _ => ∃ (v : V) (d : U), vs = [v] ∧ Uv w H v d ∧ good d = true ∧ shpT d = true ∧ (∀ ks vs, d = .dic ks vs → ks.length ≤ 20) ∧ dp d ≤ 50 ∧
  (namesU d = false → ∀ H' t, Same H H' → H' t = some (.tup [.str "wrong", .int 0]) → Q (.ref t) H') ∧ ∀ (l : List (Str × U)) (ys : List Str), Names d l → namesU d = true → ys.Perm (l.map (·.1)) → PyProof.Rows.sortedS ys = true →
    (∀ n, ys.find? (badIn l) = some n → ∀ H' t, Same H H' → H' t = some (.tup [.str "act", .str n]) → Q (.ref t) H') ∧
    (ys.find? (badIn l) = none → ∀ H', Same H H' → Q .non H')
theorem ok_law_due : FnOk P w K mg base CX0 5 T.a__law_due T.d__law_due ["_law_thing_here"] (spDue w) := by
  have G__law_is_act := ok_law_is_act (P := P) (w := w) (base := base) T
  have G__law_is_word := ok_law_is_word (P := P) (w := w) (base := base) T
  refine T.F__law_due.ok sc__law_due ?_ (fun cdv A outer s H vs Q E hr h => ?_)
  · rintro vs H Q E ⟨v, d, rfl, _⟩
    rfl
  obtain ⟨v, d, rfl, hd, hg, hs, h20, hz, q0, q1⟩ := h
  refine ⟨_, 
    (pss_cons (ps_if (PW.pt (pw_or (pt_not (pt_val (pe_callB call_isiN (by rfl) T.m_isinstance (by decide +kernel) (pa_cons (pv 0) (pa_cons (pe_bltn (v := .ty "dict") (u := .type "dict") (by rfl) T.m_dict (by decide +kernel) rfl) pa_nil))))) (pw_or1 (pt_cmpR (op_neD hr.units) (pe_lock (pe_lc (own := [("_law_one", 2)]) (g := gName 2) rfl sc__law_due.nd (pi_alt (pi_keys (pv 0)) (pi_keysN (pv 0))) (blkOk_by (N := N__law_due) (sc := defScope s__law_due) (by decide +kernel)) (fun _ _ _ _ _ => pg_name (i := 2) sc__law_due.nd rfl (Or.inl rfl)) (fun _ _ _ _ _ => pts_one (pt_not (pt_val (pe_call G__law_is_word (hr.mono (by omega)) (by rfl) T.f__law_is_word T.F__law_is_word.kp T.b__law_is_word .nil pass0 (pa_cons (pv 2) pa_nil))))) (fun _ _ _ _ _ => pv 2))) (pe_lst pa_nil) (nomark _))))) (pss_one (ps_ret (pe_tup (pa_cons pe_str (pa_cons pe_int pa_nil))))) pss_nil)
    (pss_cons (ps_setLc (i := 1) (own := [("_law_name", 3)]) (g := gName 3) rfl sc__law_due.nd rfl rfl (sw_true rfl rfl rfl (by decide +kernel)) (pi_list (pe_callB (call_sortedD rfl) (by rfl) T.m_sorted (by decide +kernel) (pa_cons (pv 0) pa_nil))) (blkOk_by (N := N__law_due) (sc := defScope s__law_due) (by decide +kernel)) (fun _ _ _ _ _ => pg_name (i := 3) sc__law_due.nd rfl (Or.inl rfl)) (fun _ _ _ _ _ => pts_one (pt_not (pt_val (pe_call G__law_is_act (hr.mono (by omega)) (by rfl) T.f__law_is_act T.F__law_is_act.kp T.b__law_is_act .nil pass0 (pa_cons (pe_dget (hu1 hr) (pv 0) (pv 3) (fun _ _ => rfl)) pa_nil))))) (fun _ _ _ _ _ => pv 3))
    (pss_one (ps_ret (pe_ifExp (pt_cmpR (op_eqD hr.units) (pv 1) (pe_lst pa_nil) (nomark _)) pe_non (pe_tup (pa_cons pe_str (pa_cons (pe_ix ix_list (pv 1) pe_int (fun _ _ => rfl)) pa_nil)))))))), ?_⟩
  refine ⟨_, rfl, _, _, _, _, _, rfl, .ty _, hd.ty, kit_dic d, _, rfl, ite_b (fun hI => ?_) (fun hI => ?_)⟩
  · exact iteT ⟨by decide, fun t ht => q0 (by cases d <;> first | rfl | cases hI) _ t (Same.new ht) upd_same⟩
  obtain ⟨kd, vd, rfl⟩ : ∃ ks vs, d = .dic ks vs := by
    cases d with
    | dic ks vs => exact ⟨ks, vs, rfl⟩
    | _ => cases hI
  have hd0 := hd
  cases hd with
  | @dic p es _ _ dd hk hv =>
  have lk := hk.len
  rw [List.length_map] at lk
  simp only [shpT, Bool.and_eq_true, decide_eq_true_eq] at hs
  simp only [good, Bool.and_eq_true] at hg
  have z20 := h20 _ _ rfl
  obtain ⟨u, hu, mu, n1, n2, ti⟩ := keys_ti (w := w) (σ := [some (.ref p), none, none, none]) (td := tVar 0) (fun Q H' h => ⟨_, rfl, h⟩) dd
  refine ⟨p, u, hu, mu, fun od => ti od _ (dd.locked od hu n1) fun J wk Dl hD => ?_⟩
  have hk2 := UvL.lockR (o := .frz od u) hu n1 n2 kd _ hs.1.1 hk
  let f : Nat → V := fun i => ((es.map fun e => e.2.1)[i]?).getD .non
  have hf : ∀ (i : Nat) (v : V), (es.map fun e => e.2.1)[i]? = some v → f i = v := fun i v e => by show ((es.map fun e => e.2.1)[i]?).getD .non = v; rw [e]; rfl
  refine lc_itK wk f (fun i => !atB nameU kd i) hD (by omega) (fun H' k => k _ _ upd_same) (fun i y H' H2 R Nx hi k yy r rn => ?_) (fun H' k hl2 => ?_)
  · obtain ⟨rfl, kk, vv, e1⟩ := yy
    have e2 : (es.map fun e => e.2.1)[i]? = some y := by rw [List.getElem?_map, e1]; rfl
    obtain ⟨kx, f1, f2⟩ := hk2.get (i := i) (v := y) e2
    rw [atB_get f1] at r rn
    rw [hf i y e2] at r
    refine ⟨rfl, ?_⟩
    refine ⟨_, rfl, _, _, rfl, f2.same k, goods_mem hg.1 _ (List.mem_of_getElem? f1), fun H3 k3 => ⟨_, rfl, ite_b (fun c => ?_) (fun c => ?_)⟩⟩
    · exact ⟨_, rfl, r c H3 k3⟩
    · exact rn c H3 k3
  refine ⟨k _ _ upd_same, Nat.zero_le _, fun z hz2 => ?_⟩
  have nd : Dl ≠ p := fun z => by rw [z, upd_same] at hD; cases hD
  have k1 := lock_back hu k
  have hl3 : (upd H' p u) Dl = some (.lst (((List.range es.length).filter fun i => !atB nameU kd i).map f)) := by rw [upd_ne nd]; exact hl2
  clear hl2 k hk2 ti
  generalize upd H' p u = H1 at k1 hl3 hz2 ⊢
  have kz : Same H1 (upd H1 z (.lst [])) := Same.new hz2
  have hl4 := kz _ _ hl3
  obtain ⟨ps, b1, b2, b3, b4⟩ := dp_keep (K := K) (hk.same (k1.trans kz)) hs.1.1 hg.1 f hf ((List.range es.length).filter fun i => !atB nameU kd i) (fun i hi => by
    rw [List.length_map]
    exact List.mem_range.mp (List.mem_filter.mp hi).1)
  have dz : dps kd ≤ 50 := by simp only [dp] at hz; omega
  refine ⟨_, _, .lst (SqL.of hl4) b1, .lst (SqL.of upd_same) .nil, shaped_l b2 (by omega), by decide +kernel, ?_⟩
  have e5 : ps.isEmpty = kd.all nameU := by
    rw [b4, lk]
    have y := range_keep (xs := kd) (p := fun q => !nameU q) (g := fun i => !atB nameU kd i) fun i q e => by rw [atB_get e]
    rw [y]
    simp
  rw [eqv_nil, e5]
  have k2 := k1.trans kz
  clear hl3 hl4 b1 b2 b3 b4 e5
  generalize upd H1 z (.lst []) = H2 at k2 ⊢
  clear kz
  refine ⟨_, rfl, ite_b (fun c => ?_) (fun c => ?_)⟩
  · exact ⟨by decide, fun t ht => q0 (by simpa [namesU] using c) _ t (k2.trans (Same.new ht)) upd_same⟩
  have nm : kd.all nameU = true := by simpa using c
  obtain ⟨a, ks, l, ev, hks, el, el2, ek, hvl, ndl, okl⟩ := strs_dict hd0 fun k hk => nameU_str (List.all_eq_true.mp nm k hk)
  cases ev
  subst el el2
  have llen : ks.length = l.length := by
    have := congrArg List.length ek
    simpa using this
  rw [List.length_map] at z20
  have nml : Names (.dic (l.map fun p => .str p.1) (l.map (·.2))) l := ⟨rfl, ndl, okl⟩
  have ek2 : ks.map (·.1) = (l.map (·.1)).map Sum.inr := by rw [ek, List.map_map]; rfl
  refine ⟨_, rfl, p, ks, l.map (·.1), rfl, .of (k2 _ _ hks), ek2, (by rw [List.length_map]; omega), fun ys pl perm srt hpl => ?_⟩
  obtain ⟨qb, qn⟩ := q1 l ys nml nm perm srt
  have k3 : Same H2 (upd H2 pl (.lst (ys.map V.str))) := Same.new hpl
  have hpl3 : (upd H2 pl (.lst (ys.map V.str))) pl = some (.lst (ys.map V.str)) := upd_same
  generalize upd H2 pl (.lst (ys.map V.str)) = H3 at k3 hpl3 ⊢
  have k03 := k2.trans k3
  have lys : ys.length ≤ 20 := by rw [perm.length_eq, List.length_map]; exact z20
  have oky : ∀ n ∈ ys, PyData.strOk n = true := fun n hn => by
    obtain ⟨q, hq, rfl⟩ := List.mem_map.mp (perm.mem_iff.mp hn)
    exact okl q hq
  refine ⟨pl, rfl, ⟨_, SqL.of hpl3⟩, fun Dl hD => ?_⟩
  refine lc_itK (walk_list (K := K) (a := pl) (xs := ys.map V.str)) (fun i => .str (ys.getD i "")) (fun i => badIn l (ys.getD i "")) hD (by rw [List.length_map]; omega) (fun H' k => SqL.of (k _ _ hpl3)) (fun i y H' H5 R Nx hi k yy r rn => ?_) (fun H' k hl2 => ?_)
  · obtain ⟨rfl, e1⟩ := yy
    rw [List.getElem?_map] at e1
    obtain ⟨n, hn, rfl⟩ := Option.map_eq_some_iff.mp e1
    have en : ys.getD i "" = n := by rw [List.getD_eq_getElem?_getD, hn]; rfl
    rw [en] at r rn
    obtain ⟨⟨n', b⟩, hb, en2⟩ := List.mem_map.mp (perm.mem_iff.mp (List.mem_of_getElem? hn))
    have en' : n' = n := en2
    subst en'
    have hl := mem_lookup ndl hb
    obtain ⟨v', hv1, hv2⟩ := dict_look ek hvl hl
    have gb : good b = true := goods_mem hg.2 _ (List.mem_map.mpr ⟨_, hb, rfl⟩)
    have sb : shpA b = true := List.all_eq_true.mp hs.1.2 _ (List.mem_map.mpr ⟨_, hb, rfl⟩)
    have eb : badIn l n' = !actU b := by unfold badIn; rw [hl]
    rw [eb] at r rn
    have k05 := k03.trans k
    refine ⟨rfl, ?_⟩
    refine ⟨_, rfl, _, rfl, p, v', rfl, (by rw [← hv1]; exact DGet.k (k := .inr n') (k05 _ _ hks)), _, b, rfl, hv2.same k05, gb, sb, fun H6 k6 => ⟨_, rfl, ite_b (fun c => ?_) (fun c => ?_)⟩⟩
    · exact ⟨_, rfl, r c H6 k6⟩
    · exact rn c H6 k6
  have el3 : ((List.range (ys.map V.str).length).filter fun i => badIn l (ys.getD i "")).map (fun i => V.str (ys.getD i "")) = (ys.filter (badIn l)).map V.str := by
    rw [List.length_map]
    refine range_filter fun i n hn => ?_
    have en : ys.getD i "" = n := by rw [List.getD_eq_getElem?_getD, hn]; rfl
    rw [en]
    exact ⟨rfl, rfl⟩
  rw [el3] at hl2
  have hf : ys.find? (badIn l) = (ys.filter (badIn l)).head? := (List.head?_filter ..).symm
  rw [hf] at qb qn
  have okf : ∀ n ∈ ys.filter (badIn l), PyData.strOk n = true := fun n hn => oky n (List.mem_filter.mp hn).1
  have lf : (ys.filter (badIn l)).length ≤ 20 := Nat.le_trans (List.length_filter_le _ _) lys
  generalize ys.filter (badIn l) = zs at qb qn hl2 okf lf
  have k04 := k03.trans k
  refine ⟨_, rfl, Nat.zero_le _, fun z2 hz3 => ?_⟩
  have hl5 : (upd H' z2 (.lst [])) Dl = some (.lst (zs.map V.str)) := by
    rw [upd_ne (ne_of_none hl2 hz3)]
    exact hl2
  have k06 := k04.trans (Same.new (o := .lst []) hz3)
  refine ⟨_, _, dp_strs (SqL.of hl5), .lst (SqL.of upd_same) .nil, shaped_strs okf, by decide +kernel, ?_⟩
  rw [eqv_nil]
  cases zs with
  | nil => exact ⟨_, rfl, ite_b (fun _ => qn rfl _ k06) (fun c => by cases c)⟩
  | cons n zs =>
    refine ⟨_, rfl, ite_b (fun c => by cases c) (fun _ => ?_)⟩
    refine ⟨_, rfl, Dl, _, 0, _, rfl, rfl, SqL.of hl5, atI_nat (j := 0) rfl, (by show 2 ≤ sizeLine; decide), fun t ht => ?_⟩
    exact qb n rfl _ t (k06.trans (Same.new ht)) upd_same
end
end K21
set_option maxRecDepth 100000
set_option maxHeartbeats 4000000
namespace K21
open PySem L2 Fm NkD
theorem op_eqDs {X : Cx} {a : Addr} {pn : List (Addr × Obj)} (h : X.A.units + 64 < cLine) : OpR (X.suite a pn) (compareOp .Eq) (rEqD X.K) := op_eqD (X := X.suite a pn) h
theorem eqW_self {l : Acts} (ok : ActsOk l) : eqW l l = true := by
  unfold eqW eqArgs eqBr
  rw [Bool.and_eq_true]
  refine ⟨?_, ?_⟩
  all_goals
    rw [beq_self_eq_true, Bool.true_and, List.all_eq_true]
    intro p hp
    rw [look_mem ok.nd hp]
    first | exact beq_self_eq_true _ | exact eqO_self (ok.ok p hp).2.2.2.2.2.nd
section
variable {P : Program} {w : World} {K : PySem.W.Frag} {mg : Str → Option Value} {base : Heap} (T : Txt K mg)
theorem Names.inj {d : U} {l m : List (Str × U)} (a : Names d l) (b : Names d m) : l = m := by
  have e := a.eq.symm.trans b.eq
  injection e with e1 e2
  clear a b
  induction l generalizing m with
  | nil =>
    cases m with
    | nil => rfl
    | cons _ _ => cases e1
  | cons p l ih =>
    cases m with
    | nil => cases e1
    | cons q m =>
      rw [List.map_cons, List.map_cons] at e1 e2
      obtain ⟨f1, f2⟩ := List.cons.inj e1
      obtain ⟨g1, g2⟩ := List.cons.inj e2
      injection f1 with f1
      rw [ih f2 g2]
      obtain ⟨p1, p2⟩ := p
      obtain ⟨q1, q2⟩ := q
      dsimp only at f1 g1
      rw [f1, g1]
/-- which of the errors are of which class -/
structure XKit : Prop where
  wb : PySem.W.kitOne K (.ref T.C_Wrong) (.ref T.C_BadAct) = some false
  bw : PySem.W.kitOne K (.ref T.C_BadAct) (.ref T.C_Wrong) = some false
  wv : PySem.W.kitOne K (.ref T.C_Wrong) (.type "ValueError") = some true
  bv : PySem.W.kitOne K (.ref T.C_BadAct) (.type "ValueError") = some true
def spHeard (w : World) : Sp := fun vs H Q _ => ∃ (v : V) (d : U), vs = [v] ∧ Uv w H v d ∧ good d = true ∧ shpT d = true ∧ (∀ ks vs, d = .dic ks vs → ks.length ≤ 20) ∧
  (namesU d = false → ∀ H' t, Same H H' → H' t = some (.tup [.str "wrong", .int 0]) → Q (.ref t) H') ∧ ∀ (l : List (Str × U)) (ys : List Str), Names d l → namesU d = true → ys.Perm (l.map (·.1)) → PyProof.Rows.sortedS ys = true →
    (∀ n, ys.find? (badIn l) = some n → ∀ H' t, Same H H' → H' t = some (.tup [.str "act", .str n]) → Q (.ref t) H') ∧
    (ys.find? (badIn l) = none → ∀ H', Same H H' → Q .non H')
theorem ok_law_heard (Kw : WKit T) (Kx : XKit T) : FnOk P w K mg base CX0 8 T.a__law_heard T.d__law_heard ["_law_thing_here"] (spHeard w) := by
  have G_init := ok_World_init (P := P) (w := w) (base := base) T
  have G_World_eq := ok_World_eq (P := P) (w := w) (base := base) T Kw
  refine T.F__law_heard.ok sc__law_heard ?_ (fun cdv A outer s H vs Q E hr h => ?_)
  · rintro vs H Q E ⟨v, d, rfl, _⟩
    rfl
  obtain ⟨v, d, rfl, hd, hg, hs, h20, q0, q1⟩ := h
  refine ⟨_, (pss_one (ps_try_as (i := 1) rfl rfl sc__law_heard.nd rfl rfl ⟨by rfl, by decide, Or.inl T.g_MoveError⟩ takes0
    (fun W pn xe tk _ => pss_one (ps_ret (pe_ifExp (pt_cmpR (r := rOwnEq K T.C_World (spEqW T) E0) (op_eqOwn G_World_eq T.sp_World_eq T.fn_World_eq T.b_World_eq pass0 (hr.mono (j := 1) (by omega)))
        (pe_make T.mk_World G_init (hr.mono (by omega)) (by rfl) T.g_World T.b_World_init .nil (passes_call (E := fun cls d H => ∀ σ : L2.St, σ.length = 3 → W cls d σ H) (takes_len tk) (fun _ _ σ _ h z => h σ z)) (pa_cons (pv 0) pa_nil))
        (pe_make T.mk_World G_init (hr.mono (by omega)) (by rfl) T.g_World T.b_World_init .nil (passes_call (E := fun cls d H => ∀ σ : L2.St, σ.length = 3 → W cls d σ H) (takes_len tk) (fun _ _ σ _ h z => h σ z)) (pa_cons (pv 0) pa_nil)) (nomark _)) pe_non pe_str)))
    (fun a oe cls d pn hz hf => pss_cons (ps_set (i := 2) sc__law_heard.nd rfl (Or.inl rfl) (pe_lst (pa_cons (pe_callB (call_isE2 hz hf) (by rfl) T.m_isinstance (by decide +kernel) (pa_cons (pv 1) (pa_cons (pe_glob (v := .ref T.C_Wrong) (u := .ref T.C_Wrong) (by rfl) T.g_Wrong rfl) pa_nil)))
        (pa_cons (pe_callB (call_isE2 hz hf) (by rfl) T.m_isinstance (by decide +kernel) (pa_cons (pv 1) (pa_cons (pe_glob (v := .ref T.C_BadAct) (u := .ref T.C_BadAct) (by rfl) T.g_BadAct rfl) pa_nil)))
        (pa_cons (pe_callB (call_isE2 hz hf) (by rfl) T.m_isinstance (by decide +kernel) (pa_cons (pv 1) (pa_cons (pe_bltn (v := .ty "ValueError") (u := .type "ValueError") (by rfl) T.m_ValueError (by decide +kernel) rfl) pa_nil))) pa_nil)))))
      (pss_cons (ps_if (pt_cmpR (r := rEqD K) (op_eqDs hr.units) (pv 2) (pe_lst (pa_cons pe_bl (pa_cons pe_bl (pa_cons pe_bl pa_nil)))) (nomark _)) (pss_one (ps_ret (pe_tup (pa_cons pe_str (pa_cons (pe_byLow_place T.e_Wrong hz hf (pv 1)) pa_nil))))) pss_nil)
      (pss_one (ps_ret (pe_ifExp (pt_cmpR (r := rEqD K) (op_eqDs hr.units) (pv 2) (pe_lst (pa_cons pe_bl (pa_cons pe_bl (pa_cons pe_bl pa_nil)))) (nomark _)) (pe_tup (pa_cons pe_str (pa_cons (pe_byLow_name T.e_BadAct hz hf (pv 1)) pa_nil))) pe_str))))))), ?_⟩
  refine ⟨_, rfl, fun x dx hx hdx hne => ?_⟩
  have k1 : Same H (upd (upd H dx (.own x)) x (.ins T.C_World dx [])) := (Same.new hdx).trans (Same.new ((upd_ne hne.symm).trans hx))
  refine ⟨x, dx, v, d, rfl, upd_same, hd.same k1, hg, hs, h20, fun nn => ?_, fun l ys nml nm perm srt => ⟨fun n hn => ?_, fun fn ok H' keep hW => ?_⟩⟩
  · intro dd H' kw hd0 hdd σ hσ
    obtain ⟨s0, s1, s2, rfl⟩ : ∃ s0 s1 s2, σ = [s0, s1, s2] := by
      match σ, hσ with
      | [s0, s1, s2], _ => exact ⟨s0, s1, s2, rfl⟩
    refine ⟨true, T.m_Wrong, fun _ ea hea => ?_, fun c => nomatch c⟩
    refine ⟨_, rfl, T.C_Wrong, dd, _, _, _, true, rfl, rfl, T.x_Wrong, hdd, rfl, .own _, (by unfold PySem.W.kitOne; rw [if_pos (beq_self_eq_true _)]), _, rfl, T.C_Wrong, dd, _, _, _, false, rfl, rfl, T.x_Wrong, hdd, rfl, .own _, Kx.wb, _, rfl, T.C_Wrong, dd, _, _, _, true, rfl, rfl, T.x_Wrong, hdd, rfl, .ty _, Kx.wv, (by show 3 ≤ sizeLine; decide), fun pk hpk => ?_⟩
    have a1 : (upd H' pk (.lst [.bl true, .bl false, .bl true])) pk = some (.lst ([true, false, true].map V.bl)) := upd_same
    have h1 := (Same.new (o := .lst [.bl true, .bl false, .bl true]) hpk) _ _ hdd
    have k2 := k1.trans (kw.trans (Same.new (o := .lst [.bl true, .bl false, .bl true]) hpk))
    generalize upd H' pk (.lst [.bl true, .bl false, .bl true]) = H1 at a1 h1 k2 ⊢
    refine ⟨_, rfl, (by show 3 ≤ sizeLine; decide), fun pz hpz => ?_⟩
    have k3 := Same.new (o := .lst [.bl true, .bl false, .bl true]) hpz
    have a2 := k3 _ _ a1
    have h2 := k3 _ _ h1
    have a3 : (upd H1 pz (.lst [.bl true, .bl false, .bl true])) pz = some (.lst ([true, false, true].map V.bl)) := upd_same
    have k4 := k2.trans k3
    generalize upd H1 pz (.lst [.bl true, .bl false, .bl true]) = H2 at a2 a3 h2 k4 ⊢
    refine ⟨_, _, dp_bools a2, dp_bools a3, by decide +kernel, by decide +kernel, _, rfl, ite_b (fun _ => ?_) (fun c => absurd c (by decide +kernel))⟩
    refine ⟨_, rfl, rfl, rfl, dd, .int 0, rfl, h2, (by (show 2 ≤ sizeLine; decide)), fun t ht => ?_⟩
    exact q0 nn _ t (k4.trans (Same.new ht)) upd_same
  · obtain ⟨qb, _⟩ := q1 l ys nml nm perm srt
    intro dd H' kw hd0 hdd σ hσ
    obtain ⟨s0, s1, s2, rfl⟩ : ∃ s0 s1 s2, σ = [s0, s1, s2] := by
      match σ, hσ with
      | [s0, s1, s2], _ => exact ⟨s0, s1, s2, rfl⟩
    refine ⟨true, T.m_BadAct, fun _ ea hea => ?_, fun c => nomatch c⟩
    refine ⟨_, rfl, T.C_BadAct, dd, _, _, _, false, rfl, rfl, T.x_BadAct, hdd, rfl, .own _, Kx.bw, _, rfl, T.C_BadAct, dd, _, _, _, true, rfl, rfl, T.x_BadAct, hdd, rfl, .own _, (by unfold PySem.W.kitOne; rw [if_pos (beq_self_eq_true _)]), _, rfl, T.C_BadAct, dd, _, _, _, true, rfl, rfl, T.x_BadAct, hdd, rfl, .ty _, Kx.bv, (by show 3 ≤ sizeLine; decide), fun pk hpk => ?_⟩
    have a1 : (upd H' pk (.lst [.bl false, .bl true, .bl true])) pk = some (.lst ([false, true, true].map V.bl)) := upd_same
    have h1 := (Same.new (o := .lst [.bl false, .bl true, .bl true]) hpk) _ _ hdd
    have k2 := k1.trans (kw.trans (Same.new (o := .lst [.bl false, .bl true, .bl true]) hpk))
    generalize upd H' pk (.lst [.bl false, .bl true, .bl true]) = H1 at a1 h1 k2 ⊢
    refine ⟨_, rfl, (by show 3 ≤ sizeLine; decide), fun pz hpz => ?_⟩
    have k3 := Same.new (o := .lst [.bl true, .bl false, .bl true]) hpz
    have a2 := k3 _ _ a1
    have h2 := k3 _ _ h1
    have a3 : (upd H1 pz (.lst [.bl true, .bl false, .bl true])) pz = some (.lst ([true, false, true].map V.bl)) := upd_same
    have k4 := k2.trans k3
    generalize upd H1 pz (.lst [.bl true, .bl false, .bl true]) = H2 at a2 a3 h2 k4 ⊢
    refine ⟨_, _, dp_bools a2, dp_bools a3, by decide +kernel, by decide +kernel, _, rfl, ite_b (fun c => absurd c (by decide +kernel)) (fun _ => ?_)⟩
    refine ⟨_, rfl, (by show 3 ≤ sizeLine; decide), fun py hpy => ?_⟩
    have k5 := Same.new (o := .lst [.bl false, .bl true, .bl true]) hpy
    have a4 := k5 _ _ a2
    have h3 := k5 _ _ h2
    have a5 : (upd H2 py (.lst [.bl false, .bl true, .bl true])) py = some (.lst ([false, true, true].map V.bl)) := upd_same
    have k6 := k4.trans k5
    generalize upd H2 py (.lst [.bl false, .bl true, .bl true]) = H3 at a4 a5 h3 k6 ⊢
    refine ⟨_, _, dp_bools a4, dp_bools a5, by decide +kernel, by decide +kernel, _, rfl, ite_b (fun _ => ?_) (fun c => absurd c (by decide +kernel))⟩
    refine ⟨_, rfl, rfl, rfl, dd, .str n, rfl, h3, (by (show 2 ≤ sizeLine; decide)), fun t ht => ?_⟩
    exact qb n hn _ t (k6.trans (Same.new ht)) upd_same
  · obtain ⟨_, qn⟩ := q1 l ys nml nm perm srt
    have hx0 : H x = none := hx
    have kk : Same H H' := fun b o hb => by
      refine keep b o (k1 _ _ hb) fun z => ?_
      rw [z, hx0] at hb
      cases hb
    have hW1 : WorldAt T.C_World H' x (toActs l) := by
      obtain ⟨dx, d1, d2, ks, h1, h2, h3, h4⟩ := hW
      exact ⟨dx, d1, d2, ks, newx_sub _ _ h1, newx_sub _ _ h2, newx_sub _ _ h3, h4.same newx_sub⟩
    refine ⟨rfl, _, rfl, fun x2 dx2 hx2 hdx2 hne2 => ?_⟩
    have k2 : Same H' (upd (upd H' dx2 (.own x2)) x2 (.ins T.C_World dx2 [])) := (Same.new hdx2).trans (Same.new ((upd_ne hne2.symm).trans hx2))
    refine ⟨x2, dx2, v, d, rfl, upd_same, hd.same (kk.trans k2), hg, hs, h20, fun nn => absurd (nn.symm.trans nm) (fun z => nomatch z), fun l' ys' nml' nm' perm' srt' => ?_⟩
    obtain rfl := nml.inj nml'
    obtain rfl := sorted_one srt srt' (perm.trans perm'.symm)
    refine ⟨fun n hn => absurd (hn.symm.trans fn) (fun z => nomatch z), fun _ _ H2 keep2 hW2 => ⟨rfl, ?_⟩⟩
    have hx20 : H' x2 = none := hx2
    have kk2 : Same H' H2 := fun b o hb => by
      refine keep2 b o (k2 _ _ hb) fun z => ?_
      rw [z, hx20] at hb
      cases hb
    have hW3 : WorldAt T.C_World H2 x2 (toActs l) := by
      obtain ⟨dx, d1, d2, ks, h1, h2, h3, h4⟩ := hW2
      exact ⟨dx, d1, d2, ks, newx_sub _ _ h1, newx_sub _ _ h2, newx_sub _ _ h3, h4.same newx_sub⟩
    have hW4 : WorldAt T.C_World H2 x (toActs l) := by
      obtain ⟨dx, d1, d2, ks, h1, h2, h3, h4⟩ := hW1
      exact ⟨dx, d1, d2, ks, kk2 _ _ h1, kk2 _ _ h2, kk2 _ _ h3, h4.same kk2⟩
    have hW5 := hW4
    have hW6 := hW3
    obtain ⟨ex, _, _, _, ux, _⟩ := hW4
    obtain ⟨ey, _, _, _, uy, _⟩ := hW3
    refine ⟨x, ex, _, _, rfl, ux, .base (.base (.ins uy T.cl_World Kw.ha Kw.hn Kw.ht Kw.hm)), by simp [PySem.W.notFirst], ?_⟩
    refine ⟨x, .ref x2, toActs l, rfl, hW5, fun p hp => (ok.ok p hp).2.2.2.2.2.nd, .inl ⟨x2, toActs l, rfl, hW6, ?_⟩⟩
    refine ⟨_, rfl, ?_⟩
    rw [eqW_self ok]
    exact ⟨_, rfl, ite_b (fun _ => qn fn H2 (kk.trans kk2)) (fun c => nomatch c)⟩
end
end K21
set_option maxRecDepth 100000
set_option maxHeartbeats 2000000
/-! list(d), sorted(d.items()) of a dict of names with any values; the new list is told to stand behind the table of modules -/
namespace NkD
open PySem PySem.Spec PyProof.Rows L2 Fm
section
variable {prog : Program} {w : World} {A : Around} {E : Value → Shared → Prop} {s : Shared}
/-- v is a tuple of a text and y in the heap -/
def IsSV (h : Heap) (v : Value) (x : Str) (y : Value) : Prop := ∃ a o t n, v = .ref a ∧ h.get? a = some o ∧ o.cls = .type "tuple" ∧ o.data = .seq #[.str x t, y] n
theorem IsSV.keeps {h h' : Heap} {v : Value} {x : Str} {y : Value} (p : IsSV h v x y) (k : ∀ b o, h.get? b = some o → o.cls = .type "tuple" → h'.get? b = some o) : IsSV h' v x y := by
  obtain ⟨a, o, t, n, e, ho, hc, hd⟩ := p
  exact ⟨a, o, t, n, e, k _ _ ho hc, hc, hd⟩
theorem IsSV.fst {h : Heap} {b : Addr} {x z : Str} {y y' : Value} {t : Tok} {n : Nat} {o : Obj} (p : IsSV h (.ref b) x y) (ho : h.get? b = some o) (hd : o.data = .seq #[.str z t, y'] n) : z = x := by
  obtain ⟨a, o', t', n', e, ho', _, hd'⟩ := p
  cases e
  rw [ho] at ho'
  cases ho'
  rw [hd] at hd'
  cases hd'
  rfl
theorem sv_tot {vs : List Value} (hp : ∀ v ∈ vs, ∃ x y, IsSV s.heap v x y) (un : ∀ (v v' : Value) (x : Str) (y y' : Value), v ∈ vs → v' ∈ vs → IsSV s.heap v x y → IsSV s.heap v' x y' → v = v') : Srt.Tot prog w A s (tuples' true) (fun p => p.1 ∈ vs) := by
  intro p q hm hm'
  obtain ⟨x, y, i1⟩ := hp _ hm
  obtain ⟨x', y', i2⟩ := hp _ hm'
  have j1 := i1
  have j2 := i2
  obtain ⟨a, o, t, n, e, ho, hc, hd⟩ := i1
  obtain ⟨a', o', t', n', e', ho', hc', hd'⟩ := i2
  by_cases ex : x = x'
  · subst ex
    have pq := un _ _ _ _ _ hm hm' j1 j2
    rw [e, e'] at pq
    cases pq
    rw [ho] at ho'
    cases ho'
    rw [hd] at hd'
    cases hd'
    rw [e, e']
    refine ⟨false, PySem.W.kat_lt ho hd ho hd ?_⟩
    show PySem.W.KatLex prog w A true (decide (2 < 2)) _ [(.str x t, .str x t), (y, y)] 0 s
    refine PySem.W.kat_cons (SeqAt.EqAt.same _ prog w _ _ ?_)
    exact PySem.W.kat_go (fun _ => PySem.W.kat_yes (PySem.W.kat_cons (SeqAt.EqAt.same _ prog w _ _ (PySem.W.kat_go (fun _ => PySem.W.kat_yes (PySem.W.kat_nil ⟨rfl, rfl⟩)) (fun z => nomatch z))))) (fun z => nomatch z)
  · rw [e, e']
    refine ⟨decide (x.cps.toList < x'.cps.toList), PySem.W.kat_lt ho hd ho' hd' ?_⟩
    show PySem.W.KatLex prog w A true (decide (2 < 2)) _ [(.str x t, .str x' t'), (y, y')] 0 s
    refine PySem.W.kat_cons (SeqAt.EqAt.str_str x t x' t' prog w _ _ ?_)
    exact PySem.W.kat_go (fun e1 => absurd (by simpa using e1) ex) (fun _ => PySem.W.kat_no (oneLt_any_str ⟨rfl, rfl⟩))
theorem sv_firsts {h : Heap} : ∀ {vs : List Value}, (∀ v ∈ vs, ∃ x y, IsSV h v x y) → ∃ fs : List Value, PySem.W.KatTups h vs fs ∧ fs.length = vs.length ∧ ∀ f ∈ fs, ∃ x t, f = Value.str x t
  | [], _ => ⟨[], PySem.W.KatTups.nil, rfl, fun _ hm => by simp at hm⟩
  | v :: vs, hp => by
    obtain ⟨fs, h1, h2, h3⟩ := sv_firsts (vs := vs) fun v' hm => hp v' (List.mem_cons_of_mem _ hm)
    obtain ⟨x, y, a, o, t, n, e, ho, hc, hd⟩ := hp v (List.mem_cons_self ..)
    subst e
    refine ⟨.str x t :: fs, PySem.W.KatTups.cons ho hc hd rfl h1, by rw [List.length_cons, List.length_cons, h2], fun f hm => ?_⟩
    rcases List.mem_cons.mp hm with rfl | hm
    · exact ⟨x, t, rfl⟩
    · exact h3 f hm
theorem sv_sortable {a : Addr} {vs : List Value} (h0 : 0 < vs.length) (hp : ∀ v ∈ vs, ∃ x y, IsSV s.heap v x y) (un : ∀ (v v' : Value) (x : Str) (y y' : Value), v ∈ vs → v' ∈ vs → IsSV s.heap v x y → IsSV s.heap v' x y' → v = v')
    (ha : ∀ o, s.heap.get? a = some o → o.cls ≠ .type "tuple") : Srt.Sortable prog w A s a vs := by
  intro h' keep
  have kp : ∀ b o, s.heap.get? b = some o → o.cls = .type "tuple" → h'.get? b = some o := fun b o e c => keep b o (fun z => by subst z; exact ha o e c) e
  have hp' : ∀ v ∈ vs, ∃ x y, IsSV h' v x y := fun v hm => by
    obtain ⟨x, y, p⟩ := hp v hm
    exact ⟨x, y, p.keeps kp⟩
  have back : ∀ {v x y}, v ∈ vs → IsSV h' v x y → ∃ y2, IsSV s.heap v x y2 := fun {v x y} hm p => by
    obtain ⟨x2, y2, p2⟩ := hp v hm
    obtain ⟨b, o, t, n, e, ho, hc, hd⟩ := id p2
    subst e
    have := p.fst (kp b o ho hc) hd
    subst this
    exact ⟨y2, p2⟩
  obtain ⟨fs, h1, h2, h3⟩ := sv_firsts hp'
  refine ⟨tuples' true, fun Q E hq => ?_, sv_tot hp' fun v v' x y y' hv hv' p p' => ?_⟩
  · refine PySem.W.kat_kind (T := .type "str") h1 (by omega) (fun f hm => ?_) (by rfl) ?_
    · obtain ⟨x, t, rfl⟩ := h3 f hm
      exact PySem.W.Looks.now
    · have e : (Value.type "str" != Value.type "tuple") = true := by first | decide +kernel | rfl | decide
      rw [e]
      exact hq
  · obtain ⟨y2, p2⟩ := back hv p
    obtain ⟨y3, p3⟩ := back hv' p'
    exact un v v' x y2 y3 hv hv' p2 p3
end
section
variable {X : Cx}
/-- a dict of names -/
def kS (ks : List (Str × V)) : List (Key × V) := ks.map fun p => (.inr p.1, p.2)
/-- sorted(d.items()): the same pairs in some order -/
def rSortSV : List V → Hp → VK → Prop := fun vs H Q => ∃ (p a : Addr) (ks : List (Str × V)), vs = [.ref p] ∧ H p = some (L2.DX.itemsO p a) ∧ H a = some (.dK (kS ks)) ∧ (ks.map (·.1)).Nodup ∧ 1 ≤ ks.length ∧ ks.length < 64 ∧
  ∀ (H' : Hp) (l : Addr) (zs : List (Addr × (Str × V))), Same H H' → H l = none → l ≠ sysModules → (zs.map (·.2)).Perm ks → H' l = some (.lst (zs.map fun z => V.ref z.1)) → (∀ z ∈ zs, H' z.1 = some (.tup [.str z.2.1, z.2.2])) → Q (.ref l) H'
theorem cr_sortSV (hc : X.calm = true) : CallR X (.builtin "sorted") rSortSV := by
  intro pins s σ H xs us Q I r h
  obtain ⟨p, a, ks, rfl, hp, ha, nds, h1k, h64, q⟩ := h
  obtain rfl := Vals.ref1 r
  have view : s.heap.IsItemsView p a := (show ObjOk X.prog X.w H s.heap p (L2.DX.itemsO p a) from I.hok p _ hp).1
  obtain ⟨hz, hs0, vs, kv, hdo⟩ := I.hok a _ ha
  obtain ⟨ep, hat⟩ := hdo.dictAt
  have lk : (kS ks).length = vs.length := Paired.length kv
  have lks : ks.length = vs.length := by rw [← lk]; unfold kS; rw [List.length_map]
  have hh : X.A.handled = none := I.ok.hd hc
  refine Calls.call_function_entry kind_sorted plain_sorted entry_sorted (args_sorted1 _) ?_
  unfold Builtin.«sorted»
  refine wpAny_bind (m := checkCount "sorted" 1 1 _) (wpAny_pure ?_)
  refine wpAny_bind (PySem.W.kdx_collect (A := X.A.in1) (knd := mixKind X.prog X.w) (kvs := vs) (ep := ep) hh view hat (by omega) fun h' tk as hk hl hG => ?_)
  have lak : as.length = ks.length := by omega
  have nd : as.Nodup := List.Pairwise.imp (fun {a b} (h : a < b) => Nat.ne_of_lt h) hG.rise
  refine wpAny_bind (wpAny_newList ?_ (by rw [List.length_map, sizeLine_eq]; omega))
  -- the pairs that were made
  have pr : ∀ (j : Nat) (b : Addr), as[j]? = some b → ∃ (e : Str × V) (t : Tok) (y : Value), ks[j]? = some e ∧ RelV e.2 y ∧ h'.get? b = some { cls := .type "tuple", data := .seq #[Value.str e.1 t, y] } := by
    intro j b hj
    obtain ⟨key, k, x, f1, f2, f3⟩ := hG.pairs j b hj
    obtain ⟨e0, g1, g2, g3⟩ := L2.DX.pget kv f1
    unfold kS at g1
    rw [List.getElem?_map] at g1
    cases hkj : ks[j]? with
    | none => rw [hkj] at g1; exact nomatch (show (none : Option (Key × V)) = some e0 from g1)
    | some e =>
      rw [hkj] at g1
      have ee : ((.inr e.1 : Key), e.2) = e0 := Option.some.inj g1
      rw [← ee] at g2 g3
      have g2' : (.inr e.1 : Key) = k := g2
      have rk : RelV (kV (.inr e.1)) key := by
        rw [g2']
        exact relV_key (show keyIs k key = true from f2)
      obtain ⟨t, rfl⟩ := rk
      exact ⟨e, t, _, rfl, g3, f3⟩
  have hob : (h'.push { cls := .type "list", data := .seq (as.map Value.ref).toArray }).get? h'.objs.size = some (seqObj "list" (as.map Value.ref).toArray 0) := Heap.get?_push_size _ rfl
  have kb : ∀ b o, s.heap.get? b = some o → (h'.push { cls := .type "list", data := .seq (as.map Value.ref).toArray }).get? b = some o := fun b o e => Heap.get?_push_of_some _ (hk b o e)
  have ne0 : ∀ b o, h'.get? b = some o → b ≠ h'.objs.size := fun b o e => Nat.ne_of_lt (Heap.lt_size e)
  have hle : s.heap.objs.size ≤ h'.objs.size := by
    obtain ⟨b, hb⟩ : ∃ b, b ∈ as := by
      cases as with
      | nil => simp at lak; omega
      | cons b _ => exact ⟨b, List.mem_cons_self⟩
    exact Nat.le_of_lt (Nat.lt_trans (hG.above b hb) (hG.there hb))
  generalize hh2 : h'.push { cls := .type "list", data := .seq (as.map Value.ref).toArray } = h2 at hob kb ⊢
  have ka : ∀ b o, h'.get? b = some o → h2.get? b = some o := fun b o e => by rw [← hh2]; exact Heap.get?_push_of_some _ e
  refine wpAny_bind (wpAny_holding (wpAny_call_entry slot_list_sort ⟨_, hob, rfl⟩ entry_list_sort (Srt.list_sort_any (s := { s with heap := h2, toks := tk }) hob (by rw [List.length_map, sizeLine_eq]; omega) (fun h2' => ?_) fun out hp2 => ⟨_, rfl, ?_⟩) (args_list_sort _)))
  · refine sv_sortable (s := { s with heap := h2, toks := tk }) (by omega) (fun v hv => ?_) (fun v v' x y y' hv hv' e1 e2 => ?_) fun o e c => ?_
    · obtain ⟨b, hb, rfl⟩ := List.mem_map.mp hv
      obtain ⟨j, hj⟩ := List.mem_iff_getElem?.mp hb
      obtain ⟨e, t, y, _, _, hg⟩ := pr j b hj
      exact ⟨e.1, y, b, _, t, 0, rfl, ka _ _ hg, rfl, rfl⟩
    · obtain ⟨b, hb, rfl⟩ := List.mem_map.mp hv
      obtain ⟨b', hb', rfl⟩ := List.mem_map.mp hv'
      obtain ⟨j, hj⟩ := List.mem_iff_getElem?.mp hb
      obtain ⟨j', hj'⟩ := List.mem_iff_getElem?.mp hb'
      obtain ⟨e, t, z, k1, _, hg⟩ := pr j b hj
      obtain ⟨e', t', z', k1', _, hg'⟩ := pr j' b' hj'
      have f1 := e1.fst (ka _ _ hg) rfl
      have f2 := e2.fst (ka _ _ hg') rfl
      have ee : j = j' := by
        have g1 : (ks.map (·.1))[j]? = some x := by rw [List.getElem?_map, k1, ← f1]; rfl
        have g2 : (ks.map (·.1))[j']? = some x := by rw [List.getElem?_map, k1', ← f2]; rfl
        exact (List.getElem?_inj (List.getElem?_eq_some_iff.mp g1).1 nds).mp (g1.trans g2.symm)
      subst ee
      rw [hj] at hj'
      cases hj'
      rfl
    · have e' : some o = some (seqObj "list" (as.map Value.ref).toArray 0) := e.symm.trans hob
      cases e'
      exact absurd (Value.type.inj c) (by decide)
  · refine wpAny_pure ⟨_, rfl, ?_⟩
    show EP X pins σ Q (.ref h'.objs.size) { s with heap := sortedHeap h2 h'.objs.size (as.map Value.ref) out.toArray, toks := tk }
    -- the order of the pairs
    obtain ⟨zs, pz, ez⟩ := perm_lift (fun z : Addr × Str × V => Value.ref z.1) hp2 (as.zip ks) (by
      have : (as.zip ks).map (fun z : Addr × Str × V => Value.ref z.1) = ((as.zip ks).map (·.1)).map Value.ref := by rw [List.map_map]; rfl
      rw [this, List.map_fst_zip (by rw [lak]; exact Nat.le_refl _)])
    have idx : ∀ z ∈ zs, ∃ j : Nat, as[j]? = some z.1 ∧ ks[j]? = some z.2 := by
      intro z' hz'
      obtain ⟨j, hj⟩ := List.mem_iff_getElem?.mp (pz.mem_iff.mp hz')
      exact ⟨j, List.getElem?_zip_eq_some.mp hj⟩
    have hperm : (zs.map (·.2)).Perm ks := by
      have e := pz.map (·.2)
      have m2 : (as.zip ks).map (·.2) = ks := List.map_snd_zip (by rw [lak]; exact Nat.le_refl _)
      rw [m2] at e
      exact e
    have kF : ∀ b o, b ≠ h'.objs.size → h2.get? b = some o → (sortedHeap h2 h'.objs.size (as.map Value.ref) out.toArray).get? b = some o := fun b o hb e => (PyProof.Rows.sortedHeap_old hb (Heap.lt_size e)).trans e
    have kS1 : ∀ b o, s.heap.get? b = some o → (sortedHeap h2 h'.objs.size (as.map Value.ref) out.toArray).get? b = some o := fun b o e => kF b o (ne0 _ _ (hk b o e)) (kb b o e)
    obtain ⟨eF, heF⟩ := PyProof.Rows.sortedHeap_at (vs := as.map Value.ref) (out := out.toArray) hob
    have I1 : Inv X pins σ H { s with heap := sortedHeap h2 h'.objs.size (as.map Value.ref) out.toArray, toks := tk } := I.kept (t' := tk) kS1
    have hn0 : H h'.objs.size = none := I.hok.fresh hle
    have hlen : (zs.map fun z => V.ref z.1).length ≤ sizeLine := by
      have e := hperm.length_eq
      rw [List.length_map] at e
      rw [List.length_map, sizeLine_eq]
      omega
    have rv : Vals (zs.map fun z => V.ref z.1) out := by
      rw [← ez]
      exact vals_maps (fun z : Addr × Str × V => V.ref z.1) (fun z => Value.ref z.1) zs fun _ _ => rfl
    have I2 : Inv X pins σ (upd H h'.objs.size (.lst (zs.map fun z => V.ref z.1))) { s with heap := sortedHeap h2 h'.objs.size (as.map Value.ref) out.toArray, toks := tk } :=
      I1.take (h' := sortedHeap h2 h'.objs.size (as.map Value.ref) out.toArray) (t' := tk) (fun b ob _ e => e) (I.fpOk hle hn0) ⟨hlen, out, eF, rv, heF⟩
    obtain ⟨H2, I3, g, qt⟩ := L2.DX.takeT (P := fun b vs => ∃ (j : Nat) (e : Str × V), as[j]? = some b ∧ ks[j]? = some e ∧ vs = [.str e.1, e.2]) I as _ I2 nd fun b hb => by
      obtain ⟨j, hj⟩ := List.mem_iff_getElem?.mp hb
      obtain ⟨e, t, y, he, hy, hg⟩ := pr j b hj
      have hbl : s.heap.objs.size ≤ b := Nat.le_of_lt (hG.above b hb)
      refine ⟨hbl, ?_, [.str e.1, e.2], ⟨j, e, hj, he, rfl⟩, fun H3 => ⟨(by rw [sizeLine_eq]; show 2 ≤ 16777216; omega), [Value.str e.1 t, y], .cons ⟨t, rfl⟩ (.cons hy .nil), ⟨_, kF _ _ (ne0 _ _ hg) (ka _ _ hg), rfl, 0, rfl⟩⟩⟩
      rw [upd_ne (ne0 _ _ hg)]
      exact I.hok.fresh hbl
    have gr : ∀ b o, H b = some o → H2 b = some o := fun b o e => g b o (by rw [upd_ne (ne_of_none e hn0)]; exact e)
    refine ⟨.ref h'.objs.size, H2, I3, rfl, q H2 h'.objs.size zs gr hn0 (Nat.ne_of_gt (Nat.lt_of_lt_of_le I.big hle)) hperm (g _ _ upd_same) fun z' hz' => ?_⟩
    obtain ⟨i, i1, i2⟩ := idx z' hz'
    obtain ⟨vs, ⟨j, e, j1, j2, ev⟩, hH⟩ := qt z'.1 (List.mem_of_getElem? i1)
    have eij : i = j := (List.getElem?_inj (List.getElem?_eq_some_iff.mp i1).1 nd).mp (i1.trans j1.symm)
    subst eij
    have ee : e = z'.2 := Option.some.inj (j2.symm.trans i2)
    rw [ev, ee] at hH
    exact hH
/-- list(d): the keys in a new list -/
def rListN (w : World) : List V → Hp → VK → Prop := fun xs H Q => ∃ (d : Addr) (es : List (NestedKey × V × V)), xs = [.ref d] ∧ DA w H d es ∧ ∀ p, H p = none → p ≠ sysModules → Q (.ref p) (upd H p (.lst (es.map fun e => e.2.1)))
theorem call_listN (hc : X.calm = true) : CallR X (.type "list") (rListN X.w) := by
  intro pins s σ H xs us Q I r h
  obtain ⟨d, es, rfl, da, q⟩ := h
  obtain ⟨u, rfl, ru⟩ := r.one
  cases (show u = Value.ref d from ru)
  obtain ⟨⟨hz, hs, oo, ar, ep, ho, hc2, hd, hp⟩, _⟩ := da.raw I.hok
  have sz : ar.size = es.length := by rw [← Array.length_toList]; exact paired_len hp
  refine PySem.W.kdl_call (KdlSrc.rawDict (es := ar) (ep := ep) hs) (I.ok.hd hc) ⟨oo, ho, hc2, hd⟩ (by omega) fun h' tk acc c hk hS hit => ?_
  have ea : acc.toList = ar.toList.map (·.key) := by
    refine List.ext_getElem? fun j => ?_
    rw [Array.getElem?_toList, List.getElem?_map, Array.getElem?_toList]
    cases h1 : acc[j]? with
    | none =>
      have l1 : acc.size ≤ j := Array.getElem?_eq_none_iff.mp h1
      rw [Array.getElem?_eq_none (by have := hit.1; omega)]
      rfl
    | some v =>
      obtain ⟨hi, e⟩ := hit.2 j v h1
      rw [Array.getElem?_eq_getElem hi, e]
      rfl
  have big := I.big
  refine ⟨.ref s.heap.objs.size, _, I.laid (t' := tk) (o := .lst (es.map fun e => e.2.1)) hk (Nat.le_refl _) ⟨by rw [List.length_map]; omega, acc.toList, c, by rw [ea]; exact ent_keys hp, by rw [Array.toArray_toList]; exact hS⟩, rfl, q _ (I.hok.fresh (Nat.le_refl _)) (Nat.ne_of_gt big)⟩
end
end NkD
set_option maxRecDepth 100000
set_option maxHeartbeats 2000000
/-! what a def has finished making: a part of the heap that stands -/
namespace NkD
open PySem PySem.Spec PyProof.Rows L2 Fm
/-- M: what stood and is data (N), and what is new and finished -/
structure FinU (b p : Addr) (N H0 M H : Hp) : Prop where
  B0 : Bag b p H0
  g : Go b p H0 H
  sub : Same M H
  base : Same N M
  new : ∀ a o, M a = some o → N a = some o ∨ H0 a = none
  nb : M b = none
section
variable {b p : Addr} {N H0 M H H' : Hp} {q : Addr} {o o' : HO}
theorem FinU.init (B : Bag b p H0) (k : Same N H0) (nb : N b = none) : FinU b p N H0 N H0 := ⟨B, Go.refl B, k, Same.refl _, fun _ _ h => .inl h, nb⟩
theorem FinU.same (F : FinU b p N H0 M H) (k : Same H H') : FinU b p N H0 M H' := ⟨F.B0, F.g.same k, F.sub.trans k, F.base, F.new, F.nb⟩
theorem FinU.go (F : FinU b p N H0 M H) (g : Go b p H H') : FinU b p N H0 M H' :=
  ⟨F.B0, F.g.trans g, fun a o h => g.at (fun z => by rw [z, F.nb] at h; cases h) (F.sub _ _ h), F.base, F.new, F.nb⟩
theorem FinU.nil (F : FinU b p N H0 M H) (h : H q = none) : M q = none := Same.none F.sub h
theorem FinU.free (F : FinU b p N H0 M H) (h : H q = none) : H0 q = none := F.g.free h
/-- a new thing, finished at once -/
theorem FinU.add (F : FinU b p N H0 M H) (h : H q = none) : FinU b p N H0 (upd M q o) (upd H q o) := by
  have nq := F.nil h
  have nb : q ≠ b := F.g.B.b_ne h
  refine ⟨F.B0, F.g.new h, fun a u e => ?_, F.base.trans (Same.new nq), fun a u e => ?_, by rw [upd_ne nb.symm]; exact F.nb⟩
  · by_cases c : a = q
    · subst c
      rw [upd_same] at e ⊢
      exact e
    · rw [upd_ne c] at e ⊢
      exact F.sub _ _ e
  · by_cases c : a = q
    · subst c
      exact .inr (F.free h)
    · rw [upd_ne c] at e
      exact F.new a u e
/-- a new thing, not finished yet -/
theorem FinU.open (F : FinU b p N H0 M H) (h : H q = none) : FinU b p N H0 M (upd H q o) := F.same (Same.new h)
/-- it changes -/
theorem FinU.mut (F : FinU b p N H0 M H) (h0 : H0 q = none) (nq : M q = none) : FinU b p N H0 M (upd H q o) :=
  ⟨F.B0, Go.mut F.B0 F.g h0, fun a u e => by rw [upd_ne (fun z => by rw [z, nq] at e; cases e)]; exact F.sub _ _ e, F.base, F.new, F.nb⟩
/-- it is finished -/
theorem FinU.done (F : FinU b p N H0 M H) (h0 : H0 q = none) (nq : M q = none) (h : H q = some o) : FinU b p N H0 (upd M q o) H := by
  have nb : q ≠ b := F.B0.b_ne h0
  refine ⟨F.B0, F.g, fun a u e => ?_, F.base.trans (Same.new nq), fun a u e => ?_, by rw [upd_ne nb.symm]; exact F.nb⟩
  · by_cases c : a = q
    · subst c
      rw [upd_same] at e
      rw [← e]
      exact h
    · rw [upd_ne c] at e
      exact F.sub _ _ e
  · by_cases c : a = q
    · subst c
      exact .inr h0
    · rw [upd_ne c] at e
      exact F.new a u e
theorem FinU.out {w : World} {v : V} {u : U} (F : FinU b p N H0 M H) (h : Uv w M v u) : Uv w (ovl N (newof H0 H)) v u := h.same fun a o e => by
  unfold ovl
  cases z : N a with
  | some x =>
    have := F.base _ _ z
    rw [this] at e
    exact e
  | none =>
    rcases F.new a o e with y | y
    · rw [z] at y; cases y
    · exact newof_of y (F.sub _ _ e)
end
theorem szm {n : Nat} (h : n ≤ 100000) : n ≤ sizeLine := Nat.le_trans h (by decide)
/-! written data -/
section
variable {w : World} {b p : Addr} {N H0 M0 : Hp} {σ : L2.St}
/-- what stands and is no part of M stays none of it -/
def Kp (H M M' : Hp) : Prop := ∀ a o, H a = some o → M a = none → M' a = none
theorem Kp.refl : Kp H0 M0 M0 := fun _ _ _ h => h
theorem Kp.trans {H H1 M M1 M2 : Hp} (h : Kp H M M1) (j : Same H H1) (h2 : Kp H1 M1 M2) : Kp H M M2 := fun a o e z => h2 a o (j _ _ e) (h a o e z)
theorem Kp.new {H M : Hp} {r : Addr} {x : HO} (h : H r = none) : Kp H M (upd M r x) := fun a o e z => by
  rw [upd_ne (fun c => by rw [c, h] at e; cases e)]
  exact z
def EdM (w : World) (b p : Addr) (N H0 M0 : Hp) (σ : L2.St) (te : TE) (u : U) : Prop := ∀ M H (Q : VK), Same M0 M → FinU b p N H0 M H → (∀ v M' H', Kp H M M' → Same M M' → Same H H' → FinU b p N H0 M' H' → Uv w M' v u → Q v H') → te σ H Q
def EdAM (w : World) (b p : Addr) (N H0 M0 : Hp) (σ : L2.St) (ta : TA) (us : List U) : Prop := ∀ M H (Q : List V → Hp → Prop), Same M0 M → FinU b p N H0 M H → (∀ vs M' H', Kp H M M' → Same M M' → Same H H' → FinU b p N H0 M' H' → UvL w M' vs us → Q vs H') → ta σ H Q
theorem edm_int (i : Int) : EdM w b p N H0 M0 σ (tC (.int i)) (.int i) := fun M H Q _ F q => q _ _ _ Kp.refl (Same.refl _) (Same.refl _) F (.int i)
theorem edm_non : EdM w b p N H0 M0 σ (tC .non) .non := fun M H Q _ F q => q _ _ _ Kp.refl (Same.refl _) (Same.refl _) F .non
theorem edm_bl (c : Bool) : EdM w b p N H0 M0 σ (tC (.bl c)) (.bl c) := fun M H Q _ F q => q _ _ _ Kp.refl (Same.refl _) (Same.refl _) F (.bl c)
theorem edm_str (x : Str) (h : PyData.strOk x = true := by decide +kernel) : EdM w b p N H0 M0 σ (tC (.str x)) (.str x) := fun M H Q _ F q => q _ _ _ Kp.refl (Same.refl _) (Same.refl _) F (.str x h)
theorem edm_var {i : Nat} {v : V} {u : U} (h : σ[i]? = some (some v)) (hv : Uv w M0 v u) : EdM w b p N H0 M0 σ (tVar i) u := fun M H Q k F q => ⟨v, h, q _ _ _ Kp.refl (Same.refl _) (Same.refl _) F (hv.same k)⟩
theorem edm_neg (i : Int) : EdM w b p N H0 M0 σ (tUn (rU fun i => .int (-i)) (tC (.int i))) (.int (-i)) := fun M H Q _ F q => ⟨i, rfl, q _ _ _ Kp.refl (Same.refl _) (Same.refl _) F (.int _)⟩
theorem edm_dic : EdM w b p N H0 M0 σ tDNewK (.dic [] []) := fun M H Q _ F q => fun r hr => q _ (upd M r (.dK [])) _ (Kp.new hr) (Same.new (F.nil hr)) (Same.new hr) (F.add hr) (.dic (es := []) (.inl ⟨[], upd_same, rfl, List.nodup_nil⟩) .nil .nil)
theorem edam_nil : EdAM w b p N H0 M0 σ tNil [] := fun M H Q _ F q => q _ _ _ Kp.refl (Same.refl _) (Same.refl _) F .nil
theorem edam_cons {te : TE} {ta : TA} {u : U} {us : List U} (h : EdM w b p N H0 M0 σ te u) (h2 : EdAM w b p N H0 M0 σ ta us) : EdAM w b p N H0 M0 σ (tCons te ta) (u :: us) := fun M H Q k F q =>
  h M H _ k F fun v M1 H1 z1 k1 j1 F1 hv => h2 M1 H1 _ (k.trans k1) F1 fun vs M2 H2 z2 k2 j2 F2 hvs => q _ _ _ (z1.trans j1 z2) (k1.trans k2) (j1.trans j2) F2 (.cons (hv.same k2) hvs)
theorem edm_tup {ta : TA} {us : List U} (h : EdAM w b p N H0 M0 σ ta us) (hl : us.length ≤ 1000) : EdM w b p N H0 M0 σ (tTup ta) (.tup us) := fun M H Q k F q =>
  h M H _ k F fun vs M1 H1 z1 k1 j1 F1 hvs => ⟨szm (by have := hvs.len; omega), fun r hr => q _ (upd M1 r (.tup vs)) _ (z1.trans j1 (Kp.new hr)) (k1.trans (Same.new (F1.nil hr))) (j1.trans (Same.new hr)) (F1.add hr) (.tup upd_same (hvs.same (Same.new (F1.nil hr))))⟩
theorem edm_lst {ta : TA} {us : List U} (h : EdAM w b p N H0 M0 σ ta us) (hl : us.length ≤ 1000) : EdM w b p N H0 M0 σ (tLstB ta) (.lst us) := fun M H Q k F q =>
  h M H _ k F fun vs M1 H1 z1 k1 j1 F1 hvs => ⟨szm (by have := hvs.len; omega), fun r hr nr => q _ (upd M1 r (.lst vs)) _ (z1.trans j1 (Kp.new hr)) (k1.trans (Same.new (F1.nil hr))) (j1.trans (Same.new hr)) (F1.add hr) (.lst nr upd_same (hvs.same (Same.new (F1.nil hr))))⟩
end
/-! dicts of leaves -/
structure Leaf (u : U) : Prop where
  g : good u = true
  n : noD u = true
  w : wt u ≤ 140
  d : dp u ≤ 1
theorem uvl_all {w : World} {M : Hp} {C : U → Prop} {xs : List V} (h : ∀ x ∈ xs, ∃ d, C d ∧ Uv w M x d) : ∃ ds, UvL w M xs ds ∧ ∀ d ∈ ds, C d := by
  induction xs with
  | nil => exact ⟨[], .nil, fun _ h => (List.not_mem_nil h).elim⟩
  | cons x xs ih =>
    obtain ⟨ds, h1, h2⟩ := ih fun y hy => h y (List.mem_cons_of_mem _ hy)
    obtain ⟨d, e1, e2⟩ := h x List.mem_cons_self
    exact ⟨d :: ds, .cons e2 h1, fun y hy => by
      rcases List.mem_cons.mp hy with rfl | hy
      · exact e1
      · exact h2 y hy⟩
/-- a dict of a few leaves -/
structure OutsLike (u : U) : Prop where
  ex : ∃ ks vs, u = .dic ks vs ∧ (∀ k ∈ ks, Leaf k) ∧ (∀ v ∈ vs, Leaf v) ∧ ks.length ≤ 8 ∧ vs.length ≤ 8
theorem goods_of {ds : List U} (h : ∀ d ∈ ds, good d = true) : goods ds = true := by
  induction ds with
  | nil => rfl
  | cons d ds ih =>
    simp only [goods, Bool.and_eq_true]
    exact ⟨h d List.mem_cons_self, ih fun x hx => h x (List.mem_cons_of_mem _ hx)⟩
theorem noDs_of {ds : List U} (h : ∀ d ∈ ds, noD d = true) : noDs ds = true := by
  induction ds with
  | nil => rfl
  | cons d ds ih =>
    simp only [noDs, Bool.and_eq_true]
    exact ⟨h d List.mem_cons_self, ih fun x hx => h x (List.mem_cons_of_mem _ hx)⟩
theorem wts_le {n : Nat} {ds : List U} (h : ∀ d ∈ ds, wt d ≤ n) : wts ds ≤ (n + 1) * ds.length := by
  induction ds with
  | nil => exact Nat.zero_le _
  | cons d ds ih =>
    have a := ih fun x hx => h x (List.mem_cons_of_mem _ hx)
    have b := h d List.mem_cons_self
    simp only [wts, List.length_cons, Nat.mul_succ] at a ⊢
    omega
theorem dps_le {n : Nat} {ds : List U} (h : ∀ d ∈ ds, dp d ≤ n) : dps ds ≤ n := by
  induction ds with
  | nil => exact Nat.zero_le _
  | cons d ds ih =>
    have a := ih fun x hx => h x (List.mem_cons_of_mem _ hx)
    have b := h d List.mem_cons_self
    simp only [dps]
    omega
theorem OutsLike.ok {u : U} (h : OutsLike u) : good u = true ∧ shpO u = true ∧ wt u ≤ 2256 ∧ dp u ≤ 2 := by
  obtain ⟨ks, vs, rfl, hk, hv, lk, lv⟩ := h.ex
  have a := wts_le fun d hd => (hk d hd).w
  have b := wts_le fun d hd => (hv d hd).w
  have c := dps_le fun d hd => (hk d hd).d
  have d := dps_le fun d hd => (hv d hd).d
  refine ⟨?_, ?_, ?_, ?_⟩
  · show (goods ks && goods vs) = true
    rw [goods_of fun d hd => (hk d hd).g, goods_of fun d hd => (hv d hd).g]
    rfl
  · show (noDs ks && noDs vs && decide (ks.length ≤ 1000)) = true
    rw [noDs_of fun d hd => (hk d hd).n, noDs_of fun d hd => (hv d hd).n, decide_eq_true (by omega)]
    rfl
  · show wts ks + wts vs ≤ 2256
    omega
  · show max (dps ks) (dps vs) + 1 ≤ 2
    omega
/-- what may stand in the place of an act -/
structure SmA (u : U) : Prop where
  g : good u = true
  s : shpA u = true
  w : wt u ≤ 4000
  d : dp u ≤ 4
theorem mk_outs {w : World} {M : Hp} {a : Addr} {es : List (NestedKey × V × V)} (D : DO w M a es) (hk : ∀ x ∈ es, ∃ d, Leaf d ∧ Uv w M x.2.1 d) (hv : ∀ x ∈ es, ∃ d, Leaf d ∧ Uv w M x.2.2 d) (hl : es.length ≤ 8) : ∃ u, OutsLike u ∧ Uv w M (.ref a) u := by
  obtain ⟨ks, k1, k2⟩ := uvl_all (C := Leaf) (xs := es.map fun e => e.2.1) fun x hx => by
    obtain ⟨e, he, rfl⟩ := List.mem_map.mp hx
    exact hk e he
  obtain ⟨vs, v1, v2⟩ := uvl_all (C := Leaf) (xs := es.map fun e => e.2.2) fun x hx => by
    obtain ⟨e, he, rfl⟩ := List.mem_map.mp hx
    exact hv e he
  have a1 := k1.len
  have a2 := v1.len
  rw [List.length_map] at a1 a2
  exact ⟨.dic ks vs, ⟨ks, vs, rfl, k2, v2, by omega, by omega⟩, .dic D k1 v1⟩
theorem putK_mem {kvs : List (Key × V)} {k : Key} {v : V} {x : Key × V} (h : x ∈ putK kvs k v) : (x.1 = k ∨ x.1 ∈ kvs.map (·.1)) ∧ (x.2 = v ∨ x.2 ∈ kvs.map (·.2)) := by
  unfold putK at h
  split at h
  · obtain ⟨y, hy, rfl⟩ := List.mem_map.mp h
    split
    · rename_i e
      exact ⟨.inl e, .inl rfl⟩
    · exact ⟨.inr (List.mem_map.mpr ⟨y, hy, rfl⟩), .inr (List.mem_map.mpr ⟨y, hy, rfl⟩)⟩
  · rcases List.mem_append.mp h with h | h
    · exact ⟨.inr (List.mem_map.mpr ⟨x, h, rfl⟩), .inr (List.mem_map.mpr ⟨x, h, rfl⟩)⟩
    · rw [List.mem_singleton.mp h]
      exact ⟨.inl rfl, .inl rfl⟩
theorem putK_nd {kvs : List (Key × V)} {k : Key} {v : V} (h : (kvs.map (·.1)).Nodup) : ((putK kvs k v).map (·.1)).Nodup := by
  unfold putK
  split
  · have e : (kvs.map fun kv => if kv.1 = k then (kv.1, v) else kv).map (·.1) = kvs.map (·.1) := by
      rw [List.map_map]
      refine List.map_congr_left fun x _ => ?_
      show (if x.1 = k then (x.1, v) else x).1 = x.1
      split <;> rfl
    rw [e]
    exact h
  · rename_i c
    rw [List.map_append, List.nodup_append]
    refine ⟨h, by simp, fun x hx y hy e => c ?_⟩
    rw [List.map_cons, List.map_nil, List.mem_singleton] at hy
    obtain ⟨z, hz, ez⟩ := List.mem_map.mp hx
    exact List.any_eq_true.mpr ⟨z, hz, decide_eq_true (by rw [ez, e, hy])⟩
theorem mergeK_nd : ∀ {more kvs : List (Key × V)}, (kvs.map (·.1)).Nodup → ((mergeK kvs more).map (·.1)).Nodup
  | [], _, h => h
  | _ :: more, _, h => mergeK_nd (more := more) (putK_nd h)
theorem mergeK_mem : ∀ {more kvs : List (Key × V)} {x : Key × V}, x ∈ mergeK kvs more → (x.1 ∈ more.map (·.1) ∨ x.1 ∈ kvs.map (·.1)) ∧ (x.2 ∈ more.map (·.2) ∨ x.2 ∈ kvs.map (·.2))
  | [], _, x, h => ⟨.inr (List.mem_map.mpr ⟨x, h, rfl⟩), .inr (List.mem_map.mpr ⟨x, h, rfl⟩)⟩
  | q :: more, kvs, x, h => by
    obtain ⟨a, c⟩ := mergeK_mem (more := more) (kvs := putK kvs q.1 q.2) h
    refine ⟨?_, ?_⟩
    · rcases a with a | a
      · exact .inl (by rw [List.map_cons]; exact List.mem_cons_of_mem _ a)
      · obtain ⟨y, hy, e⟩ := List.mem_map.mp a
        rcases (putK_mem hy).1 with z | z
        · exact .inl (by rw [List.map_cons, ← e, z]; exact List.mem_cons_self)
        · exact .inr (by rw [← e]; exact z)
    · rcases c with c | c
      · exact .inl (by rw [List.map_cons]; exact List.mem_cons_of_mem _ c)
      · obtain ⟨y, hy, e⟩ := List.mem_map.mp c
        rcases (putK_mem hy).2 with z | z
        · exact .inl (by rw [List.map_cons, ← e, z]; exact List.mem_cons_self)
        · exact .inr (by rw [← e]; exact z)
theorem leaf_int {i : Int} (h : i.natAbs < 10 ^ 12) : Leaf (.int i) := ⟨by simp only [good]; rw [decide_eq_true h]; rfl, rfl, Nat.le_refl _, Nat.zero_le _⟩
theorem leaf_far : Leaf (.int (10 ^ 30)) := ⟨by decide +kernel, rfl, Nat.le_refl _, Nat.zero_le _⟩
theorem leaf_str {x : Str} (h : PyData.strOk x = true) (l : x.length ≤ 100) : Leaf (.str x) := ⟨by simp only [good]; rw [h, decide_eq_true l]; rfl, rfl, by show 100 ≤ 140; decide, Nat.zero_le _⟩
theorem leaf_non : Leaf .non := ⟨rfl, rfl, Nat.zero_le _, Nat.zero_le _⟩
theorem leaf_bl (b : Bool) : Leaf (.bl b) := ⟨rfl, rfl, Nat.zero_le _, Nat.zero_le _⟩
theorem leaf_nil : Leaf (.lst []) := ⟨rfl, rfl, Nat.zero_le _, Nat.le_refl _⟩
theorem leaf_one {x : Str} (h : PyData.strOk x = true) (l : x.length ≤ 100) : Leaf (.tup [.str x]) := by
  have := leaf_str h l
  refine ⟨?_, rfl, by show 100 + 1 + 0 ≤ 140; decide, ?_⟩
  · show (good (.str x) && true) = true
    rw [this.g]
    rfl
  · show max 0 0 + 1 ≤ 1
    decide
theorem dk_outs {w : World} {M : Hp} {a : Addr} {kvs : List (Key × V)} (h : M a = some (.dK kvs)) (nd : (kvs.map (·.1)).Nodup) (hk : ∀ x ∈ kvs, ∃ d, Leaf d ∧ Uv w M (kV x.1) d) (hv : ∀ x ∈ kvs, ∃ d, Leaf d ∧ Uv w M x.2 d) (hl : kvs.length ≤ 8) : ∃ u, OutsLike u ∧ Uv w M (.ref a) u := by
  refine mk_outs (es := lift kvs) (.inl ⟨kvs, h, rfl, nd⟩) (fun x hx => ?_) (fun x hx => ?_) (by rw [lift_len]; exact hl)
  · obtain ⟨q, hq, rfl⟩ := List.mem_map.mp hx
    exact hk q hq
  · obtain ⟨q, hq, rfl⟩ := List.mem_map.mp hx
    exact hv q hq
theorem outs_keys {w : World} {M : Hp} {l : Outs} (ok : OutsOk l) : ∀ x ∈ kO l, (∃ d, Leaf d ∧ Uv w M (kV x.1) d) ∧ ∃ d, Leaf d ∧ Uv w M x.2 d := fun x hx => by
  unfold kO at hx
  obtain ⟨q, hq, rfl⟩ := List.mem_map.mp hx
  obtain ⟨_, o1, o2, o3, o4⟩ := ok.ok q hq
  exact ⟨⟨.str q.1, leaf_str o1 (by omega), .str _ o1⟩, .int q.2, leaf_int (by omega), .int _⟩
theorem kO_nd {l : Outs} (h : Nds l) : ((kO l).map (·.1)).Nodup := by
  have e : (kO l).map (·.1) = (l.map (·.1)).map Sum.inr := by unfold kO; rw [List.map_map, List.map_map]; rfl
  rw [e]
  unfold Nds List.Nodup at *
  rw [List.pairwise_map]
  exact h.imp fun n z => n (Sum.inr.inj z)
theorem sma_tup {n o : U} (h1 : Leaf n) (h2 : OutsLike o) : SmA (.tup [n, o]) := by
  obtain ⟨a, b, c, d⟩ := h2.ok
  have := h1.w
  have := h1.d
  refine ⟨?_, b, ?_, ?_⟩
  · show (good n && (good o && true)) = true
    rw [h1.g, a]
    rfl
  · show wt n + 1 + (wt o + 1 + 0) ≤ 4000
    omega
  · show max (dp n) (max (dp o) 0) + 1 ≤ 4
    omega
end NkD
set_option maxRecDepth 100000
set_option maxHeartbeats 2000000
/-! a key of any such kind put to a dict of outcomes -/
namespace NkD
open PySem PySem.Spec PyProof.Rows L2 Fm
theorem atI_ok {xs : List V} {i : Int} {n : Nat} (h0 : 0 ≤ i) (h1 : i < n) (hn : n = xs.length) : ∃ v, atI xs i = some v ∧ v ∈ xs := by
  obtain ⟨k, rfl⟩ := Int.eq_ofNat_of_zero_le h0
  have lt : k < xs.length := by omega
  exact ⟨xs[k], atI_nat (List.getElem?_eq_getElem lt), List.getElem_mem lt⟩
/-- the keys that the law puts -/
inductive OddKey (M : Hp) : V → Prop
  | str (x : Str) : PyData.strOk x = true → x.length ≤ 100 → OddKey M (.str x)
  | int (i : Int) : i.natAbs < 10 ^ 12 → OddKey M (.int i)
  | non : OddKey M .non
  | bl (b : Bool) : OddKey M (.bl b)
  | tup (t : Addr) (x : Str) : M t = some (.tup [.str x]) → PyData.strOk x = true → x.length ≤ 100 → OddKey M (.ref t)
theorem OddKey.same {M M' : Hp} {y : V} (h : OddKey M y) (k : Same M M') : OddKey M' y := by
  cases h with
  | str x a b => exact .str x a b
  | int i a => exact .int i a
  | non => exact .non
  | bl b => exact .bl b
  | tup t x e a b => exact .tup t x (k _ _ e) a b
theorem OddKey.leaf {w : World} {M : Hp} {y : V} (h : OddKey M y) : ∃ d, Leaf d ∧ Uv w M y d := by
  cases h with
  | str x a b => exact ⟨_, leaf_str a b, .str x a⟩
  | int i a => exact ⟨_, leaf_int a, .int i⟩
  | non => exact ⟨_, leaf_non, .non⟩
  | bl b => exact ⟨_, leaf_bl b, .bl b⟩
  | tup t x e a b => exact ⟨_, leaf_one a b, .tup e (.cons (.str x a) .nil)⟩
/-- a key that is a text or a whole number, or one of its own kind -/
theorem OddKey.kind {M : Hp} {y : V} (h : OddKey M y) : (∃ k : Key, y = kV k) ∨ ((∀ x, y ≠ .str x) ∧ ∃ k, ∀ M', Same M M' → NK M' k y) := by
  cases h with
  | str x a b => exact .inl ⟨.inr x, rfl⟩
  | int i a => exact .inl ⟨.inl i, rfl⟩
  | non => exact .inr ⟨fun _ => nofun, .none, fun _ _ => .non⟩
  | bl b => exact .inr ⟨fun _ => nofun, _, fun _ _ => .bl b⟩
  | tup t x e a b => exact .inr ⟨fun _ => nofun, .tup [.text x], fun _ k => .tup t x (k _ _ e)⟩
theorem lift_text {kvs : List (Key × V)} (hk : ∀ q ∈ kvs, ∃ x, q.1 = .inr x) : ∀ e ∈ lift kvs, ∃ x, e.1 = .text x := fun e he => by
  obtain ⟨q, hq, rfl⟩ := List.mem_map.mp he
  obtain ⟨x, hx⟩ := hk q hq
  exact ⟨x, by rw [hx]; rfl⟩
section
variable {w : World} {D : Ends} {σ : L2.St} {H M1 : Hp} {td ty tv : TE} {md : Addr} {y : V}
/-- d[y] = v, d a dict of texts: d as it is then -/
theorem put_texts {v : V} {kvs : List (Key × V)} (h1 : ∀ Q : VK, Q v H → tv σ H Q) (h2 : ∀ Q : VK, Q (.ref md) H → td σ H Q) (h3 : ∀ Q : VK, Q y H → ty σ H Q) (hmd : H md = some (.dK kvs)) (nd : (kvs.map (·.1)).Nodup) (hk : ∀ q ∈ kvs, ∃ x, q.1 = .inr x) (hl : kvs.length ≤ 100)
    (hM : Same M1 H) (hy : OddKey M1 y)
    (rest : ∀ (om : HO) (es : List (NestedKey × V × V)), Mut (some om) → (∀ M, Same M1 M → M md = some om → DO w M md es) → (∀ e ∈ es, (e.2.1 = y ∨ ∃ q ∈ kvs, e.2.1 = kV q.1) ∧ (e.2.2 = v ∨ ∃ q ∈ kvs, e.2.2 = q.2)) → es.length ≤ kvs.length + 1 → (∀ q ∈ kvs, ∃ e ∈ es, e.2.1 = kV q.1) → D.nx σ (upd H md om)) :
    sDPut td ty tv D σ H ∨ sNPut w td ty tv D σ H := by
  rcases hy.kind with ⟨k, rfl⟩ | ⟨ns, k, hk2⟩
  · refine .inl (h1 _ (h2 _ (h3 _ ⟨md, _, rfl, DPut.k hmd (szl (by omega)), rest _ (lift (putK kvs k v)) True.intro (fun M _ e => .inl ⟨_, e, rfl, putK_nd nd⟩) (fun e he => ?_) ?_ (fun q hq => ?_)⟩)))
    · obtain ⟨q, hq, rfl⟩ := List.mem_map.mp he
      obtain ⟨a, b⟩ := putK_mem hq
      refine ⟨?_, ?_⟩
      · rcases a with a | a
        · exact .inl (congrArg kV a)
        · obtain ⟨z, hz, ez⟩ := List.mem_map.mp a
          exact .inr ⟨z, hz, by show kV q.1 = _; rw [← ez]⟩
      · rcases b with b | b
        · exact .inl b
        · obtain ⟨z, hz, ez⟩ := List.mem_map.mp b
          exact .inr ⟨z, hz, ez.symm⟩
    · rw [lift_len]
      exact length_putK kvs k v
    · obtain ⟨z, hz, ez⟩ : ∃ z ∈ putK kvs k v, z.1 = q.1 := by
        unfold putK
        split
        · refine ⟨_, List.mem_map.mpr ⟨q, hq, rfl⟩, ?_⟩
          split <;> rfl
        · exact ⟨q, List.mem_append_left _ hq, rfl⟩
      exact ⟨_, List.mem_map.mpr ⟨z, hz, rfl⟩, congrArg kV ez⟩
  · have no : k ∉ (lift kvs).map (·.1) := fun m => by
      obtain ⟨e, he, ek⟩ := List.mem_map.mp m
      obtain ⟨x, hx⟩ := lift_text hk e he
      have hk3 := hk2 M1 (Same.refl _)
      rw [← ek, hx] at hk3
      cases hk3 with
      | str _ => exact ns x rfl
    refine .inr (h1 _ (h2 _ (h3 _ ⟨md, lift kvs, k, rfl, .inl ⟨kvs, hmd, rfl⟩, by rw [lift_len]; omega, hk2 _ hM, fun j ky v0 he => absurd (List.mem_map.mpr ⟨_, List.mem_of_getElem? he, rfl⟩) no, fun _ => ?_⟩)))
    refine rest _ (lift kvs ++ [(k, y, v)]) True.intro (fun M kM e => .inr ⟨e, ⟨fun x hx => ?_, ?_⟩, (k, y, v), List.mem_append_right _ List.mem_cons_self, ns⟩) (fun e he => ?_) (by rw [List.length_append, lift_len]; exact Nat.le_refl _) (fun q hq => ⟨_, List.mem_append_left _ (List.mem_map.mpr ⟨q, hq, rfl⟩), rfl⟩)
    · rcases List.mem_append.mp hx with hx | hx
      · exact lift_nk x hx
      · rw [List.mem_singleton.mp hx]
        exact hk2 _ kM
    · rw [List.map_append, List.nodup_append]
      refine ⟨lift_nd nd, by simp, fun a ha c hc e => no ?_⟩
      rw [List.map_cons, List.map_nil, List.mem_singleton] at hc
      have e2 : a = k := e.trans hc
      rw [← e2]
      exact ha
    · rcases List.mem_append.mp he with he | he
      · obtain ⟨q, hq, rfl⟩ := List.mem_map.mp he
        exact ⟨.inr ⟨q, hq, rfl⟩, .inr ⟨q, hq, rfl⟩⟩
      · rw [List.mem_singleton.mp he]
        exact ⟨.inl rfl, .inl rfl⟩
end
end NkD
namespace NkD
open PySem PySem.Spec PyProof.Rows L2 Fm
theorem atI_uv {w : World} {M : Hp} {vs : List V} {us : List U} {i : Int} {n : Nat} (h : UvL w M vs us) (h0 : 0 ≤ i) (h1 : i < n) (hn : n = us.length) : ∃ v d, atI vs i = some v ∧ d ∈ us ∧ Uv w M v d := by
  obtain ⟨k, rfl⟩ := Int.eq_ofNat_of_zero_le h0
  have lt : k < us.length := by omega
  obtain ⟨v, h2, h3⟩ := h.getD (List.getElem?_eq_getElem lt)
  exact ⟨v, us[k], atI_nat h2, List.getElem_mem lt, h3⟩
theorem edm_pow {w : World} {b p : Addr} {N H0 M0 : Hp} {σ : L2.St} (i j : Int) (c : CPow i j) : EdM w b p N H0 M0 σ (tOp (rI CPow fun i j => .int (i ^ j.toNat)) (tC (.int i)) (tC (.int j))) (.int (i ^ j.toNat)) := fun M H Q _ F q =>
  ⟨i, j, rfl, rfl, c, q _ _ _ Kp.refl (Same.refl _) (Same.refl _) F (.int _)⟩
end NkD
namespace NkD
open PySem PySem.Spec PyProof.Rows L2 Fm
section
variable {w : World} {b p : Addr} {N H0 M0 M H : Hp} {σ : L2.St} {ta : TA} {us : List U} {Q : VK}
/-- a written list of such data -/
theorem lst_use (h : EdAM w b p N H0 M0 σ ta us) (k : Same M0 M) (F : FinU b p N H0 M H) (hl : us.length ≤ 1000)
    (q : ∀ vs M' H' l, Kp H M M' → Same M M' → Same H H' → FinU b p N H0 M' H' → UvL w M' vs us → H' l = none → Q (.ref l) (upd H' l (.lst vs))) : tLst ta σ H Q :=
  h M H _ k F fun vs M1 H1 z1 k1 j1 F1 hvs => ⟨szm (by have := hvs.len; omega), fun l hl2 => q vs M1 H1 l z1 k1 j1 F1 hvs hl2⟩
end
end NkD
namespace NkD
open PySem PySem.Spec PyProof.Rows L2 Fm
/-! a goal brought to the form of what is read next -/
section
variable {σ : L2.St} {H : Hp} {D : Ends} {Q : VK}
theorem gname_of {i : Nat} {v : V} {R : L2.St → Hp → Prop} (h : R (σ.set i (some v)) H) : gName i v σ H R := h
theorem seq_of {t u : TS} (h : t { D with nx := u D } σ H) : tSeq t u D σ H := h
theorem asg_of {te : TE} {g : TG} (h : te σ H fun x H1 => g x σ H1 D.nx) : tAsg te g D σ H := h
theorem dput_of {td ty tv : TE} (h : tv σ H fun v H1 => td σ H1 fun x H2 => ty σ H2 fun y H3 => ∃ a H4, x = .ref a ∧ DPut H3 a y v H4 ∧ D.nx σ H4) : sDPut td ty tv D σ H := h
theorem op_of {r : R2} {t1 t2 : TE} (h : t1 σ H fun x H1 => t2 σ H1 fun y H2 => r x y H2 Q) : tOp r t1 t2 σ H Q := h
theorem var_of {i : Nat} {v : V} (e : σ[i]? = some (some v)) (h : Q v H) : tVar i σ H Q := ⟨v, e, h⟩
end
end NkD
set_option maxRecDepth 100000
set_option maxHeartbeats 2000000
/-! the lists that the law picks an odd act from -/
namespace NkD
open PySem PySem.Spec PyProof.Rows L2 Fm
section
variable {w : World} {b p : Addr} {N H0 M0 : Hp} {σ : L2.St}
/-- list(outcomes) -/
theorem edm_listD {i : Nat} {a : Addr} {l : Outs} (e : σ[i]? = some (some (.ref a))) (ha : M0 a = some (.dK (kO l))) (ok : OutsOk l) : EdM w b p N H0 M0 σ (tCB (rListN w) (tCons (tVar i) tNil)) (.lst (l.map fun q => U.str q.1)) := fun M H Q k F q => by
  refine ⟨_, e, a, lift (kO l), rfl, .inl ⟨kO l, .inl (F.sub _ _ (k _ _ ha)), rfl⟩, fun r hr nr => ?_⟩
  refine q _ (upd M r (.lst ((lift (kO l)).map fun e => e.2.1))) _ (Kp.new hr) (Same.new (F.nil hr)) (Same.new hr) (F.add hr) (.lst nr upd_same ?_)
  unfold lift kO
  rw [List.map_map, List.map_map]
  refine UvL.mk (by rw [List.length_map, List.length_map]) fun j v d h1 h2 => ?_
  rw [List.getElem?_map] at h1 h2
  obtain ⟨q1, e1, rfl⟩ := Option.map_eq_some_iff.mp h1
  obtain ⟨q2, e2, rfl⟩ := Option.map_eq_some_iff.mp h2
  rw [e1] at e2
  cases e2
  exact .str _ (ok.ok _ (List.mem_of_getElem? e1)).2.1
end
theorem sma_t {ds : List U} (g : goods ds = true) (w : wts ds ≤ 4000) (d : dps ds ≤ 3) (s : shpA (.tup ds) = true) : SmA (.tup ds) := ⟨g, s, w, by show dps ds + 1 ≤ 4; omega⟩
theorem sma_l {ds : List U} (g : goods ds = true) (w : wts ds ≤ 4000) (d : dps ds ≤ 3) : SmA (.lst ds) := ⟨g, rfl, w, by show dps ds + 1 ≤ 4; omega⟩
theorem shp_noD {u : U} (h : noD u = true) : shpO u = true := by
  cases u <;> first | rfl | exact nomatch h
theorem sma_leaf {u : U} (h : Leaf u) (s : shpA u = true) : SmA u := ⟨h.g, s, Nat.le_trans h.w (by decide), Nat.le_trans h.d (by decide)⟩
theorem sma2 {x y : U} (g1 : good x = true) (g2 : good y = true) (w1 : wt x + wt y ≤ 3900) (d1 : dp x ≤ 2) (d2 : dp y ≤ 2) (s : shpO y = true) : SmA (.tup [x, y]) := by
  refine sma_t ?_ ?_ ?_ s
  · simp only [goods, g1, g2]; rfl
  · simp only [wts]; omega
  · simp only [dps]; omega
theorem sma2l {x y : U} (g1 : good x = true) (g2 : good y = true) (w1 : wt x + wt y ≤ 3900) (d1 : dp x ≤ 2) (d2 : dp y ≤ 2) : SmA (.lst [x, y]) := by
  refine sma_l ?_ ?_ ?_
  · simp only [goods, g1, g2]; rfl
  · simp only [wts]; omega
  · simp only [dps]; omega
theorem sma3 {x y z : U} (g1 : good x = true) (g2 : good y = true) (g3 : good z = true) (w1 : wt x + wt y + wt z ≤ 3900) (d1 : dp x ≤ 2) (d2 : dp y ≤ 2) (d3 : dp z ≤ 2) : SmA (.tup [x, y, z]) := by
  refine sma_t ?_ ?_ ?_ rfl
  · simp only [goods, g1, g2, g3]; rfl
  · simp only [wts]; omega
  · simp only [dps]; omega
theorem sma1 {x : U} (g1 : good x = true) (w1 : wt x ≤ 3900) (d1 : dp x ≤ 2) : SmA (.tup [x]) := by
  refine sma_t ?_ ?_ ?_ rfl
  · simp only [goods, g1]; rfl
  · simp only [wts]; omega
  · simp only [dps]; omega
/-- the names of a few outcomes as a list -/
theorem names_lst {l : Outs} (ok : OutsOk l) : good (.lst (l.map fun q => U.str q.1)) = true ∧ wt (.lst (l.map fun q => U.str q.1)) ≤ 900 ∧ dp (.lst (l.map fun q => U.str q.1)) ≤ 2 ∧ shpO (.lst (l.map fun q => U.str q.1)) = true := by
  have lf : ∀ d ∈ l.map (fun q => U.str q.1), Leaf d := fun d hd => by
    obtain ⟨q, hq, rfl⟩ := List.mem_map.mp hd
    obtain ⟨_, o1, o2, _⟩ := ok.ok q hq
    exact leaf_str o1 (by omega)
  have a := wts_le fun d hd => (lf d hd).w
  have c := dps_le fun d hd => (lf d hd).d
  have hi := ok.hi
  rw [List.length_map] at a
  exact ⟨goods_of fun d hd => (lf d hd).g, by show wts _ ≤ 900; omega, by show dps _ + 1 ≤ 2; omega, rfl⟩
end NkD
set_option maxRecDepth 100000
set_option maxHeartbeats 4000000
namespace K21
open PySem L2 Fm NkD
section
variable {P : Program} {w : World} {K : PySem.W.Frag} {mg : Str → Option Value} {base : Heap} (T : Txt K mg)
def spOdd (w : World) : Sp := fun vs H Q _ => ∃ (b p : Addr) (N : Hp) (v : V) (u : U), vs = [.ref b, v] ∧ Bag b p H ∧ Same N H ∧ N b = none ∧ Uv w N v u ∧ actU u = true ∧ good u = true ∧
  ∀ v' H' u', Go b p H H' → SmA u' → Uv w (ovl N (newof H H')) v' u' → Q v' H'
theorem ok_law_odd_act : FnOk P w K mg base CX0 2 T.a__law_odd_act T.d__law_odd_act ["_law_bag_here", "_law_act"] (spOdd w) := by
  have G__law_take := ok_law_take (P := P) (w := w) (base := base) T
  refine T.F__law_odd_act.ok sc__law_odd_act ?_ (fun cdv A outer s H vs Q E hr h => ?_)
  · rintro vs H Q E ⟨b, p, N, v, u, rfl, _⟩
    rfl
  obtain ⟨b, p, N, v, u, rfl, B, kN, nb, hv, ha, hg, q⟩ := h
  refine ⟨_, 
    (pss_cons (ps_asg (pv 1) (pg_tup rfl (pgs_cons (pg_name (i := 2) sc__law_odd_act.nd rfl (Or.inl rfl)) (pgs_cons (pg_name (i := 3) sc__law_odd_act.nd rfl (Or.inl rfl)) pgs_nil))))
    (pss_cons (ps_asg (pe_tup (pa_cons (pe_ix ix_list (pe_callB (call_sortedD rfl) (by rfl) T.m_sorted (by decide +kernel) (pa_cons (pv 3) pa_nil)) pe_int (fun _ _ => rfl)) (pa_cons (pe_callTy call_dictD (by rfl) T.m_dict (by decide +kernel) (pa_cons (pv 3) pa_nil)) pa_nil))) (pg_tup rfl (pgs_cons (pg_name (i := 4) sc__law_odd_act.nd rfl (Or.inr rfl)) (pgs_cons (pg_name (i := 5) sc__law_odd_act.nd rfl (Or.inl rfl)) pgs_nil))))
    (pss_cons (ps_set (i := 6) sc__law_odd_act.nd rfl (Or.inl rfl) (pe_lst (pa_cons (pe_op op_add_str (pv 4) pe_str) (pa_cons (pe_op op_add_str (pv 4) pe_str) (pa_cons pe_str (pa_cons pe_str (pa_cons pe_str (pa_cons (pe_op op_add_str (pv 4) pe_str) (pa_cons (pe_op op_add_str (pe_slice sl_str (pv 4) po_none (po_some pe_int)) pe_str) (pa_cons (pe_op op_add_str (pe_slice sl_str (pv 4) po_none (po_some pe_int)) pe_str) (pa_cons pe_str (pa_cons pe_int (pa_cons pe_non (pa_cons pe_bl pa_nil))))))))))))))
    (pss_cons (ps_set (i := 7) sc__law_odd_act.nd rfl (Or.inl rfl) (pe_ix ix_list (pe_op op_cat (pv 6) (pe_lst (pa_cons (pe_tup (pa_cons (pv 4) pa_nil)) pa_nil))) (pe_call G__law_take (hr.mono (by omega)) (by rfl) T.f__law_take T.F__law_take.kp T.b__law_take .nil pass0 (pa_cons (pv 0) (pa_cons pe_int pa_nil))) (fun _ _ => rfl)))
    (pss_cons (ps_alt (ps_dput (hu1 hr) (pv 5) (pv 7) pe_int rfl) (ps_nput (hu10 hr) (pv 5) (pv 7) pe_int rfl))
    (pss_cons (ps_set (i := 8) sc__law_odd_act.nd rfl (Or.inl rfl) (pe_callTy call_dictD (by rfl) T.m_dict (by decide +kernel) (pa_cons (pv 3) pa_nil)))
    (pss_cons (ps_dput (hu1 hr) (pv 8) (pv 4) (pe_ix ix_list (pe_lst (pa_cons pe_int (pa_cons (pe_un un_neg pe_int) (pa_cons pe_bl (pa_cons pe_bl (pa_cons pe_str (pa_cons pe_non (pa_cons (pe_lstB pa_nil) (pa_cons pe_int (pa_cons (pe_op op_pow pe_int pe_int) pa_nil)))))))))) (pe_call G__law_take (hr.mono (by omega)) (by rfl) T.f__law_take T.F__law_take.kp T.b__law_take .nil pass0 (pa_cons (pv 0) (pa_cons pe_int pa_nil))) (fun _ _ => rfl)) rfl)
    (pss_cons (ps_set (i := 9) sc__law_odd_act.nd rfl (Or.inl rfl) (pe_callTy (call_dictP rfl) (by rfl) T.m_dict (by decide +kernel) (pa_cons (pe_lc (own := [("_law_k", 10)]) (g := gName 10) (tt := tYes) rfl sc__law_odd_act.nd (pi_range1 (by rfl) T.m_range (pa_cons (pe_op op_add pe_int (pe_call G__law_take (hr.mono (by omega)) (by rfl) T.f__law_take T.F__law_take.kp T.b__law_take .nil pass0 (pa_cons (pv 0) (pa_cons pe_int pa_nil)))) pa_nil)) (blkOk_by (N := N__law_odd_act) (sc := defScope s__law_odd_act) (by decide +kernel)) (fun _ _ _ _ _ => pg_name (i := 10) sc__law_odd_act.nd rfl (Or.inl rfl)) (fun _ _ _ _ _ => pts_nil) (fun _ _ _ _ _ => pe_tup (pa_cons (pe_op op_add_str (pe_slice sl_str (pv 4) po_none (po_some pe_int)) (pe_ix ix_str pe_str (pv 10) (fun _ _ => rfl))) (pa_cons pe_int pa_nil)))) pa_nil)))
    (pss_cons (ps_set (i := 6) sc__law_odd_act.nd rfl (Or.inl rfl) (pe_lst (pa_cons (pe_tup (pa_cons pe_int (pa_cons (pv 3) pa_nil))) (pa_cons (pe_tup (pa_cons (pe_un un_neg pe_int) (pa_cons (pv 3) pa_nil))) (pa_cons (pe_tup (pa_cons pe_bl (pa_cons (pv 3) pa_nil))) (pa_cons (pe_tup (pa_cons pe_str (pa_cons (pv 3) pa_nil))) (pa_cons (pe_tup (pa_cons pe_non (pa_cons (pv 3) pa_nil))) (pa_cons (pe_lstB (pa_cons (pv 2) (pa_cons (pv 3) pa_nil))) pa_nil))))))))
    (pss_cons (ps_set (i := 6) sc__law_odd_act.nd rfl (Or.inl rfl) (pe_op op_cat (pv 6) (pe_lst (pa_cons (pe_tup (pa_cons (pv 2) (pa_cons (pv 3) (pa_cons pe_int pa_nil)))) (pa_cons (pe_tup (pa_cons (pv 2) pa_nil)) (pa_cons (pe_tup (pa_cons (pv 2) (pa_cons pe_dnewK pa_nil))) (pa_cons (pe_tup (pa_cons (pv 2) (pa_cons (pe_callTy (call_listN rfl) (by rfl) T.m_list (by decide +kernel) (pa_cons (pv 3) pa_nil)) pa_nil))) (pa_cons pe_non pa_nil))))))))
    (pss_cons (ps_set (i := 6) sc__law_odd_act.nd rfl (Or.inl rfl) (pe_op op_cat (pv 6) (pe_lst (pa_cons pe_int (pa_cons pe_dnewK (pa_cons (pe_tup pa_nil) pa_nil))))))
    (pss_cons (ps_set (i := 6) sc__law_odd_act.nd rfl (Or.inl rfl) (pe_op op_cat (pv 6) (pe_lst (pa_cons (pe_tup (pa_cons (pv 2) (pa_cons (pv 5) pa_nil))) (pa_cons (pe_tup (pa_cons (pv 2) (pa_cons (pv 8) pa_nil))) (pa_cons (pe_tup (pa_cons (pv 2) (pa_cons (pv 9) pa_nil))) (pa_cons (pe_tup (pa_cons (pv 3) (pa_cons (pv 2) pa_nil))) pa_nil)))))))
    (pss_cons (ps_expr (pe_bm PySem.F.plainAttrs_list PySem.F.slot_list_append PySem.F.type_list_append mt_append (pv 6) (pa_cons (pe_tup (pa_cons (pv 2) (pa_cons pe_non pa_nil))) pa_nil)))
    (pss_one (ps_ret (pe_ix ix_list (pv 6) (pe_call G__law_take (hr.mono (by omega)) (by rfl) T.f__law_take T.F__law_take.kp T.b__law_take .nil pass0 (pa_cons (pv 0) (pa_cons pe_int pa_nil))) (fun _ _ => rfl))))))))))))))))), ?_⟩
  have F0 := FinU.init B kN nb
  -- the act
  obtain ⟨n, o, rfl⟩ : ∃ n o, u = .tup [n, o] := by
    match u, ha with
    | .tup [n, o], _ => exact ⟨n, o, rfl⟩
  have ha' : (belowU 3 n && outsU o) = true := ha
  rw [Bool.and_eq_true] at ha'
  obtain ⟨i, rfl, i0, i3⟩ := below_int ha'.1
  cases hv with
  | @tup t xs _ ht hx =>
  cases hx with
  | cons b1 hx =>
  cases hx with
  | cons b2 hx =>
  cases hx
  cases b1
  obtain ⟨a, rfl, a1, a2⟩ := outs_at b2 ha'.2
  have ha1 : N a = some (.dK (kO (toOuts o))) := a1
  generalize toOuts o = l at a1 a2 ha1
  refine ⟨_, rfl, t, _, rfl, SqT.of (kN _ _ ht), rfl, _, _, rfl, _, _, rfl, rfl, ?_⟩
  -- the least outcome, a copy of the outcomes
  have l1 := a2.lo
  have l6 := a2.hi
  have ek : (kO l).map (·.1) = (l.map (·.1)).map Sum.inr := by unfold kO; rw [List.map_map, List.map_map]; rfl
  refine ⟨_, rfl, a, kO l, l.map (·.1), rfl, .of (kN _ _ ha1), ek, (by rw [List.length_map]; omega), fun ys pl perm srt hpl => ?_⟩
  obtain ⟨one, ys', rfl⟩ : ∃ one ys', ys = one :: ys' := by
    cases ys with
    | nil =>
      have := perm.length_eq
      rw [List.length_map] at this
      simp at this
      omega
    | cons y ys' => exact ⟨y, ys', rfl⟩
  obtain ⟨⟨one', j1⟩, hm1, e1⟩ := List.mem_map.mp (perm.mem_iff.mp List.mem_cons_self)
  have e1' : one' = one := e1
  subst e1'
  obtain ⟨o1, o2, o3, _⟩ := a2.ok _ hm1
  dsimp only at o1 o2 o3
  have o9 := out_len o1
  have F1 := F0.open (o := .lst ((one' :: ys').map V.str)) hpl
  refine ⟨pl, _, 0, _, rfl, rfl, SqL.of upd_same, atI_nat (j := 0) rfl, _, rfl, a, kO l, rfl, .of ((kN.trans (Same.new hpl)) _ _ ha1), fun md hmd => ?_⟩
  have F2 := F1.open (o := .dK (kO l)) hmd
  refine ⟨(by show 2 ≤ sizeLine; decide), fun tp htp => ?_⟩
  have F3 := F2.open (o := .tup [.str one', .ref md]) htp
  have zmd := F1.free hmd
  have hmd1 : (upd (upd (upd H pl (.lst ((one' :: ys').map V.str))) md (.dK (kO l))) tp (.tup [.str one', .ref md])) md = some (.dK (kO l)) := (Same.new htp) _ _ upd_same
  have htp1 : (upd (upd (upd H pl (.lst ((one' :: ys').map V.str))) md (.dK (kO l))) tp (.tup [.str one', .ref md])) tp = some (.tup [.str one', .ref md]) := upd_same
  generalize upd (upd (upd H pl (.lst ((one' :: ys').map V.str))) md (.dK (kO l))) tp (.tup [.str one', .ref md]) = H1 at F3 hmd1 htp1 ⊢
  clear F2 F1
  refine ⟨tp, _, rfl, SqT.of htp1, rfl, _, _, rfl, _, _, rfl, rfl, ?_⟩
  -- the keys
  have lo : one'.length ≤ 9 := o9
  refine ⟨_, rfl, _, _, rfl, rfl, sz (by show one'.length + 1 ≤ _; omega), _, rfl, _, _, rfl, rfl, sz (by show one'.length + 2 ≤ _; omega), _, rfl, _, _, rfl, rfl, sz (by show one'.length + 1 ≤ _; omega), _, rfl, _, rfl, one', rfl, sz (by omega), _, _, rfl, rfl, sz (by show _ + 1 ≤ _; have := cut_len_le (x := one') (lo := none) (hi := some 6); omega), _, rfl, _, rfl, one', rfl, sz (by omega), _, _, rfl, rfl, sz (by show _ + 1 ≤ _; have := cut_len_le (x := one') (lo := none) (hi := some 6); omega), (by show 12 ≤ sizeLine; decide), fun kp hkp => ?_⟩
  obtain ⟨k12, hk12⟩ : ∃ k12 : List V, k12 = [.str (one' ++ "-"), .str (one' ++ "--"), .str "-", .str "", .str "A", .str (one' ++ "!"), .str (cutS one' none (some 6) ++ "0"), .str (cutS one' none (some 6) ++ "_"), .str "ninesigns", .int 5, .non, .bl true] := ⟨_, rfl⟩
  have l12 : k12.length = 12 := by rw [hk12]; rfl
  rw [← hk12]
  have F4 := F3.open (o := .lst k12) hkp
  refine ⟨_, rfl, _, rfl, (by show 1 ≤ sizeLine; decide), fun ot hot => ⟨(by show 1 ≤ sizeLine; decide), fun ol hol => ?_⟩⟩
  have F5 := F4.add (o := .tup [.str one']) hot
  have F6 := F5.open (o := .lst [.ref ot]) hol
  have G1 := F5.open (o := .lst [.ref ot]) hol
  have hkp2 : (upd (upd (upd H1 kp (.lst k12)) ot (.tup [.str one'])) ol (.lst [.ref ot])) kp = some (.lst k12) := ((Same.new hot).trans (Same.new hol)) _ _ upd_same
  have hol2 : (upd (upd (upd H1 kp (.lst k12)) ot (.tup [.str one'])) ol (.lst [.ref ot])) ol = some (.lst [.ref ot]) := upd_same
  have hmd2 := ((Same.new (o := .lst k12) hkp).trans ((Same.new (o := .tup [.str one']) hot).trans (Same.new (o := .lst [.ref ot]) hol))) _ _ hmd1
  have nmo : md ≠ ot := fun z => by
    have y := (Same.new (o := .lst k12) hkp) _ _ hmd1
    rw [z, hot] at y
    cases y
  clear F6 F4
  generalize upd (upd (upd H1 kp (.lst k12)) ot (.tup [.str one'])) ol (.lst [.ref ot]) = H2 at G1 hkp2 hol2 hmd2 ⊢
  have M1o : (upd N ot (.tup [.str one'])) ot = some (.tup [.str one']) := upd_same
  have nN : N md = none := by
    cases z : N md with
    | none => rfl
    | some x =>
      rw [kN _ _ z] at zmd
      cases zmd
  have nM : (upd N ot (.tup [.str one'])) md = none := by rw [upd_ne nmo]; exact nN
  generalize upd N ot (.tup [.str one']) = M1 at G1 M1o nM ⊢
  clear F5
  refine ⟨kp, ol, k12, [.ref ot], rfl, rfl, hkp2, hol2, sz (by rw [l12]; show 12 + 1 ≤ _; decide), fun cp hcp => ?_⟩
  have G2 := G1.open (o := .lst (k12 ++ [.ref ot])) hcp
  refine ⟨_, rfl, b, p, 13, rfl, G2.g.B, by decide, by decide, fun kx H3 x0 x1 g3 => ?_⟩
  have G3 := G2.go g3
  have hcp3 := g3.at (G1.g.B.b_ne hcp) (upd_same (H := H2) (o := .lst (k12 ++ [.ref ot])))
  have nmb : md ≠ b := B.b_ne zmd
  have hmd3 := g3.at nmb ((Same.new hcp) _ _ hmd2)
  obtain ⟨y, hy1, hy2⟩ := atI_ok (xs := k12 ++ [.ref ot]) (n := 13) x0 x1 (by rw [List.length_append, l12]; rfl)
  have c6 := cut_len_le (x := one') (lo := none) (hi := some 6)
  have okc : PyData.strOk (cutS one' none (some 6)) = true := ok_cut o2
  have hyO : OddKey M1 y := by
    rw [hk12] at hy2
    simp only [List.cons_append, List.nil_append, List.mem_cons, List.not_mem_nil, or_false] at hy2
    rcases hy2 with rfl | rfl | rfl | rfl | rfl | rfl | rfl | rfl | rfl | rfl | rfl | rfl | rfl
    · exact .str _ (ok_app o2 (by decide +kernel)) (by rw [len_app]; show one'.length + 1 ≤ 100; omega)
    · exact .str _ (ok_app o2 (by decide +kernel)) (by rw [len_app]; show one'.length + 2 ≤ 100; omega)
    · exact .str _ (by decide +kernel) (by decide)
    · exact .str _ (by decide +kernel) (by decide)
    · exact .str _ (by decide +kernel) (by decide)
    · exact .str _ (ok_app o2 (by decide +kernel)) (by rw [len_app]; show one'.length + 1 ≤ 100; omega)
    · exact .str _ (ok_app okc (by decide +kernel)) (by rw [len_app]; show _ + 1 ≤ 100; omega)
    · exact .str _ (ok_app okc (by decide +kernel)) (by rw [len_app]; show _ + 1 ≤ 100; omega)
    · exact .str _ (by decide +kernel) (by decide)
    · exact .int 5 (by decide)
    · exact .non
    · exact .bl true
    · exact .tup ot one' M1o o2 (by omega)
  refine ⟨cp, _, kx, y, rfl, rfl, SqL.of hcp3, hy1, ?_⟩
  refine put_texts (w := w) (M1 := M1) (kvs := kO l) (v := .int 1) (md := md) (y := y) (fun Q h => h) (fun Q h => ⟨_, rfl, h⟩) (fun Q h => ⟨_, rfl, h⟩) hmd3 (kO_nd a2.nd) (fun q hq => by
    unfold kO at hq
    obtain ⟨z, _, rfl⟩ := List.mem_map.mp hq
    exact ⟨_, rfl⟩) (by unfold kO; rw [List.length_map]; omega) G3.sub hyO (fun om es _ hD hE hL _ => ?_)
  have G4 := (G3.mut (o := om) zmd nM).done zmd nM upd_same
  have lk6 : (kO l).length ≤ 6 := by unfold kO; rw [List.length_map]; exact l6
  obtain ⟨um, um1, um2⟩ := mk_outs (hD (upd M1 md om) (Same.new nM) upd_same) (fun e he => by
    rcases (hE e he).1 with z | ⟨q, hq, z⟩
    · rw [z]
      exact (hyO.same (Same.new nM)).leaf
    · rw [z]
      exact (outs_keys a2 q hq).1) (fun e he => by
    rcases (hE e he).2 with z | ⟨q, hq, z⟩
    · rw [z]
      exact ⟨_, leaf_int (i := 1) (by decide), .int 1⟩
    · rw [z]
      exact (outs_keys a2 q hq).2) (by omega)
  generalize upd M1 md om = M2 at G4 um2
  clear hD hE G3 G2 G1 hyO hy2 M1o nM
  generalize upd H3 md om = H4 at G4 ⊢
  -- a copy with another number
  have ha4 := (G4.base.trans G4.sub) _ _ ha1
  refine ⟨_, rfl, a, kO l, rfl, .of ha4, fun gd hgd => ?_⟩
  have G5 := G4.open (o := .dK (kO l)) hgd
  have zgd := G4.free hgd
  have ngM := G4.nil hgd
  have hgd5 : (upd H4 gd (.dK (kO l))) gd = some (.dK (kO l)) := upd_same
  generalize upd H4 gd (.dK (kO l)) = H5 at G5 hgd5 ⊢
  refine gname_of ?_
  with_reducible_and_instances skip
  dsimp only
  refine seq_of (t := sDPut _ _ _) ?_
  refine dput_of ?_
  refine op_of ?_
  refine lst_use (w := w) (edam_cons (edm_int 3) (edam_cons (edm_neg 1) (edam_cons (edm_bl true) (edam_cons (edm_bl false) (edam_cons (edm_str "1") (edam_cons edm_non (edam_cons (edm_lst edam_nil (by decide)) (edam_cons (edm_int 2) (edam_cons (edm_pow 10 30 ⟨by decide, by decide, by decide⟩) edam_nil))))))))) (Same.refl M2) G5 (by decide) (fun vs M3 H6 lp zM3 kM3 kH6 G6 hvs hlp => ?_)
  have hgd6 := kH6 _ _ hgd5
  have ngM3 : M3 gd = none := zM3 _ _ hgd5 ngM
  have lvs : vs.length = 9 := hvs.len
  refine ⟨_, rfl, b, p, 9, rfl, (G6.open (o := .lst vs) hlp).g.B, by decide, by decide, fun kx2 H7 x2 x3 g7 => ?_⟩
  have G7 := (G6.open (o := .lst vs) hlp).go g7
  have hlp7 := g7.at (G6.g.B.b_ne hlp) (upd_same (H := H6) (o := .lst vs))
  have hgd7 := g7.at (B.b_ne zgd) ((Same.new hlp) _ _ hgd6)
  obtain ⟨gv, gu, gv1, gv2, gv3⟩ := atI_uv hvs x2 x3 rfl
  have gL : Leaf gu := by
    simp only [List.mem_cons, List.not_mem_nil, or_false] at gv2
    rcases gv2 with rfl | rfl | rfl | rfl | rfl | rfl | rfl | rfl | rfl
    · exact leaf_int (by decide)
    · exact leaf_int (by decide)
    · exact leaf_bl _
    · exact leaf_bl _
    · exact leaf_str (by decide +kernel) (by decide)
    · exact leaf_non
    · exact leaf_nil
    · exact leaf_int (by decide)
    · exact leaf_far
  refine ⟨lp, vs, kx2, gv, rfl, rfl, SqL.of hlp7, gv1, _, rfl, _, rfl, gd, _, rfl, DPut.k (k := .inr one') hgd7 (szl (by omega)), ?_⟩
  have G8 := (G7.mut (o := .dK (putK (kO l) (.inr one') gv)) zgd ngM3).done zgd ngM3 upd_same
  obtain ⟨ug, ug1, ug2⟩ := dk_outs (w := w) (M := upd M3 gd (.dK (putK (kO l) (.inr one') gv))) (a := gd) upd_same (putK_nd (kO_nd a2.nd)) (fun x hx => by
    rcases (putK_mem hx).1 with z | z
    · rw [z]
      exact ⟨_, leaf_str o2 (by omega), .str _ o2⟩
    · obtain ⟨y, hy, ez⟩ := List.mem_map.mp z
      rw [← ez]
      exact (outs_keys a2 y hy).1) (fun x hx => by
    rcases (putK_mem hx).2 with z | z
    · rw [z]
      exact ⟨gu, gL, gv3.same (Same.new ngM3)⟩
    · obtain ⟨y, hy, ez⟩ := List.mem_map.mp z
      rw [← ez]
      exact (outs_keys a2 y hy).2) (by have := length_putK (kO l) (.inr one') gv; omega)
  have um3 := um2.same (kM3.trans (Same.new (o := .dK (putK (kO l) (.inr one') gv)) ngM3))
  generalize upd M3 gd (.dK (putK (kO l) (.inr one') gv)) = M4 at G8 ug2 um3
  clear G7 G6 G5 G4 hvs gv3 hlp7 hgd7 hgd6 hgd5 ngM3 ngM um2
  generalize upd H7 gd (.dK (putK (kO l) (.inr one') gv)) = H8 at G8 ⊢
  -- many outcomes
  dsimp only
  refine seq_of (t := tAsg _ _) ?_
  refine asg_of ?_
  refine ⟨_, rfl, b, p, 3, rfl, G8.g.B, by decide, by decide, fun n0 H9 x4 x5 g9 => ⟨5, n0, rfl, rfl, 5 + n0, rfl, by omega, by omega, fun Dl hDl => ?_⟩⟩
  have G9 := G8.go g9
  refine lc_it walk_range (fun i H' => Same H9 H' ∧ ∃ ps kvs, H' Dl = some (.lst (ps.map V.ref)) ∧ ps.length = i ∧ Paired (fun p kv => H' p = some (.tup [kV kv.1, kv.2])) ps kvs ∧ ∀ kv ∈ kvs, ∃ x, kv = ((.inr x, .int 0) : Key × V) ∧ PyData.strOk x = true ∧ x.length ≤ 100) ⟨Same.new hDl, [], [], upd_same, rfl, .nil, fun _ h => (List.not_mem_nil h).elim⟩ (fun _ _ _ _ => True.intro) ?_ (fun H10 h => ?_)
  · rintro j y3 H3' H4' hj ⟨k3, ps, kvs, hl3, len3, P3, a3⟩ ⟨rfl, rfl⟩
    obtain ⟨c, c1, c2⟩ := sign_at (x := Str.ofString "abcdefg") (i := (0 + (j : Nat) : Int)) (by omega) (by show _ < (7 : Int); omega)
    have okc1 := c2 (by decide +kernel)
    refine ⟨rfl, ?_⟩
    dsimp only [tYes]
    rw [if_pos rfl]
    refine ⟨_, rfl, _, rfl, one', rfl, sz (by omega), _, rfl, _, _, c, rfl, rfl, (by show 7 ≤ sizeLine; decide), c1, cutS one' none (some 6), ⟨#[c]⟩, rfl, rfl, sz (by show _ + 1 ≤ _; omega), ?_⟩
    refine ⟨(by show 2 ≤ sizeLine; decide), fun q hq => ?_⟩
    have nq : q ≠ Dl := fun z => by rw [z, hl3] at hq; cases hq
    refine ⟨ps.map V.ref, by rw [upd_ne nq.symm]; exact hl3, by rw [List.length_map]; exact szl (by omega), ?_⟩
    refine ⟨Same.upd (k3.trans (Same.new hq)) hDl, ps ++ [q], kvs ++ [(.inr (cutS one' none (some 6) ++ ⟨#[c]⟩), .int 0)], ?_, by rw [List.length_append, len3]; rfl, ?_, ?_⟩
    · rw [List.map_append]
      exact upd_same
    · refine Paired.snoc (L2.Paired.mapP P3 fun p1 kv e => ?_) ?_
      · have n1 : p1 ≠ Dl := fun z => by rw [z, hl3] at e; cases e
        have n2 : p1 ≠ q := fun z => by rw [z, hq] at e; cases e
        rw [upd_ne n1, upd_ne n2]
        exact e
      · rw [upd_ne nq]
        exact upd_same
    · intro kv hkv
      rcases List.mem_append.mp hkv with hkv | hkv
      · exact a3 kv hkv
      · rw [List.mem_singleton.mp hkv]
        exact ⟨_, rfl, ok_app okc okc1, by rw [len_app]; show _ + 1 ≤ 100; omega⟩
  obtain ⟨k10, ps, kvs, hl10, len10, P10, a10⟩ := h
  have G10 := G9.same k10
  have lk10 := P10.length
  refine ⟨Dl, ps, kvs, rfl, SqL.of hl10, L2.Paired.mapP P10 fun p1 kv e => SqT.of e, fun mk hmk => ?_⟩
  have G11 := G10.add (o := .dK (mergeK [] kvs)) hmk
  obtain ⟨uk, uk1, uk2⟩ := dk_outs (w := w) (M := upd M4 mk (.dK (mergeK [] kvs))) (a := mk) upd_same (mergeK_nd List.nodup_nil) (fun x hx => by
    rcases (mergeK_mem hx).1 with z | z
    · obtain ⟨y, hy, ez⟩ := List.mem_map.mp z
      obtain ⟨xx, rfl, z1, z2⟩ := a10 y hy
      rw [← ez]
      exact ⟨_, leaf_str z1 z2, .str _ z1⟩
    · exact (List.not_mem_nil z).elim) (fun x hx => by
    rcases (mergeK_mem hx).2 with z | z
    · obtain ⟨y, hy, ez⟩ := List.mem_map.mp z
      obtain ⟨xx, rfl, z1, z2⟩ := a10 y hy
      rw [← ez]
      exact ⟨_, leaf_int (i := 0) (by decide), .int 0⟩
    · exact (List.not_mem_nil z).elim) (by have := length_mergeK kvs []; rw [List.length_nil] at this; omega)
  have k45 := Same.new (o := .dK (mergeK [] kvs)) (G10.nil hmk)
  have ug3 := ug2.same k45
  have um4 := um3.same k45
  generalize upd M4 mk (.dK (mergeK [] kvs)) = M5 at G11 uk2 ug3 um4
  generalize upd H10 mk (.dK (mergeK [] kvs)) = H11 at G11 ⊢
  clear G10 G9 G8 um3 ug2 P10 k45
  -- the things that may be given
  obtain ⟨uo, uo1, uo2⟩ := dk_outs (w := w) (M := M5) (a := a) (G11.base _ _ ha1) (kO_nd a2.nd) (fun x hx => (outs_keys a2 x hx).1) (fun x hx => (outs_keys a2 x hx).2) (by omega)
  have ha5 := G11.base _ _ ha1
  have lio := leaf_int (i := i) (by omega)
  refine gname_of ?_
  dsimp only
  refine seq_of (t := tAsg _ _) ?_
  refine asg_of ?_
  have eo : Uv w M5 (.ref a) uo := uo2
  refine lst_use (w := w) (edam_cons (edm_tup (edam_cons (edm_int 3) (edam_cons (edm_var rfl uo2) edam_nil)) (Nat.le_of_ble_eq_true rfl)) (edam_cons (edm_tup (edam_cons (edm_neg 1) (edam_cons (edm_var rfl uo2) edam_nil)) (Nat.le_of_ble_eq_true rfl)) (edam_cons (edm_tup (edam_cons (edm_bl true) (edam_cons (edm_var rfl uo2) edam_nil)) (Nat.le_of_ble_eq_true rfl)) (edam_cons (edm_tup (edam_cons (edm_str "1") (edam_cons (edm_var rfl uo2) edam_nil)) (Nat.le_of_ble_eq_true rfl)) (edam_cons (edm_tup (edam_cons edm_non (edam_cons (edm_var rfl uo2) edam_nil)) (Nat.le_of_ble_eq_true rfl)) (edam_cons (edm_lst (edam_cons (edm_var rfl (.int i)) (edam_cons (edm_var rfl uo2) edam_nil)) (Nat.le_of_ble_eq_true rfl)) edam_nil)))))) (Same.refl M5) G11 (Nat.le_of_ble_eq_true rfl) (fun w1 M6 H12 p1 zM6 kM6 kH12 G12 hw1 hp1 => ?_)
  have lw1 : w1.length = 6 := hw1.len
  have uo6 := uo2.same kM6
  have ug6 := ug3.same kM6
  have um6 := um4.same kM6
  have uk6 := uk2.same kM6
  have ha6 := kM6 _ _ ha5
  have G13 := G12.open (o := .lst w1) hp1
  have hp1' : (upd H12 p1 (.lst w1)) p1 = some (.lst w1) := upd_same
  generalize upd H12 p1 (.lst w1) = H13 at G13 hp1' ⊢
  clear G12 G11 uo2 ug3 um4 uk2 ha5 eo
  refine gname_of ?_
  dsimp only
  refine seq_of (t := tAsg _ _) ?_
  refine asg_of ?_
  refine op_of ?_
  refine var_of rfl ?_
  refine lst_use (w := w) (edam_cons (edm_tup (edam_cons (edm_var rfl (.int i)) (edam_cons (edm_var rfl uo6) (edam_cons (edm_int 0) edam_nil))) (Nat.le_of_ble_eq_true rfl)) (edam_cons (edm_tup (edam_cons (edm_var rfl (.int i)) edam_nil) (Nat.le_of_ble_eq_true rfl)) (edam_cons (edm_tup (edam_cons (edm_var rfl (.int i)) (edam_cons edm_dic edam_nil)) (Nat.le_of_ble_eq_true rfl)) (edam_cons (edm_tup (edam_cons (edm_var rfl (.int i)) (edam_cons (edm_listD rfl ha6 a2) edam_nil)) (Nat.le_of_ble_eq_true rfl)) (edam_cons edm_non edam_nil))))) (Same.refl M6) G13 (Nat.le_of_ble_eq_true rfl) (fun w2 M7 H14 p2 zM7 kM7 kH14 G14 hw2 hp2 => ?_)
  have lw2 : w2.length = 5 := hw2.len
  have uo7 := uo6.same kM7
  have ug7 := ug6.same kM7
  have um7 := um6.same kM7
  have uk7 := uk6.same kM7
  have hw1 := hw1.same kM7
  have G15 := G14.open (o := .lst w2) hp2
  have hp1' := (kH14.trans (Same.new (o := .lst w2) hp2)) _ _ hp1'
  refine ⟨p1, p2, w1, w2, rfl, rfl, hp1', upd_same, sz (by omega), fun p3 hp3 => ?_⟩
  have G16 := G15.open (o := .lst (w1 ++ w2)) hp3
  have hw3 := hw1.app hw2
  have lw3 : (w1 ++ w2).length = 11 := by rw [List.length_append, lw1, lw2]
  generalize w1 ++ w2 = w3 at G16 hw3 lw3 ⊢
  have hp3' : (upd (upd H14 p2 (.lst w2)) p3 (.lst w3)) p3 = some (.lst w3) := upd_same
  generalize upd (upd H14 p2 (.lst w2)) p3 (.lst w3) = H16 at G16 hp3' ⊢
  clear G15 G14 G13 uo6 ug6 um6 uk6 ha6 hp1' hw1 hw2
  refine gname_of ?_
  dsimp only
  refine seq_of (t := tAsg _ _) ?_
  refine asg_of ?_
  refine op_of ?_
  refine var_of rfl ?_
  refine lst_use (w := w) (edam_cons (edm_int 5) (edam_cons edm_dic (edam_cons (edm_tup edam_nil (Nat.le_of_ble_eq_true rfl)) edam_nil))) (Same.refl M7) G16 (Nat.le_of_ble_eq_true rfl) (fun w4 M8 H17 p4 zM8 kM8 kH17 G17 hw4 hp4 => ?_)
  have lw4 : w4.length = 3 := hw4.len
  have uo8 := uo7.same kM8
  have ug8 := ug7.same kM8
  have um8 := um7.same kM8
  have uk8 := uk7.same kM8
  have hw3 := hw3.same kM8
  have G18 := G17.open (o := .lst w4) hp4
  have hp3' := (kH17.trans (Same.new (o := .lst w4) hp4)) _ _ hp3'
  refine ⟨p3, p4, w3, w4, rfl, rfl, hp3', upd_same, sz (by omega), fun p5 hp5 => ?_⟩
  have G19 := G18.open (o := .lst (w3 ++ w4)) hp5
  have hw5 := hw3.app hw4
  have lw5 : (w3 ++ w4).length = 14 := by rw [List.length_append, lw3, lw4]
  generalize w3 ++ w4 = w5 at G19 hw5 lw5 ⊢
  have hp5' : (upd (upd H17 p4 (.lst w4)) p5 (.lst w5)) p5 = some (.lst w5) := upd_same
  generalize upd (upd H17 p4 (.lst w4)) p5 (.lst w5) = H19 at G19 hp5' ⊢
  clear G18 G17 G16 uo7 ug7 um7 uk7 hp3' hw3 hw4
  refine gname_of ?_
  dsimp only
  refine seq_of (t := tAsg _ _) ?_
  refine asg_of ?_
  refine op_of ?_
  refine var_of rfl ?_
  refine lst_use (w := w) (edam_cons (edm_tup (edam_cons (edm_var rfl (.int i)) (edam_cons (edm_var rfl um8) edam_nil)) (Nat.le_of_ble_eq_true rfl)) (edam_cons (edm_tup (edam_cons (edm_var rfl (.int i)) (edam_cons (edm_var rfl ug8) edam_nil)) (Nat.le_of_ble_eq_true rfl)) (edam_cons (edm_tup (edam_cons (edm_var rfl (.int i)) (edam_cons (edm_var rfl uk8) edam_nil)) (Nat.le_of_ble_eq_true rfl)) (edam_cons (edm_tup (edam_cons (edm_var rfl uo8) (edam_cons (edm_var rfl (.int i)) edam_nil)) (Nat.le_of_ble_eq_true rfl)) edam_nil)))) (Same.refl M8) G19 (Nat.le_of_ble_eq_true rfl) (fun w6 M9 H20 p6 zM9 kM9 kH20 G20 hw6 hp6 => ?_)
  have lw6 : w6.length = 4 := hw6.len
  have hw5 := hw5.same kM9
  have G21 := G20.open (o := .lst w6) hp6
  have hp5' := (kH20.trans (Same.new (o := .lst w6) hp6)) _ _ hp5'
  refine ⟨p5, p6, w5, w6, rfl, rfl, hp5', upd_same, sz (by omega), fun p7 hp7 => ?_⟩
  have zp7 := G21.free hp7
  have np7 := G21.nil hp7
  have G22 := G21.open (o := .lst (w5 ++ w6)) hp7
  have hw7 := hw5.app hw6
  have lw7 : (w5 ++ w6).length = 18 := by rw [List.length_append, lw5, lw6]
  generalize w5 ++ w6 = w7 at G22 hw7 lw7 ⊢
  have hp7' : (upd (upd H20 p6 (.lst w6)) p7 (.lst w7)) p7 = some (.lst w7) := upd_same
  generalize upd (upd H20 p6 (.lst w6)) p7 (.lst w7) = H22 at G22 hp7' ⊢
  clear G21 G20 G19 hp5' hw5 hw6
  refine gname_of ?_
  dsimp only
  refine seq_of (t := tDrop _) ?_
  refine ⟨_, rfl, .inl ⟨rfl, _, SqL.of hp7'⟩, ?_⟩
  refine edam_cons (w := w) (edm_tup (edam_cons (edm_var rfl (.int i)) (edam_cons edm_non edam_nil)) (Nat.le_of_ble_eq_true rfl)) edam_nil M9 H22 _ (Same.refl M9) G22 (fun vs9 M10 H23 zM10 kM10 kH23 G23 hvs9 => ?_)
  cases hvs9 with
  | cons hv9 hn9 =>
  rename_i v9 r9
  cases hn9
  have nM := zM10 _ _ hp7' np7
  have hp7' := kH23 _ _ hp7'
  have hw7 := hw7.same kM10
  refine ⟨p7, w7, v9, rfl, rfl, hp7', szl (by omega), ?_⟩
  have G24 := G23.mut (o := .lst (w7 ++ [v9])) zp7 nM
  have nb7 : p7 ≠ b := B.b_ne zp7
  have hw8 := hw7.app (.cons hv9 .nil)
  have at8 : (upd H23 p7 (.lst (w7 ++ [v9]))) p7 = some (.lst (w7 ++ [v9])) := upd_same
  generalize upd H23 p7 (.lst (w7 ++ [v9])) = H24 at G24 at8 ⊢
  generalize w7 ++ [v9] = w8 at hw8 at8
  refine ⟨_, rfl, _, rfl, b, p, 19, rfl, G24.g.B, by decide, by decide, fun kz H25 x6 x7 gz => ?_⟩
  have at9 := gz.at nb7 at8
  obtain ⟨v', u', z1, z2, z3⟩ := atI_uv hw8 x6 x7 rfl
  refine ⟨p7, w8, kz, v', rfl, rfl, SqL.of at9, z1, q v' H25 u' (G24.g.trans gz) ?_ ((G24.go gz).out z3)⟩
  obtain ⟨og, os, ow, od⟩ := uo1.ok
  obtain ⟨mg1, ms, mw, md1⟩ := um1.ok
  obtain ⟨gg, gs, gw, gd1⟩ := ug1.ok
  obtain ⟨kg, ks, kw, kd⟩ := uk1.ok
  obtain ⟨ng, nw, nd, ns⟩ := names_lst a2
  have lio := leaf_int (i := i) (by omega)
  have iw := lio.w
  have id1 := lio.d
  simp only [List.cons_append, List.nil_append, List.mem_cons, List.not_mem_nil, or_false] at z2
  rcases z2 with rfl | rfl | rfl | rfl | rfl | rfl | rfl | rfl | rfl | rfl | rfl | rfl | rfl | rfl | rfl | rfl | rfl | rfl | rfl
  · exact sma_tup (leaf_int (by decide)) uo1
  · exact sma_tup (leaf_int (by decide)) uo1
  · exact sma_tup (leaf_bl _) uo1
  · exact sma_tup (leaf_str (by decide +kernel) (by decide)) uo1
  · exact sma_tup leaf_non uo1
  · exact sma2l lio.g og (by omega) (by omega) od
  · exact sma3 lio.g og (leaf_int (i := 0) (by decide)).g (by show wt _ + wt _ + 140 ≤ 3900; omega) (by omega) od (by show 0 ≤ 2; decide)
  · exact sma1 lio.g (by omega) (by omega)
  · exact sma2 lio.g rfl (by show wt _ + 0 ≤ 3900; omega) (by omega) (by show 1 ≤ 2; decide) rfl
  · exact sma2 lio.g ng (by omega) (by omega) nd ns
  · exact sma_leaf leaf_non rfl
  · exact sma_leaf (leaf_int (by decide)) rfl
  · exact ⟨rfl, rfl, by show 0 ≤ 4000; decide, by show 1 ≤ 4; decide⟩
  · exact ⟨rfl, rfl, by show 0 ≤ 4000; decide, by show 1 ≤ 4; decide⟩
  · exact sma_tup lio um1
  · exact sma_tup lio ug1
  · exact sma_tup lio uk1
  · exact sma2 og lio.g (by omega) od (by omega) rfl
  · exact sma2 lio.g rfl (by show wt _ + 0 ≤ 3900; omega) (by omega) (by show 0 ≤ 2; decide) rfl
end
end K21
set_option maxRecDepth 100000
set_option maxHeartbeats 2000000
/-! a dict of such data while it is still being written -/
namespace NkD
open PySem PySem.Spec PyProof.Rows L2 Fm
/-- what the dict is, once all that it holds stands -/
def Cl (w : World) (M : Hp) (d : Addr) (om : HO) (es : List (NestedKey × V × V)) : Prop := ∀ M', Same M M' → M' d = some om → DO w M' d es
theorem Cl.same {w : World} {M M1 : Hp} {d : Addr} {om : HO} {es : List (NestedKey × V × V)} (h : Cl w M d om es) (k : Same M M1) : Cl w M1 d om es := fun M' k' e => h M' (k.trans k') e
theorem NK.unlock {H : Hp} {d : Addr} {om : HO} {k : NestedKey} {y : V} (h : NK (upd H d om) k y) (n : ∀ xs, om ≠ .tup xs) : NK H k y := by
  cases h with
  | non => exact .non
  | bl b => exact .bl b
  | int i => exact .int i
  | str x => exact .str x
  | tup t x e =>
    refine .tup t x ?_
    by_cases c : t = d
    · rw [c, upd_same] at e
      exact absurd (Option.some.inj e) (n _)
    · rw [upd_ne c] at e
      exact e
/-- two keys alike are one key but for True and 1 -/
theorem NK.text {H : Hp} {k : NestedKey} {x : Str} (h : NK H k (.str x)) : k = .text x := by
  cases h
  rfl
theorem NK.odd {H : Hp} {k : NestedKey} {y : V} (h : NK H k y) (n : ∀ x, y ≠ .str x) {H' : Hp} {z : V} (h' : NK H' k z) : ∀ x, z ≠ .str x := fun x e => by
  subst e
  have e2 := h'.text
  subst e2
  cases h with
  | str => exact n _ rfl
/-- the dict at d while it is being written: M stands, d is no part of it yet -/
structure Op (w : World) (b p : Addr) (N H0 : Hp) (n : Nat) (M H : Hp) (d : Addr) (om : HO) (es : List (NestedKey × V × V)) : Prop where
  F : FinU b p N H0 M H
  z0 : H0 d = none
  nM : M d = none
  hd : H d = some om
  mu : Mut (some om)
  cl : Cl w M d om es
  hk : ∀ e ∈ es, OddKey M e.2.1
  hv : ∀ e ∈ es, ∃ u, SmA u ∧ Uv w M e.2.2 u
  hl : es.length ≤ n
  hs : ∃ e ∈ es, ∃ x, e.2.1 = .str x
section
variable {w : World} {b p : Addr} {N H0 M M1 H H1 : Hp} {n : Nat} {d : Addr} {om : HO} {es : List (NestedKey × V × V)}
theorem Op.to (O : Op w b p N H0 n M H d om es) (F : FinU b p N H0 M1 H1) (k : Same M M1) (nM : M1 d = none) (hd : H1 d = some om) : Op w b p N H0 n M1 H1 d om es :=
  ⟨F, O.z0, nM, hd, O.mu, O.cl.same k, fun e he => (O.hk e he).same k, fun e he => let ⟨u, a, c⟩ := O.hv e he; ⟨u, a, c.same k⟩, O.hl, O.hs⟩
theorem Op.same (O : Op w b p N H0 n M H d om es) (k : Same H H1) : Op w b p N H0 n M H1 d om es := O.to (O.F.same k) (Same.refl _) O.nM (k _ _ O.hd)
theorem Op.nb (O : Op w b p N H0 n M H d om es) : d ≠ b := O.F.B0.b_ne O.z0
theorem Op.go (O : Op w b p N H0 n M H d om es) (g : Go b p H H1) : Op w b p N H0 n M H1 d om es := O.to (O.F.go g) (Same.refl _) O.nM (g.at O.nb O.hd)
theorem Op.le (O : Op w b p N H0 n M H d om es) {m : Nat} (h : n ≤ m) : Op w b p N H0 m M H d om es := { O with hl := Nat.le_trans O.hl h }
/-- the whole: what stands, and the dict -/
theorem Op.do (O : Op w b p N H0 n M H d om es) : DO w H d es := O.cl H O.F.sub O.hd
/-- it is finished -/
theorem Op.fin (O : Op w b p N H0 n M H d om es) : FinU b p N H0 (upd M d om) H := O.F.done O.z0 O.nM O.hd
theorem Op.no (O : Op w b p N H0 n M H d om es) : ∀ xs, om ≠ .tup xs := fun xs e => by
  have := O.cl (upd M d om) (Same.new O.nM) upd_same
  rcases this with ⟨kvs, h, _⟩ | ⟨h, _⟩
  · rw [upd_same, e] at h; cases h
  · rw [upd_same, e] at h; cases h
theorem Op.put {v y : V} {om' : HO} {es' : List (NestedKey × V × V)} (O : Op w b p N H0 n M H d om es) (hy : OddKey M y) (hv : ∃ u, SmA u ∧ Uv w M v u) (mu : Mut (some om')) (cl : Cl w M d om' es')
    (h1 : ∀ e ∈ es', (e.2.1 = y ∨ ∃ e0 ∈ es, e.2.1 = e0.2.1) ∧ (e.2.2 = v ∨ ∃ e0 ∈ es, e.2.2 = e0.2.2)) (hl : es'.length ≤ es.length + 1) (h2 : ∀ e0 ∈ es, ∃ e ∈ es', e.2.1 = e0.2.1) : Op w b p N H0 (n + 1) M (upd H d om') d om' es' :=
  ⟨O.F.mut O.z0 O.nM, O.z0, O.nM, upd_same, mu, cl, fun e he => by
    rcases (h1 e he).1 with z | ⟨e0, a, z⟩
    · rw [z]; exact hy
    · rw [z]; exact O.hk e0 a, fun e he => by
    rcases (h1 e he).2 with z | ⟨e0, a, z⟩
    · rw [z]; exact hv
    · rw [z]; exact O.hv e0 a, by have := O.hl; omega, by
    obtain ⟨e0, a, x, z⟩ := O.hs
    obtain ⟨e, c, f⟩ := h2 e0 a
    exact ⟨e, c, x, f.trans z⟩⟩
end
theorem set_mem {α : Type} {l : List α} {j : Nat} {x y : α} (h : x ∈ l.set j y) : x = y ∨ x ∈ l := by
  rcases List.mem_or_eq_of_mem_set h with h | h
  · exact .inr h
  · exact .inl h
theorem mem_set_key {es : List (NestedKey × V × V)} {j : Nat} {k : NestedKey} {ky v0 v : V} (hj : es[j]? = some (k, ky, v0)) : ∀ e0 ∈ es, ∃ e ∈ es.set j (k, ky, v), e.2.1 = e0.2.1 := fun e0 h0 => by
  obtain ⟨i, hi⟩ := List.mem_iff_getElem?.mp h0
  obtain ⟨lt, ei⟩ := List.getElem?_eq_some_iff.mp hi
  by_cases c : j = i
  · subst c
    rw [hj] at hi
    cases hi
    exact ⟨_, List.mem_of_getElem? (List.getElem?_set_self lt), rfl⟩
  · exact ⟨e0, List.mem_of_getElem? (i := i) (by rw [List.getElem?_set_ne c]; exact hi), rfl⟩
theorem set_keys {es : List (NestedKey × V × V)} {j : Nat} {k : NestedKey} {ky v0 v : V} (hj : es[j]? = some (k, ky, v0)) : (es.set j (k, ky, v)).map (·.1) = es.map (·.1) := by
  rw [List.map_set]
  refine List.ext_getElem? fun i => ?_
  by_cases c : j = i
  · subst c
    obtain ⟨lt, ei⟩ := List.getElem?_eq_some_iff.mp hj
    rw [List.getElem?_set_self (by rw [List.length_map]; exact lt), List.getElem?_map, hj]
    rfl
  · rw [List.getElem?_set_ne c]
theorem putK_in {kvs : List (Key × V)} {k : Key} {v : V} {q : Key × V} (hq : q ∈ kvs) : ∃ z ∈ putK kvs k v, z.1 = q.1 := by
  unfold putK
  split
  · refine ⟨_, List.mem_map.mpr ⟨q, hq, rfl⟩, ?_⟩
    split <;> rfl
  · exact ⟨q, List.mem_append_left _ hq, rfl⟩
section
variable {w : World} {b p : Addr} {N H0 M H : Hp} {n : Nat} {d : Addr} {om : HO} {es : List (NestedKey × V × V)} {D : Ends} {σ : L2.St} {td ty tv : TE} {y : V} {R : V → Hp → Prop}
/-- d[y] = v -/
theorem put_op (h1 : ∀ Q : VK, (∀ v H1, R v H1 → Q v H1) → tv σ H Q) (h2 : ∀ H1 (Q : VK), Q (.ref d) H1 → td σ H1 Q) (h3 : ∀ H1 (Q : VK), Q y H1 → ty σ H1 Q) (O : Op w b p N H0 n M H d om es) (hy : OddKey M y) (ln : n ≤ 90)
    (hR : ∀ v H1, R v H1 → ∃ M1, Same M M1 ∧ Op w b p N H0 n M1 H1 d om es ∧ ∃ u, SmA u ∧ Uv w M1 v u)
    (rest : ∀ H2 M1 om' es', Same M M1 → Op w b p N H0 (n + 1) M1 H2 d om' es' → D.nx σ H2) : sDPut td ty tv D σ H ∨ sNPut w td ty tv D σ H := by
  -- a dict that is, or becomes, one of mixed keys
  have raw : ∀ k, (∀ M', Same M M' → NK M' k y) → ((∃ kvs, om = .dK kvs ∧ es = lift kvs ∧ (kvs.map (·.1)).Nodup ∧ ∀ x, y ≠ .str x) ∨ (om = .ext (rawP w d es) ∧ ∃ x ∈ es, ∀ z, x.2.1 ≠ .str z)) → sNPut w td ty tv D σ H := fun k hk hc => by
    refine h1 _ fun v H1 r => h2 _ _ (h3 _ _ ?_)
    obtain ⟨M1, k1, O1, u, su, hu⟩ := hR v H1 r
    have kn : ∀ M', Same M1 M' → ∀ x ∈ es, NK M' x.1 x.2.1 := fun M' k2 x hx => by
      rcases hc with ⟨kvs, _, e, _⟩ | ⟨e, _⟩
      · subst e
        exact lift_nk x hx
      · have nM' : (upd M' d om) d = some om := upd_same
        have s : Same M1 (upd M' d om) := fun a o ea => by
          rw [upd_ne (fun c => by rw [c, O1.nM] at ea; cases ea)]
          exact k2 _ _ ea
        rcases O1.cl _ s nM' with ⟨kvs, h, _⟩ | ⟨_, h, _⟩
        · rw [upd_same, e] at h; cases h
        · exact (h.1 x hx).unlock O1.no
    have nd : (es.map (·.1)).Nodup := by
      rcases hc with ⟨kvs, _, e, nd, _⟩ | ⟨e, _⟩
      · subst e
        exact lift_nd nd
      · rcases O1.cl _ (Same.new O1.nM) upd_same with ⟨kvs, h, _⟩ | ⟨_, h, _⟩
        · rw [upd_same, e] at h; cases h
        · exact h.2
    have dm : DM w H1 d es := by
      rcases hc with ⟨kvs, e, e2, _⟩ | ⟨e, _⟩
      · exact .inl ⟨kvs, by rw [← e]; exact O1.hd, e2⟩
      · exact .inr ⟨by rw [← e]; exact O1.hd, kn H1 O1.F.sub, nd⟩
    have lne := O1.hl
    refine ⟨d, es, k, rfl, dm, by omega, hk H1 (k1.trans O1.F.sub), fun j ky v0 he => ?_, fun no => ?_⟩
    · have mem := List.mem_of_getElem? he
      have lj := (List.getElem?_eq_some_iff.mp he).1
      refine rest _ _ _ _ k1 (O1.put (hy.same k1) ⟨u, su, hu⟩ (om' := .ext (rawP w d (es.set j (k, ky, v)))) (es' := es.set j (k, ky, v)) (v := v) True.intro (fun M' k2 e => .inr ⟨e, ⟨fun x hx => ?_, by rw [set_keys he]; exact nd⟩, ?_⟩) (fun x hx => ?_) (by rw [List.length_set]; omega) (mem_set_key he))
      · rcases set_mem hx with rfl | hx
        · exact kn M' k2 (k, ky, v0) mem
        · exact kn M' k2 x hx
      · rcases hc with ⟨kvs, _, _, _, ny⟩ | ⟨_, x, hx, nx⟩
        · exact ⟨(k, ky, v), List.mem_of_getElem? (List.getElem?_set_self lj), (hk M (Same.refl _)).odd ny (kn M' k2 (k, ky, v0) mem)⟩
        · obtain ⟨z, hz, ez⟩ := mem_set_key (v := v) he x hx
          exact ⟨z, hz, fun t => by rw [ez]; exact nx t⟩
      · rcases set_mem hx with rfl | hx
        · exact ⟨.inr ⟨_, mem, rfl⟩, .inl rfl⟩
        · exact ⟨.inr ⟨x, hx, rfl⟩, .inr ⟨x, hx, rfl⟩⟩
    · refine rest _ _ _ _ k1 (O1.put (hy.same k1) ⟨u, su, hu⟩ (om' := .ext (rawP w d (es ++ [(k, y, v)]))) (es' := es ++ [(k, y, v)]) (v := v) True.intro (fun M' k2 e => .inr ⟨e, ⟨fun x hx => ?_, ?_⟩, ?_⟩) (fun x hx => ?_) (by rw [List.length_append]; exact Nat.le_refl _) (fun e0 he => ⟨e0, List.mem_append_left _ he, rfl⟩))
      · rcases List.mem_append.mp hx with hx | hx
        · exact kn M' k2 x hx
        · rw [List.mem_singleton.mp hx]
          exact hk M' (k1.trans k2)
      · rw [List.map_append, List.nodup_append]
        refine ⟨nd, by simp, fun a ha c hc2 e2 => no ?_⟩
        rw [List.map_cons, List.map_nil, List.mem_singleton] at hc2
        have e3 : a = k := e2.trans hc2
        rw [← e3]
        exact ha
      · rcases hc with ⟨kvs, _, _, _, ny⟩ | ⟨_, x, hx, nx⟩
        · exact ⟨(k, y, v), List.mem_append_right _ List.mem_cons_self, ny⟩
        · exact ⟨x, List.mem_append_left _ hx, nx⟩
      · rcases List.mem_append.mp hx with hx | hx
        · exact ⟨.inr ⟨x, hx, rfl⟩, .inr ⟨x, hx, rfl⟩⟩
        · rw [List.mem_singleton.mp hx]
          exact ⟨.inl rfl, .inl rfl⟩
  have hd0 := O.cl _ (Same.new O.nM) upd_same
  rw [show (DO w (upd M d om) d es) = ((∃ kvs : List (Key × V), (upd M d om) d = some (.dK kvs) ∧ es = lift kvs ∧ (kvs.map (·.1)).Nodup) ∨ ((upd M d om) d = some (.ext (rawP w d es)) ∧ KeysN (upd M d om) es ∧ ∃ x ∈ es, ∀ y, x.2.1 ≠ .str y)) from rfl, upd_same] at hd0
  rcases hd0 with ⟨kvs, e1, e2, nd⟩ | ⟨e1, _, odd⟩
  · have e1 := Option.some.inj e1
    rcases hy.kind with ⟨k, rfl⟩ | ⟨ns, k, hk2⟩
    · subst e1 e2
      refine .inl (h1 _ fun v H1 r => h2 _ _ (h3 _ _ ?_))
      obtain ⟨M1, k1, O1, u, su, hu⟩ := hR v H1 r
      have lne := O1.hl
      rw [lift_len] at lne
      refine ⟨d, _, rfl, DPut.k O1.hd (szl (by omega)), rest _ _ _ _ k1 (O1.put (hy.same k1) ⟨u, su, hu⟩ (om' := .dK (putK kvs k v)) (es' := lift (putK kvs k v)) (v := v) True.intro (fun M' k2 e => .inl ⟨_, e, rfl, putK_nd nd⟩) (fun x hx => ?_) (by rw [lift_len, lift_len]; exact length_putK kvs k v) (fun e0 he => ?_))⟩
      · obtain ⟨q, hq, rfl⟩ := List.mem_map.mp hx
        obtain ⟨a, c⟩ := putK_mem hq
        refine ⟨?_, ?_⟩
        · rcases a with a | a
          · exact .inl (congrArg kV a)
          · obtain ⟨z, hz, ez⟩ := List.mem_map.mp a
            exact .inr ⟨_, List.mem_map.mpr ⟨z, hz, rfl⟩, congrArg kV ez.symm⟩
        · rcases c with c | c
          · exact .inl c
          · obtain ⟨z, hz, ez⟩ := List.mem_map.mp c
            exact .inr ⟨_, List.mem_map.mpr ⟨z, hz, rfl⟩, ez.symm⟩
      · obtain ⟨q, hq, rfl⟩ := List.mem_map.mp he
        obtain ⟨z, hz, ez⟩ := putK_in (k := k) (v := v) hq
        exact ⟨_, List.mem_map.mpr ⟨z, hz, rfl⟩, congrArg kV ez⟩
    · exact .inr (raw k hk2 (.inl ⟨kvs, e1, e2, nd, ns⟩))
  · have e1 := Option.some.inj e1
    rcases hy.kind with ⟨k, rfl⟩ | ⟨ns, k, hk2⟩
    · refine .inr (raw (nkOf k) (fun M' _ => ?_) (.inr ⟨e1, odd⟩))
      cases k with
      | inl i => exact .int i
      | inr x => exact .str x
    · exact .inr (raw k hk2 (.inr ⟨e1, odd⟩))
end
end NkD
set_option maxRecDepth 100000
set_option maxHeartbeats 2000000
/-! things that may be given for acts -/
namespace NkD
open PySem PySem.Spec PyProof.Rows L2 Fm
structure ThingOk (u : U) : Prop where
  g : good u = true
  s : shpT u = true
  n : ∀ ks vs, u = .dic ks vs → ks.length ≤ 20
  w : wt u ≤ 40000
  d : dp u ≤ 10
structure ThD (u : U) : Prop where
  ok : ThingOk u
  w : wt u ≤ 34000
  d : dp u ≤ 5
theorem ThingOk.lst {us : List U} (g : goods us = true) (w : wts us ≤ 40000) (d : dps us ≤ 9) : ThingOk (.lst us) := ⟨g, rfl, fun _ _ => nofun, w, by show dps us + 1 ≤ 10; omega⟩
theorem ThingOk.leaf {u : U} (h : Leaf u) : ThingOk u := ⟨h.g, (by have := h.n; cases u <;> first | rfl | exact nomatch this), (fun ks vs e => by have t := h.n; rw [e] at t; exact nomatch t), Nat.le_trans h.w (by decide), Nat.le_trans h.d (by decide)⟩
theorem shpAs_of {vs : List U} (h : ∀ v ∈ vs, SmA v) : vs.all shpA = true := List.all_eq_true.mpr fun v hv => (h v hv).s
section
variable {w : World} {M H H' : Hp} {a b p d : Addr} {es : List (NestedKey × V × V)}
theorem mk_thing (D : DO w M a es) (hk : ∀ e ∈ es, OddKey M e.2.1) (hv : ∀ e ∈ es, ∃ u, SmA u ∧ Uv w M e.2.2 u) (hl : es.length ≤ 8) : ∃ u, ThD u ∧ Uv w M (.ref a) u := by
  obtain ⟨ks, k1, k2⟩ := uvl_all (w := w) (M := M) (C := Leaf) (xs := es.map fun e => e.2.1) fun x hx => by
    obtain ⟨e, he, rfl⟩ := List.mem_map.mp hx
    exact (hk e he).leaf
  obtain ⟨vs, v1, v2⟩ := uvl_all (w := w) (M := M) (C := SmA) (xs := es.map fun e => e.2.2) fun x hx => by
    obtain ⟨e, he, rfl⟩ := List.mem_map.mp hx
    exact hv e he
  have a1 := k1.len
  have a2 := v1.len
  rw [List.length_map] at a1 a2
  have c1 := wts_le fun d hd => (k2 d hd).w
  have c2 := wts_le fun d hd => (v2 d hd).w
  have c3 := dps_le fun d hd => (k2 d hd).d
  have c4 := dps_le fun d hd => (v2 d hd).d
  have hw : wts ks + wts vs ≤ 34000 := by
    have : ks.length ≤ 8 := by omega
    have : vs.length ≤ 8 := by omega
    omega
  refine ⟨.dic ks vs, ⟨⟨?_, ?_, fun ks' vs' e => ?_, ?_, ?_⟩, hw, ?_⟩, .dic D k1 v1⟩
  · show (goods ks && goods vs) = true
    rw [goods_of fun d hd => (k2 d hd).g, goods_of fun d hd => (v2 d hd).g]
    rfl
  · show (noDs ks && vs.all shpA && decide (ks.length ≤ 60)) = true
    rw [noDs_of fun d hd => (k2 d hd).n, shpAs_of v2, decide_eq_true (by omega)]
    rfl
  · cases e
    omega
  · show wts ks + wts vs ≤ 40000
    omega
  · show max (dps ks) (dps vs) + 1 ≤ 10
    omega
  · show max (dps ks) (dps vs) + 1 ≤ 5
    omega
/-- what is new stands -/
theorem FinU.ovl {N H0 : Hp} (F : FinU b p N H0 M H) (g : Go b p H H') : FinU b p N H0 (Fm.ovl M (newof H H')) H' := by
  have F1 := F.go g
  refine ⟨F.B0, F1.g, ovl_sub F1.sub newof_sub, F.base.trans ovl_base, fun a o e => ?_, ?_⟩
  · unfold Fm.ovl at e
    cases z : M a with
    | some x =>
      rw [z] at e
      exact F.new a o (by rw [z]; exact e)
    | none =>
      rw [z] at e
      exact .inr (F.free (newof_is e).1)
  · unfold Fm.ovl
    rw [F.nb]
    obtain ⟨_, _, _, _, hb⟩ := F.g.B
    show newof H H' b = none
    unfold newof
    rw [hb.at_b]
theorem ovl_none (h1 : M d = none) {o : HO} (h2 : H d = some o) : Fm.ovl M (newof H H') d = none := by
  unfold Fm.ovl
  rw [h1]
  show newof H H' d = none
  unfold newof
  rw [h2]
/-- the dict of acts as it is made -/
theorem acts_ent {ks : List (Key × V)} {l : Acts} (h : ActsL M ks l) (ok : ∀ p ∈ l, NmOk p.1 ∧ 0 ≤ p.2.1 ∧ p.2.1 < 3 ∧ OutsSm p.2.2) : ∀ q ∈ ks, (∃ x, q.1 = .inr x ∧ PyData.strOk x = true ∧ x.length ≤ 8) ∧ ∃ u, SmA u ∧ Uv w M q.2 u := by
  induction h with
  | nil => exact fun _ h => (List.not_mem_nil h).elim
  | @cons n v a ks l ha hL ih =>
    intro q hq
    rcases List.mem_cons.mp hq with rfl | hq
    · obtain ⟨n1, i0, i3, os⟩ := ok _ List.mem_cons_self
      dsimp only at n1 i0 i3 os
      refine ⟨⟨n, rfl, okL_ok n1.1, n1.2.2⟩, ?_⟩
      obtain ⟨t, dd, rfl, h1, h2⟩ := ha
      have om : ∀ x ∈ kO a.2, (∃ d, Leaf d ∧ Uv w M (kV x.1) d) ∧ ∃ d, Leaf d ∧ Uv w M x.2 d := fun x hx => by
        unfold kO at hx
        obtain ⟨y, hy, rfl⟩ := List.mem_map.mp hx
        obtain ⟨o1, o2, o3⟩ := os.ok y hy
        exact ⟨⟨.str y.1, leaf_str (okL_ok o1.1) (by have := o1.2.2; omega), .str _ (okL_ok o1.1)⟩, .int y.2, leaf_int (by omega), .int _⟩
      obtain ⟨uo, u1, u2⟩ := dk_outs (w := w) (M := M) (a := dd) h2 (kO_nd os.nd) (fun x hx => (om x hx).1) (fun x hx => (om x hx).2) (by unfold kO; rw [List.length_map]; have := os.hi; omega)
      exact ⟨.tup [.int a.1, uo], sma_tup (leaf_int (by omega)) u1, .tup h1 (.cons (.int _) (.cons u2 .nil))⟩
    · exact ih (fun p hp => ok p (List.mem_cons_of_mem _ hp)) q hq
theorem acts_nd {ks : List (Key × V)} {l : Acts} (h : ActsL M ks l) : ks.map (·.1) = (l.map (·.1)).map Sum.inr ∧ ∃ k2 : List (Str × V), ks = kS k2 ∧ k2.map (·.1) = l.map (·.1) := by
  induction h with
  | nil => exact ⟨rfl, [], rfl, rfl⟩
  | @cons n v a ks l ha hL ih =>
    obtain ⟨e1, k2, e2, e3⟩ := ih
    refine ⟨by rw [List.map_cons, e1]; rfl, (n, v) :: k2, by rw [e2]; rfl, by rw [List.map_cons, e3]; rfl⟩
theorem acts_mask {ks : List (Key × V)} {l : Acts} (h : ActsL M ks l) {ks0 : List (Key × V)} (hd : M d = some (.dK ks0)) (nk : ∀ q ∈ ks0, ∀ i, q.2 ≠ .int i) (ne : ks0 ≠ []) (ok : ∀ p ∈ l, 1 ≤ p.2.2.length) : ActsL (mask d M) ks l := by
  induction h with
  | nil => exact .nil
  | @cons n v a ks l ha hL ih =>
    refine .cons ?_ (ih fun p hp => ok p (List.mem_cons_of_mem _ hp))
    obtain ⟨t, dd, e, h1, h2⟩ := ha
    refine ⟨t, dd, e, ?_, ?_⟩
    · rw [mask_ne fun z => by rw [z, hd] at h1; cases h1]
      exact h1
    · have h2' : M dd = some (.dK (kO a.2)) := h2
      show mask d M dd = _
      rw [mask_ne ?_]
      · exact h2
      · intro z
        rw [z, hd] at h2'
        have e3 : ks0 = kO a.2 := by
          have := Option.some.inj h2'
          injection this
        cases ks0 with
        | nil => exact ne rfl
        | cons q r =>
          have q1 := nk q List.mem_cons_self
          have : q ∈ kO a.2 := by rw [← e3]; exact List.mem_cons_self
          unfold kO at this
          obtain ⟨y, _, ey⟩ := List.mem_map.mp this
          exact q1 y.2 (by rw [← ey])
theorem acts_ref {ks : List (Key × V)} {l : Acts} (h : ActsL M ks l) : ∀ q ∈ ks, ∀ i, q.2 ≠ .int i := by
  induction h with
  | nil => exact fun _ h => (List.not_mem_nil h).elim
  | cons ha hL ih =>
    intro q hq
    rcases List.mem_cons.mp hq with rfl | hq
    · obtain ⟨t, dd, e, _⟩ := ha
      intro i z
      cases (e.symm.trans z)
    · exact ih q hq
/-- two rules for one built-in -/
theorem cr_or {X : Cx} {f : Value} {r1 r2 : List V → Hp → VK → Prop} (h1 : CallR X f r1) (h2 : CallR X f r2) : CallR X f (fun xs H Q => r1 xs H Q ∨ r2 xs H Q) := fun pins s σ H xs us Q I r h =>
  h.elim (h1 pins s σ H xs us Q I r) (h2 pins s σ H xs us Q I r)
/-- a list in another order, seen through its names -/
theorem perm_back {α β : Type} {f : α → β} : ∀ {zs ws : List β}, zs.Perm ws → ∀ {xs : List α}, ws = xs.map f → ∃ ys : List α, ys.Perm xs ∧ zs = ys.map f := by
  intro zs ws h
  induction h with
  | nil =>
    intro xs e
    cases xs with
    | nil => exact ⟨[], .refl _, rfl⟩
    | cons _ _ => cases e
  | cons x h ih =>
    intro xs e
    cases xs with
    | nil => cases e
    | cons y xs =>
      rw [List.map_cons] at e
      obtain ⟨e1, e2⟩ := List.cons.inj e
      obtain ⟨ys, p, e3⟩ := ih e2
      exact ⟨y :: ys, p.cons _, by rw [List.map_cons, e1, e3]⟩
  | swap x y l =>
    intro xs e
    cases xs with
    | nil => cases e
    | cons a xs =>
      cases xs with
      | nil => cases e
      | cons c xs =>
        rw [List.map_cons, List.map_cons] at e
        obtain ⟨e1, e2⟩ := List.cons.inj e
        obtain ⟨e3, e4⟩ := List.cons.inj e2
        exact ⟨c :: a :: xs, .swap a c xs, by rw [List.map_cons, List.map_cons, e1, e3, e4]⟩
  | trans h1 h2 ih1 ih2 =>
    intro xs e
    obtain ⟨ys, p, e1⟩ := ih2 e
    obtain ⟨zs, p2, e2⟩ := ih1 e1
    exact ⟨zs, p2.trans p, e2⟩
end
/-! the list of things that are no dicts -/
section
variable {w : World} {b : Addr} {H0 : Hp} {σ : L2.St} {C : U → Prop}
def BL (b : Addr) (H : Hp) : Prop := ∃ l, H b = some (.lst l)
theorem BL.ne {b r : Addr} {H : Hp} (h : BL b H) (hr : H r = none) : r ≠ b := fun z => by
  obtain ⟨l, e⟩ := h
  rw [z, e] at hr
  cases hr
theorem BL.same {b : Addr} {H H' : Hp} (h : BL b H) (k : Same H H') : BL b H' := let ⟨l, e⟩ := h; ⟨l, k _ _ e⟩
def EdQ (w : World) (b : Addr) (H0 : Hp) (σ : L2.St) (te : TE) (C : U → Prop) : Prop := ∀ H (Q : VK), Same H0 H → BL b H → (∀ v u H', Same H H' → C u → Uv w (mask b H') v u → Q v H') → te σ H Q
def EdAQ (w : World) (b : Addr) (H0 : Hp) (σ : L2.St) (ta : TA) (n : Nat) (C : U → Prop) : Prop := ∀ H (Q : List V → Hp → Prop), Same H0 H → BL b H → (∀ vs us H', Same H H' → (∀ u ∈ us, C u) → us.length = n → UvL w (mask b H') vs us → Q vs H') → ta σ H Q
theorem edq_c {v : V} {u : U} (h : ∀ M, Uv w M v u) (c : C u) : EdQ w b H0 σ (tC v) C := fun H Q _ _ q => q _ _ _ (Same.refl _) c (h _)
theorem at_new {H : Hp} {r : Addr} {o : HO} (hb : BL b H) (hr : H r = none) : mask b (upd H r o) r = some o := mask_new (hb.ne hr)
theorem edq_nilL (c : C (.lst [])) : EdQ w b H0 σ (tLstB tNil) C := fun H Q _ hb q => ⟨Nat.zero_le _, fun r hr nr => q _ _ _ (Same.new hr) c (.lst nr (at_new hb hr) .nil)⟩
theorem edq_nilT (c : C (.tup [])) : EdQ w b H0 σ (tTup tNil) C := fun H Q _ hb q => ⟨Nat.zero_le _, fun r hr => q _ _ _ (Same.new hr) c (.tup (at_new hb hr) .nil)⟩
theorem edq_oneL {i : Nat} {v : V} {u : U} (e : σ[i]? = some (some v)) (h : Uv w (mask b H0) v u) (c : C (.lst [u])) : EdQ w b H0 σ (tLstB (tCons (tVar i) tNil)) C := fun H Q k hb q =>
  ⟨v, e, (by show 1 ≤ sizeLine; decide), fun r hr nr => q _ _ _ (Same.new hr) c (.lst nr (at_new hb hr) (.cons (h.same (mask_same (k.trans (Same.new hr)))) .nil))⟩
theorem edq_keys {i : Nat} {a : Addr} {es : List (NestedKey × V × V)} {us : List U} (e : σ[i]? = some (some (.ref a))) (D : DO w (mask b H0) a es) (h : UvL w (mask b H0) (es.map fun e => e.2.1) us) (c : C (.lst us)) (da : ∀ H, Same H0 H → DA w H a es) : EdQ w b H0 σ (tCB (rListN w) (tCons (tVar i) tNil)) C := fun H Q k hb q =>
  ⟨_, e, a, es, rfl, da H k, fun r hr nr => q _ _ _ (Same.new hr) c (.lst nr (at_new hb hr) (h.same (mask_same (k.trans (Same.new hr)))))⟩
theorem edq_sort {K : PySem.W.Frag} {i : Nat} {a : Addr} {ks : List (Str × V)} (e : σ[i]? = some (some (.ref a))) (ha : H0 a = some (.dK (kS ks))) (nd : (ks.map (·.1)).Nodup) (l1 : 1 ≤ ks.length) (l8 : ks.length ≤ 8) (ty : ∀ H, Same H0 H → tyV K "dict" (.ref a) H)
    (hs : ∀ q ∈ ks, PyData.strOk q.1 = true) (hv : ∀ q ∈ ks, ∃ u, SmA u ∧ Uv w (mask b H0) q.2 u) (hk : ∀ q ∈ ks, q.1.length ≤ 8)
    (c : ∀ us : List U, us.length ≤ 8 → (∀ u ∈ us, ∃ x y, u = .tup [.str x, y] ∧ PyData.strOk x = true ∧ x.length ≤ 8 ∧ SmA y) → C (.lst us)) : EdQ w b H0 σ (tCB rSortSV (tCons (tBM0 K "dict" rItemsK (tVar i)) tNil)) C := fun H Q k hb q => by
  refine ⟨_, e, ty H k, a, kS ks, rfl, rfl, k _ _ ha, fun r hr => ?_⟩
  have ha1 : (upd H r (L2.DX.itemsO r a)) a = some (.dK (kS ks)) := (Same.new hr) _ _ (k _ _ ha)
  refine ⟨r, a, ks, rfl, upd_same, ha1, nd, l1, by omega, fun H' l zs k2 hl nl pm hl2 hz => ?_⟩
  have k3 : Same H0 H' := k.trans ((Same.new hr).trans k2)
  have hlb : l ≠ b := (hb.same (Same.new hr)).ne hl
  obtain ⟨us, u1, u2⟩ := uvl_all (w := w) (M := mask b H') (C := fun u => ∃ x y, u = .tup [.str x, y] ∧ PyData.strOk x = true ∧ x.length ≤ 8 ∧ SmA y) (xs := zs.map fun z => V.ref z.1) (fun v hv2 => by
    obtain ⟨z, hz2, rfl⟩ := List.mem_map.mp hv2
    have hm : z.2 ∈ ks := pm.mem_iff.mp (List.mem_map.mpr ⟨z, hz2, rfl⟩)
    obtain ⟨u, s1, s2⟩ := hv _ hm
    have nz : z.1 ≠ b := fun y => by
      have h5 := hz z hz2
      obtain ⟨bl, h6⟩ := hb.same ((Same.new hr).trans k2)
      rw [y, h6] at h5
      cases h5
    refine ⟨_, ⟨z.2.1, u, rfl, hs _ hm, hk _ hm, s1⟩, .tup (xs := [.str z.2.1, z.2.2]) (by rw [mask_ne nz]; exact hz z hz2) (.cons (.str _ (hs _ hm)) (.cons (s2.same (mask_same k3)) .nil))⟩)
  have lz : us.length = ks.length := by
    have a1 := u1.len
    have a2 := pm.length_eq
    rw [List.length_map] at a1 a2
    omega
  exact q _ _ _ ((Same.new hr).trans k2) (c us (by omega) u2) (.lst nl (by rw [mask_ne hlb]; exact hl2) u1)
theorem edaq_nil : EdAQ w b H0 σ tNil 0 C := fun H Q _ _ q => q _ [] _ (Same.refl _) (fun _ h => (List.not_mem_nil h).elim) rfl .nil
theorem edaq_cons {te : TE} {ta : TA} {n : Nat} (h : EdQ w b H0 σ te C) (h2 : EdAQ w b H0 σ ta n C) : EdAQ w b H0 σ (tCons te ta) (n + 1) C := fun H Q k hb q =>
  h H _ k hb fun v u H1 k1 c1 hv => h2 H1 _ (k.trans k1) (hb.same k1) fun vs us H2 k2 c2 l2 hvs => q _ (u :: us) _ (k1.trans k2) (fun x hx => by
    rcases List.mem_cons.mp hx with rfl | hx
    · exact c1
    · exact c2 x hx) (by rw [List.length_cons, l2]) (.cons (hv.same (mask_same k2)) hvs)
end
end NkD
namespace NkD
open PySem PySem.Spec PyProof.Rows L2 Fm
section
variable {w : World} {b : Addr} {H0 H : Hp} {σ : L2.St} {C : U → Prop} {ta : TA} {n : Nat} {Q : VK} {D : Ends} {te : TE}
theorem lst_useQ (h : EdAQ w b H0 σ ta n C) (k : Same H0 H) (hb : BL b H) (hl : n ≤ 1000)
    (q : ∀ vs us H' l, Same H H' → (∀ u ∈ us, C u) → us.length = n → UvL w (mask b H') vs us → H' l = none → Q (.ref l) (upd H' l (.lst vs))) : tLst ta σ H Q :=
  h H _ k hb fun vs us H1 k1 c1 e1 hvs => ⟨szm (by have := hvs.len; omega), fun l hl2 => q vs us H1 l k1 c1 e1 hvs hl2⟩
theorem ret_of (h : te σ H D.rt) : tRet te D σ H := h
theorem Bag.bl {b p : Addr} {H : Hp} (B : Bag b p H) : BL b H := let ⟨_, _, _, _, h⟩ := B; ⟨_, h.at_b⟩
/-- the keys of a dict of acts, as data -/
theorem keys_uv {M : Hp} {ks : List (Key × V)} (h : ∀ q ∈ ks, ∃ x, q.1 = .inr x ∧ PyData.strOk x = true ∧ x.length ≤ 8) : ∃ us : List U, UvL w M ((lift ks).map fun e => e.2.1) us ∧ (∀ u ∈ us, Leaf u) ∧ us.length = ks.length := by
  obtain ⟨us, u1, u2⟩ := uvl_all (w := w) (M := M) (C := Leaf) (xs := (lift ks).map fun e => e.2.1) fun v hv => by
    obtain ⟨e, he, rfl⟩ := List.mem_map.mp hv
    obtain ⟨q, hq, rfl⟩ := List.mem_map.mp he
    obtain ⟨x, e1, e2, e3⟩ := h q hq
    exact ⟨.str x, leaf_str e2 (by omega), by show Uv w M (kV q.1) _; rw [e1]; exact .str x e2⟩
  refine ⟨us, u1, u2, ?_⟩
  have := u1.len
  rw [List.length_map, lift_len] at this
  exact this.symm
theorem ThingOk.keys {us : List U} (h : ∀ u ∈ us, Leaf u) (l : us.length ≤ 8) : ThingOk (.lst us) := by
  have a := wts_le fun d hd => (h d hd).w
  have c := dps_le fun d hd => (h d hd).d
  exact .lst (goods_of fun d hd => (h d hd).g) (by omega) (by omega)
theorem ThingOk.items {us : List U} (l : us.length ≤ 8) (h : ∀ u ∈ us, ∃ x y, u = .tup [.str x, y] ∧ PyData.strOk x = true ∧ x.length ≤ 8 ∧ SmA y) : ThingOk (.lst us) := by
  have a := wts_le (n := 4200) fun d hd => (by
    obtain ⟨x, y, rfl, h1, h2, h3⟩ := h d hd
    have := h3.w
    show 100 + 1 + (wt y + 1 + 0) ≤ 4200
    omega : wt d ≤ 4200)
  have c := dps_le (n := 6) fun d hd => (by
    obtain ⟨x, y, rfl, h1, h2, h3⟩ := h d hd
    have := h3.d
    show max 0 (max (dp y) 0) + 1 ≤ 6
    omega : dp d ≤ 6)
  refine .lst (goods_of fun d hd => ?_) (by omega) (by omega)
  obtain ⟨x, y, rfl, h1, h2, h3⟩ := h d hd
  show (good (.str x) && (good y && true)) = true
  rw [(leaf_str h1 (by omega)).g, h3.g]
  rfl
theorem ThD.one {u : U} (h : ThD u) : ThingOk (.lst [u]) := by
  refine .lst ?_ ?_ ?_
  · show (good u && true) = true
    rw [h.ok.g]
    rfl
  · show wt u + 1 + 0 ≤ 40000
    have := h.w
    omega
  · show max (dp u) 0 ≤ 9
    have := h.d
    omega
end
end NkD
namespace NkD
open PySem PySem.Spec PyProof.Rows L2 Fm
def isSV : V → Bool
  | .str _ => true
  | _ => false
section
variable {w : World} {b p d : Addr} {N H0 M M0 H : Hp} {σ : L2.St} {n : Nat} {om : HO} {es : List (NestedKey × V × V)}
theorem OddKey.isS {y : V} (h : OddKey M y) : ∃ du, Leaf du ∧ Uv w M y du ∧ isStr du = isSV y := by
  cases h with
  | str x a b => exact ⟨_, leaf_str a b, .str x a, rfl⟩
  | int i a => exact ⟨_, leaf_int a, .int i, rfl⟩
  | non => exact ⟨_, leaf_non, .non, rfl⟩
  | bl b => exact ⟨_, leaf_bl b, .bl b, rfl⟩
  | tup t x e a b => exact ⟨_, leaf_one a b, .tup e (.cons (.str x a) .nil), rfl⟩
/-- the names among the keys -/
theorem strs_of (es : List (NestedKey × V × V)) (f : Nat → V) (hf : ∀ (i : Nat) (v : V), (es.map fun e => e.2.1)[i]? = some v → f i = v) : ∃ xs : List Str, ((List.range es.length).filter fun i => isSV (f i)).map f = xs.map V.str ∧ xs.length ≤ es.length ∧ (∀ x ∈ xs, ∃ e ∈ es, e.2.1 = .str x) ∧ ((∃ e ∈ es, ∃ x, e.2.1 = .str x) → xs ≠ []) := by
  have all : ∀ L : List Nat, (∀ i ∈ L, i < es.length ∧ isSV (f i) = true) → ∃ xs : List Str, L.map f = xs.map V.str ∧ xs.length = L.length ∧ ∀ x ∈ xs, ∃ e ∈ es, e.2.1 = .str x := by
    intro L
    induction L with
    | nil => exact fun _ => ⟨[], rfl, rfl, fun _ h => (List.not_mem_nil h).elim⟩
    | cons i L ih =>
      intro h
      obtain ⟨xs, e1, e2, e3⟩ := ih fun j hj => h j (List.mem_cons_of_mem _ hj)
      obtain ⟨lt, hi⟩ := h i List.mem_cons_self
      have ei := hf i _ (List.getElem?_eq_getElem (by rw [List.length_map]; exact lt))
      rw [List.getElem_map] at ei
      cases hx : f i with
      | str x =>
        refine ⟨x :: xs, by rw [List.map_cons, List.map_cons, e1, hx], by rw [List.length_cons, List.length_cons, e2], fun y hy => ?_⟩
        rcases List.mem_cons.mp hy with rfl | hy
        · exact ⟨es[i], List.getElem_mem lt, by rw [← ei, hx]⟩
        · exact e3 y hy
      | _ => rw [hx] at hi; cases hi
  obtain ⟨xs, e1, e2, e3⟩ := all ((List.range es.length).filter fun i => isSV (f i)) fun i hi => by
    obtain ⟨a, c⟩ := List.mem_filter.mp hi
    exact ⟨List.mem_range.mp a, c⟩
  refine ⟨xs, e1, ?_, e3, ?_⟩
  · rw [e2]
    have := List.length_filter_le (fun i => isSV (f i)) (List.range es.length)
    rw [List.length_range] at this
    exact this
  · rintro ⟨e, he, x, ex⟩ z
    obtain ⟨i, hi⟩ := List.mem_iff_getElem?.mp he
    have lt := (List.getElem?_eq_some_iff.mp hi).1
    have fi := hf i e.2.1 (by rw [List.getElem?_map, hi]; rfl)
    have mem : i ∈ (List.range es.length).filter fun i => isSV (f i) := List.mem_filter.mpr ⟨List.mem_range.mpr lt, by rw [fi, ex]; rfl⟩
    rw [z] at e2
    have := List.length_pos_of_mem mem
    rw [List.length_nil] at e2
    omega
theorem at_last {ys : List Str} {k : Int} (h : ys ≠ []) (h0 : 0 ≤ k) (h2 : k < 2) : ∃ nm, nm ∈ ys ∧ atI (ys.map V.str) (0 - k) = some (.str nm) := by
  have lp : 0 < ys.length := List.length_pos_iff.mpr h
  rcases (by omega : k = 0 ∨ k = 1) with rfl | rfl
  · refine ⟨ys[0], List.getElem_mem lp, ?_⟩
    refine atI_nat (j := 0) ?_
    rw [List.getElem?_map, List.getElem?_eq_getElem lp]
    rfl
  · refine ⟨ys[ys.length - 1], List.getElem_mem (by omega), ?_⟩
    unfold atI ixN
    rw [List.length_map, if_neg (by omega), if_pos (by omega)]
    show (ys.map V.str)[_]? = _
    rw [show ((0 - 1 : Int) + ys.length).toNat = ys.length - 1 by omega, List.getElem?_map, List.getElem?_eq_getElem (by omega)]
    rfl
theorem Op.nk (O : Op w b p N H0 n M H d om es) : ∀ e ∈ es, NK H e.1 e.2.1 := fun e he => by
  rcases O.do with ⟨kvs, _, e2, _⟩ | ⟨_, h, _⟩
  · subst e2
    exact lift_nk e he
  · exact h.1 e he
theorem Op.named (O : Op w b p N H0 n M H d om es) {nm : Str} (h : ∃ e ∈ es, e.2.1 = .str nm) : ∃ (j : Nat) (v : V), es[j]? = some (.text nm, .str nm, v) ∧ ∃ u, SmA u ∧ Uv w M v u := by
  obtain ⟨⟨k, y, v⟩, he, ey⟩ := h
  have ey' : y = .str nm := ey
  subst ey'
  have := (O.nk _ he).text
  have ek : k = .text nm := this
  subst ek
  obtain ⟨j, hj⟩ := List.mem_iff_getElem?.mp he
  exact ⟨j, v, hj, O.hv _ he⟩
theorem edm_disp {x : Str} {i : Int} (hx : PyData.strOk x = true) : EdM w b p N H0 M0 σ (tDisp [(tC (.str x), tC (.int i))]) (.dic [.str x] [.int i]) := fun M H Q _ F q => fun r hr => by
  refine ⟨upd_same, [(.inr x, .int i)], rfl, Nat.le_of_ble_eq_true rfl, ?_⟩
  have F1 := (F.open (o := .dK []) hr).mut (o := .dK (mergeK [] [((.inr x : Key), V.int i)])) (F.free hr) (F.nil hr)
  have F2 := F1.done (F.free hr) (F.nil hr) upd_same
  refine q _ _ _ (Kp.new hr) (Same.new (F.nil hr)) (Same.upd (Same.new hr) hr) F2 ?_
  exact .dic (es := lift [((.inr x : Key), V.int i)]) (.inl ⟨_, upd_same, rfl, mergeK_nd List.nodup_nil⟩) (.cons (.str x hx) .nil) (.cons (.int i) .nil)
theorem sma_ok : SmA (.tup [.int 0, .dic [.str "ok"] [.int 0]]) := sma_tup (leaf_int (by decide)) ⟨_, _, rfl, (fun k hk => by rw [List.mem_singleton.mp hk]; exact leaf_str (by decide +kernel) (by decide)), (fun k hk => by rw [List.mem_singleton.mp hk]; exact leaf_int (by decide)), by decide, by decide⟩
end
end NkD
namespace NkD
open PySem PySem.Spec PyProof.Rows L2 Fm
theorem paired_at {α β : Type} {F : α → β → Prop} : ∀ {xs : List α} {ys : List β}, Paired F xs ys → ∀ {i : Nat} {x : α} {y : β}, xs[i]? = some x → ys[i]? = some y → F x y
  | _, _, .nil, i, _, _, h, _ => by simp at h
  | _, _, .cons h t, 0, _, _, h1, h2 => by
    cases Option.some.inj h1
    cases Option.some.inj h2
    exact h
  | _, _, .cons h t, i + 1, _, _, h1, h2 => paired_at t (i := i) (by simpa using h1) (by simpa using h2)
end NkD
set_option maxRecDepth 100000
set_option maxHeartbeats 4000000
namespace K21
open PySem L2 Fm NkD
section
variable {P : Program} {w : World} {K : PySem.W.Frag} {mg : Str → Option Value} {base : Heap} (T : Txt K mg)
def spThing (w : World) : Sp := fun vs H Q _ => ∃ (b p : Addr), vs = [.ref b] ∧ Bag b p H ∧ ∀ v H' u, Go b p H H' → ThingOk u → Uv w H' v u → Q v H'
theorem ok_law_thing : FnOk P w K mg base CX0 6 T.a__law_thing T.d__law_thing ["_law_bag_here"] (spThing w) := by
  have G__law_take := ok_law_take (P := P) (w := w) (base := base) T
  have G__law_acts := ok_law_acts (P := P) (w := w) (base := base) T
  have G__law_mixed := ok_law_mixed (P := P) (w := w) (base := base) T
  have G__law_is_act := ok_law_is_act (P := P) (w := w) (base := base) T
  have G__law_odd_act := ok_law_odd_act (P := P) (w := w) (base := base) T
  refine T.F__law_thing.ok sc__law_thing ?_ (fun cdv A outer s H vs Q E hr h => ?_)
  · rintro vs H Q E ⟨b, p, rfl, _⟩
    rfl
  obtain ⟨b, p, rfl, B, q⟩ := h
  refine ⟨_, 
    (pss_cons (ps_par (i := 1) (j := 2) (by rfl) sc__law_thing.nd rfl rfl (by decide) rfl rfl (pa_cons (pe_call G__law_acts (hr.mono (by omega)) (by rfl) T.f__law_acts T.F__law_acts.kp T.b__law_acts .nil pass0 (pa_cons (pv 0) (pa_cons pe_int pa_nil))) (pa_cons (pe_call G__law_take (hr.mono (by omega)) (by rfl) T.f__law_take T.F__law_take.kp T.b__law_take .nil pass0 (pa_cons (pv 0) (pa_cons pe_int pa_nil))) pa_nil)) (by rfl))
    (pss_cons (ps_if (pt_cmpR op_eq (pv 2) pe_int (nomark _)) (pss_one (ps_ret (pe_ix ix_list (pe_lst (pa_cons pe_non (pa_cons pe_int (pa_cons pe_bl (pa_cons (pe_lstB pa_nil) (pa_cons (pe_tup pa_nil) (pa_cons pe_str (pa_cons (pe_lstB (pa_cons (pv 1) pa_nil)) (pa_cons (pe_callTy (call_listN rfl) (by rfl) T.m_list (by decide +kernel) (pa_cons (pv 1) pa_nil)) (pa_cons (pe_callB (cr_sortSV rfl) (by rfl) T.m_sorted (by decide +kernel) (pa_cons (pe_bm0 PySem.F.plainAttrs_dict PySem.F.slot_dict_items PySem.F.type_dict_items mt_itemsK (pv 1)) pa_nil)) pa_nil)))))))))) (pe_call G__law_take (hr.mono (by omega)) (by rfl) T.f__law_take T.F__law_take.kp T.b__law_take .nil pass0 (pa_cons (pv 0) (pa_cons pe_int pa_nil))) (fun _ _ => rfl)))) pss_nil)
    (Evl.pss_cut (ps_if (pt_cmpR op_eq (pv 2) pe_int (nomark _)) (pss_cons (ps_set (i := 3) sc__law_thing.nd rfl (Or.inl rfl) (pe_ix ix_list (pe_lst (pa_cons pe_str (pa_cons pe_str (pa_cons pe_str (pa_cons pe_str (pa_cons pe_int (pa_cons pe_non (pa_cons pe_bl (pa_cons (pe_tup (pa_cons pe_str pa_nil)) (pa_cons pe_str (pa_cons pe_str (pa_cons pe_str (pa_cons pe_str pa_nil))))))))))))) (pe_call G__law_take (hr.mono (by omega)) (by rfl) T.f__law_take T.F__law_take.kp T.b__law_take .nil pass0 (pa_cons (pv 0) (pa_cons pe_int pa_nil))) (fun _ _ => rfl))) (pss_one (ps_alt (ps_dput (hu1 hr) (pv 1) (pv 3) (pe_tup (pa_cons pe_int (pa_cons (pe_disp (pps_cons pe_str pe_int pps_nil) (by rfl) (by rfl) (fun z => by cases z) (by decide)) pa_nil))) rfl) (ps_nput (hu10 hr) (pv 1) (pv 3) (pe_tup (pa_cons pe_int (pa_cons (pe_disp (pps_cons pe_str pe_int pps_nil) (by rfl) (by rfl) (fun z => by cases z) (by decide)) pa_nil))) rfl)))) pss_nil)
    (pss_cons (ps_for PassesOwn.never rfl (pi_range1 (by rfl) T.m_range (pa_cons (pe_call G__law_take (hr.mono (by omega)) (by rfl) T.f__law_take T.F__law_take.kp T.b__law_take .nil pass0 (pa_cons (pv 0) (pa_cons pe_int pa_nil))) pa_nil)) (pg_name (i := 4) sc__law_thing.nd rfl (Or.inl rfl)) (pss_cons (ps_set (i := 5) sc__law_thing.nd rfl (Or.inl rfl) (pe_ix ix_list (pe_callB cr_sortedS (by rfl) T.m_sorted (by decide +kernel) (pa_cons (pe_lock (pe_lc (own := [("_law_one", 6)]) (g := gName 6) rfl sc__law_thing.nd (pi_alt (pi_keys (pv 1)) (pi_keysN (pv 1))) (blkOk_by (N := N__law_thing) (sc := defScope s__law_thing) (by decide +kernel)) (fun _ _ _ _ _ => pg_name (i := 6) sc__law_thing.nd rfl (Or.inl rfl)) (fun _ _ _ _ _ => pts_one (pt_val (pe_callB (r := rIsiN w K) call_isiN (by rfl) T.m_isinstance (by decide +kernel) (pa_cons (pv 6) (pa_cons (pe_bltn (v := .ty "str") (u := .type "str") (by rfl) T.m_str (by decide +kernel) rfl) pa_nil))))) (fun _ _ _ _ _ => pv 6))) pa_nil)) (pe_op op_sub pe_int (pe_call G__law_take (hr.mono (by omega)) (by rfl) T.f__law_take T.F__law_take.kp T.b__law_take .nil pass0 (pa_cons (pv 0) (pa_cons pe_int pa_nil)))) (fun _ _ => rfl))) (pss_one (ps_if (pt_val (pe_call G__law_is_act (hr.mono (by omega)) (by rfl) T.f__law_is_act T.F__law_is_act.kp T.b__law_is_act .nil pass0 (pa_cons (pe_nget (hu9 hr) (pv 1) (pv 5) (fun _ _ => rfl)) pa_nil))) (pss_one (ps_alt (ps_dput (hu1 hr) (pv 1) (pv 5) (pe_call G__law_odd_act (hr.mono (by omega)) (by rfl) T.f__law_odd_act T.F__law_odd_act.kp T.b__law_odd_act .nil pass0 (pa_cons (pv 0) (pa_cons (pe_nget (hu9 hr) (pv 1) (pv 5) (fun _ _ => rfl)) pa_nil))) rfl) (ps_nput (hu10 hr) (pv 1) (pv 5) (pe_call G__law_odd_act (hr.mono (by omega)) (by rfl) T.f__law_odd_act T.F__law_odd_act.kp T.b__law_odd_act .nil pass0 (pa_cons (pv 0) (pa_cons (pe_nget (hu9 hr) (pv 1) (pv 5) (fun _ _ => rfl)) pa_nil))) rfl))) pss_nil))))
    (pss_one (ps_ret (pe_callTy (cr_or (call_dictP rfl) (call_dictN rfl (hu10 hr))) (by rfl) T.m_dict (by decide +kernel) (pa_cons (pe_call G__law_mixed (hr.mono (by omega)) (by rfl) T.f__law_mixed T.F__law_mixed.kp T.b__law_mixed .nil pass0 (pa_cons (pv 0) (pa_cons (pe_listItemsN rfl (pv 1) (by rfl) T.m_list (by rfl)) pa_nil))) pa_nil)))))))), ?_⟩
  refine ⟨_, rfl, b, p, 2, rfl, B, by decide, by decide, fun d H1 l g1 hA sm l1 => ?_⟩
  refine ⟨_, rfl, b, p, 8, rfl, g1.B, by decide, by decide, fun way H2 w0 w1 g2 => ?_⟩
  obtain ⟨ks, hd, hL⟩ := hA
  have ne : ks ≠ [] := fun z => by
    have := hL.len
    rw [z] at this
    simp at this
    omega
  have ml : ActsL (mask d (newof H H1)) ks l := acts_mask hL hd (acts_ref hL) ne (fun p hp => (sm.ok p hp).2.2.2.lo)
  obtain ⟨ek, k2s, ek2, ek3⟩ := acts_nd hL
  have ndk : (ks.map (·.1)).Nodup := by
    rw [ek]
    have := sm.nd
    unfold Nds at this
    unfold List.Nodup at *
    rw [List.pairwise_map]
    exact this.imp fun n z => n (Sum.inr.inj z)
  obtain ⟨zd, hd1⟩ := newof_is hd
  have lk : ks.length ≤ 3 := by rw [hL.len]; exact sm.hi
  have lk1 : 1 ≤ ks.length := by rw [hL.len]; exact l1
  have hd2 := g2.at (B.b_ne zd) hd1
  have nbd : d ≠ b := B.b_ne zd
  refine ⟨_, _, rfl, ?_⟩
  refine ⟨_, rfl, rfl, _, rfl, ite_b (fun c => ?_) (fun c => ?_)⟩
  · -- no dict
    have kM : Same (newof H H1) (mask b H2) := (newof_mask B).trans g2.k
    have ent := acts_ent (w := w) (hL.same kM) sm.ok
    have dM : (mask b H2) d = some (.dK ks) := by rw [mask_ne nbd]; exact hd2
    have D0 : DO w (mask b H2) d (lift ks) := .inl ⟨ks, dM, rfl, ndk⟩
    obtain ⟨ua, ua1, ua2⟩ := mk_thing (w := w) D0 (fun e he => by
      obtain ⟨q, hq, rfl⟩ := List.mem_map.mp he
      obtain ⟨⟨x, e1, e2, e3⟩, _⟩ := ent q hq
      show OddKey _ (kV q.1)
      rw [e1]
      exact .str x e2 (by omega)) (fun e he => by
      obtain ⟨q, hq, rfl⟩ := List.mem_map.mp he
      exact (ent q hq).2) (by rw [lift_len]; omega)
    obtain ⟨uk, uk1, uk2, uk3⟩ := keys_uv (w := w) (M := mask b H2) (ks := ks) fun q hq => (ent q hq).1
    have mk2 : ∀ q ∈ k2s, ((.inr q.1, q.2) : Key × V) ∈ ks := fun q hq => by rw [ek2]; exact List.mem_map.mpr ⟨q, hq, rfl⟩
    have lk2 : k2s.length = ks.length := by rw [ek2]; unfold kS; rw [List.length_map]
    refine ret_of ?_
    refine op_of ?_
    refine lst_useQ (w := w) (C := ThingOk) (H0 := H2) (b := b) (edaq_cons (edq_c (fun _ => .non) (.leaf leaf_non)) (edaq_cons (edq_c (fun _ => .int 5) (.leaf (leaf_int (by decide)))) (edaq_cons (edq_c (fun _ => .bl true) (.leaf (leaf_bl _))) (edaq_cons (edq_nilL (.leaf leaf_nil)) (edaq_cons (edq_nilT ⟨rfl, rfl, fun _ _ => nofun, Nat.zero_le _, (by show 1 ≤ 10; decide)⟩) (edaq_cons (edq_c (fun _ => .str "acts" (by decide +kernel)) (.leaf (leaf_str (by decide +kernel) (by decide)))) (edaq_cons (edq_oneL rfl ua2 ua1.one) (edaq_cons (edq_keys rfl D0 uk1 (.keys uk2 (by omega)) (fun H' k => .inl ⟨ks, .inl (k _ _ hd2), rfl⟩))
      (edaq_cons (edq_sort rfl (ks := k2s) (by rw [← ek2]; exact hd2) (by rw [ek3]; exact sm.nd) (by omega) (by omega) (fun H' k => ?_) (fun q hq => ?_) (fun q hq => (ent _ (mk2 q hq)).2) (fun q hq => ?_) (fun us h1 h2 => .items h1 h2)) edaq_nil))))))))) (Same.refl _) (Bag.bl g2.B) (by decide) (fun vs us H3 lp k3 cu lu hvs hlp => ?_)
    · exact .inr (.inr (.inl ⟨rfl, .inl ⟨_, k _ _ hd2⟩⟩))
    · obtain ⟨⟨x, e1, e2, e3⟩, _⟩ := ent _ (mk2 q hq)
      cases e1
      exact e2
    · obtain ⟨⟨x, e1, e2, e3⟩, _⟩ := ent _ (mk2 q hq)
      cases e1
      exact e3
    have g3 := (g1.trans g2).same k3
    have B3 := g3.B
    refine ⟨_, rfl, b, p, 9, rfl, B3.same (Same.new hlp), by decide, by decide, fun kx H4 x0 x1 g4 => ?_⟩
    have nlb : lp ≠ b := B3.b_ne hlp
    obtain ⟨v, u, a1, a2, a3⟩ := atI_uv hvs x0 x1 lu.symm
    refine ⟨lp, vs, kx, v, rfl, rfl, SqL.of (g4.at nlb upd_same), a1, q v H4 u ((g3.new hlp).trans g4) (cu u a2) ?_⟩
    exact (a3.same ((mask_same (Same.new hlp)).trans g4.k)).same unmask
  clear c
  have m1 := acts_ent (w := w) ml sm.ok
  have O0 : Op w b p (fun _ => none) H 3 (mask d (newof H H1)) H1 d (.dK ks) (lift ks) := by
    refine ⟨⟨B, g1, unmask.trans newof_sub, (fun _ _ e => nomatch e), (fun a o e => .inr (newof_is (unmask _ _ e)).1), ?_⟩, zd, if_pos rfl, hd1, True.intro, (fun M' k e => .inl ⟨ks, e, rfl, ndk⟩), (fun e he => ?_), (fun e he => ?_), (by rw [lift_len]; exact lk), ?_⟩
    · rw [mask_ne nbd.symm]
      obtain ⟨_, _, _, _, hb⟩ := B
      unfold newof
      rw [hb.at_b]
    · obtain ⟨q, hq, rfl⟩ := List.mem_map.mp he
      obtain ⟨⟨x, e1, e2, e3⟩, _⟩ := m1 q hq
      show OddKey _ (kV q.1)
      rw [e1]
      exact .str x e2 (by omega)
    · obtain ⟨q, hq, rfl⟩ := List.mem_map.mp he
      exact (m1 q hq).2
    · obtain ⟨q, hq⟩ := List.exists_mem_of_ne_nil ks ne
      obtain ⟨⟨x, e1, _⟩, _⟩ := m1 q hq
      exact ⟨_, List.mem_map.mpr ⟨q, hq, rfl⟩, x, by show kV q.1 = _; rw [e1]; rfl⟩
  have O2 := O0.go g2
  generalize mask d (newof H H1) = M at O2
  clear m1 O0 ml
  refine ⟨fun σ H' => ∃ o3 M om es, σ = [some (.ref b), some (.ref d), some (.int way), o3, none, none, none] ∧ Op w b p (fun _ => none) H 4 M H' d om es, ?_, ?_⟩
  · refine ⟨_, rfl, rfl, _, rfl, ite_b (fun c => ?_) (fun c => ⟨none, M, _, _, rfl, O2.le (by decide)⟩)⟩
    refine seq_of (t := tAsg _ _) ?_
    refine asg_of ?_
    refine op_of ?_
    refine lst_use (w := w) (edam_cons (edm_str "") (edam_cons (edm_str "A") (edam_cons (edm_str "ninesigns") (edam_cons (edm_str "a b") (edam_cons (edm_int 5) (edam_cons edm_non (edam_cons (edm_bl true) (edam_cons (edm_tup (edam_cons (edm_str "a") edam_nil) (Nat.le_of_ble_eq_true rfl)) (edam_cons (edm_str "a-") (edam_cons (edm_str "zz") (edam_cons (edm_str "a0") (edam_cons (edm_str "a_") edam_nil)))))))))))) (Same.refl M) O2.F (Nat.le_of_ble_eq_true rfl) (fun vs M3 H3 lp zM kM kH F3 hvs hlp => ?_)
    have O3 := (O2.to F3 kM (zM _ _ O2.hd O2.nM) (kH _ _ O2.hd)).same (Same.new (o := .lst vs) hlp)
    refine ⟨_, rfl, b, p, 12, rfl, O3.F.g.B, by decide, by decide, fun kx H4 x0 x1 g4 => ?_⟩
    have O4 := O3.go g4
    have nlb : lp ≠ b := F3.g.B.b_ne hlp
    obtain ⟨y, uy, a1, a2, a3⟩ := atI_uv hvs x0 x1 rfl
    have oy : OddKey M3 y := by
      simp only [List.mem_cons, List.not_mem_nil, or_false] at a2
      rcases a2 with rfl | rfl | rfl | rfl | rfl | rfl | rfl | rfl | rfl | rfl | rfl | rfl
      all_goals first
        | (cases a3; exact .str _ (by decide +kernel) (by decide))
        | (cases a3; exact .int _ (by decide))
        | (cases a3; exact .non)
        | (cases a3; exact .bl _)
        | skip
      cases a3 with
      | tup t1 t2 =>
      cases t2 with
      | cons t3 t4 =>
      cases t4
      cases t3
      exact .tup _ _ t1 (by decide +kernel) (by decide)
    refine ⟨lp, vs, kx, y, rfl, rfl, SqL.of (g4.at nlb upd_same), a1, ?_⟩
    refine gname_of ?_
    dsimp only
    refine put_op (w := w) (R := fun v H1 => ∃ M1, Same M3 M1 ∧ Op w b p (fun _ => none) H 3 M1 H1 d (.dK ks) (lift ks) ∧ ∃ u, SmA u ∧ Uv w M1 v u) (fun Q q => ?_) (fun H1 Q h => ⟨_, rfl, h⟩) (fun H1 Q h => ⟨_, rfl, h⟩) O4 oy (by decide) (fun v H1 h => h) (fun H2 M1 om' es' k1 O => ⟨_, M1, om', es', rfl, O⟩)
    refine edm_tup (w := w) (edam_cons (edm_int 0) (edam_cons (edm_disp (by decide +kernel)) edam_nil)) (Nat.le_of_ble_eq_true rfl) M3 H4 Q (Same.refl _) O4.F (fun v M5 H5 z5 k5 kH5 F5 hv5 => q v H5 ⟨M5, k5, O4.to F5 k5 (z5 _ _ O4.hd O4.nM) (kH5 _ _ O4.hd), _, sma_ok, hv5⟩)
  · rintro σ H3 ⟨o3, M3, om, es, rfl, O3⟩
    clear O2
    dsimp only
    refine seq_of (t := tFor _ _ _) ?_
    refine ⟨_, rfl, b, p, 3, rfl, O3.F.g.B, by decide, by decide, fun n H4 y0 y1 g4 => ⟨n, rfl, by omega, by omega, ?_⟩⟩
    have O4 := O3.go g4
    clear O3
    refine for_range (fun i σ H' => ∃ o3 o4 o5 M om es, σ = [some (.ref b), some (.ref d), some (.int way), o3, o4, o5, none] ∧ i ≤ n.toNat ∧ Op w b p (fun _ => none) H (4 + i) M H' d om es) ⟨o3, none, none, M3, om, es, rfl, Nat.zero_le _, O4⟩ ?_ ?_
    · clear O4
      rintro i σ H5 hi ⟨o3, o4, o5, M, om, es, rfl, _, O⟩
      refine gname_of ?_
      dsimp only
      refine seq_of (t := tAsg _ _) ?_
      refine asg_of ?_
      have dd := O.do
      have lne := O.hl
      obtain ⟨u, hu, mu, n1, n2, ti⟩ := keys_ti (w := w) (σ := [some (.ref b), some (.ref d), some (.int way), o3, some (.int (0 + (i : Nat))), o5, none]) (td := tVar 1) (fun Q H' h => ⟨_, rfl, h⟩) dd
      refine ⟨d, u, hu, mu, fun od => ti od _ (dd.locked od hu n1) fun J wk Dl hD => ?_⟩
      have hLk : (upd H5 d (.frz od u)) d = some (.frz od u) := upd_same
      have kL : Same M (upd H5 d (.frz od u)) := fun a o e => by
        rw [upd_ne (fun c => by rw [c, O.nM] at e; cases e)]
        exact O.F.sub _ _ e
      let f : Nat → V := fun i => ((es.map fun e => e.2.1)[i]?).getD .non
      have hf : ∀ (i : Nat) (v : V), (es.map fun e => e.2.1)[i]? = some v → f i = v := fun i v e => by show ((es.map fun e => e.2.1)[i]?).getD .non = v; rw [e]; rfl
      refine lc_itK wk f (fun i => isSV (f i)) hD (by omega) (fun H' k => k _ _ upd_same) (fun i2 y H' H2 R Nx hi k yy r rn => ?_) (fun H' k hl2 => ?_)
      · obtain ⟨rfl, kk, vv, e1⟩ := yy
        have e2 : (es.map fun e => e.2.1)[i2]? = some y := by rw [List.getElem?_map, e1]; rfl
        rw [hf i2 y e2] at r rn
        obtain ⟨du, l1, l2, l3⟩ := (O.hk _ (List.mem_of_getElem? e1)).isS (w := w)
        have l2 : Uv w M y du := l2
        have l3 : isStr du = isSV y := l3
        rw [← l3] at r rn
        refine ⟨rfl, ?_⟩
        refine ⟨_, rfl, _, _, _, _, _, rfl, .ty _, (l2.same (kL.trans k)).ty, kit_str du, _, rfl, ite_b (fun c => ?_) (fun c => ?_)⟩
        · exact ⟨_, rfl, r c _ (Same.refl _)⟩
        · exact rn c _ (Same.refl _)
      refine ⟨k _ _ upd_same, ?_⟩
      have nd : Dl ≠ d := fun z => by rw [z, upd_same] at hD; cases hD
      have k1 := lock_back hu k
      have hl3 : (upd H' d u) Dl = some (.lst (((List.range es.length).filter fun i => isSV (f i)).map f)) := by rw [upd_ne nd]; exact hl2
      obtain ⟨xs, x1, x2, x3, x4⟩ := strs_of es f hf
      rw [x1] at hl3
      generalize upd H' d u = H6 at k1 hl3 ⊢
      clear hl2 k ti
      have O6 := O.same k1
      refine ⟨Dl, xs, rfl, SqL.of hl3, by omega, fun ys pl perm srt hpl => ?_⟩
      have O7 := O6.same (Same.new (o := .lst (ys.map V.str)) hpl)
      have nlp : pl ≠ b := O6.F.g.B.b_ne hpl
      refine ⟨_, rfl, b, p, 2, rfl, O7.F.g.B, by decide, by decide, fun k2 H8 z0 z1 g8 => ⟨0, k2, rfl, rfl, ?_⟩⟩
      have O8 := O7.go g8
      have ny : ys ≠ [] := fun z => x4 O.hs (by rw [z] at perm; exact perm.symm.eq_nil)
      obtain ⟨nm, nm1, nm2⟩ := at_last ny z0 z1
      refine ⟨pl, _, _, .str nm, rfl, rfl, SqL.of (g8.at nlp upd_same), nm2, ?_⟩
      refine gname_of ?_
      dsimp only
      have hnm := x3 nm (perm.mem_iff.mp nm1)
      obtain ⟨j, v, hj, uv, su, huv⟩ := O8.named hnm
      generalize upd H6 pl (.lst (ys.map V.str)) = H7 at g8 O7
      refine ⟨_, rfl, _, rfl, d, es, .text nm, j, .str nm, v, rfl, O8.do.da, .str nm, hj, v, uv, rfl, huv.same O8.F.sub, su.g, su.s, fun H9 k9 => ⟨_, rfl, ite_b (fun c => ?_) (fun c => ?_)⟩⟩
      · have O9 := O8.same k9
        refine put_op (w := w) (R := fun v H1 => ∃ M1, Same M M1 ∧ Op w b p (fun _ => none) H (4 + i) M1 H1 d om es ∧ ∃ u, SmA u ∧ Uv w M1 v u) (fun Q q => ?_) (fun H1 Q h => ⟨_, rfl, h⟩) (fun H1 Q h => ⟨_, rfl, h⟩) O9 ?_ (by omega) (fun v H1 h => h) (fun H2 M1 om' es' k1 O => ⟨_, _, _, M1, om', es', rfl, by omega, O⟩)
        · refine ⟨_, rfl, _, rfl, _, rfl, d, es, .text nm, j, .str nm, v, rfl, O9.do.da, .str nm, hj, ?_⟩
          refine ⟨b, p, M, v, uv, rfl, O9.F.g.B, O9.F.sub, O9.F.nb, huv, c, su.g, fun v' H' u' g s1 h1 => q v' H' ⟨_, ovl_base, O9.to (O9.F.ovl g) ovl_base (ovl_none O9.nM O9.hd) (g.at O9.nb O9.hd), u', s1, h1⟩⟩
        · obtain ⟨e, he, ee⟩ := hnm
          have := O9.hk e he
          rw [ee] at this
          exact this
      · exact ⟨_, _, _, M, om, es, rfl, by omega, (O8.same k9).le (by omega)⟩
    · rintro σ H5 ⟨o3', o4, o5, M, om', es', rfl, ln, O⟩
      have O := O.le (m := 6) (by omega)
      clear O4
      have lne := O.hl
      dsimp only
      refine ret_of ?_
      refine ⟨_, rfl, _, rfl, d, es', rfl, O.do.da, fun H6 p5 ts k6 hp5 np5 hts npt hl5 hpa => ?_⟩
      have O6 := O.same k6
      have lts := hpa.length
      rw [List.length_map] at lts
      have nb5 : p5 ≠ b := O.F.g.B.b_ne hp5
      refine ⟨b, p, p5, ts.map V.ref, rfl, O6.F.g.B, nb5, hl5, by rw [List.length_map]; omega, fun l6 H7 zs g7 hz pm => ?_⟩
      have O7 := O6.go g7
      obtain ⟨zl6, al6⟩ := newof_is hz
      -- the pairs in their new order
      have ez : ts.map V.ref = (ts.zip es').map fun q => V.ref q.1 := by
        have : (ts.zip es').map (fun q => V.ref q.1) = ((ts.zip es').map Prod.fst).map V.ref := by rw [List.map_map]; rfl
        rw [this, List.map_fst_zip (by omega)]
      obtain ⟨L, pL, eL⟩ := perm_back pm ez
      have hat : ∀ q ∈ L, H7 q.1 = some (.tup [q.2.2.1, q.2.2.2]) := fun q hq => by
        have hq2 : q ∈ ts.zip es' := pL.mem_iff.mp hq
        obtain ⟨j, hj⟩ := List.mem_iff_getElem?.mp hq2
        rw [List.getElem?_zip_eq_some] at hj
        have h1 := paired_at hpa hj.1 (y := q.2.2) (by rw [List.getElem?_map, hj.2]; rfl)
        have nq : q.1 ≠ b := O.F.g.B.b_ne (hts q.1 (List.mem_of_getElem? hj.1))
        exact g7.at nq h1
      have pe : (L.map (·.2)).Perm es' := by
        have := pL.map (fun q : Addr × (NestedKey × V × V) => q.2)
        rw [show (ts.zip es').map (fun q : Addr × (NestedKey × V × V) => q.2) = es' from List.map_snd_zip (by omega)] at this
        exact this
      rw [eL] at al6
      have al7 : H7 l6 = some (.lst ((L.map (·.1)).map V.ref)) := by rw [List.map_map]; exact al6
      have d7 := O7.do
      rw [show (DO w H7 d es') = ((∃ kvs : List (Key × V), H7 d = some (.dK kvs) ∧ es' = lift kvs ∧ (kvs.map (·.1)).Nodup) ∨ (H7 d = some (.ext (rawP w d es')) ∧ KeysN H7 es' ∧ ∃ x ∈ es', ∀ y, x.2.1 ≠ .str y)) from rfl] at d7
      rcases d7 with ⟨kvs, _, e2, ndk2⟩ | ⟨_, kn7, odd⟩
      · subst e2
        obtain ⟨kvs', pk, ek'⟩ := perm_back (f := fun p : Key × V => (nkOf p.1, kV p.1, p.2)) pe rfl
        have lL : L.length = kvs'.length := by
          have := congrArg List.length ek'
          rw [List.length_map, List.length_map] at this
          exact this
        have lk' : kvs'.length ≤ 6 := by rw [pk.length_eq]; rw [lift_len] at lne; exact lne
        refine .inl ⟨l6, L.map (·.1), kvs', rfl, SqL.of al7, paired_of (by rw [List.length_map]; exact lL) (fun i2 x y h1 h2 => ?_), fun mk hmk => ?_⟩
        · rw [List.getElem?_map] at h1
          obtain ⟨q, hq, rfl⟩ := Option.map_eq_some_iff.mp h1
          have h3 : (L.map (·.2))[i2]? = some (nkOf y.1, kV y.1, y.2) := by rw [ek', List.getElem?_map, h2]; rfl
          rw [List.getElem?_map, hq] at h3
          have h4 : q.2 = (nkOf y.1, kV y.1, y.2) := Option.some.inj h3
          have h5 := hat q (List.mem_of_getElem? hq)
          rw [h4] at h5
          exact SqT.of h5
        · have kk : Same M (upd H7 mk (.dK (mergeK [] kvs'))) := O7.F.sub.trans (Same.new hmk)
          obtain ⟨u, u1, u2⟩ := mk_thing (w := w) (M := upd H7 mk (.dK (mergeK [] kvs'))) (a := mk) (es := lift (mergeK [] kvs')) (.inl ⟨_, upd_same, rfl, mergeK_nd List.nodup_nil⟩) (fun e he => by
            obtain ⟨z, hz2, rfl⟩ := List.mem_map.mp he
            rcases (mergeK_mem hz2).1 with t | t
            · obtain ⟨y, hy, ey⟩ := List.mem_map.mp t
              have := O.hk _ (List.mem_map.mpr ⟨y, pk.mem_iff.mp hy, rfl⟩)
              have e4 : OddKey M (kV y.1) := this
              show OddKey _ (kV z.1)
              rw [← ey]
              exact e4.same kk
            · exact (List.not_mem_nil t).elim) (fun e he => by
            obtain ⟨z, hz2, rfl⟩ := List.mem_map.mp he
            rcases (mergeK_mem hz2).2 with t | t
            · obtain ⟨y, hy, ey⟩ := List.mem_map.mp t
              obtain ⟨u, v1, v2⟩ := O.hv _ (List.mem_map.mpr ⟨y, pk.mem_iff.mp hy, rfl⟩)
              have v3 : Uv w M y.2 u := v2
              refine ⟨u, v1, ?_⟩
              show Uv w _ z.2 u
              rw [← ey]
              exact v3.same kk
            · exact (List.not_mem_nil t).elim) (by rw [lift_len]; have := length_mergeK kvs' []; rw [List.length_nil] at this; omega)
          exact q _ _ u (O7.F.g.new hmk) u1.ok u2
      · refine .inr ⟨l6, L.map (·.1), L.map (·.2), rfl, al7, paired_of (by simp) (fun i2 x y h1 h2 => ?_), ⟨fun x hx => O7.nk x (pe.mem_iff.mp hx), (pe.map _).nodup_iff.mpr kn7.2⟩, fun mk hmk nmk => ?_⟩
        · rw [List.getElem?_map] at h1
          obtain ⟨q, hq, rfl⟩ := Option.map_eq_some_iff.mp h1
          rw [List.getElem?_map, List.getElem?_map, hq] at h2
          have h4 : q.2.2 = y := Option.some.inj h2
          have h5 := hat q (List.mem_of_getElem? hq)
          rw [← h4]
          exact h5
        · have k7 : Same H7 (upd H7 mk (.ext (rawP w mk (L.map (·.2))))) := Same.new hmk
          have kk : Same M (upd H7 mk (.ext (rawP w mk (L.map (·.2))))) := O7.F.sub.trans k7
          obtain ⟨u, u1, u2⟩ := mk_thing (w := w) (M := upd H7 mk (.ext (rawP w mk (L.map (·.2))))) (a := mk) (es := L.map (·.2)) (.inr ⟨upd_same, ⟨fun x hx => (O7.nk x (pe.mem_iff.mp hx)).same k7, (pe.map _).nodup_iff.mpr kn7.2⟩, by
            obtain ⟨x, hx, nx⟩ := odd
            exact ⟨x, pe.mem_iff.mpr hx, nx⟩⟩) (fun e he => (O.hk e (pe.mem_iff.mp he)).same kk) (fun e he => by
            obtain ⟨u, v1, v2⟩ := O.hv e (pe.mem_iff.mp he)
            exact ⟨u, v1, v2.same kk⟩) (by rw [pe.length_eq]; omega)
          exact q _ _ u (O7.F.g.new hmk) u1.ok u2
end
end K21
set_option maxRecDepth 100000
set_option maxHeartbeats 2000000
/-! (x,) * k, for a greater k -/
namespace Fm
open PySem PySem.Spec PyProof.Rows L2
def rRepB (K : PySem.W.Frag) : R2 := fun x y H Q => ∃ l k v, x = .ref l ∧ y = .int k ∧ SqT K H l [v] ∧ 2 ≤ k ∧ k ≤ 100000 ∧ ∀ p, H p = none → Q (.ref p) (upd H p (.tup (List.replicate k.toNat v)))
section
variable {X : Cx}
theorem op_repB : OpR X (binaryOp .Mult) (rRepB X.K) := by
  intro pins s σ H x y v u Q I rx ry h
  obtain ⟨l, k, v1, rfl, rfl, hT, h1, h2, q⟩ := h
  cases rx
  obtain ⟨t, rfl⟩ := ry
  obtain ⟨its, r, ⟨⟨cls, dd, data, sl⟩, ho, hc, n, hd⟩, hs⟩ := I.tuple hT
  simp only at hc hd
  subst hc hd
  obtain ⟨w1, rfl, rw1⟩ := r.one
  have c0 : (decide (k < -(2 ^ 63)) || decide (k ≥ 2 ^ 63)) = false := by
    rw [decide_eq_false (by omega), decide_eq_false (by omega)] <;> rfl
  have c1 : (([w1] : List Value).toArray.isEmpty || k == 1) = false := by
    show (false || k == 1) = false
    rw [Bool.false_or]
    exact beq_eq_false_iff_ne.mpr (by omega)
  have c2 : (decide (k ≤ 0) || ([w1] : List Value).toArray.isEmpty) = false := by
    show (decide (k ≤ 0) || false) = false
    rw [Bool.or_false]
    exact decide_eq_false (by omega)
  have hm : ((([w1] : List Value).toArray.size : Nat) : Int) * k ≤ 1000000 := by
    show ((1 : Nat) : Int) * k ≤ 1000000
    omega
  have c4 : Builtin.Tuple.tupleTooMany (((([w1] : List Value).toArray.size : Nat) : Int) * k) = false := by
    unfold Builtin.Tuple.tupleTooMany
    rw [sizeLine_eq]
    exact decide_eq_false (by omega)
  have fl : ∀ {α : Type} (a : α) (m : Nat), (List.replicate m [a]).flatten = List.replicate m a := fun a m => by
    induction m with
    | zero => rfl
    | succ m ih => rw [List.replicate_succ, List.flatten_cons, ih, List.replicate_succ]; rfl
  have flen : (List.replicate k.toNat ([w1] : List Value)).flatten.length ≤ sizeLine := by
    rw [fl, List.length_replicate, sizeLine_eq]
    omega
  refine wpAny_binaryOp_repeat_ref (T := "tuple") (U := "int") (by decide) ⟨_, ho, rfl⟩ (fun s' => typeIs_int s' k t) noFill_tuple_mul F.fills_int_mul F.slot_int_rmul repeat_tuple F.slot_int_index.lookup
    (call_meets F.slot_int_rmul (typeIs_int s k t) F.entry_int_rmul (F.args_int_rmul_2 _ _) (int_rmul_tuple k t l ([w1] : List Value).toArray n dd sl)
      ⟨ho, rfl, ⟨_, ho, rfl⟩, call_meets F.slot_tuple_mul ⟨_, ho, rfl⟩ F.entry_tuple_mul (F.args_tuple_mul_2 _ _) (tuple_mulW l ([w1] : List Value).toArray n dd sl k t c0 c1 c2 (by omega) c4 (by rw [size_rep, List.size_toArray]; exact flen)) ⟨ho, ?_⟩⟩)
  rw [size_rep]
  refine ⟨.ref s.heap.objs.size, _, I.laid (t' := s.toks) (o := .tup (List.replicate k.toNat v1)) (fun b ob q => Heap.get?_push_of_some _ q) (Nat.le_refl _) ?_, rfl, q _ (I.hok.fresh (Nat.le_refl _))⟩
  refine ⟨by rw [List.length_replicate, sizeLine_eq]; omega, _, ?_, IsTup.new _ _⟩
  have rr := r.rep k.toNat
  rw [fl] at rr
  exact rr
end
end Fm
set_option maxRecDepth 100000
set_option maxHeartbeats 2000000
/-! [x] * k: a list behind the table of modules -/
namespace NkD
open PySem PySem.Spec PyProof.Rows L2 Fm
def rRepL : R2 := fun x y H Q => ∃ l k v, x = .ref l ∧ y = .int k ∧ H l = some (.lst [v]) ∧ 2 ≤ k ∧ k ≤ 100000 ∧ ∀ p, H p = none → p ≠ sysModules → Q (.ref p) (upd H p (.lst (List.replicate k.toNat v)))
section
variable {X : Cx}
theorem op_repL : OpR X (binaryOp .Mult) rRepL := by
  intro pins s σ H x y v u Q I rx ry h
  obtain ⟨l, k, v1, rfl, rfl, hT, h1, h2, q⟩ := h
  cases rx
  obtain ⟨t, rfl⟩ := ry
  obtain ⟨z, its, n, r, _, ho⟩ := I.lstM hT
  obtain ⟨w1, rfl, rw1⟩ := r.one
  have kt : k.toNat ≤ 100000 := by omega
  have one : ([w1] : List Value).toArray.size * k.toNat = k.toNat := by
    show 1 * k.toNat = _
    omega
  have c1 : ¬ (!Builtin.List.listFitsIndex k) = true := by
    rw [fitsIndex_both (by omega) (by omega)]
    exact Bool.false_ne_true
  have c2 : ¬ ([w1] : List Value).toArray.size * k.toNat > (2 ^ 63 - 1) / 8 := by
    rw [one]
    omega
  have c3 : ¬ Builtin.List.listTooLong (([w1] : List Value).toArray.size * k.toNat) = true := by
    rw [notLongL (by rw [one, sizeLine_eq]; omega)]
    exact Bool.false_ne_true
  have fl : ∀ {α : Type} (a : α) (m : Nat), (List.replicate m [a]).flatten = List.replicate m a := fun a m => by
    induction m with
    | zero => rfl
    | succ m ih => rw [List.replicate_succ, List.flatten_cons, ih, List.replicate_succ]; rfl
  refine wpAny_binaryOp_repeat_ref (T := "list") (U := "int") (by decide) ⟨_, ho, rfl⟩ (fun s' => typeIs_int s' k t) noFill_list_mul F.fills_int_mul F.slot_int_rmul repeat_list F.slot_int_index.lookup
    (call_meets F.slot_int_rmul (typeIs_int s k t) F.entry_int_rmul (F.args_int_rmul_2 _ _) (int___rmul___int_list k t l ([w1] : List Value).toArray n)
      ⟨ho, rfl, ⟨_, ho, rfl⟩, call_meets F.slot_list_mul ⟨_, ho, rfl⟩ F.entry_list_mul (F.args_list_mul_2 _ _) (AutoListH.list___mul___list_int_3 l ([w1] : List Value).toArray n k t c1 c2 c3) ⟨ho, ?_⟩⟩)
  have big := I.big
  have hnew : List.foldl (fun x1 x2 => x1 ++ x2) #[] (List.replicate (if ([w1] : List Value).toArray.isEmpty = true then 0 else k.toNat) ([w1] : List Value).toArray) = (List.replicate k.toNat w1).toArray := by
    rw [if_neg (by simp)]
    have f0 := foldl_rep [w1] k.toNat []
    rw [List.nil_append, fl] at f0
    exact f0
  rw [hnew]
  have rr := r.rep k.toNat
  rw [fl, fl] at rr
  exact ⟨.ref s.heap.objs.size, _, I.laid (t' := s.toks) (o := .lst (List.replicate k.toNat v1)) (fun b ob e => Heap.get?_push_of_some _ e) (Nat.le_refl _) ⟨by rw [List.length_replicate, sizeLine_eq]; omega, _, 0, rr, Heap.get?_push_size _ rfl⟩, rfl, q _ (I.hok.fresh (Nat.le_refl _)) (fun y => by rw [y] at big; exact Nat.lt_irrefl _ big)⟩
end
end NkD
set_option maxRecDepth 100000
set_option maxHeartbeats 4000000
namespace K21
open PySem L2 Fm NkD
section
variable {P : Program} {w : World} {K : PySem.W.Frag} {mg : Str → Option Value} {base : Heap} (T : Txt K mg)
theorem shown_u {d : U} (h : good d = true) (hw : wt d ≤ 300000) : (pd d).shown.length ≤ sizeLine := by
  obtain ⟨h1, h2, h3, h4⟩ := pd_good d h
  have e := PyData.shown_le 41 (by decide) (pd d) h2
  have e3 : sizeLine = 16777216 := by decide
  omega
theorem act_data {n : Str} (h : PyData.strOk n = true) (l : n.length ≤ 100) : SeqAt.shaped (.tuple [.str "act", .str n]) = true ∧ (PyData.tuple [.str "act", .str n]).showable = true ∧ (PyData.tuple [.str "act", .str n]).hasDict = false ∧ (PyData.tuple [.str "act", .str n]).depth ≤ 60 ∧ (PyData.tuple [.str "act", .str n]).shown.length ≤ sizeLine := by
  have g : good (.tup [.str "act", .str n]) = true := by
    show (good (.str "act") && (good (.str n) && true)) = true
    rw [(leaf_str h l).g, (leaf_str (x := "act") (by decide +kernel) (by decide)).g]
    rfl
  have ly := lay_strs (xs := ["act", n]) (by
    intro x hx
    rcases List.mem_cons.mp hx with rfl | hx
    · decide +kernel
    · rw [List.mem_singleton.mp hx]
      exact h)
  have dz : (PyData.tuple [.str "act", .str n]).depth ≤ 60 := by simp [PyData.depth, PyData.depthAll]
  refine ⟨?_, (pd_good _ g).1, by simp [PyData.hasDict, PyData.hasDictAll], dz, shown_u g (by show 100 + 1 + (100 + 1 + 0) ≤ 300000; decide)⟩
  unfold SeqAt.shaped
  rw [Bool.and_eq_true, decide_eq_true_eq]
  exact ⟨by simpa [PyData.canLay0] using ly, by omega⟩
theorem names_of {ks vs : List U} (h : ks.all nameU = true) : ∀ k ∈ ks, ∃ x, k = .str x := fun k hk => by
  have := List.all_eq_true.mp h k hk
  cases k with
  | str x => exact ⟨x, rfl⟩
  | _ => exact nomatch this
/-- what is heard is what is due -/
theorem heard_due {σ : L2.St} {i : Nat} {v : V} {u : U} {H : Hp} {Q : VK} (e : σ[i]? = some (some v)) (hv : Uv w H v u) (tu : ThingOk u) (q : ∀ H', Same H H' → Q (.bl true) H') :
    tCons (tCall (spHeard w) [] E0 (tCons (tVar i) tNil)) (tCons (tCall (spDue w) [] E0 (tCons (tVar i) tNil)) tNil) σ H fun vs H1 => spAlike K vs H1 Q E0 := by
  have aw : ∀ H' a c, Same H H' → H' a = some (.tup [.str "wrong", .int 0]) → H' c = some (.tup [.str "wrong", .int 0]) → spAlike K [.ref a, .ref c] H' Q E0 := fun H' a c k h1 h2 =>
    ⟨_, _, .tuple [.str "wrong", .int 0], rfl, .tup (SqT.of h1) (.cons (.str _) (.cons (.int _) .nil)), .tup (SqT.of h2) (.cons (.str _) (.cons (.int _) .nil)), by decide +kernel, by decide +kernel, by decide +kernel, by decide +kernel, by decide +kernel, q H' k⟩
  have tg := tu.g
  have td := tu.d
  cases nu : namesU u with
  | false =>
    refine ⟨_, e, v, u, rfl, hv, tg, tu.s, tu.n, fun _ H' t k ht => ?_, fun l ys nm nt => absurd (nu.symm.trans nt) (fun z => nomatch z)⟩
    refine ⟨_, e, v, u, rfl, hv.same k, tg, tu.s, tu.n, by omega, fun _ H2 t2 k2 ht2 => aw H2 t t2 (k.trans k2) (k2 _ _ ht) ht2, fun l ys nm nt => absurd (nu.symm.trans nt) (fun z => nomatch z)⟩
  | true =>
    refine ⟨_, e, v, u, rfl, hv, tg, tu.s, tu.n, fun nf => absurd (nf.symm.trans nu) (fun z => nomatch z), fun l ys nm nt pm srt => ⟨fun n hn H' t k ht => ?_, fun hn H' k => ?_⟩⟩
    · refine ⟨_, e, v, u, rfl, hv.same k, tg, tu.s, tu.n, by omega, fun nf => absurd (nf.symm.trans nu) (fun z => nomatch z), fun l2 ys2 nm2 nt2 pm2 srt2 => ?_⟩
      obtain rfl := nm.inj nm2
      obtain rfl := sorted_one srt srt2 (pm.trans pm2.symm)
      refine ⟨fun n2 hn2 H2 t2 k2 ht2 => ?_, fun hn2 => absurd (hn.symm.trans hn2) (fun z => nomatch z)⟩
      cases Option.some.inj (hn.symm.trans hn2)
      have mem : n ∈ l.map (·.1) := pm.mem_iff.mp (List.mem_of_find?_eq_some hn)
      obtain ⟨q1, hq1, eq1⟩ := List.mem_map.mp mem
      have okn : PyData.strOk n = true := by rw [← eq1]; exact nm.ok q1 hq1
      have ln : n.length ≤ 100 := by
        have g1 : good (.str n) = true := by
          have := nm.eq
          rw [this] at tg
          simp only [good, Bool.and_eq_true] at tg
          exact goods_mem tg.1 _ (List.mem_map.mpr ⟨q1, hq1, by rw [eq1]⟩)
        simp only [good, Bool.and_eq_true, decide_eq_true_eq] at g1
        exact g1.2
      obtain ⟨d1, d2, d3, d4, d5⟩ := act_data okn ln
      exact ⟨_, _, .tuple [.str "act", .str n], rfl, .tup (SqT.of (k2 _ _ ht)) (.cons (.str _) (.cons (.str _) .nil)), .tup (SqT.of ht2) (.cons (.str _) (.cons (.str _) .nil)), d1, d2, d3, d4, d5, q H2 (k.trans k2)⟩
    · refine ⟨_, e, v, u, rfl, hv.same k, tg, tu.s, tu.n, by omega, fun nf => absurd (nf.symm.trans nu) (fun z => nomatch z), fun l2 ys2 nm2 nt2 pm2 srt2 => ?_⟩
      obtain rfl := nm.inj nm2
      obtain rfl := sorted_one srt srt2 (pm.trans pm2.symm)
      refine ⟨fun n2 hn2 => absurd (hn2.symm.trans hn) (fun z => nomatch z), fun _ H2 k2 => ?_⟩
      exact ⟨_, _, .none, rfl, .non, .non, by decide +kernel, by decide +kernel, by decide +kernel, by decide +kernel, by decide +kernel, q H2 (k.trans k2)⟩
def nest : Nat → U
  | 0 => .int 0
  | n + 1 => .lst [nest n]
theorem nest_good : ∀ n, good (nest n) = true
  | 0 => by decide
  | n + 1 => by
    show (good (nest n) && true) = true
    rw [nest_good n]
    rfl
theorem uvl_rep {H : Hp} : ∀ n : Nat, UvL w H (List.replicate n .non) (List.replicate n .non)
  | 0 => .nil
  | n + 1 => .cons .non (uvl_rep n)
theorem rep_good (n : Nat) : goods (List.replicate n .non) = true := goods_of fun d hd => by rw [(List.mem_replicate.mp hd).2]; rfl
/-- no dict, and such a thing in the place of an act -/
theorem heard_bad {σ : L2.St} {v : V} {us : List U} {H : Hp} {Q : VK} (e : σ[3]? = some (some v)) (hv : Uv w H v (.lst us)) (g : goods us = true)
    (q : ∀ H' l t1 t2, H' l = some (.lst [.ref t1, .ref t2]) → H' t1 = some (.tup [.str "wrong", .int 0]) → H' t2 = some (.tup [.str "act", .str "zz"]) → Same H H' → Q (.ref l) H') :
    tLst (tCons (tCall (spHeard w) [] E0 (tCons (tVar 3) tNil)) (tCons (tCall (spHeard w) [] E0 (tCons (tDisp [(tC (.str "zz"), tVar 3)]) tNil)) tNil)) σ H Q := by
  refine ⟨_, e, v, .lst us, rfl, hv, g, rfl, (fun _ _ => nofun), fun _ H1 t1 k1 ht1 => ?_, (fun l ys nm nt => nomatch nt)⟩
  refine fun dz hdz => ⟨_, e, upd_same, [(.inr "zz", v)], rfl, Nat.le_of_ble_eq_true rfl, ?_⟩
  have k2 : Same H1 (upd (upd H1 dz (.dK [])) dz (.dK (mergeK [] [(.inr "zz", v)]))) := Same.upd (Same.new hdz) hdz
  have zk : PyData.strOk "zz" = true := by decide +kernel
  refine ⟨.ref dz, .dic [.str "zz"] [.lst us], rfl, .dic (es := lift [((.inr "zz" : Key), v)]) (.inl ⟨_, upd_same, rfl, mergeK_nd List.nodup_nil⟩) (.cons (.str _ zk) .nil) (.cons (hv.same (k1.trans k2)) .nil), ?_, ?_, fun ks vs e => by cases e; exact Nat.le_of_ble_eq_true rfl, fun nf => ?_, fun l ys nm nt pm srt => ?_⟩
  · show ((good (.str "zz") && true) && (goods us && true)) = true
    rw [g, (leaf_str zk (by decide)).g]
    rfl
  · rfl
  · have zn : namesU (.dic [.str "zz"] [.lst us]) = true := by
      show ([U.str "zz"].all nameU) = true
      decide +kernel
    exact absurd (nf.symm.trans zn) (fun z => nomatch z)
  have nm0 : Names (.dic [.str "zz"] [.lst us]) [("zz", .lst us)] := ⟨rfl, by simp, fun p hp => by rw [List.mem_singleton.mp hp]; exact zk⟩
  obtain rfl := nm.inj nm0
  have ey : ys = (["zz"] : List Str) := List.perm_singleton.mp pm
  subst ey
  have eb : badIn [("zz", .lst us)] "zz" = true := by
    unfold badIn
    rw [show List.lookup ("zz" : Str) [(("zz" : Str), U.lst us)] = some (.lst us) by simp [List.lookup]]
    rfl
  have ef : (["zz"] : List Str).find? (badIn [("zz", .lst us)]) = some ("zz" : Str) := by
    simp only [List.find?, eb]
  refine ⟨fun n hn H2 t2 k3 ht2 => ?_, fun hn => absurd (hn.symm.trans ef) (fun z => nomatch z)⟩
  cases Option.some.inj (ef.symm.trans hn)
  refine ⟨(by show 2 ≤ sizeLine; decide), fun l hl => ?_⟩
  have k4 := Same.new (o := .lst [.ref t1, .ref t2]) hl
  exact q _ l t1 t2 upd_same (k4 _ _ (k3 _ _ (k2 _ _ ht1))) (k4 _ _ ht2) (k1.trans (k2.trans (k3.trans k4)))
theorem ok_law (Kw : WKit T) (Kx : XKit T) : FnG P w K mg base 64 T.a_law T.d_law ["_law_script"] (spLaw K) := by
  have G__law_bag := ok_law_bag (P := P) (w := w) (base := base) T
  have G__law_thing := ok_law_thing (P := P) (w := w) (base := base) T
  have G__law_alike := ok_law_alike (P := P) (w := w) (base := base) T
  have G__law_heard := ok_law_heard (P := P) (w := w) (base := base) T Kw Kx
  have G__law_due := ok_law_due (P := P) (w := w) (base := base) T
  refine fnG T.F_law sc_law ?_ (fun cdv A outer s H vs Q gd hr h => ?_)
  · rintro vs H Q E ⟨lp, xs, rfl, _⟩
    rfl
  obtain ⟨lp, xs, rfl, hxs, z, q⟩ := h
  refine ⟨_, 
    (pss_cons (ps_set (i := 1) sc_law.nd rfl (Or.inl rfl) (pe_call G__law_bag (hr.mono (by omega)) (by rfl) T.f__law_bag T.F__law_bag.kp T.b__law_bag .nil pass0 (pa_cons (pv 0) pa_nil)))
    (pss_cons (ps_for PassesOwn.never rfl (pi_range1 (by rfl) T.m_range (pa_cons pe_int pa_nil)) (pg_name (i := 2) sc_law.nd rfl (Or.inl rfl)) (pss_cons (ps_set (i := 3) sc_law.nd rfl (Or.inl rfl) (pe_call G__law_thing (hr.mono (by omega)) (by rfl) T.f__law_thing T.F__law_thing.kp T.b__law_thing .nil pass0 (pa_cons (pv 1) pa_nil))) (pss_cons (ps_set (i := 4) sc_law.nd rfl (Or.inl rfl) (pe_callB (call_reprU hr gd) (by rfl) T.m_repr (by decide +kernel) (pa_cons (pv 3) pa_nil))) (pss_one (ps_if (PW.pt (pw_or (pt_not (pt_val (pe_callG G__law_alike (hr.mono (by omega)) gd (by rfl) T.f__law_alike T.F__law_alike.kp T.b__law_alike (pa_cons (pe_call G__law_heard (hr.mono (by omega)) (by rfl) T.f__law_heard T.F__law_heard.kp T.b__law_heard .nil pass0 (pa_cons (pv 3) pa_nil)) (pa_cons (pe_call G__law_due (hr.mono (by omega)) (by rfl) T.f__law_due T.F__law_due.kp T.b__law_due .nil pass0 (pa_cons (pv 3) pa_nil)) pa_nil))))) (pw_or1 (pt_cmpR op_ne (pe_callB (call_reprU hr gd) (by rfl) T.m_repr (by decide +kernel) (pa_cons (pv 3) pa_nil)) (pv 4) (nomark _))))) (pss_one (ps_ret pe_bl)) pss_nil)))))
    (pss_cons (ps_set (i := 5) sc_law.nd rfl (Or.inl rfl) pe_int)
    (pss_cons (ps_for PassesOwn.never rfl (pi_range1 (by rfl) T.m_range (pa_cons pe_int pa_nil)) (pg_name (i := 6) sc_law.nd rfl (Or.inl rfl)) (pss_one (ps_set (i := 5) sc_law.nd rfl (Or.inl rfl) (pe_lstB (pa_cons (pv 5) pa_nil)))))
    (pss_cons (ps_for PassesOwn.never rfl (pi_tup (pe_tup (pa_cons (pv 5) (pa_cons (pe_op op_repL (pe_lst (pa_cons pe_non pa_nil)) pe_int) pa_nil)))) (pg_name (i := 3) sc_law.nd rfl (Or.inl rfl)) (pss_cons (ps_set (i := 7) sc_law.nd rfl (Or.inl rfl) (pe_lst (pa_cons (pe_call G__law_heard (hr.mono (by omega)) (by rfl) T.f__law_heard T.F__law_heard.kp T.b__law_heard .nil pass0 (pa_cons (pv 3) pa_nil)) (pa_cons (pe_call G__law_heard (hr.mono (by omega)) (by rfl) T.f__law_heard T.F__law_heard.kp T.b__law_heard .nil pass0 (pa_cons (pe_disp (pps_cons pe_str (pv 3) pps_nil) (by rfl) (by rfl) (fun z => by cases z) (by decide)) pa_nil)) pa_nil)))) (pss_one (ps_if (pt_not (pt_val (pe_callG G__law_alike (hr.mono (by omega)) gd (by rfl) T.f__law_alike T.F__law_alike.kp T.b__law_alike (pa_cons (pv 7) (pa_cons (pe_lst (pa_cons (pe_tup (pa_cons pe_str (pa_cons pe_int pa_nil))) (pa_cons (pe_tup (pa_cons pe_str (pa_cons pe_str pa_nil))) pa_nil))) pa_nil))))) (pss_one (ps_ret pe_bl)) pss_nil))))
    (pss_one (ps_ret (pe_cmpR op_isN (pe_call G__law_heard (hr.mono (by omega)) (by rfl) T.f__law_heard T.F__law_heard.kp T.b__law_heard .nil pass0 (pa_cons pe_dnewK pa_nil)) pe_non (nomark _))))))))), ?_⟩
  refine ⟨_, rfl, lp, xs, rfl, hxs, z, fun b p H1 _ _ B1 => ?_⟩
  refine ⟨14, rfl, by decide, by decide, ?_⟩
  refine for_range (lo := 0) (n := 14) (fun i σ H' => ∃ o2 o3 o4, σ = [some (.ref lp), some (.ref b), o2, o3, o4, none, none, none] ∧ Bag b p H') ⟨none, none, none, rfl, B1⟩ ?_ ?_
  · rintro i σ H2 hi ⟨o2, o3, o4, rfl, B2⟩
    refine gname_of ?_
    refine seq_of (t := tAsg _ _) ?_
    refine asg_of ?_
    refine ⟨_, rfl, b, p, rfl, B2, fun v H3 u g3 tu hv => ?_⟩
    refine gname_of ?_
    dsimp only
    refine seq_of (t := tAsg _ _) ?_
    refine asg_of ?_
    have dpu := tu.d
    have wtu := tu.w
    refine ⟨_, rfl, v, u, rfl, hv, tu.g, by omega, by omega, fun sl => ?_⟩
    refine gname_of ?_
    dsimp only
    refine heard_due (K := K) (u := u) rfl hv tu (fun H4 k4 => ?_)
    refine ⟨true, rfl, ite_b (fun c => nomatch c) (fun _ => ?_)⟩
    refine ⟨_, rfl, v, u, rfl, hv.same k4, tu.g, by omega, by omega, fun sl2 => ⟨_, rfl, rfl, _, rfl, ?_⟩⟩
    refine ite_b (fun c => ?_) (fun _ => ⟨_, _, _, rfl, g3.B.same k4⟩)
    rw [decide_eq_true rfl] at c
    cases c
  · rintro σ H2 ⟨o2, o3, o4, rfl, B2⟩
    dsimp only
    refine seq_of (t := tAsg _ _) ?_
    refine asg_of ?_
    refine gname_of ?_
    dsimp only
    refine seq_of (t := tFor _ _ _) ?_
    refine ⟨29, rfl, by decide, by decide, ?_⟩
    refine for_range (lo := 0) (n := 29) (fun i σ H' => ∃ o6 v, σ = [some (.ref lp), some (.ref b), o2, o3, o4, some v, o6, none] ∧ Uv w H' v (nest i)) ⟨none, .int 0, rfl, .int 0⟩ ?_ ?_
    · rintro i σ H3 hi ⟨o6, v, rfl, hv⟩
      refine gname_of ?_
      refine asg_of ?_
      refine ⟨_, rfl, (by show 1 ≤ sizeLine; decide), fun l hl nl => ?_⟩
      refine gname_of ?_
      exact ⟨_, .ref l, rfl, .lst nl upd_same (.cons (hv.same (Same.new hl)) .nil)⟩
    · rintro σ H3 ⟨o6, v, rfl, hv⟩
      dsimp only
      refine seq_of (t := tFor _ _ _) ?_
      refine ⟨_, rfl, (by show 1 ≤ sizeLine; decide), fun l1 hl1 => ⟨l1, 19990, .non, rfl, rfl, upd_same, by decide, by decide, fun rp hrp nrp => ?_⟩⟩
      generalize (19990 : Int).toNat = m
      refine ⟨(by show 2 ≤ sizeLine; decide), fun tp htp => ⟨tp, rfl, ⟨_, SqT.of upd_same⟩, ?_⟩⟩
      have kT := Same.new (o := .tup [v, .ref rp]) htp
      have hr1 : Uv w (upd (upd (upd H3 l1 (.lst [.non])) rp (.lst (List.replicate m .non))) tp (.tup [v, .ref rp])) (.ref rp) (.lst (List.replicate m .non)) := .lst nrp (kT _ _ upd_same) (uvl_rep m)
      have hv1 := hv.same ((Same.new (o := .lst [.non]) hl1).trans ((Same.new (o := .lst (List.replicate m .non)) hrp).trans kT))
      have htp1 : (upd (upd (upd H3 l1 (.lst [.non])) rp (.lst (List.replicate m .non))) tp (.tup [v, .ref rp])) tp = some (.tup [v, .ref rp]) := upd_same
      generalize upd (upd (upd H3 l1 (.lst [.non])) rp (.lst (List.replicate m .non))) tp (.tup [v, .ref rp]) = HT at hr1 hv1 htp1 ⊢
      refine for_tup (xs := [v, .ref rp]) (fun i σ H' => ∃ o3 o7, σ = [some (.ref lp), some (.ref b), o2, o3, o4, some v, o6, o7] ∧ Same HT H') ⟨_, _, rfl, Same.refl _⟩ (fun i σ H' _ h => by obtain ⟨_, _, _, k⟩ := h; exact SqT.of (k _ _ htp1)) ?_ ?_
      · rintro i x σ H4 hx ⟨o3', o7, rfl, k4⟩
        obtain ⟨us, u1, u2⟩ : ∃ us, Uv w HT x (.lst us) ∧ goods us = true := by
          match i, hx with
          | 0, hx =>
            cases Option.some.inj hx
            exact ⟨_, hv1, nest_good 29⟩
          | 1, hx =>
            cases Option.some.inj hx
            exact ⟨_, hr1, rep_good m⟩
        refine gname_of ?_
        refine seq_of (t := tAsg _ _) ?_
        refine asg_of ?_
        refine heard_bad rfl (u1.same k4) u2 (fun H5 l t1 t2 hl h1 h2 k5 => ?_)
        refine gname_of ?_
        dsimp only
        refine ⟨_, rfl, (by show 2 ≤ sizeLine; decide), fun a1 ha1 => ⟨(by show 2 ≤ sizeLine; decide), fun a2 ha2 => ⟨(by show 2 ≤ sizeLine; decide), fun dl hdl => ?_⟩⟩⟩
        have j1 := Same.new (o := .tup [.str "wrong", .int 0]) ha1
        have j2 := Same.new (o := .tup [.str "act", .str "zz"]) ha2
        have j3 := Same.new (o := .lst [.ref a1, .ref a2]) hdl
        have d1 : ∀ (H' : Hp) (a : Addr), H' a = some (.tup [.str "wrong", .int 0]) → Dp K H' (.ref a) (.tuple [.str "wrong", .int 0]) := fun H' a h => .tup (SqT.of h) (.cons (.str _) (.cons (.int _) .nil))
        have d2 : ∀ (H' : Hp) (a : Addr), H' a = some (.tup [.str "act", .str "zz"]) → Dp K H' (.ref a) (.tuple [.str "act", .str "zz"]) := fun H' a h => .tup (SqT.of h) (.cons (.str _) (.cons (.str _) .nil))
        have j := j1.trans (j2.trans j3)
        refine ⟨_, _, .list [.tuple [.str "wrong", .int 0], .tuple [.str "act", .str "zz"]], rfl, .lst (SqL.of (j _ _ hl)) (.cons (d1 _ _ (j _ _ h1)) (.cons (d2 _ _ (j _ _ h2)) .nil)), .lst (SqL.of upd_same) (.cons (d1 _ _ (j3 _ _ (j2 _ _ upd_same))) (.cons (d2 _ _ (j3 _ _ upd_same)) .nil)), by decide +kernel, by decide +kernel, by decide +kernel, by decide +kernel, by decide +kernel, true, rfl, ite_b (fun c => nomatch c) (fun _ => ⟨_, _, rfl, k4.trans (k5.trans j)⟩)⟩
      · rintro σ H4 ⟨o3', o7, rfl, k4⟩
        dsimp only
        refine ret_of ?_
        refine fun dz hdz => ⟨.ref dz, .dic [] [], rfl, .dic (es := lift ([] : List (Key × V))) (.inl ⟨_, upd_same, rfl, List.nodup_nil⟩) .nil .nil, rfl, rfl, (fun ks vs e => by cases e; exact Nat.zero_le _), (fun nf => nomatch nf), fun l ys nm nt pm srt => ?_⟩
        have nm0 : Names (.dic [] []) [] := ⟨rfl, List.nodup_nil, fun _ h => (List.not_mem_nil h).elim⟩
        obtain rfl := nm.inj nm0
        have ey : ys = [] := List.Perm.eq_nil pm
        subst ey
        exact ⟨(fun n hn => nomatch hn), fun _ H' k => ⟨rfl, q H'⟩⟩
end
end K21
set_option maxRecDepth 100000
set_option maxHeartbeats 4000000
namespace K21
open PySem L2 Fm
theorem all_mk {P : Program} {w : World} {K : PySem.W.Frag} {h : Heap} {mg : Str → Option Value} {fa : Addr} (X : K.In h) (G : h.Ns mainGlobals mg) (hfa : mg "law" = some (.ref fa))
    {a0 a1 a2 a3 a4 a5 a6 a7 a8 a9 a10 a11 a12 a13 a14 a15 a16 a17 a18 a19 a20 a21 a22 a23 a24 a25 a26 a27 : Addr} {od0 an0 od1 an1 od2 an2 od3 an3 od4 an4 od5 an5 od6 an6 od7 an7 od8 an8 od9 an9 od10 an10 od11 an11 od12 an12 od13 an13 od14 an14 od15 an15 od16 an16 od17 an17 od18 an18 od19 an19 od20 an20 od21 an21 od22 an22 od23 an23 od24 an24 od25 an25 od26 an26 od27 an27 : Option Addr} {sl0 sl1 sl2 sl3 sl4 sl5 sl6 sl7 sl8 sl9 sl10 sl11 sl12 sl13 sl14 sl15 sl16 sl17 sl18 sl19 sl20 sl21 sl22 sl23 sl24 sl25 sl26 sl27 : Array (Option Value)}
    {oc0 kV0 dc0 pm0 cd0 ct0 oc1 kV1 dc1 pm1 cd1 ct1 oc2 kV2 dc2 pm2 cd2 ct2 oc3 kV3 dc3 pm3 cd3 ct3 oc4 kV4 dc4 pm4 cd4 ct4 oc5 kV5 dc5 pm5 cd5 ct5 oc6 kV6 dc6 pm6 cd6 ct6 oc7 kV7 dc7 pm7 cd7 ct7 oc8 kV8 dc8 pm8 cd8 ct8 oc9 kV9 dc9 pm9 cd9 ct9 oc10 kV10 dc10 pm10 cd10 ct10 oc11 kV11 dc11 pm11 cd11 ct11 oc12 kV12 dc12 pm12 cd12 ct12 oc13 kV13 dc13 pm13 cd13 ct13 oc14 kV14 dc14 pm14 cd14 ct14 oc15 kV15 dc15 pm15 cd15 ct15 oc16 kV16 dc16 pm16 cd16 ct16 oc17 kV17 dc17 pm17 cd17 ct17 oc18 kV18 dc18 pm18 cd18 ct18 oc19 kV19 dc19 pm19 cd19 ct19 oc20 kV20 dc20 pm20 cd20 ct20 oc21 kV21 dc21 pm21 cd21 ct21 oc22 kV22 dc22 pm22 cd22 ct22 oc23 kV23 dc23 pm23 cd23 ct23 oc24 kV24 dc24 pm24 cd24 ct24 oc25 kV25 dc25 pm25 cd25 ct25 oc26 kV26 dc26 pm26 cd26 ct26 oc27 kV27 dc27 pm27 cd27 ct27 : Value}
    {D0 : Addr}
    (n0 : PySem.W.nsIn K mainGlobals "_wall" = some (some (.ref a0))) (l0 : K.lookup a0 = some ⟨oc0, od0, .func (PySem.W.fnOf "_wall" "_wall" (defArgs s__wall) (defBody s__wall) (defScope s__wall) .none kV0 dc0 pm0 an0 cd0 ct0), sl0⟩) (c0 : PySem.W.codeIn K cd0 "_wall" = true) (k0 : PySem.W.keepIn K (.ref a0) = true)
    (n1 : PySem.W.nsIn K mainGlobals "is_integer" = some (some (.ref a1))) (l1 : K.lookup a1 = some ⟨oc1, od1, .func (PySem.W.fnOf "is_integer" "is_integer" (defArgs s_is_integer) (defBody s_is_integer) (defScope s_is_integer) .none kV1 dc1 pm1 an1 cd1 ct1), sl1⟩) (c1 : PySem.W.codeIn K cd1 "is_integer" = true) (k1 : PySem.W.keepIn K (.ref a1) = true)
    (n2 : PySem.W.nsIn K mainGlobals "is_below" = some (some (.ref a2))) (l2 : K.lookup a2 = some ⟨oc2, od2, .func (PySem.W.fnOf "is_below" "is_below" (defArgs s_is_below) (defBody s_is_below) (defScope s_is_below) .none kV2 dc2 pm2 an2 cd2 ct2), sl2⟩) (c2 : PySem.W.codeIn K cd2 "is_below" = true) (k2 : PySem.W.keepIn K (.ref a2) = true)
    (n3 : PySem.W.nsIn K mainGlobals "is_name" = some (some (.ref a3))) (l3 : K.lookup a3 = some ⟨oc3, od3, .func (PySem.W.fnOf "is_name" "is_name" (defArgs s_is_name) (defBody s_is_name) (defScope s_is_name) .none kV3 dc3 pm3 an3 cd3 ct3), sl3⟩) (c3 : PySem.W.codeIn K cd3 "is_name" = true) (k3 : PySem.W.keepIn K (.ref a3) = true)
    (n4 : PySem.W.nsIn K mainGlobals "is_outcome" = some (some (.ref a4))) (l4 : K.lookup a4 = some ⟨oc4, od4, .func (PySem.W.fnOf "is_outcome" "is_outcome" (defArgs s_is_outcome) (defBody s_is_outcome) (defScope s_is_outcome) .none kV4 dc4 pm4 an4 cd4 ct4), sl4⟩) (c4 : PySem.W.codeIn K cd4 "is_outcome" = true) (k4 : PySem.W.keepIn K (.ref a4) = true)
    (n5 : PySem.W.nsIn K mainGlobals "are_outcomes" = some (some (.ref a5))) (l5 : K.lookup a5 = some ⟨oc5, od5, .func (PySem.W.fnOf "are_outcomes" "are_outcomes" (defArgs s_are_outcomes) (defBody s_are_outcomes) (defScope s_are_outcomes) .none kV5 dc5 pm5 an5 cd5 ct5), sl5⟩) (c5 : PySem.W.codeIn K cd5 "are_outcomes" = true) (k5 : PySem.W.keepIn K (.ref a5) = true)
    (n6 : PySem.W.nsIn K mainGlobals "is_act" = some (some (.ref a6))) (l6 : K.lookup a6 = some ⟨oc6, od6, .func (PySem.W.fnOf "is_act" "is_act" (defArgs s_is_act) (defBody s_is_act) (defScope s_is_act) .none kV6 dc6 pm6 an6 cd6 ct6), sl6⟩) (c6 : PySem.W.codeIn K cd6 "is_act" = true) (k6 : PySem.W.keepIn K (.ref a6) = true)
    (n7 : PySem.W.findIn K (.ref D0) "__init__" = some (some (.ref a7))) (i7 : PySem.W.isFn K (.ref a7) = true) (l7 : K.lookup a7 = some ⟨oc7, od7, .func (PySem.W.fnOf "__init__" "World.__init__" (defArgs s_World_init) (defBody s_World_init) (defScope s_World_init) .none kV7 dc7 pm7 an7 cd7 ct7), sl7⟩) (c7 : PySem.W.codeIn K cd7 "World.__init__" = true) (k7 : PySem.W.keepIn K (.ref a7) = true)
    (n8 : PySem.W.findIn K (.ref D0) "acts" = some (some (.ref a8))) (i8 : PySem.W.isFn K (.ref a8) = true) (l8 : K.lookup a8 = some ⟨oc8, od8, .func (PySem.W.fnOf "acts" "World.acts" (defArgs s_World_acts) (defBody s_World_acts) (defScope s_World_acts) .none kV8 dc8 pm8 an8 cd8 ct8), sl8⟩) (c8 : PySem.W.codeIn K cd8 "World.acts" = true) (k8 : PySem.W.keepIn K (.ref a8) = true)
    (n9 : PySem.W.findIn K (.ref D0) "arguments" = some (some (.ref a9))) (i9 : PySem.W.isFn K (.ref a9) = true) (l9 : K.lookup a9 = some ⟨oc9, od9, .func (PySem.W.fnOf "arguments" "World.arguments" (defArgs s_World_arguments) (defBody s_World_arguments) (defScope s_World_arguments) .none kV9 dc9 pm9 an9 cd9 ct9), sl9⟩) (c9 : PySem.W.codeIn K cd9 "World.arguments" = true) (k9 : PySem.W.keepIn K (.ref a9) = true)
    (n10 : PySem.W.findIn K (.ref D0) "outcomes" = some (some (.ref a10))) (i10 : PySem.W.isFn K (.ref a10) = true) (l10 : K.lookup a10 = some ⟨oc10, od10, .func (PySem.W.fnOf "outcomes" "World.outcomes" (defArgs s_World_outcomes) (defBody s_World_outcomes) (defScope s_World_outcomes) .none kV10 dc10 pm10 an10 cd10 ct10), sl10⟩) (c10 : PySem.W.codeIn K cd10 "World.outcomes" = true) (k10 : PySem.W.keepIn K (.ref a10) = true)
    (n11 : PySem.W.findIn K (.ref D0) "brings" = some (some (.ref a11))) (i11 : PySem.W.isFn K (.ref a11) = true) (l11 : K.lookup a11 = some ⟨oc11, od11, .func (PySem.W.fnOf "brings" "World.brings" (defArgs s_World_brings) (defBody s_World_brings) (defScope s_World_brings) .none kV11 dc11 pm11 an11 cd11 ct11), sl11⟩) (c11 : PySem.W.codeIn K cd11 "World.brings" = true) (k11 : PySem.W.keepIn K (.ref a11) = true)
    (n12 : PySem.W.findIn K (.ref D0) "__eq__" = some (some (.ref a12))) (i12 : PySem.W.isFn K (.ref a12) = true) (l12 : K.lookup a12 = some ⟨oc12, od12, .func (PySem.W.fnOf "__eq__" "World.__eq__" (defArgs s_World_eq) (defBody s_World_eq) (defScope s_World_eq) .none kV12 dc12 pm12 an12 cd12 ct12), sl12⟩) (c12 : PySem.W.codeIn K cd12 "World.__eq__" = true) (k12 : PySem.W.keepIn K (.ref a12) = true)
    (n13 : PySem.W.nsIn K mainGlobals "_law_bag" = some (some (.ref a13))) (l13 : K.lookup a13 = some ⟨oc13, od13, .func (PySem.W.fnOf "_law_bag" "_law_bag" (defArgs s__law_bag) (defBody s__law_bag) (defScope s__law_bag) .none kV13 dc13 pm13 an13 cd13 ct13), sl13⟩) (c13 : PySem.W.codeIn K cd13 "_law_bag" = true) (k13 : PySem.W.keepIn K (.ref a13) = true)
    (n14 : PySem.W.nsIn K mainGlobals "_law_take" = some (some (.ref a14))) (l14 : K.lookup a14 = some ⟨oc14, od14, .func (PySem.W.fnOf "_law_take" "_law_take" (defArgs s__law_take) (defBody s__law_take) (defScope s__law_take) .none kV14 dc14 pm14 an14 cd14 ct14), sl14⟩) (c14 : PySem.W.codeIn K cd14 "_law_take" = true) (k14 : PySem.W.keepIn K (.ref a14) = true)
    (n15 : PySem.W.nsIn K mainGlobals "_law_alike" = some (some (.ref a15))) (l15 : K.lookup a15 = some ⟨oc15, od15, .func (PySem.W.fnOf "_law_alike" "_law_alike" (defArgs s__law_alike) (defBody s__law_alike) (defScope s__law_alike) .none kV15 dc15 pm15 an15 cd15 ct15), sl15⟩) (c15 : PySem.W.codeIn K cd15 "_law_alike" = true) (k15 : PySem.W.keepIn K (.ref a15) = true)
    (n16 : PySem.W.nsIn K mainGlobals "_law_mixed" = some (some (.ref a16))) (l16 : K.lookup a16 = some ⟨oc16, od16, .func (PySem.W.fnOf "_law_mixed" "_law_mixed" (defArgs s__law_mixed) (defBody s__law_mixed) (defScope s__law_mixed) .none kV16 dc16 pm16 an16 cd16 ct16), sl16⟩) (c16 : PySem.W.codeIn K cd16 "_law_mixed" = true) (k16 : PySem.W.keepIn K (.ref a16) = true)
    (n17 : PySem.W.nsIn K mainGlobals "_law_names" = some (some (.ref a17))) (l17 : K.lookup a17 = some ⟨oc17, od17, .func (PySem.W.fnOf "_law_names" "_law_names" (defArgs s__law_names) (defBody s__law_names) (defScope s__law_names) .none kV17 dc17 pm17 an17 cd17 ct17), sl17⟩) (c17 : PySem.W.codeIn K cd17 "_law_names" = true) (k17 : PySem.W.keepIn K (.ref a17) = true)
    (n18 : PySem.W.nsIn K mainGlobals "_law_acts" = some (some (.ref a18))) (l18 : K.lookup a18 = some ⟨oc18, od18, .func (PySem.W.fnOf "_law_acts" "_law_acts" (defArgs s__law_acts) (defBody s__law_acts) (defScope s__law_acts) .none kV18 dc18 pm18 an18 cd18 ct18), sl18⟩) (c18 : PySem.W.codeIn K cd18 "_law_acts" = true) (k18 : PySem.W.keepIn K (.ref a18) = true)
    (n19 : PySem.W.nsIn K mainGlobals "_law_is_whole" = some (some (.ref a19))) (l19 : K.lookup a19 = some ⟨oc19, od19, .func (PySem.W.fnOf "_law_is_whole" "_law_is_whole" (defArgs s__law_is_whole) (defBody s__law_is_whole) (defScope s__law_is_whole) .none kV19 dc19 pm19 an19 cd19 ct19), sl19⟩) (c19 : PySem.W.codeIn K cd19 "_law_is_whole" = true) (k19 : PySem.W.keepIn K (.ref a19) = true)
    (n20 : PySem.W.nsIn K mainGlobals "_law_is_word" = some (some (.ref a20))) (l20 : K.lookup a20 = some ⟨oc20, od20, .func (PySem.W.fnOf "_law_is_word" "_law_is_word" (defArgs s__law_is_word) (defBody s__law_is_word) (defScope s__law_is_word) .none kV20 dc20 pm20 an20 cd20 ct20), sl20⟩) (c20 : PySem.W.codeIn K cd20 "_law_is_word" = true) (k20 : PySem.W.keepIn K (.ref a20) = true)
    (n21 : PySem.W.nsIn K mainGlobals "_law_is_outcome" = some (some (.ref a21))) (l21 : K.lookup a21 = some ⟨oc21, od21, .func (PySem.W.fnOf "_law_is_outcome" "_law_is_outcome" (defArgs s__law_is_outcome) (defBody s__law_is_outcome) (defScope s__law_is_outcome) .none kV21 dc21 pm21 an21 cd21 ct21), sl21⟩) (c21 : PySem.W.codeIn K cd21 "_law_is_outcome" = true) (k21 : PySem.W.keepIn K (.ref a21) = true)
    (n22 : PySem.W.nsIn K mainGlobals "_law_is_act" = some (some (.ref a22))) (l22 : K.lookup a22 = some ⟨oc22, od22, .func (PySem.W.fnOf "_law_is_act" "_law_is_act" (defArgs s__law_is_act) (defBody s__law_is_act) (defScope s__law_is_act) .none kV22 dc22 pm22 an22 cd22 ct22), sl22⟩) (c22 : PySem.W.codeIn K cd22 "_law_is_act" = true) (k22 : PySem.W.keepIn K (.ref a22) = true)
    (n23 : PySem.W.nsIn K mainGlobals "_law_due" = some (some (.ref a23))) (l23 : K.lookup a23 = some ⟨oc23, od23, .func (PySem.W.fnOf "_law_due" "_law_due" (defArgs s__law_due) (defBody s__law_due) (defScope s__law_due) .none kV23 dc23 pm23 an23 cd23 ct23), sl23⟩) (c23 : PySem.W.codeIn K cd23 "_law_due" = true) (k23 : PySem.W.keepIn K (.ref a23) = true)
    (n24 : PySem.W.nsIn K mainGlobals "_law_heard" = some (some (.ref a24))) (l24 : K.lookup a24 = some ⟨oc24, od24, .func (PySem.W.fnOf "_law_heard" "_law_heard" (defArgs s__law_heard) (defBody s__law_heard) (defScope s__law_heard) .none kV24 dc24 pm24 an24 cd24 ct24), sl24⟩) (c24 : PySem.W.codeIn K cd24 "_law_heard" = true) (k24 : PySem.W.keepIn K (.ref a24) = true)
    (n25 : PySem.W.nsIn K mainGlobals "_law_odd_act" = some (some (.ref a25))) (l25 : K.lookup a25 = some ⟨oc25, od25, .func (PySem.W.fnOf "_law_odd_act" "_law_odd_act" (defArgs s__law_odd_act) (defBody s__law_odd_act) (defScope s__law_odd_act) .none kV25 dc25 pm25 an25 cd25 ct25), sl25⟩) (c25 : PySem.W.codeIn K cd25 "_law_odd_act" = true) (k25 : PySem.W.keepIn K (.ref a25) = true)
    (n26 : PySem.W.nsIn K mainGlobals "_law_thing" = some (some (.ref a26))) (l26 : K.lookup a26 = some ⟨oc26, od26, .func (PySem.W.fnOf "_law_thing" "_law_thing" (defArgs s__law_thing) (defBody s__law_thing) (defScope s__law_thing) .none kV26 dc26 pm26 an26 cd26 ct26), sl26⟩) (c26 : PySem.W.codeIn K cd26 "_law_thing" = true) (k26 : PySem.W.keepIn K (.ref a26) = true)
    (n27 : PySem.W.nsIn K mainGlobals "law" = some (some (.ref a27))) (l27 : K.lookup a27 = some ⟨oc27, od27, .func (PySem.W.fnOf "law" "law" (defArgs s_law) (defBody s_law) (defScope s_law) .none kV27 dc27 pm27 an27 cd27 ct27), sl27⟩) (c27 : PySem.W.codeIn K cd27 "law" = true) (k27 : PySem.W.keepIn K (.ref a27) = true)
    (aC0 : PySem.W.nsIn K mainGlobals "World" = some (some (.ref D0)))
    (pg0 : PySem.W.plainGet K D0 Str.empty = true)
    (hd0 : PySem.W.hasDictIn K D0 = true)
    (po0 : PySem.W.plainOver K D0 = true)
    (wa0 : PySem.W.findIn K (.ref D0) "__setattr__" = some (some (.builtin "object.__setattr__")))
    (mk0 : PySem.W.makesIn K D0 = true)
    (kc0 : PySem.W.keepIn K (.ref D0) = true)
    (na0_0 : PySem.W.findIn K (.ref D0) "_arguments" = some none)
    (na0_1 : PySem.W.findIn K (.ref D0) "_brings" = some none)
    (ne0 : PySem.W.findIn K (.ref D0) "__ne__" = some (some (.builtin "object.__ne__")))
    (wh0 : PySem.W.findIn K (.ref D0) "__class__" = some (some (.builtin "object.__class__")))
    (hm0 : PySem.W.mroIn K D0 (.type "object") = some true)
    (hk0 : PySem.W.typeIn K (.ref D0) = some (.type "type"))
    (ghn : PySem.W.specialIn K (.builtin "object.__class__") "__get__" = some (some (.builtin "getset_descriptor.__get__")))
    (ght : PySem.W.takesIn K (.builtin "object.__class__") = some true)
    (z_ValueError : PySem.W.nsIn K mainGlobals "ValueError" = some none)
    (z_abs : PySem.W.nsIn K mainGlobals "abs" = some none)
    (z_all : PySem.W.nsIn K mainGlobals "all" = some none)
    (z_bool : PySem.W.nsIn K mainGlobals "bool" = some none)
    (z_dict : PySem.W.nsIn K mainGlobals "dict" = some none)
    (z_int : PySem.W.nsIn K mainGlobals "int" = some none)
    (z_isinstance : PySem.W.nsIn K mainGlobals "isinstance" = some none)
    (z_len : PySem.W.nsIn K mainGlobals "len" = some none)
    (z_list : PySem.W.nsIn K mainGlobals "list" = some none)
    (z_min : PySem.W.nsIn K mainGlobals "min" = some none)
    (z_range : PySem.W.nsIn K mainGlobals "range" = some none)
    (z_repr : PySem.W.nsIn K mainGlobals "repr" = some none)
    (z_sorted : PySem.W.nsIn K mainGlobals "sorted" = some none)
    (z_str : PySem.W.nsIn K mainGlobals "str" = some none)
    (z_tuple : PySem.W.nsIn K mainGlobals "tuple" = some none)
    {t_LETTERS : Tok} (z_LETTERS : PySem.W.nsIn K mainGlobals "LETTERS" = some (some (.str "abcdefghijklmnopqrstuvwxyz" t_LETTERS)))
    {BM B0 I0 B1 I1 : Addr}
    {nm0 q0 : Str} {N0 : Addr} {bs0 : List Value} {sn0 : List Str} {sub0 : List Value} {ab0 : Bool} {col0 : Option Bool} {dd0 : Option Addr} {ma0 mb0 mc0 md0 me0 : Option Value}
    {nm1 q1 : Str} {N1 : Addr} {bs1 : List Value} {sn1 : List Str} {sub1 : List Value} {ab1 : Bool} {col1 : Option Bool} {dd1 : Option Addr} {ma1 mb1 mc1 md1 me1 : Option Value}
    {nmM qM : Str} {NM : Addr} {bsM : List Value} {snM : List Str} {subM : List Value} {abM : Bool} {colM : Option Bool} {ddM : Option Addr} {maM mbM mcM mdM meM : Option Value}
    {ic0 ip0 iq0 id0 it0 : Value} {io0 ia0 : Option Addr} {is0 : Array (Option Value)} {pa0 pb0 qa0 qb0 qc0 qd0 : Pos}
    {ic1 ip1 iq1 id1 it1 : Value} {io1 ia1 : Option Addr} {is1 : Array (Option Value)} {pa1 pb1 qa1 qb1 qc1 qd1 : Pos}
    (cnM : PySem.W.nsIn K mainGlobals "MoveError" = some (some (.ref BM)))
    (cLM : K.lookup BM = some (excClassObj nmM qM BM NM bsM veTop true snM subM abM colM ddM maM mbM mcM mdM meM "ValueError.__new__"))
    (cn0 : PySem.W.nsIn K mainGlobals "Wrong" = some (some (.ref B0)))
    (cL0 : K.lookup B0 = some (excClassObj nm0 q0 B0 N0 bs0 (.ref BM :: veTop) true sn0 sub0 ab0 col0 dd0 ma0 mb0 mc0 md0 me0 "ValueError.__new__"))
    (ga0 : PySem.W.findIn K (.ref B0) "__getattribute__" = some (some (.builtin "BaseException.__getattribute__")))
    (gg0 : PySem.W.findIn K (.ref B0) "__getattr__" = some none)
    (ha0 : PySem.W.findIn K (.ref B0) "__class__" = some (some (.builtin "object.__class__")))
    (sa0 : PySem.W.findIn K (.ref B0) "__setattr__" = some (some (.builtin "object.__setattr__")))
    (nb0 : PySem.W.findIn K (.ref B0) "place" = some none)
    (iI0 : PySem.W.findIn K (.ref B0) "__init__" = some (some (.ref I0)))
    (tI0 : PySem.W.typeIn K (.ref I0) = some (.type "function"))
    (lI0 : K.lookup I0 = some ⟨ic0, io0, .func (PySem.W.fnOf "__init__" "Wrong.__init__" (PySem.Erplace.iA pa0 pb0) (PySem.Erplace.iB qa0 qb0 qc0 qd0) PySem.Erplace.iS .none .none ip0 iq0 ia0 id0 it0), is0⟩)
    (cI0 : PySem.W.codeIn K id0 "Wrong.__init__" = true)
    (kC0 : PySem.W.keepIn K (.ref B0) = true)
    (cn1 : PySem.W.nsIn K mainGlobals "BadAct" = some (some (.ref B1)))
    (cL1 : K.lookup B1 = some (excClassObj nm1 q1 B1 N1 bs1 (.ref BM :: veTop) true sn1 sub1 ab1 col1 dd1 ma1 mb1 mc1 md1 me1 "ValueError.__new__"))
    (ga1 : PySem.W.findIn K (.ref B1) "__getattribute__" = some (some (.builtin "BaseException.__getattribute__")))
    (gg1 : PySem.W.findIn K (.ref B1) "__getattr__" = some none)
    (ha1 : PySem.W.findIn K (.ref B1) "__class__" = some (some (.builtin "object.__class__")))
    (sa1 : PySem.W.findIn K (.ref B1) "__setattr__" = some (some (.builtin "object.__setattr__")))
    (nb1 : PySem.W.findIn K (.ref B1) "name" = some none)
    (iI1 : PySem.W.findIn K (.ref B1) "__init__" = some (some (.ref I1)))
    (tI1 : PySem.W.typeIn K (.ref I1) = some (.type "function"))
    (lI1 : K.lookup I1 = some ⟨ic1, io1, .func (PySem.W.fnOf "__init__" "BadAct.__init__" (PySem.Ername.iA pa1 pb1) (PySem.Ername.iB qa1 qb1 qc1 qd1) PySem.Ername.iS .none .none ip1 iq1 ia1 id1 it1), is1⟩)
    (cI1 : PySem.W.codeIn K id1 "BadAct.__init__" = true)
    (kC1 : PySem.W.keepIn K (.ref B1) = true)
    (nd : (BM :: [B0, B1]).Nodup)
    : ∃ fd : FuncData, (∀ (s : Shared) (u : Value), BindsTo s fd ⟨[u], []⟩ [("_law_script", u)]) ∧ ∀ bs : Heap, K.In bs → bs.Ns mainGlobals mg → FnG P w K mg bs 64 fa fd ["_law_script"] (spLaw K) := by
  have e := hfa.symm.trans (PySem.W.mg_of X G n27)
  cases e
  have F0 := fun_mk (st := s__wall) l0 c0 k0
  have F1 := fun_mk (st := s_is_integer) l1 c1 k1
  have F2 := fun_mk (st := s_is_below) l2 c2 k2
  have F3 := fun_mk (st := s_is_name) l3 c3 k3
  have F4 := fun_mk (st := s_is_outcome) l4 c4 k4
  have F5 := fun_mk (st := s_are_outcomes) l5 c5 k5
  have F6 := fun_mk (st := s_is_act) l6 c6 k6
  have F7 := fun_mk (st := s_World_init) l7 c7 k7
  have F8 := fun_mk (st := s_World_acts) l8 c8 k8
  have F9 := fun_mk (st := s_World_arguments) l9 c9 k9
  have F10 := fun_mk (st := s_World_outcomes) l10 c10 k10
  have F11 := fun_mk (st := s_World_brings) l11 c11 k11
  have F12 := fun_mk (st := s_World_eq) l12 c12 k12
  have F13 := fun_mk (st := s__law_bag) l13 c13 k13
  have F14 := fun_mk (st := s__law_take) l14 c14 k14
  have F15 := fun_mk (st := s__law_alike) l15 c15 k15
  have F16 := fun_mk (st := s__law_mixed) l16 c16 k16
  have F17 := fun_mk (st := s__law_names) l17 c17 k17
  have F18 := fun_mk (st := s__law_acts) l18 c18 k18
  have F19 := fun_mk (st := s__law_is_whole) l19 c19 k19
  have F20 := fun_mk (st := s__law_is_word) l20 c20 k20
  have F21 := fun_mk (st := s__law_is_outcome) l21 c21 k21
  have F22 := fun_mk (st := s__law_is_act) l22 c22 k22
  have F23 := fun_mk (st := s__law_due) l23 c23 k23
  have F24 := fun_mk (st := s__law_heard) l24 c24 k24
  have F25 := fun_mk (st := s__law_odd_act) l25 c25 k25
  have F26 := fun_mk (st := s__law_thing) l26 c26 k26
  have F27 := fun_mk (st := s_law) l27 c27 k27
  have TM : ClsT K BM := ⟨_, _, _, _, _, _, _, _, _, _, _, _, _, _, cLM⟩
  obtain ⟨nM0, nd2⟩ := List.nodup_cons.mp nd
  have nM : ∀ i, (h : i < 2) → ([B0, B1])[i] ≠ BM := fun i h y => nM0 (y ▸ List.getElem_mem _)
  have M0 : ClsM K BM B0 := ⟨_, _, _, _, _, _, _, _, _, _, _, _, _, _, cL0⟩
  have X0 : ExcC K B0 := excC_of M0 ga0 gg0 ha0 ghn ght
  have E0 : PySem.Erplace.ErTxt K mg "Wrong" "Wrong.__init__" B0 I0 := { gC := PySem.W.mg_of X G cn0, cls := ⟨_, _, _, _, _, _, _, _, _, _, _, _, _, _, _, cL0, refs_of _⟩, iC := iI0, tC := tI0, kC := kC0, exC := X0.hs, tyC := M0.ty, hdC := M0.hd, fn := ⟨_, _, _, _, _, _, _, _, _, _, _, _, _, _, lI0, cI0⟩, sa := sa0, ga := ga0, gg := gg0, noN := nb0 }
  have M1 : ClsM K BM B1 := ⟨_, _, _, _, _, _, _, _, _, _, _, _, _, _, cL1⟩
  have X1 : ExcC K B1 := excC_of M1 ga1 gg1 ha1 ghn ght
  have E1 : PySem.Ername.ErTxt K mg "BadAct" "BadAct.__init__" B1 I1 := { gC := PySem.W.mg_of X G cn1, cls := ⟨_, _, _, _, _, _, _, _, _, _, _, _, _, _, _, cL1, refs_of _⟩, iC := iI1, tC := tI1, kC := kC1, exC := X1.hs, tyC := M1.ty, hdC := M1.hd, fn := ⟨_, _, _, _, _, _, _, _, _, _, _, _, _, _, lI1, cI1⟩, sa := sa1, ga := ga1, gg := gg1, noN := nb1 }
  have hM : ∀ i, i < 2 → ClsM K BM ([B0, B1].getD i 0) := fun i hi => by
    rcases (by omega : i = 0 ∨ i = 1) with rfl | rfl
    · exact M0
    · exact M1
  let T : Txt K mg := { a__wall := a0, d__wall := _, F__wall := F0, f__wall := PySem.W.mg_of X G n0, b__wall := F0.binds (ps := ["k"]) (fun _ _ _ _ _ _ us hl => match us, hl with | [_], _ => rfl), a_is_integer := a1, d_is_integer := _, F_is_integer := F1, f_is_integer := PySem.W.mg_of X G n1, b_is_integer := F1.binds (ps := ["thing"]) (fun _ _ _ _ _ _ us hl => match us, hl with | [_], _ => rfl), a_is_below := a2, d_is_below := _, F_is_below := F2, f_is_below := PySem.W.mg_of X G n2, b_is_below := F2.binds (ps := ["thing", "bound"]) (fun _ _ _ _ _ _ us hl => match us, hl with | [_, _], _ => rfl), a_is_name := a3, d_is_name := _, F_is_name := F3, f_is_name := PySem.W.mg_of X G n3, b_is_name := F3.binds (ps := ["thing"]) (fun _ _ _ _ _ _ us hl => match us, hl with | [_], _ => rfl), a_is_outcome := a4, d_is_outcome := _, F_is_outcome := F4, f_is_outcome := PySem.W.mg_of X G n4, b_is_outcome := F4.binds (ps := ["thing"]) (fun _ _ _ _ _ _ us hl => match us, hl with | [_], _ => rfl), a_are_outcomes := a5, d_are_outcomes := _, F_are_outcomes := F5, f_are_outcomes := PySem.W.mg_of X G n5, b_are_outcomes := F5.binds (ps := ["thing"]) (fun _ _ _ _ _ _ us hl => match us, hl with | [_], _ => rfl), a_is_act := a6, d_is_act := _, F_is_act := F6, f_is_act := PySem.W.mg_of X G n6, b_is_act := F6.binds (ps := ["thing"]) (fun _ _ _ _ _ _ us hl => match us, hl with | [_], _ => rfl), a_World_init := a7, d_World_init := _, F_World_init := F7, b_World_init := F7.binds (ps := ["self", "acts"]) (fun _ _ _ _ _ _ us hl => match us, hl with | [_, _], _ => rfl), a_World_acts := a8, d_World_acts := _, F_World_acts := F8, b_World_acts := F8.binds (ps := ["self"]) (fun _ _ _ _ _ _ us hl => match us, hl with | [_], _ => rfl), a_World_arguments := a9, d_World_arguments := _, F_World_arguments := F9, b_World_arguments := F9.binds (ps := ["self", "act"]) (fun _ _ _ _ _ _ us hl => match us, hl with | [_, _], _ => rfl), a_World_outcomes := a10, d_World_outcomes := _, F_World_outcomes := F10, b_World_outcomes := F10.binds (ps := ["self", "act"]) (fun _ _ _ _ _ _ us hl => match us, hl with | [_, _], _ => rfl), a_World_brings := a11, d_World_brings := _, F_World_brings := F11, b_World_brings := F11.binds (ps := ["self", "act", "outcome"]) (fun _ _ _ _ _ _ us hl => match us, hl with | [_, _, _], _ => rfl), a_World_eq := a12, d_World_eq := _, F_World_eq := F12, b_World_eq := F12.binds (ps := ["self", "other"]) (fun _ _ _ _ _ _ us hl => match us, hl with | [_, _], _ => rfl), a__law_bag := a13, d__law_bag := _, F__law_bag := F13, f__law_bag := PySem.W.mg_of X G n13, b__law_bag := F13.binds (ps := ["_law_script"]) (fun _ _ _ _ _ _ us hl => match us, hl with | [_], _ => rfl), a__law_take := a14, d__law_take := _, F__law_take := F14, f__law_take := PySem.W.mg_of X G n14, b__law_take := F14.binds (ps := ["_law_bag_here", "_law_many"]) (fun _ _ _ _ _ _ us hl => match us, hl with | [_, _], _ => rfl), a__law_alike := a15, d__law_alike := _, F__law_alike := F15, f__law_alike := PySem.W.mg_of X G n15, b__law_alike := F15.binds (ps := ["_law_found", "_law_due_here"]) (fun _ _ _ _ _ _ us hl => match us, hl with | [_, _], _ => rfl), a__law_mixed := a16, d__law_mixed := _, F__law_mixed := F16, f__law_mixed := PySem.W.mg_of X G n16, b__law_mixed := F16.binds (ps := ["_law_bag_here", "_law_things"]) (fun _ _ _ _ _ _ us hl => match us, hl with | [_, _], _ => rfl), a__law_names := a17, d__law_names := _, F__law_names := F17, f__law_names := PySem.W.mg_of X G n17, b__law_names := F17.binds (ps := ["_law_bag_here", "_law_many"]) (fun _ _ _ _ _ _ us hl => match us, hl with | [_, _], _ => rfl), a__law_acts := a18, d__law_acts := _, F__law_acts := F18, f__law_acts := PySem.W.mg_of X G n18, b__law_acts := F18.binds (ps := ["_law_bag_here", "_law_many"]) (fun _ _ _ _ _ _ us hl => match us, hl with | [_, _], _ => rfl), a__law_is_whole := a19, d__law_is_whole := _, F__law_is_whole := F19, f__law_is_whole := PySem.W.mg_of X G n19, b__law_is_whole := F19.binds (ps := ["_law_thing_here", "_law_low", "_law_high"]) (fun _ _ _ _ _ _ us hl => match us, hl with | [_, _, _], _ => rfl), a__law_is_word := a20, d__law_is_word := _, F__law_is_word := F20, f__law_is_word := PySem.W.mg_of X G n20, b__law_is_word := F20.binds (ps := ["_law_thing_here"]) (fun _ _ _ _ _ _ us hl => match us, hl with | [_], _ => rfl), a__law_is_outcome := a21, d__law_is_outcome := _, F__law_is_outcome := F21, f__law_is_outcome := PySem.W.mg_of X G n21, b__law_is_outcome := F21.binds (ps := ["_law_thing_here"]) (fun _ _ _ _ _ _ us hl => match us, hl with | [_], _ => rfl), a__law_is_act := a22, d__law_is_act := _, F__law_is_act := F22, f__law_is_act := PySem.W.mg_of X G n22, b__law_is_act := F22.binds (ps := ["_law_thing_here"]) (fun _ _ _ _ _ _ us hl => match us, hl with | [_], _ => rfl), a__law_due := a23, d__law_due := _, F__law_due := F23, f__law_due := PySem.W.mg_of X G n23, b__law_due := F23.binds (ps := ["_law_thing_here"]) (fun _ _ _ _ _ _ us hl => match us, hl with | [_], _ => rfl), a__law_heard := a24, d__law_heard := _, F__law_heard := F24, f__law_heard := PySem.W.mg_of X G n24, b__law_heard := F24.binds (ps := ["_law_thing_here"]) (fun _ _ _ _ _ _ us hl => match us, hl with | [_], _ => rfl), a__law_odd_act := a25, d__law_odd_act := _, F__law_odd_act := F25, f__law_odd_act := PySem.W.mg_of X G n25, b__law_odd_act := F25.binds (ps := ["_law_bag_here", "_law_act"]) (fun _ _ _ _ _ _ us hl => match us, hl with | [_, _], _ => rfl), a__law_thing := a26, d__law_thing := _, F__law_thing := F26, f__law_thing := PySem.W.mg_of X G n26, b__law_thing := F26.binds (ps := ["_law_bag_here"]) (fun _ _ _ _ _ _ us hl => match us, hl with | [_], _ => rfl), a_law := fa, d_law := _, F_law := F27, f_law := PySem.W.mg_of X G n27, b_law := F27.binds (ps := ["_law_script"]) (fun _ _ _ _ _ _ us hl => match us, hl with | [_], _ => rfl), C_World := D0, g_World := PySem.W.mg_of X G aC0, cl_World := ⟨pg0, hd0, po0, wa0⟩, mk_World := ⟨mk0, n7, i7, kc0⟩, me_World_acts := ⟨n8, i8, k8⟩, me_World_arguments := ⟨n9, i9, k9⟩, me_World_outcomes := ⟨n10, i10, k10⟩, me_World_brings := ⟨n11, i11, k11⟩, sp_World_eq := n12, fn_World_eq := i12, na_World__arguments := na0_0, na_World__brings := na0_1, ne_World := ne0, m_ValueError := PySem.W.mg_none_of X G z_ValueError, m_abs := PySem.W.mg_none_of X G z_abs, m_all := PySem.W.mg_none_of X G z_all, m_bool := PySem.W.mg_none_of X G z_bool, m_dict := PySem.W.mg_none_of X G z_dict, m_int := PySem.W.mg_none_of X G z_int, m_isinstance := PySem.W.mg_none_of X G z_isinstance, m_len := PySem.W.mg_none_of X G z_len, m_list := PySem.W.mg_none_of X G z_list, m_min := PySem.W.mg_none_of X G z_min, m_range := PySem.W.mg_none_of X G z_range, m_repr := PySem.W.mg_none_of X G z_repr, m_sorted := PySem.W.mg_none_of X G z_sorted, m_str := PySem.W.mg_none_of X G z_str, m_tuple := PySem.W.mg_none_of X G z_tuple, t_LETTERS := t_LETTERS, g_LETTERS := PySem.W.mg_of X G z_LETTERS, C_MoveError := BM, g_MoveError := PySem.W.mg_of X G cnM, C_Wrong := B0, g_Wrong := PySem.W.mg_of X G cn0, fI_Wrong := I0, e_Wrong := E0, x_Wrong := X0, m_Wrong := exm_of TM M0 (nM 0 (by decide)), C_BadAct := B1, g_BadAct := PySem.W.mg_of X G cn1, fI_BadAct := I1, e_BadAct := E1, x_BadAct := X1, m_BadAct := exm_of TM M1 (nM 1 (by decide)) }
  have hn01 : B0 ≠ B1 := fun y => (List.nodup_cons.mp (List.nodup_cons.mp nd).2).1 (y ▸ List.mem_cons_self)
  have kv1 : PySem.W.kitOne K (.ref B0) (.ref B1) = some false := by
    obtain ⟨cd, h1, _⟩ := M1.cls
    rw [kit_ref ⟨cd, h1⟩ M1.ty _ (ref_beq hn01), M0.sub, has_ref (Ne.symm hn01) (nM 1 (by decide))]
  have kv2 : PySem.W.kitOne K (.ref B1) (.ref B0) = some false := by
    obtain ⟨cd, h1, _⟩ := M0.cls
    rw [kit_ref ⟨cd, h1⟩ M0.ty _ (ref_beq (Ne.symm hn01)), M1.sub, has_ref hn01 (nM 0 (by decide))]
  have kv3 : PySem.W.kitOne K (.ref B0) (.type "ValueError") = some true := by
    show PySem.W.subIn K (.ref B0) (.type "ValueError") = _
    rw [M0.sub]
    rfl
  have kv4 : PySem.W.kitOne K (.ref B1) (.type "ValueError") = some true := by
    show PySem.W.subIn K (.ref B1) (.type "ValueError") = _
    rw [M1.sub]
    rfl
  exact ⟨_, fun s u => .of_eq rfl, fun bs _ _ => ok_law T ⟨wh0, ghn, ght, hm0, ne0, hk_of hd0 hk0⟩ ⟨kv1, kv2, kv3, kv4⟩⟩
theorem walk {l : PySem.W.OpenLaw} {q : Program} {loose : List Str} {XP : (Str → Option Value) → Heap → Prop} {YP : World → Heap → Prop} {d : DefRec} {K : Params → PySem.W.Frag} (hn : l.most = some 63) (hdf : d.params.defaults = [])
    (hY : ∀ (w : World) (h : Heap), YP w h → (K w.params).In h)
    (F : ∀ (w : World) (mg : Str → Option Value) (fa : Addr) (h : Heap), (K w.params).In h → h.Ns mainGlobals mg → mg d.name = some (.ref fa) →
      ∃ fd : FuncData, (∀ (s : Shared) (u : Value), BindsTo s fd ⟨[u], []⟩ [("_law_script", u)]) ∧ ∀ bs : Heap, (K w.params).In bs → bs.Ns mainGlobals mg → FnG l.prog w (K w.params) mg bs 64 fa fd ["_law_script"] (spLaw (K w.params))) :
    PySem.W.WalkO q loose XP YP l.row.toRowW d [] (fun f vs => PySem.call f vs) :=
  Fm.walkG (n := 63) (k := 64) (x := "_law_script") (sp := fun w => spLaw (K w.params)) hn (by decide) hdf ⟨rfl, by decide, by decide⟩ hY F fun _ _ a ns hl hS => ⟨a, ns, rfl, hS, hl, fun _ => rfl⟩
end K21
open PySem PySem.W PyProof.Rows in
set_option maxRecDepth 100000 in
set_option maxHeartbeats 0 in
theorem PySem.Challenge.cw_framemoves_k21_worlds_refused_holds : PySem.Challenge.rw_framemoves_k21_worlds_refused.Holds := by
  w_on; o_law; k_head; (case hw => w_witness2)
  k_fill
  refine K21.walk (l := PySem.Challenge.rw_framemoves_k21_worlds_refused) rfl rfl (fun w h Y => PySem.W.kIn_of Y) ?F
  case F =>
    intro w mg fa h KX G hmg
    refine' K21.all_mk KX G hmg ?n0 ?l0 ?c0 ?k0 ?n1 ?l1 ?c1 ?k1 ?n2 ?l2 ?c2 ?k2 ?n3 ?l3 ?c3 ?k3 ?n4 ?l4 ?c4 ?k4 ?n5 ?l5 ?c5 ?k5 ?n6 ?l6 ?c6 ?k6 ?n7 ?i7 ?l7 ?c7 ?k7 ?n8 ?i8 ?l8 ?c8 ?k8 ?n9 ?i9 ?l9 ?c9 ?k9 ?n10 ?i10 ?l10 ?c10 ?k10 ?n11 ?i11 ?l11 ?c11 ?k11 ?n12 ?i12 ?l12 ?c12 ?k12 ?n13 ?l13 ?c13 ?k13 ?n14 ?l14 ?c14 ?k14 ?n15 ?l15 ?c15 ?k15 ?n16 ?l16 ?c16 ?k16 ?n17 ?l17 ?c17 ?k17 ?n18 ?l18 ?c18 ?k18 ?n19 ?l19 ?c19 ?k19 ?n20 ?l20 ?c20 ?k20 ?n21 ?l21 ?c21 ?k21 ?n22 ?l22 ?c22 ?k22 ?n23 ?l23 ?c23 ?k23 ?n24 ?l24 ?c24 ?k24 ?n25 ?l25 ?c25 ?k25 ?n26 ?l26 ?c26 ?k26 ?n27 ?l27 ?c27 ?k27 ?aC0 ?pg0 ?hd0 ?po0 ?wa0 ?mk0 ?kc0 ?na0_0 ?na0_1 ?ne0 ?wh0 ?hm0 ?hk0 ?ghn ?ght ?z_ValueError ?z_abs ?z_all ?z_bool ?z_dict ?z_int ?z_isinstance ?z_len ?z_list ?z_min ?z_range ?z_repr ?z_sorted ?z_str ?z_tuple ?z_LETTERS ?cnM ?cLM ?cn0 ?cL0 ?ga0 ?gg0 ?ha0 ?sa0 ?nb0 ?iI0 ?tI0 ?lI0 ?cI0 ?kC0 ?cn1 ?cL1 ?ga1 ?gg1 ?ha1 ?sa1 ?nb1 ?iI1 ?tI1 ?lI1 ?cI1 ?kC1 ?nd
    (case aC0 => k_is)
    (case n0 => k_is)
    (case l0 => k_is)
    (case c0 => k_is)
    (case k0 => k_is)
    (case n1 => k_is)
    (case l1 => k_is)
    (case c1 => k_is)
    (case k1 => k_is)
    (case n2 => k_is)
    (case l2 => k_is)
    (case c2 => k_is)
    (case k2 => k_is)
    (case n3 => k_is)
    (case l3 => k_is)
    (case c3 => k_is)
    (case k3 => k_is)
    (case n4 => k_is)
    (case l4 => k_is)
    (case c4 => k_is)
    (case k4 => k_is)
    (case n5 => k_is)
    (case l5 => k_is)
    (case c5 => k_is)
    (case k5 => k_is)
    (case n6 => k_is)
    (case l6 => k_is)
    (case c6 => k_is)
    (case k6 => k_is)
    (case n7 => k_is)
    (case i7 => k_is)
    (case l7 => k_is)
    (case c7 => k_is)
    (case k7 => k_is)
    (case n8 => k_is)
    (case i8 => k_is)
    (case l8 => k_is)
    (case c8 => k_is)
    (case k8 => k_is)
    (case n9 => k_is)
    (case i9 => k_is)
    (case l9 => k_is)
    (case c9 => k_is)
    (case k9 => k_is)
    (case n10 => k_is)
    (case i10 => k_is)
    (case l10 => k_is)
    (case c10 => k_is)
    (case k10 => k_is)
    (case n11 => k_is)
    (case i11 => k_is)
    (case l11 => k_is)
    (case c11 => k_is)
    (case k11 => k_is)
    (case n12 => k_is)
    (case i12 => k_is)
    (case l12 => k_is)
    (case c12 => k_is)
    (case k12 => k_is)
    (case n13 => k_is)
    (case l13 => k_is)
    (case c13 => k_is)
    (case k13 => k_is)
    (case n14 => k_is)
    (case l14 => k_is)
    (case c14 => k_is)
    (case k14 => k_is)
    (case n15 => k_is)
    (case l15 => k_is)
    (case c15 => k_is)
    (case k15 => k_is)
    (case n16 => k_is)
    (case l16 => k_is)
    (case c16 => k_is)
    (case k16 => k_is)
    (case n17 => k_is)
    (case l17 => k_is)
    (case c17 => k_is)
    (case k17 => k_is)
    (case n18 => k_is)
    (case l18 => k_is)
    (case c18 => k_is)
    (case k18 => k_is)
    (case n19 => k_is)
    (case l19 => k_is)
    (case c19 => k_is)
    (case k19 => k_is)
    (case n20 => k_is)
    (case l20 => k_is)
    (case c20 => k_is)
    (case k20 => k_is)
    (case n21 => k_is)
    (case l21 => k_is)
    (case c21 => k_is)
    (case k21 => k_is)
    (case n22 => k_is)
    (case l22 => k_is)
    (case c22 => k_is)
    (case k22 => k_is)
    (case n23 => k_is)
    (case l23 => k_is)
    (case c23 => k_is)
    (case k23 => k_is)
    (case n24 => k_is)
    (case l24 => k_is)
    (case c24 => k_is)
    (case k24 => k_is)
    (case n25 => k_is)
    (case l25 => k_is)
    (case c25 => k_is)
    (case k25 => k_is)
    (case n26 => k_is)
    (case l26 => k_is)
    (case c26 => k_is)
    (case k26 => k_is)
    (case n27 => k_is)
    (case l27 => k_is)
    (case c27 => k_is)
    (case k27 => k_is)
    (case pg0 => k_is)
    (case hd0 => k_is)
    (case po0 => k_is)
    (case wa0 => k_is)
    (case mk0 => k_is)
    (case kc0 => k_is)
    (case na0_0 => k_is)
    (case na0_1 => k_is)
    (case ne0 => k_is)
    (case wh0 => k_is)
    (case hm0 => k_is)
    (case hk0 => k_is)
    (case ghn => k_is)
    (case ght => k_is)
    (case z_ValueError => k_is)
    (case z_abs => k_is)
    (case z_all => k_is)
    (case z_bool => k_is)
    (case z_dict => k_is)
    (case z_int => k_is)
    (case z_isinstance => k_is)
    (case z_len => k_is)
    (case z_list => k_is)
    (case z_min => k_is)
    (case z_range => k_is)
    (case z_repr => k_is)
    (case z_sorted => k_is)
    (case z_str => k_is)
    (case z_tuple => k_is)
    (case z_LETTERS => k_is)
    (case cnM => k_is)
    (case cLM => k_is)
    (case cn0 => k_is)
    (case cL0 => k_is)
    (case ga0 => k_is)
    (case gg0 => k_is)
    (case ha0 => k_is)
    (case sa0 => k_is)
    (case nb0 => k_is)
    (case iI0 => k_is)
    (case tI0 => k_is)
    (case lI0 => k_is)
    (case cI0 => k_is)
    (case kC0 => k_is)
    (case cn1 => k_is)
    (case cL1 => k_is)
    (case ga1 => k_is)
    (case gg1 => k_is)
    (case ha1 => k_is)
    (case sa1 => k_is)
    (case nb1 => k_is)
    (case iI1 => k_is)
    (case tI1 => k_is)
    (case lI1 => k_is)
    (case cI1 => k_is)
    (case kC1 => k_is)
    (case nd => decide)
