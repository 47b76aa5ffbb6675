import PyProof.Rows.All
import Wide.All
import OpenK.AllK
import Wide.FinOn
import KE.SortData
import HandS.Strs
import HandS.SetFor
import HandS.SetTxt0
import HandS.SetBool
import HandS.More
import HandS.TupSets
import HandS.ForMost
import HandS.Defaults
import HandS.MakeKwOnly
import HandS.Conv
import HandS.IsInst
import HandS.Walk
import HandS.Flow
import KE.DataMinMax
import KE.GoesMore
import HandS.Style
import HandS.DictComp
import HandS.OwnEq
import KE.KCallOwn
import KE.KFmtOwn
import HandS.Codes
import HandS.FStr
import HandS.MakeKw
import HandS.TupAny
import HandS.Deep
import KE.KExcIs
import HandS.HotCalls
import HandS.ExcField
import KE.KExcInit
import HandS.Ends
import HandS.Words
import HandS.Comp
import HandS.WordsExc
import PyProof.EqAt
import HandS.List
import PyProof.ReprRoads
import PyProof.Rows.RegFStrParts
import HandS.HeadEnd
import HandS.Nested
import KE.SortKeyHeap
import KE.KEqNest
import HandS.SortKw
import KE.KNestM
import HandS.EndTab
import PyProof.Rows.StrRev
import KE.DataCmp
import KE.DataFind
import HandS.TryOnly
import HandS.Head0
import HandS.HeadHook1
import HandS.HeadHook2
import HandS.HeadNt
import KE.KStateDown
import Lean
import HandS.Head1
import HandS.Head2
import PySem.Challenge.RW_wordlines_k09_rows_by_keys_and_asks
set_option Elab.async false
set_option linter.all false
set_option maxRecDepth 100000
set_option maxHeartbeats 0
namespace Wl
open PySem

/-! ### strictly rising lists -/
theorem rising_ext {α : Type} {lt : α → α → Prop} (ir : ∀ a, ¬ lt a a) (tr : ∀ a b c, lt a b → lt b c → lt a c) :
    ∀ {l m : List α}, l.Pairwise lt → m.Pairwise lt → (∀ x, x ∈ l ↔ x ∈ m) → l = m
  | [], [], _, _, _ => rfl
  | [], y :: m, _, _, h => absurd ((h y).mpr List.mem_cons_self) (by simp)
  | x :: l, [], _, _, h => absurd ((h x).mp List.mem_cons_self) (by simp)
  | x :: l, y :: m, hl, hm, h => by
    obtain ⟨hx, hl'⟩ := List.pairwise_cons.mp hl
    obtain ⟨hy, hm'⟩ := List.pairwise_cons.mp hm
    have e : x = y := by
      rcases List.mem_cons.mp ((h x).mp List.mem_cons_self) with e | h1
      · exact e
      · rcases List.mem_cons.mp ((h y).mpr List.mem_cons_self) with e | h2
        · exact e.symm
        · exact absurd (tr _ _ _ (hx y h2) (hy x h1)) (ir x)
    subst e
    have : l = m := rising_ext ir tr hl' hm' fun z => by
      constructor
      · intro hz
        rcases List.mem_cons.mp ((h z).mp (List.mem_cons_of_mem _ hz)) with e | q
        · exact absurd (hx z hz) (by rw [e]; exact ir x)
        · exact q
      · intro hz
        rcases List.mem_cons.mp ((h z).mpr (List.mem_cons_of_mem _ hz)) with e | q
        · exact absurd (hy z hz) (by rw [e]; exact ir x)
        · exact q
    rw [this]

/-! ### texts by their codes -/
theorem str_ext {a b : Str} (h : a.cps.toList = b.cps.toList) : a = b := by
  cases a; cases b
  exact congrArg Str.mk (Array.ext' h)
abbrev ltS (a b : Str) : Prop := a.cps.toList < b.cps.toList
theorem ltS_irr (a : Str) : ¬ ltS a a := List.lt_irrefl _
theorem ltS_tr (a b c : Str) (h : ltS a b) (k : ltS b c) : ltS a c := List.lt_trans h k
theorem ltS_tot {a b : Str} (h : ¬ ltS a b) (k : ¬ ltS b a) : a = b :=
  str_ext (List.le_antisymm (List.not_lt.mp k) (List.not_lt.mp h))
def leB (a b : Str) : Bool := !decide (ltS b a)
theorem leB_trans (a b c : Str) (h : leB a b = true) (k : leB b c = true) : leB a c = true := by
  simp only [leB, Bool.not_eq_true', decide_eq_false_iff_not] at h k ⊢
  exact fun q => by
    by_cases e : ltS a b
    · exact k (ltS_tr _ _ _ q e)
    · have := ltS_tot e h
      subst this
      exact k q
theorem leB_total (a b : Str) : (leB a b || leB b a) = true := by
  simp only [leB, Bool.or_eq_true, Bool.not_eq_true', decide_eq_false_iff_not]
  by_cases h : ltS b a
  · exact .inr fun q => ltS_irr _ (ltS_tr _ _ _ h q)
  · exact .inl h
def sortS (xs : List Str) : List Str := xs.mergeSort leB
theorem mem_sortS {xs : List Str} {z : Str} : z ∈ sortS xs ↔ z ∈ xs := List.mem_mergeSort
theorem sortS_len (xs : List Str) : (sortS xs).length = xs.length := List.length_mergeSort _
theorem sortS_rising {xs : List Str} (h : xs.Nodup) : (sortS xs).Pairwise ltS := by
  have h1 : (sortS xs).Pairwise (fun a b => leB a b = true) := List.pairwise_mergeSort leB_trans leB_total xs
  have h2 : (sortS xs).Pairwise (· ≠ ·) := (List.mergeSort_perm xs leB).nodup_iff.mpr h
  refine List.Pairwise.imp₂ ?_ h1 h2
  intro a b q n
  simp only [leB, Bool.not_eq_true', decide_eq_false_iff_not] at q
  exact Classical.byContradiction fun c => n (ltS_tot c q)
/-- what is strictly rising with the same members is the sorted list -/
theorem sortS_eq {xs l : List Str} (h : xs.Nodup) (hl : l.Pairwise ltS) (hm : ∀ z, z ∈ l ↔ z ∈ xs) : l = sortS xs :=
  rising_ext ltS_irr ltS_tr hl (sortS_rising h) fun z => (hm z).trans mem_sortS.symm

/-! ### pairs of texts -/
abbrev Two := Str × Str
def ltP (p q : Two) : Prop := ltS p.1 q.1 ∨ (p.1 = q.1 ∧ ltS p.2 q.2)
instance (p q : Two) : Decidable (ltP p q) := by unfold ltP; infer_instance
theorem ltP_irr (p : Two) : ¬ ltP p p := by
  rintro (h | ⟨_, h⟩) <;> exact ltS_irr _ h
theorem ltP_tr (p q r : Two) (h : ltP p q) (k : ltP q r) : ltP p r := by
  obtain ⟨p1, p2⟩ := p
  obtain ⟨q1, q2⟩ := q
  obtain ⟨r1, r2⟩ := r
  rcases h with h | ⟨e, h⟩ <;> rcases k with k | ⟨f, k⟩
  · exact .inl (ltS_tr _ _ _ h k)
  · simp only at f; subst f; exact .inl h
  · simp only at e; subst e; exact .inl k
  · simp only at e f; subst e f; exact .inr ⟨rfl, ltS_tr _ _ _ h k⟩
theorem ltP_tot {p q : Two} (h : ¬ ltP p q) (k : ¬ ltP q p) : p = q := by
  obtain ⟨p1, p2⟩ := p
  obtain ⟨q1, q2⟩ := q
  simp only [ltP, not_or, not_and] at h k
  have e : p1 = q1 := ltS_tot h.1 k.1
  subst e
  rw [ltS_tot (h.2 rfl) (k.2 rfl)]
def lePB (a b : Two) : Bool := !decide (ltP b a)
theorem lePB_trans (a b c : Two) (h : lePB a b = true) (k : lePB b c = true) : lePB a c = true := by
  simp only [lePB, Bool.not_eq_true', decide_eq_false_iff_not] at h k ⊢
  exact fun q => by
    by_cases e : ltP a b
    · exact k (ltP_tr _ _ _ q e)
    · have := ltP_tot e h
      subst this
      exact k q
theorem lePB_total (a b : Two) : (lePB a b || lePB b a) = true := by
  simp only [lePB, Bool.or_eq_true, Bool.not_eq_true', decide_eq_false_iff_not]
  by_cases h : ltP b a
  · exact .inr fun q => ltP_irr _ (ltP_tr _ _ _ h q)
  · exact .inl h
def sortP (xs : List Two) : List Two := xs.mergeSort lePB
theorem mem_sortP {xs : List Two} {z : Two} : z ∈ sortP xs ↔ z ∈ xs := List.mem_mergeSort
theorem sortP_len (xs : List Two) : (sortP xs).length = xs.length := List.length_mergeSort _
theorem sortP_rising {xs : List Two} (h : xs.Nodup) : (sortP xs).Pairwise ltP := by
  have h1 : (sortP xs).Pairwise (fun a b => lePB a b = true) := List.pairwise_mergeSort lePB_trans lePB_total xs
  have h2 : (sortP xs).Pairwise (· ≠ ·) := (List.mergeSort_perm xs lePB).nodup_iff.mpr h
  refine List.Pairwise.imp₂ ?_ h1 h2
  intro a b q n
  simp only [lePB, Bool.not_eq_true', decide_eq_false_iff_not] at q
  exact Classical.byContradiction fun c => n (ltP_tot c q)
theorem sortP_eq {xs l : List Two} (h : xs.Nodup) (hl : l.Pairwise ltP) (hm : ∀ z, z ∈ l ↔ z ∈ xs) : l = sortP xs :=
  rising_ext ltP_irr ltP_tr hl (sortP_rising h) fun z => (hm z).trans mem_sortP.symm

/-! ### the machine's order is ours -/
theorem le_data_str (a b : Str) : (!PySem.W.dataLt (.str b) (.str a)) = leB a b := by
  rw [PySem.W.dataLt_str]
  rfl
theorem le_data_two (a b : Two) : (!PySem.W.dataLt (.tuple [.str b.1, .str b.2]) (.tuple [.str a.1, .str a.2])) = lePB a b := by
  rw [PySem.W.dataLt_pair rfl rfl, PySem.W.dataLt_str, PySem.W.dataLt_str]
  unfold lePB
  congr 1
  have q : ∀ x y : Str, (PyData.eqv (.str x) (.str y) = true) = (x = y) := fun x y => by simp [PyData.eqv]
  simp only [q]
  by_cases h : b.1 = a.1
  · by_cases k : b.2 = a.2
    · have e : b = a := Prod.ext h k
      subst e
      simp [ltP_irr]
    · simp only [h, k, if_true, if_false, ltP]
      by_cases z : ltS b.2 a.2
      · simp [z]
      · simp [z, ltS_irr]
  · simp only [h, if_false, ltP]
    by_cases z : ltS b.1 a.1 <;> simp [z, h]
end Wl

/-! Sets of texts, whole: set(xs), {e for ..}, sorted(a set). -/
namespace Wl
open PySem PySem.Spec PyProof.Rows L2
open PySem.Froz (SD sObj TxOk addTx tailTx)
theorem tail_ris {ep : Nat} {es : Array (Int × Value)} {t : SetTable} {b : Bool} (r : Ris t.place.toList) : Ris (tailTx ep es t b).2.2.place.toList := by
  unfold tailTx
  split
  · exact relayAll_ris _ _ _
  · exact r
theorem tail_led {ep : Nat} {es : Array (Int × Value)} {t : SetTable} {b : Bool} : (tailTx ep es t b).2.2.led = t.led := by
  unfold tailTx
  split
  · exact relayAll_led _ _ _
  · rfl
theorem add_ris {h : Int} {v : Value} {D : SD} (r : Ris D.2.2.place.toList) : Ris (addTx h v D).2.2.place.toList := by
  unfold addTx
  refine tail_ris ?_
  split
  · exact layNew_ris _ _ _ _ r
  · exact layNew_ris _ _ _ _ r
theorem add_led {h : Int} {v : Value} {D : SD} : (addTx h v D).2.2.led = D.2.2.led := by
  unfold addTx
  rw [tail_led]
  split
  · exact layNew_led _ _ _ _
  · exact layNew_led _ _ _ _
/-- the set at a holds the texts l, each once -/
structure SetX (P : Program) (w : World) (h : Heap) (a : Addr) (l : List Str) : Prop where
  nd : l.Nodup
  ob : ∃ D : SD, h.get? a = some (sObj "set" D) ∧ TxOk P w D l ∧ Ris D.2.2.place.toList ∧ (w.params.followText "set-order" = true ∨ D.2.2.led = true)
section
variable {P : Program} {w : World} {A : Around} {E : Value → Shared → Prop} {s : Shared} {a : Addr} {l : List Str} {k : Str} {u : Tok}
theorem SetX.at {h h' : Heap} (R : SetX P w h a l) (q : ∀ o, h.get? a = some o → h'.get? a = some o) : SetX P w h' a l := by
  obtain ⟨D, h1, h2⟩ := R.ob
  exact ⟨R.nd, D, q _ h1, h2⟩
/-- a text that is there already -/
theorem add_old {T : String} {D : SD} {Q : Bool → Shared → Prop} (hob : s.heap.get? a = some (sObj T D)) (F : TxOk P w D l) (hk : k ∈ l) (hb : l.length < scanBound) (h : Q false s) : wpAny (model P w) A (setAddHashed a (.str k u) (hashStr w k)) Q E s := by
  obtain ⟨es, ep, t⟩ := D
  have hdt : (sObj T (es, ep, t)).data = .set es ep t := rfl
  have hft : t.fits es.size = true := F.fit
  have hels : ElemsOf (strKind P w) es.toList := F.el
  have hn : es.size < scanBound := by rw [show es.size = l.length from F.sz]; exact hb
  have hks : (strKind P w).is k (.str k u) = true := PySem.Froz.is_str k u
  obtain ⟨j, hj⟩ : ∃ j, List.findIdx? (fun e => (strKind P w).is k e.2) es.toList = some j := by
    obtain ⟨e, he, hq⟩ := (F.mem k).mp hk
    cases hr : List.findIdx? (fun e => (strKind P w).is k e.2) es.toList with
    | some j => exact ⟨j, rfl⟩
    | none =>
      have := List.findIdx?_eq_none_iff.mp hr e he
      rw [hq] at this
      cases this
  unfold setAddHashed setAddHashedIn
  refine wpAny_holding (wpAny_bind (wpAny_setState_of hob hdt hft ?_))
  dsimp only
  rw [byScan_of rfl hn hels]
  simp only [↓reduceIte]
  unfold setAddByScan
  refine wpAny_bind (wpAny_bind (wpAny_rule (wpAny_bind (wpAny_setScan_of (knd := strKind P w) (k := k) hks hob hdt hft hels ?_))))
  rw [hj]
  dsimp only
  exact wpAny_pure (wpAny_pure h)
/-- a text put in -/
theorem setX_put {Q : Bool → Shared → Prop} (R : SetX P w s.heap a l) (room : l.length + 1 < scanBound)
    (hQ : ∀ (b : Bool) (h' : Heap) (l' : List Str), (∀ c o, c ≠ a → s.heap.get? c = some o → h'.get? c = some o) → SetX P w h' a l' → (∀ z, z ∈ l' ↔ z ∈ l ∨ z = k) → l'.length ≤ l.length + 1 → Q b { s with heap := h', toks := s.toks + 1 }) :
    wpAny (model P w) A (setAdd a (.str k u)) Q E s := by
  obtain ⟨D, h1, F, r, hl⟩ := R.ob
  unfold setAdd
  refine wpAny_holding (wpAny_bind ((PySem.strKind P w).pyHash (k := k) (strKind_is _ _ _ _) ?_))
  by_cases hk : k ∈ l
  · refine add_old (s := { s with toks := s.toks + 1 }) h1 F hk (by omega) (hQ false s.heap l (fun _ _ _ e => e) R (fun z => ?_) (Nat.le_succ _))
    constructor
    · exact .inl
    · rintro (e | e)
      · exact e
      · rw [e]
        exact hk
  · refine PySem.Froz.add_x (s := { s with toks := s.toks + 1 }) h1 F hk room (hQ true _ (k :: l) (fun c o n e => ?_) ⟨List.nodup_cons.mpr ⟨hk, R.nd⟩, _, PySem.Froz.get_upd _ h1 rfl, PySem.Froz.add_ok u F, add_ris r, ?_⟩ (fun z => ?_) (Nat.le_refl _))
    · exact (Heap.get?_update_other _ _ (Ne.symm n)).trans e
    · rw [add_led]
      exact hl
    · rw [List.mem_cons]
      exact Or.comm
end
section
variable {P : Program} {w : World} {A : Around} {R : Result → Shared → Prop} {I S : Addr} {fp wr : List Addr} {G : Array GenState → Array GenState → Prop} {n : Nat} {Pv : Nat → Value → Prop} {St : Nat → Shared → Prop} {xs : List Str}
/-- the texts of a walk, put in one by one -/
theorem walk_setX (W : WalksS P w A.in1 I fp wr G n Pv St) (hS : S ∉ fp) (hn : n = xs.length) (hb : n + 1 < scanBound) (hv : ∀ i v, Pv i v → ∃ x t, xs[i]? = some x ∧ v = .str x t) :
    ∀ (m i : Nat) (s : Shared) (l : List Str), n - i = m → i ≤ n → St i s → SetX P w s.heap S l → (∀ z, z ∈ l ↔ z ∈ xs.take i) → l.length ≤ i →
      (∀ s' l', Moved (S :: wr) G s s' → SetX P w s'.heap S l' → (∀ z, z ∈ l' ↔ z ∈ xs) → l'.length ≤ n → R (.ok (.ret .none)) s') → codeAny (model P w) A (.builtin "set.update.loop" ⟨[.ref S, .ref I], []⟩) R s := by
  have nS : S ∉ wr := fun q => hS (W.sub _ q)
  have wide : ∀ b ∈ wr, b ∈ S :: wr := fun b q => List.mem_cons_of_mem _ q
  intro m
  induction m with
  | zero =>
    intro i s l hm hi st X hz hl fin
    have e : i = n := by omega
    subst e
    refine codeAny_builtin PyProof.Rows.F.entry_set_update_loop ((Around.under_plainId PyProof.Rows.F.plain_set_update_loop _).symm ▸ ?_)
    show wpAny _ A.in1 (pyNext (.ref I) >>= _) _ _ s
    refine wpAny_bind (W.done s _ _ st fun s' mv => wpAny_pure (fin s' l (mv.mono wide) (X.at fun o q => mv.heap S o nS q) (fun z => ?_) hl))
    rw [hz, hn, List.take_length]
  | succ m ih =>
    intro i s l hm hi st X hz hl fin
    have lt : i < n := by omega
    refine codeAny_builtin PyProof.Rows.F.entry_set_update_loop ((Around.under_plainId PyProof.Rows.F.plain_set_update_loop _).symm ▸ ?_)
    show wpAny _ A.in1 (pyNext (.ref I) >>= _) _ _ s
    refine wpAny_bind (W.item i s _ _ lt st fun v s' pv st' mv => ?_)
    obtain ⟨x, t, hx, rfl⟩ := hv i v pv
    have X1 := X.at (h' := s'.heap) fun o q => mv.heap S o nS q
    show wpAny _ A.in1 (holding [Value.str x t] (setAdd S (.str x t)) >>= _) _ _ s'
    refine wpAny_bind (wpAny_holding (setX_put X1 (by omega) fun b h' l' kp X2 hz2 hl2 => ?_))
    refine wpAny_pure ⟨plainId_quiet PyProof.Rows.F.plain_set_update_loop _, ih (i + 1) _ l' (by omega) lt (W.frame _ s' _ _ st' (Nat.le_succ _) fun c hc o q => ?_) X2 (fun z => ?_) (by omega) fun s'' l'' mv2 X3 hz3 hl3 => fin s'' l'' (Moved.trans W.gtrans ((mv.mono wide).then_heap (Nat.le_succ _) fun c o hc q => ?_) mv2) X3 hz3 hl3⟩
    · exact kp c o (fun e => hS (e ▸ hc)) q
    · rw [hz2, hz, List.take_add_one, hx, List.mem_append]
      simp
    · exact kp c o (fun e => hc (e ▸ List.mem_cons_self)) q
end
theorem texts_each : ∀ {ys : List Str} {us : List Value}, Vals (ys.map V.str) us → ∀ (i : Nat) (v : Value), us[i]? = some v → ∃ x t, ys[i]? = some x ∧ v = .str x t
  | [], [], _, i, v, h => by simp at h
  | [], _ :: _, r, _, _, _ => nomatch r
  | _ :: _, [], r, _, _, _ => nomatch r
  | y :: ys, u :: us, .cons r t, 0, v, h => by
    obtain ⟨k, rfl⟩ := r
    exact ⟨y, k, rfl, (Option.some.inj h).symm⟩
  | y :: ys, u :: us, .cons r t, i + 1, v, h => by
    obtain ⟨x, k, h1, h2⟩ := texts_each t i v (by simpa using h)
    exact ⟨x, k, by simpa using h1, h2⟩
end Wl

namespace Wl
open PySem PySem.Spec PyProof.Rows L2
open PySem.Froz (SD sObj TxOk addTx tailTx)
/-- a new set, as the world lays it -/
abbrev setN (w : World) : Obj := { cls := .type "set", dict := none, data := .set #[] 0 (.fresh 0 0 (!w.params.followText "set-order")) }
theorem setX_new {P : Program} {w : World} {h : Heap} {a : Addr} (ho : h.get? a = some (setN w)) : SetX P w h a [] := by
  refine ⟨List.nodup_nil, (#[], 0, .fresh 0 0 (!w.params.followText "set-order")), ho, PySem.Froz.TxOk.nil rfl, List.Pairwise.nil, ?_⟩
  show _ ∨ (!w.params.followText "set-order") = true
  cases w.params.followText "set-order"
  · exact .inr rfl
  · exact .inl rfl
section
variable {P : Program} {w : World} {A : Around} {E : Value → Shared → Prop} {s : Shared} {xs : List Str}
theorem make_setX {l : Addr} {items : Array Value} {Q : Value → Shared → Prop} (hh : A.handled = none) (hl : s.heap.IsList l items) (r : Vals (xs.map V.str) items.toList) (hb : xs.length + 1 < scanBound)
    (h : ∀ (h' : Heap) (tk : Nat) (ys : List Str), SetX P w h' s.heap.objs.size ys → (∀ z, z ∈ ys ↔ z ∈ xs) → ys.length ≤ xs.length → (∀ b o, b < s.heap.objs.size → s.heap.get? b = some o → h'.get? b = some o) → Q (.ref s.heap.objs.size) { s with heap := h', toks := tk }) :
    wpAny (model P w) A (call (.type "set") [.ref l]) Q E s := by
  have hsz : xs.length = items.size := by
    have := r.length
    rw [List.length_map, Array.length_toList] at this
    exact this
  obtain ⟨c, tl, hmro⟩ := PySem.F.called_set.mro
  have a1 := PySem.F.called_set.made
  have a2 := PySem.F.called_set.sub
  have a3 := PySem.F.called_set.notType
  have a4 := PySem.F.called_set.canCreate
  have a5 := PySem.F.typeCall_set_1 (.ref l)
  refine wpAny_call (codeAny_of_tree (show wpAny _ _ (callAny (.type "set") _) _ _ _ from wpAny_pure ⟨Code.quiet_builtin _ (by decide +kernel), codeAny_builtin PySem.F.entry_type_call ?_⟩))
  rw [Around.under_plain (weight_type_call_type "set" [.ref l] []) rfl]
  repeat (any_goals (first | assumption | wp_step))
  refine codeAny_mono (code_set_led1 (.ref l) (E := E) (Q₁ := fun obj s₁ => obj = .ref s.heap.objs.size ∧ s₁ = { s with heap := s.heap.push (setN w) }) ⟨rfl, rfl⟩) fun r₁ s₁ h₁ => ?_
  cases r₁ with
  | error e => exact h₁
  | ok fl =>
    cases fl with
    | ret obj =>
      obtain ⟨rfl, rfl⟩ := h₁
      have g1 : (s.heap.push (setN w)).get? s.heap.objs.size = some (setN w) := Heap.get?_push_size _ rfl
      have g2 : Shared.TypeIs { s with heap := s.heap.push (setN w) } (.ref s.heap.objs.size) "set" := ⟨_, g1, rfl⟩
      have g3 := PySem.F.called_set.init.lookup
      have g4 := PySem.F.called_set.init.bind (.ref s.heap.objs.size)
      repeat (any_goals (first | assumption | wp_step))
      refine codeAny_mono (codeAny_call_builtin (R := wants (fun v s₂ => v = .none ∧ ∃ h' tk ys, s₂ = { s with heap := h', toks := tk } ∧ SetX P w h' s.heap.objs.size ys ∧ (∀ z, z ∈ ys ↔ z ∈ xs) ∧ ys.length ≤ xs.length ∧ (∀ b o, b < s.heap.objs.size → s.heap.get? b = some o → h'.get? b = some o)) E) PySem.F.called_set.init.plain PySem.F.entry_set_init (check_set_init_1 g2 ?_)) fun r₂ s₂ h₂ => ?_
      · obtain ⟨⟨oc, odt, oda, osl⟩, e1, e2, nl, e3⟩ := hl
        simp only at e2 e3
        subst e2 e3
        have e4 : (s.heap.push (setN w)).get? l = some { cls := .type "list", dict := odt, data := .seq items nl, slots := osl } := Heap.get?_push_of_some _ e1
        have b1 := PySem.F.sub_list_set
        have b2 := PySem.F.sub_list_frozenset
        have b3 : (Value.type "list" == Value.type "dict") = false := by decide
        have il : (s.heap.push (setN w)).IsList l items := ⟨_, e4, rfl, nl, rfl⟩
        have ll : l < s.heap.objs.size := Heap.lt_size e1
        have zz : (s.heap.push (setN w)).objs.size = s.heap.objs.size + 1 := Heap.size_push ..
        unfold Builtin.«set.__init__» noKeywords Builtin.Frozenset.updateFrom
        generalize hPI : pyIter = PI
        wp_walk
        subst hPI
        refine wpAny_pyIter_list il (wpAny_bind (wpAny_runValue ?_))
        have hh3 : A.in1.in1.in1.handled = none := by simp [hh]
        refine walk_setX (S := s.heap.objs.size) (xs := xs) (n := items.size) ((Walks.list hh3 _ l (by rw [zz]; exact Nat.ne_of_lt (Nat.lt_succ_of_lt ll)) items).toS) (by rw [zz]; simp only [List.mem_cons, List.not_mem_nil, or_false, not_or]; exact ⟨Nat.ne_of_lt (Nat.lt_succ_self _), Nat.ne_of_gt ll⟩) hsz.symm (by omega) (fun i v q => texts_each r i v (by rw [Array.getElem?_toList]; exact q)) (items.size - 0) 0 _ [] (by omega) (Nat.zero_le _) ⟨⟨_, Heap.get?_push_size _ rfl, rfl, rfl⟩, il.push _⟩ (setX_new (Heap.get?_push_of_some _ g1)) (fun z => by simp) (Nat.le_refl _) ?_
        intro s' ys mv X hz hy
        obtain ⟨h', g', d', tk', os'⟩ := s'
        obtain rfl : g' = s.gens := mv.gens
        obtain rfl : d' = s.drawn := mv.drawn
        obtain rfl : os' = s.os := mv.os
        refine wpAny_pure (show wpAny _ _ (ret Value.none) _ _ _ from wpAny_pure ⟨rfl, h', tk', ys, rfl, X, hz, by rw [hsz]; exact hy, fun b' o hb' q => mv.heap b' o ?_ (Heap.get?_push_of_some _ (Heap.get?_push_of_some _ q))⟩)
        rw [zz]
        simp only [List.mem_cons, List.not_mem_nil, or_false, not_or]
        exact ⟨Nat.ne_of_lt hb', Nat.ne_of_lt (Nat.lt_succ_of_lt hb')⟩
      · cases r₂ with
        | error e => exact h₂
        | ok fl₂ =>
          cases fl₂ with
          | ret v =>
            obtain ⟨rfl, h', tk, ys, rfl, X, hz, hy, kk⟩ := h₂
            repeat (any_goals (first | assumption | wp_step))
            exact h _ _ ys X hz hy kk
          | _ => exact h₂.elim
    | _ => exact h₁.elim
end
/-! as tracked things -/
def SetXO (P : Program) (w : World) (a : Addr) (l : List Str) : HO := .ext fun h => SetX P w h a l
theorem setXO_ok {P : Program} {w : World} {H : Hp} {h : Heap} {a : Addr} {l : List Str} (R : SetX P w h a l) : ObjOk P w H h a (SetXO P w a l) := by
  obtain ⟨D, h1, _⟩ := R.ob
  exact ⟨R, ⟨_, h1⟩, fun _ _ p k => p.at k⟩
theorem same_members {ks : List Str} : ∀ {l : List Str}, l.Nodup → (∀ z ∈ l, z ∈ ks) → ks.length = l.length → ks.Perm l := by
  intro l
  induction l generalizing ks with
  | nil =>
    intro _ _ h
    rw [List.eq_nil_of_length_eq_zero h]
  | cons x l ih =>
    intro nd hs hl
    rw [List.nodup_cons] at nd
    have hx := hs x List.mem_cons_self
    have p := List.perm_cons_erase hx
    refine p.trans (List.Perm.cons x (ih nd.2 (fun z hz => ?_) ?_))
    · have hne : z ≠ x := fun e => nd.1 (e ▸ hz)
      exact (List.mem_erase_of_ne hne).mpr (hs z (List.mem_cons_of_mem _ hz))
    · have := p.length_eq
      rw [List.length_cons] at this
      rw [List.length_cons] at hl
      omega
def txtV : Value → Str
  | .str k _ => k
  | _ => ""
theorem strs_srt (ks : List Str) : ks.mergeSort (PySem.W.dataLe false PyData.str) = sortS ks := by
  unfold sortS
  congr 1
  funext a b
  exact le_data_str a b
theorem each_txt : ∀ {vs : List Value}, (∀ v ∈ vs, ∃ k t, v = .str k t) → PySem.W.EachIs (fun u z => RelV (.str z) u) vs (vs.map txtV)
  | [], _ => .nil
  | v :: vs, h => by
    obtain ⟨k, t, rfl⟩ := h v List.mem_cons_self
    exact .cons ⟨t, rfl⟩ (each_txt fun u hu => h u (List.mem_cons_of_mem _ hu))
theorem vals_txt : ∀ {out : List Value} {ks : List Str}, PySem.W.EachIs (fun u z => RelV (.str z) u) out ks → Vals (ks.map V.str) out
  | _, _, .nil => .nil
  | _, _, .cons r t => .cons r (vals_txt t)
theorem sortS_perm {a b : List Str} (nd : b.Nodup) (p : a.Perm b) : sortS a = sortS b := by
  refine sortS_eq nd (sortS_rising (p.nodup_iff.mpr nd)) fun z => ?_
  rw [mem_sortS, p.mem_iff]
section
variable {X : Cx}
/-- set(xs), xs a list of texts -/
def rSetX (K : PySem.W.Frag) (P : Program) (w : World) : List V → Hp → VK → Prop := fun xs H Q => ∃ (p : Addr) (ys : List Str), xs = [V.ref p] ∧ SqL K H p (ys.map V.str) ∧ ys.length ≤ 1000 ∧
  ∀ (a : Addr) (l : List Str), H a = none → l.Nodup → (∀ z, z ∈ l ↔ z ∈ ys) → l.length ≤ ys.length → Q (.ref a) (upd H a (SetXO P w a l))
theorem cr_setX (hc : X.calm = true) : CallR X (.type "set") (rSetX X.K X.prog X.w) := by
  intro pins s σ H xs us Q I r h
  obtain ⟨p, ys, rfl, hp, hy, q⟩ := h
  rw [Vals.ref1 r]
  obtain ⟨its, rv, pl, hz⟩ := I.list hp
  refine make_setX (P := X.prog) (w := X.w) (I.ok.hd hc) pl.isList (by simpa using rv) (by unfold scanBound; omega) fun h' tk l R hm hl k => ?_
  exact ⟨.ref s.heap.objs.size, upd H s.heap.objs.size (SetXO X.prog X.w s.heap.objs.size l), I.laid (t' := tk) (fun b o e => k b o (Heap.lt_size e) e) (Nat.le_refl _) (setXO_ok R), rfl, q _ l (I.hok.fresh (Nat.le_refl _)) R.nd hm hl⟩
/-- sorted(a set of texts) -/
def rSortX (P : Program) (w : World) : List V → Hp → VK → Prop := fun vs H Q => ∃ (a : Addr) (l : List Str), vs = [V.ref a] ∧ H a = some (SetXO P w a l) ∧ l.length ≤ 1000 ∧ ∀ p, H p = none → Q (.ref p) (upd H p (.lst ((sortS l).map V.str)))
theorem cr_sortX (hc : X.calm = true) (hu : X.A.units + 64 < cLine) : CallR X (.builtin "sorted") (rSortX X.prog X.w) := by
  intro pins s σ H vs us Q I r h
  obtain ⟨a, l, rfl, ha, hl, q⟩ := h
  have R : SetX X.prog X.w s.heap a l := (I.hok a _ ha).1
  rw [Vals.ref1 r]
  obtain ⟨⟨es, ep, t⟩, ho, F, ri, led⟩ := R.ob
  have hes : es.size = l.length := F.sz
  refine Calls.call_function_entry PyProof.Rows.kind_sorted PyProof.Rows.plain_sorted PyProof.Rows.entry_sorted (PyProof.Rows.args_sorted1 _) ?_
  unfold Builtin.«sorted»
  refine wpAny_bind (m := checkCount "sorted" 1 1 _) (wpAny_pure ?_)
  refine wpAny_bind (collect_set (A := X.A.in1) (I.ok.hd hc) ⟨_, ho, rfl, rfl⟩ F.fit (by show es.size < scanBound; unfold scanBound; omega) ri led fun s1 out k1 z1 g1 o1 pm => ?_)
  have hv : ∀ v ∈ out, ∃ k t, v = Value.str k t := fun v hv => by
    obtain ⟨e, he, rfl⟩ := List.mem_map.mp (pm.mem_iff.mp hv)
    obtain ⟨⟨k, hk, _⟩, _⟩ := F.el e he
    obtain ⟨t, ht⟩ := Value.isStrOf_shape (x := k) (v := e.2) hk
    exact ⟨k, t, ht⟩
  have hol : out.length = l.length := by
    rw [pm.length_eq, List.length_map, Array.length_toList]
    exact hes
  have pl : (out.map txtV).Perm l := by
    refine same_members R.nd (fun z hz => ?_) (by rw [List.length_map]; exact hol)
    obtain ⟨e, he, hk⟩ := (F.mem z).mp hz
    obtain ⟨t, ht⟩ := Value.isStrOf_shape (x := z) (v := e.2) hk
    refine List.mem_map.mpr ⟨e.2, pm.mem_iff.mpr (List.mem_map.mpr ⟨e, he, rfl⟩), ?_⟩
    rw [ht]
    rfl
  have hS := each_txt hv
  have hsl : (out.map txtV).length ≤ sizeLine := by
    rw [List.length_map, hol]
    exact Nat.le_trans hl (by decide)
  refine wpAny_bind (wpAny_newList ?_ (by rw [hol]; exact Nat.le_trans hl (by decide)))
  have hoL : (s1.heap.push (seqObj "list" out.toArray 0)).get? s1.heap.objs.size = some (seqObj "list" out.toArray 0) := Heap.get?_push_size _ rfl
  refine wpAny_bind (wpAny_holding (PySem.W.list_sort_data (R := fun u z => RelV (.str z) u) (enc := PyData.str) (s := { s1 with heap := s1.heap.push (seqObj "list" out.toArray 0) }) hoL hS (hS.mono fun v b r => ?_) (PySem.W.AllAlike.of fun _ _ => rfl) (PySem.W.Sortable.others fun b => ⟨(fun e => by cases e), (fun xs e => by cases e)⟩) hsl (fun b _ => ?_) fun srt hso eo => ?_))
  · obtain ⟨t, rfl⟩ := r
    exact ⟨[], .str _ _, by simp⟩
  · show X.A.units + 1 + 1 + 0 < cLine
    omega
  · rw [strs_srt, sortS_perm R.nd pl] at eo
    obtain ⟨e', he'⟩ := PyProof.Rows.sortedHeap_at (vs := out) (out := srt.toArray) hoL
    have hlen : ((sortS l).map V.str).length ≤ sizeLine := by
      rw [List.length_map, sortS_len]
      exact Nat.le_trans hl (by decide)
    have hn : H s1.heap.objs.size = none := I.hok.fresh z1
    have kp : ∀ b o, s.heap.get? b = some o → (PyProof.Rows.sortedHeap (s1.heap.push (seqObj "list" out.toArray 0)) s1.heap.objs.size out srt.toArray).get? b = some o := fun b o e => by
      have q1 := k1 b o e
      have hb := Heap.lt_size q1
      rw [PyProof.Rows.sortedHeap_old (Nat.ne_of_lt hb) (by rw [size_push']; exact Nat.lt_succ_of_lt hb)]
      exact Heap.get?_push_of_some _ q1
    have J : L2.Inv X pins σ (upd H s1.heap.objs.size (.lst ((sortS l).map V.str))) { s with heap := PyProof.Rows.sortedHeap (s1.heap.push (seqObj "list" out.toArray 0)) s1.heap.objs.size out srt.toArray, gens := s1.gens, drawn := s1.drawn, toks := s1.toks } :=
      I.call (ch := []) (Un.laid kp z1 hn) (I.hok.laid kp z1 ⟨hlen, srt, e', vals_txt eo, he'⟩) (by rw [g1]; exact I.bare) (fun _ z => nomatch z)
    have es1 : ({ s1 with heap := PyProof.Rows.sortedHeap (s1.heap.push (seqObj "list" out.toArray 0)) s1.heap.objs.size out srt.toArray } : Shared) = { s with heap := PyProof.Rows.sortedHeap (s1.heap.push (seqObj "list" out.toArray 0)) s1.heap.objs.size out srt.toArray, gens := s1.gens, drawn := s1.drawn, toks := s1.toks } := by
      cases s1
      cases s
      cases o1
      rfl
    refine wpAny_pure ⟨_, rfl, .ref s1.heap.objs.size, upd H s1.heap.objs.size (.lst ((sortS l).map V.str)), ?_, rfl, q _ hn⟩
    show L2.Inv X pins σ _ { s1 with heap := PyProof.Rows.sortedHeap (s1.heap.push (seqObj "list" out.toArray 0)) s1.heap.objs.size out srt.toArray }
    rw [es1]
    exact J
end
end Wl

/-! Rules of ours beside the layer: sorted of data, min and max of two texts, in of nested tuples, methods by keyword, enumerate of a tuple. -/
namespace Wl
open PySem PySem.Spec PyProof.Rows L2

/-! sorted(list of data) -/
def rSortD (K : PySem.W.Frag) : List V → Hp → VK → Prop := fun vs H Q =>
  ∃ (a : Addr) (bs : List (V × PyData)), vs = [V.ref a] ∧ SqL K H a (bs.map (·.1)) ∧ (∀ b ∈ bs, Dp K H b.1 b.2) ∧
    PySem.W.AllAlike (bs.map (·.2)) ∧ PySem.W.Sortable (bs.map (·.2)) ∧ (∀ b ∈ bs, b.2.depth ≤ 8) ∧
    ∀ p, H p = none → Q (.ref p) (upd H p (.lst ((bs.mergeSort (PySem.W.dataLe false (·.2))).map (·.1))))
theorem each_of_vals : ∀ {bs : List (V × PyData)} {its : List Value}, Vals (bs.map (·.1)) its → PySem.W.EachIs (fun u b => RelV b.1 u) its bs
  | [], [], _ => .nil
  | [], _ :: _, h => nomatch h
  | _ :: _, [], h => nomatch h
  | b :: bs, u :: us, h => by
    cases h with
    | cons r t => exact .cons r (each_of_vals t)
theorem vals_of_each : ∀ {bs : List (V × PyData)} {its : List Value}, PySem.W.EachIs (fun u b => RelV b.1 u) its bs → Vals (bs.map (·.1)) its
  | _, _, .nil => .nil
  | _, _, .cons r t => .cons r (vals_of_each t)
theorem each_reads {X : Cx} {pins : List (Addr × Obj)} {σ : L2.St} {H : Hp} {s : Shared} (I : Inv X pins σ H s) :
    ∀ {bs : List (V × PyData)} {its : List Value}, (∀ b ∈ bs, Dp X.K H b.1 b.2) → PySem.W.EachIs (fun u b => RelV b.1 u) its bs →
      PySem.W.EachIs (fun v b => ∃ as, Reads s.heap v b.2 as) its bs
  | _, _, _, .nil => .nil
  | _, _, hd, .cons r t => .cons (Dp.reads I _ _ _ (hd _ List.mem_cons_self) r) (each_reads I (fun b m => hd b (List.mem_cons_of_mem _ m)) t)
theorem cr_sortD {X : Cx} (hu : X.A.units + 64 < cLine) : CallR X (.builtin "sorted") (rSortD X.K) := by
  intro pins s σ H vs us Q I r h
  obtain ⟨a, bs, rfl, hs, hd, ha, hk, hz, q⟩ := h
  obtain ⟨its, rv, hl, hn⟩ := I.list hs
  obtain ⟨u, rfl, ru⟩ := vals1 r
  obtain rfl : u = Value.ref a := ru
  have e := each_of_vals rv
  have hbn : bs.length ≤ sizeLine := by
    rw [List.length_map] at hn
    exact hn
  refine PySem.W.sorted_data (R := fun u b => RelV b.1 u) (enc := (·.2)) hl.isList e (each_reads I hd e) ha hk hbn (fun b hb => ?_) fun out ho eo => ?_
  · have := hz b hb
    omega
  · have rv2 := vals_of_each eo
    obtain ⟨n, hn2⟩ := sortedAll_at s.heap its out.toArray
    have hlen : ((bs.mergeSort (PySem.W.dataLe false (·.2))).map (·.1)).length ≤ sizeLine := by
      rw [List.length_map, List.length_mergeSort]
      exact hbn
    exact ⟨.ref (s.heap.objs.size + 1), _, I.laid (t' := s.toks) (o := .lst ((bs.mergeSort (PySem.W.dataLe false (·.2))).map (·.1))) (fun b o e => sortedAll_old e) (Nat.le_succ _) ⟨hlen, out, n, rv2, hn2⟩, rfl, q _ (I.hok.fresh (Nat.le_succ _))⟩

/-! min, max of a tuple of two texts -/
def rTwo (K : PySem.W.Frag) (f : Str → Str → Str) : List V → Hp → VK → Prop := fun vs H Q =>
  ∃ (a : Addr) (x y : Str), vs = [V.ref a] ∧ SqT K H a [.str x, .str y] ∧ Q (.str (f x y)) H
def lessOf (x y : Str) : Str := if y.cps.toList < x.cps.toList then y else x
def moreOf (x y : Str) : Str := if x.cps.toList < y.cps.toList then y else x
theorem alike2 (x y : Str) : PySem.W.AlikeAll [PyData.str x, .str y] := by
  refine ⟨fun a ha b hb => ?_, fun a ha => ?_⟩
  · simp only [List.mem_cons, List.not_mem_nil, or_false] at ha hb
    rcases ha with rfl | rfl <;> rcases hb with rfl | rfl <;> rfl
  · simp only [List.mem_cons, List.not_mem_nil, or_false] at ha
    rcases ha with rfl | rfl <;> exact fun z => by cases z
theorem dp2 {K : PySem.W.Frag} {H : Hp} (x y : Str) : DpAll K H [.str x, .str y] [PyData.str x, .str y] := .cons (.str x) (.cons (.str y) .nil)
theorem cr_minT {X : Cx} (hc : X.calm = true) (hu : X.A.units + 64 < cLine) : CallR X (.builtin "min") (rTwo X.K lessOf) := by
  intro pins s σ H vs us Q I r h
  obtain ⟨a, x, y, rfl, hs, q⟩ := h
  obtain ⟨its, rv, hl, hn⟩ := I.tuple hs
  obtain ⟨u, rfl, ru⟩ := vals1 r
  obtain rfl : u = Value.ref a := ru
  obtain ⟨as, hr⟩ := Dp.readsAll I _ _ its (dp2 x y) rv
  refine PySem.W.min_tuple_data (I.ok.hd hc) (show s.heap.IsTuple a its.toArray from hl) (by simpa using hr) (alike2 x y) (by
    have : PyData.depthAll [PyData.str x, .str y] = 0 := rfl
    omega) fun i v h' tk bs hv hR hk => ?_
  have e : PySem.W.minD (.str x) [.str y] = .str (lessOf x y) := by
    unfold PySem.W.minD lessOf
    simp only [List.foldl_cons, List.foldl_nil, PySem.W.dataLt_str]
    by_cases c : y.cps.toList < x.cps.toList <;> simp [c]
  rw [e] at hR
  cases hR with
  | str z t => exact ⟨.str _, H, I.kept (t' := tk) hk, ⟨_, rfl⟩, q⟩
theorem cr_maxT {X : Cx} (hc : X.calm = true) (hu : X.A.units + 64 < cLine) : CallR X (.builtin "max") (rTwo X.K moreOf) := by
  intro pins s σ H vs us Q I r h
  obtain ⟨a, x, y, rfl, hs, q⟩ := h
  obtain ⟨its, rv, hl, hn⟩ := I.tuple hs
  obtain ⟨u, rfl, ru⟩ := vals1 r
  obtain rfl : u = Value.ref a := ru
  obtain ⟨as, hr⟩ := Dp.readsAll I _ _ its (dp2 x y) rv
  refine PySem.W.max_tuple_data (I.ok.hd hc) (show s.heap.IsTuple a its.toArray from hl) (by simpa using hr) (alike2 x y) (by
    have : PyData.depthAll [PyData.str x, .str y] = 0 := rfl
    omega) fun i v h' tk bs hv hR hk => ?_
  have e : PySem.W.maxD (.str x) [.str y] = .str (moreOf x y) := by
    unfold PySem.W.maxD moreOf
    simp only [List.foldl_cons, List.foldl_nil, PySem.W.dataLt_str]
    by_cases c : x.cps.toList < y.cps.toList <;> simp [c]
  rw [e] at hR
  cases hR with
  | str z t => exact ⟨.str _, H, I.kept (t' := tk) hk, ⟨_, rfl⟩, q⟩

/-! x in a tuple of data -/
def rInDT (K : PySem.W.Frag) : R2 := fun x y H Q => ∃ d ds, Dp K H x d ∧ Dp K H y (.tuple ds) ∧ SeqAt.shaped d = true ∧
  SeqAt.shaped (.tuple ds) = true ∧ Q (.bl (ds.any fun z => PyData.eqv z d)) H
theorem op_inDT {X : Cx} (hu : X.A.units + 65 < cLine) : OpR X (compareOp .In) (rInDT X.K) := by
  intro pins s σ H x y v u Q I rx ry h
  obtain ⟨d, ds, hd, he, sd, se, q⟩ := h
  obtain ⟨as, r1⟩ := Dp.reads I d x v hd rx
  obtain ⟨bs, r2⟩ := Dp.reads I (.tuple ds) y u he ry
  exact SeqAt.in_tuple_reads r2 r1 (SeqAt.canLay_of_shaped se) (SeqAt.canLay_of_shaped sd) (room_in_shaped sd hu) ⟨.bl _, H, I, rfl, q⟩

/-! o.m(k = e): one argument by its name -/
def g2 {α : Type} : List α → List α → List α
  | [a], [b] => [a, b]
  | _, _ => []
theorem g2_rel : ∀ {vs : List V} {us : List Value} {zs : List V} {ws : List Value}, Vals vs us → Vals zs ws → Vals (g2 vs zs) (g2 us ws)
  | _, _, _, _, .nil, _ => .nil
  | _, _, _, _, .cons a (.cons b c), _ => .nil
  | _, _, _, _, .cons a .nil, .nil => .nil
  | _, _, _, _, .cons a .nil, .cons b .nil => .cons a (.cons b .nil)
  | _, _, _, _, .cons a .nil, .cons b (.cons c d) => .nil
def tMethK (C : Addr) (m : Str) (sp : Sp) (E : XK) (ta : TE) (tk : TA) : TE := fun σ H Q => ta σ H fun x H1 =>
  ∃ a dx fs, x = .ref a ∧ H1 a = some (.ins C dx fs) ∧ fs.lookup m = none ∧ tk σ H1 fun zs H2 => sp (g2 [.ref a] zs) H2 Q E
theorem pe_methK {X : Cx} {CX : CXT} {k : Nat} {f C : Addr} {fd : FuncData} {ps ks : List Str} {sp : Sp} {E : XK} {m : Str} {pos apos : Pos} {o : Expr} {kws : List Keyword} {ta : TE} {tk : TA} {pl : Sem Bool}
    (he : PE X o ta) (c : Cls X.K C) (hm : Meth X.K C m f) (F : FnOk X.prog X.w X.K X.mg X.base CX k f fd ps sp) (hr : Room k X.A) (hb : KBinds X.K fd ps ks g2 g2) (hx : Passes CX X E) (hkw : PK X kws tk)
    (hall : (backToKw pos (keywordEach kws X.env)).all (·.1.isSome) = true := by rfl) (hks : (backToKw pos (keywordEach kws X.env)).filterMap (·.1) = ks := by rfl)
    (hpl : ((backTo pos (starEach [] X.env)).any (·.1) || (backToKw pos (keywordEach kws X.env)).any (·.1.isNone)) = false := by rfl)
    (ht : eval (.Call (.Attribute o m apos) [] kws pos) X.env = (do
      let ov ← eval o X.env
      standAt apos.atName
      let (f, first) ← holding [ov] (getMethod ov m pl)
      callWith pos f first (backTo pos (starEach [] X.env)) (backToKw pos (keywordEach kws X.env))) := by rfl) :
    PE X (.Call (.Attribute o m apos) [] kws pos) (tMethK C m sp E ta tk) := by
  refine ⟨fun pins s σ H Q I h => ?_⟩
  refine PySem.W.methodCall_KW (pl := pl) (thn (he.run pins s σ H _ I h) fun u s1 ⟨x, H1, I1, rx, a, dx, fs, ex, ea, l, q⟩ => ?_) ht
  subst ex
  obtain rfl : u = Value.ref a := rx
  refine getmeth_ok I1 ea c hm l ?_
  refine PySem.W.callWith_KW0 (first := [.ref a]) (h₀ := X.base) I.ok.mod.kin hm.kp hall (thn (hkw.run pos pins s1 σ H1 _ I1 q) fun ws s2 ⟨zs, H2, I2, rz, q2⟩ => ⟨I2.kIn, ?_⟩) hpl
  rw [hks]
  exact run_fnk (us := [.ref a]) (vs := [.ref a]) F hr hb hx I2 (.cons rfl .nil) rz q2

/-! enumerate(a tuple) -/
open AutoSeq1 (wpAny_loadPart') in
theorem new_enumT (l : Addr) (items : Array Value) (n : Nat) (dct : Option Addr) (sl : Array (Option Value)) :
    Meets (Builtin.«enumerate.__new__» ⟨[.type "enumerate", .ref l], []⟩) (fun _ R s =>
      s.heap.get? l = some { cls := .type "tuple", dict := dct, data := .seq items n, slots := sl } ∧
      R (.ok (.ret (.ref (s.heap.push { cls := .type "tuple_iterator", data := .fields #[.ref l, .int 0 0] }).objs.size)))
        { s with heap := (s.heap.push { cls := .type "tuple_iterator", data := .fields #[.ref l, .int 0 0] }).push { cls := .type "enumerate", data := .fields #[.none, .bool false, .ref s.heap.objs.size, rawInt 0, .none, .none] } }) :=
  .of_wp fun prog w A R s h => by
    obtain ⟨hp, g, d, tk, os⟩ := s
    obtain ⟨hl, h⟩ := h
    have hsub := sub_enumerate
    have hT : Heap.IsTuple (Shared.heap ⟨hp, g, d, tk, os⟩) l items := ⟨_, hl, rfl, n, rfl⟩
    wp_walk using wpAny_loadPart' hl
    refine wpAny_stack_any fun st => wpAny_pure ?_
    split
    · rename_i c _ _ _ _ _
      cases (c == Value.type "enumerate") <;> (wp_walk using wpAny_loadPart' hl, wpAny_pyIter_tuple hT; exact ⟨_, rfl, h⟩)
    · (wp_walk using wpAny_loadPart' hl, wpAny_pyIter_tuple hT); exact ⟨_, rfl, h⟩
section
variable {prog : Program} {w : World} {A : Around} {E : Value → Shared → Prop} {s : Shared}
theorem make_enumT {l : Addr} {items : Array Value} {Q : Value → Shared → Prop} (hL : s.heap.IsTuple l items)
    (h : ∀ h', IsEnum h' (s.heap.objs.size + 1) s.heap.objs.size 0 .none → h'.IsTupleIter s.heap.objs.size l 0 →
      (∀ b o, s.heap.get? b = some o → h'.get? b = some o) → Q (.ref (s.heap.objs.size + 1)) { s with heap := h' }) :
    wpAny (model prog w) A (call (.type "enumerate") [.ref l]) Q E s := by
  obtain ⟨⟨c, dct, dt, sl⟩, hl, hc, n, hd⟩ := hL
  obtain rfl : c = .type "tuple" := hc
  obtain rfl : dt = .seq items n := hd
  refine callType_new F.called_enumerate (by decide) (F.typeCall_enumerate_1 _) (F.newCall_enumerate_1 _) (fun obj => F.args_object_init_2 obj _) F.entry_enumerate_new (new_enumT l items n dct sl) ⟨hl, ?_⟩
  have hz : (s.heap.push { cls := .type "tuple_iterator", data := .fields #[.ref l, .int 0 0] }).objs.size = s.heap.objs.size + 1 := Heap.size_push ..
  rw [hz]
  have he : IsEnum ((s.heap.push { cls := .type "tuple_iterator", data := .fields #[.ref l, .int 0 0] }).push { cls := .type "enumerate", data := .fields #[.none, .bool false, .ref s.heap.objs.size, rawInt 0, .none, .none] })
      (s.heap.objs.size + 1) s.heap.objs.size 0 .none := hz ▸ Heap.get?_push_size (s.heap.push { cls := .type "tuple_iterator", data := .fields #[.ref l, .int 0 0] }) rfl
  exact ⟨⟨_, he, rfl⟩, h _ he ⟨_, Heap.get?_push_of_some _ (Heap.get?_push_size _ rfl), rfl, rfl⟩ fun b o x => Heap.get?_push_of_some _ (Heap.get?_push_of_some _ x)⟩
end
def IteT (K : PySem.W.Frag) (a : Addr) : It where
  go := fun i H => ∃ (xs : List V) (x : V), SqT K H a xs ∧ xs[i]? = some x
  yld := fun i H v H' => ∃ T x, v = .ref T ∧ H T = none ∧ H' = upd H T (.tup [.int (i : Nat), x]) ∧ ∀ xs, SqT K H a xs → xs[i]? = some x
  stop := fun i H => ∃ xs : List V, SqT K H a xs ∧ xs.length ≤ i
theorem apart_of {h : Heap} {a b : Addr} {o u : Obj} (ha : h.get? a = some o) (hb : h.get? b = some u) (hc : o.cls ≠ u.cls) : a ≠ b := fun e => by
  subst e
  rw [ha] at hb
  exact hc (congrArg Obj.cls (Option.some.inj hb))
theorem turn_enumT {P : Program} {w : World} {K : PySem.W.Frag} {elts : List Expr} {kk : Nat} {tpos : Pos} (a e it : Addr) :
    Turn P w K (.Tuple elts kk tpos) (IteT K a) [e, it] e (fun i h => (∃ old, IsEnum h e it ((i : Nat) : Int) old) ∧ h.IsTupleIter it a i ∧ e ≠ it) where
  mem := by simp
  obj := fun i h st b hb => by
    obtain ⟨⟨old, he⟩, ⟨o, ho, hc, hd⟩, _⟩ := st
    rcases (show b = e ∨ b = it by simpa using hb) with z | z
    · subst z; exact ⟨_, he, fun v q => nomatch q⟩
    · subst z; exact ⟨o, ho, fun v q => by rw [hd] at q; cases q⟩
  keep := fun i h h' st k => let ⟨⟨old, he⟩, hi, hne⟩ := st; ⟨⟨old, k e (by simp) _ he⟩, hi.at fun o q => k it (by simp) o q, hne⟩
  item := by
    intro X hP hw hK hc i pins s σ H E I hf st hg
    subst hP hw hK
    obtain ⟨⟨old, he⟩, hit, hne⟩ := st
    obtain ⟨xs, x, hq, hx⟩ := hg
    obtain ⟨its, rv, p, hz⟩ := I.tuple hq
    obtain ⟨u, hu, ru⟩ := rv.get hx
    have hT : s.heap.IsTuple a its.toArray := p
    obtain ⟨oi, hoi, hci, _⟩ := id hit
    obtain ⟨oa, hoa, hca, _⟩ := id hT
    have hel : e < s.heap.objs.size := Heap.lt_size he
    have hil : it < s.heap.objs.size := Heap.lt_size hoi
    have nai : a ≠ it := apart_of hoa hoi (by rw [hca, hci]; decide)
    have nea : e ≠ a := apart_of he hoa (by rw [hca]; show Value.type "enumerate" ≠ Value.type "tuple"; decide)
    have hi : i < its.toArray.size := by
      have := (List.getElem?_eq_some_iff.mp hu).1
      simpa using this
    refine wpAny_pyNext_enum_itemD (Draws.tuple (prog := X.prog) (w := X.w) (A := X.A.in1) (I.ok.hd hc) it a nai its.toArray) he ⟨hit, hT⟩ hi hne (by simp [hne, nea]) fun y h' tk hy ho hst hTp hsz hk => ?_
    obtain rfl : u = y := by
      have q : its.toArray[i]? = some u := by simpa using hu
      exact Option.some.inj (q.symm.trans hy)
    refine ⟨_, rfl, wpAny_letOwnedTupleGo_enum (s := { s with heap := h', toks := tk + 1 }) ho fun h'' he' sb => ?_⟩
    have hT2 : h''.get? s.heap.objs.size = some { cls := .type "tuple", data := .seq #[.int i tk, u] } := (sb.2 _ (Nat.ne_of_gt hel)).trans hTp
    have new : ObjOk X.prog X.w (upd H s.heap.objs.size (.tup [.int (i : Nat), x])) h'' s.heap.objs.size (.tup [.int (i : Nat), x]) :=
      ⟨by show 2 ≤ sizeLine; decide, [.int i tk, u], .cons ⟨_, rfl⟩ (.cons ru .nil), ⟨_, hT2, rfl, _, rfl⟩⟩
    have I1 : L2.Inv X pins σ (upd H s.heap.objs.size (.tup [.int (i : Nat), x])) { s with heap := h'', toks := tk + 1 } :=
      I.turnedNew (ch := [e, it]) (fun b ob hb q => by
        simp only [List.mem_cons, List.not_mem_nil, or_false, not_or] at hb
        exact (sb.2 b hb.1).trans (hk b ob hb.1 hb.2 q)) hf (Nat.le_refl _) new
    have e1 : ((i + 1 : Nat) : Int) = (i : Int) + 1 := by omega
    refine ⟨.ref s.heap.objs.size, _, I1, rfl, ⟨_, x, rfl, I.hok.fresh (Nat.le_refl _), rfl, fun ys hy => by rw [I.tuple_inj hy hq]; exact hx⟩,
      ⟨⟨u, by rw [e1]; exact he'⟩, hst.1.at fun o q => (sb.2 it (Ne.symm hne)).trans q, hne⟩, fun b hb => ?_⟩
    have hb' : b < s.heap.objs.size := by
      rcases (show b = e ∨ b = it by simpa using hb) with z | z <;> subst z <;> assumption
    rw [upd_ne (Nat.ne_of_lt hb')]
    exact (hf b hb).1
  done := by
    intro X hP hw hK hc i pins s σ H E I hf st hg
    subst hP hw hK
    obtain ⟨⟨old, he⟩, hit, hne⟩ := st
    obtain ⟨xs, hq, hx⟩ := hg
    obtain ⟨its, rv, p, hz⟩ := I.tuple hq
    obtain ⟨f0, f1, f2, f3, f4, f5⟩ := hf it (by simp)
    have hT : s.heap.IsTuple a its.toArray := p
    have hl : xs.length = its.length := rv.length
    have hT2 : ¬ (i < its.toArray.size) := by simp; omega
    show wpAny _ _ (pyNext (.ref e)) _ _ s
    have hTy : s.TypeIs (.ref e) "enumerate" := ⟨_, he, rfl⟩
    unfold pyNext
    refine wpAny_bind (wpAny_attempt (wpAny_callSpecial?_slot (name := Str.ofString "__next__") hTy F.slot_enumerate_next (wpAny_call_entry F.slot_enumerate_next hTy F.entry_enumerate_next ?_ (F.args_enumerate_next_1 _))))
    show wpAny _ _ (field (.ref e) 2 >>= _) _ _ _
    refine wpAny_bind (wpAny_field he rfl (x := .ref it) rfl (wpAny_bind (wpAny_nextOf_tuple_end (I.ok.hd hc) hit hT (Array.getElem?_eq_none (by omega)) fun h' x he' hx' => ?_)))
    obtain ⟨o, ho, hcc⟩ := hx'
    exact wpAny_bind (wpAny_isInstance (T := "StopIteration") (b := true) ⟨o, ho, hcc⟩ isSubtype_stop (wpAny_pure ⟨rfl, I.turned (t' := s.toks) (fun b o hb q => he' b o hb q) f0 f1 f3 f4 f5⟩))
  self := fun A i s Q E st h => let ⟨⟨_, he⟩, _⟩ := st; wpAny_pyIter_enum he h
def iEnumT (K : PySem.W.Frag) (ta : TA) : TI := fun σ H R => ta σ H fun vs H1 => ∃ a xs, vs = [.ref a] ∧ SqT K H1 a xs ∧ R (IteT K a) H1
theorem pi_enumT {X : Cx} {e : Expr} {ta : TA} {p pos tpos : Pos} {elts : List Expr} {kk : Nat} (hg : Gl X "enumerate") (hm : X.mg "enumerate" = none) (ha : PA X [e] ta) (hs : starEach [e] X.env = [(false, eval e X.env)] := by rfl) :
    PI X (.Tuple elts kk tpos) (.Call (.Name "enumerate" p) [e] [] pos) (iEnumT X.K ta) := by
  refine ⟨fun pins s σ H R I h => ?_⟩
  refine Call_ (ld_blt I hg hm boot_enumerate (PyProof.Rows.callWith_type1 (thn (ha.run pos pins s σ H _ I h) fun us s1 ⟨vs, H1, I1, r1, q1⟩ => ?_) hs rfl))
  obtain ⟨a, xs, rfl, hq, q⟩ := q1
  obtain ⟨u, rfl, ru⟩ := vals1 r1
  obtain rfl : u = Value.ref a := ru
  obtain ⟨its, rv, p', hz⟩ := I1.tuple hq
  refine make_enumT (show s1.heap.IsTuple a its.toArray from p') fun h' he hit hk => wpAny_pyIter_enum he ?_
  refine ⟨s1.heap.objs.size + 1, [s1.heap.objs.size + 1, s1.heap.objs.size], _, _, H1, rfl, I1.kept (t' := s1.toks) hk, turn_enumT a (s1.heap.objs.size + 1) s1.heap.objs.size, ⟨⟨.none, he⟩, hit, Nat.succ_ne_self _⟩, fun b hb => ?_, q⟩
  have hle : s1.heap.objs.size ≤ b := by
    rcases (show b = s1.heap.objs.size + 1 ∨ b = s1.heap.objs.size by simpa using hb) with z | z <;> rw [z]
    · exact Nat.le_add_right _ _
    · exact Nat.le_refl _
  exact I1.fpOk hle (I1.hok.fresh hle)
theorem walk_enumT {K : PySem.W.Frag} {a : Addr} {xs : List V} : Walk (IteT K a) xs.length (fun H => SqT K H a xs) (YPair (fun i => some (.int (i : Nat))) (fun i => xs[i]?)) := by
  refine ⟨fun i _ hi q => ⟨xs, xs[i], q, by simp [hi]⟩, fun _ q => ⟨xs, q, Nat.le_refl _⟩, ?_⟩
  rintro i H v H' _ q ⟨T, x, h1, h2, h3, h4⟩
  exact ⟨T, .int (i : Nat), x, h1, h2, h3, rfl, h4 xs q⟩
end Wl

namespace Wl
open PySem PySem.Spec PyProof.Rows L2

/-! ### defs that keep promises, by name -/
def Has (P : Program) (w : World) (K : PySem.W.Frag) (mg : Str → Option Value) (base : Heap) (x : Str) (k : Nat) (ps : List Str) (sp : Sp) : Prop :=
  ∃ f fd, FnOk P w K mg base CX0 k f fd ps sp ∧ mg x = some (.ref f) ∧ PySem.W.keepIn K (.ref f) = true ∧ Binds K fd ps []
def HasM (P : Program) (w : World) (K : PySem.W.Frag) (mg : Str → Option Value) (base : Heap) (C : Addr) (m : Str) (k : Nat) (ps : List Str) (sp : Sp) : Prop :=
  ∃ f fd, FnOk P w K mg base CX0 k f fd ps sp ∧ Meth K C m f ∧ Binds K fd ps []
section
variable {X : Cx} {k j : Nat} {C : Addr} {ps ks : List Str} {sp : Sp} {x m : Str} {p pos apos : Pos} {e o : Expr} {es : List Expr} {kws : List Keyword} {ta : TE} {t tk : TA}
theorem pe_h (h : Has X.prog X.w X.K X.mg X.base x k ps sp) (hr : Room j X.A) (ha : PA X (e :: es) t) (hkj : k ≤ j := by decide) (hg : Gl X x := by rfl) (hdb : (x == ("__debug__" : Str)) = false := by decide)
    (he : starEach (e :: es) X.env = (false, eval e X.env) :: starEach es X.env := by rfl) (hpl : (backTo pos (starEach es X.env)).any (·.1) = false := by rfl) :
    PE X (.Call (.Name x p) (e :: es) [] pos) (tCall sp [] E0 t) := by
  obtain ⟨f, fd, F, g, kp, b⟩ := h
  exact pe_call F (hr.mono hkj) hg g kp b .nil pass0 ha hdb he hpl
theorem pe_h0 (h : Has X.prog X.w X.K X.mg X.base x k ps sp) (hr : Room j X.A) (hkj : k ≤ j := by decide) (hg : Gl X x := by rfl) (hdb : (x == ("__debug__" : Str)) = false := by decide) :
    PE X (.Call (.Name x p) [] [] pos) (tCall sp [] E0 tNil) := by
  obtain ⟨f, fd, F, g, kp, b⟩ := h
  exact pe_call0 F (hr.mono hkj) hg g kp b .nil pass0 hdb
theorem pe_hm {pl : Sem Bool} (h : HasM X.prog X.w X.K X.mg X.base C m k ps sp) (c : Cls X.K C) (hr : Room j X.A) (ho : PE X o ta) (ha : PA X (e :: es) t) (hkj : k ≤ j := by decide)
    (hst : starEach (e :: es) X.env = (false, eval e X.env) :: starEach es X.env := by rfl) (hpl : (backTo pos (starEach es X.env)).any (·.1) = false := by rfl)
    (ht : eval (.Call (.Attribute o m apos) (e :: es) [] pos) X.env = (do
      let ov ← eval o X.env
      standAt apos.atName
      let (f, first) ← holding [ov] (getMethod ov m pl)
      callWith pos f first (backTo pos (starEach (e :: es) X.env)) (backToKw pos (keywordEach [] X.env))) := by rfl) :
    PE X (.Call (.Attribute o m apos) (e :: es) [] pos) (tMeth C m sp [] E0 ta t) := by
  obtain ⟨f, fd, F, g, b⟩ := h
  exact pe_meth ho c g F (hr.mono hkj) b .nil pass0 ha hst hpl ht
theorem pe_hm0 {pl : Sem Bool} (h : HasM X.prog X.w X.K X.mg X.base C m k ps sp) (c : Cls X.K C) (hr : Room j X.A) (ho : PE X o ta) (hkj : k ≤ j := by decide)
    (ht : eval (.Call (.Attribute o m apos) [] [] pos) X.env = (do
      let ov ← eval o X.env
      standAt apos.atName
      let (f, first) ← holding [ov] (getMethod ov m pl)
      callWith pos f first (backTo pos (starEach [] X.env)) (backToKw pos (keywordEach [] X.env))) := by rfl) :
    PE X (.Call (.Attribute o m apos) [] [] pos) (tMeth C m sp [] E0 ta tNil) := by
  obtain ⟨f, fd, F, g, b⟩ := h
  exact pe_meth0 ho c g F (hr.mono hkj) b .nil pass0 ht
end

/-! ### heaps -/
theorem same_new {H : Hp} {p : Addr} {o : HO} (h : H p = none) : Same H (upd H p o) := fun b x e => by
  rw [upd_ne (ne_of_none e h)]
  exact e
theorem same_mut {H H' : Hp} {p : Addr} {o : HO} (s : Same H H') (h : H p = none) : Same H (upd H' p o) := fun b x e => by
  rw [upd_ne (ne_of_none e h)]
  exact s b x e
theorem tup_same {K : PySem.W.Frag} {H H' : Hp} {a : Addr} {xs : List V} (e : Same H H') (h : SqT K H a xs) : SqT K H' a xs := by
  rcases h with (h | ⟨o, h⟩) | h
  · exact .inl (.inl (e _ _ h))
  · exact .inl (.inr ⟨o, e _ _ h⟩)
  · exact .inr h
/-- all but what stands at a is as it was -/
def SameX (a : Addr) (H H' : Hp) : Prop := ∀ b o, b ≠ a → H b = some o → H' b = some o
theorem SameX.refl (a : Addr) (H : Hp) : SameX a H H := fun _ _ _ h => h
theorem SameX.trans {a : Addr} {H H1 H2 : Hp} (s : SameX a H H1) (t : SameX a H1 H2) : SameX a H H2 := fun b o n h => t b o n (s b o n h)
theorem sx {a : Addr} {H H' : Hp} (s : Same H H') : SameX a H H' := fun b o _ h => s b o h
theorem sameX_upd {a : Addr} {H : Hp} {o : HO} : SameX a H (upd H a o) := fun b u n h => by rw [upd_ne n]; exact h
/-- an object that H does not know may change -/
theorem sameX_mut {a : Addr} {H H' : Hp} {p : Addr} {o : HO} (s : SameX a H H') (h : H p = none) : SameX a H (upd H' p o) := fun b u n e => by
  rw [upd_ne (ne_of_none e h)]
  exact s b u n e
theorem SameX.free {a l : Addr} {H H' : Hp} (e : SameX a H H') (n : l ≠ a) (h : H' l = none) : H l = none := by
  cases q : H l with
  | none => rfl
  | some o =>
    rw [e l o n q] at h
    cases h
theorem SameX.tup {K : PySem.W.Frag} {a p : Addr} {H H' : Hp} {xs ys : List V} (e : SameX a H H') (ha : H a = some (.lst ys)) (h : SqT K H p xs) : SqT K H' p xs := by
  rcases h with (h | ⟨o, h⟩) | h
  · exact .inl (.inl (e _ _ (ne_of h ha (by intro z; cases z)) h))
  · exact .inl (.inr ⟨o, e _ _ (ne_of h ha (by intro z; cases z)) h⟩)
  · exact .inr h

/-! ### tests whose answer is known -/
theorem ite_b {b : Bool} {A B : Prop} (h1 : b = true → A) (h2 : b = false → B) : if b = true then A else B := by
  cases b with
  | true => exact iteT (h1 rfl)
  | false => exact iteF (h2 rfl)
theorem not_b {b : Bool} {A B : Prop} (h1 : b = false → A) (h2 : b = true → B) : if (!b) = true then A else B := by
  cases b with
  | true => exact iteF (h2 rfl)
  | false => exact iteT (h1 rfl)

theorem yes_it {σ : L2.St} {H : Hp} {A B : Hp → Prop} (h : A H) : tYes σ H (fun b H' => if b = true then A H' else B H') := by
  show if true = true then A H else B H
  rw [if_pos rfl]
  exact h
theorem lz {n : Nat} (h : Nat.ble n 1000 = true := by rfl) : n ≤ sizeLine := Nat.le_trans (Nat.le_of_ble_eq_true h) (by decide)
theorem lzl {n : Nat} (h : n ≤ 1000) : n ≤ sizeLine := Nat.le_trans h (by decide)

/-! ### words -/
def wdB (z : Str) : Bool := decide (1 ≤ z.length) && decide (z.length ≤ 8) && z.cps.toList.all fun c => decide (97 ≤ c) && decide (c ≤ 122)
def IsWd (z : Str) : Prop := wdB z = true
instance (z : Str) : Decidable (IsWd z) := inferInstanceAs (Decidable (wdB z = true))
def oV : Option Str → V
  | none => .non
  | some z => .str z

/-! ### the built-ins that the text leaves as they are -/
structure Bi (mg : Str → Option Value) : Prop where
  len : mg "len" = none
  range : mg "range" = none
  isi : mg "isinstance" = none
  tuple : mg "tuple" = none
  list : mg "list" = none
  sorted : mg "sorted" = none
  all : mg "all" = none
  int : mg "int" = none
  max : mg "max" = none
  min : mg "min" = none
  enum : mg "enumerate" = none
  str : mg "str" = none
end Wl
namespace Wl
open PySem PySem.Spec PyProof.Rows L2
theorem atI_tab {ns : List Int} {r : Int} (h0 : 0 ≤ r) (h : r < ns.length) : ∃ n ∈ ns, atI (ns.map V.int) r = some (.int n) := by
  have hr : r.toNat < ns.length := by omega
  refine ⟨ns[r.toNat], List.getElem_mem hr, at_of (j := r.toNat) (by omega) ?_⟩
  rw [List.getElem?_map, List.getElem?_eq_getElem hr]
  rfl
theorem atI_strs {zs : List Str} {r : Int} (h0 : 0 ≤ r) (h : r < zs.length) : ∃ z ∈ zs, atI (zs.map V.str) r = some (.str z) := by
  have hr : r.toNat < zs.length := by omega
  refine ⟨zs[r.toNat], List.getElem_mem hr, at_of (j := r.toNat) (by omega) ?_⟩
  rw [List.getElem?_map, List.getElem?_eq_getElem hr]
  rfl
theorem letters_eq : ("abcdefghijklmnopqrstuvwxyz" : Str).cps.toList = List.range' 97 26 := by decide +kernel
theorem letter_at {r : Int} (h0 : 0 ≤ r) (h : r < 26) : atI ("abcdefghijklmnopqrstuvwxyz" : Str).cps.toList r = some (97 + r.toNat) := by
  rw [letters_eq]
  refine at_of' (j := r.toNat) (by omega) ?_
  rw [List.getElem?_range' (by omega)]
  congr 1
  omega
where
  at_of' {xs : List Nat} {z : Int} {j : Nat} {v : Nat} (e : z = (j : Int)) (h : xs[j]? = some v) : atI xs z = some v := by
    rw [e]
    exact atI_nat h
def sign (c : Nat) : Str := ⟨#[c]⟩
theorem joinL_flat : ∀ ps : List (List Nat), TL.joinL [] ps = ps.flatten
  | [] => rfl
  | [p] => by simp [TL.joinL]
  | p :: q :: r => by
    show p ++ ([] ++ TL.joinL [] (q :: r)) = _
    rw [joinL_flat (q :: r)]
    simp
theorem join_codes (ys : List Str) : (Txt.join ("" : Str) ys).cps.toList = (ys.map fun y => y.cps.toList).flatten := by
  have h := TL.tl_join ("" : Str) ys
  rw [show TL.tl ("" : Str) = [] by decide +kernel, joinL_flat] at h
  rw [TL.join_eq]
  exact h
theorem join_signs (cs : List Nat) : (Txt.join ("" : Str) (cs.map sign)).cps.toList = cs := by
  rw [join_codes, List.map_map]
  induction cs with
  | nil => rfl
  | cons c r ih => exact congrArg (c :: ·) ih
theorem isWd_of {z : Str} (h1 : 1 ≤ z.cps.toList.length) (h8 : z.cps.toList.length ≤ 8) (hc : ∀ c ∈ z.cps.toList, 97 ≤ c ∧ c ≤ 122) : IsWd z := by
  unfold IsWd wdB Str.length
  rw [Array.length_toList] at h1 h8
  simp only [Bool.and_eq_true, decide_eq_true_eq, List.all_eq_true]
  exact ⟨⟨h1, h8⟩, hc⟩
theorem IsWd.len {z : Str} (h : IsWd z) : 1 ≤ z.length ∧ z.length ≤ 8 := by
  unfold IsWd wdB at h
  simp only [Bool.and_eq_true, decide_eq_true_eq] at h
  exact h.1
end Wl

namespace Wl
open PySem PySem.Spec PyProof.Rows L2

inductive Each {α β : Type} (R : α → β → Prop) : List α → List β → Prop
  | nil : Each R [] []
  | cons {a : α} {b : β} {as : List α} {bs : List β} : R a b → Each R as bs → Each R (a :: as) (b :: bs)
section
variable {α β : Type} {R S : α → β → Prop}
theorem Each.length : ∀ {as : List α} {bs : List β}, Each R as bs → as.length = bs.length
  | _, _, .nil => rfl
  | _, _, .cons _ t => congrArg (· + 1) t.length
theorem Each.mono (h : ∀ a b, R a b → S a b) : ∀ {as : List α} {bs : List β}, Each R as bs → Each S as bs
  | _, _, .nil => .nil
  | _, _, .cons r t => .cons (h _ _ r) (t.mono h)
theorem Each.append : ∀ {as : List α} {bs : List β} {cs : List α} {ds : List β}, Each R as bs → Each R cs ds → Each R (as ++ cs) (bs ++ ds)
  | _, _, _, _, .nil, s => s
  | _, _, _, _, .cons r t, s => .cons r (t.append s)
theorem Each.get : ∀ {as : List α} {bs : List β} {i : Nat} {a : α}, Each R as bs → as[i]? = some a → ∃ b, bs[i]? = some b ∧ R a b
  | _, _, _, _, .nil, e => by simp at e
  | _, _, 0, _, .cons r _, e => by simp at e; subst e; exact ⟨_, rfl, r⟩
  | _, _, i + 1, x, .cons _ t, e => by
    obtain ⟨u, h1, h2⟩ := t.get (i := i) (a := x) (by simpa using e)
    exact ⟨u, by simpa using h1, h2⟩
theorem Each.get2 : ∀ {as : List α} {bs : List β} {i : Nat} {b : β}, Each R as bs → bs[i]? = some b → ∃ a, as[i]? = some a ∧ R a b
  | _, _, _, _, .nil, e => by simp at e
  | _, _, 0, _, .cons r _, e => by simp at e; subst e; exact ⟨_, rfl, r⟩
  | _, _, i + 1, x, .cons _ t, e => by
    obtain ⟨u, h1, h2⟩ := t.get2 (i := i) (b := x) (by simpa using e)
    exact ⟨u, by simpa using h1, h2⟩
theorem Each.mem2 : ∀ {as : List α} {bs : List β} {b : β}, Each R as bs → b ∈ bs → ∃ a ∈ as, R a b
  | _, _, _, .nil, h => by simp at h
  | _, _, _, .cons r t, h => by
    rcases List.mem_cons.mp h with rfl | h
    · exact ⟨_, List.mem_cons_self, r⟩
    · obtain ⟨a, ha, hr⟩ := t.mem2 h
      exact ⟨a, List.mem_cons_of_mem _ ha, hr⟩
theorem each_fn {f : α → β} : ∀ {as : List α} {bs : List β}, Each (fun a b => b = f a) as bs → bs = as.map f
  | _, _, .nil => rfl
  | _, _, .cons r t => by rw [List.map_cons, ← each_fn t, r]
theorem each_map_l {γ : Type} {g : γ → α} : ∀ {cs : List γ} {bs : List β}, Each R (cs.map g) bs → Each (fun c b => R (g c) b) cs bs
  | [], [], _ => .nil
  | [], _ :: _, h => nomatch h
  | _ :: _, [], h => nomatch h
  | _ :: _, _ :: _, .cons r t => .cons r (each_map_l t)
theorem each_map_r {γ : Type} {g : γ → α} : ∀ {cs : List γ} {bs : List β}, Each (fun c b => R (g c) b) cs bs → Each R (cs.map g) bs
  | _, _, .nil => .nil
  | _, _, .cons r t => .cons r (each_map_r t)
end

theorem filter_take_snoc {α : Type} {p : α → Bool} {ys : List α} {i : Nat} {x : α} (h : ys[i]? = some x) : (ys.take (i + 1)).filter p = (ys.take i).filter p ++ (if p x then [x] else []) := by
  rw [List.take_add_one, h, List.filter_append]
  congr 1
  by_cases c : p x = true
  · simp [c]
  · simp [c]

section
variable {J : It} {ys : List V} {G : Hp → Prop} {slot : Nat} {tt : TT} {te : TE} {vs : List Nat} {σ : L2.St} {H1 : Hp} {D : Addr} {Qd : Hp → Prop}
/-- a comprehension [e for x in ys if t]: each e a value that R tells of, the heap only growing -/
theorem lc_rel (w : L2.Walk J ys.length G (YAt ys)) (hD : H1 D = none) (keep : V → Bool) (R : V → V → Hp → Prop)
    (hG : ∀ H, Same H1 H → G H)
    (hw : ∀ x, wipe ((wipe σ vs).set slot (some x)) vs = wipe σ vs)
    (ht : ∀ (x : V) (H : Hp), x ∈ ys → Same H1 H → ∀ Q : Bool → Hp → Prop, Q (keep x) H → tt ((wipe σ vs).set slot (some x)) H Q)
    (he : ∀ (x : V) (H : Hp), x ∈ ys → keep x = true → Same H1 H → ∀ Q : VK, (∀ y H', Same H H' → R x y H' → Q y H') → te ((wipe σ vs).set slot (some x)) H Q)
    (hR : ∀ x y H H' acc, H D = some (.lst acc) → SameX D H H' → R x y H → R x y H')
    (hn : ys.length < sizeLine)
    (hd : ∀ zs H, Same H1 H → H D = some (.lst zs) → Each (fun x z => R x z H) (ys.filter keep) zs → Qd H) :
    ∃ W : Nat → Nat → Hp → Prop, (∃ m, W 0 m (upd H1 D (.lst []))) ∧ ∀ i m H, W i m H →
      (J.stop i H ∧ Qd H) ∨ (J.go i H ∧ ∃ Nx : Hp → Prop, (∀ H', Nx H' → ∃ m', m' < m ∧ W (i + 1) m' H') ∧ ∀ x H', J.yld i H x H' → gName slot x (wipe σ vs) H' fun σ2 H2 => wipe σ2 vs = wipe σ vs ∧ tt σ2 H2 fun b H3 =>
        if b = true then te σ2 H3 fun y H4 => ∃ acc, H4 D = some (.lst acc) ∧ acc.length < sizeLine ∧ Nx (upd H4 D (.lst (acc ++ [y]))) else Nx H3) := by
  refine lc_it w (fun i H => ∃ zs, Same H1 H ∧ H D = some (.lst zs) ∧ Each (fun x z => R x z H) ((ys.take i).filter keep) zs) ⟨[], same_new hD, upd_same, by simpa using Each.nil⟩ (fun i H _ h => ?_) ?_ ?_
  · obtain ⟨zs, s, _⟩ := h
    exact hG H s
  · rintro i x H H' hi ⟨zs, s, hz, ez⟩ ⟨rfl, hx⟩
    have hm : x ∈ ys := List.mem_of_getElem? hx
    refine ⟨hw x, ht x _ hm s _ ?_⟩
    have hf := filter_take_snoc (p := keep) hx
    refine ite_b (fun e => ?_) (fun e => ?_)
    · refine he x _ hm e s _ fun y H4 s4 r4 => ⟨zs, s4 _ _ hz, ?_, zs ++ [y], same_mut (s.trans s4) hD, upd_same, ?_⟩
      · have h1 := ez.length
        have h2 : ((ys.take i).filter keep).length ≤ (ys.take i).length := List.length_filter_le _ _
        have h3 : (ys.take i).length ≤ ys.length := List.length_take_le' _ _
        omega
      · rw [hf, if_pos e]
        have hD4 : H4 D = some (.lst zs) := s4 _ _ hz
        refine Each.append (ez.mono fun a b r => ?_) (.cons ?_ .nil)
        · exact hR _ _ _ _ _ hz (fun b o n h => by rw [upd_ne n]; exact s4 _ _ h) r
        · exact hR _ _ _ _ _ hD4 sameX_upd r4
    · refine ⟨zs, s, hz, ?_⟩
      rw [hf, if_neg (by rw [e]; decide), List.append_nil]
      exact ez
  · rintro H ⟨zs, s, hz, ez⟩
    rw [List.take_length] at ez
    exact hd zs H s hz ez
/-- the same, each e a plain value, the heap as it was -/
theorem lc_map (w : L2.Walk J ys.length G (YAt ys)) (hD : H1 D = none) (keep : V → Bool) (f : V → V)
    (hG : ∀ H, Same H1 H → G H)
    (hw : ∀ x, wipe ((wipe σ vs).set slot (some x)) vs = wipe σ vs)
    (ht : ∀ (x : V) (H : Hp), x ∈ ys → Same H1 H → ∀ Q : Bool → Hp → Prop, Q (keep x) H → tt ((wipe σ vs).set slot (some x)) H Q)
    (he : ∀ (x : V) (H : Hp), x ∈ ys → keep x = true → Same H1 H → ∀ Q : VK, Q (f x) H → te ((wipe σ vs).set slot (some x)) H Q)
    (hn : ys.length < sizeLine)
    (hd : ∀ H, Same H1 H → H D = some (.lst ((ys.filter keep).map f)) → Qd H) :
    ∃ W : Nat → Nat → Hp → Prop, (∃ m, W 0 m (upd H1 D (.lst []))) ∧ ∀ i m H, W i m H →
      (J.stop i H ∧ Qd H) ∨ (J.go i H ∧ ∃ Nx : Hp → Prop, (∀ H', Nx H' → ∃ m', m' < m ∧ W (i + 1) m' H') ∧ ∀ x H', J.yld i H x H' → gName slot x (wipe σ vs) H' fun σ2 H2 => wipe σ2 vs = wipe σ vs ∧ tt σ2 H2 fun b H3 =>
        if b = true then te σ2 H3 fun y H4 => ∃ acc, H4 D = some (.lst acc) ∧ acc.length < sizeLine ∧ Nx (upd H4 D (.lst (acc ++ [y]))) else Nx H3) :=
  lc_rel w hD keep (fun x y _ => y = f x) hG hw ht (fun x H hx hk s Q q => he x H hx hk s Q (q _ H (Same.refl H) rfl)) (fun _ _ _ _ _ _ _ r => r) hn fun zs H s hz ez => hd H s (by rw [hz, each_fn ez])
end
/-- a text's signs as a list -/
def signsOf (z : Str) : List V := z.cps.toList.map fun c => .str (sign c)
theorem walk_signs {z : Str} : L2.Walk (Its z) (signsOf z).length (fun _ => True) (YAt (signsOf z)) := by
  have e : (signsOf z).length = z.cps.size := by simp [signsOf]
  rw [e]
  refine ⟨fun _ _ hi _ => hi, fun _ _ => Nat.le_refl _, ?_⟩
  rintro i H x H' _ _ ⟨rfl, c, hc, rfl⟩
  refine ⟨rfl, ?_⟩
  have : z.cps.toList[i]? = some c := by simpa using hc
  simp only [signsOf, List.getElem?_map, this]
  rfl
theorem yes_pure {σ : L2.St} {H : Hp} {Q : Bool → Hp → Prop} (h : Q true H) : tYes σ H Q := h
theorem inV_strs (z : Str) (ws : List Str) : inV (.str z) (ws.map V.str) = decide (z ∈ ws) := by
  unfold inV
  induction ws with
  | nil => rfl
  | cons x r ih =>
    rw [List.map_cons, List.any_cons, ih]
    by_cases h : x = z
    · subst h
      simp [eqV]
    · have h2 : ¬ z = x := fun e => h e.symm
      simp [eqV, h, h2]
theorem flat_strs (ws : List Str) : (ws.map V.str).all flatV = true := by
  rw [List.all_eq_true]
  intro v hv
  obtain ⟨x, _, rfl⟩ := List.mem_map.mp hv
  rfl
theorem dp_strs {K : PySem.W.Frag} {H : Hp} : ∀ ws : List Str, DpAll K H (ws.map V.str) (ws.map PyData.str)
  | [] => .nil
  | z :: r => .cons (.str z) (dp_strs r)
theorem wd_ok {z : Str} (h : IsWd z) : PyData.strOk z = true := by
  unfold PyData.strOk
  rw [← Array.all_toList, List.all_eq_true]
  intro c hc
  unfold IsWd wdB at h
  simp only [Bool.and_eq_true, decide_eq_true_eq, List.all_eq_true] at h
  have := h.2 c hc
  exact decide_eq_true (by omega)
theorem lay_strs : ∀ {ws : List Str}, (∀ z ∈ ws, IsWd z) → PyData.canLayAll0 (ws.map PyData.str) = true
  | [], _ => by simp [PyData.canLayAll0]
  | z :: r, h => by
    have h1 := wd_ok (h z List.mem_cons_self)
    have h2 := lay_strs (ws := r) fun y hy => h y (List.mem_cons_of_mem _ hy)
    simp [PyData.canLayAll0, PyData.canLay0, h1, h2]
theorem depth_strs : ∀ ws : List Str, PyData.depthAll (ws.map PyData.str) = 0
  | [] => by simp [PyData.depthAll]
  | z :: r => by simp [PyData.depthAll, PyData.depth, depth_strs r]
theorem shaped_list {ds : List PyData} (h : PyData.canLayAll0 ds = true) (d : PyData.depthAll ds ≤ 60) : SeqAt.shaped (.list ds) = true := by
  unfold SeqAt.shaped
  rw [Bool.and_eq_true]
  refine ⟨by simpa [PyData.canLay0] using h, decide_eq_true ?_⟩
  simp only [PyData.depth]
  omega
theorem shaped_tuple {ds : List PyData} (h : PyData.canLayAll0 ds = true) (d : PyData.depthAll ds ≤ 60) : SeqAt.shaped (.tuple ds) = true := by
  unfold SeqAt.shaped
  rw [Bool.and_eq_true]
  refine ⟨by simpa [PyData.canLay0] using h, decide_eq_true ?_⟩
  simp only [PyData.depth]
  omega
theorem cut_hi (z : Str) (k : Nat) : (cutS z none (some (k : Int))).cps.toList = z.cps.toList.take k := by
  show ((z.cps.toList.drop (HT.sIx z.length 0 none)).take (HT.sIx z.length z.length (some (k : Int)) - HT.sIx z.length 0 none)) = _
  rw [HT.sIx_none, HT.sIx_nat, Nat.sub_zero, List.drop_zero]
  have : z.length = z.cps.toList.length := by simp [Str.length]
  rw [this]
  by_cases h : k ≤ z.cps.toList.length
  · rw [Nat.min_eq_left h]
  · rw [Nat.min_eq_right (by omega), List.take_length, List.take_of_length_le (by omega)]
end Wl

/-! {e for x in xs if t}, e a text. -/
namespace Wl
open PySem PySem.Spec PyProof.Rows L2
section
variable {X : Cx}
/-- set.add of a text to a tracked set -/
theorem putX_ok {pins : List (Addr × Obj)} {σ : L2.St} {H : Hp} {s : Shared} {E : Value → Shared → Prop} {D : Addr} {l : List Str} {z : Str} {tk : Tok} {Q : Value → Shared → Prop} (I : L2.Inv X pins σ H s) (hD : H D = some (SetXO X.prog X.w D l)) (room : l.length + 1 < scanBound)
    (h : ∀ s' l', l'.Nodup → (∀ y, y ∈ l' ↔ y ∈ l ∨ y = z) → l'.length ≤ l.length + 1 → L2.Inv X pins σ (upd H D (SetXO X.prog X.w D l')) s' → Q .none s') : wpAny (model X.prog X.w) X.A (call (.builtin "set.add") [.ref D, .str z tk]) Q E s := by
  have R : SetX X.prog X.w s.heap D l := (I.hok D _ hD).1
  obtain ⟨D0, ho, _⟩ := R.ob
  refine wpAny_call_entry F.slot_set_add ⟨_, ho, rfl⟩ F.entry_set_add ?_ (F.args_set_add_2 _ _)
  unfold Builtin.«set.add» Builtin.Frozenset.oneOther
  simp only [List.isEmpty_nil, bind_assoc]
  unfold Builtin.Frozenset.addrOf
  refine wpAny_bind (wpAny_pure (wpAny_bind (wpAny_pure (wpAny_bind ?_))))
  refine setX_put R room fun b h' l' kp R' hm hl => ?_
  show wpAny _ _ (ret Value.none) _ _ _
  obtain ⟨D1, ho1, _⟩ := R'.ob
  exact wpAny_pure ⟨_, rfl, h _ l' R'.nd hm hl (I.write (e := D) (t' := s.toks + 1) (by rw [hD]; trivial) (.inl rfl) (fun c u hc hu => kp c u hc hu) ⟨_, ho1⟩ (setXO_ok R'))⟩
/-- what {e for x in xs if t} asks: D the new set, grown text by text -/
def tScX (P : Program) (w : World) (wi : TI) (g : TG) (tt : TT) (te : TE) (vs : List Nat) : TE := fun σ H Q => wi σ H fun J H1 => ∀ D, H1 D = none → ∃ W : Nat → Nat → Hp → Prop, (∃ m, W 0 m (upd H1 D (SetXO P w D []))) ∧ ∀ i m H, W i m H →
  (J.stop i H ∧ Q (.ref D) H) ∨ (J.go i H ∧ ∃ Nx : Hp → Prop, (∀ H', Nx H' → ∃ m', m' < m ∧ W (i + 1) m' H') ∧ ∀ x H', J.yld i H x H' → g x (wipe σ vs) H' fun σ2 H2 => wipe σ2 vs = wipe σ vs ∧ tt σ2 H2 fun b H3 =>
    if b = true then te σ2 H3 fun y H4 => ∃ (z : Str) (l : List Str), y = .str z ∧ H4 D = some (SetXO P w D l) ∧ l.length + 1 < scanBound ∧ ∀ l', l'.Nodup → (∀ u, u ∈ l' ↔ u ∈ l ∨ u = z) → l'.length ≤ l.length + 1 → Nx (upd H4 D (SetXO P w D l')) else Nx H3)
theorem pe_scX {elt tg iter : Expr} {ifs : List Expr} {scope : Scope} {own : List (PySem.Str × Nat)} {pos : Pos} {wi : TI} {g : TG} {tt : TT} {te : TE} (hcalm : X.calm = true) (nd : X.N.Nodup) (pit : PI X tg iter wi) (bok : BlkOk X.N X.env.scope scope own)
    (gg : ∀ (s : Shared) (H : Hp) (C : Addr) (cl : List (PySem.Str × Addr)) (fp : List Addr), PG (X.blk s H scope (compEnvC scope cl C X.env) fp) tg g) (gt : ∀ (s : Shared) (H : Hp) (C : Addr) (cl : List (PySem.Str × Addr)) (fp : List Addr), PTs (X.blk s H scope (compEnvC scope cl C X.env) fp) ifs tt)
    (ge : ∀ (s : Shared) (H : Hp) (C : Addr) (cl : List (PySem.Str × Addr)) (fp : List Addr), PE (X.blk s H scope (compEnvC scope cl C X.env) fp) elt te) (hfold : ∀ x, foldedSetIterable iter X.env x = pure x := by intro _; rfl) :
    PE X (.SetComp elt [⟨tg, iter, ifs, 0⟩] scope pos) (tScX X.prog X.w wi g tt te (own.map (·.2))) := by
  refine ⟨fun pins s σ H Q I rd => ?_⟩
  rw [PpSet.eval_SetComp]
  have frees : ∀ y ∈ scope.names, y.2 = .free → ∃ c, X.env.cells.lookup y.1 = some c := fun y hy e => by
    rcases bok.free y hy e with q | q
    · exact I.ok.has _ (.inl q)
    · exact I.ok.has _ (.inr q)
  refine wpAny_comprehension_free (use := none) rfl hfold (closure_ok frees) bok.kind (fun y hy e => by rw [bok.uniq y hy, e]) (thn (pit.run pins s σ H _ I rd) fun xv s1 hx => thn hx fun itv s2 h2 => ?_)
  obtain ⟨it, fp, tn, J, H2, e, I2, T, st2, f2, q⟩ := h2
  subst e
  refine PpSet.newSet_ok (newEnv_comp ?_)
  obtain ⟨D, hD⟩ : ∃ D, s2.heap.objs.size = D := ⟨_, rfl⟩
  obtain ⟨W, ⟨m0, w0⟩, turn⟩ := q D (I2.hok.fresh (Nat.le_of_eq hD))
  obtain ⟨s3, hs3⟩ : ∃ s3 : Shared, ({ s2 with heap := s2.heap.push (setN X.w) } : Shared) = s3 := ⟨_, rfl⟩
  obtain ⟨H3, hH3⟩ : ∃ H3, upd H2 D (SetXO X.prog X.w D []) = H3 := ⟨_, rfl⟩
  have heap3 : s3.heap = s2.heap.push (setN X.w) := by rw [← hs3]
  have I3 : L2.Inv X pins σ H3 s3 := by
    rw [← hs3, ← hH3]
    refine I2.laid (t' := s2.toks) (fun b o e => Heap.get?_push_of_some _ e) (Nat.le_of_eq hD) ?_
    rw [← hD]
    exact setXO_ok (setX_new (Heap.get?_push_size _ rfl))
  have f3 : ∀ b ∈ fp, FpOk X pins H3 b ∧ b < s3.heap.objs.size := fun b hb => by
    obtain ⟨o, e, _⟩ := T.obj _ _ st2 b hb
    have lt := Heap.lt_size e
    refine ⟨⟨?_, (f2 b hb).2⟩, by rw [heap3, Heap.size_push]; exact Nat.lt_succ_of_lt lt⟩
    rw [← hH3, upd_ne (by rw [← hD]; exact Nat.ne_of_lt lt)]
    exact (f2 b hb).1
  have none3 : ∀ b ∈ fp, H3 b = none := fun b hb => (f3 b hb).1.1
  rw [hH3] at w0
  show codeAny _ _ (.compStart (.SetComp elt [⟨tg, iter, ifs, 0⟩] scope pos) 0 (.ref it) (.ref s2.heap.objs.size) (compEnvC scope (cellsFrom ((s2.heap.push (setN X.w)).objs.size + 1) scope.names (cloFrom X.env.cells scope.names [])) (s2.heap.push (setN X.w)).objs.size X.env)) (compPost (model X.prog X.w) X.A X.xe none _ (.ref s2.heap.objs.size) (s2.heap.push (setN X.w)).objs.size) { s2 with heap := pushCells ((s2.heap.push (setN X.w)).push { cls := .type "dict", data := .dict #[] }) scope.names }
  rw [← heap3, hD]
  have st3 : tn 0 s3.heap := T.keep _ _ _ st2 fun b _ o e => by rw [heap3]; exact Heap.get?_push_of_some _ e
  have I4 := block_start I3 bok nd f3
  obtain ⟨ce, hce⟩ : ∃ ce, compEnvC scope (cellsFrom (s3.heap.objs.size + 1) scope.names (cloFrom X.env.cells scope.names [])) s3.heap.objs.size X.env = ce := ⟨_, rfl⟩
  have pg := gg s3 H3 s3.heap.objs.size (cellsFrom (s3.heap.objs.size + 1) scope.names (cloFrom X.env.cells scope.names [])) fp
  have pt := gt s3 H3 s3.heap.objs.size (cellsFrom (s3.heap.objs.size + 1) scope.names (cloFrom X.env.cells scope.names [])) fp
  have pe := ge s3 H3 s3.heap.objs.size (cellsFrom (s3.heap.objs.size + 1) scope.names (cloFrom X.env.cells scope.names [])) fp
  have locs : ce.locals = s3.heap.objs.size := by rw [← hce]; rfl
  rw [hce] at I4 pg pt pe ⊢
  obtain ⟨s4, hs4⟩ : ∃ s4 : Shared, ({ s3 with heap := pushCells (s3.heap.push { cls := .type "dict", data := .dict #[] }) scope.names } : Shared) = s4 := ⟨_, rfl⟩
  have es4 : ({ s2 with heap := pushCells (s3.heap.push { cls := .type "dict", data := .dict #[] }) scope.names } : Shared) = s4 := by
    rw [← hs4, ← hs3]
  rw [hs4] at I4
  rw [es4]
  have st4 : tn 0 s4.heap := T.keep _ _ _ st3 fun b _ o e => by rw [← hs4]; exact pushCells_keeps _ _ _ _ (Heap.get?_push_of_some _ e)
  have calmFp : ∀ {σ' : L2.St} {H' : Hp} {s' : Shared}, L2.Inv (X.blk s3 H3 scope ce fp) [] σ' H' s' → (∀ b ∈ fp, H' b = none) → ∀ b ∈ fp, FpOk (X.blk s3 H3 scope ce fp) [] H' b := fun {σ' H' s'} I' hn b hb =>
    ⟨hn b hb, (I'.ok.exf b hb).1, I'.ok.exfs b hb, .inl hb, fun x c e => (I'.ok.exf b hb).2 x c e, fun r hr => absurd (show r ∈ ([] : List (Addr × Obj)) ++ [] from hr) (by simp)⟩
  have loop : codeAny (model X.prog X.w) X.A (.compLoop (.SetComp elt [⟨tg, iter, ifs, 0⟩] scope pos) 0 (.ref it) (.ref D) ce) (compPost (model X.prog X.w) X.A X.xe none (fun v s' => ∃ x H', L2.Inv X pins σ H' s' ∧ RelV x v ∧ Q x H') (.ref D) s3.heap.objs.size) s4 := by
    refine PpSet.compLoopS_any (fun n s' => ∃ i H', L2.Inv (X.blk s3 H3 scope ce fp) [] (wipe σ (own.map (·.2))) H' s' ∧ tn i s'.heap ∧ (∀ b ∈ fp, H' b = none) ∧ W i n H') ?_ m0 ⟨0, H3, I4, st4, none3, w0⟩
    rintro n s5 ⟨i, H5, I5, st5, n5, w5⟩
    rcases turn i n H5 w5 with ⟨stop, qq⟩ | ⟨go, Nx, hNx, step⟩
    · refine thnF (T.done (X.blk s3 H3 scope ce fp) rfl rfl rfl hcalm i [] s5 _ H5 (fun _ _ => False) I5 (calmFp I5 n5) st5 stop) fun r s6 ⟨hr, I6⟩ => ?_
      subst hr
      have I7 : L2.Inv X pins σ H5 s6 := I3.call' (ch := fp) I6.os I6.base I6.hok I6.bare fun b hb => ⟨(f3 b hb).1.2.2.2.1, (f3 b hb).1.2.1, (f3 b hb).1.2.2.2.2.1, (f3 b hb).1.2.2.2.2.2⟩
      have nC : H5 s3.heap.objs.size = none := by
        have z : H5 ce.locals = none := I6.free
        rw [locs] at z
        exact z
      obtain ⟨m, hn, _⟩ := I6.loc
      have hn : s6.heap.Ns ce.locals m := hn
      rw [locs] at hn
      obtain ⟨k0, k1, k2, k3, k4, k5⟩ := I3.fpOk (Nat.le_refl _) nC
      exact ⟨m, hn, fun h'' sb => ⟨.ref D, H5, I7.turned (t' := s6.toks) (fun b o hb e => (sb.2 b hb).trans e) k0 k1 k3 k4 k5, rfl, qq⟩⟩
    · refine thnF (T.item (X.blk s3 H3 scope ce fp) rfl rfl rfl hcalm i [] s5 _ H5 (fun _ _ => False) I5 (calmFp I5 n5) st5 go) fun r s6 ⟨u, hr, h6⟩ => ?_
      subst hr
      refine thnF h6 fun _ s7 ⟨x, H7, I7, r7, y7, st7, n7⟩ => ?_
      have I7' := I7.pinned (calmFp I7 n7) (T.obj _ _ st7)
      refine thnF (pg.run _ s7 _ H7 x u _ I7' r7 (step x H7 y7)) fun _ s8 ⟨σ8, H8, I8, hw8, q8⟩ => thnF (pt.run _ s8 σ8 H8 _ I8 q8) fun b s9 ⟨H9, I9, q9⟩ => ?_
      have next : ∀ {s' : Shared} {H' : Hp}, L2.Inv (X.blk s3 H3 scope ce fp) ([] ++ pinsAt fp s7.heap) σ8 H' s' → Nx H' → ∃ m, m < n ∧ ∃ i H', L2.Inv (X.blk s3 H3 scope ce fp) [] (wipe σ (own.map (·.2))) H' s' ∧ tn i s'.heap ∧ (∀ b ∈ fp, H' b = none) ∧ W i m H' := fun {s' H'} I' nx => by
        obtain ⟨m', hm, w'⟩ := hNx H' nx
        have held : ∀ b ∈ fp, ∀ o, s7.heap.get? b = some o → s'.heap.get? b = some o ∧ H' b = none := fun b hb o e => by
          have z := I'.pin (b, o) (List.mem_append_right _ (List.mem_append_right _ (mem_pinsAt hb e)))
          exact ⟨z.1, z.2.1⟩
        have len : (wipe σ (own.map (·.2))).length = σ8.length := by rw [← hw8, wipe_length]
        refine ⟨m', hm, i + 1, H', (I'.unpinned (pins := [])).weak len (fun j v e => ?_), T.keep _ _ _ st7 fun b hb o e => (held b hb o e).1, fun b hb => ?_, w'⟩
        · rw [← hw8] at e
          exact (wipe_some e).1
        · obtain ⟨o, e, _⟩ := T.obj _ _ st7 b hb
          exact (held b hb o e).2
      cases b with
      | false =>
        simp only [Bool.false_eq_true, if_false] at q9 ⊢
        exact next I9 q9
      | true =>
        simp only [if_true] at q9 ⊢
        refine thnF (pe.run _ s9 σ8 H9 _ I9 q9) fun z s10 ⟨yv, H10, I10, r10, zt, l0, ey, hD10, hz10, nx⟩ => ?_
        subst ey
        obtain ⟨tk, rfl⟩ := r10
        exact putX_ok (X := X.blk s3 H3 scope ce fp) I10 hD10 hz10 fun s11 l' n1 n2 n3 I11 => next I11 (nx l' n1 n2 n3)
  exact PpSet.codeAny_compStart_set loop (T.self X.A 0 _ _ _ st4 loop)
end
section
variable {P : Program} {w : World} {J : It} {ys : List V} {G : Hp → Prop} {slot : Nat} {tt : TT} {te : TE} {vs : List Nat} {σ : L2.St} {H1 : Hp} {D : Addr} {Qd : Hp → Prop}
/-- {e for x in ys if t}: each e a text, the heap only growing -/
theorem sc_texts (wk : L2.Walk J ys.length G (YAt ys)) (hD : H1 D = none) (keep : V → Bool) (f : V → Str) (hG : ∀ H, Same H1 H → G H)
    (hw : ∀ x, wipe ((wipe σ vs).set slot (some x)) vs = wipe σ vs)
    (ht : ∀ (x : V) (H : Hp), x ∈ ys → Same H1 H → ∀ Q : Bool → Hp → Prop, Q (keep x) H → tt ((wipe σ vs).set slot (some x)) H Q)
    (he : ∀ (x : V) (H : Hp), x ∈ ys → keep x = true → Same H1 H → ∀ Q : VK, Q (.str (f x)) H → te ((wipe σ vs).set slot (some x)) H Q)
    (hn : ys.length ≤ 1000)
    (hd : ∀ (l : List Str) (H : Hp), Same H1 H → H D = some (SetXO P w D l) → l.Nodup → (∀ z, z ∈ l ↔ z ∈ (ys.filter keep).map f) → l.length ≤ ys.length → Qd H) :
    ∃ W : Nat → Nat → Hp → Prop, (∃ m, W 0 m (upd H1 D (SetXO P w D []))) ∧ ∀ i m H, W i m H →
      (J.stop i H ∧ Qd H) ∨ (J.go i H ∧ ∃ Nx : Hp → Prop, (∀ H', Nx H' → ∃ m', m' < m ∧ W (i + 1) m' H') ∧ ∀ x H', J.yld i H x H' → gName slot x (wipe σ vs) H' fun σ2 H2 => wipe σ2 vs = wipe σ vs ∧ tt σ2 H2 fun b H3 =>
        if b = true then te σ2 H3 fun y H4 => ∃ (z : Str) (l : List Str), y = .str z ∧ H4 D = some (SetXO P w D l) ∧ l.length + 1 < scanBound ∧ ∀ l', l'.Nodup → (∀ u, u ∈ l' ↔ u ∈ l ∨ u = z) → l'.length ≤ l.length + 1 → Nx (upd H4 D (SetXO P w D l')) else Nx H3) := by
  refine ⟨fun i m H => m = ys.length - i ∧ i ≤ ys.length ∧ Same H1 H ∧ ∃ l, H D = some (SetXO P w D l) ∧ l.Nodup ∧ (∀ z, z ∈ l ↔ z ∈ ((ys.take i).filter keep).map f) ∧ l.length ≤ i, ⟨ys.length, by simp, Nat.zero_le _, same_new hD, [], upd_same, List.nodup_nil, fun z => by simp, Nat.le_refl _⟩, ?_⟩
  rintro i m H ⟨rfl, hi, s, l, hl, nd, hm, hll⟩
  by_cases hlt : i < ys.length
  · refine .inr ⟨wk.goes i H hlt (hG H s), fun H' => i + 1 ≤ ys.length ∧ Same H1 H' ∧ ∃ l, H' D = some (SetXO P w D l) ∧ l.Nodup ∧ (∀ z, z ∈ l ↔ z ∈ ((ys.take (i + 1)).filter keep).map f) ∧ l.length ≤ i + 1, fun H' h' => ⟨ys.length - (i + 1), by omega, rfl, h'⟩, fun x H' hy => ?_⟩
    obtain ⟨rfl, hx⟩ := wk.yields i H x H' hlt (hG H s) hy
    have hxm : x ∈ ys := List.mem_of_getElem? hx
    have hf := filter_take_snoc (p := keep) hx
    refine ⟨hw x, ht x _ hxm s _ ?_⟩
    refine ite_b (fun e => ?_) (fun e => ?_)
    · refine he x _ hxm e s _ ⟨f x, l, rfl, hl, by unfold scanBound; omega, fun l' n1 n2 n3 => ⟨hlt, same_mut s hD, l', upd_same, n1, fun z => ?_, by omega⟩⟩
      rw [n2, hm, hf, if_pos e, List.map_append, List.mem_append]
      simp
    · refine ⟨hlt, s, l, hl, nd, fun z => ?_, by omega⟩
      rw [hm, hf, if_neg (by rw [e]; decide), List.append_nil]
  · have e : i = ys.length := by omega
    subst e
    rw [List.take_length] at hm
    exact .inl ⟨wk.stops H (hG H s), hd l H s hl nd hm hll⟩
end
end Wl

/-! Texts each once, as first met; dicts by texts. -/
namespace Wl
open PySem PySem.Spec PyProof.Rows L2
def addK (acc : List Str) (z : Str) : List Str := if z ∈ acc then acc else acc ++ [z]
def keysOf (l : List Str) : List Str := l.foldl addK []
theorem keysOf_snoc (l : List Str) (z : Str) : keysOf (l ++ [z]) = addK (keysOf l) z := by
  unfold keysOf
  rw [List.foldl_append]
  rfl
theorem mem_addK {acc : List Str} {z y : Str} : y ∈ addK acc z ↔ y ∈ acc ∨ y = z := by
  unfold addK
  split
  · constructor
    · exact .inl
    · rintro (h | rfl) <;> assumption
  · simp
theorem foldK_mem {y : Str} : ∀ {l acc : List Str}, y ∈ l.foldl addK acc ↔ y ∈ acc ∨ y ∈ l
  | [], acc => by simp
  | z :: l, acc => by
    rw [List.foldl_cons, foldK_mem (l := l), mem_addK, List.mem_cons]
    constructor
    · rintro ((h | h) | h)
      · exact .inl h
      · exact .inr (.inl h)
      · exact .inr (.inr h)
    · rintro (h | h | h)
      · exact .inl (.inl h)
      · exact .inl (.inr h)
      · exact .inr h
theorem mem_keysOf {l : List Str} {y : Str} : y ∈ keysOf l ↔ y ∈ l := by
  unfold keysOf
  rw [foldK_mem]
  simp
theorem addK_nodup {acc : List Str} {z : Str} (h : acc.Nodup) : (addK acc z).Nodup := by
  unfold addK
  split
  · exact h
  · rename_i n
    rw [List.nodup_append]
    exact ⟨h, by simp, fun a ha b hb e => n (by rw [List.mem_singleton.mp hb] at e; exact e ▸ ha)⟩
theorem foldK_nodup : ∀ {l acc : List Str}, acc.Nodup → (l.foldl addK acc).Nodup
  | [], _, h => h
  | _ :: l, _, h => foldK_nodup (l := l) (addK_nodup h)
theorem keysOf_nodup (l : List Str) : (keysOf l).Nodup := foldK_nodup List.nodup_nil
theorem addK_len (acc : List Str) (z : Str) : (addK acc z).length ≤ acc.length + 1 := by
  unfold addK
  split
  · omega
  · simp
theorem foldK_len : ∀ (l acc : List Str), (l.foldl addK acc).length ≤ acc.length + l.length
  | [], acc => by simp
  | z :: l, acc => by
    have h1 := foldK_len l (addK acc z)
    have h2 := addK_len acc z
    rw [List.foldl_cons, List.length_cons]
    omega
theorem keysOf_len (l : List Str) : (keysOf l).length ≤ l.length := by
  have := foldK_len l []
  simpa [keysOf] using this
/-- the pairs of a dict whose keys are these texts -/
def kvZ (ad : Str → V) (l : List Str) : List (Key × V) := l.map fun z => (Sum.inr z, ad z)
theorem valV_kvZ (ad : Str → V) (z : Str) : ∀ l : List Str, valV (kvZ ad l) (Sum.inr z : Key) = if z ∈ l then some (ad z) else none
  | [] => rfl
  | d :: r => by
    by_cases h : d = z
    · subst h
      rw [if_pos List.mem_cons_self]
      exact valV_pos rfl
    · have h1 : valV (kvZ ad (d :: r)) (Sum.inr z : Key) = valV (kvZ ad r) (Sum.inr z : Key) := valV_neg fun e => h (Sum.inr.inj e)
      rw [h1, valV_kvZ ad z r]
      have h2 : (z ∈ d :: r) = (z ∈ r) := by
        simp only [List.mem_cons, eq_iff_iff]
        constructor
        · rintro (e | e)
          · exact absurd e.symm h
          · exact e
        · exact .inr
      simp only [h2]
theorem valV_in {ad : Str → V} {z : Str} {l : List Str} (h : z ∈ l) : valV (kvZ ad l) (Sum.inr z : Key) = some (ad z) := by
  rw [valV_kvZ, if_pos h]
theorem valV_out {ad : Str → V} {z : Str} {l : List Str} (h : z ∉ l) : valV (kvZ ad l) (Sum.inr z : Key) = none := by
  rw [valV_kvZ, if_neg h]
theorem kvZ_congr {a b : Str → V} {l : List Str} (h : ∀ c ∈ l, a c = b c) : kvZ a l = kvZ b l := List.map_congr_left fun c hc => by rw [h c hc]
theorem kvZ_keys (ad : Str → V) (l : List Str) : (kvZ ad l).map (fun kv => kV kv.1) = l.map V.str := by
  unfold kvZ
  rw [List.map_map]
  rfl
theorem kvZ_len (ad : Str → V) (l : List Str) : (kvZ ad l).length = l.length := List.length_map _
theorem sortS_nodup {l : List Str} (h : l.Nodup) : (sortS l).Nodup := (List.mergeSort_perm l leB).nodup_iff.mpr h
end Wl

namespace Wl
open PySem PySem.Spec PyProof.Rows L2
def topS (i : Nat) : Stmt := PySem.Challenge.pw_wordlines_k09_rows_by_keys_and_asks.main.body.getD i (.Pass ⟨0, 0, 0, 0⟩)
end Wl
namespace Wl
open PySem PySem.Spec PyProof.Rows L2
end Wl
namespace Wl
open PySem PySem.Spec PyProof.Rows L2
end Wl
namespace Wl
open PySem PySem.Spec PyProof.Rows L2
end Wl
namespace Wl
open PySem PySem.Spec PyProof.Rows L2

/-! ### the text by places -/
abbrev sCell : Stmt := topS 41
abbrev sPurse : Stmt := topS 42
abbrev sPick : Stmt := topS 43
abbrev sMenu : Stmt := topS 44
abbrev sWord : Stmt := topS 45

section
variable {P : Program} {w : World} {K : PySem.W.Frag} {mg : Str → Option Value} {base : Heap} {f : Addr} {fd : FuncData}

/-! ### a cell of the script: some int -/
def spCell (K : PySem.W.Frag) : Sp := fun vs H Q _ => ∃ (a : Addr) (ns : List Int) (k : Int), vs = [.ref a, .int k] ∧ SqL K H a (ns.map V.int) ∧ 0 ≤ k ∧ k ≤ 63 ∧
  ∀ (v : Int) (H' : Hp), Same H H' → Q (.int v) H'
theorem scCell : FnScope ["_law_script", "_law_k", "_law_state", "_law_cell_here"] ["_law_script", "_law_k"] (defScope sCell) :=
  ⟨rfl, rfl, rfl, by decide +kernel, rfl, by decide +kernel, by decide +kernel⟩
theorem mem_cut {xs : List V} {lo hi : Option Int} {v : V} (h : v ∈ cutV xs lo hi) : v ∈ xs := List.mem_of_mem_drop (List.mem_of_mem_take h)
theorem ok_cell (F : Fun K "_law_cell" "_law_cell" sCell f fd) (B : Bi mg) : FnOk P w K mg base CX0 1 f fd ["_law_script", "_law_k"] (spCell K) := by
  refine F.ok scCell (fun vs H Q E h => ?_) (fun cdv A outer s H vs Q E hr h => ?_)
  · obtain ⟨a, ns, k, rfl, _⟩ := h
    rfl
  · obtain ⟨a, ns, k, rfl, hS, k0, k1, q⟩ := h
    refine ⟨_, pss_cons (ps_if (pt_cmpR op_lt (pv 1) (pe_callB call_len_seq (by rfl) B.len PySem.boot_len (pa_cons (pv 0) pa_nil)) (nomark _)) (pss_one (ps_ret (pe_ix ix_list (pv 0) (pv 1) (fun _ _ => rfl)))) pss_nil)
      (pss_cons (ps_set (i := 2) scCell.nd rfl (.inl rfl) (pe_op op_mod (pe_op op_mul pe_int (pe_op op_add (pe_op op_add (pe_op op_mul (pv 1) (pv 1)) (pe_op op_mul pe_int (pv 1))) pe_int)) pe_int))
      (pss_cons (ps_for PassesOwn.never rfl (pi_list (pe_slice sl_list (pv 0) po_none (po_some pe_int))) (pg_name (i := 3) scCell.nd rfl (.inl rfl))
        (pss_one (ps_set (i := 2) scCell.nd rfl (.inl rfl) (pe_op op_mod (pe_op op_add (pe_op op_mul (pv 2) pe_int) (pv 3)) pe_int))))
      (pss_one (ps_ret (pv 2))))), ?_⟩
    refine ⟨_, rfl, .ref a, rfl, a, _, rfl, .inl hS, _, _, rfl, rfl, _, rfl, ite_b (fun e => ?_) (fun e => ?_)⟩
    · have hk : k < ((ns.map V.int).length : Int) := of_decide_eq_true e
      rw [List.length_map] at hk
      have hk2 : k.toNat < ns.length := by omega
      refine ⟨_, rfl, _, rfl, a, _, k, .int ns[k.toNat], rfl, rfl, hS, at_of (j := k.toNat) (by omega) ?_, q _ H (Same.refl H)⟩
      rw [List.getElem?_map, List.getElem?_eq_getElem hk2]
      rfl
    · refine ⟨_, rfl, _, rfl, k, k, rfl, rfl, .inl ⟨by omega, by omega⟩, _, rfl, 5, k, rfl, rfl, .inl ⟨by decide, by decide⟩, _, _, rfl, rfl, _, _, rfl, rfl, _, _, rfl, rfl, .inl ⟨by decide, by decide⟩, _, _, rfl, rfl, (show (0 : Int) < 1000000033 by decide), ?_⟩
      refine ⟨_, rfl, 4, rfl, a, _, rfl, hS, fun p hp => ?_⟩
      have hc : SqL K (upd H p (.lst (cutV (ns.map V.int) none (some 4)))) p (cutV (ns.map V.int) none (some 4)) := .inl (.inl upd_same)
      refine ⟨p, rfl, ⟨_, hc⟩, for_list (K := K) (a := p) (xs := cutV (ns.map V.int) none (some 4)) (fun i σ H' => (∃ (z : Int) (y : Option V), σ = [some (.ref a), some (.int k), some (.int z), y]) ∧ H' = upd H p (.lst (cutV (ns.map V.int) none (some 4))))
        ⟨⟨_, _, rfl⟩, rfl⟩ (fun i σ H' _ h => by rw [h.2]; exact hc) ?_ ?_⟩
      · rintro i x σ H' hx ⟨⟨z, y, rfl⟩, rfl⟩
        obtain ⟨n, rfl⟩ : ∃ n, x = V.int n := by
          obtain ⟨n, _, e⟩ := List.mem_map.mp (mem_cut (List.mem_of_getElem? hx))
          exact ⟨n, e.symm⟩
        refine ⟨_, rfl, z, 30029, rfl, rfl, .inr ⟨by decide, by decide⟩, _, rfl, _, _, rfl, rfl, _, _, rfl, rfl, (show (0 : Int) < 1000000033 by decide), ⟨⟨_, _, rfl⟩, rfl⟩⟩
      · rintro σ H' ⟨⟨z, y, rfl⟩, rfl⟩
        exact ⟨_, rfl, q _ _ (same_new hp)⟩

/-! ### the purse -/
def PurseAt (H : Hp) (a : Addr) : Prop := ∃ s b c : Int, H a = some (.lst [.int s, .int b, .int c]) ∧ 0 ≤ b
theorem PurseAt.same {H H' : Hp} {a : Addr} (h : PurseAt H a) (s : Same H H') : PurseAt H' a := by
  obtain ⟨s0, b, c, ha, hb⟩ := h
  exact ⟨s0, b, c, s _ _ ha, hb⟩
theorem PurseAt.ne {H : Hp} {a p : Addr} (h : PurseAt H a) (hp : H p = none) : p ≠ a := by
  obtain ⟨s0, b, c, ha, hb⟩ := h
  exact (ne_of_none ha hp).symm
theorem PurseAt.lst {H : Hp} {a : Addr} (h : PurseAt H a) : ∃ ys, H a = some (.lst ys) := by
  obtain ⟨s0, b, c, ha, hb⟩ := h
  exact ⟨_, ha⟩
def spPurse : Sp := fun vs H Q _ => ∃ (n : Int), vs = [.int n] ∧ ∀ (a : Addr) (H' : Hp), H a = none → Same H H' → PurseAt H' a → Q (.ref a) H'
theorem scPurse : FnScope ["_law_cell_here"] ["_law_cell_here"] (defScope sPurse) :=
  ⟨rfl, rfl, rfl, by decide +kernel, rfl, by decide +kernel, by decide +kernel⟩
theorem ok_purse (F : Fun K "_law_purse" "_law_purse" sPurse f fd) (B : Bi mg) : FnOk P w K mg base CX0 1 f fd ["_law_cell_here"] spPurse := by
  refine F.ok scPurse (fun vs H Q E h => ?_) (fun cdv A outer s H vs Q E hr h => ?_)
  · obtain ⟨n, rfl, _⟩ := h
    rfl
  · obtain ⟨n, rfl, q⟩ := h
    refine ⟨_, pss_one (ps_ret (pe_lst (pa_cons (pe_op op_add (pe_op op_mul (pe_op op_mod (pv 0) pe_int) pe_int) pe_int)
      (pa_cons (pe_ix ix_list (pe_lst (pa_cons pe_int (pa_cons (pv 0) pa_nil))) (pe_callTy call_int1 (by rfl) B.int (by decide +kernel) (pa_cons (pe_cmpR op_ge (pv 0) (pe_op op_pow pe_int pe_int) (nomark _)) pa_nil)) (fun _ _ => rfl))
      (pa_cons pe_int pa_nil))))), ?_⟩
    refine ⟨_, rfl, _, _, rfl, rfl, (show (0 : Int) < 1000000033 by decide), _, _, rfl, rfl, .inr ⟨by decide, by decide⟩, _, _, rfl, rfl, _, rfl, lz, fun p hp => ?_⟩
    have e18 : (10 : Int) ^ (18 : Int).toNat = 1000000000000000000 := by decide
    refine ⟨_, rfl, 10, 18, rfl, rfl, ⟨by decide, by decide, by decide⟩, _, _, rfl, rfl, .inr ⟨_, rfl, ?_⟩⟩
    refine ⟨p, [.int 0, .int n], _, .int (if decide ((10 : Int) ^ (18 : Int).toNat ≤ n) = true then n else 0), rfl, rfl, .inl (.inl upd_same), ?_, lz, fun a ha => ?_⟩
    · by_cases c : (10 : Int) ^ (18 : Int).toNat ≤ n
      · simp only [decide_eq_true c, if_true]
        exact atI_nat (j := 1) rfl
      · simp only [decide_eq_false c]
        exact atI_nat (j := 0) rfl
    · have hp2 : Same H (upd H p (.lst [.int 0, .int n])) := same_new hp
      refine q a _ (hp2.free ha) (hp2.trans (same_new ha)) ⟨_, _, _, upd_same, ?_⟩
      by_cases c : (10 : Int) ^ (18 : Int).toNat ≤ n
      · simp only [decide_eq_true c, if_true]
        rw [e18] at c
        omega
      · simp only [decide_eq_false c]
        exact Int.le_refl 0
/-! ### a pick: some number below many -/
def spPick : Sp := fun vs H Q _ => ∃ (a : Addr) (m : Int), vs = [.ref a, .int m] ∧ PurseAt H a ∧ 0 < m ∧ m < 1073741824 ∧
  ∀ (r : Int) (H' : Hp), 0 ≤ r → r < m → PurseAt H' a → SameX a H H' → (∀ p, H p = none → H' p = none) → Q (.int r) H'
theorem scPick : FnScope ["_law_purse_here", "_law_count", "_law_state", "_law_taken"] ["_law_purse_here", "_law_count"] (defScope sPick) :=
  ⟨rfl, rfl, rfl, by decide +kernel, rfl, by decide +kernel, by decide +kernel⟩
theorem none_upd {H : Hp} {a : Addr} {o u : HO} (h : H a = some o) : ∀ p, H p = none → upd H a u p = none := fun p hp => by
  rw [upd_ne (ne_of_none h hp).symm]
  exact hp
theorem ok_pick (F : Fun K "_law_pick" "_law_pick" sPick f fd) : FnOk P w K mg base CX0 1 f fd ["_law_purse_here", "_law_count"] spPick := by
  refine F.ok scPick (fun vs H Q E h => ?_) (fun cdv A outer s H vs Q E hr h => ?_)
  · obtain ⟨a, m, rfl, _⟩ := h
    rfl
  · obtain ⟨a, m, rfl, ⟨s0, b, c, ha, hb⟩, m0, m1, q⟩ := h
    refine ⟨_, pss_cons (ps_asg (pe_op op_add (pe_ix ix_list (pv 0) pe_int (fun _ _ => rfl)) pe_int) (pg_sub (pv 0) pe_int set_list))
      (pss_cons (ps_set (i := 2) scPick.nd rfl (.inl rfl) (pe_op op_mod (pe_ix ix_list (pv 0) pe_int (fun _ _ => rfl)) pe_int))
      (pss_cons (ps_asg (pe_op op_add (pe_op op_mul (pv 2) (pe_op op_add (pe_op op_mod (pv 2) pe_int) pe_int)) (pe_op op_mul pe_int (pe_ix ix_list (pv 0) pe_int (fun _ _ => rfl)))) (pg_sub (pv 0) pe_int set_list))
      (pss_cons (ps_if (pt_cmpR op_gt (pe_ix ix_list (pv 0) pe_int (fun _ _ => rfl)) pe_int (nomark _))
        (pss_cons (ps_set (i := 3) scPick.nd rfl (.inl rfl) (pe_op op_mod (pe_ix ix_list (pv 0) pe_int (fun _ _ => rfl)) (pv 1)))
        (pss_cons (ps_asg (pe_op op_fdiv (pe_ix ix_list (pv 0) pe_int (fun _ _ => rfl)) (pv 1)) (pg_sub (pv 0) pe_int set_list))
        (pss_one (ps_ret (pv 3))))) pss_nil)
      (pss_one (ps_ret (pe_op op_mod (pe_op op_fdiv (pe_op op_mod (pe_ix ix_list (pv 0) pe_int (fun _ _ => rfl)) pe_int) pe_int) (pv 1))))))), ?_⟩
    have hmod : ∀ x : Int, 0 ≤ x % 1000000033 ∧ x % 1000000033 < 1000000033 := fun x => by omega
    refine ⟨_, rfl, a, _, 2, .int c, rfl, rfl, .inl (.inl ha), atI_nat (j := 2) rfl, _, _, rfl, rfl, _, rfl, a, _, 2, 2, rfl, rfl, ha, rfl, ?_⟩
    refine ⟨_, rfl, a, _, 0, .int s0, rfl, rfl, .inl (.inl upd_same), atI_nat (j := 0) rfl, _, _, rfl, rfl, (show (0 : Int) < 1000000033 by decide), ?_⟩
    refine ⟨_, rfl, _, rfl, _, _, rfl, rfl, (show (0 : Int) < 60013 by decide), _, _, rfl, rfl, _, _, rfl, rfl, .inl ⟨by have := hmod s0; omega, by have := hmod s0; omega⟩,
      _, rfl, a, _, 2, _, rfl, rfl, .inl (.inl upd_same), atI_nat (j := 2) rfl, _, _, rfl, rfl, .inl ⟨by decide, by decide⟩, _, _, rfl, rfl, _, rfl, a, _, 0, 0, rfl, rfl, upd_same, rfl, ?_⟩
    refine ⟨_, rfl, a, _, 1, .int b, rfl, rfl, .inl (.inl upd_same), atI_nat (j := 1) rfl, _, _, rfl, rfl, _, rfl, ite_b (fun e => ?_) (fun e => ?_)⟩
    · refine ⟨_, rfl, a, _, 1, .int b, rfl, rfl, .inl (.inl upd_same), atI_nat (j := 1) rfl, _, rfl, b, m, rfl, rfl, m0, ?_⟩
      refine ⟨_, rfl, a, _, 1, .int b, rfl, rfl, .inl (.inl upd_same), atI_nat (j := 1) rfl, _, rfl, b, m, rfl, rfl, ⟨m0, m1⟩, _, rfl, a, _, 1, 1, rfl, rfl, upd_same, rfl, ?_⟩
      refine ⟨_, rfl, q _ _ (Int.emod_nonneg _ (by omega)) (Int.emod_lt_of_pos _ m0) ⟨_, _, _, upd_same, ?_⟩ (((sameX_upd).trans sameX_upd).trans sameX_upd) fun p hp => ?_⟩
      · exact Int.ediv_nonneg hb (by omega)
      · exact none_upd upd_same p (none_upd upd_same p (none_upd ha p hp))
    · refine ⟨_, rfl, a, _, 0, _, rfl, rfl, .inl (.inl upd_same), atI_nat (j := 0) rfl, _, _, rfl, rfl, (show (0 : Int) < 1000000033 by decide), _, _, rfl, rfl, ⟨by decide, by decide⟩, _, rfl, _, m, rfl, rfl, m0, ?_⟩
      exact q _ _ (Int.emod_nonneg _ (by omega)) (Int.emod_lt_of_pos _ m0) ⟨_, _, _, upd_same, hb⟩ ((sameX_upd).trans sameX_upd) fun p hp => none_upd upd_same p (none_upd ha p hp)

/-! ### the menu, a word -/
def menuW : List Str := ["put", "doubt", "strike", "back", "change", "one", "map", "words", "parted", "line", "rings", "thin", "fate", "asks", "habit", "apart", "near", "paper", "ok", "no", "none", "self", "may", "not", "has", "any"]
theorem menu_wd : ∀ z ∈ menuW, IsWd z := by decide +kernel
theorem menu_len : menuW.length = 26 := by decide +kernel
def spMenu : Sp := fun vs H Q _ => vs = [] ∧ ∀ (p : Addr) (H' : Hp), H p = none → Same H H' → H' p = some (.lst (menuW.map V.str)) → Q (.ref p) H'
theorem scMenu : FnScope ["_law_some"] [] (defScope sMenu) := ⟨rfl, rfl, rfl, by decide +kernel, rfl, by decide +kernel, by decide +kernel⟩
theorem ok_menu (F : Fun K "_law_menu" "_law_menu" sMenu f fd) : FnOk P w K mg base CX0 1 f fd [] spMenu := by
  refine F.ok scMenu (fun vs H Q E h => ?_) (fun cdv A outer s H vs Q E hr h => ?_)
  · obtain ⟨rfl, _⟩ := h
    rfl
  · obtain ⟨rfl, q⟩ := h
    refine ⟨_, pss_cons (ps_set (i := 0) scMenu.nd rfl (.inl rfl) (pe_lst (pa_cons pe_str (pa_cons pe_str (pa_cons pe_str (pa_cons pe_str (pa_cons pe_str (pa_cons pe_str (pa_cons pe_str (pa_cons pe_str (pa_cons pe_str (pa_cons pe_str (pa_cons pe_str (pa_cons pe_str pa_nil))))))))))))))
      (pss_cons (ps_set (i := 0) scMenu.nd rfl (.inl rfl) (pe_op op_cat (pv 0) (pe_lst (pa_cons pe_str (pa_cons pe_str (pa_cons pe_str (pa_cons pe_str (pa_cons pe_str (pa_cons pe_str (pa_cons pe_str (pa_cons pe_str (pa_cons pe_str (pa_cons pe_str (pa_cons pe_str (pa_cons pe_str pa_nil)))))))))))))))
      (pss_one (ps_ret (pe_op op_cat (pv 0) (pe_lst (pa_cons pe_str (pa_cons pe_str pa_nil))))))), ?_⟩
    refine ⟨lz, fun p1 h1 => ?_⟩
    refine ⟨_, rfl, lz, fun p2 h2 => ⟨p1, p2, _, _, rfl, rfl, (same_new h2) _ _ upd_same, upd_same, lz, fun p3 h3 => ?_⟩⟩
    refine ⟨_, rfl, lz, fun p4 h4 => ⟨p3, p4, _, _, rfl, rfl, (same_new h4) _ _ upd_same, upd_same, lz, fun p5 h5 => ?_⟩⟩
    exact q p5 _ (Same.free (((same_new h1).trans (same_new h2)).trans ((same_new h3).trans (same_new h4))) h5) ((((same_new h1).trans (same_new h2)).trans ((same_new h3).trans (same_new h4))).trans (same_new h5)) upd_same

def spWord : Sp := fun vs H Q _ => ∃ (a : Addr), vs = [.ref a] ∧ PurseAt H a ∧ ∀ (z : Str) (H' : Hp), IsWd z → PurseAt H' a → SameX a H H' → Q (.str z) H'
abbrev nWord : List Str := ["_law_purse_here", "_law_way", "_law_wide", "_law_size", "_law_k"]
theorem scWord : FnScope nWord ["_law_purse_here"] (defScope sWord) :=
  ⟨rfl, rfl, rfl, by decide +kernel, rfl, by decide +kernel, by decide +kernel⟩
theorem ok_word (F : Fun K "_law_word" "_law_word" sWord f fd) (B : Bi mg) (hp : Has P w K mg base "_law_pick" 1 ["_law_purse_here", "_law_count"] spPick) (hm : Has P w K mg base "_law_menu" 1 [] spMenu) :
    FnOk P w K mg base CX0 2 f fd ["_law_purse_here"] spWord := by
  refine F.ok scWord (fun vs H Q E h => ?_) (fun cdv A outer s H vs Q E hr h => ?_)
  · obtain ⟨a, rfl, _⟩ := h
    rfl
  · obtain ⟨a, rfl, hA, q⟩ := h
    refine ⟨_, pss_cons (ps_asg (pe_tup (pa_cons (pe_h hp hr (pa_cons (pv 0) (pa_cons pe_int pa_nil))) (pa_cons (pe_ix ix_list (pe_lst (pa_cons pe_int (pa_cons pe_int (pa_cons pe_int pa_nil)))) (pe_h hp hr (pa_cons (pv 0) (pa_cons pe_int pa_nil))) (fun _ _ => rfl)) pa_nil)))
        (pg_tup rfl (pgs_cons (pg_name (i := 1) scWord.nd rfl (.inl rfl)) (pgs_cons (pg_name (i := 2) scWord.nd rfl (.inr rfl)) pgs_nil))))
      (pss_cons (ps_if (pt_cmpR op_eq (pv 1) pe_int (nomark _)) (pss_one (ps_ret (pe_ix ix_list (pe_h0 hm hr) (pe_h hp hr (pa_cons (pv 0) (pa_cons pe_int pa_nil))) (fun _ _ => rfl)))) pss_nil)
      (pss_cons (ps_set (i := 3) scWord.nd rfl (.inl rfl) (pe_ix ix_list (pe_lst (pa_cons pe_int (pa_cons pe_int (pa_cons pe_int (pa_cons pe_int (pa_cons (pe_op op_add pe_int (pe_h hp hr (pa_cons (pv 0) (pa_cons pe_int pa_nil)))) pa_nil)))))) (pe_h hp hr (pa_cons (pv 0) (pa_cons pe_int pa_nil))) (fun _ _ => rfl)))
      (pss_one (ps_ret (pe_join pe_str (pe_lc (own := [("_law_k", 4)]) (g := gName 4) (tt := tYes) rfl scWord.nd (pi_range1 (by rfl) B.range (pa_cons (pv 3) pa_nil)) (blkOk_by (N := nWord) (sc := defScope sWord) (by decide +kernel))
        (fun _ _ _ _ _ => pg_name (i := 4) scWord.nd rfl (.inl rfl)) (fun _ _ _ _ _ => pts_nil) (fun _ _ _ _ _ => pe_ix ix_str pe_str (pe_h hp hr (pa_cons (pv 0) (pa_cons (pv 2) pa_nil))) (fun _ _ => rfl)))))))), ?_⟩
    -- way, wide
    refine ⟨_, rfl, a, 4, rfl, hA, by decide, by decide, fun r1 H1 r10 r11 hA1 s1 n1 => ?_⟩
    refine ⟨lz, fun p hp => ⟨_, rfl, a, 3, rfl, hA1.same (same_new hp), by decide, by decide, fun r2 H2 r20 r21 hA2 s2 n2 => ?_⟩⟩
    have npa := hA1.ne hp
    obtain ⟨wd, hwm, hwd⟩ := atI_tab (ns := [3, 5, 26]) r20 r21
    have hw : 0 < wd ∧ wd ≤ 26 := by
      simp only [List.mem_cons, List.not_mem_nil, or_false] at hwm
      omega
    have s2' : SameX a H H2 := (s1.trans (sx (same_new hp))).trans s2
    refine ⟨p, _, r2, .int wd, rfl, rfl, .inl (.inl (s2 _ _ npa upd_same)), hwd, lz, fun t ht => ?_⟩
    refine ⟨t, _, rfl, .inl (.inl upd_same), rfl, _, _, rfl, _, _, rfl, rfl, ?_⟩
    have hA3 := hA2.same (same_new (o := .tup [.int r1, .int wd]) ht)
    have s3 : SameX a H _ := s2'.trans (sx (same_new (o := .tup [.int r1, .int wd]) ht))
    generalize upd H2 t (.tup [.int r1, .int wd]) = H3 at hA3 s3
    refine ⟨_, rfl, rfl, _, rfl, ite_b (fun e => ?_) (fun e => ?_)⟩
    · -- menu()[..]
      refine ⟨rfl, fun p4 H4 hp4 s4 h4 => ⟨_, rfl, a, 26, rfl, hA3.same s4, by decide, by decide, fun r5 H5 r50 r51 hA5 s5 n5 => ?_⟩⟩
      obtain ⟨z, hz, hzi⟩ := atI_strs (zs := menuW) r50 (by rw [menu_len]; exact r51)
      exact ⟨p4, _, r5, .str z, rfl, rfl, .inl (.inl (s5 _ _ (hA3.ne hp4) h4)), hzi, q z H5 (menu_wd z hz) hA5 ((s3.trans (sx s4)).trans s5)⟩
    · -- size
      refine ⟨_, rfl, a, 8, rfl, hA3, by decide, by decide, fun r4 H4 r40 r41 hA4 s4 n4 => ⟨_, _, rfl, rfl, lz, fun p5 hp5 => ⟨_, rfl, a, 5, rfl, hA4.same (same_new hp5), by decide, by decide, fun r6 H6 r60 r61 hA6 s6 n6 => ?_⟩⟩⟩
      have np5 := hA4.ne hp5
      obtain ⟨sz, hsm, hsz⟩ := atI_tab (ns := [1, 2, 3, 4, 1 + r4]) r60 r61
      have hs8 : 1 ≤ sz ∧ sz ≤ 8 := by
        simp only [List.mem_cons, List.not_mem_nil, or_false] at hsm
        omega
      refine ⟨p5, _, r6, .int sz, rfl, rfl, .inl (.inl (s6 _ _ np5 upd_same)), hsz, ?_⟩
      have s6' : SameX a H H6 := ((s3.trans s4).trans (sx (same_new hp5))).trans s6
      -- join of the signs
      refine ⟨⟨_, rfl⟩, _, rfl, sz, rfl, by omega, by omega, fun D hD => lc_range (lo := 0) (n := sz.toNat)
        (fun i H' => ∃ cs : List Nat, cs.length = i ∧ (∀ c ∈ cs, 97 ≤ c ∧ c ≤ 122) ∧ H' D = some (.lst ((cs.map sign).map V.str)) ∧ PurseAt H' a ∧ SameX a H6 H')
        ⟨[], rfl, fun c hc => by simp at hc, upd_same, hA6.same (same_new hD), sx (same_new hD)⟩ ?_ ?_⟩
      · rintro i H7 hi ⟨cs, hcl, hcs, hDl, hA7, s7⟩
        refine ⟨rfl, yes_it ⟨_, rfl, _, rfl, a, wd, rfl, hA7, hw.1, by omega, fun r8 H8 r80 r81 hA8 s8 n8 => ?_⟩⟩
        have nD := hA6.ne hD
        refine ⟨_, r8, _, rfl, rfl, lz, letter_at r80 (by omega), _, s8 _ _ nD hDl, ?_, ?_⟩
        · rw [List.length_map, List.length_map]
          exact small1000 (by omega)
        · refine ⟨cs ++ [97 + r8.toNat], by simp [hcl], fun c hc => ?_, ?_, ?_, sameX_mut (s7.trans s8) hD⟩
          · rcases List.mem_append.mp hc with hc | hc
            · exact hcs c hc
            · rw [List.mem_singleton.mp hc]
              omega
          · rw [upd_same, List.map_append, List.map_append]
            rfl
          · obtain ⟨x0, x1, x2, hx, hx1⟩ := hA8
            exact ⟨x0, x1, x2, by rw [upd_ne nD.symm]; exact hx, hx1⟩
      · rintro H7 ⟨cs, hcl, hcs, hDl, hA7, s7⟩
        refine ⟨_, D, cs.map sign, rfl, rfl, .inl (.inl (.inl hDl)), ?_, ?_⟩
        · have e0 : ("" : Str).length = 0 := by decide +kernel
          have e1 : (cs.map sign).map (·.length) = cs.map fun _ => 1 := by
            rw [List.map_map]
            rfl
          rw [e0, e1, Nat.mul_zero]
          have e2 : ∀ l : List Nat, (l.map fun _ => 1).sum = l.length := fun l => by
            induction l with
            | nil => rfl
            | cons x r ih => rw [List.map_cons, List.sum_cons, ih, List.length_cons]; omega
          rw [e2]
          omega
        · refine q _ H7 (isWd_of ?_ ?_ ?_) hA7 (s6'.trans s7)
          · rw [join_signs]; omega
          · rw [join_signs]; omega
          · rw [join_signs]; exact hcs
end
end Wl





namespace Wl
open PySem PySem.Spec PyProof.Rows L2
abbrev sFresh : Stmt := topS 46
abbrev sLand : Stmt := topS 47
abbrev sNames : Stmt := topS 48

/-! ### a word that is not in use -/
def spareS (A B : Str) : List Str := ((List.range' 97 26).map fun c => A ++ sign c) ++ (List.range' 97 13).map fun c => B ++ sign c ++ ("z" : Str)
theorem codes_add (x y : Str) : (x ++ y).cps.toList = x.cps.toList ++ y.cps.toList := TL.tl_append x y
theorem spare_free (A B : Str) (ws : List Str) (h : ws.length ≤ 35) : ∃ z ∈ spareS A B, z ∉ ws := by
  refine Classical.byContradiction fun no => ?_
  have all : ∀ z ∈ spareS A B, z ∈ ws := fun z hz => Classical.byContradiction fun k => no ⟨z, hz, k⟩
  have nd : (((List.range' 97 25).map fun c => A ++ sign c) ++ (List.range' 97 13).map fun c => B ++ sign c ++ ("z" : Str)).Nodup := by
    have zc : ("z" : Str).cps.toList = [122] := by decide +kernel
    have c1 : ∀ c, (A ++ sign c).cps.toList = A.cps.toList ++ [c] := fun c => codes_add A (sign c)
    have c2 : ∀ c, (B ++ sign c ++ ("z" : Str)).cps.toList = B.cps.toList ++ [c] ++ [122] := fun c => by
      rw [codes_add, codes_add, zc]
      rfl
    rw [List.nodup_append]
    refine ⟨?_, ?_, ?_⟩
    · refine List.pairwise_map.mpr ((List.nodup_range' (s := 97) (n := 25) (step := 1)).imp fun {a b} ne e => ne ?_)
      have := congrArg (fun z : Str => z.cps.toList) e
      simp only [c1] at this
      simpa using this
    · refine List.pairwise_map.mpr ((List.nodup_range' (s := 97) (n := 13) (step := 1)).imp fun {a b} ne e => ne ?_)
      have := congrArg (fun z : Str => z.cps.toList) e
      simp only [c2] at this
      simpa using this
    · intro x hx y hy e
      obtain ⟨c, hc, rfl⟩ := List.mem_map.mp hx
      obtain ⟨d, hd, rfl⟩ := List.mem_map.mp hy
      have := congrArg (fun z : Str => z.cps.toList.getLast?) e
      simp only [c1, c2, List.getLast?_append, List.getLast?_singleton, Option.some_or, Option.some.injEq] at this
      rw [List.mem_range'_1] at hc
      omega
  have sub : (((List.range' 97 25).map fun c => A ++ sign c) ++ (List.range' 97 13).map fun c => B ++ sign c ++ ("z" : Str)) ⊆ ws := by
    intro z hz
    refine all z ?_
    rcases List.mem_append.mp hz with hz | hz
    · obtain ⟨c, hc, rfl⟩ := List.mem_map.mp hz
      refine List.mem_append.mpr (.inl (List.mem_map.mpr ⟨c, ?_, rfl⟩))
      rw [List.mem_range'_1] at hc ⊢
      omega
    · exact List.mem_append.mpr (.inr hz)
  have := nd.length_le_of_subset sub
  simp at this
  omega
theorem spare_wd {z : Str} (h : IsWd z) : ∀ y ∈ spareS (cutS z none (some 7)) (cutS z none (some 6)), IsWd y := by
  have hl := h.len
  have hz : z.length = z.cps.toList.length := by simp [Str.length]
  have hc : ∀ c ∈ z.cps.toList, 97 ≤ c ∧ c ≤ 122 := by
    unfold IsWd wdB at h
    simp only [Bool.and_eq_true, decide_eq_true_eq, List.all_eq_true] at h
    exact h.2
  have zc : ("z" : Str).cps.toList = [122] := by decide +kernel
  intro y hy
  rcases List.mem_append.mp hy with hy | hy
  · obtain ⟨c, hcm, rfl⟩ := List.mem_map.mp hy
    rw [List.mem_range'_1] at hcm
    have e : (cutS z none (some 7) ++ sign c).cps.toList = z.cps.toList.take 7 ++ [c] := by
      rw [codes_add, show ((7 : Int)) = ((7 : Nat) : Int) from rfl, cut_hi]
      rfl
    refine isWd_of ?_ ?_ ?_
    · rw [e]; simp
    · rw [e]; simp; omega
    · rw [e]
      intro d hd
      rcases List.mem_append.mp hd with hd | hd
      · exact hc d (List.mem_of_mem_take hd)
      · rw [List.mem_singleton.mp hd]; omega
  · obtain ⟨c, hcm, rfl⟩ := List.mem_map.mp hy
    rw [List.mem_range'_1] at hcm
    have e : (cutS z none (some 6) ++ sign c ++ ("z" : Str)).cps.toList = z.cps.toList.take 6 ++ [c] ++ [122] := by
      rw [codes_add, codes_add, show ((6 : Int)) = ((6 : Nat) : Int) from rfl, cut_hi, zc]
      rfl
    refine isWd_of ?_ ?_ ?_
    · rw [e]; simp
    · rw [e]; simp; omega
    · rw [e]
      intro d hd
      rcases List.mem_append.mp hd with hd | hd
      · rcases List.mem_append.mp hd with hd | hd
        · exact hc d (List.mem_of_mem_take hd)
        · rw [List.mem_singleton.mp hd]; omega
      · rw [List.mem_singleton.mp hd]; omega

section
variable {P : Program} {w : World} {K : PySem.W.Frag} {mg : Str → Option Value} {base : Heap} {f : Addr} {fd : FuncData}
def spFresh : Sp := fun vs H Q _ => ∃ (a u : Addr) (ws : List Str), vs = [.ref a, .ref u] ∧ PurseAt H a ∧ H u = some (.lst (ws.map V.str)) ∧ u ≠ a ∧ ws.length ≤ 35 ∧
  ∀ (z : Str) (H' : Hp), IsWd z → z ∉ ws → PurseAt H' a → SameX a H H' → Q (.str z) H'
abbrev nFresh : List Str := ["_law_purse_here", "_law_used", "_law_sound", "_law_spare", "_law_sign", "_law_lone"]
theorem scFresh : FnScope nFresh ["_law_purse_here", "_law_used"] (defScope sFresh) :=
  ⟨rfl, rfl, rfl, by decide +kernel, rfl, by decide +kernel, by decide +kernel⟩
def addS (A : Str) (B : Str) : V → V
  | .str s => .str (A ++ s ++ B)
  | v => v
theorem wd_line {z : Str} (h : IsWd z) : z.length ≤ sizeLine := lzl (by have := h.len; omega)
theorem ok_fresh (F : Fun K "_law_fresh" "_law_fresh" sFresh f fd) (B : Bi mg) (hW : Has P w K mg base "_law_word" 2 ["_law_purse_here"] spWord) :
    FnOk P w K mg base CX0 3 f fd ["_law_purse_here", "_law_used"] spFresh := by
  refine F.ok scFresh (fun vs H Q E h => ?_) (fun cdv A outer s H vs Q E hr h => ?_)
  · obtain ⟨a, u, ws, rfl, _⟩ := h
    rfl
  · obtain ⟨a, u, ws, rfl, hA, hu, nua, hl, q⟩ := h
    refine ⟨_, pss_cons (ps_set (i := 2) scFresh.nd rfl (.inr rfl) (pe_h hW hr (pa_cons (pv 0) pa_nil)))
      (pss_cons (ps_if (pt_cmpR op_notIn_seq (pv 2) (pv 1) (by rfl)) (pss_one (ps_ret (pv 2))) pss_nil)
      (pss_cons (ps_setLc (i := 3) (own := [("_law_sign", 4)]) (g := gName 4) (tt := tYes) rfl scFresh.nd rfl rfl (sw_true rfl rfl rfl (by decide +kernel)) (pi_str pe_str) (blkOk_by (N := nFresh) (sc := defScope sFresh) (by decide +kernel))
        (fun _ _ _ _ _ => pg_name (i := 4) scFresh.nd rfl (.inl rfl)) (fun _ _ _ _ _ => pts_nil) (fun _ _ _ _ _ => pe_op op_add_str (pe_slice sl_str (pv 2) po_none (po_some pe_int)) (pv 4)))
      (pss_cons (ps_set (i := 3) scFresh.nd rfl (.inl rfl) (pe_op op_cat (pv 3) (pe_lc (own := [("_law_sign", 4)]) (g := gName 4) (tt := tYes) rfl scFresh.nd (pi_str pe_str) (blkOk_by (N := nFresh) (sc := defScope sFresh) (by decide +kernel))
        (fun _ _ _ _ _ => pg_name (i := 4) scFresh.nd rfl (.inl rfl)) (fun _ _ _ _ _ => pts_nil) (fun _ _ _ _ _ => pe_op op_add_str (pe_op op_add_str (pe_slice sl_str (pv 2) po_none (po_some pe_int)) (pv 4)) pe_str))))
      (pss_one (ps_ret (pe_ix ix_list (pe_lc (own := [("_law_lone", 5)]) (g := gName 5) (tt := tTest (tOp (rIn K true) (tVar 5) (tVar 1))) rfl scFresh.nd (pi_list (pv 3)) (blkOk_by (N := nFresh) (sc := defScope sFresh) (by decide +kernel))
        (fun _ _ _ _ _ => pg_name (i := 5) scFresh.nd rfl (.inl rfl)) (fun _ _ _ _ _ => pts_one (pt_cmpR op_notIn_seq (pv 5) (pv 1) (by rfl))) (fun _ _ _ _ _ => pv 5)) pe_int (fun _ _ => rfl))))))), ?_⟩
    refine ⟨_, rfl, a, rfl, hA, fun z H1 hz hA1 s1 => ?_⟩
    have hu1 : H1 u = some (.lst (ws.map V.str)) := s1 _ _ nua hu
    refine ⟨_, rfl, _, rfl, u, ws.map V.str, rfl, .inl (.inl (.inl hu1)), rfl, flat_strs ws, _, rfl, ite_b (fun e => ?_) (fun e => ?_)⟩
    · rw [if_pos rfl, inV_strs, Bool.not_eq_true', decide_eq_false_iff_not] at e
      exact ⟨_, rfl, q z H1 hz e hA1 s1⟩
    · refine ⟨_, rfl, fun D hD => lc_map walk_signs hD (fun _ => true) (addS (cutS z none (some 7)) ⟨#[]⟩) (fun _ _ => trivial) (fun _ => rfl) (fun x H' _ _ Q' q' => q') ?_ lz ?_⟩
      · intro x H' hx _ _ Q' q'
        obtain ⟨c, hc, rfl⟩ := List.mem_map.mp hx
        refine ⟨_, rfl, 7, rfl, z, rfl, wd_line hz, _, rfl, _, _, rfl, rfl, ?_, ?_⟩
        · have := cutS_length z none (some 7)
          have := hz.len
          exact lzl (by show (cutS z none (some 7)).length + 1 ≤ 1000; omega)
        · have e0 : addS (cutS z none (some 7)) ⟨#[]⟩ (.str (sign c)) = .str (cutS z none (some 7) ++ sign c) := by
            refine congrArg V.str (str_ext ?_)
            rw [codes_add]
            simp
          rw [e0] at q'
          exact q'
      · intro H2 s2 hD2
        have hu2 := s2 _ _ hu1
        have hA2 := hA1.same s2
        refine ⟨_, rfl, _, rfl, fun D3 hD3 => lc_map walk_signs hD3 (fun _ => true) (addS (cutS z none (some 6)) "z") (fun _ _ => trivial) (fun _ => rfl) (fun x H' _ _ Q' q' => q') ?_ lz ?_⟩
        · intro x H' hx _ _ Q' q'
          obtain ⟨c, hc, rfl⟩ := List.mem_map.mp hx
          have h6 := cutS_length z none (some 6)
          have hl8 := hz.len
          have hz1 : ("z" : Str).length = 1 := by decide +kernel
          have hadd : (cutS z none (some 6) ++ sign c).length = (cutS z none (some 6)).length + 1 := by
            rw [TL.len_tl, TL.tl_append, List.length_append, ← TL.len_tl]
            rfl
          refine ⟨_, rfl, 6, rfl, z, rfl, wd_line hz, _, rfl, _, _, rfl, rfl, ?_, _, _, rfl, rfl, ?_, q'⟩
          · exact lzl (by show (cutS z none (some 6)).length + 1 ≤ 1000; omega)
          · exact lzl (by rw [hz1]; show (cutS z none (some 6) ++ sign c).length + 1 ≤ 1000; omega)
        · intro H4 s4 hD4
          have e26 : (signsOf ("abcdefghijklmnopqrstuvwxyz" : Str)).filter (fun _ => true) = signsOf ("abcdefghijklmnopqrstuvwxyz" : Str) := List.filter_eq_self.mpr fun _ _ => rfl
          have e13 : (signsOf ("abcdefghijklm" : Str)).filter (fun _ => true) = signsOf ("abcdefghijklm" : Str) := List.filter_eq_self.mpr fun _ _ => rfl
          have c13 : ("abcdefghijklm" : Str).cps.toList = List.range' 97 13 := by decide +kernel
          have eall : ((signsOf ("abcdefghijklmnopqrstuvwxyz" : Str)).filter (fun _ => true)).map (addS (cutS z none (some 7)) ⟨#[]⟩) ++ ((signsOf ("abcdefghijklm" : Str)).filter (fun _ => true)).map (addS (cutS z none (some 6)) "z")
              = (spareS (cutS z none (some 7)) (cutS z none (some 6))).map V.str := by
            rw [e26, e13]
            unfold signsOf spareS
            rw [letters_eq, c13, List.map_append, List.map_map, List.map_map, List.map_map, List.map_map]
            congr 1
          refine ⟨D, D3, _, _, rfl, rfl, s4 _ _ hD2, hD4, lz, fun p5 hp5 => ?_⟩
          rw [eall]
          have s5 : Same H1 (upd H4 p5 (.lst ((spareS (cutS z none (some 7)) (cutS z none (some 6))).map V.str))) := (s2.trans s4).trans (same_new hp5)
          refine ⟨_, rfl, p5, rfl, ⟨_, .inl (.inl upd_same)⟩, fun D6 hD6 => lc_map (walk_list (K := K) (a := p5) (xs := (spareS (cutS z none (some 7)) (cutS z none (some 6))).map V.str)) hD6 (fun v => !inV v (ws.map V.str)) id (fun H' s' => .inl (.inl (s' _ _ upd_same))) (fun _ => rfl) ?_ ?_ lz ?_⟩
          · intro x H' hx s' Q' q'
            obtain ⟨y, hy, rfl⟩ := List.mem_map.mp hx
            exact ⟨_, rfl, _, rfl, u, _, rfl, .inl (.inl (.inl (s' _ _ (s5 _ _ hu1)))), rfl, flat_strs ws, _, rfl, q'⟩
          · intro x H' hx _ _ Q' q'
            exact ⟨_, rfl, q'⟩
          · intro H7 s7 hD7
            obtain ⟨y0, hy0, hn0⟩ := spare_free (cutS z none (some 7)) (cutS z none (some 6)) ws hl
            have hf : ((spareS (cutS z none (some 7)) (cutS z none (some 6))).map V.str).filter (fun v => !inV v (ws.map V.str)) = ((spareS (cutS z none (some 7)) (cutS z none (some 6))).filter fun y => decide (y ∉ ws)).map V.str := by
              rw [List.filter_map]
              congr 1
              refine List.filter_congr fun y _ => ?_
              simp only [Function.comp, inV_strs]
              by_cases c : y ∈ ws <;> simp [c]
            rw [List.map_id, hf] at hD7
            have hm0 : y0 ∈ (spareS (cutS z none (some 7)) (cutS z none (some 6))).filter fun y => decide (y ∉ ws) := List.mem_filter.mpr ⟨hy0, decide_eq_true hn0⟩
            cases hcl : (spareS (cutS z none (some 7)) (cutS z none (some 6))).filter fun y => decide (y ∉ ws) with
            | nil =>
              rw [hcl] at hm0
              cases hm0
            | cons y r =>
              have hym : y ∈ (spareS (cutS z none (some 7)) (cutS z none (some 6))).filter fun y => decide (y ∉ ws) := by
                rw [hcl]
                exact List.mem_cons_self
              obtain ⟨hy1, hy2⟩ := List.mem_filter.mp hym
              refine ⟨D6, _, 0, .str y, rfl, rfl, .inl (.inl hD7), atI_nat (j := 0) (by rw [hcl]; rfl), ?_⟩
              exact q y H7 (spare_wd hz y hy1) (of_decide_eq_true hy2) (hA1.same (s5.trans s7)) (s1.trans (sx (s5.trans s7)))
end
end Wl





namespace Wl
open PySem PySem.Spec PyProof.Rows L2
abbrev Row := List (Option Str)
abbrev Grid := List Row
def rnames (r : Row) : List Str := r.filterMap id
def names (g : Grid) : List Str := g.flatten.filterMap id
theorem names_nil : names [] = [] := rfl
theorem names_snoc (g : Grid) (r : Row) : names (g ++ [r]) = names g ++ rnames r := by
  unfold names rnames
  rw [List.flatten_append, List.filterMap_append]
  simp
theorem names_cons (r : Row) (g : Grid) : names (r :: g) = rnames r ++ names g := by
  unfold names rnames
  rw [List.flatten_cons, List.filterMap_append]
theorem rnames_snoc (r : Row) (o : Option Str) : rnames (r ++ [o]) = rnames r ++ o.toList := by
  unfold rnames
  rw [List.filterMap_append]
  cases o <;> rfl
structure Good (g : Grid) (wd : Nat) : Prop where
  h1 : 1 ≤ g.length
  h6 : g.length ≤ 6
  w1 : 1 ≤ wd
  w6 : wd ≤ 6
  rows : ∀ r ∈ g, r.length = wd
  nd : (names g).Nodup
  wd : ∀ z ∈ names g, IsWd z
  ne : names g ≠ []
/-- the heap keeps its tuples -/
def TupKeep (H H' : Hp) : Prop := ∀ p xs, H p = some (.tup xs) → H' p = some (.tup xs)
theorem TupKeep.refl (H : Hp) : TupKeep H H := fun _ _ h => h
theorem TupKeep.trans {H H1 H2 : Hp} (a : TupKeep H H1) (b : TupKeep H1 H2) : TupKeep H H2 := fun p xs h => b p xs (a p xs h)
theorem tk_same {H H' : Hp} (s : Same H H') : TupKeep H H' := fun p xs h => s p _ h
theorem tk_x {a : Addr} {H H' : Hp} {ys : List V} (s : SameX a H H') (ha : H a = some (.lst ys)) : TupKeep H H' := fun p xs h => s p _ (ne_of h ha (by intro z; cases z)) h
theorem tk_upd {a : Addr} {H : Hp} {ys : List V} {o : HO} (ha : H a = some (.lst ys)) : TupKeep H (upd H a o) := tk_x sameX_upd ha
theorem tk_new {p : Addr} {H : Hp} {o : HO} (hp : H p = none) : TupKeep H (upd H p o) := tk_same (same_new hp)
/-- rows of a grid as tuples -/
def RowsAt (H : Hp) (as : List Addr) (g : Grid) : Prop := Each (fun (p : Addr) (row : Row) => H p = some (.tup (row.map oV))) as g
theorem RowsAt.keep {H H' : Hp} {as : List Addr} {g : Grid} (h : RowsAt H as g) (k : TupKeep H H') : RowsAt H' as g := Each.mono (fun p row e => k p _ e) h
def GridAt (H : Hp) (L : Addr) (g : Grid) : Prop := ∃ as : List Addr, H L = some (.tup (as.map V.ref)) ∧ RowsAt H as g
theorem GridAt.keep {H H' : Hp} {L : Addr} {g : Grid} (h : GridAt H L g) (k : TupKeep H H') : GridAt H' L g := by
  obtain ⟨as, h1, h2⟩ := h
  exact ⟨as, k _ _ h1, h2.keep k⟩
/-- the part at a row and a column, none where there is none -/
def cellAt (g : Grid) (r c : Nat) : Option Str := match g[r]? with
  | some row => (row[c]?).getD none
  | none => none
theorem cellAt_some {g : Grid} {r c : Nat} {z : Str} (h : cellAt g r c = some z) : ∃ row, g[r]? = some row ∧ row[c]? = some (some z) := by
  unfold cellAt at h
  cases e : g[r]? with
  | none => rw [e] at h; cases h
  | some row =>
    rw [e] at h
    refine ⟨row, rfl, ?_⟩
    cases e2 : row[c]? with
    | none => simp only [e2] at h; cases h
    | some o => simp only [e2, Option.getD_some] at h; rw [h]
theorem cellAt_of {g : Grid} {r c : Nat} {row : Row} {o : Option Str} (h : g[r]? = some row) (k : row[c]? = some o) : cellAt g r c = o := by
  unfold cellAt
  rw [h]
  simp [k]
/-! ### the spots -/
def spR (i j : Nat) : Row → List (Str × Nat × Nat)
  | [] => []
  | none :: r => spR i (j + 1) r
  | some z :: r => (z, i, j) :: spR i (j + 1) r
def spG (i : Nat) : Grid → List (Str × Nat × Nat)
  | [] => []
  | row :: g => spR i 0 row ++ spG (i + 1) g
theorem spR_snoc (i : Nat) : ∀ (r : Row) (j : Nat) (o : Option Str), spR i j (r ++ [o]) = spR i j r ++ (o.toList.map fun z => (z, i, j + r.length))
  | [], j, none => rfl
  | [], j, some z => rfl
  | none :: r, j, o => by
    show spR i (j + 1) (r ++ [o]) = spR i (j + 1) r ++ _
    rw [spR_snoc i r (j + 1) o, List.length_cons]
    congr 2
    funext z
    rw [Nat.add_right_comm, Nat.add_assoc]
  | some y :: r, j, o => by
    show (y, i, j) :: spR i (j + 1) (r ++ [o]) = (y, i, j) :: spR i (j + 1) r ++ _
    rw [spR_snoc i r (j + 1) o, List.length_cons, List.cons_append]
    congr 3
    funext z
    rw [Nat.add_right_comm, Nat.add_assoc]
theorem spG_snoc : ∀ (g : Grid) (i : Nat) (r : Row), spG i (g ++ [r]) = spG i g ++ spR (i + g.length) 0 r
  | [], i, r => by simp [spG]
  | x :: g, i, r => by
    show spR i 0 x ++ spG (i + 1) (g ++ [r]) = spR i 0 x ++ spG (i + 1) g ++ _
    rw [spG_snoc g (i + 1) r, List.length_cons, List.append_assoc]
    congr 3
    omega
theorem spR_fst (i : Nat) : ∀ (r : Row) (j : Nat), (spR i j r).map (·.1) = rnames r
  | [], _ => rfl
  | none :: r, j => spR_fst i r (j + 1)
  | some z :: r, j => congrArg (z :: ·) (spR_fst i r (j + 1))
theorem spG_fst : ∀ (g : Grid) (i : Nat), (spG i g).map (·.1) = names g
  | [], _ => rfl
  | r :: g, i => by
    show (spR i 0 r ++ spG (i + 1) g).map (·.1) = _
    rw [List.map_append, spR_fst, spG_fst g (i + 1), names_cons]
theorem spR_mem (i : Nat) {z : Str} {a b : Nat} : ∀ (r : Row) (j : Nat), (z, a, b) ∈ spR i j r ↔ a = i ∧ ∃ k, b = j + k ∧ r[k]? = some (some z)
  | [], j => by simp [spR]
  | none :: r, j => by
    show (z, a, b) ∈ spR i (j + 1) r ↔ _
    rw [spR_mem i r (j + 1)]
    constructor
    · rintro ⟨h, k, e, q⟩
      exact ⟨h, k + 1, by omega, by simpa using q⟩
    · rintro ⟨h, k, e, q⟩
      cases k with
      | zero => simp at q
      | succ k => exact ⟨h, k, by omega, by simpa using q⟩
  | some y :: r, j => by
    show (z, a, b) ∈ (y, i, j) :: spR i (j + 1) r ↔ _
    rw [List.mem_cons, spR_mem i r (j + 1)]
    constructor
    · rintro (h | ⟨h, k, e, q⟩)
      · cases h
        exact ⟨rfl, 0, rfl, rfl⟩
      · exact ⟨h, k + 1, by omega, by simpa using q⟩
    · rintro ⟨h, k, e, q⟩
      cases k with
      | zero =>
        simp at q
        subst q h
        exact .inl (by rw [e, Nat.add_zero])
      | succ k => exact .inr ⟨h, k, by omega, by simpa using q⟩
theorem spG_mem {z : Str} {a b : Nat} : ∀ (g : Grid) (i : Nat), (z, a, b) ∈ spG i g ↔ ∃ k row, a = i + k ∧ g[k]? = some row ∧ row[b]? = some (some z)
  | [], i => by simp [spG]
  | r :: g, i => by
    show (z, a, b) ∈ spR i 0 r ++ spG (i + 1) g ↔ _
    rw [List.mem_append, spR_mem, spG_mem g (i + 1)]
    constructor
    · rintro (⟨h, k, e, q⟩ | ⟨k, row, e, q, t⟩)
      · exact ⟨0, r, by omega, rfl, by rw [e, Nat.zero_add]; exact q⟩
      · exact ⟨k + 1, row, by omega, by simpa using q, t⟩
    · rintro ⟨k, row, e, q, t⟩
      cases k with
      | zero =>
        simp at q
        subst q
        exact .inl ⟨by omega, b, by omega, t⟩
      | succ k => exact .inr ⟨k, row, by omega, by simpa using q, t⟩
theorem spG_cell {g : Grid} {z : Str} {r c : Nat} : (z, r, c) ∈ spG 0 g ↔ cellAt g r c = some z := by
  rw [spG_mem]
  constructor
  · rintro ⟨k, row, e, q, t⟩
    have : r = k := by omega
    subst this
    exact cellAt_of q t
  · intro h
    obtain ⟨row, q, t⟩ := cellAt_some h
    exact ⟨r, row, by omega, q, t⟩
theorem mem_names {g : Grid} {z : Str} : z ∈ names g ↔ ∃ r c, cellAt g r c = some z := by
  rw [← spG_fst g 0]
  constructor
  · intro h
    obtain ⟨⟨y, r, c⟩, hm, rfl⟩ := List.mem_map.mp h
    exact ⟨r, c, spG_cell.mp hm⟩
  · rintro ⟨r, c, h⟩
    exact List.mem_map.mpr ⟨_, spG_cell.mpr h, rfl⟩
theorem nodup_fst {α β : Type} : ∀ {l : List (α × β)}, (l.map (·.1)).Nodup → ∀ {a : α} {b b' : β}, (a, b) ∈ l → (a, b') ∈ l → b = b'
  | [], _, _, _, _, h, _ => by cases h
  | x :: l, nd, a, b, b', h, k => by
    obtain ⟨h1, h2⟩ := List.nodup_cons.mp nd
    rcases List.mem_cons.mp h with e | h <;> rcases List.mem_cons.mp k with e' | k
    · rw [← e] at e'
      exact (Prod.mk.inj e').2.symm
    · exact absurd (List.mem_map.mpr ⟨_, k, by rw [← e]⟩) h1
    · exact absurd (List.mem_map.mpr ⟨_, h, by rw [← e']⟩) h1
    · exact nodup_fst h2 h k
theorem cell_inj {g : Grid} (nd : (names g).Nodup) {z : Str} {r c r' c' : Nat} (h : cellAt g r c = some z) (k : cellAt g r' c' = some z) : r = r' ∧ c = c' := by
  have := nodup_fst (l := spG 0 g) (by rw [spG_fst]; exact nd) (spG_cell.mpr h) (spG_cell.mpr k)
  exact Prod.mk.inj this
theorem Good.cell {g : Grid} {wd : Nat} (G : Good g wd) {r c : Nat} {z : Str} (h : cellAt g r c = some z) : r < g.length ∧ c < wd := by
  obtain ⟨row, h1, h2⟩ := cellAt_some h
  obtain ⟨a, e⟩ := List.getElem?_eq_some_iff.mp h1
  obtain ⟨b, _⟩ := List.getElem?_eq_some_iff.mp h2
  have := G.rows row (List.mem_of_getElem? h1)
  exact ⟨a, by omega⟩
theorem Good.len {g : Grid} {wd : Nat} (G : Good g wd) : (names g).length ≤ 36 := by
  have h : ∀ l : Grid, (∀ r ∈ l, r.length = wd) → (names l).length ≤ l.length * wd := by
    intro l
    induction l with
    | nil => intro _; simp [names]
    | cons r l ih =>
      intro h
      rw [names_cons, List.length_append, List.length_cons]
      have h1 : (rnames r).length ≤ wd := by
        have := List.length_filterMap_le id r
        have := h r List.mem_cons_self
        unfold rnames
        omega
      have h2 := ih fun r hr => h r (List.mem_cons_of_mem _ hr)
      rw [Nat.succ_mul]
      omega
  have h1 := h g G.rows
  have h2 : g.length * wd ≤ 6 * 6 := Nat.mul_le_mul G.h6 G.w6
  omega
end Wl

namespace Wl
open PySem PySem.Spec PyProof.Rows L2
section
variable {P : Program} {w : World} {K : PySem.W.Frag} {mg : Str → Option Value} {base : Heap} {f : Addr} {fd : FuncData}
def spLand : Sp := fun vs H Q _ => ∃ (a : Addr) (m : Int), vs = [.ref a, .int m] ∧ PurseAt H a ∧ 1 ≤ m ∧ m ≤ 6 ∧
  ∀ (L : Addr) (g : Grid) (wd : Nat) (H' : Hp), Good g wd → (g.length : Int) ≤ m → (wd : Int) ≤ m → GridAt H' L g → PurseAt H' a → SameX a H H' → Q (.ref L) H'
abbrev nLand : List Str := ["_law_purse_here", "_law_topmost", "_law_high", "_law_wide", "_law_names_here", "_law_lots", "_law_row_here", "_law_parts", "_law_column", "_law_lake", "_law_label"]
theorem scLand : FnScope nLand ["_law_purse_here", "_law_topmost"] (defScope sLand) :=
  ⟨rfl, rfl, rfl, by decide +kernel, rfl, by decide +kernel, by decide +kernel⟩
/-- what holds of the heap while the land is laid: the rows laid so far, the parts of this one -/
structure Laying (H0 H : Hp) (a tA lA : Addr) (g : Grid) (wd : Nat) (ps : Row) : Prop where
  purse : PurseAt H a
  same : SameX a H0 H
  towns : H tA = some (.lst ((names g ++ rnames ps).map V.str))
  laid : ∃ as, H lA = some (.lst (as.map V.ref)) ∧ RowsAt H as g
  rows : ∀ r ∈ g, r.length = wd
  nd : (names g ++ rnames ps).Nodup
  wds : ∀ z ∈ names g ++ rnames ps, IsWd z
theorem len_names {g : Grid} {wd : Nat} (h : ∀ r ∈ g, r.length = wd) : (names g).length ≤ g.length * wd := by
  induction g with
  | nil => simp [names]
  | cons r l ih =>
    rw [names_cons, List.length_append, List.length_cons]
    have h1 : (rnames r).length ≤ wd := by
      have := List.length_filterMap_le id r
      have := h r List.mem_cons_self
      unfold rnames
      omega
    have h2 := ih fun r hr => h r (List.mem_cons_of_mem _ hr)
    rw [Nat.succ_mul]
    omega
theorem lake_reads {σ : L2.St} {H : Hp} {Q : VK} {a tA : Addr} {ws : List Str} {x y hi wd : Int} (e0 : σ[0]? = some (some (.ref a))) (e4 : σ[4]? = some (some (.ref tA))) (e6 : σ[6]? = some (some (.int x))) (e8 : σ[8]? = some (some (.int y)))
    (e2 : σ[2]? = some (some (.int hi))) (e3 : σ[3]? = some (some (.int wd))) (hA : PurseAt H a) (ht : H tA = some (.lst (ws.map V.str))) (nta : tA ≠ a) (hws : ∀ z ∈ ws, IsWd z)
    (q : ∀ (b : Bool) (H' : Hp), PurseAt H' a → SameX a H H' → (b = true → ws ≠ [] ∨ x + y + 2 < hi + wd) → Q (.bl b) H') :
    tAndV (tOp rEq (tCall spPick [] E0 (tCons (tVar 0) (tCons (tC (.int 6)) tNil))) (tC (.int 5)))
      (tOrV (tOp (rNeD K) (tVar 4) (tLst tNil)) (tOp (rI0 fun i j => .bl (decide (i < j))) (tOp (rI0 fun i j => .int (i + j)) (tOp (rI0 fun i j => .int (i + j)) (tVar 6) (tVar 8)) (tC (.int 2))) (tOp (rI0 fun i j => .int (i + j)) (tVar 2) (tVar 3)))) σ H Q := by
  refine ⟨_, e0, a, 6, rfl, hA, by decide, by decide, fun r H1 r0 r1 hA1 s1 n1 => ⟨rfl, _, rfl, ite_b (fun e => ?_) (fun e => ?_)⟩⟩
  · refine ⟨_, e4, lz, fun p hp => ⟨.list (ws.map .str), .list [], .lst (.inl (.inl ((same_new hp) _ _ (s1 _ _ nta ht)))) (dp_strs ws), .lst (.inl (.inl upd_same)) .nil, shaped_list (lay_strs hws) (by rw [depth_strs]; decide), rfl, _, rfl, ite_b (fun e => ?_) (fun e => ?_)⟩⟩
    · refine q true _ (hA1.same (same_new hp)) (s1.trans (sx (same_new hp))) fun _ => .inl fun z => ?_
      subst z
      cases e
    · refine ⟨_, e6, _, e8, _, _, rfl, rfl, _, _, rfl, rfl, _, e2, _, e3, _, _, rfl, rfl, _, _, rfl, rfl, ?_⟩
      exact q _ _ (hA1.same (same_new hp)) (s1.trans (sx (same_new hp))) fun z => .inr (of_decide_eq_true z)
  · exact q false _ hA1 s1 fun z => by cases z
theorem Laying.go {H0 H H' : Hp} {a tA lA : Addr} {g : Grid} {wd : Nat} {ps : Row} (h : Laying H0 H a tA lA g wd ps) (nt : tA ≠ a) (nl : lA ≠ a) (hp : PurseAt H' a) (s : SameX a H H') : Laying H0 H' a tA lA g wd ps := by
  obtain ⟨as, hl, hR⟩ := h.laid
  obtain ⟨ys, ha⟩ := h.purse.lst
  exact ⟨hp, h.same.trans s, s _ _ nt h.towns, ⟨as, s _ _ nl hl, hR.keep (tk_x s ha)⟩, h.rows, h.nd, h.wds⟩
theorem ok_land (F : Fun K "_law_land" "_law_land" sLand f fd) (B : Bi mg) (hp : Has P w K mg base "_law_pick" 1 ["_law_purse_here", "_law_count"] spPick) (hF : Has P w K mg base "_law_fresh" 3 ["_law_purse_here", "_law_used"] spFresh) :
    FnOk P w K mg base CX0 4 f fd ["_law_purse_here", "_law_topmost"] spLand := by
  refine F.ok scLand (fun vs H Q E h => ?_) (fun cdv A outer s H vs Q E hr h => ?_)
  · obtain ⟨a, m, rfl, _⟩ := h
    rfl
  · obtain ⟨a, m, rfl, hA, m1, m6, q⟩ := h
    refine ⟨_, pss_cons (ps_par3 (i := 2) (j := 3) (l := 4) (by rfl) scLand.nd rfl rfl rfl (by decide) (by decide) (by decide) rfl rfl rfl (pa_cons (pe_op op_add pe_int (pe_h hp hr (pa_cons (pv 0) (pa_cons (pv 1) pa_nil)))) (pa_cons (pe_op op_add pe_int (pe_h hp hr (pa_cons (pv 0) (pa_cons (pv 1) pa_nil)))) (pa_cons (pe_lst pa_nil) pa_nil))) (by rfl))
      (pss_cons (ps_set (i := 5) scLand.nd rfl (.inl rfl) (pe_lst pa_nil))
      (pss_cons (ps_for PassesOwn.never rfl (pi_range1 rfl B.range (pa_cons (pv 2) pa_nil)) (pg_name (i := 6) scLand.nd rfl (.inl rfl))
        (pss_cons (ps_set (i := 7) scLand.nd rfl (.inl rfl) (pe_lst pa_nil))
        (pss_cons (ps_for PassesOwn.never rfl (pi_range1 rfl B.range (pa_cons (pv 3) pa_nil)) (pg_name (i := 8) scLand.nd rfl (.inl rfl))
          (pss_cons (ps_set (i := 9) scLand.nd rfl (.inl rfl) (pe_and (pe_cmpR op_eq (pe_h hp hr (pa_cons (pv 0) (pa_cons pe_int pa_nil))) pe_int (nomark _)) (pe_one (pe_or (pe_cmpR (op_neD hr.units) (pv 4) (pe_lst pa_nil) (nomark _)) (pe_one (pe_cmpR op_lt (pe_op op_add (pe_op op_add (pv 6) (pv 8)) pe_int) (pe_op op_add (pv 2) (pv 3)) (nomark _)))))))
          (pss_cons (ps_set (i := 10) scLand.nd rfl (.inl rfl) (pe_h hF hr (pa_cons (pv 0) (pa_cons (pv 4) pa_nil))))
          (pss_cons (ps_if (pt_truth (pv 9) (by intro _; rfl)) (pss_one (ps_set (i := 10) scLand.nd rfl (.inl rfl) pe_non)) (pss_one (ps_expr (pe_bm PySem.F.plainAttrs_list PySem.F.slot_list_append PySem.F.type_list_append mt_append (pv 4) (pa_cons (pv 10) pa_nil)))))
          (pss_one (ps_expr (pe_bm PySem.F.plainAttrs_list PySem.F.slot_list_append PySem.F.type_list_append mt_append (pv 7) (pa_cons (pv 10) pa_nil))))))))
        (pss_one (ps_expr (pe_bm PySem.F.plainAttrs_list PySem.F.slot_list_append PySem.F.type_list_append mt_append (pv 5) (pa_cons (pe_callTy call_tuple_of (by rfl) B.tuple (by decide +kernel) (pa_cons (pv 7) pa_nil)) pa_nil)))))))
      (pss_one (ps_ret (pe_callTy call_tuple_of (by rfl) B.tuple (by decide +kernel) (pa_cons (pv 5) pa_nil)))))), ?_⟩
    refine ⟨_, rfl, _, rfl, a, m, rfl, hA, by omega, by omega, fun r1 H1 r10 r11 hA1 s1 n1 => ⟨_, _, rfl, rfl, ?_⟩⟩
    refine ⟨_, rfl, _, rfl, a, m, rfl, hA1, by omega, by omega, fun r2 H2 r20 r21 hA2 s2 n2 => ⟨_, _, rfl, rfl, ?_⟩⟩
    refine ⟨lz, fun tA htA => ⟨_, _, _, rfl, lz, fun lA hlA => ?_⟩⟩
    have nta : tA ≠ a := hA2.ne htA
    have nla : lA ≠ a := (hA2.same (same_new htA)).ne hlA
    have nlt : lA ≠ tA := (ne_of_none upd_same hlA).symm
    have htA0 : H tA = none := SameX.free (s1.trans s2) nta htA
    have hlA0 : H lA = none := SameX.free ((s1.trans s2).trans (sx (same_new htA))) nla hlA
    obtain ⟨hi, ehi⟩ : ∃ hi : Nat, 1 + r1 = (hi : Int) := ⟨(1 + r1).toNat, by omega⟩
    obtain ⟨wd, ewd⟩ : ∃ wd : Nat, 1 + r2 = (wd : Int) := ⟨(1 + r2).toNat, by omega⟩
    have n1 : (1 + r1).toNat = hi := by omega
    have n2 : (1 + r2).toNat = wd := by omega
    have hhi : 1 ≤ hi ∧ hi ≤ 6 := by omega
    have hwd : 1 ≤ wd ∧ wd ≤ 6 := by omega
    have L0 : Laying H (upd (upd H2 tA (.lst [])) lA (.lst [])) a tA lA [] wd [] := by
      refine ⟨(hA2.same (same_new htA)).same (same_new hlA), sameX_mut (sameX_mut (s1.trans s2) htA0) hlA0, ?_, ⟨[], upd_same, .nil⟩, (fun r hr => nomatch hr), List.nodup_nil, (fun z hz => nomatch hz)⟩
      rw [upd_ne nlt.symm, upd_same]
      rfl
    generalize upd (upd H2 tA (.lst [])) lA (.lst []) = H3 at L0
    refine ⟨_, rfl, 1 + r1, rfl, by omega, by omega, ?_⟩
    rw [n1]
    refine for_range (lo := 0) (n := hi) (fun i σ H' => ∃ (g : Grid) (y6 y7 y8 y9 y10 : Option V), σ = [some (.ref a), some (.int m), some (.int (1 + r1)), some (.int (1 + r2)), some (.ref tA), some (.ref lA), y6, y7, y8, y9, y10] ∧ g.length = i ∧ Laying H H' a tA lA g wd [] ∧ (i = hi → names g ≠ []))
      ⟨[], none, none, none, none, none, rfl, rfl, L0, fun e => by omega⟩ ?_ ?_
    · rintro i σ H4 hi4 ⟨g, y6, y7, y8, y9, y10, rfl, hgl, L4, _⟩
      refine ⟨lz, fun pA hpA => ?_⟩
      have npa : pA ≠ a := L4.purse.ne hpA
      have npt : pA ≠ tA := (ne_of_none L4.towns hpA).symm
      obtain ⟨as4, hl4, hR4⟩ := L4.laid
      have npl : pA ≠ lA := (ne_of_none hl4 hpA).symm
      have L5 := L4.go nta nla (L4.purse.same (same_new (o := .lst []) hpA)) (sx (same_new hpA))
      refine ⟨_, rfl, 1 + r2, rfl, by omega, by omega, ?_⟩
      rw [n2]
      refine for_range (lo := 0) (n := wd) (fun j σ H' => ∃ (ps : Row) (y8 y9 y10 : Option V), σ = [some (.ref a), some (.int m), some (.int (1 + r1)), some (.int (1 + r2)), some (.ref tA), some (.ref lA), some (.int (0 + i)), some (.ref pA), y8, y9, y10] ∧ ps.length = j ∧ Laying H H' a tA lA g wd ps ∧ H' pA = some (.lst (ps.map oV)) ∧ (i + 1 = hi → j = wd → names g ++ rnames ps ≠ []))
        ⟨[], _, _, _, rfl, rfl, L5, upd_same, fun _ e => by omega⟩ ?_ ?_
      · rintro j σ H6 hj ⟨ps, z8, z9, z10, rfl, hpl, L6, hp6, _⟩
        refine lake_reads (a := a) (tA := tA) (x := 0 + i) (y := 0 + j) (hi := 1 + r1) (wd := 1 + r2) rfl rfl rfl rfl rfl rfl L6.purse L6.towns nta L6.wds fun b H7 hA7 s7 hb => ?_
        have L7 := L6.go nta nla hA7 s7
        have hp7 := s7 _ _ npa hp6
        have hlen : (names g ++ rnames ps).length ≤ 35 := by
          have h1 := len_names L6.rows
          have h2 : (rnames ps).length ≤ ps.length := List.length_filterMap_le id ps
          rw [List.length_append]
          have h3 : g.length * wd ≤ 5 * wd := Nat.mul_le_mul_right _ (by omega)
          omega
        refine ⟨_, rfl, _, rfl, a, tA, names g ++ rnames ps, rfl, L7.purse, L7.towns, nta, hlen, fun z H8 hz hzn hA8 s8 => ?_⟩
        have L8 := L7.go nta nla hA8 s8
        have hp8 := s8 _ _ npa hp7
        have hlt : ((names g ++ rnames ps).map V.str).length < sizeLine := by
          rw [List.length_map]
          exact small1000 (by omega)
        have hpl2 : (ps.map oV).length < sizeLine := by
          rw [List.length_map]
          exact small1000 (by omega)
        refine ⟨_, rfl, b, rfl, ite_b (fun e => ?_) (fun e => ?_)⟩
        · -- a lake
          refine ⟨_, rfl, .inl ⟨rfl, _, .inl (.inl hp8)⟩, _, rfl, pA, _, _, rfl, rfl, hp8, hpl2, ?_⟩
          obtain ⟨as8, hl8, hR8⟩ := L8.laid
          refine ⟨ps ++ [none], _, _, _, rfl, by simp [hpl], ⟨?_, ?_, ?_, ⟨as8, ?_, hR8.keep (tk_upd hp8)⟩, L8.rows, ?_, ?_⟩, ?_, ?_⟩
          · obtain ⟨x0, x1, x2, hx, hx1⟩ := L8.purse
            exact ⟨x0, x1, x2, by rw [upd_ne npa.symm]; exact hx, hx1⟩
          · exact sameX_mut L8.same (SameX.free L4.same npa hpA)
          · rw [upd_ne npt.symm, rnames_snoc]
            simpa using L8.towns
          · rw [upd_ne npl.symm]
            exact hl8
          · rw [rnames_snoc]
            simpa using L8.nd
          · rw [rnames_snoc]
            simpa using L8.wds
          · rw [upd_same, List.map_append]
            rfl
          · intro e1 e2
            rw [rnames_snoc]
            rcases hb e with h | h
            · simpa using h
            · omega
        · -- a village
          refine ⟨_, rfl, .inl ⟨rfl, _, .inl (.inl L8.towns)⟩, _, rfl, tA, _, _, rfl, rfl, L8.towns, hlt, ?_⟩
          have hp9 : upd H8 tA (.lst ((names g ++ rnames ps).map V.str ++ [.str z])) pA = some (.lst (ps.map oV)) := by
            rw [upd_ne npt]
            exact hp8
          refine ⟨_, rfl, .inl ⟨rfl, _, .inl (.inl hp9)⟩, _, rfl, pA, _, _, rfl, rfl, hp9, hpl2, ?_⟩
          obtain ⟨as8, hl8, hR8⟩ := L8.laid
          have en : names g ++ rnames (ps ++ [some z]) = (names g ++ rnames ps) ++ [z] := by
            rw [rnames_snoc, List.append_assoc]
            rfl
          refine ⟨ps ++ [some z], _, _, _, rfl, by simp [hpl], ⟨?_, ?_, ?_, ⟨as8, ?_, (hR8.keep (tk_upd L8.towns)).keep (tk_upd hp9)⟩, L8.rows, ?_, ?_⟩, ?_, ?_⟩
          · obtain ⟨x0, x1, x2, hx, hx1⟩ := L8.purse
            exact ⟨x0, x1, x2, by rw [upd_ne npa.symm, upd_ne nta.symm]; exact hx, hx1⟩
          · exact sameX_mut (sameX_mut L8.same htA0) (SameX.free L4.same npa hpA)
          · rw [upd_ne npt.symm, upd_same, en]
            simp
          · rw [upd_ne npl.symm, upd_ne nlt]
            exact hl8
          · rw [en, List.nodup_append]
            refine ⟨L8.nd, by simp, fun x hx y hy e => ?_⟩
            rw [List.mem_singleton.mp hy] at e
            rw [e] at hx
            exact hzn hx
          · rw [en]
            intro y hy
            rcases List.mem_append.mp hy with hy | hy
            · exact L8.wds y hy
            · rw [List.mem_singleton.mp hy]
              exact hz
          · rw [upd_same, List.map_append]
            rfl
          · intro _ _
            rw [en]
            simp
      · rintro σ H6 ⟨ps, z8, z9, z10, rfl, hpl, L6, hp6, hne⟩
        obtain ⟨as6, hl6, hR6⟩ := L6.laid
        refine ⟨_, rfl, .inl ⟨rfl, _, .inl (.inl hl6)⟩, _, rfl, pA, _, rfl, .inl ⟨.inl (.inl hp6), fun t ht => ?_⟩⟩
        have nlt6 : lA ≠ t := ne_of_none hl6 ht
        refine ⟨lA, _, _, rfl, rfl, (same_new ht) _ _ hl6, ?_, ?_⟩
        · rw [List.length_map, hR6.length]
          exact small1000 (by omega)
        · refine ⟨g ++ [ps], _, _, _, _, _, rfl, by simp [hgl], ⟨?_, ?_, ?_, ⟨as6 ++ [t], ?_, ?_⟩, ?_, ?_, ?_⟩, ?_⟩
          · obtain ⟨x0, x1, x2, hx, hx1⟩ := L6.purse.same (same_new (o := .tup (ps.map oV)) ht)
            exact ⟨x0, x1, x2, by rw [upd_ne nla.symm]; exact hx, hx1⟩
          · exact sameX_mut (L6.same.trans (sx (same_new ht))) hlA0
          · rw [upd_ne nlt.symm, (same_new ht) _ _ L6.towns, names_snoc]
            simp [rnames]
          · rw [upd_same, List.map_append]
            rfl
          · refine Each.append ((hR6.keep (tk_new ht)).keep (tk_upd ((same_new ht) _ _ hl6))) (.cons ?_ .nil)
            rw [upd_ne nlt6.symm, upd_same]
          · intro r hr
            rcases List.mem_append.mp hr with hr | hr
            · exact L6.rows r hr
            · rw [List.mem_singleton.mp hr]
              exact hpl
          · rw [names_snoc]
            simpa [rnames] using L6.nd
          · rw [names_snoc]
            simpa [rnames] using L6.wds
          · intro e
            rw [names_snoc]
            exact hne e rfl
    · rintro σ H4 ⟨g, y6, y7, y8, y9, y10, rfl, hgl, L4, hne⟩
      obtain ⟨as4, hl4, hR4⟩ := L4.laid
      refine ⟨_, rfl, lA, _, rfl, .inl ⟨.inl (.inl hl4), fun t ht => ?_⟩⟩
      refine q t g wd _ ⟨by omega, by omega, hwd.1, hwd.2, L4.rows, ?_, ?_, hne rfl⟩ (by omega) (by omega) ⟨as4, upd_same, hR4.keep (tk_new ht)⟩ (L4.purse.same (same_new ht)) (L4.same.trans (sx (same_new ht)))
      · simpa [rnames] using L4.nd
      · simpa [rnames] using L4.wds
end
end Wl





namespace Wl
open PySem PySem.Spec PyProof.Rows L2
abbrev sIsWord : Stmt := topS 19
abbrev sAreRows : Stmt := topS 25
abbrev sWrong : Stmt := topS 26
abbrev sSpotsIn : Stmt := topS 27
abbrev sSpots : Stmt := topS 28
structure Gk (mg : Str → Option Value) : Prop where
  letters : ∃ t, mg "LETTERS" = some (.str "abcdefghijklmnopqrstuvwxyz" t)
  longest : ∃ t, mg "LONGEST_WORD" = some (.int 8 t)
  mrows : ∃ t, mg "MOST_ROWS" = some (.int 6 t)
  mcols : ∃ t, mg "MOST_COLUMNS" = some (.int 6 t)
section
variable {P : Program} {w : World} {K : PySem.W.Frag} {mg : Str → Option Value} {base : Heap} {f : Addr} {fd : FuncData}

/-! ### is_word of a text -/
def spIsWord : Sp := fun vs H Q _ => ∃ (z : Str), vs = [.str z] ∧ z.length ≤ 1000 ∧ ∀ (H' : Hp), Same H H' → Q (.bl (wdB z)) H'
abbrev nIsWord : List Str := ["thing", "letter"]
theorem scIsWord : FnScope nIsWord ["thing"] (defScope sIsWord) := ⟨rfl, rfl, rfl, by decide +kernel, rfl, by decide +kernel, by decide +kernel⟩
def letB (c : Nat) : Bool := decide (97 ≤ c) && decide (c ≤ 122)
def letV : V → V
  | .str s => .bl (s.cps.toList.all letB)
  | v => v
theorem letB_mem (c : Nat) : decide (c ∈ ("abcdefghijklmnopqrstuvwxyz" : Str).cps.toList) = letB c := by
  rw [letters_eq]
  unfold letB
  by_cases h : c ∈ List.range' 97 26
  · rw [decide_eq_true h]
    rw [List.mem_range'_1] at h
    simp
    omega
  · rw [decide_eq_false h]
    rw [List.mem_range'_1] at h
    symm
    rw [Bool.and_eq_false_iff, decide_eq_false_iff_not, decide_eq_false_iff_not]
    omega
theorem ok_isword (F : Fun K "is_word" "is_word" sIsWord f fd) (B : Bi mg) (G : Gk mg) : FnOk P w K mg base CX0 1 f fd ["thing"] spIsWord := by
  obtain ⟨t1, g1⟩ := G.letters
  obtain ⟨t2, g2⟩ := G.longest
  refine F.ok scIsWord (fun vs H Q E h => ?_) (fun cdv A outer s H vs Q E hr h => ?_)
  · obtain ⟨z, rfl, _⟩ := h
    rfl
  · obtain ⟨z, rfl, hz, q⟩ := h
    refine ⟨_, pss_cons (ps_if (PW.pt (pw_or (pt_not (pt_val (pe_callB call_isi (by rfl) B.isi (by decide +kernel) (pa_cons (pv 0) (pa_cons (pe_bltn (v := .ty "str") (by rfl) B.str (by decide +kernel) rfl) pa_nil)))))
        (pw_or1 (pt_not (pt_chain op_le op_le pe_int (pe_callB call_len_str (by rfl) B.len PySem.boot_len (pa_cons (pv 0) pa_nil)) (pe_glob (v := .int 8) rfl g2 ⟨_, rfl⟩)))))) (pss_one (ps_ret pe_bl)) pss_nil)
      (pss_one (ps_ret (pe_callB (cr_all rfl) (by rfl) B.all (by decide +kernel) (pa_cons (pe_lc (own := [("letter", 1)]) (g := gName 1) (tt := tYes) rfl scIsWord.nd (pi_str (pv 0)) (blkOk_by (N := nIsWord) (sc := defScope sIsWord) (by decide +kernel))
        (fun _ _ _ _ _ => pg_name (i := 1) scIsWord.nd rfl (.inl rfl)) (fun _ _ _ _ _ => pts_nil) (fun _ _ _ _ _ => pe_cmpR op_in_sign (pv 1) (pe_glob (v := .str "abcdefghijklmnopqrstuvwxyz") rfl g1 ⟨_, rfl⟩) rfl)) pa_nil)))), ?_⟩
    refine ⟨_, rfl, _, _, _, _, _, rfl, .ty "str", .base (.str z), kit_ty (r := true) (by decide +kernel), true, rfl, ?_⟩
    refine iteF ⟨_, rfl, _, rfl, lzl hz, _, _, rfl, rfl, _, rfl, ite_b (fun e1 => ?_) (fun e1 => ?_)⟩
    · refine ⟨_, _, rfl, rfl, _, rfl, not_b (fun e2 => ?_) (fun e2 => ?_)⟩
      · have e2' : ¬ ((z.length : Int) ≤ 8) := of_decide_eq_false e2
        have : wdB z = false := by
          unfold wdB
          rw [decide_eq_false (show ¬ z.length ≤ 8 by omega)]
          simp
        rw [← this]
        exact q H (Same.refl H)
      · have h1 : 1 ≤ z.length := by
          have := of_decide_eq_true e1
          omega
        have h8 : z.length ≤ 8 := by
          have := of_decide_eq_true e2
          omega
        refine ⟨_, rfl, _, rfl, fun D hD => lc_map walk_signs hD (fun _ => true) letV (fun _ _ => trivial) (fun _ => rfl) (fun x H' _ _ Q' q' => q') ?_ ?_ ?_⟩
        · intro x H' hx _ _ Q' q'
          obtain ⟨c, hc, rfl⟩ := List.mem_map.mp hx
          refine ⟨_, rfl, c, _, rfl, rfl, ?_⟩
          rw [letB_mem]
          have : letV (.str (sign c)) = .bl (letB c) := by
            show V.bl ([c].all letB) = _
            simp
          rw [this] at q'
          exact q'
        · unfold signsOf
          rw [List.length_map, Array.length_toList]
          exact small1000 (by have : z.length = z.cps.size := rfl; omega)
        · intro H' s' hD'
          have e0 : ((signsOf z).filter fun _ => true).map letV = (z.cps.toList.map letB).map V.bl := by
            rw [List.filter_eq_self.mpr fun _ _ => rfl]
            unfold signsOf
            rw [List.map_map, List.map_map]
            refine List.map_congr_left fun c _ => ?_
            show V.bl ([c].all letB) = _
            simp
          refine ⟨D, z.cps.toList.map letB, rfl, .inl (.inl (by rw [hD', e0])), ?_⟩
          have : (z.cps.toList.map letB).all id = wdB z := by
            unfold wdB
            rw [decide_eq_true h1, decide_eq_true h8, List.all_map]
            rfl
          rw [this]
          exact q H' s'
    · refine ⟨false, rfl, iteT ?_⟩
      have : wdB z = false := by
        have e1' : ¬ ((1 : Int) ≤ z.length) := of_decide_eq_false e1
        unfold wdB
        rw [decide_eq_false (show ¬ 1 ≤ z.length by omega)]
        simp
      rw [← this]
      exact q H (Same.refl H)
end
end Wl





namespace Wl
open PySem PySem.Spec PyProof.Rows L2
section
variable {P : Program} {w : World} {K : PySem.W.Frag} {mg : Str → Option Value} {base : Heap} {f : Addr} {fd : FuncData}

/-! ### are_rows of a good grid -/
def spAreRows : Sp := fun vs H Q _ => ∃ (L : Addr) (g : Grid) (wd : Nat), vs = [.ref L] ∧ GridAt H L g ∧ Good g wd ∧ Q (.bl true) H
abbrev nAreRows : List Str := ["thing", "row"]
theorem scAreRows : FnScope nAreRows ["thing"] (defScope sAreRows) := ⟨rfl, rfl, rfl, by decide +kernel, rfl, by decide +kernel, by decide +kernel⟩
theorem ok_arerows (F : Fun K "are_rows" "are_rows" sAreRows f fd) (B : Bi mg) (G : Gk mg) : FnOk P w K mg base CX0 1 f fd ["thing"] spAreRows := by
  obtain ⟨t1, g1⟩ := G.mrows
  obtain ⟨t2, g2⟩ := G.mcols
  refine F.ok scAreRows (fun vs H Q E h => ?_) (fun cdv A outer s H vs Q E hr h => ?_)
  · obtain ⟨L, g, wd, rfl, _⟩ := h
    rfl
  · obtain ⟨L, g, wd, rfl, ⟨as, hL, hR⟩, gd, q⟩ := h
    refine ⟨_, pss_cons (ps_if (PW.pt (pw_or (pt_not (pt_val (pe_callB call_isi (by rfl) B.isi (by decide +kernel) (pa_cons (pv 0) (pa_cons (pe_bltn (v := .ty "tuple") (by rfl) B.tuple (by decide +kernel) rfl) pa_nil)))))
        (pw_or1 (pt_not (pt_chain op_le op_le pe_int (pe_callB call_len_seq (by rfl) B.len PySem.boot_len (pa_cons (pv 0) pa_nil)) (pe_glob (v := .int 6) rfl g1 ⟨_, rfl⟩)))))) (pss_one (ps_ret pe_bl)) pss_nil)
      (pss_cons (ps_for PassesOwn.never rfl (pi_tup (pv 0)) (pg_name (i := 1) scAreRows.nd rfl (.inl rfl))
        (pss_one (ps_if (PW.pt (pw_or (pt_not (pt_val (pe_callB call_isi (by rfl) B.isi (by decide +kernel) (pa_cons (pv 1) (pa_cons (pe_bltn (v := .ty "tuple") (by rfl) B.tuple (by decide +kernel) rfl) pa_nil)))))
          (pw_or (pt_not (pt_chain op_le op_le pe_int (pe_callB call_len_seq (by rfl) B.len PySem.boot_len (pa_cons (pv 1) pa_nil)) (pe_glob (v := .int 6) rfl g2 ⟨_, rfl⟩)))
          (pw_or1 (pt_cmpR op_ne (pe_callB call_len_seq (by rfl) B.len PySem.boot_len (pa_cons (pv 1) pa_nil)) (pe_callB call_len_seq (by rfl) B.len PySem.boot_len (pa_cons (pe_ix ix_tup (pv 0) pe_int (fun _ _ => rfl)) pa_nil)) (nomark _)))))) (pss_one (ps_ret pe_bl)) pss_nil)))
      (pss_one (ps_ret pe_bl))), ?_⟩
    have hlen : (as.map V.ref).length = g.length := by rw [List.length_map, hR.length]
    have hST : SqT K H L (as.map V.ref) := .inl (.inl hL)
    have h16 : 1 ≤ g.length ∧ g.length ≤ 6 := ⟨gd.h1, gd.h6⟩
    have w16 : 1 ≤ wd ∧ wd ≤ 6 := ⟨gd.w1, gd.w6⟩
    refine ⟨_, rfl, _, _, _, _, _, rfl, .ty "tuple", .base (.tup hL), kit_ty (r := true) (by decide +kernel), true, rfl, ?_⟩
    refine iteF ⟨_, rfl, L, _, rfl, .inr hST, _, _, rfl, rfl, _, rfl, ite_b (fun e1 => ?_) (fun e1 => ?_)⟩
    · refine ⟨_, _, rfl, rfl, _, rfl, not_b (fun e2 => ?_) (fun e2 => ?_)⟩
      · have := of_decide_eq_false e2
        omega
      · refine ⟨_, rfl, L, rfl, ⟨_, hST⟩, for_tup (K := K) (a := L) (xs := as.map V.ref) (fun i σ H' => (∃ y, σ = [some (.ref L), y]) ∧ H' = H) ⟨⟨_, rfl⟩, rfl⟩ (fun i σ H' _ h => by rw [h.2]; exact hST) ?_ ?_⟩
        · rintro i x σ H' hx ⟨⟨y, rfl⟩, rfl⟩
          rw [List.getElem?_map] at hx
          obtain ⟨p, hp, rfl⟩ := Option.map_eq_some_iff.mp hx
          obtain ⟨row, hrow, hH⟩ := hR.get hp
          have hrl : (row.map oV).length = wd := by rw [List.length_map]; exact gd.rows row (List.mem_of_getElem? hrow)
          have hrT : SqT K H' p (row.map oV) := .inl (.inl hH)
          obtain ⟨p0, hp0⟩ : ∃ p0, as[0]? = some p0 := by
            cases as with
            | nil =>
              have := hR.length
              simp at this
              omega
            | cons a0 r => exact ⟨a0, rfl⟩
          obtain ⟨row0, hrow0, hH0⟩ := hR.get hp0
          have hr0l : (row0.map oV).length = wd := by rw [List.length_map]; exact gd.rows row0 (List.mem_of_getElem? hrow0)
          refine ⟨_, rfl, _, _, _, _, _, rfl, .ty "tuple", .base (.tup hH), kit_ty (r := true) (by decide +kernel), true, rfl, ?_⟩
          refine iteF ⟨_, rfl, p, _, rfl, .inr hrT, _, _, rfl, rfl, _, rfl, ite_b (fun e3 => ?_) (fun e3 => ?_)⟩
          · refine ⟨_, _, rfl, rfl, _, rfl, not_b (fun e4 => ?_) (fun e4 => ?_)⟩
            · have := of_decide_eq_false e4
              omega
            · refine ⟨_, rfl, p, _, rfl, .inr hrT, _, rfl, L, _, 0, .ref p0, rfl, rfl, hST, atI_nat (j := 0) (by rw [List.getElem?_map, hp0]; rfl), p0, _, rfl, .inr (.inl (.inl hH0)), rfl, _, rfl, ?_⟩
              refine iteNS (by rw [hrl, hr0l]) ?_
              exact ⟨⟨_, rfl⟩, rfl⟩
          · have := of_decide_eq_false e3
            omega
        · rintro σ H' ⟨⟨y, rfl⟩, rfl⟩
          exact q
    · have := of_decide_eq_false e1
      omega
end
end Wl





/-! A dict comprehension of two clauses: {k: v for a in .. if .. for b in .. if ..}. -/
namespace Wl
open PySem PySem.Spec PyProof.Rows L2
/-- the whole of it -/
abbrev two (kx vx ta ia tb ib : Expr) (fa fb : List Expr) (sc : Scope) (pos : Pos) : Expr := .DictComp kx vx [⟨ta, ia, fa, 0⟩, ⟨tb, ib, fb, 0⟩] sc pos
/-- a clause's tests -/
abbrev testsOf (fs : List Expr) (env : Env) : Sem Bool :=
  forIn fs true fun c r => if r = true then (do let y ← isTrue c env (eval c env); pure (ForInStep.yield y)) else pure (ForInStep.yield r)
/-- a turn of a clause: no item is left, or one comes, is stored and tested -/
def Turned (M : Model) (A : Around) (env : Env) (tg : Expr) (it : Value) (fs : List Expr) (stop : Shared → Prop) (k : Bool → Shared → Prop) (E : Value → Shared → Prop) (s : Shared) : Prop :=
  wpAny M A (pyNext it) (fun r s1 => match r with
    | none => stop s1
    | some u => wpAny M A (letOwnedTupleGo tg it u) (fun _ s2 => wpAny M A (assign tg env u) (fun _ s3 => wpAny M A (testsOf fs env) k E s3) E s2) E s1) E s
section
variable {kx vx ta ia tb ib : Expr} {fa fb : List Expr} {sc : Scope} {pos : Pos} {it : Value} {D : Addr} {env : Env}
theorem turnA : compTurn (two kx vx ta ia tb ib fa fb sc pos) 0 it (.ref D) env = (do
    standAt ia.pos
    match ← pyNext it with
    | none => pure (.done .next)
    | some u =>
      letOwnedTupleGo ta it u
      assign ta env u
      let yes ← testsOf fa env
      if yes = true then
        let x ← eval ib env
        standAt ib.pos
        let z ← foldedSetIterable ib env x
        let _ ← runOwn (.compStart (two kx vx ta ia tb ib fa fb sc pos) 1 (← holding [z] (pyIter z)) (.ref D) env) env
      again (.compLoop (two kx vx ta ia tb ib fa fb sc pos) 0 it (.ref D) env)) := rfl
theorem turnB : compTurn (two kx vx ta ia tb ib fa fb sc pos) 1 it (.ref D) env = (do
    standAt ib.pos
    match ← pyNext it with
    | none => pure (.done .next)
    | some u =>
      letOwnedTupleGo tb it u
      assign tb env u
      let yes ← testsOf fb env
      if yes = true then
        (do
          let a ← eval kx env
          let b ← holding [a] (eval vx env)
          standAt { kx.pos with endLine := vx.pos.endLine, endCol := vx.pos.endCol }
          holding [a, b] (dictSet D a b))
      again (.compLoop (two kx vx ta ia tb ib fa fb sc pos) 1 it (.ref D) env)) := rfl
variable {prog : Program} {w : World} {A : Around} {R : Result → Shared → Prop} {s : Shared}
/-- what an error leaves behind it -/
abbrev errs (prog : Program) (w : World) (A : Around) (env : Env) (R : Result → Shared → Prop) : Value → Shared → Prop := notedBy (model prog w) A env fun e s' => R (.error e) s'
theorem loopA (plain : ∀ x, foldedSetIterable ib env x = pure x) (I : Nat → Shared → Prop)
    (turn : ∀ n s, I n s → Turned (model prog w) A env ta it fa (R (.ok .next)) (fun yes s1 => if yes = true then
        wpAny (model prog w) A (eval ib env) (fun x s2 => wpAny (model prog w) A (pyIter x) (fun j s3 => codeAny (model prog w) A (.compStart (two kx vx ta ia tb ib fa fb sc pos) 1 j (.ref D) env) (fun r s4 => (∃ f, r = .ok f) ∧ ∃ m, m < n ∧ I m s4) s3) (errs prog w A env R) s2) (errs prog w A env R) s1
      else ∃ m, m < n ∧ I m s1) (errs prog w A env R) s)
    (n : Nat) (h : I n s) : codeAny (model prog w) A (.compLoop (two kx vx ta ia tb ib fa fb sc pos) 0 it (.ref D) env) R s := by
  refine codeAny_loop rfl I (fun n s hI => wpAny_noted ?_) n h
  have key := turn n s hI
  unfold Turned at key
  show wpAny _ A (compTurn (two kx vx ta ia tb ib fa fb sc pos) 0 it (.ref D) env) _ _ s
  rw [turnA]
  refine wpAny_bind (wpAny_standAt (wpAny_bind (wpAny_mono key ?_ fun _ _ z => z)))
  rintro (_ | u) s1 k1
  · exact wpAny_pure k1
  · refine wpAny_bind (wpAny_mono k1 (fun _ s2 k2 => wpAny_bind (wpAny_mono k2 (fun _ s3 k3 => wpAny_bind (wpAny_mono k3 ?_ fun _ _ z => z)) fun _ _ z => z)) fun _ _ z => z)
    rintro (_ | _) s4 k4
    · exact wpAny_pure ⟨rfl, k4⟩
    · refine wpAny_bind (wpAny_mono k4 (fun x s5 k5 => wpAny_bind (wpAny_standAt (wpAny_bind (wpAny_of_eq (plain x) (wpAny_bind (wpAny_holding (wpAny_mono k5 (fun j s6 k6 => ?_) fun _ _ z => z))))))) fun _ _ z => z)
      refine wpAny_bind (wpAny_runOwn ?_)
      rw [Around.mark_none]
      refine codeAny_mono k6 ?_
      rintro (e | f) s7 ⟨⟨g, eg⟩, k7⟩
      · cases eg
      · first
          | exact wpAny_pure ⟨rfl, k7⟩
          | exact wpAny_bind (wpAny_pure (wpAny_pure ⟨rfl, k7⟩))
theorem loopB (I : Nat → Shared → Prop)
    (turn : ∀ n s, I n s → Turned (model prog w) A env tb it fb (R (.ok .next)) (fun yes s1 => if yes = true then
        wpAny (model prog w) A (eval kx env) (fun a s2 => wpAny (model prog w) A (eval vx env) (fun b s3 => wpAny (model prog w) A (dictSet D a b) (fun _ s4 => ∃ m, m < n ∧ I m s4) (errs prog w A env R) s3) (errs prog w A env R) s2) (errs prog w A env R) s1
      else ∃ m, m < n ∧ I m s1) (errs prog w A env R) s)
    (n : Nat) (h : I n s) : codeAny (model prog w) A (.compLoop (two kx vx ta ia tb ib fa fb sc pos) 1 it (.ref D) env) R s := by
  refine codeAny_loop rfl I (fun n s hI => wpAny_noted ?_) n h
  have key := turn n s hI
  unfold Turned at key
  show wpAny _ A (compTurn (two kx vx ta ia tb ib fa fb sc pos) 1 it (.ref D) env) _ _ s
  rw [turnB]
  refine wpAny_bind (wpAny_standAt (wpAny_bind (wpAny_mono key ?_ fun _ _ z => z)))
  rintro (_ | u) s1 k1
  · exact wpAny_pure k1
  · refine wpAny_bind (wpAny_mono k1 (fun _ s2 k2 => wpAny_bind (wpAny_mono k2 (fun _ s3 k3 => wpAny_bind (wpAny_mono k3 ?_ fun _ _ z => z)) fun _ _ z => z)) fun _ _ z => z)
    rintro (_ | _) s4 k4
    · exact wpAny_pure ⟨rfl, k4⟩
    · refine wpAny_bind (wpAny_bind (wpAny_mono k4 (fun a s5 k5 => ?_) fun _ _ z => z))
      refine wpAny_bind (wpAny_holding (wpAny_mono k5 (fun b s6 k6 => ?_) fun _ _ z => z))
      exact wpAny_bind (wpAny_standAt (wpAny_holding (wpAny_mono k6 (fun _ s7 k7 => wpAny_pure ⟨rfl, k7⟩) fun _ _ z => z)))
theorem startB (h0 : codeAny (model prog w) A (.compLoop (two kx vx ta ia tb ib fa fb sc pos) 1 it (.ref D) env) R s)
    (h1 : wpAny (model prog w) A (pyIter it) (fun j s' => codeAny (model prog w) A (.compLoop (two kx vx ta ia tb ib fa fb sc pos) 1 j (.ref D) env) R s') (errs prog w A env R) s) :
    codeAny (model prog w) A (.compStart (two kx vx ta ia tb ib fa fb sc pos) 1 it (.ref D) env) R s := by
  refine codeAny_of_tree (wpAny_notedAt (?_ : wpAny _ _ (compStart (two kx vx ta ia tb ib fa fb sc pos) 1 it (.ref D) env) _ _ s))
  unfold compStart
  show wpAny _ _ (ask >>= _) _ _ s
  refine wpAny_bind (wpAny_askSetting (wpAny_ite ?_))
  split
  · first
      | exact wpAny_pure ⟨rfl, h0⟩
      | exact wpAny_bind (wpAny_pure (wpAny_pure ⟨rfl, h0⟩))
  · refine wpAny_bind (wpAny_rule ?_)
    show wpAny _ _ (standAt ib.pos >>= _) _ _ s
    exact wpAny_bind (wpAny_standAt (wpAny_bind (wpAny_mono h1 (fun j s' h' => wpAny_pure ⟨rfl, h'⟩) fun _ _ z => z)))
end
section
variable {Y : Cx} {pins : List (Addr × Obj)} {σ : L2.St} {H : Hp} {s : Shared} {tg : Expr} {J : It} {fp : List Addr} {it : Addr} {tn : Nat → Heap → Prop}
/-- an item comes: stored and tested, the walk's objects held meanwhile -/
theorem clause {g : TG} {tt : TT} {fs : List Expr} {i : Nat} {C : L2.St → Prop} {Z : L2.St → Bool → Hp → Prop} {stop : Shared → Prop} {k : Bool → Shared → Prop} {E : Value → Shared → Prop}
    (quiet : Y.xe = fun _ _ => False) (hc : Y.calm = true) (T : Turn Y.prog Y.w Y.K tg J fp it tn) (pg : PG Y tg g) (pt : PTs Y fs tt) (I : L2.Inv Y pins σ H s)
    (free : ∀ {H' : Hp}, (∀ b ∈ fp, H' b = none) → ∀ b ∈ fp, FpOk Y pins H' b) (none0 : ∀ b ∈ fp, H b = none) (st : tn i s.heap) (go : J.go i H)
    (step : ∀ x H', J.yld i H x H' → g x σ H' fun σ2 H2 => C σ2 ∧ tt σ2 H2 (Z σ2))
    (next : ∀ {s1 s2 : Shared} {σ2 : L2.St} {b : Bool} {H2 : Hp}, tn (i + 1) s1.heap → C σ2 → L2.Inv Y (pins ++ pinsAt fp s1.heap) σ2 H2 s2 → Z σ2 b H2 → k b s2) :
    Turned (model Y.prog Y.w) Y.A Y.env tg (.ref it) fs stop k E s := by
  unfold Turned
  refine thnF (T.item Y rfl rfl rfl hc i pins s σ H (fun _ _ => False) I (free none0) st go) ?_
  rintro _ s1 ⟨u, rfl, h1⟩
  refine thnF h1 ?_
  rintro _ s2 ⟨x, H2, I2, rx, yx, st2, n2⟩
  have held := I2.pinned (free n2) (T.obj _ _ st2)
  have run1 := pg.run _ s2 _ H2 x u _ held rx (step x H2 yx)
  rw [quiet] at run1
  refine thnF run1 ?_
  rintro _ s3 ⟨σ3, H3, I3, c3, q3⟩
  have run2 := pt.run _ s3 σ3 H3 _ I3 q3
  rw [quiet] at run2
  refine thnF run2 ?_
  rintro b s4 ⟨H4, I4, q4⟩
  exact next st2 c3 I4 q4
/-- behind the turn the walk's objects stand as they did -/
theorem walk_stays {i : Nat} {h : Heap} (T : Turn Y.prog Y.w Y.K tg J fp it tn) (st : tn i h) (I : L2.Inv Y (pins ++ pinsAt fp h) σ H s) : tn i s.heap ∧ ∀ b ∈ fp, H b = none := by
  have each : ∀ b ∈ fp, ∀ o, h.get? b = some o → s.heap.get? b = some o ∧ H b = none := fun b hb o e => by
    have z := I.pin (b, o) (List.mem_append_right _ (List.mem_append_right _ (mem_pinsAt hb e)))
    exact ⟨z.1, z.2.1⟩
  refine ⟨T.keep i h s.heap st fun b hb o e => (each b hb o e).1, fun b hb => ?_⟩
  obtain ⟨o, e, _⟩ := T.obj i h st b hb
  exact (each b hb o e).2
end
section
variable {X : Cx}
/-- the second clause: its walk, in each turn of it a pair put -/
def InnD (gb : TG) (ttb : TT) (tk tv : TE) (vs1 : List Nat) (D : Addr) (σ2 : L2.St) (Nx : Hp → Prop) (J1 : It) (H4 : Hp) : Prop :=
  ∃ W1 : Nat → Nat → Hp → Prop, (∃ m, W1 0 m H4) ∧ ∀ j k H, W1 j k H → (J1.stop j H ∧ Nx H) ∨ (J1.go j H ∧ ∃ Nx1 : Hp → Prop, (∀ H', Nx1 H' → ∃ k', k' < k ∧ W1 (j + 1) k' H') ∧
    ∀ x H', J1.yld j H x H' → gb x (wipe σ2 vs1) H' fun σ3 H5 => wipe σ3 vs1 = wipe σ2 vs1 ∧ ttb σ3 H5 fun yes H6 =>
      if yes = true then tk σ3 H6 fun y H7 => tv σ3 H7 fun z H8 => ∃ kvs k, y = kV k ∧ H8 D = some (.dK kvs) ∧ kvs.length < sizeLine ∧ Nx1 (upd H8 D (.dK (putK kvs k z))) else Nx1 H6)
/-- what the comprehension asks: the first clause's walk, in each turn the second's; vs: the names of both clauses, vs1: of the second -/
def tDc2 (wa : TI) (ga : TG) (tta : TT) (wb : TI) (gb : TG) (ttb : TT) (tk tv : TE) (vs vs1 : List Nat) : TE := fun σ H Q => wa σ H fun J H1 => ∀ D, H1 D = none →
  ∃ W : Nat → Nat → Hp → Prop, (∃ m, W 0 m (upd H1 D (.dK []))) ∧ ∀ i m H, W i m H → (J.stop i H ∧ Q (.ref D) H) ∨ (J.go i H ∧ ∃ Nx : Hp → Prop, (∀ H', Nx H' → ∃ m', m' < m ∧ W (i + 1) m' H') ∧
    ∀ x H', J.yld i H x H' → ga x (wipe σ vs) H' fun σ2 H2 => wipe σ2 vs = wipe σ vs ∧ tta σ2 H2 fun yes H3 => if yes = true then wb σ2 H3 (InnD gb ttb tk tv vs1 D σ2 Nx) else Nx H3)
/-- the first clause by a walk that is known -/
theorem dc2_it {J : It} {n : Nat} {G : Hp → Prop} {Y : Nat → Hp → V → Hp → Prop} (w : L2.Walk J n G Y) {ga gb : TG} {tta ttb : TT} {wb : TI} {tk tv : TE} {vs vs1 : List Nat} {σ : L2.St} {H1 : Hp} {D : Addr} {Qd : Hp → Prop} (Pv : Nat → Hp → Prop) (h0 : Pv 0 (upd H1 D (.dK []))) (hG : ∀ i H, i ≤ n → Pv i H → G H)
    (hs : ∀ i x H H', i < n → Pv i H → Y i H x H' → ga x (wipe σ vs) H' fun σ2 H2 => wipe σ2 vs = wipe σ vs ∧ tta σ2 H2 fun yes H3 => if yes = true then wb σ2 H3 (InnD gb ttb tk tv vs1 D σ2 (Pv (i + 1))) else Pv (i + 1) H3) (hd : ∀ H, Pv n H → Qd H) :
    ∃ W : Nat → Nat → Hp → Prop, (∃ m, W 0 m (upd H1 D (.dK []))) ∧ ∀ i m H, W i m H → (J.stop i H ∧ Qd H) ∨ (J.go i H ∧ ∃ Nx : Hp → Prop, (∀ H', Nx H' → ∃ m', m' < m ∧ W (i + 1) m' H') ∧
      ∀ x H', J.yld i H x H' → ga x (wipe σ vs) H' fun σ2 H2 => wipe σ2 vs = wipe σ vs ∧ tta σ2 H2 fun yes H3 => if yes = true then wb σ2 H3 (InnD gb ttb tk tv vs1 D σ2 Nx) else Nx H3) := by
  refine ⟨fun i m H => m + i = n ∧ Pv i H, ⟨n, by simp, h0⟩, fun i m H ⟨e, p⟩ => ?_⟩
  have q := hG i H (by omega) p
  by_cases lt : i < n
  · exact .inr ⟨w.goes i H lt q, Pv (i + 1), fun H' p' => ⟨m - 1, by omega, by omega, p'⟩, fun x H' y => hs i x H H' lt p (w.yields i H x H' lt q y)⟩
  · obtain rfl : i = n := by omega
    exact .inl ⟨w.stops H q, hd H p⟩
/-- the second clause by a walk that is known -/
theorem inn_it {J1 : It} {n : Nat} {G : Hp → Prop} {Y : Nat → Hp → V → Hp → Prop} (w : L2.Walk J1 n G Y) {gb : TG} {ttb : TT} {tk tv : TE} {vs1 : List Nat} {σ2 : L2.St} {H4 : Hp} {D : Addr} {Nx : Hp → Prop} (Pv : Nat → Hp → Prop) (h0 : Pv 0 H4) (hG : ∀ i H, i ≤ n → Pv i H → G H)
    (hs : ∀ j x H H', j < n → Pv j H → Y j H x H' → gb x (wipe σ2 vs1) H' fun σ3 H5 => wipe σ3 vs1 = wipe σ2 vs1 ∧ ttb σ3 H5 fun yes H6 =>
      if yes = true then tk σ3 H6 fun y H7 => tv σ3 H7 fun z H8 => ∃ kvs k, y = kV k ∧ H8 D = some (.dK kvs) ∧ kvs.length < sizeLine ∧ Pv (j + 1) (upd H8 D (.dK (putK kvs k z))) else Pv (j + 1) H6) (hd : ∀ H, Pv n H → Nx H) :
    InnD gb ttb tk tv vs1 D σ2 Nx J1 H4 := by
  refine ⟨fun j k H => k + j = n ∧ Pv j H, ⟨n, by simp, h0⟩, fun j k H ⟨e, p⟩ => ?_⟩
  have q := hG j H (by omega) p
  by_cases lt : j < n
  · exact .inr ⟨w.goes j H lt q, Pv (j + 1), fun H' p' => ⟨k - 1, by omega, by omega, p'⟩, fun x H' y => hs j x H H' lt p (w.yields j H x H' lt q y)⟩
  · obtain rfl : j = n := by omega
    exact .inl ⟨w.stops H q, hd H p⟩
/-- a block of this scope -/
abbrev inBlk (X : Cx) (sc : Scope) (s : Shared) (H : Hp) (C : Addr) (cl : List (Str × Addr)) (fp : List Addr) : Cx := X.blk s H sc (compEnvC sc cl C X.env) fp
theorem pe_dc2 {kx vx ta ia tb ib : Expr} {fa fb : List Expr} {sc : Scope} {own : List (Str × Nat)} {vs1 : List Nat} {pos : Pos} {wa wb : TI} {ga gb : TG} {tta ttb : TT} {tk tv : TE} (hc : X.calm = true) (hN : X.N.Nodup) (hi : PI X ta ia wa) (ok : BlkOk X.N X.env.scope sc own) (hv : ∀ i ∈ vs1, i ∈ own.map (·.2))
    (hga : ∀ s H C cl fp, PG (inBlk X sc s H C cl fp) ta ga) (hta : ∀ s H C cl fp, PTs (inBlk X sc s H C cl fp) fa tta) (hib : ∀ s H C cl fp, PI (inBlk X sc s H C cl fp) tb ib wb) (hgb : ∀ s H C cl fp, PG (inBlk X sc s H C cl fp) tb gb) (htb : ∀ s H C cl fp, PTs (inBlk X sc s H C cl fp) fb ttb)
    (hk : ∀ s H C cl fp, PE (inBlk X sc s H C cl fp) kx tk) (he : ∀ s H C cl fp, PE (inBlk X sc s H C cl fp) vx tv)
    (pa : ∀ x, foldedSetIterable ia X.env x = pure x := by intro _; rfl) (pb : ∀ env x, foldedSetIterable ib env x = pure x := by intro _ _; rfl) :
    PE X (.DictComp kx vx [⟨ta, ia, fa, 0⟩, ⟨tb, ib, fb, 0⟩] sc pos) (tDc2 wa ga tta wb gb ttb tk tv (own.map (·.2)) vs1) := by
  refine ⟨fun pins s σ H Q I h => ?_⟩
  rw [arm_eval_DictComp]
  have clo : ∀ y ∈ sc.names, y.2 = .free → ∃ c, X.env.cells.lookup y.1 = some c := fun y hy e => (ok.free y hy e).elim (fun k => I.ok.has _ (.inl k)) fun k => I.ok.has _ (.inr k)
  refine wpAny_comprehension_free rfl pa (closure_ok clo) ok.kind (fun y hy e => by rw [ok.uniq y hy, e]) (thn (hi.run pins s σ H _ I h) fun _ _ h1 => thn h1 ?_)
  rintro _ s2 ⟨it, fp, tn, J, H2, rfl, I2, T, st2, f2, q⟩
  refine wpAny_newObj_type (newEnv_comp ?_)
  generalize hD : s2.heap.objs.size = D
  have newD : H2 D = none := I2.hok.fresh (Nat.le_of_eq hD)
  obtain ⟨W, ⟨m0, w0⟩, turn⟩ := q D newD
  generalize hs3 : ({ s2 with heap := s2.heap.push { cls := .type "dict", data := .dict #[] } } : Shared) = s3
  have e3 : s3.heap = s2.heap.push { cls := .type "dict", data := .dict #[] } := by rw [← hs3]
  have I3 : L2.Inv X pins σ (upd H2 D (.dK [])) s3 := by
    rw [← hs3]
    exact I2.laid (t' := s2.toks) (fun b o e => Heap.get?_push_of_some _ e) (Nat.le_of_eq hD) (hD ▸ dk_empty s2.heap I2.big)
  have f3 : ∀ b ∈ fp, FpOk X pins (upd H2 D (.dK [])) b ∧ b < s3.heap.objs.size := fun b hb => by
    obtain ⟨o, e, _⟩ := T.obj _ _ st2 b hb
    have small := Heap.lt_size e
    refine ⟨⟨?_, (f2 b hb).2⟩, ?_⟩
    · rw [upd_ne (Nat.ne_of_lt (hD ▸ small))]
      exact (f2 b hb).1
    · rw [e3, Heap.size_push]
      exact Nat.lt_succ_of_lt small
  have st3 : tn 0 s3.heap := T.keep _ _ _ st2 fun b _ o e => by
    rw [e3]
    exact Heap.get?_push_of_some _ e
  have I4 := block_start I3 ok hN f3
  generalize hcl : cellsFrom (s3.heap.objs.size + 1) sc.names (cloFrom X.env.cells sc.names []) = cl at I4
  show codeAny _ _ (.compStart (two kx vx ta ia tb ib fa fb sc pos) 0 (.ref it) (.ref D) (compEnvC sc cl s3.heap.objs.size X.env)) (compPost (model X.prog X.w) X.A X.xe none (EP X pins σ Q) (.ref D) s3.heap.objs.size) { s3 with heap := pushCells (s3.heap.push { cls := .type "dict", data := .dict #[] }) sc.names }
  have none3 : ∀ b ∈ fp, (upd H2 D (.dK [])) b = none := fun b hb => (f3 b hb).1.1
  generalize hH3 : upd H2 D (.dK []) = H3 at I3 I4 w0 none3 f3
  have jga : PG (X.blk s3 H3 sc (compEnvC sc cl s3.heap.objs.size X.env) fp) ta ga := hga s3 H3 s3.heap.objs.size cl fp
  have jta : PTs (X.blk s3 H3 sc (compEnvC sc cl s3.heap.objs.size X.env) fp) fa tta := hta s3 H3 s3.heap.objs.size cl fp
  have jib : PI (X.blk s3 H3 sc (compEnvC sc cl s3.heap.objs.size X.env) fp) tb ib wb := hib s3 H3 s3.heap.objs.size cl fp
  have jgb : PG (X.blk s3 H3 sc (compEnvC sc cl s3.heap.objs.size X.env) fp) tb gb := hgb s3 H3 s3.heap.objs.size cl fp
  have jtb : PTs (X.blk s3 H3 sc (compEnvC sc cl s3.heap.objs.size X.env) fp) fb ttb := htb s3 H3 s3.heap.objs.size cl fp
  have jk : PE (X.blk s3 H3 sc (compEnvC sc cl s3.heap.objs.size X.env) fp) kx tk := hk s3 H3 s3.heap.objs.size cl fp
  have je : PE (X.blk s3 H3 sc (compEnvC sc cl s3.heap.objs.size X.env) fp) vx tv := he s3 H3 s3.heap.objs.size cl fp
  generalize hs4 : ({ s3 with heap := pushCells (s3.heap.push { cls := .type "dict", data := .dict #[] }) sc.names } : Shared) = s4 at I4 ⊢
  have st4 : tn 0 s4.heap := T.keep _ _ _ st3 fun b _ o e => by
    rw [← hs4]
    exact pushCells_keeps _ _ _ _ (Heap.get?_push_of_some _ e)
  generalize hce : compEnvC sc cl s3.heap.objs.size X.env = ce at I4 jga jta jib jgb jtb jk je ⊢
  have cL : ce.locals = s3.heap.objs.size := by
    subst hce
    rfl
  have free0 : ∀ {H' : Hp}, (∀ b ∈ fp, H' b = none) → ∀ b ∈ fp, FpOk (X.blk s3 H3 sc ce fp) [] H' b := fun n b hb =>
    ⟨n b hb, (I4.ok.exf b hb).1, I4.ok.exfs b hb, .inl hb, (I4.ok.exf b hb).2, fun p hp => nomatch (show p ∈ ([] : List (Addr × Obj)) from hp)⟩
  have loop : codeAny (model X.prog X.w) X.A (.compLoop (two kx vx ta ia tb ib fa fb sc pos) 0 (.ref it) (.ref D) ce) (compPost (model X.prog X.w) X.A X.xe none (EP X pins σ Q) (.ref D) s3.heap.objs.size) s4 := by
    refine loopA (pb ce) (fun n s' => ∃ i H', L2.Inv (X.blk s3 H3 sc ce fp) [] (wipe σ (own.map (·.2))) H' s' ∧ tn i s'.heap ∧ (∀ b ∈ fp, H' b = none) ∧ W i n H') ?_ m0 ⟨0, H3, I4, st4, none3, w0⟩
    rintro n s5 ⟨i, H5, I5, st5, n5, w5⟩
    rcases turn i n H5 w5 with ⟨stop, qq⟩ | ⟨go, Nx, hNx, step⟩
    · unfold Turned
      refine thnF (T.done (X.blk s3 H3 sc ce fp) rfl rfl rfl hc i [] s5 _ H5 (fun _ _ => False) I5 (free0 n5) st5 stop) ?_
      rintro _ s6 ⟨rfl, I6⟩
      have I7 : L2.Inv X pins σ H5 s6 := I3.call' (ch := fp) I6.os I6.base I6.hok I6.bare fun b hb => by
        obtain ⟨⟨_, a1, _, a3, a4, a5⟩, _⟩ := f3 b hb
        exact ⟨a3, a1, a4, a5⟩
      have nC : H5 s3.heap.objs.size = none := cL ▸ (show H5 ce.locals = none from I6.free)
      obtain ⟨m, hn, _⟩ := I6.loc
      have hn : s6.heap.Ns s3.heap.objs.size m := cL ▸ (show s6.heap.Ns ce.locals m from hn)
      obtain ⟨g0, g1, _, g3, g4, g5⟩ := I3.fpOk (H' := H5) (Nat.le_refl _) nC
      exact ⟨m, hn, fun h2 sb => ⟨.ref D, H5, I7.turned (t' := s6.toks) (fun b o hb e => (sb.2 b hb).trans e) g0 g1 g3 g4 g5, rfl, qq⟩⟩
    · refine clause (Y := X.blk s3 H3 sc ce fp) rfl hc T jga jta I5 free0 n5 st5 go step ?_
      intro s6 s7 σ7 b H7 st6 w7 I7 q7
      have hl7 : (wipe σ (own.map (·.2))).length = σ7.length := by rw [← w7, wipe_length]
      have fin : ∀ {σ8 : L2.St} {s8 : Shared} {H8 : Hp}, L2.Inv (X.blk s3 H3 sc ce fp) ([] ++ pinsAt fp s6.heap) σ8 H8 s8 → (wipe σ (own.map (·.2))).length = σ8.length → (∀ (j : Nat) v, (wipe σ (own.map (·.2)))[j]? = some (some v) → σ8[j]? = some (some v)) → Nx H8 →
          ∃ m, m < n ∧ ∃ i H', L2.Inv (X.blk s3 H3 sc ce fp) [] (wipe σ (own.map (·.2))) H' s8 ∧ tn i s8.heap ∧ (∀ b ∈ fp, H' b = none) ∧ W i m H' := by
        intro σ8 s8 H8 I8 hl hk nx
        obtain ⟨m', hm, w'⟩ := hNx H8 nx
        obtain ⟨t1, t2⟩ := walk_stays (Y := X.blk s3 H3 sc ce fp) T st6 I8
        exact ⟨m', hm, i + 1, H8, (I8.unpinned (pins := [])).weak hl hk, t1, t2, w'⟩
      cases b with
      | false =>
        rw [if_neg (by decide)] at q7 ⊢
        exact fin I7 hl7 (fun j v e => (wipe_some (w7.symm ▸ e)).1) q7
      | true =>
        rw [if_pos rfl] at q7 ⊢
        refine thnF (jib.run _ s7 σ7 H7 _ I7 q7) fun _ s8 h8 => thnF h8 ?_
        rintro _ s9 ⟨it1, fp1, tn1, J1, H9, rfl, I9, T1, st9, f9, W1, ⟨m1, w1⟩, turn1⟩
        have free1 : ∀ {H' : Hp}, (∀ b ∈ fp1, H' b = none) → ∀ b ∈ fp1, FpOk (X.blk s3 H3 sc ce fp) ([] ++ pinsAt fp s6.heap) H' b := fun n b hb => ⟨n b hb, (f9 b hb).2⟩
        have loop1 : codeAny (model X.prog X.w) X.A (.compLoop (two kx vx ta ia tb ib fa fb sc pos) 1 (.ref it1) (.ref D) ce) (fun r s' => (∃ f, r = .ok f) ∧ ∃ m, m < n ∧ ∃ i H', L2.Inv (X.blk s3 H3 sc ce fp) [] (wipe σ (own.map (·.2))) H' s' ∧ tn i s'.heap ∧ (∀ b ∈ fp, H' b = none) ∧ W i m H') s9 := by
          refine loopB (fun k s' => ∃ j H', L2.Inv (X.blk s3 H3 sc ce fp) ([] ++ pinsAt fp s6.heap) (wipe σ7 vs1) H' s' ∧ tn1 j s'.heap ∧ (∀ b ∈ fp1, H' b = none) ∧ W1 j k H') ?_ m1 ⟨0, H9, I9.weak (wipe_length _ _) (fun j v e => (wipe_some e).1), st9, fun b hb => (f9 b hb).1, w1⟩
          rintro k s10 ⟨j, H10, I10, st10, n10, w10⟩
          rcases turn1 j k H10 w10 with ⟨stop1, nx1⟩ | ⟨go1, Nx1, hNx1, step1⟩
          · unfold Turned
            refine thnF (T1.done (X.blk s3 H3 sc ce fp) rfl rfl rfl hc j _ s10 (wipe σ7 vs1) H10 (fun _ _ => False) I10 (free1 n10) st10 stop1) ?_
            rintro _ s11 ⟨rfl, I11⟩
            refine ⟨⟨_, rfl⟩, fin I11 (hl7.trans (wipe_length σ7 vs1).symm) (fun j v e => ?_) nx1⟩
            obtain ⟨e1, e2⟩ := wipe_some (w7.symm ▸ e)
            rw [wipe_out fun z => e2 (hv j z)]
            exact e1
          · refine clause (Y := X.blk s3 H3 sc ce fp) rfl hc T1 jgb jtb I10 free1 n10 st10 go1 step1 ?_
            intro s11 s12 σ12 b1 H12 st11 w12 I12 q12
            have fin1 : ∀ {s' : Shared} {H' : Hp}, L2.Inv (X.blk s3 H3 sc ce fp) (([] ++ pinsAt fp s6.heap) ++ pinsAt fp1 s11.heap) σ12 H' s' → Nx1 H' → ∃ m, m < k ∧ ∃ j H', L2.Inv (X.blk s3 H3 sc ce fp) ([] ++ pinsAt fp s6.heap) (wipe σ7 vs1) H' s' ∧ tn1 j s'.heap ∧ (∀ b ∈ fp1, H' b = none) ∧ W1 j m H' := by
              intro s' H' I' nx
              obtain ⟨m', hm, w'⟩ := hNx1 H' nx
              obtain ⟨t1, t2⟩ := walk_stays (Y := X.blk s3 H3 sc ce fp) T1 st11 I'
              exact ⟨m', hm, j + 1, H', I'.unpinned.weak (by rw [← w12, wipe_length]) (fun i v e => (wipe_some (w12.symm ▸ e)).1), t1, t2, w'⟩
            cases b1 with
            | false =>
              rw [if_neg (by decide)] at q12 ⊢
              exact fin1 I12 q12
            | true =>
              rw [if_pos rfl] at q12 ⊢
              refine thnF (jk.run _ s12 σ12 H12 _ I12 q12) ?_
              rintro a s13 ⟨ya, H13, I13, ra, q13⟩
              refine thnF (je.run _ s13 σ12 H13 _ I13 q13) ?_
              rintro b s14 ⟨yb, H14, I14, rb, kvs, key, rfl, hD14, small, nx⟩
              exact d_dictSet (X := X.blk s3 H3 sc ce fp) I14 hD14 small ra rb fun s15 I15 => fin1 I15 nx
        exact startB loop1 (T1.self X.A 0 _ _ _ st9 loop1)
  exact codeAny_compStart_dict loop (T.self X.A 0 _ _ _ st4 loop)
end
end Wl

namespace Wl
open PySem PySem.Spec PyProof.Rows L2
/-- the heap keeps all but its lists -/
def Rig (o : HO) : Prop := (∀ xs, o ≠ .lst xs) ∧ ∀ ps, o ≠ .tbl ps
def Keep (H H' : Hp) : Prop := ∀ p o, Rig o → H p = some o → H' p = some o
theorem Keep.refl (H : Hp) : Keep H H := fun _ _ _ h => h
theorem Keep.trans {H H1 H2 : Hp} (a : Keep H H1) (b : Keep H1 H2) : Keep H H2 := fun p o n h => b p o n (a p o n h)
theorem kp_same {H H' : Hp} (s : Same H H') : Keep H H' := fun p o _ h => s p _ h
theorem kp_x {a : Addr} {H H' : Hp} {ys : List V} (s : SameX a H H') (ha : H a = some (.lst ys)) : Keep H H' := fun p o n h => s p _ (fun e => by
  subst e
  rw [ha] at h
  exact n.1 _ (Option.some.inj h).symm) h
theorem kp_upd {a : Addr} {H : Hp} {ys : List V} {o : HO} (ha : H a = some (.lst ys)) : Keep H (upd H a o) := kp_x sameX_upd ha
theorem kp_new {p : Addr} {H : Hp} {o : HO} (hp : H p = none) : Keep H (upd H p o) := kp_same (same_new hp)
theorem Keep.tk {H H' : Hp} (k : Keep H H') : TupKeep H H' := fun p xs h => k p _ ⟨fun _ e => (by cases e), fun _ e => (by cases e)⟩ h
theorem tk_updD {a : Addr} {H : Hp} {kvs : List (Key × V)} {o : HO} (ha : H a = some (.dK kvs)) : TupKeep H (upd H a o) := fun p xs h => by
  rw [upd_ne (ne_of h ha (by intro z; cases z))]
  exact h
/-- the dict's pairs tell these spots -/
def Ent (H : Hp) (kv : Key × V) (s : Str × Nat × Nat) : Prop := kv.1 = Sum.inr s.1 ∧ ∃ t, kv.2 = .ref t ∧ H t = some (.tup [.int s.2.1, .int s.2.2])
def SpotsAt (H : Hp) (d : Addr) (sp : List (Str × Nat × Nat)) : Prop := ∃ kvs, H d = some (.dK kvs) ∧ Each (Ent H) kvs sp
theorem ent_keep {H H' : Hp} (k : TupKeep H H') {kvs : List (Key × V)} {sp : List (Str × Nat × Nat)} (h : Each (Ent H) kvs sp) : Each (Ent H') kvs sp :=
  Each.mono (fun _ _ ⟨e, t, e2, ht⟩ => ⟨e, t, e2, k _ _ ht⟩) h
theorem SpotsAt.keep {H H' : Hp} {d : Addr} {sp : List (Str × Nat × Nat)} (h : SpotsAt H d sp) (k : Keep H H') : SpotsAt H' d sp := by
  obtain ⟨kvs, h1, h2⟩ := h
  exact ⟨kvs, k _ _ ⟨fun _ e => (by cases e), fun _ e => (by cases e)⟩ h1, ent_keep k.tk h2⟩
theorem ent_none {H : Hp} {z : Str} : ∀ {kvs : List (Key × V)} {sp : List (Str × Nat × Nat)}, Each (Ent H) kvs sp → z ∉ sp.map (·.1) → valV kvs (Sum.inr z : Key) = none
  | _, _, .nil, _ => rfl
  | _, _, .cons (a := kv) (b := s) r t, h => by
    rw [List.map_cons, List.mem_cons, not_or] at h
    rw [valV_neg (fun e => h.1 (Sum.inr.inj (e.symm.trans r.1)))]
    exact ent_none t h.2
theorem ent_some {H : Hp} {z : Str} {r c : Nat} : ∀ {kvs : List (Key × V)} {sp : List (Str × Nat × Nat)}, Each (Ent H) kvs sp → (sp.map (·.1)).Nodup → (z, r, c) ∈ sp → ∃ t, valV kvs (Sum.inr z : Key) = some (.ref t) ∧ H t = some (.tup [.int r, .int c])
  | _, _, .nil, _, h => by cases h
  | _, _, .cons (a := kv) (b := s) e t, nd, h => by
    obtain ⟨n1, n2⟩ := List.nodup_cons.mp nd
    rcases List.mem_cons.mp h with h | h
    · subst h
      obtain ⟨e1, u, e2, hu⟩ := e
      exact ⟨u, by rw [valV_pos e1, e2], hu⟩
    · have ne : ¬ s.1 = z := fun q => n1 (List.mem_map.mpr ⟨_, h, q.symm⟩)
      obtain ⟨u, e2, hu⟩ := ent_some t n2 h
      exact ⟨u, by rw [valV_neg (fun q => ne (Sum.inr.inj (e.1.symm.trans q)))]; exact e2, hu⟩
theorem ent_keys {H : Hp} : ∀ {kvs : List (Key × V)} {sp : List (Str × Nat × Nat)}, Each (Ent H) kvs sp → kvs.map (fun kv => kV kv.1) = (sp.map (·.1)).map V.str
  | _, _, .nil => rfl
  | _, _, .cons e t => by
    rw [List.map_cons, List.map_cons, List.map_cons, ent_keys t, e.1]
    rfl
section
variable {P : Program} {w : World} {K : PySem.W.Frag} {mg : Str → Option Value} {base : Heap} {f : Addr} {fd : FuncData}
/-! ### wrong_spot of a good grid -/
def spWrong : Sp := fun vs H Q _ => ∃ (L : Addr) (g : Grid) (wd : Nat), vs = [.ref L] ∧ GridAt H L g ∧ Good g wd ∧ ∀ (H' : Hp), Same H H' → Q .non H'
abbrev nWrong : List Str := ["rows", "names", "at", "row", "column", "part"]
theorem scWrong : FnScope nWrong ["rows"] (defScope sWrong) := ⟨rfl, rfl, rfl, by decide +kernel, rfl, by decide +kernel, by decide +kernel⟩
theorem take_snoc {α : Type} {l : List α} {i : Nat} {x : α} (h : l[i]? = some x) : l.take (i + 1) = l.take i ++ [x] := by
  rw [List.take_add_one, h]
  rfl
theorem len_take {α : Type} {l : List α} {i : Nat} {x : α} (h : l[i]? = some x) : (l.take i).length = i := by
  have := (List.getElem?_eq_some_iff.mp h).1
  rw [List.length_take]
  omega
/-- a name isn't among those ahead of it -/
theorem ahead_new {g : Grid} {wd : Nat} (gd : Good g wd) {i j : Nat} {row : Row} {z : Str} (hrow : g[i]? = some row) (ho : row[j]? = some (some z)) : z ∉ (spG 0 (g.take i) ++ spR i 0 (row.take j)).map (·.1) := by
  have hcz : cellAt g i j = some z := cellAt_of hrow ho
  intro hm
  obtain ⟨⟨y, r', c'⟩, hm2, rfl⟩ := List.mem_map.mp hm
  have hlt : (r', c') = (i, j) := by
    have hc2 : cellAt g r' c' = some y := by
      rcases List.mem_append.mp hm2 with h | h
      · obtain ⟨k, row2, e, h1, h2⟩ := (spG_mem _ 0).mp h
        have : r' = k := by omega
        subst this
        rw [List.getElem?_take] at h1
        split at h1
        · exact cellAt_of h1 h2
        · cases h1
      · obtain ⟨e, k, e2, h1⟩ := (spR_mem i _ 0).mp h
        have : c' = k := by omega
        subst this e
        rw [List.getElem?_take] at h1
        split at h1
        · exact cellAt_of hrow h1
        · cases h1
    obtain ⟨h1, h2⟩ := cell_inj gd.nd hc2 hcz
    rw [h1, h2]
  cases hlt
  rcases List.mem_append.mp hm2 with h | h
  · obtain ⟨k, row2, e, h1, h2⟩ := (spG_mem _ 0).mp h
    rw [List.getElem?_take] at h1
    split at h1
    · omega
    · cases h1
  · obtain ⟨e, k, e2, h1⟩ := (spR_mem i _ 0).mp h
    rw [List.getElem?_take] at h1
    split at h1
    · omega
    · cases h1
theorem ahead_len {g : Grid} {wd : Nat} (gd : Good g wd) {i j : Nat} {row : Row} (hrow : g[i]? = some row) : ((spG 0 (g.take i) ++ spR i 0 (row.take j)).map (·.1)).length ≤ 42 := by
  rw [List.map_append, spG_fst, spR_fst, List.length_append]
  have a1 := len_names (g := g.take i) (wd := wd) fun r hr => gd.rows r (List.mem_of_mem_take hr)
  have a2 : (g.take i).length ≤ 6 := by rw [List.length_take]; have := gd.h6; omega
  have a3 : (g.take i).length * wd ≤ 6 * 6 := Nat.mul_le_mul a2 gd.w6
  have a4 : (rnames (row.take j)).length ≤ (row.take j).length := List.length_filterMap_le id _
  have a5 : (row.take j).length ≤ row.length := List.length_take_le' _ _
  have a6 := gd.rows row (List.mem_of_getElem? hrow)
  have a7 := gd.w6
  omega
theorem ahead_snoc {g : Grid} {i j : Nat} {row : Row} {o : Option Str} (ho : row[j]? = some o) : spG 0 (g.take i) ++ spR i 0 (row.take (j + 1)) = spG 0 (g.take i) ++ spR i 0 (row.take j) ++ (o.toList.map fun z => (z, i, j)) := by
  rw [take_snoc ho, spR_snoc, len_take ho, Nat.zero_add, List.append_assoc]
theorem ok_wrong (F : Fun K "wrong_spot" "wrong_spot" sWrong f fd) (B : Bi mg) (hI : Has P w K mg base "is_word" 1 ["thing"] spIsWord) : FnOk P w K mg base CX0 2 f fd ["rows"] spWrong := by
  refine F.ok scWrong (fun vs H Q E h => ?_) (fun cdv A outer s H vs Q E hr h => ?_)
  · obtain ⟨L, g, wd, rfl, _⟩ := h
    rfl
  · obtain ⟨L, g, wd, rfl, hG, gd, q⟩ := h
    refine ⟨_, pss_cons (ps_set (i := 1) scWrong.nd rfl (.inl rfl) (pe_lst pa_nil))
      (pss_cons (ps_for PassesOwn.never rfl (pi_enumT (by rfl) B.enum (pa_cons (pv 0) pa_nil)) (pg_tup rfl (pgs_cons (pg_name (i := 2) scWrong.nd rfl (.inl rfl)) (pgs_cons (pg_name (i := 3) scWrong.nd rfl (.inl rfl)) pgs_nil)))
        (pss_one (ps_for PassesOwn.never rfl (pi_enumT (by rfl) B.enum (pa_cons (pv 3) pa_nil)) (pg_tup rfl (pgs_cons (pg_name (i := 4) scWrong.nd rfl (.inl rfl)) (pgs_cons (pg_name (i := 5) scWrong.nd rfl (.inl rfl)) pgs_nil)))
          (pss_cons (ps_if (pt_cmp (pc_isN (pv 5))) (pss_one ps_continue) pss_nil)
          (pss_cons (ps_if (PW.pt (pw_or (pt_not (pt_val (pe_h hI hr (pa_cons (pv 5) pa_nil)))) (pw_or1 (pt_cmpR op_in_seq (pv 5) (pv 1) (by rfl))))) (pss_one ps_never) pss_nil)
          (pss_one (ps_expr (pe_bm PySem.F.plainAttrs_list PySem.F.slot_list_append PySem.F.type_list_append mt_append (pv 1) (pa_cons (pv 5) pa_nil)))))))))
      (pss_one (ps_ret pe_non))), ?_⟩
    refine ⟨lz, fun d hd => ?_⟩
    obtain ⟨as, hL, hR⟩ := id hG
    have s0 : Same H (upd H d (.lst [])) := same_new hd
    refine ⟨_, rfl, L, _, rfl, .inl (.inl (s0 _ _ hL)), for_it (walk_enumT (K := K) (a := L) (xs := as.map V.ref)) (fun i σ H' => (∃ y2 y3 y4 y5, σ = [some (.ref L), some (.ref d), y2, y3, y4, y5]) ∧ Same H H' ∧ H' d = some (.lst (((spG 0 (g.take i)).map (·.1)).map V.str)))
      ⟨⟨_, _, _, _, rfl⟩, s0, upd_same⟩ (fun i σ H' _ h => .inl (.inl (h.2.1 _ _ hL))) ?_ ?_⟩
    · rintro i x σ H1 H2 hi ⟨⟨y2, y3, y4, y5, rfl⟩, s1, hd1⟩ ⟨T, x1, x2, rfl, hT, rfl, ex1, ex2⟩
      cases ex1
      have ex2 : (as.map V.ref)[i]? = some x2 := ex2
      rw [List.getElem?_map] at ex2
      obtain ⟨p, hp, rfl⟩ := Option.map_eq_some_iff.mp ex2
      obtain ⟨row, hrow, hH⟩ := hR.get hp
      have s2 : Same H1 (upd H1 T (.tup [.int i, .ref p])) := same_new hT
      have hp2 := s2 _ _ (s1 _ _ hH)
      refine ⟨T, _, rfl, .inl (.inl upd_same), rfl, _, _, rfl, _, _, rfl, rfl, ?_⟩
      refine ⟨_, rfl, p, _, rfl, .inl (.inl hp2), for_it (walk_enumT (K := K) (a := p) (xs := row.map oV)) (fun j σ H' => (∃ y4 y5, σ = [some (.ref L), some (.ref d), some (.int i), some (.ref p), y4, y5]) ∧ Same H H' ∧ H' d = some (.lst (((spG 0 (g.take i) ++ spR i 0 (row.take j)).map (·.1)).map V.str)))
        ⟨⟨_, _, rfl⟩, s1.trans s2, by simpa [spR] using s2 _ _ hd1⟩ (fun j σ H' _ h => .inl (.inl (h.2.1 _ _ hH))) ?_ ?_⟩
      · rintro j x σ H3 H4 hj ⟨⟨z4, z5, rfl⟩, s3, hd3⟩ ⟨T2, x1, x2, rfl, hT2, rfl, ex1, ex2⟩
        cases ex1
        have ex2 : (row.map oV)[j]? = some x2 := ex2
        rw [List.getElem?_map] at ex2
        obtain ⟨o, ho, rfl⟩ := Option.map_eq_some_iff.mp ex2
        have s4 : Same H3 (upd H3 T2 (.tup [.int j, oV o])) := same_new hT2
        refine ⟨T2, _, rfl, .inl (.inl upd_same), rfl, _, _, rfl, _, _, rfl, rfl, ?_⟩
        cases o with
        | none =>
          refine ⟨_, rfl, _, rfl, iteT ?_⟩
          refine ⟨⟨_, _, rfl⟩, s3.trans s4, ?_⟩
          rw [ahead_snoc ho]
          simpa using s4 _ _ hd3
        | some z =>
          have hzw : IsWd z := gd.wd z (mem_names.mpr ⟨i, j, cellAt_of hrow ho⟩)
          refine ⟨_, rfl, _, rfl, iteF ?_⟩
          refine ⟨_, rfl, z, rfl, by have := hzw.len; omega, fun H5 s5 => ⟨_, rfl, ?_⟩⟩
          rw [show wdB z = true from hzw]
          have hd5 := s5 _ _ (s4 _ _ hd3)
          have hin : inV (.str z) (((spG 0 (g.take i) ++ spR i 0 (row.take j)).map (·.1)).map V.str) = false := by
            rw [inV_strs]
            exact decide_eq_false (ahead_new gd hrow ho)
          refine iteF ⟨_, rfl, _, rfl, d, _, rfl, .inl (.inl (.inl hd5)), rfl, flat_strs _, false, ?_, ?_⟩
          · exact congrArg V.bl hin
          refine iteF ⟨_, rfl, .inl ⟨rfl, _, .inl (.inl hd5)⟩, _, rfl, d, _, _, rfl, rfl, hd5, ?_, ?_⟩
          · rw [List.length_map]
            exact small1000 (by have := ahead_len gd hrow (j := j); omega)
          · refine ⟨⟨_, _, rfl⟩, same_mut ((s3.trans s4).trans s5) hd, ?_⟩
            rw [upd_same, ahead_snoc ho]
            simp [oV]
      · rintro σ H3 ⟨⟨z4, z5, rfl⟩, s3, hd3⟩
        refine ⟨⟨_, _, _, _, rfl⟩, s3, ?_⟩
        rw [List.length_map, List.take_length] at hd3
        rw [take_snoc hrow, spG_snoc, len_take hrow, Nat.zero_add]
        exact hd3
    · rintro σ H3 ⟨⟨y2, y3, y4, y5, rfl⟩, s3, hd3⟩
      exact q H3 s3
/-! ### spots_in of a good grid -/
def spSpotsIn : Sp := fun vs H Q _ => ∃ (L : Addr) (g : Grid) (wd : Nat), vs = [.ref L] ∧ GridAt H L g ∧ Good g wd ∧
  ∀ (d : Addr) (H' : Hp), H d = none → Same H H' → SpotsAt H' d (spG 0 g) → Q (.ref d) H'
abbrev nSpotsIn : List Str := ["rows", "at", "row", "column", "part"]
theorem scSpotsIn : FnScope nSpotsIn ["rows"] (defScope sSpotsIn) := ⟨rfl, rfl, rfl, by decide +kernel, rfl, by decide +kernel, by decide +kernel⟩
theorem ok_spotsin (F : Fun K "spots_in" "spots_in" sSpotsIn f fd) (B : Bi mg) : FnOk P w K mg base CX0 1 f fd ["rows"] spSpotsIn := by
  refine F.ok scSpotsIn (fun vs H Q E h => ?_) (fun cdv A outer s H vs Q E hr h => ?_)
  · obtain ⟨L, g, wd, rfl, _⟩ := h
    rfl
  · obtain ⟨L, g, wd, rfl, hG, gd, q⟩ := h
    refine ⟨_, pss_one (ps_ret (pe_dc2 (own := [("at", 1), ("row", 2), ("column", 3), ("part", 4)]) (vs1 := [3, 4]) (ga := gTup K 2 (gCons (gName 1) (gCons (gName 2) gNil))) (tta := tYes) (wb := iEnumT K (tCons (tVar 2) tNil)) (gb := gTup K 2 (gCons (gName 3) (gCons (gName 4) gNil))) (ttb := tB (tNotN (tVar 4))) (tk := tVar 4) (tv := tTup (tCons (tVar 1) (tCons (tVar 3) tNil))) rfl scSpotsIn.nd (pi_enumT (by rfl) B.enum (pa_cons (pv 0) pa_nil)) (blkOk_by (N := nSpotsIn) (sc := defScope sSpotsIn) (by decide +kernel)) (by decide)
      (fun _ _ _ _ _ => pg_tup rfl (pgs_cons (pg_name (i := 1) scSpotsIn.nd rfl (.inl rfl)) (pgs_cons (pg_name (i := 2) scSpotsIn.nd rfl (.inl rfl)) pgs_nil))) (fun _ _ _ _ _ => pts_nil)
      (fun _ _ _ _ _ => pi_enumT (by rfl) B.enum (pa_cons (pv 2) pa_nil)) (fun _ _ _ _ _ => pg_tup rfl (pgs_cons (pg_name (i := 3) scSpotsIn.nd rfl (.inl rfl)) (pgs_cons (pg_name (i := 4) scSpotsIn.nd rfl (.inl rfl)) pgs_nil)))
      (fun _ _ _ _ _ => pts_one (pt_cmp (pc_notN (pv 4)))) (fun _ _ _ _ _ => pv 4) (fun _ _ _ _ _ => pe_tup (pa_cons (pv 1) (pa_cons (pv 3) pa_nil))))), ?_⟩
    obtain ⟨as, hL, hR⟩ := id hG
    refine ⟨_, rfl, L, _, rfl, .inl (.inl hL), fun d hd => dc2_it (walk_enumT (K := K) (a := L) (xs := as.map V.ref)) (fun i H' => Same H H' ∧ SpotsAt H' d (spG 0 (g.take i))) ⟨same_new hd, [], upd_same, .nil⟩ (fun i H' _ h => .inl (.inl (h.1 _ _ hL))) ?_ ?_⟩
    · rintro i x H1 H2 hi ⟨s1, kvs1, hd1, e1⟩ ⟨T, x1, x2, rfl, hT, rfl, ex1, ex2⟩
      cases ex1
      have ex2 : (as.map V.ref)[i]? = some x2 := ex2
      rw [List.getElem?_map] at ex2
      obtain ⟨p, hp, rfl⟩ := Option.map_eq_some_iff.mp ex2
      obtain ⟨row, hrow, hH⟩ := hR.get hp
      have s2 : Same H1 (upd H1 T (.tup [.int i, .ref p])) := same_new hT
      have hp2 := s2 _ _ (s1 _ _ hH)
      refine ⟨T, _, rfl, .inl (.inl upd_same), rfl, _, _, rfl, _, _, rfl, rfl, rfl, yes_it ?_⟩
      refine ⟨_, rfl, p, _, rfl, .inl (.inl hp2), inn_it (walk_enumT (K := K) (a := p) (xs := row.map oV)) (fun j H' => Same H H' ∧ SpotsAt H' d (spG 0 (g.take i) ++ spR i 0 (row.take j)))
        ⟨s1.trans s2, kvs1, s2 _ _ hd1, by simpa [spR] using ent_keep (tk_same s2) e1⟩ (fun j H' _ h => .inl (.inl (h.1 _ _ hH))) ?_ ?_⟩
      · rintro j x H3 H4 hj ⟨s3, kvs3, hd3, e3⟩ ⟨T2, x1, x2, rfl, hT2, rfl, ex1, ex2⟩
        cases ex1
        have ex2 : (row.map oV)[j]? = some x2 := ex2
        rw [List.getElem?_map] at ex2
        obtain ⟨o, ho, rfl⟩ := Option.map_eq_some_iff.mp ex2
        have s4 : Same H3 (upd H3 T2 (.tup [.int j, oV o])) := same_new hT2
        refine ⟨T2, _, rfl, .inl (.inl upd_same), rfl, _, _, rfl, _, _, rfl, rfl, rfl, ?_⟩
        cases o with
        | none =>
          refine ⟨_, rfl, _, rfl, iteF ?_⟩
          refine ⟨s3.trans s4, kvs3, s4 _ _ hd3, ?_⟩
          rw [ahead_snoc ho]
          simpa using ent_keep (tk_same s4) e3
        | some z =>
          refine ⟨_, rfl, _, rfl, iteT ?_⟩
          have hd5 := s4 _ _ hd3
          have e5 := ent_keep (tk_same s4) e3
          have hv : valV kvs3 (Sum.inr z : Key) = none := ent_none e5 (ahead_new gd hrow ho)
          refine ⟨_, rfl, _, rfl, _, rfl, lz, fun T6 hT6 => ?_⟩
          have hd6 := (same_new (o := .tup [.int i, .int j]) hT6) _ _ hd5
          refine ⟨kvs3, Sum.inr z, rfl, hd6, ?_, same_mut ((s3.trans s4).trans (same_new hT6)) hd, kvs3 ++ [(Sum.inr z, .ref T6)], ?_, ?_⟩
          · have h1 := e5.length
            have h2 := ahead_len gd hrow (j := j)
            rw [List.length_map] at h2
            exact small1000 (by omega)
          · rw [putK_new _ hv, upd_same]
          · rw [ahead_snoc ho]
            refine Each.append (ent_keep (tk_updD hd6) (ent_keep (tk_new hT6) e5)) (.cons ⟨rfl, T6, rfl, ?_⟩ .nil)
            exact (tk_updD hd6) _ _ upd_same
      · rintro H3 ⟨s3, kvs3, hd3, e3⟩
        refine ⟨s3, kvs3, hd3, ?_⟩
        rw [List.length_map, List.take_length] at e3
        rw [take_snoc hrow, spG_snoc, len_take hrow, Nat.zero_add]
        exact e3
    · rintro H3 ⟨s3, kvs3, hd3, e3⟩
      have hlen : (as.map V.ref).length = g.length := by rw [List.length_map, hR.length]
      rw [hlen, List.take_length] at e3
      exact q d H3 hd s3 ⟨kvs3, hd3, e3⟩
/-! ### checked_spots of a good grid -/
def spSpots : Sp := fun vs H Q _ => ∃ (L : Addr) (g : Grid) (wd : Nat), vs = [.ref L] ∧ GridAt H L g ∧ Good g wd ∧
  ∀ (d : Addr) (H' : Hp), H d = none → Same H H' → SpotsAt H' d (spG 0 g) → Q (.ref d) H'
abbrev nSpots : List Str := ["rows", "wrong", "spots"]
theorem scSpots : FnScope nSpots ["rows"] (defScope sSpots) := ⟨rfl, rfl, rfl, by decide +kernel, rfl, by decide +kernel, by decide +kernel⟩
theorem ok_spots (F : Fun K "checked_spots" "checked_spots" sSpots f fd) (hA : Has P w K mg base "are_rows" 1 ["thing"] spAreRows) (hW : Has P w K mg base "wrong_spot" 2 ["rows"] spWrong) (hS : Has P w K mg base "spots_in" 1 ["rows"] spSpotsIn) :
    FnOk P w K mg base CX0 3 f fd ["rows"] spSpots := by
  refine F.ok scSpots (fun vs H Q E h => ?_) (fun cdv A outer s H vs Q E hr h => ?_)
  · obtain ⟨L, g, wd, rfl, _⟩ := h
    rfl
  · obtain ⟨L, g, wd, rfl, hG, gd, q⟩ := h
    refine ⟨_, pss_cons (ps_if (pt_not (pt_val (pe_h hA hr (pa_cons (pv 0) pa_nil)))) (pss_one ps_never) pss_nil)
      (pss_cons (ps_set (i := 1) scSpots.nd rfl (.inl rfl) (pe_h hW hr (pa_cons (pv 0) pa_nil)))
      (pss_cons (ps_if (pt_cmp (pc_notN (pv 1))) (pss_one ps_never) pss_nil)
      (pss_cons (ps_set (i := 2) scSpots.nd rfl (.inl rfl) (pe_h hS hr (pa_cons (pv 0) pa_nil)))
      (pss_cons (ps_if (pt_not (pt_truth (pv 2) (by intro _; rfl))) (pss_one ps_never) pss_nil)
      (pss_one (ps_ret (pv 2))))))), ?_⟩
    refine ⟨_, rfl, L, g, wd, rfl, hG, gd, true, rfl, iteF ?_⟩
    refine ⟨_, rfl, L, g, wd, rfl, hG, gd, fun H1 s1 => ⟨_, rfl, _, rfl, iteF ?_⟩⟩
    have hG1 : GridAt H1 L g := hG.keep (tk_same s1)
    refine ⟨_, rfl, L, g, wd, rfl, hG1, gd, fun d H2 hd s2 ⟨kvs, hk, he⟩ => ?_⟩
    have hne : kvs.isEmpty = false := by
      cases kvs with
      | nil =>
        have h1 := he.length
        have h2 : ((spG 0 g).map (·.1)).length = (names g).length := by rw [spG_fst]
        rw [List.length_map] at h2
        have h3 : names g = [] := List.eq_nil_of_length_eq_zero (by rw [← h2, ← h1]; rfl)
        exact absurd h3 gd.ne
      | cons a r => rfl
    refine ⟨_, rfl, _, .inr (.inr ⟨kvs, hk, rfl⟩), ?_⟩
    rw [hne]
    refine iteF ⟨_, rfl, q d H2 (s1.free hd) (s1.trans s2) ⟨kvs, hk, he⟩⟩
end
end Wl





namespace Wl
open PySem PySem.Spec PyProof.Rows L2
section
variable {J : It} {ys : List V} {G : Hp → Prop} {slot slot1 : Nat} {wi1 : TI} {tt1 : TT} {te : TE} {vs vs1 : List Nat} {σ : L2.St} {H1 : Hp} {D : Addr} {Qd : Hp → Prop}
theorem flat_take_snoc {α β : Type} {f : α → List β} {ys : List α} {i : Nat} {x : α} (h : ys[i]? = some x) : (ys.take (i + 1)).flatMap f = (ys.take i).flatMap f ++ f x := by
  rw [List.take_add_one, h, List.flatMap_append]
  simp
/-- [e for x in ys for y in inn x if t]: the heap only growing -/
theorem lc2_rel (w : L2.Walk J ys.length G (YAt ys)) (hD : H1 D = none) (inn : V → List V) (keep : V → V → Bool) (R : V → V → V → Hp → Prop) (N : Nat)
    (hG : ∀ H, Same H1 H → G H)
    (hw : ∀ x, wipe ((wipe σ vs).set slot (some x)) vs = wipe σ vs)
    (hw1 : ∀ x y, wipe ((wipe ((wipe σ vs).set slot (some x)) vs1).set slot1 (some y)) vs1 = wipe ((wipe σ vs).set slot (some x)) vs1)
    (hi : ∀ (x : V) (H : Hp) (acc : List V), x ∈ ys → Same H1 H → H D = some (.lst acc) → ∀ Rr : It → Hp → Prop,
      (∀ J1 H4 G1, Same H H4 → L2.Walk J1 (inn x).length G1 (YAt (inn x)) → (∀ H', SameX D H4 H' → G1 H') → Rr J1 H4) → wi1 ((wipe σ vs).set slot (some x)) H Rr)
    (ht : ∀ (x y : V) (H : Hp), x ∈ ys → y ∈ inn x → Same H1 H → ∀ Q : Bool → Hp → Prop, Q (keep x y) H → tt1 ((wipe ((wipe σ vs).set slot (some x)) vs1).set slot1 (some y)) H Q)
    (he : ∀ (x y : V) (H : Hp), x ∈ ys → y ∈ inn x → keep x y = true → Same H1 H → ∀ Q : VK, (∀ z H', Same H H' → R x y z H' → Q z H') → te ((wipe ((wipe σ vs).set slot (some x)) vs1).set slot1 (some y)) H Q)
    (hR : ∀ x y z H H' acc, H D = some (.lst acc) → SameX D H H' → R x y z H → R x y z H')
    (hl : ∀ x ∈ ys, (inn x).length ≤ N) (hn : ys.length * N < sizeLine)
    (hd : ∀ zs H, Same H1 H → H D = some (.lst zs) → Each (fun (xy : V × V) z => R xy.1 xy.2 z H) (ys.flatMap fun x => ((inn x).filter (keep x)).map fun y => (x, y)) zs → Qd H) :
    ∃ W : Nat → Nat → Hp → Prop, (∃ m, W 0 m (upd H1 D (.lst []))) ∧ ∀ i m H, W i m H →
      (J.stop i H ∧ Qd H) ∨ (J.go i H ∧ ∃ Nx : Hp → Prop, (∀ H', Nx H' → ∃ m', m' < m ∧ W (i + 1) m' H') ∧ ∀ x H', J.yld i H x H' → gName slot x (wipe σ vs) H' fun σ2 H2 => wipe σ2 vs = wipe σ vs ∧ tYes σ2 H2 fun b H3 =>
        if b = true then wi1 σ2 H3 fun J1 H4 => ∃ W1 : Nat → Nat → Hp → Prop, (∃ m, W1 0 m H4) ∧ ∀ j k H, W1 j k H →
          (J1.stop j H ∧ Nx H) ∨ (J1.go j H ∧ ∃ Nx1 : Hp → Prop, (∀ H', Nx1 H' → ∃ k', k' < k ∧ W1 (j + 1) k' H') ∧ ∀ x H', J1.yld j H x H' → gName slot1 x (wipe σ2 vs1) H' fun σ3 H5 => wipe σ3 vs1 = wipe σ2 vs1 ∧ tt1 σ3 H5 fun b H6 =>
            if b = true then te σ3 H6 fun y H7 => ∃ acc, H7 D = some (.lst acc) ∧ acc.length < sizeLine ∧ Nx1 (upd H7 D (.lst (acc ++ [y]))) else Nx1 H6)
        else Nx H3) := by
  have cnt : ∀ (l : List V), (∀ x ∈ l, (inn x).length ≤ N) → (l.flatMap fun x => ((inn x).filter (keep x)).map fun y => (x, y)).length ≤ l.length * N := by
    intro l
    induction l with
    | nil => intro _; simp
    | cons x r ih =>
      intro h
      rw [List.flatMap_cons, List.length_append, List.length_map, List.length_cons, Nat.succ_mul]
      have h1 : ((inn x).filter (keep x)).length ≤ (inn x).length := List.length_filter_le _ _
      have h2 := h x List.mem_cons_self
      have h3 := ih fun y hy => h y (List.mem_cons_of_mem _ hy)
      omega
  refine ⟨fun i m H => m = ys.length - i ∧ i ≤ ys.length ∧ ∃ zs, Same H1 H ∧ H D = some (.lst zs) ∧ Each (fun (xy : V × V) z => R xy.1 xy.2 z H) ((ys.take i).flatMap fun x => ((inn x).filter (keep x)).map fun y => (x, y)) zs,
    ⟨ys.length, by simp, Nat.zero_le _, [], same_new hD, upd_same, by simpa using Each.nil⟩, ?_⟩
  rintro i m H ⟨rfl, hi0, zs, s, hz, ez⟩
  by_cases hlt : i < ys.length
  · refine .inr ⟨w.goes i H hlt (hG H s), fun H' => ∃ zs, Same H1 H' ∧ H' D = some (.lst zs) ∧ Each (fun (xy : V × V) z => R xy.1 xy.2 z H') ((ys.take (i + 1)).flatMap fun x => ((inn x).filter (keep x)).map fun y => (x, y)) zs,
      fun H' h => ⟨ys.length - (i + 1), by omega, rfl, hlt, h⟩, fun x H' y => ?_⟩
    obtain ⟨rfl, hx⟩ := w.yields i H x H' hlt (hG H s) y
    have hm : x ∈ ys := List.mem_of_getElem? hx
    have hf := flat_take_snoc (f := fun x => ((inn x).filter (keep x)).map fun y => (x, y)) hx
    refine ⟨hw x, yes_it ?_⟩
    refine hi x _ zs hm s hz _ fun J1 H4 G1 s4 w1 hG1 => ?_
    have hz4 := s4 _ _ hz
    refine ⟨fun j k H => k = (inn x).length - j ∧ j ≤ (inn x).length ∧ ∃ ws, Same H1 H ∧ SameX D H4 H ∧ H D = some (.lst ws) ∧ Each (fun (xy : V × V) z => R xy.1 xy.2 z H) (((ys.take i).flatMap fun x => ((inn x).filter (keep x)).map fun y => (x, y)) ++ (((inn x).take j).filter (keep x)).map fun y => (x, y)) ws,
      ⟨(inn x).length, by simp, Nat.zero_le _, zs, s.trans s4, SameX.refl _ _, hz4, ?_⟩, ?_⟩
    · simpa using ez.mono fun a b r => hR _ _ _ _ _ _ hz (sx s4) r
    · rintro j k H5 ⟨rfl, hj0, ws, s5, x5, hz5, ez5⟩
      by_cases hjt : j < (inn x).length
      · refine .inr ⟨w1.goes j H5 hjt (hG1 H5 x5), fun H' => ∃ ws, Same H1 H' ∧ SameX D H4 H' ∧ H' D = some (.lst ws) ∧ Each (fun (xy : V × V) z => R xy.1 xy.2 z H') (((ys.take i).flatMap fun x => ((inn x).filter (keep x)).map fun y => (x, y)) ++ (((inn x).take (j + 1)).filter (keep x)).map fun y => (x, y)) ws,
          fun H' h => ⟨(inn x).length - (j + 1), by omega, rfl, hjt, h⟩, fun y H' yy => ?_⟩
        obtain ⟨rfl, hy⟩ := w1.yields j H5 y H' hjt (hG1 H5 x5) yy
        have hym : y ∈ inn x := List.mem_of_getElem? hy
        have hf2 := filter_take_snoc (p := keep x) hy
        refine ⟨hw1 x y, ht x y _ hm hym s5 _ ?_⟩
        refine ite_b (fun e => ?_) (fun e => ?_)
        · refine he x y _ hm hym e s5 _ fun z H6 s6 r6 => ⟨ws, s6 _ _ hz5, ?_, ws ++ [z], same_mut (s5.trans s6) hD, ?_, upd_same, ?_⟩
          · have h1 := ez5.length
            have h2 := cnt (ys.take i) fun x hx => hl x (List.mem_of_mem_take hx)
            have h3 : (((inn x).take j).filter (keep x)).length ≤ N := by
              have a1 : (((inn x).take j).filter (keep x)).length ≤ ((inn x).take j).length := List.length_filter_le _ _
              have a2 : ((inn x).take j).length ≤ (inn x).length := List.length_take_le' _ _
              have a3 := hl x hm
              omega
            rw [List.length_append, List.length_map] at h1
            have h4 : (ys.take i).length * N + N ≤ ys.length * N := by
              rw [← Nat.succ_mul]
              refine Nat.mul_le_mul_right N ?_
              rw [List.length_take]
              omega
            omega
          · exact (x5.trans (sx s6)).trans sameX_upd
          · rw [hf2, if_pos e, List.map_append, ← List.append_assoc]
            refine Each.append (ez5.mono fun a b r => ?_) (.cons ?_ .nil)
            · exact hR _ _ _ _ _ _ hz5 (fun b o n h => by rw [upd_ne n]; exact s6 _ _ h) r
            · exact hR _ _ _ _ _ _ (s6 _ _ hz5) sameX_upd r6
        · refine ⟨ws, s5, x5, hz5, ?_⟩
          rw [hf2, if_neg (by rw [e]; decide), List.append_nil]
          exact ez5
      · have e : j = (inn x).length := by omega
        subst e
        refine .inl ⟨w1.stops H5 (hG1 H5 x5), ws, s5, hz5, ?_⟩
        rw [List.take_length] at ez5
        rw [hf]
        exact ez5
  · have e : i = ys.length := by omega
    subst e
    rw [List.take_length] at ez
    exact .inl ⟨w.stops H (hG H s), hd zs H s hz ez⟩
end
end Wl

namespace Wl
open PySem PySem.Spec PyProof.Rows L2
abbrev sCls : Stmt := topS 29
abbrev sInit : Stmt := inClass sCls 0
abbrev sCheck : Stmt := inClass sCls 1
structure Txt (K : PySem.W.Frag) (mg : Str → Option Value) (C : Addr) : Prop where
  cl : Cls K C
  nS : NoAttr K C "spots"
  nR : NoAttr K C "rows"
  mgC : mg "Land" = some (.ref C)
theorem srne : ¬ (("spots" : Str) = "rows") := by decide +kernel
def lf (d L : Addr) : List (Str × V) := putF "rows" (.ref L) (putF "spots" (.ref d) [])
theorem lf_spots (d L : Addr) : (lf d L).lookup ("spots" : Str) = some (.ref d) := by
  unfold lf
  rw [lookup_putF, if_neg srne, lookup_putF, if_pos rfl]
theorem lf_rows (d L : Addr) : (lf d L).lookup ("rows" : Str) = some (.ref L) := by
  unfold lf
  rw [lookup_putF, if_pos rfl]
theorem lf_no (d L : Addr) {m : Str} (h1 : ¬ m = "rows") (h2 : ¬ m = "spots") : (lf d L).lookup m = none := by
  unfold lf
  rw [lookup_putF, if_neg h1, lookup_putF, if_neg h2]
  rfl
def LandAt (C : Addr) (H : Hp) (p L : Addr) (g : Grid) : Prop := ∃ d dx, H p = some (.ins C dx (lf d L)) ∧ SpotsAt H d (spG 0 g) ∧ GridAt H L g
theorem LandAt.keep {C p L : Addr} {H H' : Hp} {g : Grid} (h : LandAt C H p L g) (k : Keep H H') : LandAt C H' p L g := by
  obtain ⟨d, dx, h1, h2, h3⟩ := h
  exact ⟨d, dx, k _ _ ⟨fun _ e => (by cases e), fun _ e => (by cases e)⟩ h1, h2.keep k, h3.keep k.tk⟩
theorem tk_updI {a : Addr} {H : Hp} {C dx : Addr} {fs : List (Str × V)} {o : HO} (ha : H a = some (.ins C dx fs)) : TupKeep H (upd H a o) := fun p xs h => by
  rw [upd_ne (ne_of h ha (by intro z; cases z))]
  exact h
theorem spots_updI {a d : Addr} {H : Hp} {C dx : Addr} {fs : List (Str × V)} {o : HO} {sp : List (Str × Nat × Nat)} (ha : H a = some (.ins C dx fs)) (h : SpotsAt H d sp) : SpotsAt (upd H a o) d sp := by
  obtain ⟨kvs, h1, h2⟩ := h
  exact ⟨kvs, by rw [upd_ne (ne_of h1 ha (by intro z; cases z))]; exact h1, ent_keep (tk_updI ha) h2⟩
section
variable {P : Program} {w : World} {K : PySem.W.Frag} {mg : Str → Option Value} {base : Heap} {f C : Addr} {fd : FuncData}
def spInit (C : Addr) : Sp := fun vs H Q _ => ∃ (p dx L : Addr) (g : Grid) (wd : Nat), vs = [.ref p, .ref L] ∧ H p = some (.ins C dx []) ∧ GridAt H L g ∧ Good g wd ∧
  ∀ (H' : Hp), (∀ b o, b ≠ p → H b = some o → H' b = some o) → LandAt C H' p L g → Q .non H'
theorem scInit : FnScope ["self", "rows"] ["self", "rows"] (defScope sInit) := ⟨rfl, rfl, rfl, by decide +kernel, rfl, by decide +kernel, by decide +kernel⟩
theorem ok_init (F : Fun K "__init__" "Land.__init__" sInit f fd) (T : Txt K mg C) (hS : Has P w K mg base "checked_spots" 3 ["rows"] spSpots) : FnOk P w K mg base CX0 4 f fd ["self", "rows"] (spInit C) := by
  refine F.ok scInit (fun vs H Q E h => ?_) (fun cdv A outer s H vs Q E hr h => ?_)
  · obtain ⟨p, dx, L, g, wd, rfl, _⟩ := h
    rfl
  · obtain ⟨p, dx, L, g, wd, rfl, hp, hG, gd, q⟩ := h
    refine ⟨_, pss_cons (ps_fld (pv 0) (pe_h hS hr (pa_cons (pv 1) pa_nil)) rfl) (pss_one (ps_fld (pv 0) (pv 1) rfl)), ?_⟩
    refine ⟨_, rfl, L, g, wd, rfl, hG, gd, fun d H1 hd s1 sp1 => ?_⟩
    have hp1 := s1 _ _ hp
    refine ⟨_, rfl, p, C, dx, [], rfl, hp1, T.cl, T.nS, (by show 0 < 1000; decide), ?_⟩
    refine ⟨_, rfl, _, rfl, p, C, dx, _, rfl, upd_same, T.cl, T.nR, (by show 1 < 1000; decide), ?_⟩
    refine q _ (fun b o n e => ?_) ⟨d, dx, upd_same, spots_updI upd_same (spots_updI hp1 sp1), ((hG.keep (tk_same s1)).keep (tk_updI hp1)).keep (tk_updI upd_same)⟩
    rw [upd_ne n, upd_ne n]
    exact s1 _ _ e

/-! ### names -/
def sd (z : Str) : V × PyData := (.str z, .str z)
theorem sort_strs (xs : List Str) : ((xs.map sd).mergeSort (PySem.W.dataLe false (·.2))).map (·.1) = (sortS xs).map V.str := by
  have h : (sortS xs).map sd = (xs.map sd).mergeSort (PySem.W.dataLe false (·.2)) := List.map_mergeSort fun a _ b _ => by
    rw [PySem.W.dataLe_eq]
    exact (le_data_str a b).symm
  rw [← h, List.map_map]
  rfl
theorem alike_strs (xs : List Str) : PySem.W.AllAlike ((xs.map sd).map (·.2)) := by
  intro d hd e he
  obtain ⟨b, hb, rfl⟩ := List.mem_map.mp hd
  obtain ⟨x, _, rfl⟩ := List.mem_map.mp hb
  obtain ⟨c, hc, rfl⟩ := List.mem_map.mp he
  obtain ⟨y, _, rfl⟩ := List.mem_map.mp hc
  rfl
theorem sortable_strs (xs : List Str) : PySem.W.Sortable ((xs.map sd).map (·.2)) := .inr fun d hd => by
  obtain ⟨b, hb, rfl⟩ := List.mem_map.mp hd
  obtain ⟨x, _, rfl⟩ := List.mem_map.mp hb
  exact ⟨(fun e => by cases e), (fun ys e => by cases e)⟩
/-- sorted of a list of texts, as a reading -/
theorem sort_reads {H : Hp} {Q : VK} {a : Addr} {xs : List Str} (h : SqL K H a (xs.map V.str)) (q : ∀ p, H p = none → Q (.ref p) (upd H p (.lst ((sortS xs).map V.str)))) : rSortD K [.ref a] H Q := by
  refine ⟨a, xs.map sd, rfl, ?_, ?_, alike_strs xs, sortable_strs xs, ?_, fun p hp => ?_⟩
  · rw [List.map_map]
    exact h
  · intro b hb
    obtain ⟨x, _, rfl⟩ := List.mem_map.mp hb
    exact .str x
  · intro b hb
    obtain ⟨x, _, rfl⟩ := List.mem_map.mp hb
    show PyData.depth (.str x) ≤ 8
    simp [PyData.depth]
  · rw [sort_strs]
    exact q p hp
def spCheck (C : Addr) : Sp := fun vs H Q _ => ∃ (p L : Addr) (g : Grid) (wd : Nat) (z : Str), vs = [.ref p, .str z] ∧ LandAt C H p L g ∧ Good g wd ∧ z ∈ names g ∧ ∀ (H' : Hp), Same H H' → Q .non H'
theorem scCheck : FnScope ["self", "name"] ["self", "name"] (defScope sCheck) := ⟨rfl, rfl, rfl, by decide +kernel, rfl, by decide +kernel, by decide +kernel⟩
theorem ok_check (F : Fun K "check_name" "Land.check_name" sCheck f fd) (T : Txt K mg C) (hI : Has P w K mg base "is_word" 1 ["thing"] spIsWord) : FnOk P w K mg base CX0 2 f fd ["self", "name"] (spCheck C) := by
  refine F.ok scCheck (fun vs H Q E h => ?_) (fun cdv A outer s H vs Q E hr h => ?_)
  · obtain ⟨p, L, g, wd, z, rfl, _⟩ := h
    rfl
  · obtain ⟨p, L, g, wd, z, rfl, hLa, gd, hz, q⟩ := h
    have hu := hu_of hr
    have hzw := gd.wd z hz
    refine ⟨_, pss_one (ps_if (PW.pt (pw_or (pt_not (pt_val (pe_h hI hr (pa_cons (pv 1) pa_nil)))) (pw_or1 (pt_cmp (pc_dnotin hu (pv 1) (pe_fld (pv 0) rfl)))))) (pss_one ps_never) pss_nil), ?_⟩
    refine ⟨_, rfl, z, rfl, by have := hzw.len; omega, fun H1 s1 => ⟨_, rfl, ?_⟩⟩
    rw [show wdB z = true from hzw]
    refine iteF ?_
    obtain ⟨d, dx, hp, ⟨kvs, hd, he⟩, hG⟩ := hLa.keep (kp_same s1)
    obtain ⟨r, c, hc⟩ := mem_names.mp hz
    obtain ⟨t, hv, ht⟩ := ent_some he (by rw [spG_fst]; exact gd.nd) (spG_cell.mpr hc)
    refine ⟨_, rfl, _, rfl, p, C, dx, _, _, rfl, hp, T.cl, T.nS, lf_spots _ _, d, _, rfl, DGet.k (k := Sum.inr z) hd, _, rfl, ?_⟩
    rw [hv]
    exact iteF (q H1 s1)
end
end Wl





namespace Wl
open PySem PySem.Spec PyProof.Rows L2
/-- at most six rows of at most six -/
structure Sized (g : Grid) (wd : Nat) : Prop where
  h6 : g.length ≤ 6
  w6 : wd ≤ 6
  rows : ∀ r ∈ g, r.length = wd
theorem Good.sized {g : Grid} {wd : Nat} (G : Good g wd) : Sized g wd := ⟨G.h6, G.w6, G.rows⟩
section
variable {P : Program} {w : World} {K : PySem.W.Frag} {mg : Str → Option Value} {base : Heap} {f C : Addr} {fd : FuncData}
/-! ### the law's own names -/
def spNames : Sp := fun vs H Q _ => ∃ (L : Addr) (g : Grid) (wd : Nat), vs = [.ref L] ∧ GridAt H L g ∧ Sized g wd ∧
  ∀ (t : Addr) (H' : Hp), H t = none → Same H H' → H' t = some (.lst ((sortS (names g)).map V.str)) → Q (.ref t) H'
abbrev nNames : List Str := ["_law_lots", "_law_found", "_law_row_here", "_law_label"]
theorem scNames : FnScope nNames ["_law_lots"] (defScope sNames) := ⟨rfl, rfl, rfl, by decide +kernel, rfl, by decide +kernel, by decide +kernel⟩
theorem row_filter (row : Row) : ((row.map oV).filter fun v => !decide (v = .non)).map id = (rnames row).map V.str := by
  rw [List.map_id]
  induction row with
  | nil => rfl
  | cons o r ih =>
    cases o with
    | none => exact ih
    | some z => exact congrArg (V.str z :: ·) ih
theorem names_take {g : Grid} {i : Nat} {row : Row} (h : g[i]? = some row) : names (g.take (i + 1)) = names (g.take i) ++ rnames row := by
  rw [take_snoc h, names_snoc]
theorem ok_names (F : Fun K "_law_names" "_law_names" sNames f fd) (B : Bi mg) : FnOk P w K mg base CX0 1 f fd ["_law_lots"] spNames := by
  refine F.ok scNames (fun vs H Q E h => ?_) (fun cdv A outer s H vs Q E hr h => ?_)
  · obtain ⟨L, g, wd, rfl, _⟩ := h
    rfl
  · obtain ⟨L, g, wd, rfl, ⟨as, hL, hR⟩, gd, q⟩ := h
    refine ⟨_, pss_cons (ps_set (i := 1) scNames.nd rfl (.inl rfl) (pe_lst pa_nil))
      (pss_cons (ps_for PassesOwn.never rfl (pi_tup (pv 0)) (pg_name (i := 2) scNames.nd rfl (.inl rfl))
        (pss_one (ps_expr (pe_bm PySem.F.plainAttrs_list PySem.F.slot_list_extend PySem.F.type_list_extend mt_extend (pv 1) (pa_cons
          (pe_lc (own := [("_law_label", 3)]) (g := gName 3) (tt := tB (tNotN (tVar 3))) rfl scNames.nd (pi_tup (pv 2)) (blkOk_by (N := nNames) (sc := defScope sNames) (by decide +kernel)) (fun _ _ _ _ _ => pg_name (i := 3) scNames.nd rfl (.inl rfl))
            (fun _ _ _ _ _ => pts_one (pt_cmp (pc_notN (pv 3)))) (fun _ _ _ _ _ => pv 3)) pa_nil)))))
      (pss_one (ps_ret (pe_callB (cr_sortD hr.units) (by rfl) B.sorted (by decide +kernel) (pa_cons (pv 1) pa_nil))))), ?_⟩
    refine ⟨lz, fun fA hf => ?_⟩
    have s0 : Same H (upd H fA (.lst [])) := same_new hf
    have hlen : (as.map V.ref).length = g.length := by rw [List.length_map, hR.length]
    refine ⟨_, rfl, L, rfl, ⟨_, .inl (.inl (s0 _ _ hL))⟩, for_tup (K := K) (a := L) (xs := as.map V.ref) (fun i σ H' => (∃ y2 y3, σ = [some (.ref L), some (.ref fA), y2, y3]) ∧ Same H H' ∧ H' fA = some (.lst ((names (g.take i)).map V.str)))
      ⟨⟨_, _, rfl⟩, s0, upd_same⟩ (fun i σ H' _ h => .inl (.inl (h.2.1 _ _ hL))) ?_ ?_⟩
    · rintro i x σ H1 hx ⟨⟨y2, y3, rfl⟩, s1, hf1⟩
      rw [List.getElem?_map] at hx
      obtain ⟨p, hp, rfl⟩ := Option.map_eq_some_iff.mp hx
      obtain ⟨row, hrow, hH⟩ := hR.get hp
      have hrl := gd.rows row (List.mem_of_getElem? hrow)
      refine ⟨_, rfl, .inl ⟨rfl, _, .inl (.inl hf1)⟩, _, rfl, p, rfl, ⟨_, .inl (.inl (s1 _ _ hH))⟩, fun D hD => ?_⟩
      refine lc_map (walk_tup (K := K) (a := p) (xs := row.map oV)) hD (fun v => !decide (v = .non)) id (fun H' s' => .inl (.inl (s' _ _ (s1 _ _ hH)))) (fun _ => rfl) ?_ ?_ ?_ ?_
      · intro x H' hx s' Q' q'
        exact ⟨_, rfl, _, rfl, q'⟩
      · intro x H' hx _ _ Q' q'
        exact ⟨_, rfl, q'⟩
      · rw [List.length_map]
        exact small1000 (by have := gd.w6; omega)
      · intro H2 s2 hD2
        rw [row_filter] at hD2
        have hf2 := s2 _ _ hf1
        refine ⟨fA, D, _, _, rfl, rfl, hf2, hD2, ?_, ⟨_, _, rfl⟩, same_mut (s1.trans s2) hf, ?_⟩
        · rw [List.length_map, List.length_map]
          have a1 := len_names (g := g.take i) (wd := wd) fun r hr => gd.rows r (List.mem_of_mem_take hr)
          have a2 : (g.take i).length ≤ 6 := by rw [List.length_take]; have := gd.h6; omega
          have a3 : (g.take i).length * wd ≤ 6 * 6 := Nat.mul_le_mul a2 gd.w6
          have a4 : (rnames row).length ≤ row.length := List.length_filterMap_le id _
          have a7 := gd.w6
          exact lzl (by omega)
        · rw [upd_same, names_take hrow, List.map_append]
    · rintro σ H1 ⟨⟨y2, y3, rfl⟩, s1, hf1⟩
      rw [hlen, List.take_length] at hf1
      refine ⟨_, rfl, ?_⟩
      dsimp only [tNil]
      refine sort_reads (K := K) (.inl (.inl hf1)) fun p hp => ?_
      exact q p _ (s1.free hp) (s1.trans (same_new hp)) upd_same

theorem grid_get {H : Hp} {L : Addr} {g : Grid} {wd : Nat} (gd : Good g wd) {as : List Addr} (hL : H L = some (.tup (as.map V.ref))) (hR : RowsAt H as g) {x y : Int} (hx : 0 ≤ x ∧ x < g.length) (hy : 0 ≤ y ∧ y < wd) :
    ∃ (p : Addr) (row : Row), atI (as.map V.ref) x = some (.ref p) ∧ H p = some (.tup (row.map oV)) ∧ row.length = wd ∧ atI (row.map oV) y = some (oV (cellAt g x.toNat y.toNat)) := by
  have hx2 : x.toNat < g.length := by omega
  have hg : g[x.toNat]? = some g[x.toNat] := List.getElem?_eq_getElem hx2
  obtain ⟨p, hp, hH⟩ := hR.get2 hg
  have hw := gd.rows _ (List.mem_of_getElem? hg)
  have hy2 : y.toNat < g[x.toNat].length := by omega
  refine ⟨p, g[x.toNat], at_of (j := x.toNat) (by omega) (by rw [List.getElem?_map, hp]; rfl), hH, hw, at_of (j := y.toNat) (by omega) ?_⟩
  rw [List.getElem?_map, List.getElem?_eq_getElem hy2, cellAt_of hg (List.getElem?_eq_getElem hy2)]
  rfl
end
end Wl





/-! A land's text. -/
namespace Wl
open PySem PySem.Spec PyProof.Rows L2
def partS : Option Str → Str
  | none => "-"
  | some z => z
def lineS (row : Row) : Str := Txt.join (" " : Str) (row.map partS)
def landS (g : Grid) : Str := Txt.join ("\n" : Str) (g.map lineS)
theorem tl_dash : TL.tl ("-" : Str) = [45] := by decide +kernel
theorem tl_blank : TL.tl (" " : Str) = [32] := by decide +kernel
theorem tl_end : TL.tl ("\n" : Str) = [10] := by decide +kernel
theorem wd_tl {z : Str} (h : IsWd z) : (1 ≤ (TL.tl z).length ∧ (TL.tl z).length ≤ 8) ∧ ∀ c ∈ TL.tl z, 97 ≤ c ∧ c ≤ 122 := by
  refine ⟨by rw [← TL.len_tl]; exact h.len, ?_⟩
  unfold IsWd wdB at h
  simp only [Bool.and_eq_true, decide_eq_true_eq, List.all_eq_true] at h
  exact h.2
theorem wd_dash {z : Str} (h : IsWd z) : z ≠ "-" := fun e => by
  have := (wd_tl h).2 45 (by rw [e, tl_dash]; simp)
  omega
/-- a part of a row -/
def OkP (o : Option Str) : Prop := ∀ z, o = some z → IsWd z
theorem part_tl {o : Option Str} (h : OkP o) : (TL.tl (partS o)).length ≤ 8 ∧ ∀ c ∈ TL.tl (partS o), 45 ≤ c ∧ c ≤ 122 := by
  cases o with
  | none =>
    show (TL.tl ("-" : Str)).length ≤ 8 ∧ ∀ c ∈ TL.tl ("-" : Str), 45 ≤ c ∧ c ≤ 122
    rw [tl_dash]
    exact ⟨by decide, fun c hc => by rw [List.mem_singleton.mp hc]; decide⟩
  | some z =>
    have := wd_tl (h z rfl)
    exact ⟨this.1.2, fun c hc => ⟨by have := this.2 c hc; omega, (this.2 c hc).2⟩⟩
theorem join_mem {S : List Nat} {c : Nat} : ∀ {ps : List (List Nat)}, c ∈ TL.joinL S ps → c ∈ S ∨ ∃ p ∈ ps, c ∈ p
  | [], h => by cases h
  | [p], h => .inr ⟨p, List.mem_singleton.mpr rfl, h⟩
  | p :: q :: r, h => by
    have h : c ∈ p ++ (S ++ TL.joinL S (q :: r)) := h
    rcases List.mem_append.mp h with h | h
    · exact .inr ⟨p, List.mem_cons_self, h⟩
    · rcases List.mem_append.mp h with h | h
      · exact .inl h
      · rcases join_mem h with h | ⟨u, hu, h⟩
        · exact .inl h
        · exact .inr ⟨u, List.mem_cons_of_mem _ hu, h⟩
theorem join_size {S : List Nat} {m : Nat} : ∀ {ps : List (List Nat)}, (∀ p ∈ ps, p.length ≤ m) → (TL.joinL S ps).length ≤ ps.length * (m + S.length)
  | [], _ => by simp [TL.joinL]
  | [p], h => by
    have := h p (List.mem_singleton.mpr rfl)
    show p.length ≤ _
    simp
    omega
  | p :: q :: r, h => by
    have h1 := h p List.mem_cons_self
    have h2 := join_size (S := S) (m := m) (ps := q :: r) fun u hu => h u (List.mem_cons_of_mem _ hu)
    show (p ++ (S ++ TL.joinL S (q :: r))).length ≤ _
    rw [List.length_append, List.length_append, List.length_cons, Nat.succ_mul]
    omega
theorem line_tl (row : Row) : TL.tl (lineS row) = TL.joinL [32] (row.map fun o => TL.tl (partS o)) := by
  unfold lineS
  rw [TL.join_eq, TL.tl_join, tl_blank, List.map_map]
  rfl
theorem line_codes {row : Row} (h : ∀ o ∈ row, OkP o) {c : Nat} (hc : c ∈ TL.tl (lineS row)) : c = 32 ∨ (45 ≤ c ∧ c ≤ 122) := by
  rw [line_tl] at hc
  rcases join_mem hc with hc | ⟨p, hp, hc⟩
  · exact .inl (List.mem_singleton.mp hc)
  · obtain ⟨o, ho, rfl⟩ := List.mem_map.mp hp
    exact .inr ((part_tl (h o ho)).2 c hc)
theorem line_len {row : Row} (h : ∀ o ∈ row, OkP o) (h6 : row.length ≤ 6) : (lineS row).length ≤ 54 := by
  rw [TL.len_tl, line_tl]
  have := join_size (S := [32]) (m := 8) (ps := row.map fun o => TL.tl (partS o)) fun p hp => by
    obtain ⟨o, ho, rfl⟩ := List.mem_map.mp hp
    exact (part_tl (h o ho)).1
  rw [List.length_map] at this
  simp at this
  omega
theorem line_split {row : Row} (h : ∀ o ∈ row, OkP o) (ne : row ≠ []) : Txt.split (lineS row) (" " : Str) = row.map partS := by
  unfold lineS
  refine TL.split_join tl_blank (by decide +kernel) (fun e => ne (List.map_eq_nil_iff.mp e)) fun p hp hc => ?_
  obtain ⟨o, ho, rfl⟩ := List.mem_map.mp hp
  have := (part_tl (h o ho)).2 32 hc
  omega
theorem land_split {g : Grid} (h : ∀ r ∈ g, ∀ o ∈ r, OkP o) (ne : g ≠ []) : Txt.split (landS g) ("\n" : Str) = g.map lineS := by
  unfold landS
  refine TL.split_join tl_end (by decide +kernel) (fun e => ne (List.map_eq_nil_iff.mp e)) fun p hp hc => ?_
  obtain ⟨r, hr, rfl⟩ := List.mem_map.mp hp
  have := line_codes (h r hr) hc
  omega
theorem land_len {g : Grid} (h : ∀ r ∈ g, ∀ o ∈ r, OkP o) (hg : g.length ≤ 6) (hr : ∀ r ∈ g, r.length ≤ 6) : (landS g).length ≤ 330 := by
  unfold landS
  rw [TL.len_tl, TL.join_eq, TL.tl_join, tl_end]
  have := join_size (S := [10]) (m := 54) (ps := (g.map lineS).map TL.tl) fun p hp => by
    obtain ⟨z, hz, rfl⟩ := List.mem_map.mp hp
    obtain ⟨r, hr', rfl⟩ := List.mem_map.mp hz
    rw [← TL.len_tl]
    exact line_len (h r hr') (hr r hr')
  rw [List.length_map, List.length_map] at this
  have e : (54 + [10].length) = 55 := rfl
  rw [e] at this
  omega
theorem names_part {g : Grid} (h : ∀ z ∈ names g, IsWd z) : ∀ r ∈ g, ∀ o ∈ r, OkP o := fun r hr o ho z e => h z (by
  unfold names
  rw [List.mem_filterMap]
  exact ⟨o, List.mem_flatten.mpr ⟨r, hr, ho⟩, e⟩)
theorem Good.parts {g : Grid} {wd : Nat} (G : Good g wd) : ∀ r ∈ g, ∀ o ∈ r, OkP o := names_part G.wd
theorem Good.nn {g : Grid} {wd : Nat} (G : Good g wd) : g ≠ [] := fun e => by
  have := G.h1
  rw [e] at this
  simp at this
theorem Good.six {g : Grid} {wd : Nat} (G : Good g wd) : ∀ r ∈ g, r.length ≤ 6 := fun r hr => by
  rw [G.rows r hr]
  exact G.w6
theorem part_inj {o u : Option Str} (h : OkP o) (k : OkP u) (e : partS o = partS u) : o = u := by
  cases o with
  | none =>
    cases u with
    | none => rfl
    | some z => exact absurd e.symm (wd_dash (k z rfl))
  | some y =>
    cases u with
    | none => exact absurd e (wd_dash (h y rfl))
    | some z => exact congrArg some e
theorem map_part_inj : ∀ {r q : Row}, (∀ o ∈ r, OkP o) → (∀ o ∈ q, OkP o) → r.map partS = q.map partS → r = q
  | [], [], _, _, _ => rfl
  | [], _ :: _, _, _, e => by simp at e
  | _ :: _, [], _, _, e => by simp at e
  | o :: r, u :: q, h, k, e => by
    simp only [List.map_cons, List.cons.injEq] at e
    rw [part_inj (h o List.mem_cons_self) (k u List.mem_cons_self) e.1, map_part_inj (fun x hx => h x (List.mem_cons_of_mem _ hx)) (fun x hx => k x (List.mem_cons_of_mem _ hx)) e.2]
theorem line_inj {r q : Row} (h : ∀ o ∈ r, OkP o) (k : ∀ o ∈ q, OkP o) (nr : r ≠ []) (nq : q ≠ []) (e : lineS r = lineS q) : r = q := by
  have := congrArg (fun z => Txt.split z (" " : Str)) e
  simp only [line_split h nr, line_split k nq] at this
  exact map_part_inj h k this
/-- unlike lands have unlike texts -/
theorem land_inj {g g' : Grid} {wd wd' : Nat} (G : Good g wd) (G' : Good g' wd') (e : landS g = landS g') : g = g' := by
  have h := congrArg (fun z => Txt.split z ("\n" : Str)) e
  simp only [land_split G.parts G.nn, land_split G'.parts G'.nn] at h
  have ne : ∀ {l : Grid} {v : Nat}, Good l v → ∀ r ∈ l, r ≠ [] := fun {l v} L r hr q => by
    have h1 := L.rows r hr
    have h2 := L.w1
    rw [q] at h1
    simp at h1
    omega
  have key : ∀ {l m : Grid}, (∀ r ∈ l, r ≠ [] ∧ ∀ o ∈ r, OkP o) → (∀ r ∈ m, r ≠ [] ∧ ∀ o ∈ r, OkP o) → l.map lineS = m.map lineS → l = m := by
    intro l
    induction l with
    | nil =>
      intro m _ _ e
      cases m with
      | nil => rfl
      | cons _ _ => simp at e
    | cons r l ih =>
      intro m hl hm e
      cases m with
      | nil => simp at e
      | cons q m =>
        simp only [List.map_cons, List.cons.injEq] at e
        have a := hl r List.mem_cons_self
        have b := hm q List.mem_cons_self
        rw [line_inj a.2 b.2 a.1 b.1 e.1, ih (fun x hx => hl x (List.mem_cons_of_mem _ hx)) (fun x hx => hm x (List.mem_cons_of_mem _ hx)) e.2]
  exact key (fun r hr => ⟨ne G r hr, G.parts r hr⟩) (fun r hr => ⟨ne G' r hr, G'.parts r hr⟩) h
end Wl

/-! Rules of ours for objects of own classes: len, str, repr, ==, !=, in a list of one, each by the class's own method. -/
namespace Wl
open PySem PySem.Spec PyProof.Rows L2
section
variable {X : Cx} {n : Nat} {f : Addr} {fd : FuncData} {ps : List Str} {sp : Sp} {C : Addr}
theorem v1 (a : Addr) : Vals [V.ref a] [Value.ref a] := .cons rfl .nil
theorem v2 (a b : Addr) : Vals [V.ref a, V.ref b] [Value.ref a, Value.ref b] := .cons rfl (.cons rfl .nil)
/-- an own def called somewhere below the running body -/
theorem run_own {A : Around} {pins : List (Addr × Obj)} {s : Shared} {σ : L2.St} {H : Hp} {vs : List V} {us : List Value} {Q : VK} (F : FnOk X.prog X.w X.K X.mg X.base CX0 n f fd ps sp) (hb : Binds X.K fd ps []) (sb : Sub X n A) (I : L2.Inv X pins σ H s) (r : Vals vs us) (hsp : sp vs H Q E0) :
    wpAny (model X.prog X.w) A (call (.ref f) us) (EP X pins σ Q) X.xe s := by
  have e0 : Env0 X.prog X.w X.K X.mg X.base A X.stack s H := by
    have e := I.env0
    exact ⟨by rw [sb.fr]; exact e.frames, e.mod, e.bs, e.bsz, e.funs, e.frf, e.hok, e.bare⟩
  have hl := F.len _ _ _ _ hsp
  have hb' : BindsTo s fd ⟨us, []⟩ (ps.zip us) := by
    have := hb s us I.kIn (by rw [List.append_nil, ← r.length]; exact hl)
    rw [List.append_nil] at this
    exact this
  refine wpAny_call (codeAny_mono (F.run A X.stack s H ⟨us, []⟩ us vs _ E0 sb.room e0 hb' r hsp) fun r s' hq => ?_)
  cases r with
  | error e => exact pass0 pins σ H s e s' I hq
  | ok fl =>
    cases fl with
    | ret w => exact I.after hq
    | next => exact False.elim hq
    | brk => exact False.elim hq
    | cont => exact False.elim hq
/-- len(o) -/
def rLenO (C : Addr) (sp : Sp) : List V → Hp → VK → Prop := fun xs H Q => ∃ a dx fs, xs = [V.ref a] ∧ H a = some (.ins C dx fs) ∧ sp [.ref a] H (fun v H' => ∃ k : Nat, v = .int (k : Int) ∧ k < 2 ^ 62 ∧ Q (.int (k : Int)) H') E0
theorem cr_lenO (F : FnOk X.prog X.w X.K X.mg X.base CX0 n f fd ps sp) (hb : Binds X.K fd ps []) (m : Meth X.K C "__len__" f) (hr : Room (n + 1) X.A) : CallR X (.builtin "len") (rLenO C sp) := by
  intro pins s σ H xs us Q I r h
  obtain ⟨a, dx, fs, rfl, ha, hsp⟩ := h
  obtain ⟨u, rfl, ru⟩ := vals1 r
  obtain rfl : u = Value.ref a := ru
  obtain ⟨mA, J, _⟩ := ins_get I.hok ha
  obtain ⟨od, J, _⟩ := J.look
  obtain ⟨m', hF⟩ := I.fr
  refine PySem.W.len_K hF I.ok.mod.kin J m.at_ m.fn (wpAny_mono (run_own F hb (Sub.in1 ⟨hr, rfl⟩) I (v1 a) hsp) (fun v s' hq => ?_) fun _ _ z => z)
  obtain ⟨z, H', I', rz, k, rfl, hk, q⟩ := hq
  obtain ⟨t, rfl⟩ := rz
  exact ⟨⟨by omega, by omega⟩, .int (k : Int), H', I'.tok _, ⟨_, rfl⟩, q⟩
/-- str(o) -/
def rStrO (C : Addr) (sp : Sp) : List V → Hp → VK → Prop := fun xs H Q => ∃ a dx fs, xs = [V.ref a] ∧ H a = some (.ins C dx fs) ∧ sp [.ref a] H (fun v H' => ∃ z, v = .str z ∧ Q (.str z) H') E0
theorem room_u2 {k : Nat} {A : Around} (r : Room k A) : A.units + 2 < cLine := by have := r.un; omega
theorem cr_strO (F : FnOk X.prog X.w X.K X.mg X.base CX0 n f fd ps sp) (hb : Binds X.K fd ps []) (m : Meth X.K C "__str__" f) (hr : Room (n + 2) X.A) : CallR X (.type "str") (rStrO C sp) := by
  intro pins s σ H xs us Q I r h
  obtain ⟨a, dx, fs, rfl, ha, hsp⟩ := h
  obtain ⟨u, rfl, ru⟩ := vals1 r
  obtain rfl : u = Value.ref a := ru
  obtain ⟨mA, J, _⟩ := ins_get I.hok ha
  obtain ⟨od, J, _⟩ := J.look
  refine PySem.W.kso_call (show X.A.units + 1 + 1 < cLine from room_u2 hr) I.kIn J m.at_ m.fn (wpAny_mono (run_own F hb (Sub.in1 (Sub.in1 ⟨hr, rfl⟩)) I (v1 a) hsp) (fun v s' hq => ?_) fun _ _ z => z)
  obtain ⟨z, H', I', rz, y, rfl, q⟩ := hq
  obtain ⟨t, rfl⟩ := rz
  exact ⟨.str y, H', I', ⟨_, rfl⟩, q⟩
/-- repr(o) -/
theorem cr_reprO (F : FnOk X.prog X.w X.K X.mg X.base CX0 n f fd ps sp) (hb : Binds X.K fd ps []) (m : Meth X.K C "__repr__" f) (hr : Room (n + 1) X.A) : CallR X (.builtin "repr") (rStrO C sp) := by
  intro pins s σ H xs us Q I r h
  obtain ⟨a, dx, fs, rfl, ha, hsp⟩ := h
  obtain ⟨u, rfl, ru⟩ := vals1 r
  obtain rfl : u = Value.ref a := ru
  obtain ⟨mA, J, _⟩ := ins_get I.hok ha
  obtain ⟨od, J, _⟩ := J.look
  obtain ⟨m', hF⟩ := I.fr
  refine PySem.W.repr_K (show X.A.units + 1 < cLine from by have := room_u2 hr; omega) hF I.ok.mod.kin J m.at_ m.fn (wpAny_mono (run_own F hb (Sub.in1 ⟨hr, rfl⟩) I (v1 a) hsp) (fun v s' hq => ?_) fun _ _ z => z)
  obtain ⟨z, H', I', rz, y, rfl, q⟩ := hq
  obtain ⟨t, rfl⟩ := rz
  exact ⟨.str y, H', I', ⟨_, rfl⟩, q⟩
/-- x == y of two of one class -/
def rEqO (C : Addr) (sp : Sp) (g : Bool → Bool) : R2 := fun x y H Q => ∃ a dx fs b dy gs, x = V.ref a ∧ y = V.ref b ∧ H a = some (.ins C dx fs) ∧ H b = some (.ins C dy gs) ∧ sp [.ref a, .ref b] H (fun v H' => ∃ c, v = .bl c ∧ Q (.bl (g c)) H') E0
theorem rc_eqO {A : Around} {pins : List (Addr × Obj)} {s : Shared} {σ : L2.St} {H : Hp} {a b dx dy : Addr} {fs gs : List (Str × V)} {Q : Bool → Hp → Prop} (F : FnOk X.prog X.w X.K X.mg X.base CX0 n f fd ps sp) (hb : Binds X.K fd ps []) (m : Meth X.K C "__eq__" f) (sb : Sub X n A) (I : L2.Inv X pins σ H s)
    (ha : H a = some (.ins C dx fs)) (hb' : H b = some (.ins C dy gs)) (hsp : sp [.ref a, .ref b] H (fun v H' => ∃ c, v = .bl c ∧ Q c H') E0) :
    wpAny (model X.prog X.w) A (richCompare .Eq (.ref a) (.ref b)) (fun v s' => ∃ c, v = .bool c ∧ ∃ H', L2.Inv X pins σ H' s' ∧ Q c H') X.xe s := by
  obtain ⟨mA, J, _⟩ := ins_get I.hok ha
  obtain ⟨mB, J', _⟩ := ins_get I.hok hb'
  obtain ⟨od, J, _⟩ := J.look
  obtain ⟨od', J', _⟩ := J'.look
  obtain ⟨m', hF⟩ := I.fr
  refine PySem.W.cmp_K (op := .Eq) (tb := .ref C) sb.room.units0 hF I.ok.mod.kin J J'.type (by simp [PySem.W.notFirst]) m.at_ m.fn (wpAny_mono (run_own F hb sb I (v2 a b) hsp) (fun v s' hq => ?_) fun _ _ z => z)
  obtain ⟨z, H', I', rz, c, rfl, q⟩ := hq
  cases rz
  exact ⟨c, rfl, H', I', q⟩
theorem op_eqO (F : FnOk X.prog X.w X.K X.mg X.base CX0 n f fd ps sp) (hb : Binds X.K fd ps []) (m : Meth X.K C "__eq__" f) (hr : Room n X.A) : OpR X (compareOp .Eq) (rEqO C sp id) := by
  intro pins s σ H x y v u Q I rx ry h
  obtain ⟨a, dx, fs, b, dy, gs, rfl, rfl, ha, hb', hsp⟩ := h
  cases rx
  cases ry
  show wpAny (model X.prog X.w) X.A (richCompare .Eq (.ref a) (.ref b)) (EP X pins σ Q) X.xe s
  refine wpAny_mono (rc_eqO F hb m ⟨hr, rfl⟩ I ha hb' hsp) (fun v s' hq => ?_) fun _ _ z => z
  obtain ⟨c, rfl, H', I', q⟩ := hq
  exact ⟨.bl c, H', I', rfl, q⟩
/-- what the class says of != -/
structure NeC (K : PySem.W.Frag) (C : Addr) : Prop where
  ne : PySem.W.findIn K (.ref C) "__ne__" = some (some (.builtin "object.__ne__"))
  ob : PySem.W.mroIn K C (.type "object") = some true
theorem ifBound_B {M : Model} {A : Around} {E : Value → Shared → Prop} {s : Shared} {K : PySem.W.Frag} {x C : Addr} {ox : Obj} {od : Option Obj} {name : Str} {id : String} {args : List Value} {Q : Option Value → Shared → Prop} (X : K.In s.heap) (I : PySem.W.InstAt s.heap x ox C od) (hs : PySem.W.findIn K (.ref C) name = some (some (.builtin id)))
    (hb : ∀ self, bindSpecial (.builtin id) self = pure (.builtin id, [self])) (h : wpAny M A (call (.builtin id) (.ref x :: args)) (fun v => Q (some v)) E s) : wpAny M A (callSpecialIfBound? (.ref x) name args) Q E s := by
  simp only [callSpecialIfBound?, bindSpecialIfBound?]
  refine wpAny_holding (wpAny_bind (wpAny_bind (wpAny_bind (I.type.here ((PySem.W.looks_findIn X hs).here ?_)))))
  refine wpAny_bind (wpAny_askSetting (wpAny_ite ?_))
  have fin : wpAny M A (call (.builtin id) ([.ref x] ++ args) >>= fun v => pure (some v)) Q E s := wpAny_bind (wpAny_mono h (fun v s' h' => wpAny_pure h') fun _ _ h' => h')
  split
  · exact wpAny_bind ((PySem.W.Looks.of_pure (hb _)).here (wpAny_pure (by exact fin)))
  · exact wpAny_tryCatch (wpAny_bind ((PySem.W.Looks.of_pure (hb _)).here (wpAny_pure (by exact fin))))
theorem obj_neK {A : Around} {E : Value → Shared → Prop} {s : Shared} {prog : Program} {w : World} {K : PySem.W.Frag} {x C f : Addr} {y : Value} {ox : Obj} {od : Option Obj} {Q : Value → Shared → Prop} (hu : A.units + 1 < cLine) (X : K.In s.heap) (I : PySem.W.InstAt s.heap x ox C od) (N : NeC K C) (he : PySem.W.findIn K (.ref C) "__eq__" = some (some (.ref f))) (hf : PySem.W.isFn K (.ref f) = true)
    (h : wpAny (model prog w) A.in1 (call (.ref f) [.ref x, y]) (fun v s' => ∃ c, v = .bool c ∧ Q (.bool (!c)) s') E s) : wpAny (model prog w) A (call (.builtin "object.__ne__") [.ref x, y]) Q E s := by
  refine wpAny_call (codeAny_call_builtin PySem.F.slot_object_ne.plain PySem.F.cmpEntry_ne (PySem.W.check_slot (i := "object.__ne__") (owner := "object") (n := "__ne__") (by decide +kernel) (by decide +kernel) (I.type.andThen (PySem.W.looks_mroIn X N.ob)) (PySem.F.cmpArgs_ne _ _) ?_))
  unfold Builtin.«object.__ne__»
  refine wpAny_bind (m := slotArgs "__ne__" 1 _) (wpAny_pure ?_)
  refine wpAny_bind (m := cRoomFor _ _) (wpAny_cRoomFor (show A.in1.units < cLine from hu) ?_)
  refine wpAny_bind (m := callSpecialIfBound? (.ref x) (Str.ofString "__eq__") _) (PySem.W.ifBound_K X I he hf (wpAny_mono h (fun r s' hq => ?_) fun _ _ z => z))
  obtain ⟨c, rfl, q⟩ := hq
  exact wpAny_bind (wpAny_truthy_bool (wpAny_pure q))
end
end Wl
namespace Wl
open PySem PySem.Spec PyProof.Rows L2
theorem ne_K {A : Around} {E : Value → Shared → Prop} {s : Shared} {prog : Program} {w : World} {K : PySem.W.Frag} {x C f : Addr} {y : Addr} {ox oy : Obj} {od od' : Option Obj} {Q : Value → Shared → Prop} (hu : A.units + 2 < cLine) (X : K.In s.heap) (I : PySem.W.InstAt s.heap x ox C od) (I' : PySem.W.InstAt s.heap y oy C od') (N : NeC K C) (he : PySem.W.findIn K (.ref C) "__eq__" = some (some (.ref f))) (hf : PySem.W.isFn K (.ref f) = true)
    (h : wpAny (model prog w) A.in1 (call (.ref f) [.ref x, .ref y]) (fun v s' => ∃ c, v = .bool c ∧ Q (.bool (!c)) s') E s) : wpAny (model prog w) A (richCompare .NotEq (.ref x) (.ref y)) Q E s := by
  have one : wpAny (model prog w) A (tryCompare (.ref x) "__ne__" (.ref y)) (fun r s' => ∃ v, r = some v ∧ Q v s') E s := by
    unfold tryCompare
    refine wpAny_bind (ifBound_B X I N.ne PySem.F.slot_object_ne.bind (wpAny_mono (obj_neK (Q := fun v s' => ∃ c, v = .bool c ∧ Q v s') (by omega) X I N he hf (wpAny_mono h (fun v s' hv => ?_) fun _ _ z => z)) (fun v s' hv => ?_) fun _ _ z => z))
    · obtain ⟨c, rfl, q⟩ := hv
      exact ⟨c, rfl, _, rfl, q⟩
    · obtain ⟨c, rfl, q⟩ := hv
      exact wpAny_pure ⟨_, rfl, q⟩
  unfold richCompare
  simp only [oneThing_ref]
  refine wpAny_holding (wpAny_bind (wpAny_cRoomFor (by omega) ?_))
  refine wpAny_bind (I.type.here (wpAny_bind (I'.type.here ?_)))
  rw [show (Value.ref C != Value.ref C) = false from by simp]
  simp only [Bool.false_eq_true, if_false]
  refine wpAny_bind (wpAny_pure ?_)
  simp only [Bool.false_eq_true, if_false]
  refine wpAny_bind (wpAny_mono one (fun r s' z => ?_) fun _ _ e => e)
  obtain ⟨v, rfl, hq⟩ := z
  exact wpAny_pure hq
section
variable {X : Cx} {n : Nat} {f : Addr} {fd : FuncData} {ps : List Str} {sp : Sp} {C : Addr}
theorem op_neO (F : FnOk X.prog X.w X.K X.mg X.base CX0 n f fd ps sp) (hb : Binds X.K fd ps []) (m : Meth X.K C "__eq__" f) (N : NeC X.K C) (hr : Room (n + 1) X.A) : OpR X (compareOp .NotEq) (rEqO C sp not) := by
  intro pins s σ H x y v u Q I rx ry h
  obtain ⟨a, dx, fs, b, dy, gs, rfl, rfl, ha, hb', hsp⟩ := h
  cases rx
  cases ry
  obtain ⟨mA, J, _⟩ := ins_get I.hok ha
  obtain ⟨mB, J', _⟩ := ins_get I.hok hb'
  obtain ⟨od, J, _⟩ := J.look
  obtain ⟨od', J', _⟩ := J'.look
  show wpAny (model X.prog X.w) X.A (richCompare .NotEq (.ref a) (.ref b)) (EP X pins σ Q) X.xe s
  refine ne_K (room_u2 hr) I.kIn J J' N m.at_ m.fn (wpAny_mono (run_own F hb (Sub.in1 ⟨hr, rfl⟩) I (v2 a b) hsp) (fun v s' hq => ?_) fun _ _ z => z)
  obtain ⟨z, H', I', rz, c, rfl, q⟩ := hq
  cases rz
  exact ⟨c, rfl, .bl (!c), H', I', rfl, q⟩
/-! x in xs, x not in xs, of objects -/
open GQ MeetsSeq MeetsSeq2 MeetsSeq3 SeqRoads2 in
open AutoSeq1 (wpAny_loadPart') in
theorem contains_loopO {prog : Program} {w : World} {A : Around} {R : Result → Shared → Prop} {l : Addr} {items : Array Value} {x : Value} (P : Nat → Shared → Prop)
    (hl : ∀ i s, P i s → ∃ k, s.heap.get? l = some { cls := .type "list", data := .seq items k })
    (turn : ∀ (i : Nat) (h : i < items.size) (s : Shared), P i s → wpAny (model prog w) A.in1 (eqBool items[i] x) (fun b s' => if b = true then R (.ok (.ret (.bool true))) s' else P (i + 1) s') (fun e s' => R (.error e) s') s)
    (fin : ∀ s, P items.size s → R (.ok (.ret (.bool false))) s) (k : Nat) :
    ∀ i : Nat, items.size - i = k → i ≤ items.size → ∀ s, P i s → wpAny (model prog w) A.in1 (Builtin.«list.__contains__.loop» ⟨[.ref l, x, rawInt i], []⟩) (FinOf prog w A R) (fun e s' => R (.error e) s') s := by
  induction k with
  | zero =>
    intro i hk hi s h
    obtain ⟨k, hl1⟩ := hl i s h
    have e : i = items.size := by omega
    have q := fin s (e ▸ h)
    obtain ⟨hp, g, d, tk, os⟩ := s
    wp_walk using wpAny_loadPart' hl1
    have hi1 : items[((i : Nat) : Int).toNat]? = none := by simp; omega
    rw [hi1]
    wp_walk
    exact q
  | succ k ih =>
    intro i hk hi s h
    obtain ⟨k1, hl1⟩ := hl i s h
    have hlt : i < items.size := by omega
    have ht := turn i hlt s h
    obtain ⟨hp, g, d, tk, os⟩ := s
    wp_walk using wpAny_loadPart' hl1
    have hi1 : items[((i : Nat) : Int).toNat]? = some items[i] := by simp [hlt]
    rw [hi1]
    refine wpAny_bind (wpAny_mono ht (fun b s2 h2 => ?_) fun _ _ z => z)
    cases b with
    | true =>
      rw [if_pos rfl] at h2
      wp_walk
      exact h2
    | false =>
      rw [if_neg (by decide)] at h2
      have hrec := ih (i + 1) (by omega) (by omega) s2 h2
      obtain ⟨hp2, g2, d2, tk2, os2⟩ := s2
      have hc : ((i : Int) + 1) = ((i + 1 : Nat) : Int) := by omega
      wp_walk
      rw [hc]
      exact ⟨plainId_quiet plain_contains_loop _, codeAny_builtin entry_contains_loop (by
        rw [Around.under_plainId plain_contains_loop _]
        exact hrec)⟩
open GQ MeetsSeq MeetsSeq2 MeetsSeq3 SeqRoads2 in
open AutoSeq1 (wpAny_loadPart') in
theorem containsO {prog : Program} {w : World} {A : Around} {R : Result → Shared → Prop} {s : Shared} {l : Addr} {items : Array Value} {x : Value} (P : Nat → Shared → Prop)
    (hl : ∀ i s, P i s → ∃ k, s.heap.get? l = some { cls := .type "list", data := .seq items k })
    (turn : ∀ (i : Nat) (h : i < items.size) (s : Shared), P i s → wpAny (model prog w) A.in1 (eqBool items[i] x) (fun b s' => if b = true then R (.ok (.ret (.bool true))) s' else P (i + 1) s') (fun e s' => R (.error e) s') s)
    (fin : ∀ s, P items.size s → R (.ok (.ret (.bool false))) s) (h : P 0 s) :
    wpAny (model prog w) A.in1 (Builtin.«list.__contains__» ⟨[.ref l, x], []⟩) (FinOf prog w A R) (fun e s' => R (.error e) s') s := by
  have hrec := contains_loopO (A := A) (R := R) P hl turn fin _ 0 rfl (Nat.zero_le _) s h
  obtain ⟨k, hl1⟩ := hl 0 s h
  obtain ⟨hp, g, d, tk, os⟩ := s
  wp_walk using wpAny_loadPart' hl1
  exact ⟨plainId_quiet plain_contains_loop _, codeAny_builtin entry_contains_loop (by
    rw [Around.under_plainId plain_contains_loop _]
    exact hrec)⟩
/-- x in [y]: both of one class -/
def rInO (C : Addr) (sp : Sp) (g : Bool → Bool) : R2 := fun x y H Q => ∃ a dx fs l b dy gs, x = V.ref a ∧ y = V.ref l ∧ H l = some (.lst [.ref b]) ∧ H a = some (.ins C dx fs) ∧ H b = some (.ins C dy gs) ∧ (a = b → Q (.bl (g true)) H) ∧
  (a ≠ b → sp [.ref b, .ref a] H (fun v H' => ∃ c, v = .bl c ∧ H' l = some (.lst [.ref b]) ∧ Q (.bl (g c)) H') E0)
theorem op_inO' (F : FnOk X.prog X.w X.K X.mg X.base CX0 n f fd ps sp) (hb : Binds X.K fd ps []) (m : Meth X.K C "__eq__" f) (hr : Room (n + 1) X.A) {g : Bool → Bool} {pins : List (Addr × Obj)} {s : Shared} {σ : L2.St} {H : Hp} {x y : V} {v u : Value} {Q : VK} (I : L2.Inv X pins σ H s) (rx : RelV x v) (ry : RelV y u) (h : rInO C sp g x y H Q) :
    wpAny (model X.prog X.w) X.A (contains u v) (fun b s' => EP X pins σ Q (.bool (g b)) s') X.xe s := by
  obtain ⟨a, dx, fs, l, b, dy, gs, rfl, rfl, hl, ha, hb', q1, q2⟩ := h
  cases rx
  cases ry
  obtain ⟨z, its, k, r, ho⟩ := I.hok l _ hl
  obtain ⟨u, rfl, ru⟩ := vals1 r
  obtain rfl : u = Value.ref b := ru
  refine wpAny_contains_slot ⟨_, ho, rfl⟩ PySem.F.slot_list_contains (wpAny_mono (GQ.call_here PySem.F.slot_list_contains ⟨_, ho, rfl⟩ PySem.F.entry_list_contains (PySem.F.args_list_contains_2 _ _)
    (containsO (R := wants (fun v s' => ∃ c, v = .bool c ∧ EP X pins σ Q (.bool (g c)) s') X.xe) (items := #[.ref b]) (fun i s' => (i = 0 ∧ s' = s) ∨ (i = 1 ∧ ∃ H', L2.Inv X pins σ H' s' ∧ H' l = some (.lst [.ref b]) ∧ Q (.bl (g false)) H')) (fun i s' h => ?_) (fun i hi s' h => ?_) (fun s' h => ?_) (.inl ⟨rfl, rfl⟩))) (fun v s' hv => ?_) fun _ _ e => e)
  · rcases h with ⟨rfl, rfl⟩ | ⟨rfl, H', I', hl', _⟩
    · exact ⟨k, ho⟩
    · obtain ⟨z', its', k', r', ho'⟩ := I'.hok l _ hl'
      obtain ⟨u, rfl, ru⟩ := vals1 r'
      obtain rfl : u = Value.ref b := ru
      exact ⟨k', ho'⟩
  · have e0 : i = 0 := by simp at hi; omega
    subst e0
    rcases h with ⟨_, rfl⟩ | ⟨e, _⟩
    · show wpAny (model X.prog X.w) X.A.in1 (eqBool (.ref b) (.ref a)) _ _ _
      by_cases e : b = a
      · subst e
        refine SeqAt.EqAt.same (A := X.A.in1) (s := s') (.ref b) X.prog X.w _ _ ?_
        rw [if_pos rfl]
        exact ⟨_, rfl, .bl (g true), H, I, rfl, q1 rfl⟩
      · refine GQ.eqBool_refG e (wpAny_mono (rc_eqO F hb m (Sub.in1 ⟨hr, rfl⟩) I hb' ha (Q := fun c H' => H' l = some (.lst [.ref b]) ∧ Q (.bl (g c)) H') (q2 (Ne.symm e))) (fun v s2 hq => ?_) fun _ _ z => z)
        obtain ⟨c, rfl, H', I', hl', q⟩ := hq
        refine ⟨c, rfl, ?_⟩
        cases c with
        | true =>
          rw [if_pos rfl]
          exact ⟨_, rfl, .bl (g true), H', I', rfl, q⟩
        | false =>
          rw [if_neg (by decide)]
          exact .inr ⟨rfl, H', I', hl', q⟩
    · omega
  · rcases h with ⟨e, _⟩ | ⟨_, H', I', hl', q⟩
    · simp at e
    · exact ⟨_, rfl, .bl (g false), H', I', rfl, q⟩
  · obtain ⟨c, rfl, q⟩ := hv
    exact wpAny_truthy_bool q
theorem op_inO (F : FnOk X.prog X.w X.K X.mg X.base CX0 n f fd ps sp) (hb : Binds X.K fd ps []) (m : Meth X.K C "__eq__" f) (hr : Room (n + 1) X.A) : OpR X (compareOp .In) (rInO C sp id) := by
  intro pins s σ H x y v u Q I rx ry h
  show wpAny _ X.A (do return Value.bool (← contains u v)) _ _ s
  exact wpAny_bind (wpAny_mono (op_inO' F hb m hr I rx ry h) (fun b s' q => wpAny_pure q) fun _ _ z => z)
theorem op_notInO (F : FnOk X.prog X.w X.K X.mg X.base CX0 n f fd ps sp) (hb : Binds X.K fd ps []) (m : Meth X.K C "__eq__" f) (hr : Room (n + 1) X.A) : OpR X (compareOp .NotIn) (rInO C sp not) := by
  intro pins s σ H x y v u Q I rx ry h
  show wpAny _ X.A (do return Value.bool (!(← contains u v))) _ _ s
  exact wpAny_bind (wpAny_mono (op_inO' F hb m hr I rx ry h) (fun b s' q => wpAny_pure q) fun _ _ z => z)
end
end Wl

namespace Wl
open PySem PySem.Spec PyProof.Rows L2
def oD : Option Str → PyData
  | none => .none
  | some z => .str z
def rD (row : Row) : PyData := .tuple (row.map oD)
def gD (g : Grid) : PyData := .tuple (g.map rD)
theorem dp_row {K : PySem.W.Frag} {H : Hp} : ∀ row : Row, DpAll K H (row.map oV) (row.map oD)
  | [] => .nil
  | none :: r => .cons .non (dp_row r)
  | some z :: r => .cons (.str z) (dp_row r)
theorem dp_rows {K : PySem.W.Frag} {H : Hp} : ∀ {as : List Addr} {g : Grid}, RowsAt H as g → DpAll K H (as.map V.ref) (g.map rD)
  | _, _, .nil => .nil
  | _, _, .cons e t => .cons (.tup (.inl (.inl e)) (dp_row _)) (dp_rows t)
theorem dp_grid {K : PySem.W.Frag} {H : Hp} {L : Addr} {g : Grid} (h : GridAt H L g) : Dp K H (.ref L) (gD g) := by
  obtain ⟨as, hL, hR⟩ := h
  exact .tup (.inl (.inl hL)) (dp_rows hR)
theorem lay_row : ∀ {row : Row}, (∀ z ∈ rnames row, IsWd z) → PyData.canLayAll0 (row.map oD) = true
  | [], _ => by simp [PyData.canLayAll0]
  | none :: r, h => by simp [PyData.canLayAll0, oD, PyData.canLay0, lay_row (row := r) h]
  | some z :: r, h => by
    have h1 := wd_ok (h z (by simp [rnames]))
    have h2 := lay_row (row := r) fun y hy => h y (by simp only [rnames, List.filterMap_cons] at hy ⊢; exact List.mem_cons_of_mem _ hy)
    simp [PyData.canLayAll0, oD, PyData.canLay0, h1, h2]
theorem depth_row : ∀ row : Row, PyData.depthAll (row.map oD) = 0
  | [] => by simp [PyData.depthAll]
  | none :: r => by simp [PyData.depthAll, PyData.depth, oD, depth_row r]
  | some z :: r => by simp [PyData.depthAll, PyData.depth, oD, depth_row r]
theorem lay_grid : ∀ {g : Grid}, (∀ z ∈ names g, IsWd z) → PyData.canLayAll0 (g.map rD) = true
  | [], _ => by simp [PyData.canLayAll0]
  | r :: g, h => by
    rw [names_cons] at h
    have h1 := lay_row (row := r) fun z hz => h z (List.mem_append_left _ hz)
    have h2 := lay_grid (g := g) fun z hz => h z (List.mem_append_right _ hz)
    simp [PyData.canLayAll0, rD, PyData.canLay0, h1, h2]
theorem depth_grid : ∀ g : Grid, PyData.depthAll (g.map rD) ≤ 1
  | [] => by simp [PyData.depthAll]
  | r :: g => by
    have := depth_grid g
    have := depth_row r
    simp only [List.map_cons, PyData.depthAll, rD, PyData.depth]
    omega
theorem shaped_grid {g : Grid} {wd : Nat} (gd : Good g wd) : SeqAt.shaped (gD g) = true := shaped_tuple (lay_grid gd.wd) (by have := depth_grid g; omega)
theorem same_x {H0 H1 H2 : Hp} {a : Addr} (s : Same H0 H1) (x : SameX a H1 H2) (h : H0 a = none) : Same H0 H2 := fun b o e => x b o (ne_of_none e h) (s b o e)
theorem made_same {H1 H' : Hp} {x dx C : Addr} (nx : H1 x = none) (ndx : H1 dx = none) (h : ∀ b o, b ≠ x → (upd (upd H1 dx (.own x)) x (.ins C dx [])) b = some o → H' b = some o) : Same H1 H' := fun b o e => by
  have n1 : b ≠ x := ne_of_none e nx
  refine h b o n1 ?_
  rw [upd_ne n1, upd_ne (ne_of_none e ndx)]
  exact e

theorem o_eqv (a b : Option Str) : PyData.eqv (oD a) (oD b) = decide (a = b) := by
  cases a with
  | none => cases b <;> simp [oD, PyData.eqv]
  | some x =>
    cases b with
    | none => simp [oD, PyData.eqv]
    | some y =>
      simp only [oD, PyData.eqv, Option.some.injEq]
      by_cases h : x = y
      · subst h
        simp
      · rw [decide_eq_false h]
        exact beq_eq_false_iff_ne.mpr h
theorem row_eqv : ∀ r q : Row, PyData.eqvAll (r.map oD) (q.map oD) = decide (r = q)
  | [], [] => by simp [PyData.eqvAll]
  | [], _ :: _ => by simp [PyData.eqvAll]
  | _ :: _, [] => by simp [PyData.eqvAll]
  | o :: r, u :: q => by
    simp only [List.map_cons, PyData.eqvAll, o_eqv, row_eqv r q, List.cons.injEq]
    by_cases h1 : o = u <;> by_cases h2 : r = q <;> simp [h1, h2]
theorem rows_eqv : ∀ g g' : Grid, PyData.eqvAll (g.map rD) (g'.map rD) = decide (g = g')
  | [], [] => by simp [PyData.eqvAll]
  | [], _ :: _ => by simp [PyData.eqvAll]
  | _ :: _, [] => by simp [PyData.eqvAll]
  | r :: g, q :: g' => by
    simp only [List.map_cons, PyData.eqvAll, rD, PyData.eqv, row_eqv, rows_eqv g g', List.cons.injEq]
    by_cases h1 : r = q <;> by_cases h2 : g = g' <;> simp [h1, h2]
theorem grid_eqv (g g' : Grid) : PyData.eqv (gD g) (gD g') = decide (g = g') := by
  unfold gD
  simp only [PyData.eqv, rows_eqv]
/-- what the class says of itself, for isinstance and != -/
structure Txt2 (K : PySem.W.Frag) (mg : Str → Option Value) (C : Addr) : Prop where
  t : Txt K mg C
  ins : C8.InsC K C
  ne : NeC K C
theorem fs_no {m : Str} {d L : Addr} (h1 : ¬ m = "rows" := by decide +kernel) (h2 : ¬ m = "spots" := by decide +kernel) : (lf d L).lookup m = none := lf_no d L h1 h2
abbrev sEq : Stmt := inClass sCls 6
abbrev sLen : Stmt := inClass sCls 7
abbrev sStr : Stmt := inClass sCls 8
abbrev sRepr : Stmt := inClass sCls 9
section
variable {P : Program} {w : World} {K : PySem.W.Frag} {mg : Str → Option Value} {base : Heap} {f C : Addr} {fd : FuncData}
theorem LandAt.ins {H : Hp} {p L : Addr} {g : Grid} (h : LandAt C H p L g) : ∃ dx d, H p = some (.ins C dx (lf d L)) := by
  obtain ⟨d, dx, h1, _⟩ := h
  exact ⟨dx, d, h1⟩
theorem LandAt.grid {H : Hp} {p L : Addr} {g : Grid} (h : LandAt C H p L g) : GridAt H L g := by
  obtain ⟨d, dx, _, _, h3⟩ := h
  exact h3
theorem LandAt.same {H H' : Hp} {p L : Addr} {g : Grid} (h : LandAt C H p L g) (s : Same H H') : LandAt C H' p L g := h.keep (kp_same s)
/-! ### == -/
def spLEq (C : Addr) : Sp := fun vs H Q _ => ∃ (p L q M : Addr) (g g' : Grid) (wd wd' : Nat), vs = [.ref p, .ref q] ∧ LandAt C H p L g ∧ Good g wd ∧ LandAt C H q M g' ∧ Good g' wd' ∧ Q (.bl (decide (g = g'))) H
theorem scEq : FnScope ["self", "other"] ["self", "other"] (defScope sEq) := ⟨rfl, rfl, rfl, by decide +kernel, rfl, by decide +kernel, by decide +kernel⟩
theorem ok_leq (F : Fun K "__eq__" "Land.__eq__" sEq f fd) (B : Bi mg) (T : Txt2 K mg C) : FnOk P w K mg base CX0 1 f fd ["self", "other"] (spLEq C) := by
  refine F.ok scEq (fun vs H Q E h => ?_) (fun cdv A outer s H vs Q E hr h => ?_)
  · obtain ⟨p, L, q, M, g, g', wd, wd', rfl, _⟩ := h
    rfl
  · obtain ⟨p, L, q, M, g, g', wd, wd', rfl, h1, gd, h2, gd', qq⟩ := h
    refine ⟨_, pss_one (ps_ret (pe_and (pe_callB (C8.call_isC (C := C) T.ins) (by rfl) B.isi (by decide +kernel) (pa_cons (pv 1) (pa_cons (pe_glob (v := .ref C) rfl T.t.mgC rfl) pa_nil))) (pe_one (pe_cmpR (op_eqD hr.units) (pe_fld (pv 0) rfl) (pe_fld (pv 1) rfl) (nomark _))))), ?_⟩
    obtain ⟨dx, d, i1⟩ := h1.ins
    obtain ⟨dy, e, i2⟩ := h2.ins
    refine ⟨_, rfl, q, dy, _, rfl, i2, true, rfl, iteT ⟨_, rfl, p, C, dx, _, _, rfl, i1, T.t.cl, T.t.nR, lf_rows _ _, _, rfl, q, C, dy, _, _, rfl, i2, T.t.cl, T.t.nR, lf_rows _ _, _, _, dp_grid h1.grid, dp_grid h2.grid, shaped_grid gd, shaped_grid gd', ?_⟩⟩
    rw [grid_eqv]
    exact qq
/-! ### len -/
def spLLen (C : Addr) : Sp := fun vs H Q _ => ∃ (p L : Addr) (g : Grid), vs = [.ref p] ∧ LandAt C H p L g ∧ Q (.int (names g).length) H
theorem scLen : FnScope ["self"] ["self"] (defScope sLen) := ⟨rfl, rfl, rfl, by decide +kernel, rfl, by decide +kernel, by decide +kernel⟩
theorem ok_llen (F : Fun K "__len__" "Land.__len__" sLen f fd) (B : Bi mg) (T : Txt K mg C) : FnOk P w K mg base CX0 1 f fd ["self"] (spLLen C) := by
  refine F.ok scLen (fun vs H Q E h => ?_) (fun cdv A outer s H vs Q E hr h => ?_)
  · obtain ⟨p, L, g, rfl, _⟩ := h
    rfl
  · obtain ⟨p, L, g, rfl, ⟨d, dx, i1, ⟨kvs, hk, he⟩, _⟩, q⟩ := h
    refine ⟨_, pss_one (ps_ret (pe_callB call_lenD (by rfl) B.len PySem.boot_len (pa_cons (pe_fld (pv 0) rfl) pa_nil))), ?_⟩
    refine ⟨_, rfl, p, C, dx, _, _, rfl, i1, T.cl, T.nS, lf_spots _ _, d, kvs, rfl, hk, ?_⟩
    have : kvs.length = (names g).length := by
      rw [he.length, ← spG_fst g 0, List.length_map]
    rw [this]
    exact q
/-! ### repr -/
def reprS (n : Nat) : Str := ("Land(" : Str) ++ (toString (n : Int) : String) ++ (")" : Str)
def spLRepr (C : Addr) : Sp := fun vs H Q _ => ∃ (p L : Addr) (g : Grid), vs = [.ref p] ∧ LandAt C H p L g ∧ (names g).length ≤ 36 ∧ Q (.str (reprS (names g).length)) H
theorem scRepr : FnScope ["self"] ["self"] (defScope sRepr) := ⟨rfl, rfl, rfl, by decide +kernel, rfl, by decide +kernel, by decide +kernel⟩
theorem add_len (x y : Str) : (x ++ y).length = x.length + y.length := by
  rw [TL.len_tl, TL.tl_append, List.length_append, ← TL.len_tl, ← TL.len_tl]
theorem dig_len {n : Nat} (h : n ≤ 36) : ((toString (n : Int) : String) : Str).length ≤ 2 := by
  have : ∀ k : Fin 37, ((toString ((k.val : Nat) : Int) : String) : Str).length ≤ 2 := by decide +kernel
  exact this ⟨n, by omega⟩
theorem str_n (n : Nat) (h : n ≤ 36) : (((n : Nat) : Int).natAbs).log2 < 1920 := by
  have : ((n : Nat) : Int).natAbs = n := Int.natAbs_natCast n
  rw [this]
  have h2 : n.log2 ≤ n := Nat.log2_le_self n
  omega
theorem ok_lrepr (F : Fun K "__repr__" "Land.__repr__" sRepr f fd) (B : Bi mg) (T : Txt K mg C) : FnOk P w K mg base CX0 1 f fd ["self"] (spLRepr C) := by
  refine F.ok scRepr (fun vs H Q E h => ?_) (fun cdv A outer s H vs Q E hr h => ?_)
  · obtain ⟨p, L, g, rfl, _⟩ := h
    rfl
  · obtain ⟨p, L, g, rfl, ⟨d, dx, i1, ⟨kvs, hk, he⟩, _⟩, h36, q⟩ := h
    refine ⟨_, pss_one (ps_ret (pe_joined (.cons pe_str (.cons (pe_fmt (pe_callB call_lenD (by rfl) B.len PySem.boot_len (pa_cons (pe_fld (pv 0) rfl) pa_nil))) (.cons pe_str .nil))))), ?_⟩
    have ek : kvs.length = (names g).length := by
      rw [he.length, ← spG_fst g 0, List.length_map]
    refine ⟨_, rfl, by decide +kernel, _, rfl, p, C, dx, _, _, rfl, i1, T.cl, T.nS, lf_spots _ _, d, kvs, rfl, hk, .inr ⟨_, rfl, ?_, _, rfl, ?_, _, rfl, ?_, ?_⟩⟩
    · rw [ek]
      exact str_n _ h36
    · rw [ek]
      exact lzl (by rw [add_len, add_len]; have := dig_len h36; have : (Str.empty).length = 0 := rfl; have : ("Land(" : Str).length = 5 := (by decide +kernel); omega)
    · rw [ek]
      exact lzl (by rw [add_len, add_len, add_len]; have := dig_len h36; have : (Str.empty).length = 0 := rfl; have : ("Land(" : Str).length = 5 := (by decide +kernel); have : (")" : Str).length = 1 := (by decide +kernel); omega)
    · have e0 : (Str.empty ++ ("Land(" : Str)) = ("Land(" : Str) := by decide +kernel
      rw [ek]
      show Q (.str (Str.empty ++ ("Land(" : Str) ++ _ ++ (")" : Str))) H
      rw [e0]
      exact q
/-! ### str -/
def showV : V → V
  | .non => .str "-"
  | v => v
theorem sum_len {m : Nat} : ∀ {l : List Str}, (∀ z ∈ l, z.length ≤ m) → (l.map (·.length)).sum ≤ l.length * m
  | [], _ => by simp
  | z :: r, h => by
    have h1 := h z List.mem_cons_self
    have h2 := sum_len (m := m) (l := r) fun y hy => h y (List.mem_cons_of_mem _ hy)
    rw [List.map_cons, List.sum_cons, List.length_cons, Nat.succ_mul]
    omega
theorem oV_inj {o u : Option Str} (h : oV o = oV u) : o = u := by
  cases o with
  | none =>
    cases u with
    | none => rfl
    | some z => cases h
  | some y =>
    cases u with
    | none => cases h
    | some z =>
      cases h
      rfl
theorem map_oV_inj : ∀ {r q : Row}, r.map oV = q.map oV → r = q
  | [], [], _ => rfl
  | [], _ :: _, e => by simp at e
  | _ :: _, [], e => by simp at e
  | o :: r, u :: q, e => by
    simp only [List.map_cons, List.cons.injEq] at e
    rw [oV_inj e.1, map_oV_inj e.2]
theorem lines_of {H : Hp} : ∀ {as : List Addr} {g : Grid} {zs : List V}, RowsAt H as g → Each (fun (x z : V) => ∀ (pr : Addr) (row : Row), x = .ref pr → H pr = some (.tup (row.map oV)) → z = .str (lineS row)) (as.map V.ref) zs → zs = (g.map lineS).map V.str
  | [], [], [], _, _ => rfl
  | [], [], _ :: _, _, h => nomatch h
  | [], _ :: _, _, h, _ => nomatch h
  | _ :: _, [], _, h, _ => nomatch h
  | _ :: _, _ :: _, [], _, h => nomatch h
  | a :: as, r :: g, z :: zs, .cons e t, .cons e' t' => by
    rw [e' a r rfl e, lines_of t t']
    rfl
def spLStr (C : Addr) : Sp := fun vs H Q _ => ∃ (p L : Addr) (g : Grid) (wd : Nat), vs = [.ref p] ∧ LandAt C H p L g ∧ Good g wd ∧ ∀ (H' : Hp), Same H H' → Q (.str (landS g)) H'
abbrev nStr : List Str := ["self", "row", "part"]
theorem scStr : FnScope nStr ["self"] (defScope sStr) := ⟨rfl, rfl, rfl, by decide +kernel, rfl, by decide +kernel, by decide +kernel⟩
theorem ok_lstr (F : Fun K "__str__" "Land.__str__" sStr f fd) (T : Txt K mg C) (hlk : ∃ t, mg "LAKE" = some (.str "-" t)) : FnOk P w K mg base CX0 1 f fd ["self"] (spLStr C) := by
  obtain ⟨tl, gl⟩ := hlk
  refine F.ok scStr (fun vs H Q E h => ?_) (fun cdv A outer s H vs Q E hr h => ?_)
  · obtain ⟨p, L, g, wd, rfl, _⟩ := h
    rfl
  · obtain ⟨p, L, g, wd, rfl, ⟨d, dx, i1, _, as, hL, hR⟩, gd, q⟩ := h
    refine ⟨_, pss_one (ps_ret (pe_join pe_str (pe_lc (own := [("row", 1)]) (g := gName 1) (tt := tYes) (te := tM1 (fun x xs H Q => ∃ a p, ∃ ys : List Str, x = .str a ∧ xs = [.ref p] ∧ (SqL K H p (ys.map V.str) ∨ SqT K H p (ys.map V.str)) ∧ (ys.map (·.length)).sum + ys.length * a.length ≤ 16777216 ∧ Q (.str (Txt.join a ys)) H) (tC (.str " ")) (tLc (iTup K (tVar 1)) (gName 2) tYes (tIf (tB (tIsN (tVar 2))) (tC (.str "-")) (tVar 2)) [2])) rfl scStr.nd (pi_tup (pe_fld (pv 0) rfl)) (blkOk_by (N := nStr) (sc := defScope sStr) (by decide +kernel)) (fun _ _ _ _ _ => pg_name (i := 1) scStr.nd rfl (.inl rfl)) (fun _ _ _ _ _ => pts_nil)
      (fun _ _ _ _ _ => pe_join pe_str (pe_lc (own := [("part", 2)]) (g := gName 2) (tt := tYes) rfl scStr.nd (pi_tup (pv 1)) (blkOk_by (N := nStr) (sc := { kind := .function, names := [(".0", .local), ("row", .local)], isGenerator := false, isCoroutine := false }) (by decide +kernel)) (fun _ _ _ _ _ => pg_name (i := 2) scStr.nd rfl (.inl rfl)) (fun _ _ _ _ _ => pts_nil) (fun _ _ _ _ _ => pe_ifExp (pt_cmp (pc_isN (pv 2))) (pe_glob (v := .str "-") (by rfl) gl ⟨_, rfl⟩) (pv 2))))))), ?_⟩
    refine ⟨⟨_, rfl⟩, _, rfl, p, C, dx, _, _, rfl, i1, T.cl, T.nR, lf_rows _ _, L, rfl, ⟨_, .inl (.inl hL)⟩, fun D hD => ?_⟩
    have h6 : as.length ≤ 6 := by rw [hR.length]; exact gd.h6
    refine lc_rel (walk_tup (K := K) (a := L) (xs := as.map V.ref)) hD (fun _ => true) (fun x y _ => ∀ (pr : Addr) (row : Row), x = .ref pr → H pr = some (.tup (row.map oV)) → y = .str (lineS row)) (fun H' s' => .inl (.inl (s' _ _ hL))) (fun _ => rfl) (fun x H' _ _ Q' q' => q') ?_ (fun _ _ _ _ _ _ _ r => r) ?_ ?_
    · intro x H' hx _ s' Q' q'
      obtain ⟨pr, hpr, rfl⟩ := List.mem_map.mp hx
      obtain ⟨i, hi, ei⟩ := List.mem_iff_getElem.mp hpr
      obtain ⟨row, hrow, hH⟩ := hR.get (i := i) (a := pr) (by rw [List.getElem?_eq_getElem hi, ei])
      have hrm := List.mem_of_getElem? hrow
      have hr6 : row.length ≤ 6 := gd.six row hrm
      refine ⟨⟨_, rfl⟩, _, rfl, pr, rfl, ⟨_, .inl (.inl (s' _ _ hH))⟩, fun D2 hD2 => ?_⟩
      refine lc_map (walk_tup (K := K) (a := pr) (xs := row.map oV)) hD2 (fun _ => true) showV (fun H2 s2 => .inl (.inl (s2 _ _ (s' _ _ hH)))) (fun _ => rfl) (fun x H' _ _ Q' q' => q') ?_ ?_ ?_
      · intro x H2 hx2 _ _ Q2 q2
        obtain ⟨o, _, rfl⟩ := List.mem_map.mp hx2
        refine ⟨_, rfl, _, rfl, ?_⟩
        cases o with
        | none => exact iteT q2
        | some z => exact iteF ⟨_, rfl, q2⟩
      · rw [List.length_map]
        exact small1000 (by omega)
      · intro H2 s2 hD3
        have e1 : ((row.map oV).filter fun _ => true).map showV = (row.map partS).map V.str := by
          rw [List.filter_eq_self.mpr fun _ _ => rfl, List.map_map, List.map_map]
          refine List.map_congr_left fun o _ => ?_
          cases o <;> rfl
        rw [e1] at hD3
        refine ⟨_, D2, row.map partS, rfl, rfl, .inl (.inl (.inl hD3)), ?_, q' _ H2 s2 fun pr2 row2 e2 h2 => ?_⟩
        · have := sum_len (l := row.map partS) (m := 8) fun z hz => by
            obtain ⟨o, ho, rfl⟩ := List.mem_map.mp hz
            rw [TL.len_tl]
            exact (part_tl (gd.parts row hrm o ho)).1
          rw [List.length_map] at this ⊢
          have e : (" " : Str).length = 1 := by decide +kernel
          rw [e]
          omega
        · obtain rfl : pr = pr2 := V.ref.inj e2
          rw [hH] at h2
          have : row = row2 := map_oV_inj (HO.tup.inj (Option.some.inj h2))
          rw [← this]
          rfl
    · rw [List.length_map]
      exact small1000 (by omega)
    · intro zs H1 s1 hD1 he
      rw [List.filter_eq_self.mpr fun _ _ => rfl] at he
      have e1 : zs = (g.map lineS).map V.str := lines_of hR he
      rw [e1] at hD1
      refine ⟨_, D, g.map lineS, rfl, rfl, .inl (.inl (.inl hD1)), ?_, q H1 s1⟩
      have := sum_len (l := g.map lineS) (m := 54) fun z hz => by
        obtain ⟨r, hr', rfl⟩ := List.mem_map.mp hz
        exact line_len (gd.parts r hr') (gd.six r hr')
      rw [List.length_map] at this ⊢
      have e : ("\n" : Str).length = 1 := by decide +kernel
      have := gd.h6
      rw [e]
      omega
end
end Wl





namespace Wl
open PySem PySem.Spec PyProof.Rows L2
abbrev sIsWhole : Stmt := topS 17
abbrev sIsNum : Stmt := topS 18
abbrev sCheckW : Stmt := topS 20
abbrev sCheckA : Stmt := topS 35
abbrev sCheckS : Stmt := topS 36
abbrev sKeyOf : Stmt := topS 37
abbrev sGat : Stmt := topS 39
abbrev sGInit : Stmt := inClass sGat 0
abbrev sGPlace : Stmt := inClass sGat 1
abbrev sGPut : Stmt := inClass sGat 2
/-- what was told -/
structure Tel where
  v : Str
  th : Str
  wo : Str
  tl : Str
  age : Nat
  g : Str
  sure : Bool
deriving DecidableEq
def telV (t : Tel) : List V := [.str t.v, .str t.th, .str t.wo, .str t.tl, .int (t.age : Int), .str t.g, .bl t.sure]
def keyV (t : Tel) : List V := [.str t.v, .str t.tl, .str t.th, .str t.g]
structure OkT (t : Tel) : Prop where
  v : IsWd t.v
  th : IsWd t.th
  wo : IsWd t.wo
  tl : IsWd t.tl
  age : t.age ≤ 120
  g : IsWd t.g
def TelsAt (H : Hp) (as : List Addr) (ts : List Tel) : Prop := Each (fun (p : Addr) (t : Tel) => H p = some (.tup (telV t))) as ts
theorem TelsAt.keep {H H' : Hp} {as : List Addr} {ts : List Tel} (h : TelsAt H as ts) (k : TupKeep H H') : TelsAt H' as ts := Each.mono (fun p t e => k p _ e) h
section
variable {P : Program} {w : World} {K : PySem.W.Frag} {mg : Str → Option Value} {base : Heap} {f C : Addr} {fd : FuncData}
structure Bg (mg : Str → Option Value) : Prop where
  bool : mg "bool" = none
  oldest : ∃ t, mg "OLDEST" = some (.int 120 t)
  most : ∃ t, mg "MOST_TELLINGS" = some (.int 200 t)
  dot : ∃ t, mg "DOT" = some (.str "." t)
  doubt : ∃ t, mg "DOUBT" = some (.str "?" t)
/-! ### is_whole, is_number_from -/
def spIsWhole : Sp := fun vs H Q _ => ∃ (n : Int), vs = [.int n] ∧ Q (.bl true) H
theorem scIsWhole : FnScope ["thing"] ["thing"] (defScope sIsWhole) := ⟨rfl, rfl, rfl, by decide +kernel, rfl, by decide +kernel, by decide +kernel⟩
theorem ok_iswhole (F : Fun K "is_whole" "is_whole" sIsWhole f fd) (B : Bi mg) (B2 : Bg mg) : FnOk P w K mg base CX0 1 f fd ["thing"] spIsWhole := by
  refine F.ok scIsWhole (fun vs H Q E h => ?_) (fun cdv A outer s H vs Q E hr h => ?_)
  · obtain ⟨n, rfl, _⟩ := h
    rfl
  · obtain ⟨n, rfl, q⟩ := h
    refine ⟨_, pss_one (ps_ret (pe_and (pe_callB call_isi (by rfl) B.isi (by decide +kernel) (pa_cons (pv 0) (pa_cons (pe_bltn (v := .ty "int") (by rfl) B.int (by decide +kernel) rfl) pa_nil)))
      (pe_one (pe_not (pe_callB call_isi (by rfl) B.isi (by decide +kernel) (pa_cons (pv 0) (pa_cons (pe_bltn (v := .ty "bool") (by rfl) B2.bool (by decide +kernel) rfl) pa_nil))))))), ?_⟩
    refine ⟨_, rfl, _, _, _, _, _, rfl, .ty "int", .base (.int n), kit_ty (r := true) (by decide +kernel), true, rfl, iteT ?_⟩
    exact ⟨_, rfl, _, _, _, _, _, rfl, .ty "bool", .base (.int n), kit_ty (r := false) (by decide +kernel), false, rfl, q⟩
def spIsNum : Sp := fun vs H Q _ => ∃ (n lo hi : Int), vs = [.int n, .int lo, .int hi] ∧ lo ≤ n ∧ n ≤ hi ∧ Q (.bl true) H
theorem scIsNum : FnScope ["thing", "least", "most"] ["thing", "least", "most"] (defScope sIsNum) := ⟨rfl, rfl, rfl, by decide +kernel, rfl, by decide +kernel, by decide +kernel⟩
theorem ok_isnum (F : Fun K "is_number_from" "is_number_from" sIsNum f fd) (hI : Has P w K mg base "is_whole" 1 ["thing"] spIsWhole) : FnOk P w K mg base CX0 2 f fd ["thing", "least", "most"] spIsNum := by
  refine F.ok scIsNum (fun vs H Q E h => ?_) (fun cdv A outer s H vs Q E hr h => ?_)
  · obtain ⟨n, lo, hi, rfl, _⟩ := h
    rfl
  · obtain ⟨n, lo, hi, rfl, h1, h2, q⟩ := h
    refine ⟨_, pss_one (ps_ret (pe_and (pe_h hI hr (pa_cons (pv 0) pa_nil)) (pe_one (pe_chain op_le op_le (pv 1) (pv 0) (pv 2))))), ?_⟩
    refine ⟨_, rfl, n, rfl, true, rfl, iteT ?_⟩
    refine ⟨_, rfl, _, rfl, _, _, rfl, rfl, _, rfl, ?_⟩
    rw [decide_eq_true h1]
    refine iteT ⟨_, rfl, _, _, rfl, rfl, ?_⟩
    show Q (.bl (decide (n ≤ hi))) H
    rw [decide_eq_true h2]
    exact q
/-! ### check_word -/
def spCheckW : Sp := fun vs H Q _ => ∃ (z : Str), vs = [.str z] ∧ IsWd z ∧ ∀ (H' : Hp), Same H H' → Q .non H'
theorem scCheckW : FnScope ["word"] ["word"] (defScope sCheckW) := ⟨rfl, rfl, rfl, by decide +kernel, rfl, by decide +kernel, by decide +kernel⟩
theorem ok_checkw (F : Fun K "check_word" "check_word" sCheckW f fd) (hI : Has P w K mg base "is_word" 1 ["thing"] spIsWord) : FnOk P w K mg base CX0 2 f fd ["word"] spCheckW := by
  refine F.ok scCheckW (fun vs H Q E h => ?_) (fun cdv A outer s H vs Q E hr h => ?_)
  · obtain ⟨z, rfl, _⟩ := h
    rfl
  · obtain ⟨z, rfl, hz, q⟩ := h
    refine ⟨_, pss_one (ps_if (pt_not (pt_val (pe_h hI hr (pa_cons (pv 0) pa_nil)))) (pss_one ps_never) pss_nil), ?_⟩
    refine ⟨_, rfl, z, rfl, by have := hz.len; omega, fun H1 s1 => ⟨_, rfl, ?_⟩⟩
    rw [show wdB z = true from hz]
    exact iteF (q H1 s1)
/-! ### check_age -/
def spCheckA : Sp := fun vs H Q _ => ∃ (n : Nat), vs = [.int (n : Int)] ∧ n ≤ 120 ∧ Q .non H
theorem scCheckA : FnScope ["age"] ["age"] (defScope sCheckA) := ⟨rfl, rfl, rfl, by decide +kernel, rfl, by decide +kernel, by decide +kernel⟩
theorem ok_checka (F : Fun K "check_age" "check_age" sCheckA f fd) (B2 : Bg mg) (hI : Has P w K mg base "is_number_from" 2 ["thing", "least", "most"] spIsNum) : FnOk P w K mg base CX0 3 f fd ["age"] spCheckA := by
  obtain ⟨t, gt⟩ := B2.oldest
  refine F.ok scCheckA (fun vs H Q E h => ?_) (fun cdv A outer s H vs Q E hr h => ?_)
  · obtain ⟨z, rfl, _⟩ := h
    rfl
  · obtain ⟨n, rfl, hn, q⟩ := h
    refine ⟨_, pss_one (ps_if (pt_not (pt_val (pe_h hI hr (pa_cons (pv 0) (pa_cons pe_int (pa_cons (pe_glob (v := .int 120) rfl gt ⟨_, rfl⟩) pa_nil)))))) (pss_one ps_never) pss_nil), ?_⟩
    exact ⟨_, rfl, n, 0, 120, rfl, by omega, by omega, true, rfl, iteF q⟩
/-! ### check_sure -/
def spCheckS : Sp := fun vs H Q _ => ∃ (b : Bool), vs = [.bl b] ∧ Q .non H
theorem scCheckS : FnScope ["sure"] ["sure"] (defScope sCheckS) := ⟨rfl, rfl, rfl, by decide +kernel, rfl, by decide +kernel, by decide +kernel⟩
theorem ok_checks (F : Fun K "check_sure" "check_sure" sCheckS f fd) (B : Bi mg) (B2 : Bg mg) : FnOk P w K mg base CX0 1 f fd ["sure"] spCheckS := by
  refine F.ok scCheckS (fun vs H Q E h => ?_) (fun cdv A outer s H vs Q E hr h => ?_)
  · obtain ⟨z, rfl, _⟩ := h
    rfl
  · obtain ⟨b, rfl, q⟩ := h
    refine ⟨_, pss_one (ps_if (pt_not (pt_val (pe_callB call_isi (by rfl) B.isi (by decide +kernel) (pa_cons (pv 0) (pa_cons (pe_bltn (v := .ty "bool") (by rfl) B2.bool (by decide +kernel) rfl) pa_nil))))) (pss_one ps_never) pss_nil), ?_⟩
    exact ⟨_, rfl, _, _, _, _, _, rfl, .ty "bool", .base (.bl b), kit_ty (r := true) (by decide +kernel), true, rfl, iteF q⟩
/-! ### key_of -/
def spKeyOf : Sp := fun vs H Q _ => ∃ (p : Addr) (t : Tel), vs = [.ref p] ∧ H p = some (.tup (telV t)) ∧ ∀ u, H u = none → Q (.ref u) (upd H u (.tup (keyV t)))
theorem scKeyOf : FnScope ["telling"] ["telling"] (defScope sKeyOf) := ⟨rfl, rfl, rfl, by decide +kernel, rfl, by decide +kernel, by decide +kernel⟩
theorem ok_keyof (F : Fun K "key_of" "key_of" sKeyOf f fd) : FnOk P w K mg base CX0 1 f fd ["telling"] spKeyOf := by
  refine F.ok scKeyOf (fun vs H Q E h => ?_) (fun cdv A outer s H vs Q E hr h => ?_)
  · obtain ⟨p, t, rfl, _⟩ := h
    rfl
  · obtain ⟨p, t, rfl, hp, q⟩ := h
    refine ⟨_, pss_one (ps_ret (pe_tup (pa_cons (pe_ix ix_tup (pv 0) pe_int (fun _ _ => rfl)) (pa_cons (pe_ix ix_tup (pv 0) pe_int (fun _ _ => rfl)) (pa_cons (pe_ix ix_tup (pv 0) pe_int (fun _ _ => rfl)) (pa_cons (pe_ix ix_tup (pv 0) pe_int (fun _ _ => rfl)) pa_nil)))))), ?_⟩
    refine ⟨_, rfl, p, _, _, _, rfl, rfl, .inl (.inl hp), atI_nat (j := 0) rfl, _, rfl, p, _, _, _, rfl, rfl, .inl (.inl hp), atI_nat (j := 3) rfl, _, rfl, p, _, _, _, rfl, rfl, .inl (.inl hp), atI_nat (j := 1) rfl, _, rfl, p, _, _, _, rfl, rfl, .inl (.inl hp), atI_nat (j := 5) rfl, lz, fun u hu => q u hu⟩
end
end Wl





namespace Wl
open PySem PySem.Spec PyProof.Rows L2
/-! A Gathering on the heap. -/
def gf (l t d : Addr) : List (Str × V) := putF "deeds" (.ref d) (putF "told" (.ref t) (putF "land" (.ref l) []))
theorem gf_land (l t d : Addr) : (gf l t d).lookup ("land" : Str) = some (.ref l) := by
  unfold gf
  rw [lookup_putF, if_neg (by decide +kernel), lookup_putF, if_neg (by decide +kernel), lookup_putF, if_pos rfl]
theorem gf_told (l t d : Addr) : (gf l t d).lookup ("told" : Str) = some (.ref t) := by
  unfold gf
  rw [lookup_putF, if_neg (by decide +kernel), lookup_putF, if_pos rfl]
theorem gf_deeds (l t d : Addr) : (gf l t d).lookup ("deeds" : Str) = some (.ref d) := by
  unfold gf
  rw [lookup_putF, if_pos rfl]
theorem gf_no (l t d : Addr) {m : Str} (h1 : ¬ m = "deeds" := by decide +kernel) (h2 : ¬ m = "told" := by decide +kernel) (h3 : ¬ m = "land" := by decide +kernel) : (gf l t d).lookup m = none := by
  unfold gf
  rw [lookup_putF, if_neg h1, lookup_putF, if_neg h2, lookup_putF, if_neg h3]
  rfl
structure GR where
  pl : Addr
  L : Addr
  td : Addr
  dd : Addr
  g : Grid
  as : List Addr
  ts : List Tel
  ds : List V
structure GatAt (C D : Addr) (H : Hp) (p : Addr) (r : GR) : Prop where
  at_ : ∃ dx, H p = some (.ins D dx (gf r.pl r.td r.dd))
  land : LandAt C H r.pl r.L r.g
  told : H r.td = some (.lst (r.as.map V.ref))
  tels : TelsAt H r.as r.ts
  deeds : H r.dd = some (.lst r.ds)
  ne : r.td ≠ r.dd
theorem GatAt.same {C D : Addr} {H H' : Hp} {p : Addr} {r : GR} (h : GatAt C D H p r) (s : Same H H') : GatAt C D H' p r :=
  ⟨let ⟨dx, e⟩ := h.at_; ⟨dx, s _ _ e⟩, h.land.keep (kp_same s), s _ _ h.told, h.tels.keep (tk_same s), s _ _ h.deeds, h.ne⟩
/-- all but what stands at a and b is as it was -/
def Same2 (a b : Addr) (H H' : Hp) : Prop := ∀ c o, c ≠ a → c ≠ b → H c = some o → H' c = some o
theorem Same2.of {a b : Addr} {H H' : Hp} (s : Same H H') : Same2 a b H H' := fun c o _ _ h => s c o h
theorem Same2.trans {a b : Addr} {H H1 H2 : Hp} (s : Same2 a b H H1) (t : Same2 a b H1 H2) : Same2 a b H H2 := fun c o n m h => t c o n m (s c o n m h)
structure TxtG (K : PySem.W.Frag) (mg : Str → Option Value) (D : Addr) : Prop where
  cl : Cls K D
  nL : NoAttr K D "land"
  nT : NoAttr K D "told"
  nD : NoAttr K D "deeds"
  mgD : mg "Gathering" = some (.ref D)
def keyS (t : Tel) : List Str := [t.v, t.tl, t.th, t.g]
theorem keyV_eq (t : Tel) : keyV t = (keyS t).map V.str := rfl
theorem strs_eqv : ∀ a b : List Str, PyData.eqvAll (a.map PyData.str) (b.map PyData.str) = decide (a = b)
  | [], [] => by simp [PyData.eqvAll]
  | [], _ :: _ => by simp [PyData.eqvAll]
  | _ :: _, [] => by simp [PyData.eqvAll]
  | x :: a, y :: b => by
    have e : PyData.eqv (.str x) (.str y) = decide (x = y) := o_eqv (some x) (some y) |>.trans (by simp)
    simp only [List.map_cons, PyData.eqvAll, e, strs_eqv a b, List.cons.injEq]
    by_cases h1 : x = y <;> by_cases h2 : a = b <;> simp [h1, h2]
theorem tup_eqv (a b : List Str) : PyData.eqv (.tuple (a.map PyData.str)) (.tuple (b.map PyData.str)) = decide (a = b) := by
  simp only [PyData.eqv, strs_eqv]
theorem shaped_strs {a : List Str} (h : ∀ z ∈ a, IsWd z) : SeqAt.shaped (.tuple (a.map PyData.str)) = true := shaped_tuple (lay_strs h) (by rw [depth_strs]; omega)
theorem OkT.key {t : Tel} (h : OkT t) : ∀ z ∈ keyS t, IsWd z := fun z hz => by
  simp only [keyS, List.mem_cons, List.not_mem_nil, or_false] at hz
  rcases hz with rfl | rfl | rfl | rfl
  · exact h.v
  · exact h.tl
  · exact h.th
  · exact h.g
section
variable {P : Program} {w : World} {K : PySem.W.Frag} {mg : Str → Option Value} {base : Heap} {f C D : Addr} {fd : FuncData}
theorem land_but {H H' : Hp} {p pl L dx : Addr} {g : Grid} {fs : List (Str × V)} (h : LandAt C H pl L g) (hp : H p = some (.ins D dx fs)) (n : p ≠ pl) (k : ∀ b o, b ≠ p → H b = some o → H' b = some o) : LandAt C H' pl L g := by
  obtain ⟨d, dl, k1, ⟨kvs, k2, k3⟩, k4⟩ := h
  have tk : TupKeep H H' := fun b xs e => k b _ (ne_of e hp (by intro z; cases z)) e
  exact ⟨d, dl, k _ _ n.symm k1, ⟨kvs, k _ _ (ne_of k2 hp (by intro z; cases z)) k2, ent_keep tk k3⟩, k4.keep tk⟩
/-! ### a new one -/
def spGInit (C D : Addr) : Sp := fun vs H Q _ => ∃ (p dx pl L : Addr) (g : Grid), vs = [.ref p, .ref pl] ∧ H p = some (.ins D dx []) ∧ LandAt C H pl L g ∧ p ≠ pl ∧
  ∀ (td dd : Addr) (H' : Hp), H td = none → H dd = none → (∀ b o, b ≠ p → H b = some o → H' b = some o) → GatAt C D H' p ⟨pl, L, td, dd, g, [], [], []⟩ → Q .non H'
theorem scGInit : FnScope ["self", "land"] ["self", "land"] (defScope sGInit) := ⟨rfl, rfl, rfl, by decide +kernel, rfl, by decide +kernel, by decide +kernel⟩
theorem ok_ginit (F : Fun K "__init__" "Gathering.__init__" sGInit f fd) (B : Bi mg) (T : Txt2 K mg C) (TG : TxtG K mg D) : FnOk P w K mg base CX0 1 f fd ["self", "land"] (spGInit C D) := by
  refine F.ok scGInit (fun vs H Q E h => ?_) (fun cdv A outer s H vs Q E hr h => ?_)
  · obtain ⟨p, dx, pl, L, g, rfl, _⟩ := h
    rfl
  · obtain ⟨p, dx, pl, L, g, rfl, hp, hLa, npl, q⟩ := h
    refine ⟨_, pss_cons (ps_if (pt_not (pt_val (pe_callB (C8.call_isC (C := C) T.ins) (by rfl) B.isi (by decide +kernel) (pa_cons (pv 1) (pa_cons (pe_glob (v := .ref C) rfl T.t.mgC rfl) pa_nil))))) (pss_one ps_never) pss_nil)
      (pss_cons (ps_fld (pv 0) (pv 1) rfl) (pss_cons (ps_fld (pv 0) (pe_lst pa_nil) rfl) (pss_one (ps_fld (pv 0) (pe_lst pa_nil) rfl)))), ?_⟩
    obtain ⟨dl, d, i1⟩ := hLa.ins
    refine ⟨_, rfl, pl, dl, _, rfl, i1, true, rfl, iteF ?_⟩
    refine ⟨_, rfl, _, rfl, p, D, dx, [], rfl, hp, TG.cl, TG.nL, (by show 0 < 1000; decide), ?_⟩
    refine ⟨lz, fun td htd => ⟨_, rfl, p, D, dx, putF "land" (.ref pl) [], rfl, (same_new htd) _ _ upd_same, TG.cl, TG.nT, (by show 1 < 1000; decide), ?_⟩⟩
    refine ⟨lz, fun dd hdd => ⟨_, rfl, p, D, dx, putF "told" (.ref td) (putF "land" (.ref pl) []), rfl, (same_new hdd) _ _ upd_same, TG.cl, TG.nD, (by show 2 < 1000; decide), ?_⟩⟩
    have ntp : td ≠ p := fun e => by
      rw [e, upd_same] at htd
      cases htd
    have htd0 : H td = none := by
      rw [upd_ne ntp] at htd
      exact htd
    have ndp : dd ≠ p := fun e => by
      rw [e, upd_same] at hdd
      cases hdd
    have ndt : dd ≠ td := fun e => by
      rw [e, upd_ne ntp, upd_same] at hdd
      cases hdd
    have hdd0 : H dd = none := by
      rw [upd_ne ndp, upd_ne ndt, upd_ne ndp] at hdd
      exact hdd
    have all : ∀ b o, b ≠ p → H b = some o → upd (upd (upd (upd (upd H p (.ins D dx (putF "land" (.ref pl) []))) td (.lst [])) p (.ins D dx (putF "told" (.ref td) (putF "land" (.ref pl) [])))) dd (.lst [])) p (.ins D dx (gf pl td dd)) b = some o := fun b o n e => by
      rw [upd_ne n, upd_ne (ne_of_none e hdd0), upd_ne n, upd_ne (ne_of_none e htd0), upd_ne n]
      exact e
    refine q td dd _ htd0 hdd0 all ⟨⟨dx, upd_same⟩, ?_, ?_, .nil, ?_, ndt.symm⟩
    · exact land_but hLa hp npl all
    · rw [upd_ne ntp, upd_ne ndt.symm, upd_ne ntp, upd_same]
      rfl
    · rw [upd_ne ndp, upd_same]
/-! ### where a key stands -/
def plV (o : Option Nat) : V := match o with
  | some i => .int (i : Int)
  | none => .non
def spGPlace (C D : Addr) : Sp := fun vs H Q _ => ∃ (p kp : Addr) (r : GR) (ks : List Str), vs = [.ref p, .ref kp] ∧ GatAt C D H p r ∧ (∀ t ∈ r.ts, OkT t) ∧ r.ts.length ≤ 200 ∧ H kp = some (.tup (ks.map V.str)) ∧ (∀ z ∈ ks, IsWd z) ∧
  ∀ (H' : Hp), Same H H' → Q (plV (r.ts.findIdx? fun t => decide (keyS t = ks))) H'
abbrev nGPlace : List Str := ["self", "key", "place", "telling"]
theorem scGPlace : FnScope nGPlace ["self", "key"] (defScope sGPlace) := ⟨rfl, rfl, rfl, by decide +kernel, rfl, by decide +kernel, by decide +kernel⟩
theorem find_at {α : Type} {q : α → Bool} {l : List α} {i : Nat} {x : α} (h : l[i]? = some x) (hq : q x = true) (hn : ∀ j y, j < i → l[j]? = some y → q y = false) : l.findIdx? q = some i := by
  rw [List.findIdx?_eq_some_iff_getElem]
  obtain ⟨hi, e⟩ := List.getElem?_eq_some_iff.mp h
  refine ⟨hi, by rw [e]; exact hq, fun j hj => ?_⟩
  rw [hn j _ hj (List.getElem?_eq_getElem (by omega))]
  decide
theorem ok_gplace (F : Fun K "place_of" "Gathering.place_of" sGPlace f fd) (B : Bi mg) (TG : TxtG K mg D) (hK : Has P w K mg base "key_of" 1 ["telling"] spKeyOf) : FnOk P w K mg base CX0 2 f fd ["self", "key"] (spGPlace C D) := by
  refine F.ok scGPlace (fun vs H Q E h => ?_) (fun cdv A outer s H vs Q E hr h => ?_)
  · obtain ⟨p, kp, r, ks, rfl, _⟩ := h
    rfl
  · obtain ⟨p, kp, r, ks, rfl, hG, hok, h200, hk, hkw, q⟩ := h
    refine ⟨_, pss_cons (ps_for PassesOwn.never rfl (pi_enum (by rfl) B.enum (pa_cons (pe_fld (pv 0) rfl) pa_nil)) (pg_tup rfl (pgs_cons (pg_name (i := 2) scGPlace.nd rfl (.inl rfl)) (pgs_cons (pg_name (i := 3) scGPlace.nd rfl (.inl rfl)) pgs_nil)))
        (pss_one (ps_if (pt_cmpR (op_eqD hr.units) (pe_h hK hr (pa_cons (pv 3) pa_nil)) (pv 1) (nomark _)) (pss_one (ps_ret (pv 2))) pss_nil)))
      (pss_one (ps_ret pe_non)), ?_⟩
    obtain ⟨dx, hp⟩ := hG.at_
    refine ⟨_, rfl, p, D, dx, _, _, rfl, hp, TG.cl, TG.nT, gf_told _ _ _, r.td, _, rfl, .inl (.inl hG.told), for_it (walk_enum (K := K) (a := r.td) (xs := r.as.map V.ref)) (fun i σ H' => (∃ y2 y3, σ = [some (.ref p), some (.ref kp), y2, y3]) ∧ Same H H' ∧ ∀ j t, j < i → r.ts[j]? = some t → keyS t ≠ ks)
      ⟨⟨_, _, rfl⟩, Same.refl H, fun j t hj => absurd hj (Nat.not_lt_zero _)⟩ (fun i σ H' _ h => .inl (.inl (h.2.1 _ _ hG.told))) ?_ ?_⟩
    · rintro i x σ H1 H2 hi ⟨⟨y2, y3, rfl⟩, s1, hno⟩ ⟨T, x1, x2, rfl, hT, rfl, ex1, ex2⟩
      have ex1 : (some (V.int (i : Nat)) : Option V) = some x1 := ex1
      cases ex1
      have ex2 : (r.as.map V.ref)[i]? = some x2 := ex2
      rw [List.getElem?_map] at ex2
      obtain ⟨pt, hpt, rfl⟩ := Option.map_eq_some_iff.mp ex2
      obtain ⟨t, ht, hpt1⟩ := Each.get hG.tels hpt
      have okt := hok t (List.mem_of_getElem? ht)
      have sT : Same H1 (upd H1 T (.tup [V.int (i : Nat), .ref pt])) := same_new hT
      refine ⟨T, _, rfl, .inl (.inl upd_same), rfl, _, _, rfl, _, _, rfl, rfl, ?_⟩
      have s2 := s1.trans sT
      generalize upd H1 T (.tup [V.int (i : Nat), .ref pt]) = H2 at s2
      refine ⟨_, rfl, pt, t, rfl, s2 _ _ hpt1, fun u hu => ?_⟩
      have s3 := same_new (o := .tup (keyV t)) hu
      refine ⟨_, rfl, .tuple ((keyS t).map .str), .tuple (ks.map .str), .tup (.inl (.inl upd_same)) (dp_strs (keyS t)), .tup (.inl (.inl (s3 _ _ (s2 _ _ hk)))) (dp_strs ks), shaped_strs okt.key, shaped_strs hkw, _, rfl, ?_⟩
      rw [tup_eqv]
      refine ite_b (fun e => ?_) (fun e => ?_)
      · refine ⟨_, rfl, ?_⟩
        have := q _ (s2.trans s3)
        rw [find_at ht e fun j y hj hy => decide_eq_false (hno j y hj hy)] at this
        exact this
      · refine ⟨⟨_, _, rfl⟩, s2.trans s3, fun j y hj hy => ?_⟩
        by_cases c : j = i
        · subst c
          rw [ht] at hy
          cases hy
          exact of_decide_eq_false e
        · exact hno j y (by omega) hy
    · rintro σ H1 ⟨⟨y2, y3, rfl⟩, s1, hno⟩
      have e : (r.ts.findIdx? fun t => decide (keyS t = ks)) = none := by
        rw [List.findIdx?_eq_none_iff]
        intro t ht
        obtain ⟨j, hj, ej⟩ := List.mem_iff_getElem.mp ht
        refine decide_eq_false (hno j t ?_ (by rw [List.getElem?_eq_getElem hj, ej]))
        rw [List.length_map]
        have := hG.tels.length
        omega
      have := q H1 s1
      rw [e] at this
      exact this
end
end Wl





namespace Wl
open PySem PySem.Spec PyProof.Rows L2
abbrev psPut : List Str := ["self", "village", "thing", "word", "teller", "age", "gatherer", "sure"]
abbrev nPut : List Str := ["self", "village", "thing", "word", "teller", "age", "gatherer", "sure", "key"]
theorem scPut : FnScope nPut psPut (defScope sGPut) := ⟨rfl, rfl, rfl, by decide +kernel, rfl, by decide +kernel, by decide +kernel⟩
def GR.add (r : GR) (q : Addr) (t : Tel) : GR := { r with as := r.as ++ [q], ts := r.ts ++ [t], ds := r.ds ++ [.non] }
section
variable {P : Program} {w : World} {K : PySem.W.Frag} {mg : Str → Option Value} {base : Heap} {f C D : Addr} {fd : FuncData}
/-- put: the last two may be left out -/
abbrev FunP (K : PySem.W.Frag) (f : Addr) (fd : FuncData) : Prop := FunD K "put" "Gathering.put" (defArgs sGPut) (defBody sGPut) (defScope sGPut) [.str "self", .bl true] [] f fd
theorem okD {x qual : Str} {params : Arguments} {body : List Stmt} {scope : Scope} {dvs : List V} {N ps : List Str} {k : Nat} {sp : Sp} (F : FunD K x qual params body scope dvs [] f fd) (S : FnScope N ps scope) (len : ∀ vs H Q E, sp vs H Q E → vs.length = ps.length)
    (hbody : ∀ (cdv : Value) (A : Around) (outer : List Env) (s : Shared) (H : Hp) (vs : List V) (Q : VK) (E : XK), Room k (A.deeper (envOfC qual scope s.heap.objs.size f cdv)) → sp vs H Q E →
      ∃ t, PSs (cxOf CX0 P w K mg base N qual scope f cdv A outer s H E).nox body t ∧ t { nx := fun _ H' => Q .non H', rt := Q } (start N vs) H) : FnOk P w K mg base CX0 (k + 1) f fd ps sp :=
  F.ok S len fun cdv A outer s H vs Q E hr hsp => let ⟨t, h, q⟩ := hbody cdv A outer s H vs Q E hr hsp; ⟨t, h.nox, q⟩
def spPut (C D : Addr) : Sp := fun vs H Q _ => ∃ (p : Addr) (r : GR) (wd : Nat) (t : Tel), vs = .ref p :: telV t ∧ GatAt C D H p r ∧ Good r.g wd ∧ (∀ u ∈ r.ts, OkT u) ∧ OkT t ∧ t.v ∈ names r.g ∧ keyS t ∉ r.ts.map keyS ∧ r.ts.length < 200 ∧ r.ds.length < 1000 ∧
  ∀ (q : Addr) (H' : Hp), H q = none → Same2 r.td r.dd H H' → GatAt C D H' p (r.add q t) → Q .non H'
theorem find_no {l : List Tel} {t : Tel} (h : keyS t ∉ l.map keyS) : (l.findIdx? fun u => decide (keyS u = keyS t)) = none := by
  rw [List.findIdx?_eq_none_iff]
  intro u hu
  exact decide_eq_false fun e => h (List.mem_map.mpr ⟨u, hu, e⟩)
theorem ok_put (F : FunP K f fd) (B : Bi mg) (B2 : Bg mg) (T : Txt K mg C) (TG : TxtG K mg D) (hCk : HasM P w K mg base C "check_name" 2 ["self", "name"] (spCheck C)) (hW : Has P w K mg base "check_word" 2 ["word"] spCheckW)
    (hA : Has P w K mg base "check_age" 3 ["age"] spCheckA) (hS : Has P w K mg base "check_sure" 1 ["sure"] spCheckS) (hP : HasM P w K mg base D "place_of" 2 ["self", "key"] (spGPlace C D)) : FnOk P w K mg base CX0 4 f fd psPut (spPut C D) := by
  obtain ⟨t200, g200⟩ := B2.most
  refine okD F scPut (fun vs H Q E h => ?_) (fun cdv A outer s H vs Q E hr h => ?_)
  · obtain ⟨p, r, wd, t, rfl, _⟩ := h
    rfl
  · obtain ⟨p, r, wd, t, rfl, hG, gd, hok, okt, hv, hnew, h200, hds, q⟩ := h
    refine ⟨_, pss_cons (ps_expr (pe_hm hCk T.cl hr (pe_fld (pv 0) rfl) (pa_cons (pv 1) pa_nil)))
      (pss_cons (ps_expr (pe_h hW hr (pa_cons (pv 2) pa_nil)))
      (pss_cons (ps_expr (pe_h hW hr (pa_cons (pv 3) pa_nil)))
      (pss_cons (ps_expr (pe_h hW hr (pa_cons (pv 4) pa_nil)))
      (pss_cons (ps_expr (pe_h hA hr (pa_cons (pv 5) pa_nil)))
      (pss_cons (ps_expr (pe_h hW hr (pa_cons (pv 6) pa_nil)))
      (pss_cons (ps_expr (pe_h hS hr (pa_cons (pv 7) pa_nil)))
      (pss_cons (ps_set (i := 8) scPut.nd rfl (.inl rfl) (pe_tup (pa_cons (pv 1) (pa_cons (pv 4) (pa_cons (pv 2) (pa_cons (pv 6) pa_nil))))))
      (pss_cons (ps_if (pt_cmp (pc_notN (pe_hm hP TG.cl hr (pv 0) (pa_cons (pv 8) pa_nil)))) (pss_one ps_never) pss_nil)
      (pss_cons (ps_if (pt_cmpR op_ge (pe_callB call_len_seq (by rfl) B.len PySem.boot_len (pa_cons (pe_fld (pv 0) rfl) pa_nil)) (pe_glob (v := .int 200) rfl g200 ⟨_, rfl⟩) (nomark _)) (pss_one ps_never) pss_nil)
      (pss_cons (ps_expr (pe_bm PySem.F.plainAttrs_list PySem.F.slot_list_append PySem.F.type_list_append mt_append (pe_fld (pv 0) rfl) (pa_cons (pe_tup (pa_cons (pv 1) (pa_cons (pv 2) (pa_cons (pv 3) (pa_cons (pv 4) (pa_cons (pv 5) (pa_cons (pv 6) (pa_cons (pv 7) pa_nil)))))))) pa_nil)))
      (pss_one (ps_expr (pe_bm PySem.F.plainAttrs_list PySem.F.slot_list_append PySem.F.type_list_append mt_append (pe_fld (pv 0) rfl) (pa_cons pe_non pa_nil)))))))))))))), ?_⟩
    obtain ⟨dx, hp⟩ := hG.at_
    obtain ⟨dl, d, hl⟩ := hG.land.ins
    refine ⟨_, rfl, p, D, dx, _, _, rfl, hp, TG.cl, TG.nL, gf_land _ _ _, r.pl, dl, _, rfl, hl, fs_no, _, rfl, r.pl, r.L, r.g, wd, t.v, rfl, hG.land, gd, hv, fun H1 s1 => ?_⟩
    refine ⟨_, rfl, t.th, rfl, okt.th, fun H2 s2 => ?_⟩
    refine ⟨_, rfl, t.wo, rfl, okt.wo, fun H3 s3 => ?_⟩
    refine ⟨_, rfl, t.tl, rfl, okt.tl, fun H4 s4 => ?_⟩
    refine ⟨_, rfl, t.age, rfl, okt.age, ?_⟩
    refine ⟨_, rfl, t.g, rfl, okt.g, fun H5 s5 => ?_⟩
    refine ⟨_, rfl, t.sure, rfl, ?_⟩
    have s15 := ((s1.trans s2).trans (s3.trans s4)).trans s5
    refine ⟨_, rfl, _, rfl, _, rfl, _, rfl, lz, fun kp hkp => ?_⟩
    have s6 := same_new (o := .tup [V.str t.v, V.str t.tl, V.str t.th, V.str t.g]) hkp
    have hkp6 : upd H5 kp (.tup [V.str t.v, V.str t.tl, V.str t.th, V.str t.g]) kp = some (.tup ((keyS t).map V.str)) := upd_same
    have s16 := s15.trans s6
    have hG6 := hG.same s16
    generalize upd H5 kp (.tup [V.str t.v, V.str t.tl, V.str t.th, V.str t.g]) = H6 at hkp6 s16 hG6
    obtain ⟨dx6, hp6⟩ := hG6.at_
    refine ⟨_, rfl, p, dx6, _, rfl, hp6, gf_no _ _ _, _, rfl, p, kp, r, keyS t, rfl, hG6, hok, by omega, hkp6, okt.key, fun H7 s7 => ?_⟩
    rw [find_no hnew]
    refine ⟨_, rfl, iteF ?_⟩
    have hG7 := hG6.same s7
    obtain ⟨dx7, hp7⟩ := hG7.at_
    have hlen : r.as.length = r.ts.length := hG.tels.length
    refine ⟨_, rfl, p, D, dx7, _, _, rfl, hp7, TG.cl, TG.nT, gf_told _ _ _, r.td, _, rfl, .inl (.inl (.inl hG7.told)), _, _, rfl, rfl, _, rfl, ?_⟩
    have hno : decide ((200 : Int) ≤ ((r.as.map V.ref).length : Int)) = false := decide_eq_false (by rw [List.length_map]; omega)
    rw [hno]
    refine iteF ⟨_, rfl, p, D, dx7, _, _, rfl, hp7, TG.cl, TG.nT, gf_told _ _ _, .inl ⟨rfl, _, .inl (.inl hG7.told)⟩, _, rfl, _, rfl, _, rfl, _, rfl, _, rfl, _, rfl, _, rfl, lz, fun qa hqa => ?_⟩
    have s8 := same_new (o := .tup [V.str t.v, V.str t.th, V.str t.wo, V.str t.tl, V.int (t.age : Int), V.str t.g, V.bl t.sure]) hqa
    have hG8 := hG7.same s8
    have hqa8 : upd H7 qa (.tup [V.str t.v, V.str t.th, V.str t.wo, V.str t.tl, V.int (t.age : Int), V.str t.g, V.bl t.sure]) qa = some (.tup (telV t)) := upd_same
    have s18 := s16.trans (s7.trans s8)
    have hqa0 : H qa = none := (s16.trans s7).free hqa
    refine ⟨r.td, _, _, rfl, rfl, hG8.told, by rw [List.length_map]; exact small1000 (by omega), ?_⟩
    obtain ⟨dx8, hp8⟩ := hG8.at_
    have hd8 := hG8.deeds
    have ht8 := hG8.told
    generalize upd H7 qa (.tup [V.str t.v, V.str t.th, V.str t.wo, V.str t.tl, V.int (t.age : Int), V.str t.g, V.bl t.sure]) = H8 at hG8 hqa8 s18 hp8 hd8 ht8
    have k9 : Keep H8 (upd H8 r.td (.lst (r.as.map V.ref ++ [.ref qa]))) := kp_upd ht8
    have hp9 := k9 _ _ ⟨fun _ e => (by cases e), fun _ e => (by cases e)⟩ hp8
    have hd9 : upd H8 r.td (.lst (r.as.map V.ref ++ [.ref qa])) r.dd = some (.lst r.ds) := by
      rw [upd_ne hG.ne.symm]
      exact hd8
    have ht9 : upd H8 r.td (.lst (r.as.map V.ref ++ [.ref qa])) r.td = some (.lst (r.as.map V.ref ++ [.ref qa])) := upd_same
    have m9 : Same2 r.td r.dd H8 (upd H8 r.td (.lst (r.as.map V.ref ++ [.ref qa]))) := fun c o n _ e => by
      rw [upd_ne n]
      exact e
    generalize upd H8 r.td (.lst (r.as.map V.ref ++ [.ref qa])) = H9 at k9 hp9 hd9 ht9 m9
    refine ⟨_, rfl, p, D, dx8, _, _, rfl, hp9, TG.cl, TG.nD, gf_deeds _ _ _, .inl ⟨rfl, _, .inl (.inl hd9)⟩, r.dd, _, _, rfl, rfl, hd9, small1000 (by omega), ?_⟩
    have k10 : Keep H9 (upd H9 r.dd (.lst (r.ds ++ [.non]))) := kp_upd hd9
    have kk := k9.trans k10
    refine q qa _ hqa0 ?_ ⟨⟨dx8, k10 _ _ ⟨fun _ e => (by cases e), fun _ e => (by cases e)⟩ hp9⟩, hG8.land.keep kk, ?_, ?_, upd_same, hG.ne⟩
    · refine (Same2.of s18).trans (m9.trans fun c o _ n e => ?_)
      rw [upd_ne n]
      exact e
    · show upd H9 r.dd (.lst (r.ds ++ [.non])) r.td = some (.lst ((r.as ++ [qa]).map V.ref))
      rw [upd_ne hG.ne, ht9, List.map_append]
      rfl
    · exact Each.append (hG8.tels.keep kk.tk) (.cons (kk.tk _ _ hqa8) .nil)
end
end Wl





namespace Wl
open PySem PySem.Spec PyProof.Rows L2
/-! o.m(e, .., k = v, ..) of a method that may leave some out. -/
def tMethN (C : Addr) (m : Str) (n j : Nat) (sp : Sp) (gV : List V → List V → List V) (E : XK) (ta : TE) (t tk : TA) : TE := fun σ H Q => ta σ H fun x H1 =>
  ∃ a dx fs, x = .ref a ∧ H1 a = some (.ins C dx fs) ∧ fs.lookup m = none ∧ t σ H1 fun vs H2 => tk σ H2 fun zs H3 => vs.length = n ∧ zs.length = j ∧ sp (gV (.ref a :: vs) zs) H3 Q E
section
variable {X : Cx} {CX : CXT} {k n : Nat} {f C : Addr} {fd : FuncData} {ps ks : List Str} {sp : Sp} {E : XK} {m : Str} {pos apos : Pos} {o e : Expr} {es : List Expr} {kws : List Keyword} {ta : TE} {t tk : TA} {pl : Sem Bool} {g : List Value → List Value → List Value} {gV : List V → List V → List V}
theorem pe_methN0 (he : PE X o ta) (c : Cls X.K C) (hm : Meth X.K C m f) (F : FnOk X.prog X.w X.K X.mg X.base CX k f fd ps sp) (hr : Room k X.A) (hb : KBn X.K fd ps 1 ks g gV) (hx : Passes CX X E) (hkw : PK X kws tk)
    (hall : (backToKw pos (keywordEach kws X.env)).all (·.1.isSome) = true := by rfl) (hks : (backToKw pos (keywordEach kws X.env)).filterMap (·.1) = ks := by rfl)
    (hpl : ((backTo pos (starEach [] X.env)).any (·.1) || (backToKw pos (keywordEach kws X.env)).any (·.1.isNone)) = false := by rfl)
    (ht : eval (.Call (.Attribute o m apos) [] kws pos) X.env = (do
      let ov ← eval o X.env
      standAt apos.atName
      let (f, first) ← holding [ov] (getMethod ov m pl)
      callWith pos f first (backTo pos (starEach [] X.env)) (backToKw pos (keywordEach kws X.env))) := by rfl) :
    PE X (.Call (.Attribute o m apos) [] kws pos) (tMethN C m 0 ks.length sp gV E ta tNil tk) := by
  refine ⟨fun pins s σ H Q I h => ?_⟩
  refine PySem.W.methodCall_KW (pl := pl) (thn (he.run pins s σ H _ I h) fun u s1 ⟨x, H1, I1, rx, a, dx, fs, ex, ea, l, q⟩ => ?_) ht
  subst ex
  obtain rfl : u = Value.ref a := rx
  refine getmeth_ok I1 ea c hm l ?_
  refine PySem.W.callWith_KW0 (first := [.ref a]) (h₀ := X.base) I.ok.mod.kin hm.kp hall (thn (hkw.run pos pins s1 σ H1 _ I1 q) fun ws s2 ⟨zs, H2, I2, rz, _, l2, q2⟩ => ⟨I2.kIn, ?_⟩) hpl
  rw [hks]
  exact run_fnN (us := [.ref a]) (vs := [.ref a]) F hr hb hx I2 (.cons rfl .nil) rz rfl l2 q2
theorem pe_methN (he : PE X o ta) (c : Cls X.K C) (hm : Meth X.K C m f) (F : FnOk X.prog X.w X.K X.mg X.base CX k f fd ps sp) (hr : Room k X.A) (hb : KBn X.K fd ps (n + 1) ks g gV) (hx : Passes CX X E) (ha : PA X (e :: es) t) (hkw : PK X kws tk)
    (hall : (backToKw pos (keywordEach kws X.env)).all (·.1.isSome) = true := by rfl) (hks : (backToKw pos (keywordEach kws X.env)).filterMap (·.1) = ks := by rfl)
    (hst : starEach (e :: es) X.env = (false, eval e X.env) :: starEach es X.env := by rfl)
    (hpl : ((backTo pos (starEach (e :: es) X.env)).any (·.1) || (backToKw pos (keywordEach kws X.env)).any (·.1.isNone)) = false := by rfl)
    (ht : eval (.Call (.Attribute o m apos) (e :: es) kws pos) X.env = (do
      let ov ← eval o X.env
      standAt apos.atName
      let (f, first) ← holding [ov] (getMethod ov m pl)
      callWith pos f first (backTo pos (starEach (e :: es) X.env)) (backToKw pos (keywordEach kws X.env))) := by rfl) :
    PE X (.Call (.Attribute o m apos) (e :: es) kws pos) (tMethN C m n ks.length sp gV E ta t tk) := by
  refine ⟨fun pins s σ H Q I h => ?_⟩
  refine PySem.W.methodCall_KW (pl := pl) (thn (he.run pins s σ H _ I h) fun u s1 ⟨x, H1, I1, rx, a, dx, fs, ex, ea, l, q⟩ => ?_) ht
  subst ex
  obtain rfl : u = Value.ref a := rx
  refine getmeth_ok I1 ea c hm l ?_
  refine PySem.W.callWith_KW (first := [.ref a]) (h₀ := X.base) I.ok.mod.kin hm.kp hall (thn (ha.run pos pins s1 σ H1 _ I1 q) fun us s2 ⟨vs, H2, I2, r, q2⟩ => ?_) hpl hst
  refine thn (hkw.run pos pins s2 σ H2 _ I2 q2) fun ws s3 ⟨zs, H3, I3, rz, l1, l2, q3⟩ => ⟨I3.kIn, ?_⟩
  rw [hks]
  exact run_fnN (us := .ref a :: us) (vs := .ref a :: vs) F hr hb hx I3 (.cons rfl r) rz (by rw [List.length_cons, l1]) l2 q3
end
/-! the ways to call put -/
/-- age, village, gatherer, word, teller, thing; sure left out -/
def gP1 {α : Type} : List α → List α → List α → List α
  | [s], [_, b], [ag, v, g, w, tl, th] => [s, v, th, w, tl, ag, g, b]
  | _, _, _ => []
/-- five by place, sure by name -/
def gP2 {α : Type} : List α → List α → List α → List α
  | [s, v, th, w, tl, ag], [g, _], [b] => [s, v, th, w, tl, ag, g, b]
  | _, _, _ => []
/-- all by name: sure, gatherer, age, teller, word, thing, village -/
def gP3 {α : Type} : List α → List α → List α → List α
  | [s], [_, _], [b, g, ag, tl, w, th, v] => [s, v, th, w, tl, ag, g, b]
  | _, _, _ => []
theorem gP1_rel {vs ds zs : List V} {us its ws : List Value} (r1 : Vals vs us) (r2 : Vals ds its) (r3 : Vals zs ws) : Vals (gP1 vs ds zs) (gP1 us its ws) := by
  rcases r1 with _ | ⟨a1, _ | ⟨_, _⟩⟩
  · exact .nil
  · rcases r2 with _ | ⟨b1, _ | ⟨b2, _ | ⟨_, _⟩⟩⟩
    · exact .nil
    · exact .nil
    · rcases r3 with _ | ⟨c1, _ | ⟨c2, _ | ⟨c3, _ | ⟨c4, _ | ⟨c5, _ | ⟨c6, _ | ⟨_, _⟩⟩⟩⟩⟩⟩⟩
      all_goals first | exact .nil | exact .cons a1 (.cons c2 (.cons c6 (.cons c4 (.cons c5 (.cons c1 (.cons c3 (.cons b2 .nil)))))))
    · exact .nil
  · exact .nil
theorem gP2_rel {vs ds zs : List V} {us its ws : List Value} (r1 : Vals vs us) (r2 : Vals ds its) (r3 : Vals zs ws) : Vals (gP2 vs ds zs) (gP2 us its ws) := by
  rcases r1 with _ | ⟨a1, _ | ⟨a2, _ | ⟨a3, _ | ⟨a4, _ | ⟨a5, _ | ⟨a6, _ | ⟨_, _⟩⟩⟩⟩⟩⟩⟩
  all_goals first | exact .nil | skip
  rcases r2 with _ | ⟨b1, _ | ⟨b2, _ | ⟨_, _⟩⟩⟩
  all_goals first | exact .nil | skip
  rcases r3 with _ | ⟨c1, _ | ⟨_, _⟩⟩
  all_goals first | exact .nil | exact .cons a1 (.cons a2 (.cons a3 (.cons a4 (.cons a5 (.cons a6 (.cons b1 (.cons c1 .nil)))))))
theorem gP3_rel {vs ds zs : List V} {us its ws : List Value} (r1 : Vals vs us) (r2 : Vals ds its) (r3 : Vals zs ws) : Vals (gP3 vs ds zs) (gP3 us its ws) := by
  rcases r1 with _ | ⟨a1, _ | ⟨_, _⟩⟩
  all_goals first | exact .nil | skip
  rcases r2 with _ | ⟨b1, _ | ⟨b2, _ | ⟨_, _⟩⟩⟩
  all_goals first | exact .nil | skip
  rcases r3 with _ | ⟨c1, _ | ⟨c2, _ | ⟨c3, _ | ⟨c4, _ | ⟨c5, _ | ⟨c6, _ | ⟨c7, _ | ⟨_, _⟩⟩⟩⟩⟩⟩⟩⟩
  all_goals first | exact .nil | exact .cons a1 (.cons c7 (.cons c6 (.cons c5 (.cons c4 (.cons c3 (.cons c2 (.cons c1 .nil)))))))
section
variable {K : PySem.W.Frag} {f : Addr} {fd : FuncData}
theorem put_b8 (F : FunP K f fd) : Binds K fd psPut [] := by
  obtain ⟨ds, h1, h2⟩ := F.binds1 (ps := psPut) 8 2 (by simp) rfl (fun T kV doc pm an cdv ct us its l1 l2 => by
      match us, its, l1, l2 with
      | [_, _, _, _, _, _, _, _], [_, _], _, _ => exact ⟨_, rfl, rfl⟩)
  cases h1
  exact h2
theorem put_b6 (F : FunP K f fd) : ∃ ds, Vals [V.str "self", V.bl true] ds ∧ Binds K fd psPut ds :=
  F.binds1 (ps := psPut) 6 0 (by simp) rfl (fun T kV doc pm an cdv ct us its l1 l2 => by
      match us, its, l1, l2 with
      | [_, _, _, _, _, _], [_, _], _, _ => exact ⟨_, rfl, rfl⟩)
theorem put_k1 (F : FunP K f fd) : ∃ its : List Value, KBn K fd psPut 1 ["age", "village", "gatherer", "word", "teller", "thing"] (fun us ws => gP1 us its ws) (fun vs zs => gP1 vs [.str "self", .bl true] zs) :=
  F.kbindsD 1 _ gP1 (by simp) gP1_rel (fun T kV doc pm an cdv ct us its ws l1 l2 l3 => by
      match us, its, ws, l1, l2, l3 with
      | [_], [_, _], [_, _, _, _, _, _], _, _, _ => exact ⟨_, rfl, rfl⟩)
theorem put_k2 (F : FunP K f fd) : ∃ its : List Value, KBn K fd psPut 6 ["sure"] (fun us ws => gP2 us its ws) (fun vs zs => gP2 vs [.str "self", .bl true] zs) :=
  F.kbindsD 6 _ gP2 (by simp) gP2_rel (fun T kV doc pm an cdv ct us its ws l1 l2 l3 => by
      match us, its, ws, l1, l2, l3 with
      | [_, _, _, _, _, _], [_, _], [_], _, _, _ => exact ⟨_, rfl, rfl⟩)
theorem put_k3 (F : FunP K f fd) : ∃ its : List Value, KBn K fd psPut 1 ["sure", "gatherer", "age", "teller", "word", "thing", "village"] (fun us ws => gP3 us its ws) (fun vs zs => gP3 vs [.str "self", .bl true] zs) :=
  F.kbindsD 1 _ gP3 (by simp) gP3_rel (fun T kV doc pm an cdv ct us its ws l1 l2 l3 => by
      match us, its, ws, l1, l2, l3 with
      | [_], [_, _], [_, _, _, _, _, _, _], _, _, _ => exact ⟨_, rfl, rfl⟩)
end
end Wl





namespace Wl
open PySem PySem.Spec PyProof.Rows L2
abbrev sTelRow : Stmt := topS 38
abbrev sGLen : Stmt := inClass sGat 11
abbrev sGStr : Stmt := inClass sGat 12
abbrev sGRepr : Stmt := inClass sGat 13
def ageS (n : Nat) : Str := (toString (n : Int) : String)
def partsS (t : Tel) : List Str := [t.v, t.th, t.wo, t.tl, ageS t.age, t.g]
def rowS (t : Tel) : Str := Txt.join (" " : Str) (if t.sure = true then partsS t else partsS t ++ [("?" : Str)])
theorem age_len {n : Nat} (h : n ≤ 120) : (ageS n).length ≤ 3 := by
  have : ∀ k : Fin 121, (ageS k.val).length ≤ 3 := by decide +kernel
  exact this ⟨n, by omega⟩
theorem age_log {n : Nat} (h : n ≤ 120) : (((n : Nat) : Int).natAbs).log2 < 1920 := by
  have : ((n : Nat) : Int).natAbs = n := Int.natAbs_natCast n
  rw [this]
  have h2 : n.log2 ≤ n := Nat.log2_le_self n
  omega
theorem parts_len {t : Tel} (h : OkT t) : ∀ z ∈ partsS t ++ [("?" : Str)], z.length ≤ 8 := fun z hz => by
  simp only [partsS, List.cons_append, List.nil_append, List.mem_cons, List.not_mem_nil, or_false] at hz
  rcases hz with rfl | rfl | rfl | rfl | rfl | rfl | rfl
  · exact h.v.len.2
  · exact h.th.len.2
  · exact h.wo.len.2
  · exact h.tl.len.2
  · have := age_len h.age
    omega
  · exact h.g.len.2
  · decide +kernel
section
variable {P : Program} {w : World} {K : PySem.W.Frag} {mg : Str → Option Value} {base : Heap} {f C D : Addr} {fd : FuncData}
/-! ### len -/
def spGLen (C D : Addr) : Sp := fun vs H Q _ => ∃ (p : Addr) (r : GR), vs = [.ref p] ∧ GatAt C D H p r ∧ Q (.int r.ts.length) H
theorem scGLen : FnScope ["self"] ["self"] (defScope sGLen) := ⟨rfl, rfl, rfl, by decide +kernel, rfl, by decide +kernel, by decide +kernel⟩
theorem ok_glen (F : Fun K "__len__" "Gathering.__len__" sGLen f fd) (B : Bi mg) (TG : TxtG K mg D) : FnOk P w K mg base CX0 1 f fd ["self"] (spGLen C D) := by
  refine F.ok scGLen (fun vs H Q E h => ?_) (fun cdv A outer s H vs Q E hr h => ?_)
  · obtain ⟨p, r, rfl, _⟩ := h
    rfl
  · obtain ⟨p, r, rfl, hG, q⟩ := h
    refine ⟨_, pss_one (ps_ret (pe_callB call_len_seq (by rfl) B.len PySem.boot_len (pa_cons (pe_fld (pv 0) rfl) pa_nil))), ?_⟩
    obtain ⟨dx, hp⟩ := hG.at_
    refine ⟨_, rfl, p, D, dx, _, _, rfl, hp, TG.cl, TG.nT, gf_told _ _ _, r.td, _, rfl, .inl (.inl (.inl hG.told)), ?_⟩
    rw [List.length_map, hG.tels.length]
    exact q
/-! ### a telling's row -/
def spTelRow : Sp := fun vs H Q _ => ∃ (p : Addr) (t : Tel), vs = [.ref p] ∧ H p = some (.tup (telV t)) ∧ OkT t ∧ ∀ (H' : Hp), Same H H' → Q (.str (rowS t)) H'
abbrev nTelRow : List Str := ["telling", "village", "thing", "word", "teller", "age", "gatherer", "sure", "parts"]
theorem scTelRow : FnScope nTelRow ["telling"] (defScope sTelRow) := ⟨rfl, rfl, rfl, by decide +kernel, rfl, by decide +kernel, by decide +kernel⟩
theorem ok_telrow (F : Fun K "telling_row" "telling_row" sTelRow f fd) (B : Bi mg) (B2 : Bg mg) : FnOk P w K mg base CX0 1 f fd ["telling"] spTelRow := by
  obtain ⟨tq, gq⟩ := B2.doubt
  refine F.ok scTelRow (fun vs H Q E h => ?_) (fun cdv A outer s H vs Q E hr h => ?_)
  · obtain ⟨p, t, rfl, _⟩ := h
    rfl
  · obtain ⟨p, t, rfl, hp, ok, q⟩ := h
    refine ⟨_, pss_cons (ps_asg (pv 0) (pg_tup rfl (pgs_cons (pg_name (i := 1) scTelRow.nd rfl (.inl rfl)) (pgs_cons (pg_name (i := 2) scTelRow.nd rfl (.inl rfl)) (pgs_cons (pg_name (i := 3) scTelRow.nd rfl (.inl rfl)) (pgs_cons (pg_name (i := 4) scTelRow.nd rfl (.inl rfl)) (pgs_cons (pg_name (i := 5) scTelRow.nd rfl (.inl rfl)) (pgs_cons (pg_name (i := 6) scTelRow.nd rfl (.inl rfl)) (pgs_cons (pg_name (i := 7) scTelRow.nd rfl (.inl rfl)) pgs_nil)))))))))
      (pss_cons (ps_set (i := 8) scTelRow.nd rfl (.inl rfl) (pe_lst (pa_cons (pv 1) (pa_cons (pv 2) (pa_cons (pv 3) (pa_cons (pv 4) (pa_cons (pe_callTy call_str_int (by rfl) B.str (by decide +kernel) (pa_cons (pv 5) pa_nil)) (pa_cons (pv 6) pa_nil))))))))
      (pss_one (ps_ret (pe_join pe_str (pe_ifExp (pt_val (pv 7)) (pv 8) (pe_op op_cat (pv 8) (pe_lst (pa_cons (pe_glob (v := .str "?") rfl gq ⟨_, rfl⟩) pa_nil)))))))), ?_⟩
    refine ⟨_, rfl, p, _, rfl, .inl (.inl hp), rfl, _, _, rfl, _, _, rfl, _, _, rfl, _, _, rfl, _, _, rfl, _, _, rfl, _, _, rfl, rfl, ?_⟩
    refine ⟨_, rfl, _, rfl, _, rfl, _, rfl, _, rfl, _, rfl, age_log ok.age, _, rfl, lz, fun u hu => ?_⟩
    have s1 := same_new (o := .lst ((partsS t).map V.str)) hu
    have hu1 : upd H u (.lst ((partsS t).map V.str)) u = some (.lst ((partsS t).map V.str)) := upd_same
    have pl := parts_len ok
    have e1 : (" " : Str).length = 1 := by decide +kernel
    have fin : ∀ (l : List Str), (∀ z ∈ l, z.length ≤ 8) → l.length ≤ 7 → (l.map (·.length)).sum + l.length * (" " : Str).length ≤ 16777216 := fun l h hl => by
      have := sum_len (l := l) (m := 8) h
      rw [e1]
      omega
    refine ⟨⟨_, rfl⟩, _, rfl, _, rfl, ite_b (fun e => ?_) (fun e => ?_)⟩
    · refine ⟨_, rfl, _, u, partsS t, rfl, rfl, .inl (.inl (.inl hu1)), fin _ (fun z hz => pl z (List.mem_append_left _ hz)) (by show 6 ≤ 7; decide), ?_⟩
      have := q _ s1
      unfold rowS at this
      rw [if_pos e] at this
      exact this
    · refine ⟨_, rfl, lz, fun v hv => ?_⟩
      have s2 := same_new (o := .lst [V.str ("?" : Str)]) hv
      refine ⟨u, v, (partsS t).map V.str, _, rfl, rfl, s2 _ _ hu1, upd_same, lz, fun x hx => ?_⟩
      refine ⟨_, x, partsS t ++ [("?" : Str)], rfl, rfl, .inl (.inl (.inl upd_same)), fin _ pl (by show 7 ≤ 7; decide), ?_⟩
      have := q _ ((s1.trans s2).trans (same_new (o := .lst ((partsS t).map V.str ++ [V.str ("?" : Str)])) hx))
      unfold rowS at this
      rw [if_neg (by rw [e]; decide)] at this
      exact this
/-! ### repr -/
def grS (n : Nat) : Str := ("Gathering(" : Str) ++ (toString (n : Int) : String) ++ (")" : Str)
def spGRepr (C D : Addr) : Sp := fun vs H Q _ => ∃ (p : Addr) (r : GR), vs = [.ref p] ∧ GatAt C D H p r ∧ r.ts.length ≤ 200 ∧ Q (.str (grS r.ts.length)) H
theorem scGRepr : FnScope ["self"] ["self"] (defScope sGRepr) := ⟨rfl, rfl, rfl, by decide +kernel, rfl, by decide +kernel, by decide +kernel⟩
theorem dig3_len {n : Nat} (h : n ≤ 200) : ((toString (n : Int) : String) : Str).length ≤ 3 := by
  have : ∀ k : Fin 201, ((toString ((k.val : Nat) : Int) : String) : Str).length ≤ 3 := by decide +kernel
  exact this ⟨n, by omega⟩
theorem log200 {n : Nat} (h : n ≤ 200) : (((n : Nat) : Int).natAbs).log2 < 1920 := by
  have : ((n : Nat) : Int).natAbs = n := Int.natAbs_natCast n
  rw [this]
  have h2 : n.log2 ≤ n := Nat.log2_le_self n
  omega
theorem ok_grepr (F : Fun K "__repr__" "Gathering.__repr__" sGRepr f fd) (B : Bi mg) (TG : TxtG K mg D) : FnOk P w K mg base CX0 1 f fd ["self"] (spGRepr C D) := by
  refine F.ok scGRepr (fun vs H Q E h => ?_) (fun cdv A outer s H vs Q E hr h => ?_)
  · obtain ⟨p, r, rfl, _⟩ := h
    rfl
  · obtain ⟨p, r, rfl, hG, h200, q⟩ := h
    refine ⟨_, pss_one (ps_ret (pe_joined (.cons pe_str (.cons (pe_fmt (pe_callB call_len_seq (by rfl) B.len PySem.boot_len (pa_cons (pe_fld (pv 0) rfl) pa_nil))) (.cons pe_str .nil))))), ?_⟩
    obtain ⟨dx, hp⟩ := hG.at_
    have ek : (r.as.map V.ref).length = r.ts.length := by rw [List.length_map, hG.tels.length]
    refine ⟨_, rfl, by decide +kernel, _, rfl, p, D, dx, _, _, rfl, hp, TG.cl, TG.nT, gf_told _ _ _, r.td, _, rfl, .inl (.inl (.inl hG.told)), .inr ⟨_, rfl, ?_, _, rfl, ?_, _, rfl, ?_, ?_⟩⟩
    · rw [ek]
      exact log200 h200
    · rw [ek]
      exact lzl (by rw [add_len, add_len]; have := dig3_len h200; have : (Str.empty).length = 0 := rfl; have : ("Gathering(" : Str).length = 10 := (by decide +kernel); omega)
    · rw [ek]
      exact lzl (by rw [add_len, add_len, add_len]; have := dig3_len h200; have : (Str.empty).length = 0 := rfl; have : ("Gathering(" : Str).length = 10 := (by decide +kernel); have : (")" : Str).length = 1 := (by decide +kernel); omega)
    · have e0 : (Str.empty ++ ("Gathering(" : Str)) = ("Gathering(" : Str) := by decide +kernel
      rw [ek]
      show Q (.str (Str.empty ++ ("Gathering(" : Str) ++ _ ++ (")" : Str))) H
      rw [e0]
      exact q
/-! ### str -/
def gatS (g : Grid) (ts : List Tel) : Str := Txt.join ("\n" : Str) ([landS g, ("." : Str)] ++ ts.map rowS)
theorem telV_inj {t u : Tel} (h : telV t = telV u) : t = u := by
  cases t
  cases u
  simp only [telV, List.cons.injEq, V.str.injEq, V.int.injEq, V.bl.injEq, and_true] at h
  obtain ⟨h1, h2, h3, h4, h5, h6, h7⟩ := h
  have h5 := Int.ofNat.inj h5
  subst h1 h2 h3 h4 h5 h6 h7
  rfl
theorem told_rows {H : Hp} : ∀ {as : List Addr} {ts : List Tel} {zs : List V}, TelsAt H as ts → Each (fun (x z : V) => ∀ (pt : Addr) (t : Tel), x = .ref pt → H pt = some (.tup (telV t)) → z = .str (rowS t)) (as.map V.ref) zs → zs = (ts.map rowS).map V.str
  | [], [], [], _, _ => rfl
  | [], [], _ :: _, _, h => nomatch h
  | [], _ :: _, _, h, _ => nomatch h
  | _ :: _, [], _, h, _ => nomatch h
  | _ :: _, _ :: _, [], _, h => nomatch h
  | a :: as, r :: g, z :: zs, .cons e t, .cons e' t' => by
    rw [e' a r rfl e, told_rows t t']
    rfl
def spGStr (C D : Addr) : Sp := fun vs H Q _ => ∃ (p : Addr) (r : GR) (wd : Nat), vs = [.ref p] ∧ GatAt C D H p r ∧ Good r.g wd ∧ r.ts.length ≤ 200 ∧ (∀ t ∈ r.ts, OkT t) ∧ ∀ (H' : Hp), Same H H' → Q (.str (gatS r.g r.ts)) H'
abbrev nGStr : List Str := ["self", "telling"]
theorem scGStr : FnScope nGStr ["self"] (defScope sGStr) := ⟨rfl, rfl, rfl, by decide +kernel, rfl, by decide +kernel, by decide +kernel⟩
theorem row_len {t : Tel} (h : OkT t) : (rowS t).length ≤ 63 := by
  have key : ∀ l : List Str, (∀ z ∈ l, z.length ≤ 8) → l.length ≤ 7 → (Txt.join (" " : Str) l).length ≤ 63 := fun l hl h7 => by
    rw [TL.len_tl, TL.join_eq, TL.tl_join, tl_blank]
    have := join_size (S := [32]) (m := 8) (ps := l.map TL.tl) fun p hp => by
      obtain ⟨z, hz, rfl⟩ := List.mem_map.mp hp
      rw [← TL.len_tl]
      exact hl z hz
    rw [List.length_map] at this
    simp at this
    omega
  unfold rowS
  split
  · exact key _ (fun z hz => parts_len h z (List.mem_append_left _ hz)) (by show 6 ≤ 7; decide)
  · exact key _ (parts_len h) (by show 7 ≤ 7; decide)
theorem ok_gstr (F : Fun K "__str__" "Gathering.__str__" sGStr f fd) (B : Bi mg) (B2 : Bg mg) (TG : TxtG K mg D) (hS : HasM P w K mg base C "__str__" 1 ["self"] (spLStr C)) (hT : Has P w K mg base "telling_row" 1 ["telling"] spTelRow) : FnOk P w K mg base CX0 4 f fd ["self"] (spGStr C D) := by
  obtain ⟨td, gd⟩ := B2.dot
  obtain ⟨fS, fdS, FS, mS, bS⟩ := hS
  refine F.ok scGStr (fun vs H Q E h => ?_) (fun cdv A outer s H vs Q E hr h => ?_)
  · obtain ⟨p, r, wd, rfl, _⟩ := h
    rfl
  · obtain ⟨p, r, wd, rfl, hG, gg, h200, hok, q⟩ := h
    refine ⟨_, pss_one (ps_ret (pe_join pe_str (pe_op op_cat (pe_lst (pa_cons (pe_callTy (cr_strO FS bS mS (hr.mono (by decide))) (by rfl) B.str (by decide +kernel) (pa_cons (pe_fld (pv 0) rfl) pa_nil)) (pa_cons (pe_glob (v := .str ".") rfl gd ⟨_, rfl⟩) pa_nil)))
      (pe_lc (own := [("telling", 1)]) (g := gName 1) (tt := tYes) (te := tCall spTelRow [] E0 (tCons (tVar 1) tNil)) rfl scGStr.nd (pi_list (pe_fld (pv 0) rfl)) (blkOk_by (N := nGStr) (sc := defScope sGStr) (by decide +kernel)) (fun _ _ _ _ _ => pg_name (i := 1) scGStr.nd rfl (.inl rfl)) (fun _ _ _ _ _ => pts_nil) (fun _ _ _ _ _ => pe_h hT hr (pa_cons (pv 1) pa_nil)))))), ?_⟩
    obtain ⟨dx, hp⟩ := hG.at_
    obtain ⟨dl, d, hl⟩ := hG.land.ins
    refine ⟨⟨_, rfl⟩, _, rfl, p, D, dx, _, _, rfl, hp, TG.cl, TG.nL, gf_land _ _ _, r.pl, dl, _, rfl, hl, r.pl, r.L, r.g, wd, rfl, hG.land, gg, fun H1 s1 => ⟨_, rfl, lz, fun u hu => ?_⟩⟩
    have s2 := same_new (o := .lst [V.str (landS r.g), V.str ("." : Str)]) hu
    have hu2 : upd H1 u (.lst [V.str (landS r.g), V.str ("." : Str)]) u = some (.lst [V.str (landS r.g), V.str ("." : Str)]) := upd_same
    have s02 := s1.trans s2
    have hG2 := hG.same s02
    generalize upd H1 u (.lst [V.str (landS r.g), V.str ("." : Str)]) = H2 at hu2 s02 hG2
    obtain ⟨dx2, hp2⟩ := hG2.at_
    refine ⟨_, rfl, p, D, dx2, _, _, rfl, hp2, TG.cl, TG.nT, gf_told _ _ _, r.td, rfl, ⟨_, .inl (.inl hG2.told)⟩, fun Dd hD => ?_⟩
    have hlen : r.as.length = r.ts.length := hG.tels.length
    refine lc_rel (walk_list (K := K) (a := r.td) (xs := r.as.map V.ref)) hD (fun _ => true) (fun x y _ => ∀ (pt : Addr) (t : Tel), x = .ref pt → H2 pt = some (.tup (telV t)) → y = .str (rowS t)) (fun H' s' => .inl (.inl (s' _ _ hG2.told))) (fun _ => rfl) (fun x H' _ _ Q' q' => q') ?_ (fun _ _ _ _ _ _ _ r => r) ?_ ?_
    · intro x H' hx _ s' Q' q'
      obtain ⟨pt, hpt, rfl⟩ := List.mem_map.mp hx
      obtain ⟨i, hi, ei⟩ := List.mem_iff_getElem.mp hpt
      obtain ⟨t, ht, hH⟩ := Each.get hG2.tels (i := i) (a := pt) (by rw [List.getElem?_eq_getElem hi, ei])
      refine ⟨_, rfl, pt, t, rfl, s' _ _ hH, hok t (List.mem_of_getElem? ht), fun H3 s3 => q' _ H3 s3 fun pt2 t2 e2 h2 => ?_⟩
      obtain rfl : pt = pt2 := V.ref.inj e2
      rw [hH] at h2
      rw [telV_inj (HO.tup.inj (Option.some.inj h2))]
    · rw [List.length_map]
      exact small1000 (by omega)
    · intro zs H3 s3 hD3 he
      rw [List.filter_eq_self.mpr fun _ _ => rfl] at he
      have e1 : zs = (r.ts.map rowS).map V.str := told_rows hG2.tels he
      rw [e1] at hD3
      refine ⟨u, Dd, _, _, rfl, rfl, s3 _ _ hu2, hD3, ?_, fun x hx => ?_⟩
      · rw [List.length_map, List.length_map]
        exact lzl (by simp only [List.length_cons, List.length_nil]; omega)
      refine ⟨_, x, [landS r.g, ("." : Str)] ++ r.ts.map rowS, rfl, rfl, .inl (.inl (.inl (by rw [upd_same, List.map_append]; rfl))), ?_, q _ ((s02.trans s3).trans (same_new hx))⟩
      have hll := land_len gg.parts gg.h6 gg.six
      have hdot : ("." : Str).length = 1 := by decide +kernel
      have := sum_len (l := [landS r.g, ("." : Str)] ++ r.ts.map rowS) (m := 330) fun z hz => by
        rcases List.mem_append.mp hz with hz | hz
        · simp only [List.mem_cons, List.not_mem_nil, or_false] at hz
          rcases hz with rfl | rfl
          · exact hll
          · omega
        · obtain ⟨t, ht, rfl⟩ := List.mem_map.mp hz
          have := row_len (hok t ht)
          omega
      have e : ("\n" : Str).length = 1 := by decide +kernel
      have hl2 : ([landS r.g, ("." : Str)] ++ r.ts.map rowS).length ≤ 202 := by
        rw [List.length_append, List.length_map]
        simp only [List.length_cons, List.length_nil]
        omega
      rw [e]
      omega
end
end Wl





namespace Wl
open PySem PySem.Spec PyProof.Rows L2
abbrev sGStrike : Stmt := inClass sGat 3
abbrev psStrike : List Str := ["self", "village", "teller", "thing", "gatherer"]
abbrev nStrike : List Str := ["self", "village", "teller", "thing", "gatherer", "key", "place", "part"]
theorem scStrike : FnScope nStrike psStrike (defScope sGStrike) := ⟨rfl, rfl, rfl, by decide +kernel, rfl, by decide +kernel, by decide +kernel⟩
def GR.cut (r : GR) (i : Nat) (q : Addr) : GR := { r with as := r.as.eraseIdx i, ts := r.ts.eraseIdx i, ds := r.ds ++ [.ref q] }
theorem each_erase {α β : Type} {R : α → β → Prop} : ∀ {as : List α} {bs : List β} (n : Nat), Each R as bs → Each R (as.eraseIdx n) (bs.eraseIdx n)
  | _, _, n, .nil => by simpa using Each.nil
  | _, _, 0, .cons r t => by simpa using t
  | _, _, n + 1, .cons r t => .cons r (each_erase n t)
theorem map_erase {α β : Type} (f : α → β) : ∀ (l : List α) (n : Nat), (l.map f).eraseIdx n = (l.eraseIdx n).map f
  | [], n => by simp
  | a :: l, 0 => by simp
  | a :: l, n + 1 => by simp [map_erase f l n]
theorem seq_idx {i n : Nat} (h : i < n) : seqIndex? (i : Int) n = some i := by
  unfold seqIndex?
  have e1 : ¬ ((i : Int) < 0) := by omega
  simp only [e1, if_false]
  have e2 : (decide (0 ≤ (i : Int)) && decide ((i : Int) < (n : Int))) = true := by simp; omega
  rw [if_pos e2, Int.toNat_natCast]
section
variable {P : Program} {w : World} {K : PySem.W.Frag} {mg : Str → Option Value} {base : Heap} {f C D : Addr} {fd : FuncData}
abbrev FunS (K : PySem.W.Frag) (f : Addr) (fd : FuncData) : Prop := FunD K "strike" "Gathering.strike" (defArgs sGStrike) (defBody sGStrike) (defScope sGStrike) [.str "self"] [] f fd
def spStrike (C D : Addr) : Sp := fun vs H Q _ => ∃ (p : Addr) (r : GR) (t : Tel) (i : Nat), vs = .ref p :: keyV t ∧ GatAt C D H p r ∧ (∀ u ∈ r.ts, OkT u) ∧ r.ts.length ≤ 200 ∧ r.ds.length < 1000 ∧ (r.ts.findIdx? fun u => decide (keyS u = keyS t)) = some i ∧ OkT t ∧
  ∀ (q pa : Addr) (H' : Hp), H q = none → r.as[i]? = some pa → Same2 r.td r.dd H H' → GatAt C D H' p (r.cut i q) → H' q = some (.tup [.int (i : Int), .ref pa]) → Q .non H'
theorem ok_strike (F : FunS K f fd) (B : Bi mg) (TG : TxtG K mg D) (hW : Has P w K mg base "is_word" 1 ["thing"] spIsWord) (hP : HasM P w K mg base D "place_of" 2 ["self", "key"] (spGPlace C D)) : FnOk P w K mg base CX0 3 f fd psStrike (spStrike C D) := by
  refine okD F scStrike (fun vs H Q E h => ?_) (fun cdv A outer s H vs Q E hr h => ?_)
  · obtain ⟨p, r, t, i, rfl, _⟩ := h
    rfl
  · obtain ⟨p, r, t, i, rfl, hG, hok, h200, hds, hi, okt, q⟩ := h
    refine ⟨_, pss_cons (ps_set (i := 5) scStrike.nd rfl (.inl rfl) (pe_tup (pa_cons (pv 1) (pa_cons (pv 2) (pa_cons (pv 3) (pa_cons (pv 4) pa_nil))))))
      (pss_cons (ps_set (i := 6) scStrike.nd rfl (.inl rfl) (pe_ifExp (pt_val (pe_callB (cr_all rfl) (by rfl) B.all (by decide +kernel) (pa_cons (pe_lc (own := [("part", 7)]) (g := gName 7) (tt := tYes) (te := tCall spIsWord [] E0 (tCons (tVar 7) tNil)) rfl scStrike.nd (pi_tup (pv 5)) (blkOk_by (N := nStrike) (sc := defScope sGStrike) (by decide +kernel)) (fun _ _ _ _ _ => pg_name (i := 7) scStrike.nd rfl (.inl rfl)) (fun _ _ _ _ _ => pts_nil) (fun _ _ _ _ _ => pe_h hW hr (pa_cons (pv 7) pa_nil))) pa_nil))) (pe_hm hP TG.cl hr (pv 0) (pa_cons (pv 5) pa_nil)) pe_non))
      (pss_cons (ps_if (pt_cmp (pc_isN (pv 6))) (pss_one ps_never) pss_nil)
      (pss_one (ps_expr (pe_bm PySem.F.plainAttrs_list PySem.F.slot_list_append PySem.F.type_list_append mt_append (pe_fld (pv 0) rfl) (pa_cons (pe_tup (pa_cons (pv 6) (pa_cons (pe_bm PySem.F.plainAttrs_list PySem.F.slot_list_pop PySem.F.type_list_pop mt_popAt (pe_fld (pv 0) rfl) (pa_cons (pv 6) pa_nil)) pa_nil))) pa_nil)))))), ?_⟩
    refine ⟨_, rfl, _, rfl, _, rfl, _, rfl, lz, fun kp hkp => ?_⟩
    have s1 := same_new (o := .tup [V.str t.v, V.str t.tl, V.str t.th, V.str t.g]) hkp
    have hk1 : upd H kp (.tup [V.str t.v, V.str t.tl, V.str t.th, V.str t.g]) kp = some (.tup [V.str t.v, V.str t.tl, V.str t.th, V.str t.g]) := upd_same
    generalize upd H kp (.tup [V.str t.v, V.str t.tl, V.str t.th, V.str t.g]) = H1 at s1 hk1
    refine ⟨_, rfl, kp, rfl, ⟨_, .inl (.inl hk1)⟩, fun Dd hD => ?_⟩
    refine lc_rel (walk_tup (K := K) (a := kp) (xs := [V.str t.v, V.str t.tl, V.str t.th, V.str t.g])) hD (fun _ => true) (fun x y _ => y = .bl true) (fun H' s' => .inl (.inl (s' _ _ hk1))) (fun _ => rfl) (fun x H' _ _ Q' q' => q') ?_ (fun _ _ _ _ _ _ _ r => r) lz ?_
    · intro x H' hx _ s' Q' q'
      obtain ⟨z, hz, rfl⟩ : ∃ z, z ∈ keyS t ∧ x = .str z := by
        simp only [List.mem_cons, List.not_mem_nil, or_false] at hx
        rcases hx with rfl | rfl | rfl | rfl
        · exact ⟨_, by simp [keyS], rfl⟩
        · exact ⟨_, by simp [keyS], rfl⟩
        · exact ⟨_, by simp [keyS], rfl⟩
        · exact ⟨_, by simp [keyS], rfl⟩
      have hzw := okt.key z hz
      refine ⟨_, rfl, z, rfl, by have := hzw.len; omega, fun H2 s2 => q' _ H2 s2 ?_⟩
      rw [show wdB z = true from hzw]
    · intro zs H2 s2 hD2 he
      have ez := each_fn (f := fun _ : V => V.bl true) he
      have ez2 : zs = [true, true, true, true].map V.bl := ez
      rw [ez2] at hD2
      refine ⟨Dd, [true, true, true, true], rfl, .inl (.inl hD2), true, rfl, iteT ?_⟩
      have s02 := s1.trans s2
      have hG2 := hG.same s02
      obtain ⟨dx2, hp2⟩ := hG2.at_
      refine ⟨_, rfl, p, dx2, _, rfl, hp2, gf_no _ _ _, _, rfl, p, kp, r, keyS t, rfl, hG2, hok, h200, s2 _ _ hk1, okt.key, fun H3 s3 => ?_⟩
      rw [hi]
      obtain ⟨hil, _⟩ := List.findIdx?_eq_some_iff_getElem.mp hi
      have hla : r.as.length = r.ts.length := hG.tels.length
      have hia : i < r.as.length := by omega
      have hpa : r.as[i]? = some r.as[i] := List.getElem?_eq_getElem hia
      generalize r.as[i] = pa at hpa
      have hG3 := hG2.same s3
      obtain ⟨dx3, hp3⟩ := hG3.at_
      have s03 := s02.trans s3
      refine ⟨_, rfl, _, rfl, iteF ?_⟩
      refine ⟨_, rfl, p, D, dx3, _, _, rfl, hp3, TG.cl, TG.nD, gf_deeds _ _ _, .inl ⟨rfl, _, .inl (.inl hG3.deeds)⟩, _, rfl, _, rfl, p, D, dx3, _, _, rfl, hp3, TG.cl, TG.nT, gf_told _ _ _, .inl ⟨rfl, _, .inl (.inl hG3.told)⟩, _, rfl, r.td, _, (i : Int), i, .ref pa, rfl, rfl, hG3.told, by omega, by omega, ?_, ?_, lz, fun q1 hq1 => ?_⟩
      · rw [List.length_map]
        exact seq_idx hia
      · rw [List.getElem?_map, hpa]
        rfl
      have k4 : Keep H3 (upd H3 r.td (.lst ((r.as.map V.ref).eraseIdx i))) := kp_upd hG3.told
      have hp4 := k4 _ _ ⟨fun _ e => (by cases e), fun _ e => (by cases e)⟩ hp3
      have hd4 : upd H3 r.td (.lst ((r.as.map V.ref).eraseIdx i)) r.dd = some (.lst r.ds) := by
        rw [upd_ne hG.ne.symm]
        exact hG3.deeds
      have ht4 : upd H3 r.td (.lst ((r.as.map V.ref).eraseIdx i)) r.td = some (.lst ((r.as.eraseIdx i).map V.ref)) := by
        rw [upd_same, map_erase]
      have m4 : Same2 r.td r.dd H3 (upd H3 r.td (.lst ((r.as.map V.ref).eraseIdx i))) := fun c o n _ e => by
        rw [upd_ne n]
        exact e
      have hq3 : H3 q1 = none := by
        by_cases c : q1 = r.td
        · rw [c, ht4] at hq1
          cases hq1
        · rw [upd_ne c] at hq1
          exact hq1
      generalize upd H3 r.td (.lst ((r.as.map V.ref).eraseIdx i)) = H4 at k4 hp4 hd4 ht4 m4 hq1
      have s5 := same_new (o := .tup [V.int (i : Int), V.ref pa]) hq1
      have hq5 : upd H4 q1 (.tup [V.int (i : Int), V.ref pa]) q1 = some (.tup [V.int (i : Int), V.ref pa]) := upd_same
      have hd5 := s5 _ _ hd4
      have ht5 := s5 _ _ ht4
      have hp5 := s5 _ _ hp4
      refine ⟨r.dd, _, _, rfl, rfl, hd5, small1000 (by omega), ?_⟩
      have k6 := kp_upd (o := .lst (r.ds ++ [V.ref q1])) hd5
      have kk := (k4.trans (kp_same s5)).trans k6
      refine q q1 pa _ (s03.free hq3) hpa ?_ ⟨⟨dx3, k6 _ _ ⟨fun _ e => (by cases e), fun _ e => (by cases e)⟩ hp5⟩, hG3.land.keep kk, ?_, ?_, upd_same, hG.ne⟩ (k6 _ _ ⟨fun _ e => (by cases e), fun _ e => (by cases e)⟩ hq5)
      · refine (Same2.of s03).trans (m4.trans ((Same2.of s5).trans fun c o _ n e => ?_))
        rw [upd_ne n]
        exact e
      · show upd _ r.dd _ r.td = some (.lst ((r.as.eraseIdx i).map V.ref))
        rw [upd_ne hG.ne]
        exact ht5
      · exact each_erase i (hG3.tels.keep kk.tk)
end
end Wl





namespace Wl
open PySem PySem.Spec PyProof.Rows L2
abbrev sGBack : Stmt := inClass sGat 4
abbrev nBack : List Str := ["self", "struck", "place", "telling"]
theorem scBack : FnScope nBack ["self"] (defScope sGBack) := ⟨rfl, rfl, rfl, by decide +kernel, rfl, by decide +kernel, by decide +kernel⟩
theorem last_snoc {α : Type} (l : List α) (x : α) : (l ++ [x])[(l ++ [x]).length - 1]? = some x := by
  rw [List.length_append]
  simp
theorem each_take {α β : Type} {R : α → β → Prop} : ∀ {as : List α} {bs : List β} (n : Nat), Each R as bs → Each R (as.take n) (bs.take n)
  | _, _, 0, _ => by simpa using Each.nil
  | _, _, n + 1, .nil => by simpa using Each.nil
  | _, _, n + 1, .cons r t => .cons r (each_take n t)
theorem each_drop {α β : Type} {R : α → β → Prop} : ∀ {as : List α} {bs : List β} (n : Nat), Each R as bs → Each R (as.drop n) (bs.drop n)
  | _, _, 0, h => by simpa using h
  | _, _, n + 1, .nil => by simpa using Each.nil
  | _, _, n + 1, .cons r t => each_drop n t
section
variable {P : Program} {w : World} {K : PySem.W.Frag} {mg : Str → Option Value} {base : Heap} {f C D : Addr} {fd : FuncData}
def spBack (C D : Addr) : Sp := fun vs H Q _ => ∃ (p : Addr) (r : GR), vs = [.ref p] ∧ GatAt C D H p r ∧ r.ts.length ≤ 200 ∧
  ((∃ (as : List Addr) (pa : Addr) (ts : List Tel) (t : Tel) (ds : List V), r.as = as ++ [pa] ∧ r.ts = ts ++ [t] ∧ r.ds = ds ++ [.non] ∧
      ∀ (H' : Hp), Same2 r.td r.dd H H' → GatAt C D H' p { r with as := as, ts := ts, ds := ds } → Q .non H') ∨
   (∃ (i : Nat) (q pa : Addr) (t : Tel) (ds : List V), r.ds = ds ++ [.ref q] ∧ H q = some (.tup [.int (i : Int), .ref pa]) ∧ H pa = some (.tup (telV t)) ∧ i ≤ 200 ∧
      ∀ (H' : Hp), Same2 r.td r.dd H H' → GatAt C D H' p { r with as := r.as.take i ++ [pa] ++ r.as.drop i, ts := r.ts.take i ++ [t] ++ r.ts.drop i, ds := ds } → Q .non H'))
theorem ok_back (F : Fun K "back" "Gathering.back" sGBack f fd) (TG : TxtG K mg D) : FnOk P w K mg base CX0 1 f fd ["self"] (spBack C D) := by
  refine F.ok scBack (fun vs H Q E h => ?_) (fun cdv A outer s H vs Q E hr h => ?_)
  · obtain ⟨p, r, rfl, _⟩ := h
    rfl
  · obtain ⟨p, r, rfl, hG, h200, hh⟩ := h
    refine ⟨_, pss_cons (ps_if (pt_not (pt_truth (pe_fld (pv 0) rfl) (fun _ => rfl))) (pss_one ps_never) pss_nil)
      (pss_cons (ps_set (i := 1) scBack.nd rfl (.inl rfl) (pe_bm0 PySem.F.plainAttrs_list PySem.F.slot_list_pop PySem.F.type_list_pop mt_pop (pe_fld (pv 0) rfl)))
      (pss_one (ps_if (pt_cmp (pc_isN (pv 1))) (pss_one (ps_expr (pe_bm0 PySem.F.plainAttrs_list PySem.F.slot_list_pop PySem.F.type_list_pop mt_pop (pe_fld (pv 0) rfl))))
        (pss_cons (ps_asg (pv 1) (pg_tup rfl (pgs_cons (pg_name (i := 2) scBack.nd rfl (.inl rfl)) (pgs_cons (pg_name (i := 3) scBack.nd rfl (.inl rfl)) pgs_nil))))
        (pss_one (ps_expr (pe_bm PySem.F.plainAttrs_list PySem.F.slot_list_insert PySem.F.type_list_insert mt_insert (pe_fld (pv 0) rfl) (pa_cons (pv 2) (pa_cons (pv 3) pa_nil))))))))), ?_⟩
    obtain ⟨dx, hp⟩ := hG.at_
    have hds : r.ds ≠ [] := by
      rcases hh with ⟨_, _, _, _, _, _, _, e, _⟩ | ⟨_, _, _, _, _, e, _⟩
      · rw [e]
        simp
      · rw [e]
        simp
    refine ⟨_, rfl, p, D, dx, _, _, rfl, hp, TG.cl, TG.nD, gf_deeds _ _ _, !r.ds.isEmpty, .inl ⟨_, .inl (.inl hG.deeds), rfl⟩, ?_⟩
    have e0 : r.ds.isEmpty = false := by
      cases hq : r.ds with
      | nil => exact absurd hq hds
      | cons _ _ => rfl
    rw [e0]
    refine iteF ?_
    have kd : ∀ o, Keep H (upd H r.dd o) := fun o => kp_upd hG.deeds
    rcases hh with ⟨as, pa, ts, t, ds, ea, et, ed, q⟩ | ⟨i, q0, pa, t, ds, ed, hq0, hpa, hi, q⟩
    · have hdd := hG.deeds
      rw [ed] at hdd
      refine ⟨_, rfl, p, D, dx, _, _, rfl, hp, TG.cl, TG.nD, gf_deeds _ _ _, .inl ⟨rfl, _, .inl (.inl hdd)⟩, r.dd, _, .non, rfl, rfl, hdd, last_snoc _ _, ?_⟩
      rw [List.dropLast_concat]
      have k1 := kd (.lst ds)
      have ht1 : upd H r.dd (.lst ds) r.td = some (.lst ((as ++ [pa]).map V.ref)) := by
        rw [upd_ne hG.ne, ← ea]
        exact hG.told
      have hp1 := k1 _ _ ⟨fun _ e => (by cases e), fun _ e => (by cases e)⟩ hp
      have hd1 : upd H r.dd (.lst ds) r.dd = some (.lst ds) := upd_same
      have m1 : Same2 r.td r.dd H (upd H r.dd (.lst ds)) := fun c o _ n e => by
        rw [upd_ne n]
        exact e
      generalize upd H r.dd (.lst ds) = H1 at k1 ht1 hp1 hd1 m1
      rw [List.map_append] at ht1
      refine ⟨_, rfl, _, rfl, iteT ⟨_, rfl, p, D, dx, _, _, rfl, hp1, TG.cl, TG.nT, gf_told _ _ _, .inl ⟨rfl, _, .inl (.inl ht1)⟩, r.td, _, .ref pa, rfl, rfl, ht1, last_snoc _ _, ?_⟩⟩
      rw [show (as.map V.ref ++ [pa].map V.ref).dropLast = as.map V.ref from List.dropLast_concat]
      have k2 := kp_upd (o := .lst (as.map V.ref)) ht1
      have kk := k1.trans k2
      refine q _ ?_ ⟨⟨dx, k2 _ _ ⟨fun _ e => (by cases e), fun _ e => (by cases e)⟩ hp1⟩, hG.land.keep kk, upd_same, ?_, ?_, hG.ne⟩
      · exact m1.trans fun c o n _ e => by
          rw [upd_ne n]
          exact e
      · have h1 := hG.tels.keep kk.tk
        rw [ea, et] at h1
        have la : as.length = ts.length := by
          have := h1.length
          simpa using this
        have h2 := each_take as.length h1
        rw [List.take_left, la, List.take_left] at h2
        exact h2
      · show upd H1 r.td _ r.dd = some (.lst ds)
        rw [upd_ne hG.ne.symm]
        exact hd1
    · have hdd := hG.deeds
      rw [ed] at hdd
      refine ⟨_, rfl, p, D, dx, _, _, rfl, hp, TG.cl, TG.nD, gf_deeds _ _ _, .inl ⟨rfl, _, .inl (.inl hdd)⟩, r.dd, _, .ref q0, rfl, rfl, hdd, last_snoc _ _, ?_⟩
      rw [List.dropLast_concat]
      have k1 := kd (.lst ds)
      have ht1 : upd H r.dd (.lst ds) r.td = some (.lst (r.as.map V.ref)) := by
        rw [upd_ne hG.ne]
        exact hG.told
      have hp1 := k1 _ _ ⟨fun _ e => (by cases e), fun _ e => (by cases e)⟩ hp
      have hq1 := k1 _ _ ⟨fun _ e => (by cases e), fun _ e => (by cases e)⟩ hq0
      have hd1 : upd H r.dd (.lst ds) r.dd = some (.lst ds) := upd_same
      have m1 : Same2 r.td r.dd H (upd H r.dd (.lst ds)) := fun c o _ n e => by
        rw [upd_ne n]
        exact e
      generalize upd H r.dd (.lst ds) = H1 at k1 ht1 hp1 hd1 m1 hq1
      have hla : r.as.length = r.ts.length := hG.tels.length
      refine ⟨_, rfl, _, rfl, iteF ⟨_, rfl, q0, _, rfl, .inl (.inl hq1), rfl, _, _, rfl, _, _, rfl, rfl, ?_⟩⟩
      refine ⟨_, rfl, p, D, dx, _, _, rfl, hp1, TG.cl, TG.nT, gf_told _ _ _, .inl ⟨rfl, _, .inl (.inl ht1)⟩, _, rfl, _, rfl, r.td, _, (i : Int), .ref pa, rfl, rfl, ht1, by rw [List.length_map]; exact small1000 (by omega), by omega, by omega, ?_⟩
      rw [Int.toNat_natCast]
      have k2 := kp_upd (o := .lst ((r.as.map V.ref).take i ++ [.ref pa] ++ (r.as.map V.ref).drop i)) ht1
      have kk := k1.trans k2
      refine q _ ?_ ⟨⟨dx, k2 _ _ ⟨fun _ e => (by cases e), fun _ e => (by cases e)⟩ hp1⟩, hG.land.keep kk, ?_, ?_, ?_, hG.ne⟩
      · exact m1.trans fun c o n _ e => by
          rw [upd_ne n]
          exact e
      · show upd H1 r.td _ r.td = some (.lst ((r.as.take i ++ [pa] ++ r.as.drop i).map V.ref))
        rw [upd_same, List.map_append, List.map_append, List.map_take, List.map_drop]
        rfl
      · have h1 := hG.tels.keep kk.tk
        exact Each.append (Each.append (each_take i h1) (.cons (kk.tk _ _ hpa) .nil)) (each_drop i h1)
      · show upd H1 r.td _ r.dd = some (.lst ds)
        rw [upd_ne hG.ne.symm]
        exact hd1
end
end Wl





namespace Wl
open PySem PySem.Spec PyProof.Rows L2
abbrev sKey : Stmt := topS 51
abbrev sPut : Stmt := topS 52
section
variable {K : PySem.W.Frag} {H : Hp} {Q : VK}
theorem cat_reads {a b : Addr} {xs ys : List V} (ha : H a = some (.tup xs)) (hb : H b = some (.tup ys)) (hz : xs.length + ys.length ≤ 1000) (q : ∀ u H', Same H H' → H' u = some (.tup (xs ++ ys)) → Q (.ref u) H') : rCatA K (.ref a) (.ref b) H Q := by
  refine ⟨a, b, xs, ys, rfl, rfl, .inl (.inl ha), .inl (.inl hb), lzl hz, fun e => ?_, fun _ e => ?_, fun _ _ p hp => ?_⟩
  · subst e
    exact q b H (Same.refl H) hb
  · subst e
    refine q a H (Same.refl H) ?_
    rw [List.append_nil]
    exact ha
  · exact q p _ (same_new hp) upd_same
theorem sl_reads {a : Addr} {xs : List V} {lo hi : Option Int} (ha : H a = some (.tup xs)) (q : ∀ u H', Same H H' → H' u = some (.tup (cutV xs lo hi)) → Q (.ref u) H') : rSlA K (.ref a) lo hi H Q := by
  refine ⟨a, xs, rfl, .inl (.inl ha), fun ⟨e1, e2⟩ => ?_, fun _ p hp => q p _ (same_new hp) upd_same⟩
  refine q a H (Same.refl H) ?_
  unfold cutV
  rw [e1, e2, List.drop_zero, Nat.sub_zero, List.take_length]
  exact ha
end
theorem cut_to (xs : List V) (c : Nat) : cutV xs none (some (c : Int)) = xs.take c := by
  unfold cutV
  rw [HT.sIx_none, HT.sIx_nat, List.drop_zero, Nat.sub_zero]
  by_cases h : c ≤ xs.length
  · rw [Nat.min_eq_left h]
  · rw [Nat.min_eq_right (by omega), List.take_length, List.take_of_length_le (by omega)]
theorem cut_from (xs : List V) (c : Nat) : cutV xs (some (c : Int)) none = xs.drop c := by
  unfold cutV
  rw [HT.sIx_none, HT.sIx_nat]
  by_cases h : c ≤ xs.length
  · rw [Nat.min_eq_left h, ← List.length_drop, List.take_length]
  · rw [Nat.min_eq_right (by omega), List.drop_length, List.drop_eq_nil_of_le (by omega), List.take_nil]
section
variable {P : Program} {w : World} {K : PySem.W.Frag} {mg : Str → Option Value} {base : Heap} {f C D : Addr} {fd : FuncData}
theorem scKey : FnScope ["_law_row_here"] ["_law_row_here"] (defScope sKey) := ⟨rfl, rfl, rfl, by decide +kernel, rfl, by decide +kernel, by decide +kernel⟩
theorem ok_key (F : Fun K "_law_key" "_law_key" sKey f fd) : FnOk P w K mg base CX0 1 f fd ["_law_row_here"] spKeyOf := by
  refine F.ok scKey (fun vs H Q E h => ?_) (fun cdv A outer s H vs Q E hr h => ?_)
  · obtain ⟨p, t, rfl, _⟩ := h
    rfl
  · obtain ⟨p, t, rfl, hp, q⟩ := h
    refine ⟨_, pss_one (ps_ret (pe_tup (pa_cons (pe_ix ix_tup (pv 0) pe_int (fun _ _ => rfl)) (pa_cons (pe_ix ix_tup (pv 0) pe_int (fun _ _ => rfl)) (pa_cons (pe_ix ix_tup (pv 0) pe_int (fun _ _ => rfl)) (pa_cons (pe_ix ix_tup (pv 0) pe_int (fun _ _ => rfl)) pa_nil)))))), ?_⟩
    refine ⟨_, rfl, p, _, _, _, rfl, rfl, .inl (.inl hp), atI_nat (j := 0) rfl, _, rfl, p, _, _, _, rfl, rfl, .inl (.inl hp), atI_nat (j := 3) rfl, _, rfl, p, _, _, _, rfl, rfl, .inl (.inl hp), atI_nat (j := 1) rfl, _, rfl, p, _, _, _, rfl, rfl, .inl (.inl hp), atI_nat (j := 5) rfl, lz, fun u hu => q u hu⟩
/-! ### a telling put, one way or another -/
def HasP (P : Program) (w : World) (K : PySem.W.Frag) (mg : Str → Option Value) (base : Heap) (C D : Addr) : Prop := ∃ f fd, FnOk P w K mg base CX0 4 f fd psPut (spPut C D) ∧ Meth K D "put" f ∧ FunP K f fd
def spLPut (C D : Addr) : Sp := fun vs H Q _ => ∃ (p rp : Addr) (way : Int) (r : GR) (wd : Nat) (t : Tel), vs = [.ref p, .ref rp, .int way] ∧ H rp = some (.tup (telV t)) ∧ GatAt C D H p r ∧ Good r.g wd ∧ (∀ u ∈ r.ts, OkT u) ∧ OkT t ∧ t.v ∈ names r.g ∧ keyS t ∉ r.ts.map keyS ∧ r.ts.length < 200 ∧ r.ds.length < 1000 ∧
  ∀ (q : Addr) (H' : Hp), H q = none → Same2 r.td r.dd H H' → GatAt C D H' p (r.add q t) → Q .non H'
abbrev nLPut : List Str := ["_law_basket_here", "_law_row_here", "_law_way", "_law_town", "_law_matter", "_law_said", "_law_mouth", "_law_years", "_law_hand", "_law_firm"]
theorem scLPut : FnScope nLPut ["_law_basket_here", "_law_row_here", "_law_way"] (defScope sPut) := ⟨rfl, rfl, rfl, by decide +kernel, rfl, by decide +kernel, by decide +kernel⟩
theorem ok_lput (F : Fun K "_law_put" "_law_put" sPut f fd) (TG : TxtG K mg D) (hP : HasP P w K mg base C D) : FnOk P w K mg base CX0 5 f fd ["_law_basket_here", "_law_row_here", "_law_way"] (spLPut C D) := by
  obtain ⟨fp, fdp, FP, mP, fnP⟩ := hP
  have b8 := put_b8 fnP
  obtain ⟨ds6, v6, b6⟩ := put_b6 fnP
  obtain ⟨i1, k1⟩ := put_k1 fnP
  obtain ⟨i2, k2⟩ := put_k2 fnP
  obtain ⟨i3, k3⟩ := put_k3 fnP
  refine F.ok scLPut (fun vs H Q E h => ?_) (fun cdv A outer s H vs Q E hr h => ?_)
  · obtain ⟨p, rp, way, r, wd, t, rfl, _⟩ := h
    rfl
  · obtain ⟨p, rp, way, r, wd, t, rfl, hrp, hG, gd, hok, okt, hv, hnew, h200, hds, q⟩ := h
    refine ⟨_, pss_cons (ps_if (PW.pt (pw_and (pt_cmpR op_eq (pv 2) pe_int (nomark _)) (pw_and1 (pt_cmpR (op_eqD hr.units) (pe_slice sl_tupA (pv 1) (po_some pe_int) po_none) (pe_tup (pa_cons pe_str (pa_cons pe_bl pa_nil))) (nomark _)))))
        (pss_one (ps_ret (pe_meth (pv 0) TG.cl mP FP hr b6 v6 pass0 (pa_cons (pe_ix ix_tup (pv 1) pe_int (fun _ _ => rfl)) (pa_cons (pe_ix ix_tup (pv 1) pe_int (fun _ _ => rfl)) (pa_cons (pe_ix ix_tup (pv 1) pe_int (fun _ _ => rfl)) (pa_cons (pe_ix ix_tup (pv 1) pe_int (fun _ _ => rfl)) (pa_cons (pe_ix ix_tup (pv 1) pe_int (fun _ _ => rfl)) pa_nil)))))))) pss_nil)
      (pss_cons (ps_if (PW.pt (pw_and (pt_cmpR op_eq (pv 2) pe_int (nomark _)) (pw_and1 (pt_val (pe_ix ix_tup (pv 1) pe_int (fun _ _ => rfl))))))
        (pss_one (ps_ret (pe_methN0 (pv 0) TG.cl mP FP hr k1 pass0 (pk_cons (pe_ix ix_tup (pv 1) pe_int (fun _ _ => rfl)) (pk_cons (pe_ix ix_tup (pv 1) pe_int (fun _ _ => rfl)) (pk_cons (pe_ix ix_tup (pv 1) pe_int (fun _ _ => rfl)) (pk_cons (pe_ix ix_tup (pv 1) pe_int (fun _ _ => rfl)) (pk_cons (pe_ix ix_tup (pv 1) pe_int (fun _ _ => rfl)) (pk_cons (pe_ix ix_tup (pv 1) pe_int (fun _ _ => rfl)) pk_nil))))))))) pss_nil)
      (pss_cons (ps_if (PW.pt (pw_and (pt_cmpR op_eq (pv 2) pe_int (nomark _)) (pw_and1 (pt_cmpR op_eq (pe_ix ix_tup (pv 1) pe_int (fun _ _ => rfl)) pe_str (nomark _)))))
        (pss_one (ps_ret (pe_methN (n := 5) (pv 0) TG.cl mP FP hr k2 pass0 (pa_cons (pe_ix ix_tup (pv 1) pe_int (fun _ _ => rfl)) (pa_cons (pe_ix ix_tup (pv 1) pe_int (fun _ _ => rfl)) (pa_cons (pe_ix ix_tup (pv 1) pe_int (fun _ _ => rfl)) (pa_cons (pe_ix ix_tup (pv 1) pe_int (fun _ _ => rfl)) (pa_cons (pe_ix ix_tup (pv 1) pe_int (fun _ _ => rfl)) pa_nil))))) (pk_cons (pe_ix ix_tup (pv 1) pe_int (fun _ _ => rfl)) pk_nil)))) pss_nil)
      (pss_cons (ps_if (pt_cmpR op_eq (pv 2) pe_int (nomark _))
        (pss_cons (ps_asg (pv 1) (pg_tup rfl (pgs_cons (pg_name (i := 3) scLPut.nd rfl (.inl rfl)) (pgs_cons (pg_name (i := 4) scLPut.nd rfl (.inl rfl)) (pgs_cons (pg_name (i := 5) scLPut.nd rfl (.inl rfl)) (pgs_cons (pg_name (i := 6) scLPut.nd rfl (.inl rfl)) (pgs_cons (pg_name (i := 7) scLPut.nd rfl (.inl rfl)) (pgs_cons (pg_name (i := 8) scLPut.nd rfl (.inl rfl)) (pgs_cons (pg_name (i := 9) scLPut.nd rfl (.inl rfl)) pgs_nil)))))))))
        (pss_one (ps_ret (pe_methN0 (pv 0) TG.cl mP FP hr k3 pass0 (pk_cons (pv 9) (pk_cons (pv 8) (pk_cons (pv 7) (pk_cons (pv 6) (pk_cons (pv 5) (pk_cons (pv 4) (pk_cons (pv 3) pk_nil)))))))))) ) pss_nil)
      (pss_one (ps_ret (pe_meth (pv 0) TG.cl mP FP hr b8 .nil pass0 (pa_cons (pe_ix ix_tup (pv 1) pe_int (fun _ _ => rfl)) (pa_cons (pe_ix ix_tup (pv 1) pe_int (fun _ _ => rfl)) (pa_cons (pe_ix ix_tup (pv 1) pe_int (fun _ _ => rfl)) (pa_cons (pe_ix ix_tup (pv 1) pe_int (fun _ _ => rfl)) (pa_cons (pe_ix ix_tup (pv 1) pe_int (fun _ _ => rfl)) (pa_cons (pe_ix ix_tup (pv 1) pe_int (fun _ _ => rfl)) (pa_cons (pe_ix ix_tup (pv 1) pe_int (fun _ _ => rfl)) pa_nil))))))))))))), ?_⟩
    obtain ⟨dx, hp⟩ := hG.at_
    have go : ∀ (H1 : Hp), Same H H1 → ∀ vs, vs = V.ref p :: telV t → spPut C D vs H1 Q E0 := fun H1 s1 vs e => ⟨p, r, wd, t, e, hG.same s1, gd, hok, okt, hv, hnew, h200, hds, fun q' H' n m g => q q' H' (s1.free n) ((Same2.of s1).trans m) g⟩
    have go2 : ∀ {t' : Tel}, t' = t → ∀ (H1 : Hp), Same H H1 → ∀ vs, vs = V.ref p :: telV t' → spPut C D vs H1 Q E0 := fun {t'} e H1 s1 vs e2 => go H1 s1 vs (by rw [e2, e])
    refine ⟨_, rfl, rfl, _, rfl, ite_b (fun e0 => ?_) (fun e0 => ?_)⟩
    · have w0 : way = 0 := V.int.inj (of_decide_eq_true e0)
      refine ⟨_, rfl, (5 : Int), rfl, ?_⟩
      dsimp only [tNoPart]
      refine sl_reads hrp fun u1 H1 s1 hu1 => ⟨lz, fun u2 hu2 => ?_⟩
      have s2 := same_new (o := .tup [V.str "self", V.bl true]) hu2
      have ecut : cutV (telV t) (some (5 : Int)) none = [V.str t.g, V.bl t.sure] := by
        rw [show (5 : Int) = ((5 : Nat) : Int) from rfl, cut_from]
        rfl
      rw [ecut] at hu1
      have s12 := s1.trans s2
      have hrp2 := s12 _ _ hrp
      have hp2 := s12 _ _ hp
      refine ⟨.tuple [.str t.g, .bool t.sure], .tuple [.str "self", .bool true], .tup (.inl (.inl (s2 _ _ hu1))) (.cons (.str _) (.cons (.bl _) .nil)), .tup (.inl (.inl upd_same)) (.cons (.str _) (.cons (.bl _) .nil)), ?_, by decide +kernel, _, rfl, ite_b (fun e1 => ?_) (fun e1 => ?_)⟩
      · exact shaped_tuple (by simp [PyData.canLayAll0, PyData.canLay0, wd_ok okt.g]) (by simp [PyData.depthAll, PyData.depth])
      · have eg : t.g = "self" ∧ t.sure = true := by
          simp only [PyData.eqv, PyData.eqvAll, Bool.and_eq_true, Bool.and_true, beq_iff_eq] at e1
          exact e1
        have et : ({ t with g := "self", sure := true } : Tel) = t := by
          cases t
          simp only at eg
          simp [eg.1, eg.2]
        exact ⟨_, rfl, p, _, _, rfl, hp2, gf_no _ _ _, _, rfl, rp, _, _, _, rfl, rfl, .inl (.inl hrp2), atI_nat (j := 0) rfl, _, rfl, rp, _, _, _, rfl, rfl, .inl (.inl hrp2), atI_nat (j := 1) rfl, _, rfl, rp, _, _, _, rfl, rfl, .inl (.inl hrp2), atI_nat (j := 2) rfl, _, rfl, rp, _, _, _, rfl, rfl, .inl (.inl hrp2), atI_nat (j := 3) rfl, _, rfl, rp, _, _, _, rfl, rfl, .inl (.inl hrp2), atI_nat (j := 4) rfl, go2 et _ s12 _ rfl⟩
      · refine ⟨_, rfl, rfl, _, rfl, ?_⟩
        rw [show decide (V.int way = V.int 1) = false from decide_eq_false (fun e => absurd (V.int.inj e) (by omega))]
        refine iteF ⟨_, rfl, rfl, _, rfl, ?_⟩
        rw [show decide (V.int way = V.int 2) = false from decide_eq_false (fun e => absurd (V.int.inj e) (by omega))]
        refine iteF ⟨_, rfl, rfl, _, rfl, ?_⟩
        rw [show decide (V.int way = V.int 3) = false from decide_eq_false (fun e => absurd (V.int.inj e) (by omega))]
        exact iteF ⟨_, rfl, p, _, _, rfl, hp2, gf_no _ _ _, _, rfl, rp, _, _, _, rfl, rfl, .inl (.inl hrp2), atI_nat (j := 0) rfl, _, rfl, rp, _, _, _, rfl, rfl, .inl (.inl hrp2), atI_nat (j := 1) rfl, _, rfl, rp, _, _, _, rfl, rfl, .inl (.inl hrp2), atI_nat (j := 2) rfl, _, rfl, rp, _, _, _, rfl, rfl, .inl (.inl hrp2), atI_nat (j := 3) rfl, _, rfl, rp, _, _, _, rfl, rfl, .inl (.inl hrp2), atI_nat (j := 4) rfl, _, rfl, rp, _, _, _, rfl, rfl, .inl (.inl hrp2), atI_nat (j := 5) rfl, _, rfl, rp, _, _, _, rfl, rfl, .inl (.inl hrp2), atI_nat (j := 6) rfl, go _ s12 _ rfl⟩
    have w0 : way ≠ 0 := fun e => of_decide_eq_false e0 (congrArg V.int e)
    have sr := Same.refl H
    refine ⟨_, rfl, rfl, _, rfl, ite_b (fun e1 => ?_) (fun e1 => ?_)⟩
    · have w1 : way = 1 := V.int.inj (of_decide_eq_true e1)
      refine ⟨_, rfl, rp, _, _, _, rfl, rfl, .inl (.inl hrp), atI_nat (j := 6) rfl, _, rfl, ite_b (fun e2 => ?_) (fun e2 => ?_)⟩
      · have et : ({ t with sure := true } : Tel) = t := by
          cases t
          simp only at e2
          simp [e2]
        exact ⟨_, rfl, p, _, _, rfl, hp, gf_no _ _ _, _, rfl, rp, _, _, _, rfl, rfl, .inl (.inl hrp), atI_nat (j := 4) rfl, _, rfl, rp, _, _, _, rfl, rfl, .inl (.inl hrp), atI_nat (j := 0) rfl, _, rfl, rp, _, _, _, rfl, rfl, .inl (.inl hrp), atI_nat (j := 5) rfl, _, rfl, rp, _, _, _, rfl, rfl, .inl (.inl hrp), atI_nat (j := 2) rfl, _, rfl, rp, _, _, _, rfl, rfl, .inl (.inl hrp), atI_nat (j := 3) rfl, _, rfl, rp, _, _, _, rfl, rfl, .inl (.inl hrp), atI_nat (j := 1) rfl, rfl, rfl, go2 et _ sr _ rfl⟩
      · refine ⟨_, rfl, rfl, _, rfl, ?_⟩
        rw [show decide (V.int way = V.int 2) = false from decide_eq_false (fun e => absurd (V.int.inj e) (by omega))]
        refine iteF ⟨_, rfl, rfl, _, rfl, ?_⟩
        rw [show decide (V.int way = V.int 3) = false from decide_eq_false (fun e => absurd (V.int.inj e) (by omega))]
        exact iteF ⟨_, rfl, p, _, _, rfl, hp, gf_no _ _ _, _, rfl, rp, _, _, _, rfl, rfl, .inl (.inl hrp), atI_nat (j := 0) rfl, _, rfl, rp, _, _, _, rfl, rfl, .inl (.inl hrp), atI_nat (j := 1) rfl, _, rfl, rp, _, _, _, rfl, rfl, .inl (.inl hrp), atI_nat (j := 2) rfl, _, rfl, rp, _, _, _, rfl, rfl, .inl (.inl hrp), atI_nat (j := 3) rfl, _, rfl, rp, _, _, _, rfl, rfl, .inl (.inl hrp), atI_nat (j := 4) rfl, _, rfl, rp, _, _, _, rfl, rfl, .inl (.inl hrp), atI_nat (j := 5) rfl, _, rfl, rp, _, _, _, rfl, rfl, .inl (.inl hrp), atI_nat (j := 6) rfl, go _ sr _ rfl⟩
    have w1 : way ≠ 1 := fun e => of_decide_eq_false e1 (congrArg V.int e)
    refine ⟨_, rfl, rfl, _, rfl, ite_b (fun e2 => ?_) (fun e2 => ?_)⟩
    · have w2 : way = 2 := V.int.inj (of_decide_eq_true e2)
      refine ⟨_, rfl, rp, _, _, _, rfl, rfl, .inl (.inl hrp), atI_nat (j := 5) rfl, rfl, _, rfl, ite_b (fun e3 => ?_) (fun e3 => ?_)⟩
      · have eg : t.g = "self" := V.str.inj (of_decide_eq_true e3)
        have et : ({ t with g := "self" } : Tel) = t := by
          cases t
          simp only at eg
          simp [eg]
        exact ⟨_, rfl, p, _, _, rfl, hp, gf_no _ _ _, _, rfl, rp, _, _, _, rfl, rfl, .inl (.inl hrp), atI_nat (j := 0) rfl, _, rfl, rp, _, _, _, rfl, rfl, .inl (.inl hrp), atI_nat (j := 1) rfl, _, rfl, rp, _, _, _, rfl, rfl, .inl (.inl hrp), atI_nat (j := 2) rfl, _, rfl, rp, _, _, _, rfl, rfl, .inl (.inl hrp), atI_nat (j := 3) rfl, _, rfl, rp, _, _, _, rfl, rfl, .inl (.inl hrp), atI_nat (j := 4) rfl, _, rfl, rp, _, _, _, rfl, rfl, .inl (.inl hrp), atI_nat (j := 6) rfl, rfl, rfl, go2 et _ sr _ rfl⟩
      · refine ⟨_, rfl, rfl, _, rfl, ?_⟩
        rw [show decide (V.int way = V.int 3) = false from decide_eq_false (fun e => absurd (V.int.inj e) (by omega))]
        exact iteF ⟨_, rfl, p, _, _, rfl, hp, gf_no _ _ _, _, rfl, rp, _, _, _, rfl, rfl, .inl (.inl hrp), atI_nat (j := 0) rfl, _, rfl, rp, _, _, _, rfl, rfl, .inl (.inl hrp), atI_nat (j := 1) rfl, _, rfl, rp, _, _, _, rfl, rfl, .inl (.inl hrp), atI_nat (j := 2) rfl, _, rfl, rp, _, _, _, rfl, rfl, .inl (.inl hrp), atI_nat (j := 3) rfl, _, rfl, rp, _, _, _, rfl, rfl, .inl (.inl hrp), atI_nat (j := 4) rfl, _, rfl, rp, _, _, _, rfl, rfl, .inl (.inl hrp), atI_nat (j := 5) rfl, _, rfl, rp, _, _, _, rfl, rfl, .inl (.inl hrp), atI_nat (j := 6) rfl, go _ sr _ rfl⟩
    refine ⟨_, rfl, rfl, _, rfl, ite_b (fun e3 => ?_) (fun e3 => ?_)⟩
    · refine ⟨_, rfl, rp, _, rfl, .inl (.inl hrp), rfl, _, _, rfl, _, _, rfl, _, _, rfl, _, _, rfl, _, _, rfl, _, _, rfl, _, _, rfl, rfl, ?_⟩
      exact ⟨_, rfl, p, _, _, rfl, hp, gf_no _ _ _, _, rfl, _, rfl, _, rfl, _, rfl, _, rfl, _, rfl, _, rfl, rfl, rfl, go _ sr _ rfl⟩
    · exact ⟨_, rfl, p, _, _, rfl, hp, gf_no _ _ _, _, rfl, rp, _, _, _, rfl, rfl, .inl (.inl hrp), atI_nat (j := 0) rfl, _, rfl, rp, _, _, _, rfl, rfl, .inl (.inl hrp), atI_nat (j := 1) rfl, _, rfl, rp, _, _, _, rfl, rfl, .inl (.inl hrp), atI_nat (j := 2) rfl, _, rfl, rp, _, _, _, rfl, rfl, .inl (.inl hrp), atI_nat (j := 3) rfl, _, rfl, rp, _, _, _, rfl, rfl, .inl (.inl hrp), atI_nat (j := 4) rfl, _, rfl, rp, _, _, _, rfl, rfl, .inl (.inl hrp), atI_nat (j := 5) rfl, _, rfl, rp, _, _, _, rfl, rfl, .inl (.inl hrp), atI_nat (j := 6) rfl, go _ sr _ rfl⟩
end
end Wl





namespace Wl
open PySem PySem.Spec PyProof.Rows L2
abbrev sPools : Stmt := topS 49
abbrev sRow : Stmt := topS 50
/-- words to draw from -/
structure OkW (ws : List Str) : Prop where
  ne : ws ≠ []
  le : ws.length ≤ 36
  wd : ∀ z ∈ ws, IsWd z
def PoolsAt (H : Hp) (F : Addr) (as : List Addr) (ps : List (List Str)) : Prop := H F = some (.lst (as.map V.ref)) ∧ Each (fun (p : Addr) (ws : List Str) => H p = some (.lst (ws.map V.str))) as ps
/-- the lists stand apart from the purse -/
theorem PoolsAt.x {a F : Addr} {H H' : Hp} {as : List Addr} {ps : List (List Str)} (h : PoolsAt H F as ps) (s : SameX a H H') (nF : F ≠ a) (na : ∀ p ∈ as, p ≠ a) : PoolsAt H' F as ps := by
  refine ⟨s _ _ nF h.1, ?_⟩
  have key : ∀ {as : List Addr} {ps : List (List Str)}, (∀ p ∈ as, p ≠ a) → Each (fun (p : Addr) (ws : List Str) => H p = some (.lst (ws.map V.str))) as ps → Each (fun (p : Addr) (ws : List Str) => H' p = some (.lst (ws.map V.str))) as ps := by
    intro as ps na e
    induction e with
    | nil => exact .nil
    | cons r _ ih => exact .cons (s _ _ (na _ List.mem_cons_self) r) (ih fun p hp => na p (List.mem_cons_of_mem _ hp))
  exact key na h.2
section
variable {P : Program} {w : World} {K : PySem.W.Frag} {mg : Str → Option Value} {base : Heap} {f C D : Addr} {fd : FuncData}
/-! ### a row drawn -/
def spRow : Sp := fun vs H Q _ => ∃ (a F : Addr) (as : List Addr) (p0 p1 p2 p3 p4 : List Str), vs = [.ref a, .ref F] ∧ PurseAt H a ∧ PoolsAt H F as [p0, p1, p2, p3, p4] ∧ F ≠ a ∧ (∀ p ∈ as, p ≠ a) ∧ (∀ ws ∈ [p0, p1, p2, p3, p4], OkW ws) ∧
  ∀ (rp : Addr) (t : Tel) (H' : Hp), H rp = none → OkT t → t.v ∈ p0 → t.th ∈ p1 → t.wo ∈ p2 → t.tl ∈ p3 → t.g ∈ p4 → H' rp = some (.tup (telV t)) → PurseAt H' a → SameX a H H' → Q (.ref rp) H'
abbrev nRow : List Str := ["_law_purse_here", "_law_pools_here", "_law_some", "_law_years", "_law_pool"]
theorem scRow : FnScope nRow ["_law_purse_here", "_law_pools_here"] (defScope sRow) := ⟨rfl, rfl, rfl, by decide +kernel, rfl, by decide +kernel, by decide +kernel⟩
theorem ok_row (F : Fun K "_law_row" "_law_row" sRow f fd) (B : Bi mg) (hp : Has P w K mg base "_law_pick" 1 ["_law_purse_here", "_law_count"] spPick) : FnOk P w K mg base CX0 2 f fd ["_law_purse_here", "_law_pools_here"] spRow := by
  refine F.ok scRow (fun vs H Q E h => ?_) (fun cdv A outer s H vs Q E hr h => ?_)
  · obtain ⟨a, F, as, p0, p1, p2, p3, p4, rfl, _⟩ := h
    rfl
  · obtain ⟨a, Fp, as, p0, p1, p2, p3, p4, rfl, hA, hPo, nF, na, hok, q⟩ := h
    refine ⟨_, pss_cons (ps_setLc (i := 2) (own := [("_law_pool", 4)]) (g := gName 4) (tt := tYes) (te := tOp (rIxL K) (tVar 4) (tCall spPick [] E0 (tCons (tVar 0) (tCons (tCB (fun xs H Q => ∃ p ys, xs = [.ref p] ∧ ((SqL K H p ys) ∨ SqT K H p ys) ∧ Q (.int ys.length) H) (tCons (tVar 4) tNil)) tNil)))) rfl scRow.nd rfl rfl (sw_true rfl rfl rfl (by decide +kernel)) (pi_list (pv 1)) (blkOk_by (N := nRow) (sc := defScope sRow) (by decide +kernel))
        (fun _ _ _ _ _ => pg_name (i := 4) scRow.nd rfl (.inl rfl)) (fun _ _ _ _ _ => pts_nil) (fun _ _ _ _ _ => pe_ix ix_list (pv 4) (pe_h hp hr (pa_cons (pv 0) (pa_cons (pe_callB call_len_seq (by rfl) B.len PySem.boot_len (pa_cons (pv 4) pa_nil)) pa_nil))) (fun _ _ => rfl)))
      (pss_cons (ps_set (i := 3) scRow.nd rfl (.inl rfl) (pe_ix ix_list (pe_lst (pa_cons pe_int (pa_cons pe_int (pa_cons pe_int (pa_cons (pe_h hp hr (pa_cons (pv 0) (pa_cons pe_int pa_nil))) pa_nil))))) (pe_h hp hr (pa_cons (pv 0) (pa_cons pe_int pa_nil))) (fun _ _ => rfl)))
      (pss_one (ps_ret (pe_tup (pa_cons (pe_ix ix_list (pv 2) pe_int (fun _ _ => rfl)) (pa_cons (pe_ix ix_list (pv 2) pe_int (fun _ _ => rfl)) (pa_cons (pe_ix ix_list (pv 2) pe_int (fun _ _ => rfl)) (pa_cons (pe_ix ix_list (pv 2) pe_int (fun _ _ => rfl)) (pa_cons (pv 3) (pa_cons (pe_ix ix_list (pv 2) pe_int (fun _ _ => rfl)) (pa_cons (pe_cmpR op_gt (pe_h hp hr (pa_cons (pv 0) (pa_cons pe_int pa_nil))) pe_int (nomark _)) pa_nil))))))))))), ?_⟩
    have hps : as.length = 5 := hPo.2.length
    refine ⟨_, rfl, Fp, rfl, ⟨_, .inl (.inl hPo.1)⟩, fun Dd hD => lc_it (walk_list (K := K) (a := Fp) (xs := as.map V.ref)) (fun i H' => ∃ zs : List Str, H' Dd = some (.lst (zs.map V.str)) ∧ zs.length = i ∧ Each (fun (ws : List Str) (z : Str) => z ∈ ws) ([p0, p1, p2, p3, p4].take i) zs ∧ PurseAt H' a ∧ SameX a H H')
      ⟨[], upd_same, rfl, .nil, hA.same (same_new hD), sx (same_new hD)⟩ (fun i H' _ h => .inl (.inl (h.choose_spec.2.2.2.2 _ _ nF hPo.1))) ?_ ?_⟩
    · rintro i x H1 H2 hi ⟨zs, hz, hzl, he, hA1, x1⟩ ⟨rfl, hx⟩
      rw [List.getElem?_map] at hx
      obtain ⟨pp, hpp, rfl⟩ := Option.map_eq_some_iff.mp hx
      obtain ⟨ws, hws, hpw⟩ := Each.get hPo.2 hpp
      have okw := hok ws (List.mem_of_getElem? hws)
      have npp := na pp (List.mem_of_getElem? hpp)
      have hp1 := x1 _ _ npp hpw
      have hi5 : i < 5 := by rw [List.length_map] at hi; omega
      have wpos : 0 < ws.length := List.length_pos_iff.mpr okw.ne
      have wle := okw.le
      refine ⟨rfl, yes_it ⟨_, rfl, _, rfl, _, rfl, pp, _, rfl, .inl (.inl (.inl hp1)), a, _, rfl, hA1, by rw [List.length_map]; omega, by rw [List.length_map]; omega, fun rr H3 r0 r1 hA3 x3 n3 => ?_⟩⟩
      rw [List.length_map] at r1
      obtain ⟨z, hzm, hzi⟩ := atI_strs (zs := ws) r0 r1
      have nD : Dd ≠ a := hA.ne hD
      have hD3 := x3 _ _ nD hz
      refine ⟨pp, _, rr, .str z, rfl, rfl, .inl (.inl (x3 _ _ npp hp1)), hzi, _, hD3, ?_, zs ++ [z], ?_, ?_, ?_, ?_, ?_⟩
      · rw [List.length_map]
        exact small1000 (by omega)
      · rw [upd_same, List.map_append]
        rfl
      · rw [List.length_append, hzl]
        rfl
      · rw [List.take_add_one, hws]
        exact Each.append he (.cons hzm .nil)
      · obtain ⟨y0, y1, y2, hy, hy1⟩ := hA3
        exact ⟨y0, y1, y2, by rw [upd_ne nD.symm]; exact hy, hy1⟩
      · exact sameX_mut (x1.trans x3) hD
    · rintro H1 ⟨zs, hz, hzl, he, hA1, x1⟩
      rw [List.length_map, hps] at hzl he
      obtain ⟨z0, z1, z2, z3, z4, rfl, m0, m1, m2, m3, m4⟩ : ∃ z0 z1 z2 z3 z4, zs = [z0, z1, z2, z3, z4] ∧ z0 ∈ p0 ∧ z1 ∈ p1 ∧ z2 ∈ p2 ∧ z3 ∈ p3 ∧ z4 ∈ p4 := by
        cases he with
        | cons m0 he =>
          cases he with
          | cons m1 he =>
            cases he with
            | cons m2 he =>
              cases he with
              | cons m3 he =>
                cases he with
                | cons m4 he =>
                  cases he
                  exact ⟨_, _, _, _, _, rfl, m0, m1, m2, m3, m4⟩
      have nD : Dd ≠ a := hA.ne hD
      -- years
      refine ⟨_, rfl, a, 121, rfl, hA1, by decide, by decide, fun ry H2 y0 y1 hA2 x2 _ => ⟨lz, fun ml hml => ⟨_, rfl, a, 4, rfl, hA2.same (same_new hml), by decide, by decide, fun r4 H4 r40 r41 hA4 x4 n4 => ?_⟩⟩⟩
      have nml := hA2.ne hml
      obtain ⟨yr, hym, hyat⟩ := atI_tab (ns := [0, 120, 40, ry]) r40 r41
      have hyr : 0 ≤ yr ∧ yr ≤ 120 := by
        simp only [List.mem_cons, List.not_mem_nil, or_false] at hym
        omega
      obtain ⟨y, rfl⟩ : ∃ y : Nat, yr = (y : Int) := ⟨yr.toNat, by omega⟩
      refine ⟨ml, _, _, .int (y : Int), rfl, rfl, .inl (.inl (x4 _ _ nml upd_same)), hyat, ?_⟩
      have x14 : SameX a H1 H4 := (x2.trans (sx (same_new hml))).trans x4
      have x04 : SameX a H H4 := x1.trans x14
      have hz4 := x14 _ _ nD hz
      refine ⟨_, rfl, Dd, _, _, _, rfl, rfl, .inl (.inl hz4), atI_nat (j := 0) rfl, _, rfl, Dd, _, _, _, rfl, rfl, .inl (.inl hz4), atI_nat (j := 1) rfl, _, rfl, Dd, _, _, _, rfl, rfl, .inl (.inl hz4), atI_nat (j := 2) rfl, _, rfl, Dd, _, _, _, rfl, rfl, .inl (.inl hz4), atI_nat (j := 3) rfl, _, rfl, _, rfl, Dd, _, _, _, rfl, rfl, .inl (.inl hz4), atI_nat (j := 4) rfl, ?_⟩
      refine ⟨_, rfl, a, 4, rfl, hA4, by decide, by decide, fun rs H5 s0 s1 hA5 x5 n5 => ⟨_, _, rfl, rfl, lz, fun rp hrp => ?_⟩⟩
      have okp : ∀ {ws : List Str} {z : Str}, ws ∈ [p0, p1, p2, p3, p4] → z ∈ ws → IsWd z := fun hw hz => (hok _ hw).wd _ hz
      have npa := hA5.ne hrp
      refine q rp ⟨z0, z1, z2, z3, y, z4, decide (0 < rs)⟩ _ ?_ ⟨okp (by simp) m0, okp (by simp) m1, okp (by simp) m2, okp (by simp) m3, by show y ≤ 120; omega, okp (by simp) m4⟩ m0 m1 m2 m3 m4 upd_same (hA5.same (same_new hrp)) ((x04.trans x5).trans (sx (same_new hrp)))
      exact SameX.free (x04.trans x5) npa hrp
end
end Wl





namespace Wl
open PySem PySem.Spec PyProof.Rows L2
section
variable {P : Program} {w : World} {K : PySem.W.Frag} {mg : Str → Option Value} {base : Heap} {f C D : Addr} {fd : FuncData}
/-! ### the pools -/
structure PoolI (g : Grid) (H H' : Hp) (a Fa cl : Addr) (xs : List V) (as : List Addr) (rest : List (List Str)) (i : Nat) : Prop where
  pu : PurseAt H' a
  sx : SameX a H H'
  fo : H' Fa = some (.lst (as.map V.ref))
  cl : H' cl = some (.lst xs)
  ea : Each (fun (p : Addr) (ws : List Str) => H' p = some (.lst (ws.map V.str))) as (sortS (names g) :: rest)
  ne : ∀ p ∈ as, p ≠ Fa ∧ H p = none
  len : as.length = i + 1
  wd : ∀ ws ∈ rest, ∀ z ∈ ws, IsWd z
  co : Each (fun (x : V) (ws : List Str) => x = .int (ws.length : Int)) (xs.take i) rest
theorem each_lists {H H' : Hp} : ∀ {as : List Addr} {ps : List (List Str)}, (∀ p ∈ as, ∀ o, H p = some o → H' p = some o) → Each (fun (p : Addr) (ws : List Str) => H p = some (.lst (ws.map V.str))) as ps → Each (fun (p : Addr) (ws : List Str) => H' p = some (.lst (ws.map V.str))) as ps
  | _, _, _, .nil => .nil
  | _, _, k, .cons r t => .cons (k _ List.mem_cons_self _ r) (each_lists (fun p hp => k p (List.mem_cons_of_mem _ hp)) t)
def spPools : Sp := fun vs H Q _ => ∃ (a L : Addr) (g : Grid) (wd : Nat), vs = [.ref a, .ref L] ∧ PurseAt H a ∧ GridAt H L g ∧ Good g wd ∧
  ∀ (F : Addr) (as : List Addr) (p1 p2 p3 p4 : List Str) (H' : Hp), H F = none → (∀ p ∈ as, H p = none) → PoolsAt H' F as [sortS (names g), p1, p2, p3, p4] → (∀ ws ∈ [sortS (names g), p1, p2, p3, p4], OkW ws) → p4.length ≤ 3 → p3.length ≤ 3 → PurseAt H' a → SameX a H H' → Q (.ref F) H'
abbrev nPools : List Str := ["_law_purse_here", "_law_lots", "_law_found", "_law_count", "_law_words", "_law_k", "_law_said"]
theorem scPools : FnScope nPools ["_law_purse_here", "_law_lots"] (defScope sPools) := ⟨rfl, rfl, rfl, by decide +kernel, rfl, by decide +kernel, by decide +kernel⟩
theorem ok_pools (F : Fun K "_law_pools" "_law_pools" sPools f fd) (B : Bi mg) (hp : Has P w K mg base "_law_pick" 1 ["_law_purse_here", "_law_count"] spPick) (hF : Has P w K mg base "_law_fresh" 3 ["_law_purse_here", "_law_used"] spFresh) (hN : Has P w K mg base "_law_names" 1 ["_law_lots"] spNames) : FnOk P w K mg base CX0 4 f fd ["_law_purse_here", "_law_lots"] spPools := by
  refine F.ok scPools (fun vs H Q E h => ?_) (fun cdv A outer s H vs Q E hr h => ?_)
  · obtain ⟨a, L, g, wd, rfl, _⟩ := h
    rfl
  · obtain ⟨a, L, g, wd, rfl, hA, hG, gd, q⟩ := h
    refine ⟨_, pss_cons (ps_set (i := 2) scPools.nd rfl (.inl rfl) (pe_lst (pa_cons (pe_h hN hr (pa_cons (pv 1) pa_nil)) pa_nil)))
      (pss_cons (ps_for PassesOwn.never rfl (pi_list (pe_lst (pa_cons (pe_op op_add pe_int (pe_h hp hr (pa_cons (pv 0) (pa_cons pe_int pa_nil)))) (pa_cons (pe_op op_add pe_int (pe_h hp hr (pa_cons (pv 0) (pa_cons pe_int pa_nil)))) (pa_cons (pe_op op_add pe_int (pe_h hp hr (pa_cons (pv 0) (pa_cons pe_int pa_nil)))) (pa_cons (pe_h hp hr (pa_cons (pv 0) (pa_cons pe_int pa_nil))) pa_nil)))))) (pg_name (i := 3) scPools.nd rfl (.inl rfl))
        (pss_cons (ps_set (i := 4) scPools.nd rfl (.inl rfl) (pe_lst pa_nil))
        (pss_cons (ps_for PassesOwn.never rfl (pi_range1 rfl B.range (pa_cons (pv 3) pa_nil)) (pg_name (i := 5) scPools.nd rfl (.inl rfl))
          (pss_one (ps_expr (pe_bm PySem.F.plainAttrs_list PySem.F.slot_list_append PySem.F.type_list_append mt_append (pv 4) (pa_cons (pe_h hF hr (pa_cons (pv 0) (pa_cons (pv 4) pa_nil))) pa_nil)))))
        (pss_one (ps_expr (pe_bm PySem.F.plainAttrs_list PySem.F.slot_list_append PySem.F.type_list_append mt_append (pv 2) (pa_cons (pv 4) pa_nil)))))))
      (pss_cons (ps_asg (pe_op op_cat (pe_lst (pa_cons pe_str pa_nil)) (pe_lc (own := [("_law_said", 6)]) (g := gName 6) (tt := tTest (tOp rNe (tVar 6) (tC (.str "self")))) rfl scPools.nd (pi_list (pe_ix ix_list (pv 2) pe_int (fun _ _ => rfl))) (blkOk_by (N := nPools) (sc := defScope sPools) (by decide +kernel)) (fun _ _ _ _ _ => pg_name (i := 6) scPools.nd rfl (.inl rfl)) (fun _ _ _ _ _ => pts_one (pt_cmpR op_ne (pv 6) pe_str (nomark _))) (fun _ _ _ _ _ => pv 6))) (pg_sub (pv 2) pe_int set_list))
      (pss_one (ps_ret (pv 2))))), ?_⟩
    refine ⟨_, rfl, L, g, wd, rfl, hG, gd.sized, fun tn H1 ntn s1 htn => ⟨lz, fun Fa hFa => ?_⟩⟩
    have s2 := same_new (o := .lst [V.ref tn]) hFa
    have hFa2 : upd H1 Fa (.lst [V.ref tn]) Fa = some (.lst [V.ref tn]) := upd_same
    have htn2 := s2 _ _ htn
    have s02 := s1.trans s2
    have hFa0 : H Fa = none := s1.free hFa
    have nFt : tn ≠ Fa := fun e => by
      rw [e, hFa] at htn
      cases htn
    generalize upd H1 Fa (.lst [V.ref tn]) = H2 at hFa2 htn2 s02
    have nFa : Fa ≠ a := hA.ne hFa0
    have nta : tn ≠ a := hA.ne ntn
    refine ⟨_, rfl, a, 3, rfl, hA.same s02, by decide, by decide, fun c1 H3 c10 c11 hA3 x3 _ => ⟨_, _, rfl, rfl, _, rfl, a, 5, rfl, hA3, by decide, by decide, fun c2 H4 c20 c21 hA4 x4 _ => ⟨_, _, rfl, rfl, _, rfl, a, 3, rfl, hA4, by decide, by decide, fun c3 H5 c30 c31 hA5 x5 _ => ⟨_, _, rfl, rfl, _, rfl, a, 3, rfl, hA5, by decide, by decide, fun c4 H6 c40 c41 hA6 x6 _ => ⟨lz, fun cl hcl => ?_⟩⟩⟩⟩⟩
    have x26 : SameX a H2 H6 := ((x3.trans x4).trans x5).trans x6
    have s7 := same_new (o := .lst [V.int (1 + c1), V.int (1 + c2), V.int (1 + c3), V.int c4]) hcl
    have hcl7 : upd H6 cl (.lst [V.int (1 + c1), V.int (1 + c2), V.int (1 + c3), V.int c4]) cl = _ := upd_same
    have hA7 := hA6.same s7
    have x27 := x26.trans (sx s7)
    have ncl : cl ≠ a := hA6.ne hcl
    have nclF : cl ≠ Fa := fun e => by
      have := x26 _ _ nFa hFa2
      rw [e] at hcl
      rw [hcl] at this
      cases this
    generalize upd H6 cl (.lst [V.int (1 + c1), V.int (1 + c2), V.int (1 + c3), V.int c4]) = H7 at hcl7 hA7 x27
    have hcl0 : ∀ p, H p ≠ none → p ≠ cl := fun p h e => h (by
      have : H6 cl = none := hcl
      cases hq : H p with
      | none => rfl
      | some o =>
        by_cases c : p = a
        · exact absurd (e.symm.trans c) ncl
        · have := x26 _ _ c (s02 _ _ hq)
          rw [e, hcl] at this
          cases this)
    have I0 : PoolI g H H7 a Fa cl [V.int (1 + c1), V.int (1 + c2), V.int (1 + c3), V.int c4] [tn] [] 0 :=
      ⟨hA7, (sx s02).trans x27, x27 _ _ nFa hFa2, hcl7, .cons (x27 _ _ nta htn2) .nil, fun p hp => by rw [List.mem_singleton.mp hp]; exact ⟨nFt, ntn⟩, rfl, fun ws hw => by simp at hw, .nil⟩
    have cnt : ∀ (i : Nat) (x : V), ([V.int (1 + c1), V.int (1 + c2), V.int (1 + c3), V.int c4] : List V)[i]? = some x → ∃ n : Nat, x = .int (n : Int) ∧ n ≤ 5 := by
      intro i x hx
      match i, hx with
      | 0, h => cases h; exact ⟨(1 + c1).toNat, by congr 1; omega, by omega⟩
      | 1, h => cases h; exact ⟨(1 + c2).toNat, by congr 1; omega, by omega⟩
      | 2, h => cases h; exact ⟨(1 + c3).toNat, by congr 1; omega, by omega⟩
      | 3, h => cases h; exact ⟨c4.toNat, by congr 1; omega, by omega⟩
      | n + 4, h => simp at h
    refine ⟨cl, rfl, ⟨_, .inl (.inl hcl7)⟩, for_list (K := K) (a := cl) (xs := [V.int (1 + c1), V.int (1 + c2), V.int (1 + c3), V.int c4]) (fun i σ H' => (∃ y3 y4 y5 y6, σ = [some (.ref a), some (.ref L), some (.ref Fa), y3, y4, y5, y6]) ∧ ∃ as rest, PoolI g H H' a Fa cl [V.int (1 + c1), V.int (1 + c2), V.int (1 + c3), V.int c4] as rest i)
      ⟨⟨_, _, _, _, rfl⟩, _, _, I0⟩ (fun i σ H' _ h => .inl (.inl (h.2.choose_spec.choose_spec.cl))) ?_ ?_⟩
    · rintro i x σ H8 hx ⟨⟨y3, y4, y5, y6, rfl⟩, as, rest, I⟩
      obtain ⟨n, rfl, hn⟩ := cnt i x hx
      refine ⟨lz, fun W hW => ?_⟩
      have nWa : W ≠ a := I.pu.ne hW
      have hW0 : H W = none := SameX.free I.sx nWa hW
      have nWF : Fa ≠ W := ne_of_none I.fo hW
      have nWc : cl ≠ W := ne_of_none I.cl hW
      have nWp : ∀ p ∈ as, p ≠ W := fun p hp => by
        obtain ⟨k, hk, ek⟩ := List.mem_iff_getElem.mp hp
        obtain ⟨ws, _, e⟩ := Each.get I.ea (i := k) (a := p) (by rw [List.getElem?_eq_getElem hk, ek])
        exact ne_of_none e hW
      have npa : ∀ p ∈ as, p ≠ a := fun p hp => hA.ne (I.ne p hp).2
      have s9 := same_new (o := .lst []) hW
      have hW9 : upd H8 W (.lst []) W = some (.lst []) := upd_same
      have hA9 := I.pu.same s9
      generalize upd H8 W (.lst []) = H9 at s9 hW9 hA9
      refine ⟨_, rfl, (n : Int), rfl, by omega, by omega, for_range (lo := 0) (n := n) (fun j σ H' => (∃ z5, σ = [some (.ref a), some (.ref L), some (.ref Fa), some (.int (n : Int)), some (.ref W), z5, y6]) ∧ ∃ ws : List Str, H' W = some (.lst (ws.map V.str)) ∧ ws.length = j ∧ (∀ z ∈ ws, IsWd z) ∧ PurseAt H' a ∧ Same2 a W H9 H')
        ⟨⟨_, rfl⟩, [], hW9, rfl, fun z hz => by simp at hz, hA9, Same2.of (Same.refl _)⟩ ?_ ?_⟩
      · rintro j σ H10 hj ⟨⟨z5, rfl⟩, ws, hw, hl, hwd, hA10, m10⟩
        refine ⟨_, rfl, .inl ⟨rfl, _, .inl (.inl hw)⟩, _, rfl, _, rfl, a, W, ws, rfl, hA10, hw, nWa, by omega, fun z H11 hz hzn hA11 x11 => ?_⟩
        have hw11 := x11 _ _ nWa hw
        refine ⟨W, _, _, rfl, rfl, hw11, ?_, ⟨_, rfl⟩, ws ++ [z], ?_, ?_, ?_, ?_, ?_⟩
        · rw [List.length_map]
          exact small1000 (by omega)
        · rw [upd_same, List.map_append]
          rfl
        · rw [List.length_append, hl]
          rfl
        · intro u hu
          rcases List.mem_append.mp hu with hu | hu
          · exact hwd u hu
          · rw [List.mem_singleton.mp hu]
            exact hz
        · obtain ⟨y0, y1, y2, hy, hy1⟩ := hA11
          exact ⟨y0, y1, y2, by rw [upd_ne nWa.symm]; exact hy, hy1⟩
        · intro c o n1 n2 e
          rw [upd_ne n2]
          exact x11 _ _ n1 (m10 c o n1 n2 e)
      · rintro σ H10 ⟨⟨z5, rfl⟩, ws, hw, hl, hwd, hA10, m10⟩
        have t10 : ∀ c o, c ≠ a → c ≠ W → H8 c = some o → H10 c = some o := fun c o n1 n2 e => m10 c o n1 n2 (s9 _ _ e)
        have hf10 := t10 _ _ nFa nWF I.fo
        refine ⟨_, rfl, .inl ⟨rfl, _, .inl (.inl hf10)⟩, _, rfl, Fa, _, _, rfl, rfl, hf10, ?_, ⟨_, _, _, _, rfl⟩, as ++ [W], rest ++ [ws], ?_⟩
        · rw [List.length_map, I.len]
          have : i < 4 := by
            rcases Nat.lt_or_ge i 4 with h | h
            · exact h
            · rw [List.getElem?_eq_none (by simpa using h)] at hx
              cases hx
          exact small1000 (by omega)
        refine ⟨?_, ?_, ?_, ?_, ?_, ?_, ?_, ?_, ?_⟩
        · obtain ⟨y0, y1, y2, hy, hy1⟩ := hA10
          exact ⟨y0, y1, y2, by rw [upd_ne nFa.symm]; exact hy, hy1⟩
        · intro c o n1 e
          have n2 : c ≠ W := ne_of_none e hW0
          have n3 : c ≠ Fa := ne_of_none e hFa0
          rw [upd_ne n3]
          exact t10 c o n1 n2 (I.sx c o n1 e)
        · rw [upd_same, List.map_append]
          rfl
        · rw [upd_ne nclF]
          exact t10 _ _ ncl nWc I.cl
        · have e1 := each_lists (H' := upd H10 Fa (.lst (as.map V.ref ++ [V.ref W]))) (fun p hp o e => by
            rw [upd_ne (I.ne p hp).1]
            exact t10 p o (npa p hp) (nWp p hp) e) I.ea
          have e2 : Each (fun (p : Addr) (ws : List Str) => upd H10 Fa (.lst (as.map V.ref ++ [V.ref W])) p = some (.lst (ws.map V.str))) [W] [ws] := .cons (by rw [upd_ne nWF.symm]; exact hw) .nil
          exact Each.append e1 e2
        · intro p hp
          rcases List.mem_append.mp hp with hp | hp
          · exact I.ne p hp
          · rw [List.mem_singleton.mp hp]
            exact ⟨nWF.symm, hW0⟩
        · rw [List.length_append, I.len]
          rfl
        · intro us hu
          rcases List.mem_append.mp hu with hu | hu
          · exact I.wd us hu
          · rw [List.mem_singleton.mp hu]
            exact hwd
        · rw [List.take_add_one, hx]
          exact Each.append I.co (.cons (by rw [hl]) .nil)
    · rintro σ H8 ⟨⟨y3, y4, y5, y6, rfl⟩, as, rest, I⟩
      have co := I.co
      obtain ⟨p1, p2, p3, p4, rfl, l1, l2, l3, l4⟩ : ∃ p1 p2 p3 p4 : List Str, rest = [p1, p2, p3, p4] ∧ V.int (1 + c1) = .int (p1.length : Int) ∧ V.int (1 + c2) = .int (p2.length : Int) ∧ V.int (1 + c3) = .int (p3.length : Int) ∧ V.int c4 = .int (p4.length : Int) := by
        cases co with
        | cons m1 co =>
          cases co with
          | cons m2 co =>
            cases co with
            | cons m3 co =>
              cases co with
              | cons m4 co =>
                cases co
                exact ⟨_, _, _, _, rfl, m1, m2, m3, m4⟩
      have l1 := V.int.inj l1
      have l2 := V.int.inj l2
      have l3 := V.int.inj l3
      have l4 := V.int.inj l4
      have ea := I.ea
      obtain ⟨b0, b1, b2, b3, b4, rfl, e0, e1, e2, e3, e4⟩ : ∃ b0 b1 b2 b3 b4 : Addr, as = [b0, b1, b2, b3, b4] ∧ H8 b0 = some (.lst ((sortS (names g)).map V.str)) ∧ H8 b1 = some (.lst (p1.map V.str)) ∧ H8 b2 = some (.lst (p2.map V.str)) ∧ H8 b3 = some (.lst (p3.map V.str)) ∧ H8 b4 = some (.lst (p4.map V.str)) := by
        cases ea with
        | cons m0 ea =>
          cases ea with
          | cons m1 ea =>
            cases ea with
            | cons m2 ea =>
              cases ea with
              | cons m3 ea =>
                cases ea with
                | cons m4 ea =>
                  cases ea
                  exact ⟨_, _, _, _, _, rfl, m0, m1, m2, m3, m4⟩
      refine ⟨lz, fun sl hsl => ?_⟩
      have s9 := same_new (o := .lst [V.str "self"]) hsl
      have hs9 : upd H8 sl (.lst [V.str "self"]) sl = some (.lst [V.str "self"]) := upd_same
      generalize upd H8 sl (.lst [V.str "self"]) = H9 at s9 hs9
      have hf9 := s9 _ _ I.fo
      have e49 := s9 _ _ e4
      refine ⟨_, rfl, Fa, _, _, .ref b4, rfl, rfl, .inl (.inl hf9), atI_nat (j := 4) rfl, b4, rfl, ⟨_, .inl (.inl e49)⟩, fun Dd hD => ?_⟩
      refine lc_map (walk_list (K := K) (a := b4) (xs := p4.map V.str)) hD (fun v => !decide (v = .str "self")) id (fun H' s' => .inl (.inl (s' _ _ e49))) (fun _ => rfl) ?_ ?_ ?_ ?_
      · intro x H' hx _ Q' q'
        obtain ⟨z, hz, rfl⟩ := List.mem_map.mp hx
        exact ⟨_, rfl, rfl, _, rfl, q'⟩
      · intro x H' hx _ _ Q' q'
        exact ⟨_, rfl, q'⟩
      · rw [List.length_map]
        exact small1000 (by omega)
      · intro H10 s10 hD10
        have ef : ((p4.map V.str).filter fun v => !decide (v = .str "self")).map id = (p4.filter fun (z : Str) => !decide (z = "self")).map V.str := by
          rw [List.map_id, List.filter_map]
          congr 1
          refine List.filter_congr fun z _ => ?_
          simp only [Function.comp]
          by_cases c : z = ("self" : Str)
          · rw [c]
            simp
          · rw [decide_eq_false c, decide_eq_false fun e => c (V.str.inj e)]
        rw [ef] at hD10
        have hfl : (p4.filter fun (z : Str) => !decide (z = "self")).length ≤ p4.length := List.length_filter_le _ _
        refine ⟨sl, Dd, _, _, rfl, rfl, s10 _ _ hs9, hD10, ?_, fun nl hnl => ?_⟩
        · rw [List.length_map]
          exact lzl (by simp only [List.length_cons, List.length_nil]; omega)
        have s11 := same_new (o := .lst ([V.str "self"] ++ (p4.filter fun (z : Str) => !decide (z = "self")).map V.str)) hnl
        have s811 := s9.trans (s10.trans s11)
        have hnl11 : upd H10 nl (.lst ([V.str "self"] ++ (p4.filter fun (z : Str) => !decide (z = "self")).map V.str)) nl = some (.lst ((("self" : Str) :: p4.filter fun (z : Str) => !decide (z = "self")).map V.str)) := upd_same
        have nn8 : H8 nl = none := (s9.trans s10).free hnl
        generalize upd H10 nl (.lst ([V.str "self"] ++ (p4.filter fun (z : Str) => !decide (z = "self")).map V.str)) = H11 at s811 hnl11
        have hf11 := s811 _ _ I.fo
        refine ⟨_, rfl, Fa, _, 4, 4, rfl, rfl, hf11, rfl, ?_⟩
        have nnF : nl ≠ Fa := (ne_of_none I.fo nn8).symm
        have nna : nl ≠ a := I.pu.ne nn8
        have hn0 : H nl = none := SameX.free I.sx nna nn8
        have up : ∀ {p : Addr} {o : HO}, p ≠ Fa → H8 p = some o → upd H11 Fa (.lst [V.ref b0, .ref b1, .ref b2, .ref b3, .ref nl]) p = some o := fun {p o} n e => by
          rw [upd_ne n]
          exact s811 _ _ e
        have ne := I.ne
        refine ⟨_, rfl, q Fa [b0, b1, b2, b3, nl] p1 p2 p3 ("self" :: p4.filter fun (z : Str) => !decide (z = "self")) _ hFa0 ?_ ⟨?_, .cons (up (ne b0 (by simp)).1 e0) (.cons (up (ne b1 (by simp)).1 e1) (.cons (up (ne b2 (by simp)).1 e2) (.cons (up (ne b3 (by simp)).1 e3) (.cons ?_ .nil))))⟩ ?_ ?_ (by omega) ?_ ?_⟩
        · intro p hp
          simp only [List.mem_cons, List.not_mem_nil, or_false] at hp
          rcases hp with rfl | rfl | rfl | rfl | rfl
          · exact (ne _ (by simp)).2
          · exact (ne _ (by simp)).2
          · exact (ne _ (by simp)).2
          · exact (ne _ (by simp)).2
          · exact hn0
        · exact upd_same
        · show upd H11 Fa _ nl = _
          rw [upd_ne nnF]
          exact hnl11
        · have iw := I.wd
          have nen : sortS (names g) ≠ [] := fun e => gd.ne (List.eq_nil_of_length_eq_zero (by rw [← sortS_len, e]; rfl))
          have lng : (sortS (names g)).length ≤ 36 := by
            rw [sortS_len]
            have a1 := len_names (g := g) (wd := wd) gd.rows
            have a3 : g.length * wd ≤ 6 * 6 := Nat.mul_le_mul gd.h6 gd.w6
            omega
          intro us hu
          simp only [List.mem_cons, List.not_mem_nil, or_false] at hu
          rcases hu with rfl | rfl | rfl | rfl | rfl
          · exact ⟨nen, lng, fun z hz => gd.wd z (mem_sortS.mp hz)⟩
          · exact ⟨fun e => by rw [e] at l1; simp at l1; omega, by omega, iw us (by simp)⟩
          · exact ⟨fun e => by rw [e] at l2; simp at l2; omega, by omega, iw us (by simp)⟩
          · exact ⟨fun e => by rw [e] at l3; simp at l3; omega, by omega, iw us (by simp)⟩
          · refine ⟨by simp, by rw [List.length_cons]; omega, fun z hz => ?_⟩
            rcases List.mem_cons.mp hz with rfl | hz
            · decide +kernel
            · exact iw p4 (by simp) z (List.mem_filter.mp hz).1
        · rw [List.length_cons]
          omega
        · obtain ⟨y0, y1, y2, hy, hy1⟩ := I.pu.same s811
          exact ⟨y0, y1, y2, by rw [upd_ne nFa.symm]; exact hy, hy1⟩
        · intro c o n1 e
          rw [upd_ne (ne_of_none e hFa0)]
          exact s811 _ _ (I.sx c o n1 e)
end
end Wl





namespace Wl
open PySem PySem.Spec PyProof.Rows L2
/-- what the law keeps beside the Gathering -/
structure KeptAt (H : Hp) (kp : Addr) (bs : List Addr) (ts : List Tel) : Prop where
  at_ : H kp = some (.lst (bs.map V.ref))
  tels : TelsAt H bs ts
theorem GatAt.keep {C D : Addr} {H H' : Hp} {p : Addr} {r : GR} (h : GatAt C D H p r) (k : Keep H H') (ht : H' r.td = some (.lst (r.as.map V.ref))) (hd : H' r.dd = some (.lst r.ds)) : GatAt C D H' p r :=
  ⟨let ⟨dx, e⟩ := h.at_; ⟨dx, k _ _ ⟨fun _ e => (by cases e), fun _ e => (by cases e)⟩ e⟩, h.land.keep k, ht, h.tels.keep k.tk, hd, h.ne⟩
theorem GatAt.x {C D : Addr} {H H' : Hp} {p a : Addr} {r : GR} (h : GatAt C D H p r) (hA : PurseAt H a) (s : SameX a H H') (n1 : r.td ≠ a) (n2 : r.dd ≠ a) : GatAt C D H' p r := by
  obtain ⟨ys, ha⟩ := hA.lst
  exact h.keep (kp_x s ha) (s _ _ n1 h.told) (s _ _ n2 h.deeds)
theorem kp_2 {a b : Addr} {H H' : Hp} {xs ys : List V} (s : Same2 a b H H') (ha : H a = some (.lst xs)) (hb : H b = some (.lst ys)) : Keep H H' := fun p o n h => s p o (fun e => by
  subst e
  rw [ha] at h
  exact n.1 _ (Option.some.inj h).symm) (fun e => by
  subst e
  rw [hb] at h
  exact n.1 _ (Option.some.inj h).symm) h
def kD (t : Tel) : PyData := .tuple ((keyS t).map PyData.str)
theorem lay_keys : ∀ {ts : List Tel}, (∀ t ∈ ts, OkT t) → PyData.canLayAll0 (ts.map kD) = true
  | [], _ => by simp [PyData.canLayAll0]
  | t :: ts, h => by
    have h1 := lay_strs (h t List.mem_cons_self).key
    have h2 := lay_keys (ts := ts) fun u hu => h u (List.mem_cons_of_mem _ hu)
    simp [PyData.canLayAll0, kD, PyData.canLay0, h1, h2]
theorem depth_keys : ∀ ts : List Tel, PyData.depthAll (ts.map kD) ≤ 1
  | [] => by simp [PyData.depthAll]
  | t :: ts => by
    have h1 := depth_keys ts
    have h2 := depth_strs (keyS t)
    simp only [List.map_cons, PyData.depthAll, kD, PyData.depth]
    omega
theorem any_keys (t : Tel) : ∀ ts : List Tel, ((ts.map kD).any fun z => PyData.eqv z (.tuple ((keyS t).map PyData.str))) = decide (keyS t ∈ ts.map keyS)
  | [] => by simp
  | u :: ts => by
    rw [List.map_cons, List.any_cons, any_keys t ts, show PyData.eqv (kD u) (.tuple ((keyS t).map PyData.str)) = decide (keyS u = keyS t) from tup_eqv _ _, List.map_cons]
    by_cases c : keyS u = keyS t
    · rw [decide_eq_true c, decide_eq_true (show keyS t ∈ keyS u :: ts.map keyS by rw [c]; exact List.mem_cons_self), Bool.true_or]
    · rw [decide_eq_false c, Bool.false_or]
      by_cases d : keyS t ∈ ts.map keyS
      · rw [decide_eq_true d, decide_eq_true (List.mem_cons_of_mem _ d)]
      · rw [decide_eq_false d, decide_eq_false fun h => by
          rcases List.mem_cons.mp h with h | h
          · exact c h.symm
          · exact d h]
theorem keys_dp {K : PySem.W.Frag} {H H' : Hp} : ∀ {bs : List Addr} {ts : List Tel} {zs : List V}, TelsAt H bs ts → Each (fun (x z : V) => ∀ (pt : Addr) (t : Tel), x = .ref pt → H pt = some (.tup (telV t)) → ∃ k, z = .ref k ∧ H' k = some (.tup (keyV t))) (bs.map V.ref) zs → DpAll K H' zs (ts.map kD)
  | [], [], [], _, _ => .nil
  | [], [], _ :: _, _, h => nomatch h
  | [], _ :: _, _, h, _ => nomatch h
  | _ :: _, [], _, h, _ => nomatch h
  | _ :: _, _ :: _, [], _, h => nomatch h
  | b :: bs, t :: ts, z :: zs, .cons e r, .cons e' r' => by
    obtain ⟨k, rfl, hk⟩ := e' b t rfl e
    exact .cons (.tup (.inl (.inl hk)) (dp_strs (keyS t))) (keys_dp r r')
section
variable {P : Program} {w : World} {K : PySem.W.Frag} {mg : Str → Option Value} {base : Heap} {f C D : Addr} {fd : FuncData}
def HasI (P : Program) (w : World) (K : PySem.W.Frag) (mg : Str → Option Value) (base : Heap) (C : Addr) : Prop :=
  ∃ f fd, Mk K C f ∧ FnOk P w K mg base CX0 4 f fd ["self", "rows"] (spInit C) ∧ Binds K fd ["self", "rows"] []
def HasG (P : Program) (w : World) (K : PySem.W.Frag) (mg : Str → Option Value) (base : Heap) (C D : Addr) : Prop :=
  ∃ f fd, Mk K D f ∧ FnOk P w K mg base CX0 1 f fd ["self", "land"] (spGInit C D) ∧ Binds K fd ["self", "land"] []
end
end Wl





namespace Wl
open PySem PySem.Spec PyProof.Rows L2
abbrev sGTell : Stmt := inClass sGat 6
section
variable {P : Program} {w : World} {K : PySem.W.Frag} {mg : Str → Option Value} {base : Heap} {f C D : Addr} {fd : FuncData}
/-! ### tellings, as put in -/
abbrev FunT (K : PySem.W.Frag) (f : Addr) (fd : FuncData) : Prop := FunD K "tellings" "Gathering.tellings" (defArgs sGTell) (defBody sGTell) (defScope sGTell) [.non] [] f fd
def spTell (C D : Addr) : Sp := fun vs H Q _ => ∃ (p : Addr) (r : GR), vs = [.ref p, .non] ∧ GatAt C D H p r ∧ ∀ (l : Addr), H l = none → Q (.ref l) (upd H l (.lst (r.as.map V.ref)))
theorem scTell : FnScope ["self", "keying"] ["self", "keying"] (defScope sGTell) := ⟨rfl, rfl, rfl, by decide +kernel, rfl, by decide +kernel, by decide +kernel⟩
theorem tell_b1 (F : FunT K f fd) : ∃ ds, Vals [V.non] ds ∧ Binds K fd ["self", "keying"] ds :=
  F.binds1 (ps := ["self", "keying"]) 1 0 (by simp) rfl (fun T kV doc pm an cdv ct us its l1 l2 => by
      match us, its, l1, l2 with
      | [_], [_], _, _ => exact ⟨_, rfl, rfl⟩)
theorem ok_tell (F : FunT K f fd) (B : Bi mg) (TG : TxtG K mg D) : FnOk P w K mg base CX0 1 f fd ["self", "keying"] (spTell C D) := by
  refine okD F scTell (fun vs H Q E h => ?_) (fun cdv A outer s H vs Q E hr h => ?_)
  · obtain ⟨p, r, rfl, _⟩ := h
    rfl
  · obtain ⟨p, r, rfl, hG, q⟩ := h
    refine ⟨_, pss_cons (ps_if (pt_cmp (pc_isN (pv 1))) (pss_one (ps_ret (pe_callTy call_list_of (by rfl) B.list (by decide +kernel) (pa_cons (pe_fld (pv 0) rfl) pa_nil)))) pss_nil) (pss_one ps_never), ?_⟩
    obtain ⟨dx, hp⟩ := hG.at_
    exact ⟨_, rfl, _, rfl, iteT ⟨_, rfl, p, D, dx, _, _, rfl, hp, TG.cl, TG.nT, gf_told _ _ _, r.td, _, rfl, .inl (.inl (.inl hG.told)), q⟩⟩
/-! ### check_gathering -/
/-! ### summed_up -/
end
end Wl







namespace Wl
open PySem PySem.Spec PyProof.Rows L2
section
variable {P : Program} {w : World} {K : PySem.W.Frag} {mg : Str → Option Value} {base : Heap} {f C D : Addr} {fd : FuncData}
theorem strike_b5 (F : FunS K f fd) : Binds K fd psStrike [] := by
  obtain ⟨ds, h1, h2⟩ := F.binds1 (ps := psStrike) 5 1 (by simp) rfl (fun T kV doc pm an cdv ct us its l1 l2 => by
      match us, its, l1, l2 with
      | [_, _, _, _, _], [_], _, _ => exact ⟨_, rfl, rfl⟩)
  cases h1
  exact h2
def HasS (P : Program) (w : World) (K : PySem.W.Frag) (mg : Str → Option Value) (base : Heap) (C D : Addr) : Prop := ∃ f fd, FnOk P w K mg base CX0 3 f fd psStrike (spStrike C D) ∧ Meth K D "strike" f ∧ FunS K f fd
def HasTl (P : Program) (w : World) (K : PySem.W.Frag) (mg : Str → Option Value) (base : Heap) (C D : Addr) : Prop := ∃ f fd, FnOk P w K mg base CX0 1 f fd ["self", "keying"] (spTell C D) ∧ Meth K D "tellings" f ∧ FunT K f fd
/-! ### struck by place -/
/-! ### a Gathering of these -/
end
end Wl





namespace Wl
open PySem PySem.Spec PyProof.Rows L2
/-! tellings as data -/
def telD (t : Tel) : PyData := .tuple [.str t.v, .str t.th, .str t.wo, .str t.tl, .int (t.age : Int), .str t.g, .bool t.sure]
theorem dp_tel {K : PySem.W.Frag} {H : Hp} {p : Addr} {t : Tel} (h : H p = some (.tup (telV t))) : Dp K H (.ref p) (telD t) :=
  .tup (.inl (.inl h)) (.cons (.str _) (.cons (.str _) (.cons (.str _) (.cons (.str _) (.cons (.int _) (.cons (.str _) (.cons (.bl _) .nil)))))))
theorem dp_tels {K : PySem.W.Frag} {H : Hp} : ∀ {as : List Addr} {ts : List Tel}, TelsAt H as ts → DpAll K H (as.map V.ref) (ts.map telD)
  | _, _, .nil => .nil
  | _, _, .cons e r => .cons (dp_tel e) (dp_tels r)
theorem tel_eqv (t u : Tel) : PyData.eqv (telD t) (telD u) = decide (t = u) := by
  rw [Bool.eq_iff_iff, decide_eq_true_eq]
  simp only [telD, PyData.eqv, PyData.eqvAll, Bool.and_eq_true, Bool.and_true, beq_iff_eq]
  cases t
  cases u
  simp
  intros
  exact Int.ofNat_inj
theorem lay_tel {t : Tel} (h : OkT t) : PyData.canLay0 (telD t) = true := by
  simp [telD, PyData.canLayAll0, PyData.canLay0, wd_ok h.v, wd_ok h.th, wd_ok h.wo, wd_ok h.tl, wd_ok h.g]
theorem shaped_tel {t : Tel} (h : OkT t) : SeqAt.shaped (telD t) = true := shaped_tuple (by simpa [telD, PyData.canLay0] using lay_tel h) (by simp [PyData.depthAll, PyData.depth])
theorem lay_tels : ∀ {ts : List Tel}, (∀ t ∈ ts, OkT t) → PyData.canLayAll0 (ts.map telD) = true
  | [], _ => by simp [PyData.canLayAll0]
  | t :: r, h => by
    have h1 := lay_tel (h t List.mem_cons_self)
    have h2 := lay_tels (ts := r) fun u hu => h u (List.mem_cons_of_mem _ hu)
    simp [PyData.canLayAll0, h1, h2]
theorem depth_tels : ∀ ts : List Tel, PyData.depthAll (ts.map telD) ≤ 1
  | [] => by simp [PyData.depthAll]
  | t :: r => by
    have h1 := depth_tels r
    simp only [List.map_cons, PyData.depthAll, telD, PyData.depth]
    omega
theorem shaped_tels {ts : List Tel} (h : ∀ t ∈ ts, OkT t) : SeqAt.shaped (.list (ts.map telD)) = true := shaped_list (lay_tels h) (by have := depth_tels ts; omega)
theorem tels_nil (ts : List Tel) : PyData.eqv (.list (ts.map telD)) (.list []) = ts.isEmpty := by
  cases ts with
  | nil => simp [PyData.eqv, PyData.eqvAll]
  | cons a r => simp [PyData.eqv, PyData.eqvAll]
/-! one taken out -/
theorem put_back {α : Type} : ∀ {l : List α} {i : Nat} {x : α}, l[i]? = some x → (l.eraseIdx i).take i ++ [x] ++ (l.eraseIdx i).drop i = l
  | [], _, _, h => by simp at h
  | y :: l, 0, x, h => by
    simp at h
    subst h
    simp
  | y :: l, i + 1, x, h => by
    have := put_back (l := l) (i := i) (x := x) (by simpa using h)
    simp only [List.eraseIdx_cons_succ, List.take_succ_cons, List.drop_succ_cons, List.cons_append]
    rw [this]
end Wl




namespace Wl
open PySem PySem.Spec PyProof.Rows L2
abbrev sGThings : Stmt := inClass sGat 8
abbrev sGGathers : Stmt := inClass sGat 9
noncomputable def telBy (H : Hp) (g : Tel → Str) (x : V) : Str := open Classical in if h : ∃ t : Tel, ∃ p, x = .ref p ∧ H p = some (.tup (telV t)) then g h.choose else ""
theorem telBy_at {H : Hp} {g : Tel → Str} {p : Addr} {t : Tel} (h : H p = some (.tup (telV t))) : telBy H g (.ref p) = g t := by
  unfold telBy
  have hx : ∃ t : Tel, ∃ q, V.ref p = .ref q ∧ H q = some (.tup (telV t)) := ⟨t, p, rfl, h⟩
  rw [dif_pos hx]
  obtain ⟨q, e1, e2⟩ := hx.choose_spec
  obtain rfl : p = q := V.ref.inj e1
  rw [h] at e2
  rw [← telV_inj (HO.tup.inj (Option.some.inj e2))]
theorem tels_by {H : Hp} {g : Tel → Str} : ∀ {as : List Addr} {ts : List Tel}, TelsAt H as ts → (as.map V.ref).map (telBy H g) = ts.map g
  | _, _, .nil => rfl
  | _, _, .cons e r => by
    rw [List.map_cons, List.map_cons, List.map_cons, telBy_at e, tels_by r]
/-- the things, rising -/
def thingsOf (ts : List Tel) : List Str := sortS (keysOf (ts.map (·.th)))
theorem mem_things {ts : List Tel} {z : Str} : z ∈ thingsOf ts ↔ ∃ t ∈ ts, t.th = z := by
  unfold thingsOf
  rw [mem_sortS, mem_keysOf, List.mem_map]
theorem things_nodup (ts : List Tel) : (thingsOf ts).Nodup := sortS_nodup (keysOf_nodup _)
theorem things_len (ts : List Tel) : (thingsOf ts).length ≤ ts.length := by
  unfold thingsOf
  rw [sortS_len]
  exact Nat.le_trans (keysOf_len _) (by rw [List.length_map]; exact Nat.le_refl _)
theorem sortS_same {l m : List Str} (h1 : l.Nodup) (h2 : m.Nodup) (hm : ∀ z, z ∈ l ↔ z ∈ m) : sortS l = sortS m := sortS_eq h2 (sortS_rising h1) fun z => by rw [mem_sortS, hm]
/-- the gathers, rising -/
def gathersOf (ts : List Tel) : List Str := sortS (keysOf (ts.map (·.g)))
theorem mem_gathers {ts : List Tel} {z : Str} : z ∈ gathersOf ts ↔ ∃ t ∈ ts, t.g = z := by
  unfold gathersOf
  rw [mem_sortS, mem_keysOf, List.mem_map]
theorem gathers_nodup (ts : List Tel) : (gathersOf ts).Nodup := sortS_nodup (keysOf_nodup _)
theorem gathers_len (ts : List Tel) : (gathersOf ts).length ≤ ts.length := by
  unfold gathersOf
  rw [sortS_len]
  exact Nat.le_trans (keysOf_len _) (by rw [List.length_map]; exact Nat.le_refl _)
/-- keying -/
def gT1 {α : Type} : List α → List α → List α → List α
  | [s], [_], [k] => [s, k]
  | _, _, _ => []
theorem gT1_rel {vs ds zs : List V} {us its ws : List Value} (r1 : Vals vs us) (r2 : Vals ds its) (r3 : Vals zs ws) : Vals (gT1 vs ds zs) (gT1 us its ws) := by
  rcases r1 with _ | ⟨a1, _ | ⟨_, _⟩⟩
  all_goals first | exact .nil | skip
  rcases r2 with _ | ⟨b1, _ | ⟨_, _⟩⟩
  all_goals first | exact .nil | skip
  rcases r3 with _ | ⟨c1, _ | ⟨_, _⟩⟩
  all_goals first | exact .nil | exact .cons a1 (.cons c1 .nil)
section
variable {P : Program} {w : World} {K : PySem.W.Frag} {mg : Str → Option Value} {base : Heap} {f C D : Addr} {fd : FuncData}
/-! ### things -/
def spThings (C D : Addr) : Sp := fun vs H Q _ => ∃ (p : Addr) (r : GR), vs = [.ref p] ∧ GatAt C D H p r ∧ r.ts.length ≤ 200 ∧ ∀ (t : Addr) (H' : Hp), H t = none → Same H H' → H' t = some (.tup ((thingsOf r.ts).map V.str)) → Q (.ref t) H'
theorem scThings : FnScope ["self", "telling"] ["self"] (defScope sGThings) := ⟨rfl, rfl, rfl, by decide +kernel, rfl, by decide +kernel, by decide +kernel⟩
theorem ok_things (F : Fun K "things" "Gathering.things" sGThings f fd) (B : Bi mg) (TG : TxtG K mg D) : FnOk P w K mg base CX0 1 f fd ["self"] (spThings C D) := by
  refine F.ok scThings (fun vs H Q E h => ?_) (fun cdv A outer s H vs Q E hr h => ?_)
  · obtain ⟨p, r, rfl, _⟩ := h
    rfl
  · obtain ⟨p, r, rfl, hG, h200, q⟩ := h
    refine ⟨_, pss_one (ps_ret (pe_callTy call_tuple_of (by rfl) B.tuple (by decide +kernel) (pa_cons (pe_callB (cr_sortX rfl hr.units) (by rfl) B.sorted (by decide +kernel) (pa_cons (pe_scX (own := [("telling", 1)]) (g := gName 1) (tt := tYes) (te := tOp (rIxT K) (tVar 1) (tC (.int 1))) rfl scThings.nd (pi_list (pe_fld (pv 0) rfl)) (blkOk_by (N := ["self", "telling"]) (sc := defScope sGThings) (by decide +kernel))
      (fun _ _ _ _ _ => pg_name (i := 1) scThings.nd rfl (.inl rfl)) (fun _ _ _ _ _ => pts_nil) (fun _ _ _ _ _ => pe_ix ix_tup (pv 1) pe_int (fun _ _ => rfl))) pa_nil)) pa_nil))), ?_⟩
    obtain ⟨dx, hp⟩ := hG.at_
    have hla : r.as.length = r.ts.length := hG.tels.length
    refine ⟨_, rfl, p, D, dx, _, _, rfl, hp, TG.cl, TG.nT, gf_told _ _ _, r.td, rfl, ⟨_, .inl (.inl hG.told)⟩, fun Dd hD => ?_⟩
    refine sc_texts (walk_list (K := K) (a := r.td) (xs := r.as.map V.ref)) hD (fun _ => true) (telBy H (·.th)) (fun H' s' => .inl (.inl (s' _ _ hG.told))) (fun _ => rfl) (fun x H' _ _ Q' q' => q') ?_ ?_ ?_
    · intro x H' hx _ s' Q' q'
      obtain ⟨pt, hpt, rfl⟩ := List.mem_map.mp hx
      obtain ⟨j, hj, ej⟩ := List.mem_iff_getElem.mp hpt
      obtain ⟨t, ht, hH⟩ := Each.get hG.tels (i := j) (a := pt) (by rw [List.getElem?_eq_getElem hj, ej])
      rw [telBy_at hH] at q'
      exact ⟨_, rfl, pt, _, _, _, rfl, rfl, .inl (.inl (s' _ _ hH)), atI_nat (j := 1) rfl, q'⟩
    · rw [List.length_map]
      omega
    · intro l H2 s2 hD2 nd hm hl
      rw [List.length_map] at hl
      have e : sortS l = thingsOf r.ts := by
        refine sortS_same nd (keysOf_nodup _) fun z => ?_
        rw [hm, List.filter_eq_self.mpr fun _ _ => rfl, tels_by hG.tels, mem_keysOf]
      refine ⟨Dd, l, rfl, hD2, by omega, fun q1 hq1 => ⟨q1, _, rfl, .inl ⟨.inl (.inl upd_same), fun t ht => ?_⟩⟩⟩
      rw [e]
      have s3 := same_new (o := .lst ((sortS l).map V.str)) hq1
      rw [e] at s3 ht
      exact q t _ ((s2.trans s3).free ht) ((s2.trans s3).trans (same_new ht)) upd_same
/-! ### gatherers -/
def spGathers (C D : Addr) : Sp := fun vs H Q _ => ∃ (p : Addr) (r : GR), vs = [.ref p] ∧ GatAt C D H p r ∧ r.ts.length ≤ 200 ∧ ∀ (t : Addr) (H' : Hp), H t = none → Same H H' → H' t = some (.tup ((gathersOf r.ts).map V.str)) → Q (.ref t) H'
theorem scGathers : FnScope ["self", "telling"] ["self"] (defScope sGGathers) := ⟨rfl, rfl, rfl, by decide +kernel, rfl, by decide +kernel, by decide +kernel⟩
theorem ok_gatherers (F : Fun K "gatherers" "Gathering.gatherers" sGGathers f fd) (B : Bi mg) (TG : TxtG K mg D) : FnOk P w K mg base CX0 1 f fd ["self"] (spGathers C D) := by
  refine F.ok scGathers (fun vs H Q E h => ?_) (fun cdv A outer s H vs Q E hr h => ?_)
  · obtain ⟨p, r, rfl, _⟩ := h
    rfl
  · obtain ⟨p, r, rfl, hG, h200, q⟩ := h
    refine ⟨_, pss_one (ps_ret (pe_callTy call_tuple_of (by rfl) B.tuple (by decide +kernel) (pa_cons (pe_callB (cr_sortX rfl hr.units) (by rfl) B.sorted (by decide +kernel) (pa_cons (pe_scX (own := [("telling", 1)]) (g := gName 1) (tt := tYes) (te := tOp (rIxT K) (tVar 1) (tC (.int 5))) rfl scGathers.nd (pi_list (pe_fld (pv 0) rfl)) (blkOk_by (N := ["self", "telling"]) (sc := defScope sGGathers) (by decide +kernel))
      (fun _ _ _ _ _ => pg_name (i := 1) scGathers.nd rfl (.inl rfl)) (fun _ _ _ _ _ => pts_nil) (fun _ _ _ _ _ => pe_ix ix_tup (pv 1) pe_int (fun _ _ => rfl))) pa_nil)) pa_nil))), ?_⟩
    obtain ⟨dx, hp⟩ := hG.at_
    have hla : r.as.length = r.ts.length := hG.tels.length
    refine ⟨_, rfl, p, D, dx, _, _, rfl, hp, TG.cl, TG.nT, gf_told _ _ _, r.td, rfl, ⟨_, .inl (.inl hG.told)⟩, fun Dd hD => ?_⟩
    refine sc_texts (walk_list (K := K) (a := r.td) (xs := r.as.map V.ref)) hD (fun _ => true) (telBy H (·.g)) (fun H' s' => .inl (.inl (s' _ _ hG.told))) (fun _ => rfl) (fun x H' _ _ Q' q' => q') ?_ ?_ ?_
    · intro x H' hx _ s' Q' q'
      obtain ⟨pt, hpt, rfl⟩ := List.mem_map.mp hx
      obtain ⟨j, hj, ej⟩ := List.mem_iff_getElem.mp hpt
      obtain ⟨t, ht, hH⟩ := Each.get hG.tels (i := j) (a := pt) (by rw [List.getElem?_eq_getElem hj, ej])
      rw [telBy_at hH] at q'
      exact ⟨_, rfl, pt, _, _, _, rfl, rfl, .inl (.inl (s' _ _ hH)), atI_nat (j := 5) rfl, q'⟩
    · rw [List.length_map]
      omega
    · intro l H2 s2 hD2 nd hm hl
      rw [List.length_map] at hl
      have e : sortS l = gathersOf r.ts := by
        refine sortS_same nd (keysOf_nodup _) fun z => ?_
        rw [hm, List.filter_eq_self.mpr fun _ _ => rfl, tels_by hG.tels, mem_keysOf]
      refine ⟨Dd, l, rfl, hD2, by omega, fun q1 hq1 => ⟨q1, _, rfl, .inl ⟨.inl (.inl upd_same), fun t ht => ?_⟩⟩⟩
      rw [e]
      have s3 := same_new (o := .lst ((sortS l).map V.str)) hq1
      rw [e] at s3 ht
      exact q t _ ((s2.trans s3).free ht) ((s2.trans s3).trans (same_new ht)) upd_same
/-! ### tellings(keying=None) -/
theorem tell_b2 (F : FunT K f fd) : ∃ its : List Value, KBn K fd ["self", "keying"] 1 ["keying"] (fun us ws => gT1 us its ws) (fun vs zs => gT1 vs [.non] zs) :=
  F.kbindsD 1 _ gT1 (by simp) gT1_rel (fun T kV doc pm an cdv ct us its ws l1 l2 l3 => by
      match us, its, ws, l1, l2, l3 with
      | [_], [_], [_], _, _, _ => exact ⟨_, rfl, rfl⟩)
end
end Wl



/-! An exception that was caught, as a tracked object: isinstance of it, its fields. -/
namespace Wl
open PySem PySem.Spec PyProof.Rows L2
/-- at a: a caught exception, its class, its own dict; its context is None -/
def exH (a : Addr) (cls : Value) (d : Option Addr) : HO := .ext fun h => ∃ (vs : Array Value) (sl : Array (Option Value)), h.get? a = some ⟨cls, d, .fields vs, sl⟩ ∧ vs[2]? = some .none
section
variable {P : Program} {w : World} {H : Hp} {h : Heap} {a : Addr} {cls : Value} {d : Option Addr}
theorem exH_ok {oe : Obj} {vs : Array Value} (he : h.get? a = some oe) (hz : L2N.Zn cls d oe) (hd : oe.data = .fields vs) : ObjOk P w H h a (exH a cls d) := by
  obtain ⟨c0, d0, dt, sl⟩ := oe
  obtain ⟨e1, e2, e3⟩ := hz
  obtain rfl : c0 = cls := e1
  obtain rfl : d0 = d := e2
  obtain rfl : dt = .fields vs := hd
  refine ⟨⟨vs, sl, he, e3 vs rfl⟩, ⟨_, he⟩, fun h1 h2 z k => ?_⟩
  obtain ⟨vs', sl', q, c⟩ := z
  exact ⟨vs', sl', k _ q, c⟩
theorem exH_at (hok : HOk P w H h) (e : H a = some (exH a cls d)) : ∃ (vs : Array Value) (sl : Array (Option Value)), h.get? a = some ⟨cls, d, .fields vs, sl⟩ ∧ vs[2]? = some .none := by
  have x : ObjOk P w H h a (exH a cls d) := hok a _ e
  exact x.1
theorem exH_hot {A : Around} (hok : HOk P w H h) (e : H a = some (exH a cls d)) (hh : A.handled = some (.ref a)) : HotX.HotAt A a h := by
  obtain ⟨vs, sl, q, c⟩ := exH_at hok e
  exact ⟨hh, _, vs, q, rfl, c⟩
theorem exH_tup {xs : List V} : exH a cls d ≠ .tup xs := fun z => by
  have z' : HO.ext _ = HO.tup xs := z
  cases z'
theorem exH_ne {o : HO} (hn : ∀ φ, o ≠ .ext φ) : exH a cls d ≠ o := fun z => hn _ z.symm
end
/-- what isinstance asks of an exception's class, and of its own dict -/
structure ExK (K : PySem.W.Frag) (C : Addr) : Prop where
  cl : (PySem.W.clsIn K C).isSome = true
  ga : PySem.W.findIn K (.ref C) "__getattribute__" = some (some (.builtin "BaseException.__getattribute__"))
  gg : PySem.W.findIn K (.ref C) "__getattr__" = some none
  sub : PySem.W.subIn K (.ref C) (.type "BaseException") = some true
  ca : PySem.W.findIn K (.ref C) "__class__" = some (some (.builtin "object.__class__"))
  gn : PySem.W.specialIn K (.builtin "object.__class__") "__get__" = some (some (.builtin "getset_descriptor.__get__"))
  tk : PySem.W.takesIn K (.builtin "object.__class__") = some true
  mo : PySem.W.mroIn K C (.type "object") = some true
/-- its own dict, if it has one, is tracked -/
def DxOk (H : Hp) (d : Option Addr) : Prop := ∀ dd, d = some dd → ∃ fs, H dd = some (.xd fs)
section
variable {X : Cx}
theorem inst_of {pins : List (Addr × Obj)} {σ : L2.St} {H : Hp} {s : Shared} {a C : Addr} {d : Option Addr} (I : Inv X pins σ H s) (e : H a = some (exH a (.ref C) d)) (hd : DxOk H d) : ∃ ox od, PySem.W.InstAt s.heap a ox C od := by
  obtain ⟨vs, sl, q, _⟩ := exH_at I.hok e
  cases d with
  | none => exact ⟨_, none, q, rfl, rfl, trivial⟩
  | some dd =>
    obtain ⟨fs, hf⟩ := hd dd rfl
    have hx : ObjOk X.prog X.w H s.heap dd (.xd fs) := I.hok dd _ hf
    obtain ⟨mA, hns, _⟩ := hx
    obtain ⟨od, ho, _⟩ := lookIn_ns hns
    exact ⟨_, some od, q, rfl, rfl, ho⟩
theorem kit_exc {C a : Addr} {ox : Obj} {od : Option Obj} {K : PySem.W.Frag} (E : ExK K C) : PySem.W.KitX K (.ref a) (.ref C) (fun h => PySem.W.InstAt h a ox C od) :=
  PySem.W.kitx_exc E.cl E.ga E.gg E.sub E.ca E.gn E.tk E.mo
/-- isinstance(e, c) -/
def rIsX (K : PySem.W.Frag) : List V → Hp → VK → Prop := fun xs H Q => ∃ (a C : Addr) (d : Option Addr) (c : V) (cv : Value) (b : Bool), xs = [.ref a, c] ∧ H a = some (exH a (.ref C) d) ∧ DxOk H d ∧ ExK K C ∧ ClsV c cv ∧ PySem.W.kitOne K (.ref C) cv = some b ∧ Q (.bl b) H
theorem call_isX : CallR X (.builtin "isinstance") (rIsX X.K) := by
  intro pins s σ H xs us Q I r h
  obtain ⟨a, C, d, c, cv, b, rfl, ea, hd, E, hc, hk, q⟩ := h
  cases r with
  | cons rx rr =>
    cases rr with
    | cons rt rr =>
      cases rr
      cases rx
      obtain rfl := hc.eq rt
      obtain ⟨ox, od, J⟩ := inst_of I ea hd
      exact PySem.W.kia_one (kit_exc E) I.kIn J hk (fun z => nomatch z) fun tk => ⟨.bl b, H, I.kept (t' := tk) fun _ _ z => z, rfl, q⟩
/-- isinstance(e, (c, ..)) -/
def rIsXT (K : PySem.W.Frag) : List V → Hp → VK → Prop := fun xs H Q => ∃ (a C : Addr) (d : Option Addr) (tp : Addr) (cs : List V) (us : List Value) (b : Bool), xs = [.ref a, .ref tp] ∧ H a = some (exH a (.ref C) d) ∧ DxOk H d ∧ ExK K C ∧
  H tp = some (.tup cs) ∧ Paired ClsV cs us ∧ PySem.W.kitAny K (.ref C) us = some b ∧ Q (.bl b) H
theorem call_isXT : CallR X (.builtin "isinstance") (rIsXT X.K) := by
  intro pins s σ H xs us Q I r h
  obtain ⟨a, C, d, tp, cs, uc, b, rfl, ea, hd, E, ht, hp, hk, q⟩ := h
  cases r with
  | cons rx rr =>
    cases rr with
    | cons rt rr =>
      cases rr
      cases rx
      cases rt
      obtain ⟨ox, od, J⟩ := inst_of I ea hd
      obtain ⟨z, its, rv, ⟨o, ho, hc, n, hdat⟩⟩ := I.hok tp _ ht
      obtain rfl := ClsV.all hp rv
      obtain ⟨c0, d0, dt, sl⟩ := o
      obtain rfl : c0 = .type "tuple" := hc
      obtain rfl : dt = .seq its.toArray n := hdat
      exact PySem.W.kia_tup (kit_exc E) I.kIn J ho hk (fun z => nomatch z) fun tk => ⟨.bl b, H, I.kept (t' := tk) fun _ _ z => z, rfl, q⟩
/-- e.f -/
def tXf (K : PySem.W.Frag) (f : Str) (te : TE) : TE := fun σ H Q => te σ H fun x H1 => ∃ (a C dd : Addr) (fs : List (Str × V)) (v : V), x = .ref a ∧ H1 a = some (exH a (.ref C) (some dd)) ∧ H1 dd = some (.xd fs) ∧ XfC K C ∧
  PySem.W.findIn K (.ref C) f = some none ∧ fs.lookup f = some v ∧ Q v H1
theorem pe_xf {e : Expr} {te : TE} {pos : Pos} {n : Str} (he : PE X e te) (hb : attributeBase e n X.env (eval e X.env) = eval e X.env := by rfl) : PE X (.Attribute e n pos) (tXf X.K n te) := by
  refine ⟨fun pins s σ H Q I h => ?_⟩
  refine attr_of hb (thn (he.run pins s σ H _ I h) fun u s1 hh => ?_)
  obtain ⟨x, H1, I1, rx, a, C, dd, fs, v, rfl, ea, ed, T, hno, hl, q⟩ := hh
  obtain rfl : u = Value.ref a := rx
  obtain ⟨vs, sl, hobj, _⟩ := exH_at I1.hok ea
  have hx : ObjOk X.prog X.w H1 s1.heap dd (.xd fs) := I1.hok dd _ ed
  obtain ⟨mA, hns, hr⟩ := hx
  obtain ⟨od, ho, hlk⟩ := lookIn_ns hns
  obtain ⟨u, hu, ru⟩ := RelO.some_of (v := v) (o := mA n) (by rw [← hl]; exact hr n)
  have J : PySem.W.InstAt s1.heap a _ C (some od) := ⟨hobj, rfl, rfl, ho⟩
  exact HandSPX.exc_get I1.kIn J T.ga T.gg T.exC (PySem.W.findObj_own T.hdC hno rfl (by rw [hlk, hu])) (handed_of ru) ⟨v, H1, I1.tok _, ru, q⟩
end
/-! a new object of the state is tracked -/
theorem Inv_track {X : Cx} {pins : List (Addr × Obj)} {σ : L2.St} {H : Hp} {s : Shared} {a : Addr} {o : HO} (I : Inv X pins σ H s) (na : H a = none) (h0 : X.s_0.heap.get? a = none) (hL : a ≠ X.env.locals) (hc : ∀ x c, X.env.cells.lookup x = some c → c ≠ a)
    (hp : ∀ p ∈ X.pn ++ pins, p.1 ≠ a) (ok : ObjOk X.prog X.w (upd H a o) s.heap a o) : Inv X pins σ (upd H a o) s := by
  have ne : ∀ {b u}, H b = some u → b ≠ a := fun {b u} e z => by
    rw [z, na] at e
    cases e
  refine ⟨I.ok, I.os, I.bare, ⟨I.base.keep, I.base.slot, fun b u e n hx => ?_, I.base.there, fun b xs e => ?_, fun b u v e => ?_, fun b ps e => ?_⟩, I.loc, I.cell, ?_, fun x c e => ?_, fun p h => ?_, fun b u e => ?_, I.len⟩
  · rw [upd_ne fun z => by rw [z, h0] at e; cases e]
    exact I.base.free b u e n hx
  · have q := I.base.tups b xs e
    rw [upd_ne (ne q)]
    exact q
  · have q := I.base.frzs b u v e
    rw [upd_ne (ne q)]
    exact q
  · obtain ⟨more, q⟩ := I.base.tbls b ps e
    exact ⟨more, by rw [upd_ne (ne q)]; exact q⟩
  · rw [upd_ne (Ne.symm hL)]
    exact I.free
  · rw [upd_ne (hc x c e)]
    exact I.freeC x c e
  · obtain ⟨q1, q2, q3, q4, q5⟩ := I.pin p h
    exact ⟨q1, by rw [upd_ne (hp p h)]; exact q2, q3, q4, q5⟩
  · by_cases hb : b = a
    · subst hb
      rw [upd_same] at e
      cases e
      exact ok
    · rw [upd_ne hb] at e
      exact (I.hok b u e).stay (fun c v _ q => q) (fun c hc => by rw [upd_ne (ne hc)]; exact hc) (fun c xs hc => by rw [upd_ne (ne hc)]; exact hc)
end Wl

/-! try .. except (A, B, C) as e, several clauses; the exception that was caught is tracked. -/
namespace Wl
open PySem PySem.Spec PyProof.Rows L2
theorem flying_keeps {B h h' : Heap} {l : List Env} {a : Addr} {Z : Obj → Prop} (fl : HandSPX.FlyingZ B l a Z h) (k : ∀ b o, h.get? b = some o → h'.get? b = some o) : HandSPX.FlyingZ B l a Z h' := by
  obtain ⟨f1, f2, f3, oe, vs, T, oT, ts, he, hz, hd, h1, hnT, hTe, hT, hdT, h3⟩ := fl
  exact ⟨fun b o e => k b o (f1 b o e), f2, f3.of_keeps fun b o e _ => ⟨o, k b o e, rfl⟩, oe, vs, T, oT, ts, k _ _ he, hz, hd, h1, hnT, hTe, k _ _ hT, hdT, h3⟩
theorem up_keeps {h h' : Heap} (k : ∀ b o, h.get? b = some o → h'.get? b = some o) : h.UpToSlots h' := Heap.UpToSlots.of_keeps k
/-- a clause's test: m tells of a class whether it is asked for -/
structure TestOk (X : Cx) (t : Expr) (m : Value → Option Bool) : Prop where
  run : ∀ (a : Addr) (pn pins : List (Addr × Obj)) (σ : L2.St) (H : Hp) (s : Shared) (cls : Value) (b : Bool) (Q : Bool → Shared → Prop) (E : Value → Shared → Prop), Inv (X.suite a pn) pins σ H s → m cls = some b →
    PySem.W.Looks (model X.prog X.w) s.heap (typeOf (.ref a)) cls → (∀ h' t', (∀ c o, s.heap.get? c = some o → h'.get? c = some o) → Q b { s with heap := h', toks := t' }) →
    wpAny (model X.prog X.w) (X.A.mark (some (.ref a))) (eval t X.env) (fun c s1 => wpAny (model X.prog X.w) (X.A.mark (some (.ref a))) (excMatches (.ref a) c) Q E s1) E s
theorem test_one {X : Cx} {x : Str} {c : Value} {np : Pos} (hc : Names X x c) : TestOk X (.Name x np) (fun cls => PySem.W.exmOne X.K cls c) := by
  refine ⟨fun a pn pins σ H s cls b Q E I hm LT q => ?_⟩
  have LM := PySem.W.exm_one (M := model X.prog X.w) I.kIn LT hm
  have go : wpAny (model X.prog X.w) (X.A.mark (some (.ref a))) (excMatches (.ref a) c) Q E s := LM.here (q s.heap s.toks fun _ _ z => z)
  obtain ⟨hg, hdbg, hg1 | ⟨hg1, hv, hnn⟩⟩ := hc
  · exact ld_glob (X := X.suite a pn) I hg hg1 go hdbg
  · exact ld_blt (X := X.suite a pn) I hg hg1 hv go hnn hdbg
theorem test_tup3 {X : Cx} {x1 x2 x3 : Str} {c1 c2 c3 : Value} {p1 p2 p3 tp : Pos} {k : Nat} (g1 : Gl X x1) (m1 : X.mg x1 = some c1) (g2 : Gl X x2) (m2 : X.mg x2 = some c2) (g3 : Gl X x3) (m3 : X.mg x3 = some c3)
    (d1 : (x1 == ("__debug__" : Str)) = false := by decide) (d2 : (x2 == ("__debug__" : Str)) = false := by decide) (d3 : (x3 == ("__debug__" : Str)) = false := by decide) :
    TestOk X (.Tuple [.Name x1 p1, .Name x2 p2, .Name x3 p3] k tp) (fun cls => PySem.W.exmAny X.K cls [c1, c2, c3]) := by
  refine ⟨fun a pn pins σ H s cls b Q E I hm LT q => ?_⟩
  refine wpAny_Tuple_spliced ?_
  show wpAny _ _ (spliced [(false, eval (.Name x1 p1) X.env), (false, eval (.Name x2 p2) X.env), (false, eval (.Name x3 p3) X.env)]) _ _ s
  refine Calls.spliced_cons (ld_glob (X := X.suite a pn) I g1 m1 ?_ d1)
  refine Calls.spliced_cons (ld_glob (X := X.suite a pn) I g2 m2 ?_ d2)
  refine Calls.spliced_cons (ld_glob (X := X.suite a pn) I g3 m3 ?_ d3)
  refine Calls.spliced_nil ⟨by show 3 ≤ sizeLine; decide, ?_⟩
  have kp : ∀ c o, s.heap.get? c = some o → (s.heap.push { cls := .type "tuple", data := .seq [c1, c2, c3].toArray }).get? c = some o := fun c o e => Heap.get?_push_of_some _ e
  have LM := PySem.W.exm_tup3 (M := model X.prog X.w) (I.kIn.keeps kp) (LT.keeps kp) (Heap.get?_push_size s.heap (o := { cls := .type "tuple", data := .seq [c1, c2, c3].toArray }) rfl) hm
  exact LM.here (q _ s.toks kp)
/-- what a suite does, the caught exception's address first -/
abbrev ClT := Addr → TS
/-- the clauses, one after the other; Wout: none of them asks for it -/
def wCls (Wout : WX) (D : Ends) : List ((Value → Option Bool) × ClT) → WX
  | [] => Wout
  | (m, ts) :: r => fun cls d σ H => ∃ b, m cls = some b ∧ (b = true → ∀ a, H a = none → ts a D σ (upd H a (exH a cls d))) ∧ (b = false → wCls Wout D r cls d σ H)
/-- .. as n, n in slot i: the name goes behind the suite -/
def tAs (i : Nat) (ts : ClT) : ClT := fun a D σ H => ts a { nx := fun σ' H' => D.nx (σ'.set i none) H', rt := D.rt, bk := fun σ' H' => D.bk (σ'.set i none) H', ct := fun σ' H' => D.ct (σ'.set i none) H' } (σ.set i (some (.ref a))) H
inductive HdsE (X : Cx) : List ExceptHandler → List ((Value → Option Bool) × ClT) → Prop
  | nil : HdsE X [] []
  | one {t : Expr} {m : Value → Option Bool} {ts : ClT} {b₀ : Stmt} {suite : List Stmt} {pos' : Pos} {hds : List ExceptHandler} {l : List ((Value → Option Bool) × ClT)} (ht : TestOk X t m)
      (hsu : ∀ (a : Addr) (pn : List (Addr × Obj)), PSs (X.suite a pn) (b₀ :: suite) (ts a)) (r : HdsE X hds l) : HdsE X (.ExceptHandler (some t) none (b₀ :: suite) pos' :: hds) ((m, ts) :: l)
  | as {t : Expr} {m : Value → Option Bool} {ts : ClT} {i : Nat} {n : Str} {b₀ : Stmt} {suite : List Stmt} {pos' : Pos} {hds : List ExceptHandler} {l : List ((Value → Option Bool) × ClT)} (hi : X.N[i]? = some n) (hln : X.env.kindOf n = some .local) (ht : TestOk X t m)
      (hsu : ∀ (a : Addr) (pn : List (Addr × Obj)), PSs (X.suite a pn) (b₀ :: suite) (ts a)) (r : HdsE X hds l) : HdsE X (.ExceptHandler (some t) (some n) (b₀ :: suite) pos' :: hds) ((m, tAs i ts) :: l)
section
variable {X : Cx} {pins : List (Addr × Obj)} {σ : L2.St} {H : Hp} {s : Shared}
theorem inv_suite {a : Addr} (I : Inv X pins σ H s) : Inv (X.suite a (X.pn ++ pins)) [] σ H s :=
  ⟨I.ok.suite _ _, I.os, I.bare, I.base, I.loc, I.cell, I.free, I.freeC, fun p hp => I.pin p (by rw [List.append_nil] at hp; exact hp), I.hok, I.len⟩
theorem inv_unsuite {a : Addr} {q : List (Addr × Obj)} (I : Inv (X.suite a (X.pn ++ pins)) q σ H s) (ok : X.Ok) : Inv X pins σ H s :=
  ⟨ok, I.os, I.bare, I.base, I.loc, I.cell, I.free, I.freeC, fun p hp => I.pin p (List.mem_append_left _ hp), I.hok, I.len⟩
end
section
variable {X : Cx} {body : List Stmt} {h₀ : ExceptHandler} {hds : List ExceptHandler} {l : List ((Value → Option Bool) × ClT)} {pos : Pos} {tb : WX → TS} {Wout : WX}
theorem ps_tryE (hs : X.stack = X.env :: X.outer) (hf : X.env.frame = some X.env.locals) (hex : X.ex = []) (hN : X.N.Nodup) (tk : L2N.Takes X Wout)
    (hb : ∀ (W : WX) (pn : List (Addr × Obj)) (xe : Value → Shared → Prop), L2N.Takes (X.tr pn xe) W → PassesOwn (model X.prog X.w) X.A X.env xe → PSs (X.tr pn xe) body (tb W))
    (hh : HdsE X (h₀ :: hds) l) : PS X (.Try body (h₀ :: hds) [] [] pos) (fun D σ H => tb (wCls Wout D l) D σ H) := by
  constructor
  intro pins s σ H D I h
  have ok := I.ok
  have hfr : X.A.frames = some (X.env :: X.outer) := by rw [ok.frames, hs]
  refine wpAny_Try_except ?_
  refine wpAny_mono ((hb (wCls Wout D l) (X.pn ++ pins) (fun e sa => wpAny (model X.prog X.w) X.A (noteFrame e X.env) (fun _ sb => wpAny (model X.prog X.w) X.A (setFlight e none) (fun _ sc =>
    wpAny (model X.prog X.w) X.A (handleBy e X.env (h₀ :: hds)) (SP X pins D) X.xe sc) X.xe sb) X.xe sa) (fun u s' xx => ?_) PassesOwn.looking).run [] s σ H D (I.toTry _) h) (fun f s1 hsp => ?_) (fun e s1 he => he)
  · obtain ⟨a, B, sI, pq, σ1, H1, cls, d, rfl, J', nb, up, sky, na, os, ag, wq⟩ := xx
    have J : Inv X pins σ1 H1 sI := J'.ofTry ok
    have sky' : Sky B (X.env :: X.outer) a (L2N.Zn cls d) X.env.locals s'.heap := by rw [← hs]; exact sky
    show wpAny (model X.prog X.w) X.A (noteFrame (.ref a) X.env) _ _ _
    refine L2N.Sky.land L2N.Zn.steady hfr hf sky' fun h3 fl3 up3 => ?_
    -- what holds of any state behind the landing
    have nfr : ∀ {hx : Heap}, HandSPX.FlyingZ B (X.env :: X.outer) a (L2N.Zn cls d) hx → a ∉ frs (X.env :: X.outer) := fun {hx} fl hm => by
      obtain ⟨oe, vs, he, _, hd⟩ := fl.there
      obtain ⟨_, o', e', hnf⟩ := fl.2.2.1.mem hm
      rw [he] at e'
      cases e'
      exact hnf _ hd
    have naI : sI.heap.get? a = none := by
      cases q : sI.heap.get? a with
      | none => rfl
      | some o =>
        have z := nb a o q (by rw [hs]; exact nfr fl3)
        rw [fl3.2.1] at z
        cases z
    have na0 : X.s_0.heap.get? a = none := by
      cases q : X.s_0.heap.get? a with
      | none => rfl
      | some o =>
        obtain ⟨o', z⟩ := J.base.there a o q (by rw [hex]; simp)
        rw [naI] at z
        cases z
    have nL : a ≠ X.env.locals := fun z => nfr fl3 (List.mem_filterMap.mpr ⟨X.env, List.mem_cons_self, by rw [hf, z]⟩)
    -- the clauses, one by one, over a heap that holds the landed one
    have go : ∀ {hds' : List ExceptHandler} {l' : List ((Value → Option Bool) × ClT)}, HdsE X hds' l' → wCls Wout D l' cls d σ1 H1 → ∀ (h5 : Heap) (t5 : Nat), (∀ b o, h3.get? b = some o → h5.get? b = some o) →
        wpAny (model X.prog X.w) X.A (handleBy (.ref a) X.env hds') (SP X pins D) X.xe { s' with heap := h5, toks := t5 } := by
      intro hds' l' hk
      induction hk with
      | nil =>
        intro wq h5 t5 k5
        have fl5 := flying_keeps fl3 k5
        refine wpAny_handleBy_nil ?_
        obtain ⟨k1, k2, k3, oe, vs, T, oT, ts', he, hz, hd, h1, hr⟩ := id fl5
        unfold PySem.passOn
        refine wpAny_bind (wpAny_field he hd h1 ?_)
        rw [if_neg (show ¬ ((Value.ref T == Value.none) = true) from by simp)]
        have fin : wpAny (model X.prog X.w) X.A (setFlight (.ref a) X.env.frame) (fun _ s4 => wpAny (model X.prog X.w) X.A (throw (.ref a) : Sem Flow) (SP X pins D) X.xe s4) X.xe { s' with heap := h5, toks := t5 } := by
          rw [hf]
          refine HandSPX.setFlight_upZ fl5 fun h4 hh4 up4 => wpAny_throw (tk _ _ ?_)
          exact ⟨a, B, sI, pins, σ1, H1, cls, d, rfl, J, nb, ((up.trans up3).trans (up_keeps k5)).trans up4, .inr (.inr (by rw [hs]; exact hh4)), na, os, ag, wq⟩
        first
          | exact wpAny_bind (wpAny_pure (wpAny_bind fin))
          | exact wpAny_bind fin
      | @one t m ts b₀ suite pos' hds2 l2 ht hsu r ih =>
        intro wq h5 t5 k5
        obtain ⟨b, hb1, hyes, hno⟩ := wq
        have fl5 := flying_keeps fl3 k5
        have J5 : Inv X pins σ1 H1 { s' with heap := h5, toks := t5 } := (J.landed (s' := { s' with heap := h5, toks := t5 }) nb fl5.1 ((up.trans up3).trans (up_keeps k5)) os ag)
        obtain ⟨oe5, vs5, he5, hz5, hd5⟩ := fl5.there
        have LT : PySem.W.Looks (model X.prog X.w) h5 (typeOf (.ref a)) cls := fun A Q E s k q => wpAny_typeOf_ref (k _ _ he5) (by rw [hz5.1]; exact q)
        refine wpAny_handleBy_cons (codeAny_handlers_test (ht.run a (X.pn ++ pins) [] σ1 H1 { s' with heap := h5, toks := t5 } cls b _ _ (inv_suite J5) hb1 LT fun h6 t6 k6 => ?_)) (by intro q; cases q)
        cases b with
        | false =>
          show wpAny _ X.A (handleBy (.ref a) X.env hds2) _ _ _
          exact ih (hno rfl) h6 t6 fun c o e => k6 c o (k5 c o e)
        | true =>
          have fl6 := flying_keeps fl5 k6
          refine codeAny_handlers_suite ?_
          refine HandSPX.lands_againZ fl6 fun h7 fl7 up7 => ?_
          have J7 : Inv X pins σ1 H1 { s' with heap := h7, toks := t6 } := J.landed (s' := { s' with heap := h7, toks := t6 }) nb fl7.1 ((((up.trans up3).trans (up_keeps k5)).trans (up_keeps k6)).trans up7) os ag
          obtain ⟨oe7, vs7, he7, hz7, hd7⟩ := fl7.there
          have T7 : Inv X pins σ1 (upd H1 a (exH a cls d)) { s' with heap := h7, toks := t6 } := Inv_track J7 na na0 nL (fun x c e z => by
              obtain ⟨v, o, ho, hdat⟩ := J7.cell x c e
              have ho : h7.get? c = some o := ho
              rw [z, he7] at ho
              cases ho
              rw [hd7] at hdat
              cases hdat) (fun p hp z => by
              have q := (J.pin p hp).1
              rw [z, naI] at q
              cases q) (exH_ok he7 hz7 hd7)
          refine wpAny_mono ((hsu a (X.pn ++ pins)).run [] _ _ _ D (inv_suite T7) (hyes rfl a na)) (fun f s8 hsp => ?_) (fun _ _ z => False.elim z)
          cases f with
          | next =>
            obtain ⟨σ8, H8, S8, q8⟩ := hsp
            exact ⟨_, _, inv_unsuite S8 ok, q8⟩
          | brk =>
            obtain ⟨σ8, H8, S8, q8⟩ := hsp
            exact ⟨_, _, inv_unsuite S8 ok, q8⟩
          | cont =>
            obtain ⟨σ8, H8, S8, q8⟩ := hsp
            exact ⟨_, _, inv_unsuite S8 ok, q8⟩
          | ret u =>
            obtain ⟨v8, σ8, H8, S8, r8, q8⟩ := hsp
            exact ⟨_, _, _, inv_unsuite S8 ok, r8, q8⟩
      | @as t m ts i n b₀ suite pos' hds2 l2 hi hln ht hsu r ih =>
        intro wq h5 t5 k5
        obtain ⟨b, hb1, hyes, hno⟩ := wq
        have fl5 := flying_keeps fl3 k5
        have J5 : Inv X pins σ1 H1 { s' with heap := h5, toks := t5 } := (J.landed (s' := { s' with heap := h5, toks := t5 }) nb fl5.1 ((up.trans up3).trans (up_keeps k5)) os ag)
        obtain ⟨oe5, vs5, he5, hz5, hd5⟩ := fl5.there
        have LT : PySem.W.Looks (model X.prog X.w) h5 (typeOf (.ref a)) cls := fun A Q E s k q => wpAny_typeOf_ref (k _ _ he5) (by rw [hz5.1]; exact q)
        refine wpAny_handleBy_cons (codeAny_handlers_test (ht.run a (X.pn ++ pins) [] σ1 H1 { s' with heap := h5, toks := t5 } cls b _ _ (inv_suite J5) hb1 LT fun h6 t6 k6 => ?_)) (by intro q; cases q)
        cases b with
        | false =>
          show wpAny _ X.A (handleBy (.ref a) X.env hds2) _ _ _
          exact ih (hno rfl) h6 t6 fun c o e => k6 c o (k5 c o e)
        | true =>
          have fl6 := flying_keeps fl5 k6
          refine codeAny_handlers_suite_as ?_
          refine HandSPX.lands_againZ fl6 fun h7 fl7 up7 => ?_
          have J7 : Inv X pins σ1 H1 { s' with heap := h7, toks := t6 } := J.landed (s' := { s' with heap := h7, toks := t6 }) nb fl7.1 ((((up.trans up3).trans (up_keeps k5)).trans (up_keeps k6)).trans up7) os ag
          obtain ⟨oe7, vs7, he7, hz7, hd7⟩ := fl7.there
          have T7 : Inv X pins σ1 (upd H1 a (exH a cls d)) { s' with heap := h7, toks := t6 } := Inv_track J7 na na0 nL (fun x c e z => by
              obtain ⟨v, o, ho, hdat⟩ := J7.cell x c e
              have ho : h7.get? c = some o := ho
              rw [z, he7] at ho
              cases ho
              rw [hd7] at hdat
              cases hdat) (fun p hp z => by
              have q := (J.pin p hp).1
              rw [z, naI] at q
              cases q) (exH_ok he7 hz7 hd7)
          refine store_ok (X := X.suite a (X.pn ++ pins)) (v := .ref a) (inv_suite T7) hN hi (.inl hln) rfl (fun s5 S5 => ?_) (.inr hln)
          refine wpAny_mono ((hsu a (X.pn ++ pins)).run [] s5 _ _ _ S5 (hyes rfl a na)) (fun f s8 hsp => ?_) (fun _ _ z => False.elim z)
          have end_ : ∀ {σ6 : L2.St} {H6 : Hp} {Q : Shared → Prop}, Inv (X.suite a (X.pn ++ pins)) [] σ6 H6 s8 → (∀ s7, Inv X pins (σ6.set i none) H6 s7 → Q s7) →
              wpAny (model X.prog X.w) X.A (do bindName X.env n .none; unbindBehindTheSuite X.env n pos') (fun _ s7 => Q s7) X.xe s8 := fun {σ6 H6 Q} S6 hq => gone_ok (inv_unsuite S6 ok) hN hi hln hq
          cases f with
          | next =>
            obtain ⟨σ8, H8, S8, q8⟩ := hsp
            exact end_ S8 fun s9 J9 => ⟨_, _, J9, q8⟩
          | brk =>
            obtain ⟨σ8, H8, S8, q8⟩ := hsp
            exact end_ S8 fun s9 J9 => ⟨_, _, J9, q8⟩
          | cont =>
            obtain ⟨σ8, H8, S8, q8⟩ := hsp
            exact end_ S8 fun s9 J9 => ⟨_, _, J9, q8⟩
          | ret u =>
            obtain ⟨v8, σ8, H8, S8, r8, q8⟩ := hsp
            exact end_ S8 fun s9 J9 => ⟨_, _, _, J9, r8, q8⟩
    exact go hh wq h3 s'.toks fun _ _ z => z
  · cases f with
    | next =>
      obtain ⟨σ', H', J', q⟩ := hsp
      exact wpAny_execs_nil ⟨σ', H', J'.ofTry ok, q⟩
    | brk =>
      obtain ⟨σ', H', J', q⟩ := hsp
      exact ⟨σ', H', J'.ofTry ok, q⟩
    | cont =>
      obtain ⟨σ', H', J', q⟩ := hsp
      exact ⟨σ', H', J'.ofTry ok, q⟩
    | ret u =>
      obtain ⟨v, σ', H', J', r, q⟩ := hsp
      exact ⟨v, σ', H', J'.ofTry ok, r, q⟩
theorem takes_noN {X : Cx} : L2N.Takes X (fun _ _ _ _ => False) := fun _ _ ⟨_, _, _, _, _, _, _, _, _, _, _, _, _, _, _, _, z⟩ => z.elim
end
end Wl

/-! Own exceptions over ValueError, LookupError or ArithmeticError, whose __init__ stores its one argument under its own name; raised. -/
namespace Wl
open PySem PySem.Spec PyProof.Rows L2
/-- a built-in base of an own exception -/
structure BaseX (B newId initId : String) (bm : List Value) : Prop where
  base : ExcBaseFacts B newId initId bm
  store : StoreFacts B bm "object.__setattr__" "object"
theorem baseVE : BaseX "ValueError" "ValueError.__new__" "ValueError.__init__" [.type "ValueError", .type "Exception", .type "BaseException", .type "object"] := ⟨F.excBase_ValueError, F.store_ValueError⟩
theorem baseLE : BaseX "LookupError" "LookupError.__new__" "LookupError.__init__" [.type "LookupError", .type "Exception", .type "BaseException", .type "object"] := ⟨F.excBase_LookupError, F.store_LookupError⟩
theorem baseAE : BaseX "ArithmeticError" "ArithmeticError.__new__" "ArithmeticError.__init__" [.type "ArithmeticError", .type "Exception", .type "BaseException", .type "object"] := ⟨F.excBase_ArithmeticError, F.store_ArithmeticError⟩
/-- the first store into an exception -/
theorem osa_first {prog : Program} {w : World} {A : Around} {R : Result → Shared → Prop} {hp : Heap} {g : Array GenState} {d : Drawn} {t : Nat} {os : OsState} {K : PySem.W.Frag} {name : Str} {tk : Tok} {v : Value} {x C : Addr} {fv : Array Value} {B newId initId : String} {bm : List Value}
    (BX : BaseX B newId initId bm) (X : K.In hp) (hx : hp.get? x = some { cls := .ref C, data := .fields fv }) (ho : PySem.W.excOver K C bm = true) (hh : PySem.W.hasDictIn K C = true) (ht : PySem.W.takerIn K C name = some none)
    (hq : ∀ h' tk' dx, (∀ b o, b ≠ x → hp.get? b = some o → h'.get? b = some o) → hp.objs.size ≤ dx → dx ≠ x → h'.get? x = some { cls := .ref C, dict := some dx, data := .fields fv } →
      h'.Ns1 dx (fun y => if y = name then some v else none) → R (.ok (.ret .none)) ⟨h', g, d, tk', os⟩) :
    codeAny (model prog w) A (.call (.builtin "object.__setattr__") ⟨[.ref x, .str name tk, v], []⟩) R ⟨hp, g, d, t, os⟩ := by
  have hxs : x ≠ hp.objs.size := Nat.ne_of_lt (Heap.lt_size hx)
  obtain ⟨cd, hc, hd⟩ := PySem.W.any_some hh
  have hcls : PySem.W.Looks (model prog w) hp (classData C) cd := PySem.W.looks_clsIn X hc
  refine PySem.W.osa_openX (s := ⟨hp, g, d, t, os⟩) (od := none) BX.store X ⟨hx, rfl, rfl, trivial⟩ ho ht fun b => ?_
  show wpAny _ _ (Builtin.ObjectAttr.storeInOwnDict (.ref x) (.ref C) (.str name tk) name v b) _ _ _
  obtain ⟨nm, bs, mro, ns, qn, hdd, sn, sb, ab, col, del⟩ := cd
  dsimp only at hd
  subst hd
  unfold Builtin.ObjectAttr.storeInOwnDict Builtin.ObjectAttr.ownDictForStores
  repeat (first | with_reducible refine PySem.HandSPX.store_in_new ?_ ?_ | with_reducible refine wpAny_loadPart_at hx ?_ | with_reducible refine hcls.at ?_ | wp_step)
  · exact ⟨_, #[], _, (Heap.get?_update_ne _ _ _ _ hxs.symm).trans (Heap.get?_push_at rfl rfl), rfl, fun e he => absurd he (by simp), fun _ => rfl⟩
  · intro h' tk' hn' hs
    have h1 : (hp.push { cls := .type "dict", data := .dict #[] }).get? x = some { cls := .ref C, data := .fields fv } := Heap.get?_push_of_some _ hx
    refine hq h' tk' hp.objs.size (fun b o hb ho => ?_) (Nat.le_refl _) hxs.symm ?_ hn'
    · exact (hs.2 b (Nat.ne_of_lt (Heap.lt_size ho))).trans ((Heap.get?_update_ne _ _ _ _ hb).trans (Heap.get?_push_of_some _ ho))
    · exact (hs.2 x hxs).trans (Heap.get?_update_self _ h1 rfl)
/-- what the written part says of the own exception class x, at C, whose __init__ (self, f) stores f -/
structure OwnX (K : PySem.W.Frag) (mg : Str → Option Value) (x f : Str) (C : Addr) : Prop where
  gC : mg x = some (.ref C)
  kC : PySem.W.keepIn K (.ref C) = true
  bas : ∃ B newId initId bm, BaseX B newId initId bm ∧ PySem.W.excInitIn K C bm newId = true ∧ PySem.W.excOver K C bm = true
  sa : PySem.W.findIn K (.ref C) "__setattr__" = some (some (.builtin "object.__setattr__"))
  tk : PySem.W.takerIn K C f = some none
  no : PySem.W.findIn K (.ref C) f = some none
  exC : PySem.W.subIn K (.ref C) (.type "BaseException") = some true
  tyC : PySem.W.typeIn K (.ref C) = some (.type "type")
  hdC : PySem.W.hasDictIn K C = true
  ini : ∃ (fI : Addr) (fd : FuncData) (q : Str) (st : Stmt) (q1 q2 q3 q4 : Pos), PySem.W.findIn K (.ref C) "__init__" = some (some (.ref fI)) ∧ PySem.W.typeIn K (.ref fI) = some (.type "function") ∧ Fun K "__init__" q st fI fd ∧
    Binds K fd ["self", f] [] ∧ FnScope ["self", f] ["self", f] (defScope st) ∧ (∀ y ∈ (["self", f] : List Str), (defScope st).names.lookup y = some .local) ∧ defBody st = [.Assign [.Attribute (.Name "self" q1) f q2] (.Name f q3) q4]
/-- what __init__ leaves of a fresh exception at x -/
structure InitDone (h h' : Heap) (x C dx t1 : Addr) (f : Str) (v : Value) : Prop where
  keep : ∀ b o, b ≠ x → h.get? b = some o → h'.get? b = some o
  obj : h'.get? x = some { cls := .ref C, dict := some dx, data := .fields #[.ref t1, .none, .none, .none, .bool false, .none] }
  dbig : h.objs.size ≤ dx
  dne : dx ≠ x
  ns : h'.Ns1 dx (fun y => if y = f then some v else none)
/-- a made one -/
structure MadeX (h h' : Heap) (e C d : Addr) (f : Str) (v : Value) : Prop where
  keep : ∀ b o, h.get? b = some o → h'.get? b = some o
  new : h.objs.size ≤ e
  obj : ∃ vs, h'.get? e = some { cls := .ref C, dict := some d, data := .fields vs } ∧ vs[1]? = some .none ∧ vs[2]? = some .none
  dbig : h.objs.size ≤ d
  dne : d ≠ e
  ns : h'.Ns1 d (fun y => if y = f then some v else none)
theorem one_line (v : Value) : [v].length ≤ sizeLine := by
  show 1 ≤ sizeLine
  decide
section
variable {prog : Program} {w : World} {A : Around} {R : Result → Shared → Prop} {s : Shared} {K : PySem.W.Frag} {mg : Str → Option Value} {x f : Str} {C : Addr}
theorem own_init (T : OwnX K mg x f C) (nf : f ≠ "self") (ndb : (f == ("__debug__" : Str)) = false) {e t0 fI : Addr} {v : Value} (hfI : PySem.W.findIn K (.ref C) "__init__" = some (some (.ref fI))) (X : K.In s.heap) (hlim : s.heap.NoLimit) (hx : s.heap.get? e = some (HandSPX.excO C t0)) (hnx : K.lookup e = none) (hroom : A.depth < recursionLimit)
    (hq : ∀ h' tk dx, InitDone s.heap h' e C dx t0 f v → R (.ok (.ret .none)) { s with heap := h', toks := tk }) : codeAny (model prog w) A (.call (.ref fI) ⟨[.ref e, v], []⟩) R s := by
  obtain ⟨f2, fd, q, st, q1, q2, q3, q4, hf2, tI, hF, hB, hS, hL, hbody⟩ := T.ini
  obtain rfl : f2 = fI := by
    rw [hfI] at hf2
    cases hf2
    rfl
  obtain ⟨oc, od, kV, doc, pm, an, cdv, ct, osl, rfl, lk, hcd⟩ := hF.ex
  obtain ⟨B, newId, initId, bm, BX, _, hov⟩ := T.bas
  have hb := hB s [.ref e, v] X rfl
  have hb : BindsTo s (PySem.W.fnOf "__init__" q (defArgs st) (defBody st) (defScope st) .none kV doc pm an cdv ct) ⟨[.ref e, v], []⟩ [("self", .ref e), (f, v)] := hb
  refine Att.call_fn (binds := [("self", .ref e), (f, v)]) X hlim lk hcd hroom hb ?_ (fun s₁ IC => ?_) hS.co hS.gen hS.kind
  · simp only [List.all_cons, List.all_nil, Bool.and_true]
    rw [hL "self" (by simp), hL f (by simp)]
    rfl
  obtain ⟨h₁, tk₁, rfl⟩ := IC.toInCall.same
  have k : ∀ b o, s.heap.get? b = some o → h₁.get? b = some o := IC.toInCall.keep
  have hn := IC.toInCall.ns
  have X₁ : K.In h₁ := X.keeps k
  have hx₁ := k _ _ hx
  have kself : (envOfC q (defScope st) s.heap.objs.size f2 cdv).kindOf "self" = some .local := hL "self" (by simp)
  have kf : (envOfC q (defScope st) s.heap.objs.size f2 cdv).kindOf f = some .local := hL f (by simp)
  have m1 : bindL (envOfC q (defScope st) s.heap.objs.size f2 cdv).kindOf [("self", .ref e), (f, v)] (fun _ => none) "self" = some (.ref e) := bindL_get (P := ["self", f]) (vs := [.ref e, v]) (i := 0) hS.nd rfl rfl kself
  have m2 : bindL (envOfC q (defScope st) s.heap.objs.size f2 cdv).kindOf [("self", .ref e), (f, v)] (fun _ => none) f = some v := bindL_get (P := ["self", f]) (vs := [.ref e, v]) (i := 1) hS.nd rfl rfl kf
  rw [hbody]
  show wpAny _ _ (execs _ _) _ _ _
  refine wpAny_execs_cons (plainObj_wpAny_Assign_Attribute ?_)
  refine wpAny_Name (wpAny_loadName_local hS.kind kf hn m2 ?_) ndb
  refine wpAny_Name (wpAny_loadName_local hS.kind kself hn m1 ?_) (by decide)
  refine PySem.W.set_plain X₁ (ox := HandSPX.excO C t0) (od := none) ⟨hx₁, rfl, rfl, trivial⟩ T.sa ?_
  refine osa_first BX X₁ hx₁ hov T.hdC T.tk (fun h₃ tk₃ dx k₃ dn dne hx₃ hn₃ => ?_)
  show wpAny _ _ (execs _ _) _ _ _
  have z : s.heap.objs.size < h₁.objs.size := hn.lt
  exact wpAny_execs_nil (hq h₃ tk₃ dx ⟨fun b o hb e => k₃ b o hb (k b o e), hx₃, Nat.le_of_lt (Nat.lt_of_lt_of_le z dn), dne, hn₃⟩)
theorem own_made (T : OwnX K mg x f C) (nf : f ≠ "self") (ndb : (f == ("__debug__" : Str)) = false) {v : Value} (X : K.In s.heap) (hlim : s.heap.NoLimit) (hroom : A.depth + 1 < recursionLimit)
    (hq : ∀ h' tk e d, MadeX s.heap h' e C d f v → R (.ok (.ret (.ref e))) { s with heap := h', toks := tk }) : codeAny (model prog w) A (.call (.ref C) ⟨[v], []⟩) R s := by
  obtain ⟨B, newId, initId, bm, BX, hini, hov⟩ := T.bas
  obtain ⟨nm, N', qn, bs, bmC, hdct, sn, sub, ab, col, dd, k0, k1, k2, k3, k5, hC, hT⟩ := PySem.W.excInit_of X hini
  obtain ⟨fI, _, _, _, _, _, _, _, hfI, tI, _⟩ := T.ini
  obtain ⟨hp, g, dr, tk, os⟩ := s
  have k : ∀ b o, hp.get? b = some o → ((hp.push (PySem.W.kdv_tup [v])).push (HandSPX.excO C hp.objs.size)).get? b = some o := fun b o e => Heap.get?_push_of_some _ (Heap.get?_push_of_some _ e)
  have hget : ((hp.push (PySem.W.kdv_tup [v])).push (HandSPX.excO C hp.objs.size)).get? (hp.objs.size + 1) = some (HandSPX.excO C hp.objs.size) := by heap_get
  have hnx : K.lookup (hp.objs.size + 1) = none := by
    cases e : K.lookup (hp.objs.size + 1) with
    | none => rfl
    | some o =>
      have z : hp.get? (hp.objs.size + 1) = some o := X _ _ e
      exact absurd (Nat.lt_of_succ_lt (Heap.lt_size z)) (Nat.lt_irrefl _)
  refine HandSPX.call_own BX.base hT hC (PySem.W.looks_findIn X hfI) (fun self => PySem.W.bind_fn X self tI) (one_line v) ?_
  refine own_init (s := ⟨(hp.push (PySem.W.kdv_tup [v])).push (HandSPX.excO C hp.objs.size), g, dr, tk, os⟩) T nf ndb hfI (X.keeps k) (hlim.keeps k) hget hnx ?_ fun h' tk' dx hD => ?_
  · show A.depth + 1 < recursionLimit
    exact hroom
  · obtain ⟨k', hx, dn, dne, hns⟩ := hD
    have old : ∀ b o, hp.get? b = some o → h'.get? b = some o := fun b o e => k' b o (Nat.ne_of_lt (Nat.lt_succ_of_lt (Heap.lt_size e))) (k b o e)
    have z : hp.objs.size + 1 + 1 ≤ dx := by
      have q := dn
      rw [Heap.size_push, Heap.size_push] at q
      exact q
    exact ⟨rfl, hq h' tk' (hp.objs.size + 1) dx ⟨old, Nat.le_succ _, ⟨_, hx, rfl, rfl⟩, Nat.le_trans (Nat.le_trans (Nat.le_succ _) (Nat.le_succ _)) z, dne, hns⟩⟩
end
theorem relO_one {v : V} {u : Value} (r : RelV v u) (f g : Str) : RelO (List.lookup g [(f, v)]) (if g = f then some u else none) := by
  by_cases h : g = f
  · subst h
    rw [if_pos rfl]
    have q : List.lookup g [(g, v)] = some v := by simp [List.lookup]
    rw [q]
    exact r
  · rw [if_neg h]
    have qw : (g == f) = false := by simpa using h
    have q : List.lookup g [(f, v)] = none := by simp [List.lookup, qw]
    rw [q]
    trivial
section
variable {X : Cx} {C : Addr}
/-- x(e) -/
def tMkX (C : Addr) (f : Str) (ta : TA) : L2.St → Hp → XK → Prop := fun σ H Q => ta σ H fun vs H1 => ∃ v, vs = [v] ∧ ∀ d, H1 d = none → Q (.ref C) (some d) (upd H1 d (.xd [(f, v)]))
theorem pmk_x {x f : Str} {a : Expr} {ta : TA} {p pos : Pos} {k : Nat} (T : OwnX X.K X.mg x f C) (hr : Room k X.A) (ha : PA X [a] ta) (nf : f ≠ "self" := by decide) (ndb : (f == ("__debug__" : Str)) = false := by decide) (hg : Gl X x := by rfl) (hdb : (x == ("__debug__" : Str)) = false := by decide)
    (he : starEach (a :: []) X.env = (false, eval a X.env) :: starEach [] X.env := by rfl) (hpl : (backTo pos (starEach [] X.env)).any (·.1) = false := by rfl) :
    L2N.PMk X (.Call (.Name x p) [a] [] pos) (tMkX C f ta) := by
  intro pins s σ H Q I h
  refine wpAny_Call_Name_kw (ld_glob I hg T.gC ?_ hdb)
  refine PySem.W.callWith_K (h₀ := X.base) I.ok.mod.kin T.kC (thn (ha.run pos pins s σ H _ I h) fun us s1 hh => ?_) he hpl
  obtain ⟨vs, H1, I1, r1, v, ev, q1⟩ := hh
  subst ev
  refine ⟨I1.kIn, ?_⟩
  cases r1 with
  | cons rv rn =>
    rename_i v' us'
    cases rn
    show wpAny _ _ (call (.ref C) [v']) _ _ _
    have hlim := I1.nolimit
    obtain ⟨hp, g, dr, tk, os⟩ := s1
    refine wpAny_call (own_made T nf ndb I1.kIn hlim (by have := hr.dp; omega) fun h' tk' e d M => ?_)
    show L2N.MkP X pins σ Q (.ref e) ⟨h', g, dr, tk', os⟩
    obtain ⟨fv, hoe, h1, h2⟩ := M.obj
    have hns := M.ns
    obtain ⟨G', g1, g2⟩ := restrict h' fun b => decide (b ≠ e)
    have gk : ∀ b, b ≠ e → G'.get? b = h'.get? b := fun b hb => g1 b (decide_eq_true hb)
    have ge : G'.get? e = none := g2 e (by simp)
    have old : ∀ b o, hp.get? b = some o → G'.get? b = some o := fun b o q => (gk b (Nat.ne_of_lt (Nat.lt_of_lt_of_le (Heap.lt_size q) M.new))).trans (M.keep b o q)
    have ob : ObjOk X.prog X.w (upd H1 d (.xd [(f, v)])) G' d (.xd [(f, v)]) := ⟨_, hns.at (fun o q => (gk d M.dne).trans q), fun y => relO_one rv f y⟩
    have J : Inv X pins σ (upd H1 d (.xd [(f, v)])) ⟨G', g, dr, tk', os⟩ := I1.laid (t' := tk') old M.dbig ob
    refine ⟨e, _, fv, ⟨G', g, dr, tk', os⟩, _, .ref C, some d, rfl, J, fun b o q => ?_, ge, hoe, ⟨rfl, rfl, fun vs q => ?_⟩, rfl, h1, ?_, rfl, I1.bare, raises_own T.exC T.tyC, q1 d (I1.hok.fresh M.dbig)⟩
    · by_cases hb : b = e
      · have q' : G'.get? b = some o := q
        rw [hb, ge] at q'
        cases q'
      · exact (gk b hb).symm.trans q
    · obtain rfl : fv = vs := Data.fields.inj q
      exact h2
    · rw [upd_ne (Ne.symm M.dne)]
      exact I1.hok.fresh M.new
theorem ps_raiseX {x f : Str} {a : Expr} {ta : TA} {W : WX} {p pos pos2 : Pos} {k : Nat} (hc : X.calm = true) (T : OwnX X.K X.mg x f C) (hr : Room k X.A) (tk : L2N.Takes X W) (ha : PA X [a] ta) (nf : f ≠ "self" := by decide) (ndb : (f == ("__debug__" : Str)) = false := by decide) (hg : Gl X x := by rfl)
    (hdb : (x == ("__debug__" : Str)) = false := by decide) (he : starEach (a :: []) X.env = (false, eval a X.env) :: starEach [] X.env := by rfl) (hpl : (backTo pos (starEach [] X.env)).any (·.1) = false := by rfl) :
    PS X (.Raise (some (.Call (.Name x p) [a] [] pos)) none pos2) (fun _ σ H => tMkX C f ta σ H fun cls d H' => W cls d σ H') := L2N.ps_raise hc tk (pmk_x T hr ha nf ndb hg hdb he hpl)
end
end Wl

/-! Where an exception is being handled: defs called, comprehensions over range. -/
namespace Wl
open PySem PySem.Spec PyProof.Rows L2
/-- what is handled stands at a, tracked -/
def HotH (a : Addr) (H : Hp) : Prop := ∃ cls d, H a = some (exH a cls d)
theorem HotH.same {a : Addr} {H H' : Hp} (h : HotH a H) (s : Same H H') : HotH a H' := by
  obtain ⟨cls, d, e⟩ := h
  exact ⟨cls, d, s _ _ e⟩
/-- a def called there, its promise -/
structure FnT (P : Program) (w : World) (K : PySem.W.Frag) (mg : Str → Option Value) (base : Heap) (CX : CXT) (k : Nat) (f : Addr) (fd : FuncData) (ps : List Str) (sp : Addr → Sp) : Prop where
  len : ∀ a vs H Q E, sp a vs H Q E → vs.length = ps.length
  run : ∀ (A : Around) (outer : List Env) (s : Shared) (H : Hp) (args : Args) (us : List Value) (vs : List V) (Q : VK) (E : XK) (a : Addr), L2H.RoomH k A → A.handled = some (.ref a) → HotH a H → Env0 P w K mg base A outer s H → BindsTo s fd args (ps.zip us) → Vals vs us → sp a vs H Q E →
    codeAny (model P w) A (.call (.ref f) args) (CR CX outer P w H s Q E) s
/-- the body's context -/
def cxT (CX : CXT) (P : Program) (w : World) (K : PySem.W.Frag) (mg : Str → Option Value) (base : Heap) (N : List Str) (qual : Str) (scope : Scope) (f : Addr) (cd : Value) (A : Around) (outer : List Env) (s : Shared) (H : Hp) (E : XK) : Cx :=
  { cxOf CX P w K mg base N qual scope f cd A outer s H E with calm := false }
section
variable {P : Program} {w : World} {K : PySem.W.Frag} {mg : Str → Option Value} {base : Heap} {CX : CXT}
theorem inv_startT {N ps : List Str} {qual : Str} {scope : Scope} {f : Addr} {cd : Value} {A : Around} {outer : List Env} {s s1 : Shared} {H : Hp} {E : XK} {us : List Value} {vs : List V} (S : FnScope N ps scope) (e0 : Env0 P w K mg base A outer s H) (hl : vs.length = ps.length) (r : Vals vs us)
    (x : InCallC s s.heap.objs.size (bindL (envOfC qual scope s.heap.objs.size f cd).kindOf (ps.zip us) fun _ => none) (cellsFrom (s.heap.objs.size + 1) scope.names []) (bindC (envOfC qual scope s.heap.objs.size f cd).kindOf (ps.zip us) fun _ => none) s1) :
    Inv (cxT CX P w K mg base N qual scope f cd A outer s H E) [] (L2.start N vs) H s1 := by
  obtain ⟨oG, es, ep, hG, hd, _⟩ := e0.mod.glob
  have b0 := e0.bs _ _ hG
  have pin : L2H.PinOk outer H s (mainGlobals, oG) := ⟨b0.1, b0.2, fun hm => (by
    have z := (e0.funs.mem hm).1
    rw [hG] at z
    cases z), fun v z => (by
    have z : oG.data = .cell v := z
    rw [hd] at z
    cases z)⟩
  have I := L2H.inv_startH (CX := CX) (E := E) S pin e0 hl r x
  refine ⟨(Cx.Ok.toTry I.ok [] (cxT CX P w K mg base N qual scope f cd A outer s H E).xe), I.os, I.bare, I.base, I.loc, I.cell, I.free, I.freeC, fun p hp => ?_, I.hok, I.len⟩
  exact absurd (show p ∈ ([] : List (Addr × Obj)) ++ [] from hp) (by simp)
theorem fn_ofT {k : Nat} {f : Addr} {name qual : Str} {params : Arguments} {body : List Stmt} {scope : Scope} {dV kV doc pm cdv ct oc : Value} {an od : Option Addr} {osl : Array (Option Value)} {N ps : List Str} {sp : Addr → Sp}
    (lk : K.lookup f = some ⟨oc, od, .func (PySem.W.fnOf name qual params body scope dV kV doc pm an cdv ct), osl⟩) (hcd : PySem.W.codeIn K cdv qual = true) (S : FnScope N ps scope) (len : ∀ a vs H Q E, sp a vs H Q E → vs.length = ps.length)
    (hbody : ∀ (A : Around) (outer : List Env) (s : Shared) (H : Hp) (vs : List V) (Q : VK) (E : XK) (a : Addr), A.handled = some (.ref a) → HotH a H → L2H.RoomH k (A.deeper (envOfC qual scope s.heap.objs.size f cdv)) → sp a vs H Q E →
      ∃ t, PSs (cxT CX P w K mg base N qual scope f cdv A outer s H E) body t ∧ t { nx := fun _ H' => Q .non H', rt := Q } (L2.start N vs) H) :
    FnT P w K mg base CX (k + 1) f (PySem.W.fnOf name qual params body scope dV kV doc pm an cdv ct) ps sp := by
  refine ⟨len, ?_⟩
  intro A outer s H args us vs Q E a hr hot hh e0 hb r hsp
  have hl := len _ _ _ _ _ hsp
  have KX : K.In s.heap := e0.mod.kin.keeps fun b o e => (e0.bs b o e).1
  have lim : s.heap.NoLimit := e0.mod.nolimit.keeps fun b o e => (e0.bs b o e).1
  refine codeAny_call_function hr.depth (KX _ _ lk) rfl S.co S.gen rfl (PySem.W.codeRec_of KX hcd) (hb _ _ _ _ ?_)
  refine wpAny_newFunctionEnv_cells S.kind (fun ⟨n, v⟩ hy => ?_) fun env he s1 x => ?_
  · rcases S.par n (List.of_mem_zip hy).1 with q | q
    · exact .inl q
    · exact .inr ⟨q, PySem.W.cellsFrom_some _ _ _ (.inl q)⟩
  subst he
  refine ⟨lim.keeps x.toInCall.keep, codeAny_func ?_⟩
  obtain ⟨t, ht, hq⟩ := hbody A outer s H vs Q E a hot hh (hr.deeper _) hsp
  refine wpAny_mono (ht.run [] s1 (L2.start N vs) H _ (inv_startT S e0 hl r x) hq) (fun fl s' hs => ?_) fun e s' hs => hs
  have fin : ∀ {σ' : L2.St} {H' : Hp} {v : V} {u : Value}, Inv (cxT CX P w K mg base N qual scope f cdv A outer s H E) [] σ' H' s' → RelV v u → Q v H' → CE outer P w H s Q u s' := by
    intro σ' H' v u J rv q
    exact ⟨v, H', J.os, J.bare, J.base, J.hok, rv, q⟩
  cases fl with
  | ret u =>
    obtain ⟨v, σ', H', J, rv, q⟩ := hs
    exact fin J rv q
  | next =>
    obtain ⟨σ', H', J, q⟩ := hs
    exact fin (v := V.non) (u := Value.none) J rfl q
  | brk =>
    obtain ⟨_, _, _, q⟩ := hs
    exact False.elim q
  | cont =>
    obtain ⟨_, _, _, q⟩ := hs
    exact False.elim q
theorem FunT_ok {x qual : Str} {st : Stmt} {f : Addr} {fd : FuncData} {N ps : List Str} {k : Nat} {sp : Addr → Sp} (F : Fun K x qual st f fd) (S : FnScope N ps (defScope st)) (len : ∀ a vs H Q E, sp a vs H Q E → vs.length = ps.length)
    (hbody : ∀ (cdv : Value) (A : Around) (outer : List Env) (s : Shared) (H : Hp) (vs : List V) (Q : VK) (E : XK) (a : Addr), A.handled = some (.ref a) → HotH a H → L2H.RoomH k (A.deeper (envOfC qual (defScope st) s.heap.objs.size f cdv)) → sp a vs H Q E →
      ∃ t, PSs (cxT CX P w K mg base N qual (defScope st) f cdv A outer s H E) (defBody st) t ∧ t { nx := fun _ H' => Q .non H', rt := Q } (L2.start N vs) H) : FnT P w K mg base CX (k + 1) f fd ps sp := by
  obtain ⟨oc, od, kV, doc, pm, an, cdv, ct, osl, rfl, lk, hcd⟩ := F.ex
  exact fn_ofT lk hcd S len fun A outer s H vs Q E a hot hh hr hsp => hbody cdv A outer s H vs Q E a hot hh hr hsp
/-- defs that keep promises there, by name -/
def HasT (P : Program) (w : World) (K : PySem.W.Frag) (mg : Str → Option Value) (base : Heap) (x : Str) (k : Nat) (ps : List Str) (sp : Addr → Sp) : Prop :=
  ∃ f fd, FnT P w K mg base CX0 k f fd ps sp ∧ mg x = some (.ref f) ∧ PySem.W.keepIn K (.ref f) = true ∧ Binds K fd ps []
end
section
variable {X : Cx} {k j : Nat} {ps : List Str} {sp : Addr → Sp} {x : Str} {p pos : Pos} {e : Expr} {es : List Expr} {t : TA} {hd : Addr}
/-- f(..), where what stands at hd is being handled -/
def tCallT (hd : Addr) (sp : Addr → Sp) (t : TA) : TE := fun σ H Q => t σ H fun vs H1 => HotH hd H1 ∧ sp hd vs H1 Q E0
theorem pe_ht (h : HasT X.prog X.w X.K X.mg X.base x k ps sp) (hr : L2H.RoomH j X.A) (hot : X.A.handled = some (.ref hd)) (ha : PA X (e :: es) t) (hkj : k ≤ j := by decide) (hg : Gl X x := by rfl) (hdb : (x == ("__debug__" : Str)) = false := by decide)
    (he : starEach (e :: es) X.env = (false, eval e X.env) :: starEach es X.env := by rfl) (hpl : (backTo pos (starEach es X.env)).any (·.1) = false := by rfl) :
    PE X (.Call (.Name x p) (e :: es) [] pos) (tCallT hd sp t) := by
  obtain ⟨f, fd, F, g, kp, b⟩ := h
  refine ⟨fun pins s σ H Q I h => ?_⟩
  refine wpAny_Call_Name_kw (ld_glob I hg g ?_ hdb)
  refine PySem.W.callWith_K (h₀ := X.base) I.ok.mod.kin kp (thn (ha.run pos pins s σ H _ I h) fun us s1 ⟨vs, H1, I1, r, hh, q⟩ => ⟨I1.kIn, ?_⟩) he hpl
  have hl : us.length = ps.length := by
    rw [← r.length]
    exact F.len _ _ _ _ _ q
  have bb := b s1 us I1.kIn (by rw [List.append_nil]; exact hl)
  rw [List.append_nil] at bb
  refine wpAny_call (codeAny_mono (F.run X.A X.stack s1 H1 ⟨us, []⟩ us vs Q E0 hd (hr.mono hkj) hot hh I1.env0 bb r q) fun r s' hq => ?_)
  cases r with
  | error e => exact False.elim hq
  | ok fl =>
    cases fl with
    | ret u => exact I1.after hq
    | next => exact False.elim hq
    | brk => exact False.elim hq
    | cont => exact False.elim hq
end
/-! ### comprehensions -/
/-- an iterator's turns, there: its end asks for what is handled -/
def ItHot (hd : Addr) (J : It) : It := { go := J.go, yld := J.yld, stop := fun i H => J.stop i H ∧ HotH hd H }
structure TurnT (P : Program) (w : World) (K : PySem.W.Frag) (hd : Addr) (tg : Expr) (J : It) (fp : List Addr) (it : Addr) (tn : Nat → Heap → Prop) : Prop where
  mem : it ∈ fp
  obj : ∀ i h, tn i h → ∀ b ∈ fp, ∃ o, h.get? b = some o ∧ ∀ v, o.data ≠ .cell v
  keep : ∀ i h h', tn i h → (∀ b ∈ fp, ∀ o, h.get? b = some o → h'.get? b = some o) → tn i h'
  item : ∀ (X : Cx), X.prog = P → X.w = w → X.K = K → X.A.handled = some (.ref hd) → ∀ (i : Nat) (pins : List (Addr × Obj)) (s : Shared) (σ : L2.St) (H : Hp) (E : Value → Shared → Prop), Inv X pins σ H s → (∀ b ∈ fp, FpOk X pins H b) → tn i s.heap → J.go i H →
    wpAny (model P w) X.A (pyNext (.ref it)) (fun r s1 => ∃ u, r = some u ∧
      wpAny (model P w) X.A (letOwnedTupleGo tg (.ref it) u) (fun _ s2 => ∃ x H', Inv X pins σ H' s2 ∧ RelV x u ∧ J.yld i H x H' ∧ tn (i + 1) s2.heap ∧ ∀ b ∈ fp, H' b = none) E s1) E s
  done : ∀ (X : Cx), X.prog = P → X.w = w → X.K = K → X.A.handled = some (.ref hd) → ∀ (i : Nat) (pins : List (Addr × Obj)) (s : Shared) (σ : L2.St) (H : Hp) (E : Value → Shared → Prop), Inv X pins σ H s → (∀ b ∈ fp, FpOk X pins H b) → tn i s.heap → J.stop i H → HotH hd H →
    wpAny (model P w) X.A (pyNext (.ref it)) (fun r s1 => r = none ∧ Inv X pins σ H s1) E s
  self : ∀ (A : Around) (i : Nat) (s : Shared) (Q : Value → Shared → Prop) (E : Value → Shared → Prop), tn i s.heap → Q (.ref it) s → wpAny (model P w) A (pyIter (.ref it)) Q E s
theorem turn_rangeT {P : Program} {w : World} {K : PySem.W.Frag} {hd : Addr} {tg : Expr} (it : Addr) (lo : Int) (n : Nat) : TurnT P w K hd tg (Itr lo n) [it] it (fun i h => IsRangeIter h it (lo + (i : Nat) * 1) ((n : Int) - (i : Nat)) 1) where
  mem := by simp
  obj := by
    intro i h st b hb
    obtain rfl : b = it := by simpa using hb
    refine ⟨_, st, fun v z => ?_⟩
    have z' : Data.fields _ = Data.cell v := z
    cases z'
  keep := fun i h h' st k => k it (by simp) _ st
  item := by
    intro X hP hw hK hc i pins s σ H E I hf st hg
    subst hP hw hK
    obtain ⟨f0, f1, f2, f3, f4, f5⟩ := hf it (by simp)
    have hlt : i < n := hg
    refine wpAny_pyNext_range_item st (by omega) fun h' st' sb => ?_
    have e1 : lo + ((i : Nat) : Int) * 1 + 1 = lo + ((i + 1 : Nat) : Int) * 1 := by omega
    have e2 : (n : Int) - ((i : Nat) : Int) - 1 = (n : Int) - ((i + 1 : Nat) : Int) := by omega
    rw [e1, e2] at st'
    have J1 : Inv X pins σ H { s with heap := h', toks := s.toks + 1 } := I.turned (fun b o hb e => (sb.2 b hb).trans e) f0 f1 f3 f4 f5
    refine ⟨_, rfl, go_of (s := { s with heap := h', toks := s.toks + 1 }) (n := "range_iterator") st' rfl rfl (by decide) ⟨.int (lo + i), H, J1, ⟨s.toks, ?_⟩, ⟨rfl, rfl⟩, st', fun b hb => (hf b hb).1⟩⟩
    rw [Int.mul_one]
  done := by
    intro X hP hw hK hc i pins s σ H E I hf st hg hh
    subst hP hw hK
    obtain ⟨f0, f1, f2, f3, f4, f5⟩ := hf it (by simp)
    obtain ⟨cls, d, ea⟩ := hh
    exact HotX.pyNext_range_end_hot (exH_hot I.hok ea hc) st (by have : n ≤ i := hg; omega) fun h' eb => ⟨rfl, I.turned (t' := s.toks) (fun b o _ e => eb b o e) f0 f1 f3 f4 f5⟩
  self := fun _ _ _ _ _ st h => wpAny_pyIter_rangeiter st h
def PIET (X : Cx) (hd : Addr) (pins : List (Addr × Obj)) (σ : L2.St) (tg : Expr) (R : It → Hp → Prop) (itv : Value) (s2 : Shared) : Prop :=
  ∃ (it : Addr) (fp : List Addr) (tn : Nat → Heap → Prop) (J : It) (H' : Hp), itv = .ref it ∧ Inv X pins σ H' s2 ∧ TurnT X.prog X.w X.K hd tg J fp it tn ∧ tn 0 s2.heap ∧ (∀ b ∈ fp, FpOk X pins H' b) ∧ R (ItHot hd J) H'
structure PIT (X : Cx) (hd : Addr) (tg iter : Expr) (wi : TI) : Prop where
  run : ∀ (pins : List (Addr × Obj)) (s : Shared) (σ : L2.St) (H : Hp) (R : It → Hp → Prop), Inv X pins σ H s → wi σ H R →
    wpAny (model X.prog X.w) X.A (eval iter X.env) (fun v s1 => wpAny (model X.prog X.w) X.A (pyIter v) (PIET X hd pins σ tg R) X.xe s1) X.xe s
/-- range(n) there -/
def iRngT (hd : Addr) (ta : TA) : TI := fun σ H R => ta σ H fun vs H1 => ∃ n : Nat, vs = [.int n] ∧ n ≤ 1000 ∧ R (ItHot hd (Itr 0 n)) H1
theorem pi_rangeT {X : Cx} {hd : Addr} {tg : Expr} {a : Expr} {ta : TA} {p pos : Pos} (hg : Gl X "range") (hm : X.mg "range" = none) (ha : PA X [a] ta) (hs : starEach [a] X.env = [(false, eval a X.env)] := by rfl) : PIT X hd tg (.Call (.Name "range" p) [a] [] pos) (iRngT hd ta) := by
  refine ⟨fun pins s σ H R I h => ?_⟩
  refine Call_ (ld_blt I hg hm boot_range (PyProof.Rows.callWith_type1 (thn (ha.run pos pins s σ H _ I h) fun us s1 hh => ?_) hs rfl))
  obtain ⟨vs, H1, J1, r1, n, e, hn, q⟩ := hh
  subst e
  obtain ⟨u, rfl, t, rfl⟩ := vals1 r1
  refine call_range_1 ?_
  refine wpAny_pyIter_range (IsRange.new ..) (small_one (by omega) (by omega) (by omega) (by omega)) ?_
  have J2 : Inv X pins σ H1 { s1 with heap := s1.heap.push { cls := .type "range", data := .fields #[.int 0 s1.toks, .int n t, .int 1 (s1.toks + 1)] }, toks := s1.toks + 2 } := J1.kept fun b o e => Heap.get?_push_of_some _ e
  refine ⟨_, [_], _, _, H1, rfl, J2.kept (t' := s1.toks + 2) fun b o e => Heap.get?_push_of_some _ e, turn_rangeT _ 0 n, ?_, fun b hb => ?_, q⟩
  · have e2 : ((n : Int)) - ((0 : Nat) : Int) = Builtin.Range.rangeSize 0 n 1 := by rw [rangeSize_one]; split <;> omega
    show IsRangeIter _ _ ((0 : Int) + ((0 : Nat) : Int) * 1) ((n : Int) - ((0 : Nat) : Int)) 1
    rw [e2]
    exact Heap.get?_push_size _ rfl
  · obtain rfl := List.mem_singleton.mp hb
    exact J2.fpOk (Nat.le_refl _) (J2.hok.fresh (Nat.le_refl _))
end Wl

/-! [e for x in it if ..] where an exception is being handled. -/
namespace Wl
open PySem PySem.Spec PyProof.Rows L2
section
variable {X : Cx} {hd : Addr}
theorem lcT_core {pins : List (Addr × Obj)} {s : Shared} {σ : L2.St} {H : Hp} {Q : VK} {elt tg iter : Expr} {ifs : List Expr} {scope : Scope} {own : List (Str × Nat)} {pos pos' : Pos} {wi : TI} {g : TG} {tt : TT} {te : TE} {use : Option (Value → Sem Unit)} {Qf : Value → Shared → Prop}
    (hot : X.A.handled = some (.ref hd)) (hN : X.N.Nodup) (I : Inv X pins σ H s) (hi : PIT X hd tg iter wi) (ok : BlkOk X.N X.env.scope scope own)
    (hg : ∀ (s : Shared) (H : Hp) (C : Addr) (cl : List (Str × Addr)) (fp : List Addr), PG (X.blk s H scope (compEnvC scope cl C X.env) fp) tg g)
    (ht : ∀ (s : Shared) (H : Hp) (C : Addr) (cl : List (Str × Addr)) (fp : List Addr), PTs (X.blk s H scope (compEnvC scope cl C X.env) fp) ifs tt)
    (he : ∀ (s : Shared) (H : Hp) (C : Addr) (cl : List (Str × Addr)) (fp : List Addr), PE (X.blk s H scope (compEnvC scope cl C X.env) fp) elt te) (hs : ∀ x, foldedSetIterable iter X.env x = pure x) (h : tLc wi g tt te (own.map (·.2)) σ H Q)
    (hEnd : ∀ L C s' m H', Inv X pins σ H' s' → Q (.ref L) H' → s'.heap.Ns C m → FpOk X pins H' C → compPost (model X.prog X.w) X.A X.xe use Qf (.ref L) C (.ok .next) s') :
    wpAny (model X.prog X.w) X.A (comprehension (.ListComp elt [⟨tg, iter, ifs, 0⟩] scope pos) scope X.env pos' (newList []) false (eval iter X.env) use) Qf X.xe s := by
  refine wpAny_comprehension_free (use := use) rfl hs (closure_ok fun y hy e => ?_) ok.kind (fun y hy e => by rw [ok.uniq y hy, e]) (thn (hi.run pins s σ H _ I h) fun xv sA hx => thn hx fun itv sB hB => ?_)
  · exact (ok.free y hy e).elim (fun k => I.ok.has _ (.inl k)) (fun k => I.ok.has _ (.inr k))
  obtain ⟨it, fp, tn, J, HB, ei, IB, T, stB, fB, q⟩ := hB
  subst ei
  refine wpAny_newObj_type (newEnv_comp ?_) (by show 0 ≤ sizeLine; decide)
  generalize hL : sB.heap.objs.size = L
  have hLn : HB L = none := IB.hok.fresh (Nat.le_of_eq hL)
  obtain ⟨W, ⟨m0, w0⟩, turn⟩ := q L hLn
  generalize hsC : ({ sB with heap := sB.heap.push { cls := .type "list", data := .seq ([] : List Value).toArray } } : Shared) = sC
  have IC : Inv X pins σ (upd HB L (.lst [])) sC := by
    subst hsC
    refine IB.laid (t' := sB.toks) (fun b o e => Heap.get?_push_of_some _ e) (Nat.le_of_eq hL) ⟨Nat.zero_le _, [], 0, .nil, ?_⟩
    subst hL
    exact Heap.get?_push_size _ rfl
  have eC : sC.heap = sB.heap.push { cls := .type "list", data := .seq ([] : List Value).toArray } := by rw [← hsC]
  have fC : ∀ b ∈ fp, FpOk X pins (upd HB L (.lst [])) b ∧ b < sC.heap.objs.size := by
    intro b hb
    obtain ⟨o, e, _⟩ := T.obj _ _ stB b hb
    have hlt : b < sB.heap.objs.size := Heap.lt_size e
    refine ⟨⟨?_, (fB b hb).2⟩, by rw [eC, Heap.size_push]; exact Nat.lt_succ_of_lt hlt⟩
    rw [upd_ne (by rw [← hL]; exact Nat.ne_of_lt hlt)]
    exact (fB b hb).1
  have stC : tn 0 sC.heap := T.keep _ _ _ stB fun b _ o e => by rw [eC]; exact Heap.get?_push_of_some _ e
  have ID := block_start IC ok hN fC
  have pg := hg sC (upd HB L (.lst [])) sC.heap.objs.size (cellsFrom (sC.heap.objs.size + 1) scope.names (cloFrom X.env.cells scope.names [])) fp
  have pt := ht sC (upd HB L (.lst [])) sC.heap.objs.size (cellsFrom (sC.heap.objs.size + 1) scope.names (cloFrom X.env.cells scope.names [])) fp
  have pe := he sC (upd HB L (.lst [])) sC.heap.objs.size (cellsFrom (sC.heap.objs.size + 1) scope.names (cloFrom X.env.cells scope.names [])) fp
  show codeAny _ _ (.compStart (.ListComp elt [⟨tg, iter, ifs, 0⟩] scope pos) 0 (.ref it) (.ref L) (compEnvC scope (cellsFrom (sC.heap.objs.size + 1) scope.names (cloFrom X.env.cells scope.names [])) sC.heap.objs.size X.env)) (compPost (model X.prog X.w) X.A X.xe use Qf (.ref L) sC.heap.objs.size) { sC with heap := pushCells (sC.heap.push { cls := .type "dict", data := .dict #[] }) scope.names }
  have nfp : ∀ b ∈ fp, (upd HB L (.lst [])) b = none := fun b hb => (fC b hb).1.1
  generalize hce : compEnvC scope (cellsFrom (sC.heap.objs.size + 1) scope.names (cloFrom X.env.cells scope.names [])) sC.heap.objs.size X.env = ce at ID pg pt pe ⊢
  have cL : ce.locals = sC.heap.objs.size := by subst hce; rfl
  generalize hHC : upd HB L (.lst []) = HC at IC ID pg pt pe w0 nfp fC
  generalize hsD : ({ sC with heap := pushCells (sC.heap.push { cls := .type "dict", data := .dict #[] }) scope.names } : Shared) = sD at ID ⊢
  have stD : tn 0 sD.heap := T.keep _ _ _ stC fun b _ o e => by rw [← hsD]; exact pushCells_keeps _ _ _ _ (Heap.get?_push_of_some _ e)
  have stat : ∀ {σ' : L2.St} {H' : Hp} {s' : Shared}, Inv (X.blk sC HC scope ce fp) [] σ' H' s' → (∀ b ∈ fp, H' b = none) → ∀ b ∈ fp, FpOk (X.blk sC HC scope ce fp) [] H' b := by
    intro σ' H' s' I' hn b hb
    exact ⟨hn b hb, (I'.ok.exf b hb).1, I'.ok.exfs b hb, .inl hb, fun x c e => (I'.ok.exf b hb).2 x c e, fun p hp => absurd (show p ∈ ([] : List (Addr × Obj)) ++ [] from hp) (by simp)⟩
  have loop : codeAny (model X.prog X.w) X.A (.compLoop (.ListComp elt [⟨tg, iter, ifs, 0⟩] scope pos) 0 (.ref it) (.ref L) ce) (compPost (model X.prog X.w) X.A X.xe use Qf (.ref L) sC.heap.objs.size) sD := by
    refine compLoop_any (fun n s' => ∃ i H', Inv (X.blk sC HC scope ce fp) [] (wipe σ (own.map (·.2))) H' s' ∧ tn i s'.heap ∧ (∀ b ∈ fp, H' b = none) ∧ W i n H') ?_ m0 ⟨0, HC, ID, stD, nfp, w0⟩
    rintro n sE ⟨i, HE, IE, stE, nE, wE⟩
    rcases turn i n HE wE with ⟨stop, qq⟩ | ⟨go, Nx, hNx, step⟩
    · have td := T.done (X.blk sC HC scope ce fp) rfl rfl rfl hot i [] sE _ HE (fun _ _ => False) IE (stat IE nE) stE stop.1 stop.2
      refine thnF td fun r sF ⟨hr, IF⟩ => ?_
      subst hr
      have IG : Inv X pins σ HE sF := IC.call' (ch := fp) IF.os IF.base IF.hok IF.bare fun b hb => ⟨(fC b hb).1.2.2.2.1, (fC b hb).1.2.1, (fC b hb).1.2.2.2.2.1, (fC b hb).1.2.2.2.2.2⟩
      have nC : HE sC.heap.objs.size = none := by
        have z : HE ce.locals = none := IF.free
        rw [cL] at z
        exact z
      obtain ⟨m, hn, _⟩ := IF.loc
      have hn : sF.heap.Ns ce.locals m := hn
      rw [cL] at hn
      exact hEnd L sC.heap.objs.size sF m HE IG qq hn (IC.fpOk (Nat.le_refl _) nC)
    · have ti := T.item (X.blk sC HC scope ce fp) rfl rfl rfl hot i [] sE _ HE (fun _ _ => False) IE (stat IE nE) stE go
      refine thnF ti fun r sF ⟨u, hr, hF⟩ => ?_
      subst hr
      refine thnF hF fun _ sG ⟨x, HG, IG, rG, yG, stG, nG⟩ => ?_
      have IG' := IG.pinned (stat IG nG) (T.obj _ _ stG)
      refine thnF (pg.run _ sG _ HG x u _ IG' rG (step x HG yG)) fun _ sK ⟨σK, HK, IK, hwK, qK⟩ => ?_
      refine thnF (pt.run _ sK σK HK _ IK qK) fun b sM ⟨HM, IM, qM⟩ => ?_
      have fin : ∀ {s' : Shared} {H' : Hp}, Inv (X.blk sC HC scope ce fp) ([] ++ pinsAt fp sG.heap) σK H' s' → Nx H' → ∃ m, m < n ∧ ∃ i H', Inv (X.blk sC HC scope ce fp) [] (wipe σ (own.map (·.2))) H' s' ∧ tn i s'.heap ∧ (∀ b ∈ fp, H' b = none) ∧ W i m H' := by
        intro s' H' I' nx
        obtain ⟨m', hm, w'⟩ := hNx H' nx
        have pin' : ∀ b ∈ fp, ∀ o, sG.heap.get? b = some o → s'.heap.get? b = some o ∧ H' b = none := fun b hb o e =>
          have z := I'.pin (b, o) (List.mem_append_right _ (List.mem_append_right _ (mem_pinsAt hb e)))
          ⟨z.1, z.2.1⟩
        have hl : (wipe σ (own.map (·.2))).length = σK.length := by rw [← hwK, wipe_length]
        refine ⟨m', hm, i + 1, H', (I'.unpinned (pins := [])).weak hl (fun j v e => ?_), T.keep _ _ _ stG fun b hb o e => (pin' b hb o e).1, fun b hb => ?_, w'⟩
        · rw [← hwK] at e
          exact (wipe_some e).1
        · obtain ⟨o, e, _⟩ := T.obj _ _ stG b hb
          exact (pin' b hb o e).2
      cases b with
      | false =>
        simp only [Bool.false_eq_true, if_false] at qM ⊢
        exact fin IM qM
      | true =>
        simp only [if_true] at qM ⊢
        refine thnF (pe.run _ sM σK HM _ IM qM) fun z sO ⟨yv, HO1, IO, rO, acc, hDO, hzO, nx⟩ => ?_
        exact app_ok (X := X.blk sC HC scope ce fp) IO hDO hzO rO fun sP IP => fin IP nx
  exact codeAny_compStart_list loop (T.self X.A 0 _ _ _ stD loop)
theorem pe_lcT {elt tg iter : Expr} {ifs : List Expr} {scope : Scope} {own : List (Str × Nat)} {pos : Pos} {wi : TI} {g : TG} {tt : TT} {te : TE} (hot : X.A.handled = some (.ref hd)) (hN : X.N.Nodup) (hi : PIT X hd tg iter wi) (ok : BlkOk X.N X.env.scope scope own)
    (hg : ∀ (s : Shared) (H : Hp) (C : Addr) (cl : List (Str × Addr)) (fp : List Addr), PG (X.blk s H scope (compEnvC scope cl C X.env) fp) tg g)
    (ht : ∀ (s : Shared) (H : Hp) (C : Addr) (cl : List (Str × Addr)) (fp : List Addr), PTs (X.blk s H scope (compEnvC scope cl C X.env) fp) ifs tt)
    (he : ∀ (s : Shared) (H : Hp) (C : Addr) (cl : List (Str × Addr)) (fp : List Addr), PE (X.blk s H scope (compEnvC scope cl C X.env) fp) elt te) (hs : ∀ x, foldedSetIterable iter X.env x = pure x := by intro _; rfl) :
    PE X (.ListComp elt [⟨tg, iter, ifs, 0⟩] scope pos) (tLc wi g tt te (own.map (·.2))) := by
  refine ⟨fun pins s σ H Q I h => ?_⟩
  rw [eval_ListComp]
  refine lcT_core hot hN I hi ok hg ht he hs h fun L C s' m H' I' q hn f => ⟨m, hn, fun h'' sb => ?_⟩
  obtain ⟨u0, u1, u2, u3, u4, u5⟩ := f
  exact ⟨.ref L, H', I'.turned (t' := s'.toks) (fun b o hb e => (sb.2 b hb).trans e) u0 u1 u3 u4 u5, rfl, q⟩
end
theorem walk_rangeT {a : Addr} {n : Nat} : L2.Walk (ItHot a (Itr 0 n)) n (HotH a) (YFn fun i => .int ((0 : Int) + i)) :=
  ⟨fun _ _ hi _ => hi, fun _ h => ⟨Nat.le_refl _, h⟩, fun _ _ _ _ _ _ y => y⟩
section
variable {a : Addr} {n slot : Nat} {te : TE} {vs : List Nat} {σ : L2.St} {H1 : Hp} {D : Addr} {Qd : Hp → Prop}
theorem lc_rangeT (hD : H1 D = none) (hot : HotH a H1) (f : Nat → V) (hw : ∀ x, wipe ((wipe σ vs).set slot (some x)) vs = wipe σ vs)
    (he : ∀ (k : Nat) (H : Hp), k < n → Same H1 H → ∀ Q : VK, Q (f k) H → te ((wipe σ vs).set slot (some (.int ((0 : Int) + k)))) H Q) (hn : n ≤ 1000)
    (hd : ∀ H, Same H1 H → H D = some (.lst ((List.range n).map f)) → Qd H) :
    ∃ W : Nat → Nat → Hp → Prop, (∃ m, W 0 m (upd H1 D (.lst []))) ∧ ∀ i m H, W i m H →
      ((ItHot a (Itr 0 n)).stop i H ∧ Qd H) ∨ ((ItHot a (Itr 0 n)).go i H ∧ ∃ Nx : Hp → Prop, (∀ H', Nx H' → ∃ m', m' < m ∧ W (i + 1) m' H') ∧ ∀ x H', (ItHot a (Itr 0 n)).yld i H x H' → gName slot x (wipe σ vs) H' fun σ2 H2 => wipe σ2 vs = wipe σ vs ∧ tYes σ2 H2 fun b H3 =>
        if b = true then te σ2 H3 fun y H4 => ∃ acc, H4 D = some (.lst acc) ∧ acc.length < sizeLine ∧ Nx (upd H4 D (.lst (acc ++ [y]))) else Nx H3) := by
  refine lc_it walk_rangeT (fun i H => Same H1 H ∧ H D = some (.lst ((List.range i).map f))) ⟨same_new hD, upd_same⟩ (fun i H _ h => hot.same h.1) ?_ (fun H h => hd H h.1 h.2)
  rintro i x H H' hi ⟨s, hz⟩ ⟨rfl, rfl⟩
  refine ⟨hw _, yes_it (he i _ hi s _ ⟨_, hz, ?_, same_mut s hD, ?_⟩)⟩
  · rw [List.length_map, List.length_range]
    exact small1000 (by omega)
  · rw [upd_same, List.range_succ, List.map_append]
    rfl
end
end Wl

/-! Defs that may raise: promises put together, called by name, the wishes. -/
namespace Wl
open PySem PySem.Spec PyProof.Rows L2
section
variable {P : Program} {w : World} {K : PySem.W.Frag} {mg : Str → Option Value} {base : Heap} {f : Addr} {fd : FuncData} {ps : List Str} {k j : Nat} {sp sp' : Sp} {CX : CXT}
/-- a def that lets nothing out, where exceptions are told -/
theorem FnOk_x (F : FnOk P w K mg base CX0 k f fd ps sp) : FnOk P w K mg base (L2N.CX P w) k f fd ps sp :=
  ⟨F.len, fun A outer s H args us vs Q E hr e0 hb r h => codeAny_mono (F.run A outer s H args us vs Q E hr e0 hb r h) fun r s' z => by
    cases r with
    | error e => exact False.elim z
    | ok fl => cases fl <;> exact z⟩
/-- two promises of one def -/
theorem FnOk_or (F : FnOk P w K mg base CX k f fd ps sp) (G : FnOk P w K mg base CX j f fd ps sp') : FnOk P w K mg base CX (max k j) f fd ps (fun vs H Q E => sp vs H Q E ∨ sp' vs H Q E) := by
  refine ⟨fun vs H Q E h => h.elim (F.len vs H Q E) (G.len vs H Q E), fun A outer s H args us vs Q E hr e0 hb r h => ?_⟩
  rcases h with h | h
  · exact F.run A outer s H args us vs Q E (hr.mono (Nat.le_max_left _ _)) e0 hb r h
  · exact G.run A outer s H args us vs Q E (hr.mono (Nat.le_max_right _ _)) e0 hb r h
theorem FnOk_xor (F : FnOk P w K mg base CX0 k f fd ps sp) (G : FnOk P w K mg base (L2N.CX P w) k f fd ps sp') : FnOk P w K mg base (L2N.CX P w) k f fd ps (fun vs H Q E => sp vs H Q E ∨ sp' vs H Q E) := by
  have z := FnOk_or (FnOk_x F) G
  rwa [Nat.max_self] at z
/-- as Fun.ok, for a def that may raise; what it raises has no context -/
theorem Fun_okN {x qual : Str} {st : Stmt} {N : List Str} (F : Fun K x qual st f fd) (S : FnScope N ps (defScope st)) (len : ∀ vs H Q E, sp vs H Q E → vs.length = ps.length)
    (hbody : ∀ (cdv : Value) (A : Around) (outer : List Env) (s : Shared) (H : Hp) (vs : List V) (Q : VK) (E : XK), Room k (A.deeper (envOfC qual (defScope st) s.heap.objs.size f cdv)) → sp vs H Q E →
      ∃ t, PSs (cxOf (L2N.CX P w) P w K mg base N qual (defScope st) f cdv A outer s H E) (defBody st) t ∧ t { nx := fun _ H' => Q .non H', rt := Q } (L2.start N vs) H) : FnOk P w K mg base (L2N.CX P w) (k + 1) f fd ps sp := by
  obtain ⟨oc, od, kV, doc, pm, an, cdv, ct, osl, rfl, lk, hcd⟩ := F.ex
  exact fn_of lk hcd S len fun A outer s H vs Q E hr hsp => hbody cdv A outer s H vs Q E hr hsp
def HasX (P : Program) (w : World) (K : PySem.W.Frag) (mg : Str → Option Value) (base : Heap) (x : Str) (k : Nat) (ps : List Str) (sp : Sp) : Prop :=
  ∃ f fd, FnOk P w K mg base (L2N.CX P w) k f fd ps sp ∧ mg x = some (.ref f) ∧ PySem.W.keepIn K (.ref f) = true ∧ Binds K fd ps []
def HasMX (P : Program) (w : World) (K : PySem.W.Frag) (mg : Str → Option Value) (base : Heap) (C : Addr) (m : Str) (k : Nat) (ps : List Str) (sp : Sp) : Prop :=
  ∃ f fd, FnOk P w K mg base (L2N.CX P w) k f fd ps sp ∧ Meth K C m f ∧ Binds K fd ps []
end
section
variable {X : Cx} {k j : Nat} {C : Addr} {ps : List Str} {sp : Sp} {x m : Str} {p pos apos : Pos} {e o : Expr} {es : List Expr} {ta : TE} {t : TA} {W : WX} {E : XK}
/-- what is wished, whatever the slots hold -/
def EW (n : Nat) (W : WX) : XK := fun cls d H => ∀ σ : L2.St, σ.length = n → W cls d σ H
theorem passU {n : Nat} (tk : L2N.Takes X W) (hn : X.N.length = n) : Passes (L2N.CX X.prog X.w) X (EW n W) := fun _ σ _ _ e s' I c => tk e s' (L2N.XE.of_call I (fun _ _ _ h => h σ (I.len.trans hn)) c)
theorem passE (tk : L2N.Takes X (fun cls d _ H => E cls d H)) : Passes (L2N.CX X.prog X.w) X E := fun _ _ _ _ e s' I c => tk e s' (L2N.XE.of_call (W := fun cls d _ H => E cls d H) I (fun _ _ _ h => h) c)
theorem pe_hx (h : HasX X.prog X.w X.K X.mg X.base x k ps sp) (hr : Room j X.A) (hx : Passes (L2N.CX X.prog X.w) X E) (ha : PA X (e :: es) t) (hkj : k ≤ j := by decide) (hg : Gl X x := by rfl) (hdb : (x == ("__debug__" : Str)) = false := by decide)
    (he : starEach (e :: es) X.env = (false, eval e X.env) :: starEach es X.env := by rfl) (hpl : (backTo pos (starEach es X.env)).any (·.1) = false := by rfl) :
    PE X (.Call (.Name x p) (e :: es) [] pos) (tCall sp [] E t) := by
  obtain ⟨f, fd, F, g, kp, b⟩ := h
  exact pe_call F (hr.mono hkj) hg g kp b .nil hx ha hdb he hpl
theorem pe_hmx {pl : Sem Bool} (h : HasMX X.prog X.w X.K X.mg X.base C m k ps sp) (c : Cls X.K C) (hr : Room j X.A) (hx : Passes (L2N.CX X.prog X.w) X E) (ho : PE X o ta) (ha : PA X (e :: es) t) (hkj : k ≤ j := by decide)
    (hst : starEach (e :: es) X.env = (false, eval e X.env) :: starEach es X.env := by rfl) (hpl : (backTo pos (starEach es X.env)).any (·.1) = false := by rfl)
    (ht : eval (.Call (.Attribute o m apos) (e :: es) [] pos) X.env = (do
      let ov ← eval o X.env
      standAt apos.atName
      let (f, first) ← holding [ov] (getMethod ov m pl)
      callWith pos f first (backTo pos (starEach (e :: es) X.env)) (backToKw pos (keywordEach [] X.env))) := by rfl) :
    PE X (.Call (.Attribute o m apos) (e :: es) [] pos) (tMeth C m sp [] E ta t) := by
  obtain ⟨f, fd, F, g, b⟩ := h
  exact pe_meth ho c g F (hr.mono hkj) b .nil hx ha hst hpl ht
theorem pe_hmx0 {pl : Sem Bool} (h : HasMX X.prog X.w X.K X.mg X.base C m k ps sp) (c : Cls X.K C) (hr : Room j X.A) (hx : Passes (L2N.CX X.prog X.w) X E) (ho : PE X o ta) (hkj : k ≤ j := by decide)
    (ht : eval (.Call (.Attribute o m apos) [] [] pos) X.env = (do
      let ov ← eval o X.env
      standAt apos.atName
      let (f, first) ← holding [ov] (getMethod ov m pl)
      callWith pos f first (backTo pos (starEach [] X.env)) (backToKw pos (keywordEach [] X.env))) := by rfl) :
    PE X (.Call (.Attribute o m apos) [] [] pos) (tMeth C m sp [] E ta tNil) := by
  obtain ⟨f, fd, F, g, b⟩ := h
  exact pe_meth0 ho c g F (hr.mono hkj) b .nil hx ht
end
end Wl

/-! xs.count(y), items and y flat. -/
namespace Wl
open PySem PySem.Spec PyProof.Rows L2
theorem countP_vals {y : V} {uy : Value} : ∀ {ys : List V} {its : List Value}, Vals ys its → ys.all flatV = true → (∀ z u, RelV z u → flatV z = true → eqU y u = eqV z y) → its.countP (eqU y) = ys.countP fun z => eqV z y
  | _, _, .nil, _, _ => rfl
  | _, _, .cons r t, f, k => by
    rw [List.all_cons, Bool.and_eq_true] at f
    rw [List.countP_cons, List.countP_cons, countP_vals (uy := uy) t f.2 k, k _ _ r f.1]
def rCntF (K : PySem.W.Frag) : V → List V → Hp → VK → Prop := fun x xs H Q => ∃ (a : Addr) (ys : List V) (y : V), x = V.ref a ∧ xs = [y] ∧ SqL K H a ys ∧ flatV y = true ∧ ys.all flatV = true ∧ Q (.int ((ys.countP fun z => eqV z y : Nat) : Int)) H
theorem mt_countF {X : Cx} : MtR X "list.count" (rCntF X.K) := by
  intro pins s σ H x xs v us Q I rx rxs h
  obtain ⟨a, ys, y, rfl, rfl, hs, fy, fys, q⟩ := h
  cases rx
  obtain ⟨uy, rfl, ry⟩ := rxs.one
  obtain ⟨its, rv, ⟨⟨cls, dd, data, sl⟩, n, ho, hc, hdn, hd⟩, hlen⟩ := I.list hs
  simp only at hc hd
  subst hc hd
  refine call_meets PySem.F.slot_list_count ⟨_, ho, rfl⟩ PySem.F.entry_list_count (PySem.F.args_list_count_2 _ _)
    (SeqAt.list_countAt a its.toArray n dd sl uy (eqU y)) ⟨ho, fun u' hu' => mem_eqAt ry fy rv fys u' (by simpa using hu'), ?_⟩
  have ec : its.toArray.toList.countP (eqU y) = ys.countP fun z => eqV z y := countP_vals (uy := uy) rv fys fun z u r f => eqU_of r f
  refine ⟨.int ((ys.countP fun z => eqV z y : Nat) : Int), H, I.tok _, ⟨s.toks, ?_⟩, q⟩
  rw [ec]
end Wl

/-! Of which class a caught exception is: what the laws' own sorting asks. -/
namespace Wl
open PySem PySem.Spec PyProof.Rows L2
/-- the program's exceptions, in their order -/
def exL : List Str := ["NoWord", "NoChanges", "NoText", "NoAge", "NoSure", "NoRings", "NoThings", "NoCount", "NoRow", "NoLand", "NoName", "NoGathering", "NoMap", "NoTelling", "NoBack", "Told", "Full", "Clash", "TooMany"]
def exN (i : Nat) : Str := exL.getD i ""
def baL : List Str := ["WordError", "LandError", "JoinError"]
def baN (i : Nat) : Str := baL.getD i ""
/-- which base the n-th has -/
def baOf (n : Nat) : Nat := if n ≤ 8 then 0 else if n ≤ 14 then 1 else 2
/-- the globals that hold the classes -/
structure SortG (mg : Str → Option Value) (ad bd : Nat → Addr) : Prop where
  own : ∀ i, i < 19 → mg (exN i) = some (.ref (ad i))
  bas : ∀ i, i < 3 → mg (baN i) = some (.ref (bd i))
  ve : mg "ValueError" = none
  le : mg "LookupError" = none
  ae : mg "ArithmeticError" = none
/-- C is the n-th class, as isinstance answers -/
structure SortC (K : PySem.W.Frag) (ad bd : Nat → Addr) (C : Addr) (n : Nat) : Prop where
  ex : ExK K C
  lt : n < 19
  own : ∀ i, i < 19 → PySem.W.kitOne K (.ref C) (.ref (ad i)) = some (decide (i = n))
  bas : ∀ i, i < 3 → PySem.W.kitOne K (.ref C) (.ref (bd i)) = some (decide (i = baOf n))
  ve : PySem.W.kitOne K (.ref C) (.type "ValueError") = some (decide (0 = baOf n))
  le : PySem.W.kitOne K (.ref C) (.type "LookupError") = some (decide (1 = baOf n))
  ae : PySem.W.kitOne K (.ref C) (.type "ArithmeticError") = some (decide (2 = baOf n))
/-- at e: a caught exception, the n-th -/
structure ExcAt (K : PySem.W.Frag) (ad bd : Nat → Addr) (H : Hp) (e : Addr) (n : Nat) : Prop where
  ex : ∃ (C : Addr) (d : Option Addr), H e = some (exH e (.ref C) d) ∧ DxOk H d ∧ SortC K ad bd C n
theorem ExcAt.same {K : PySem.W.Frag} {ad bd : Nat → Addr} {H H' : Hp} {e : Addr} {n : Nat} (h : ExcAt K ad bd H e n) (s : Same H H') : ExcAt K ad bd H' e n := by
  obtain ⟨C, d, h1, h2, h3⟩ := h.ex
  refine ⟨C, d, s _ _ h1, fun dd e => ?_, h3⟩
  obtain ⟨fs, q⟩ := h2 dd e
  exact ⟨fs, s _ _ q⟩
theorem ExcAt.hot {K : PySem.W.Frag} {ad bd : Nat → Addr} {H : Hp} {e : Addr} {n : Nat} (h : ExcAt K ad bd H e n) : HotH e H := by
  obtain ⟨C, d, h1, _⟩ := h.ex
  exact ⟨_, _, h1⟩
/-- isinstance(e, c) of it -/
abbrev tIs (K : PySem.W.Frag) (i : Nat) (c : V) : TE := tCB (rIsX K) (tCons (tVar i) (tCons (tC c) tNil))
section
variable {K : PySem.W.Frag} {ad bd : Nat → Addr} {H : Hp} {e : Addr} {n j : Nat} {σ : L2.St} {R : VK}
theorem is_own (i : Nat) (h : ExcAt K ad bd H e n) (h0 : σ[j]? = some (some (.ref e))) (hi : i < 19) (q : R (.bl (decide (i = n))) H) : tIs K j (.ref (ad i)) σ H R := by
  obtain ⟨C, d, h1, h2, h3⟩ := h.ex
  exact ⟨_, h0, e, C, d, _, _, _, rfl, h1, h2, h3.ex, .own _, h3.own i hi, q⟩
theorem is_bas (i : Nat) (h : ExcAt K ad bd H e n) (h0 : σ[j]? = some (some (.ref e))) (hi : i < 3) (q : R (.bl (decide (i = baOf n))) H) : tIs K j (.ref (bd i)) σ H R := by
  obtain ⟨C, d, h1, h2, h3⟩ := h.ex
  exact ⟨_, h0, e, C, d, _, _, _, rfl, h1, h2, h3.ex, .own _, h3.bas i hi, q⟩
theorem is_ve (h : ExcAt K ad bd H e n) (h0 : σ[j]? = some (some (.ref e))) (q : R (.bl (decide (0 = baOf n))) H) : tIs K j (.ty "ValueError") σ H R := by
  obtain ⟨C, d, h1, h2, h3⟩ := h.ex
  exact ⟨_, h0, e, C, d, _, _, _, rfl, h1, h2, h3.ex, .ty _, h3.ve, q⟩
theorem is_le (h : ExcAt K ad bd H e n) (h0 : σ[j]? = some (some (.ref e))) (q : R (.bl (decide (1 = baOf n))) H) : tIs K j (.ty "LookupError") σ H R := by
  obtain ⟨C, d, h1, h2, h3⟩ := h.ex
  exact ⟨_, h0, e, C, d, _, _, _, rfl, h1, h2, h3.ex, .ty _, h3.le, q⟩
theorem is_ae (h : ExcAt K ad bd H e n) (h0 : σ[j]? = some (some (.ref e))) (q : R (.bl (decide (2 = baOf n))) H) : tIs K j (.ty "ArithmeticError") σ H R := by
  obtain ⟨C, d, h1, h2, h3⟩ := h.ex
  exact ⟨_, h0, e, C, d, _, _, _, rfl, h1, h2, h3.ex, .ty _, h3.ae, q⟩
end
section
variable {X : Cx} {ad bd : Nat → Addr} {j : Nat} {x y z : Str} {p q r s pos : Pos}
/-- the terms of isinstance(e, ..) -/
theorem pe_own (i : Nat) (B : X.mg "isinstance" = none) (G : SortG X.mg ad bd) (hi : i < 19) (hg : Gl X (exN i)) (hN : X.N[j]? = some y) (hv : Vis X.env.scope y) (g1 : Gl X "isinstance" := by rfl) (h1 : (y == ("__debug__" : Str)) = false := by decide) (h2 : (y == ("__classdict__" : Str)) = false := by decide)
    (h3 : (exN i == ("__debug__" : Str)) = false := by decide)
    (he : starEach [.Name y q, .Name (exN i) r] X.env = [(false, eval (.Name y q) X.env), (false, eval (.Name (exN i) r) X.env)] := by rfl) : PE X (.Call (.Name "isinstance" p) [.Name y q, .Name (exN i) r] [] pos) (tIs X.K j (.ref (ad i))) :=
  pe_callB call_isX g1 B (by decide +kernel) (pa_cons (pe_var hN hv h1 h2) (pa_cons (pe_glob (v := .ref (ad i)) hg (G.own i hi) rfl h3) pa_nil) he)
end
def kinds (n : Nat) : List V := (List.range 19).map fun i => .bl (decide (i = n))
theorem kinds_flat (n : Nat) (h : n < 19) : (kinds n).all flatV = true := by
  have : ∀ m : Fin 19, (kinds m.1).all flatV = true := by decide +kernel
  exact this ⟨n, h⟩
theorem kinds_count (n : Nat) (h : n < 19) : (kinds n).countP (fun z => eqV z (.bl true)) = 1 := by
  have : ∀ m : Fin 19, (kinds m.1).countP (fun z => eqV z (.bl true)) = 1 := by decide +kernel
  exact this ⟨n, h⟩
theorem kinds_at (n : Nat) (h : n < 19) : (kinds n)[n]? = some (.bl true) := by
  unfold kinds
  rw [List.getElem?_map, List.getElem?_range h]
  simp
theorem kinds_none (n : Nat) (h : n < 19) (m : Nat) (z : V) (hm : m < n) (hz : (kinds n)[m]? = some z) : eqV z (.bl true) = false := by
  unfold kinds at hz
  rw [List.getElem?_map, List.getElem?_range (by omega)] at hz
  have e : z = .bl (decide (m = n)) := (Option.some.inj hz).symm
  rw [e, decide_eq_false (by omega)]
  decide +kernel
end Wl

/-! A deed tried: what it does, or what refuses it. -/
namespace Wl
open PySem PySem.Spec PyProof.Rows L2
/-- what the deeds that stand left: the tellings, the Gathering's own deeds, the tellings ahead of each -/
inductive Hist (H : Hp) : List Tel → List V → List (List Tel) → Prop
  | nil : Hist H [] [] []
  | put {ts : List Tel} {ds : List V} {past : List (List Tel)} (t : Tel) (h : Hist H ts ds past) : Hist H (ts ++ [t]) (ds ++ [.non]) (past ++ [ts])
  | cut {ts : List Tel} {ds : List V} {past : List (List Tel)} {i : Nat} {t : Tel} {q pa : Addr} (h : Hist H ts ds past) (e : ts[i]? = some t) (hq : H q = some (.tup [.int (i : Int), .ref pa])) (hp : H pa = some (.tup (telV t))) : Hist H (ts.eraseIdx i) (ds ++ [.ref q]) (past ++ [ts])
theorem Hist.keep {H H' : Hp} {ts : List Tel} {ds : List V} {past : List (List Tel)} (h : Hist H ts ds past) (k : TupKeep H H') : Hist H' ts ds past := by
  induction h with
  | nil => exact .nil
  | put t _ ih => exact .put t ih
  | cut _ e hq hp ih => exact .cut ih e (k _ _ hq) (k _ _ hp)
theorem Hist.len {H : Hp} {ts : List Tel} {ds : List V} {past : List (List Tel)} (h : Hist H ts ds past) : ds.length = past.length := by
  induction h with
  | nil => rfl
  | put t _ ih => rw [List.length_append, List.length_append, ih]; rfl
  | cut _ e hq hp ih => rw [List.length_append, List.length_append, ih]; rfl
theorem Hist.inv {H : Hp} {ts : List Tel} {ds : List V} {past : List (List Tel)} (h : Hist H ts ds past) : (ds = [] ∧ past = []) ∨ ∃ ts0 ds0 past0, Hist H ts0 ds0 past0 ∧ past = past0 ++ [ts0] ∧
    ((∃ t, ts = ts0 ++ [t] ∧ ds = ds0 ++ [.non]) ∨ ∃ (i : Nat) (t : Tel) (q pa : Addr), ts0[i]? = some t ∧ ts = ts0.eraseIdx i ∧ ds = ds0 ++ [.ref q] ∧ H q = some (.tup [.int (i : Int), .ref pa]) ∧ H pa = some (.tup (telV t))) := by
  cases h with
  | nil => exact .inl ⟨rfl, rfl⟩
  | put t h => exact .inr ⟨_, _, _, h, rfl, .inl ⟨t, rfl, rfl⟩⟩
  | cut h e hq hp => exact .inr ⟨_, _, _, h, rfl, .inr ⟨_, _, _, _, e, rfl, rfl, hq, hp⟩⟩
/-- tellings as they may stand -/
structure Fine (g : Grid) (ts : List Tel) : Prop where
  ok : ∀ t ∈ ts, OkT t
  vs : ∀ t ∈ ts, t.v ∈ names g
  nd : (ts.map keyS).Nodup
def notKey (t : Tel) (u : Tel) : Bool := decide (keyS u ≠ keyS t)
theorem cut_filter {t : Tel} : ∀ {l : List Tel} {i : Nat}, (l.map keyS).Nodup → (l.findIdx? fun u => decide (keyS u = keyS t)) = some i → l.eraseIdx i = l.filter (notKey t)
  | [], i, _, h => by simp at h
  | u :: l, i, nd, h => by
    rw [List.map_cons, List.nodup_cons] at nd
    rw [List.findIdx?_cons] at h
    by_cases e : keyS u = keyS t
    · rw [decide_eq_true e, if_pos rfl] at h
      cases h
      rw [List.eraseIdx_zero, List.tail_cons, List.filter_cons_of_neg (by unfold notKey; simp [e]), List.filter_eq_self.mpr fun v hv => ?_]
      unfold notKey
      exact decide_eq_true fun e2 => nd.1 (by rw [e, ← e2]; exact List.mem_map.mpr ⟨v, hv, rfl⟩)
    · rw [decide_eq_false e, if_neg (by decide)] at h
      obtain ⟨j, hj, rfl⟩ := Option.map_eq_some_iff.mp h
      rw [List.eraseIdx_cons_succ, List.filter_cons_of_pos (by unfold notKey; simp [e]), cut_filter nd.2 hj]
section
variable {P : Program} {w : World} {K : PySem.W.Frag} {mg : Str → Option Value} {base : Heap} {f C D cT cX cB cJ cL : Addr} {fd : FuncData}
/-- the Gathering behind a deed that is let -/
structure Went (C D : Addr) (p : Addr) (r r' : GR) (past' : List (List Tel)) (H' : Hp) : Prop where
  gat : GatAt C D H' p r'
  td : r'.td = r.td
  dd : r'.dd = r.dd
  g : r'.g = r.g
  pl : r'.pl = r.pl
  hist : Hist H' r'.ts r'.ds past'
end
end Wl



/-! repr of data of any depth: a text that the data alone says. -/
namespace Wl
open PySem PySem.Spec PyProof.Rows L2
/-- data that can be shown -/
structure Shows (d : PyData) : Prop where
  lay : PyData.canLay0 d = true
  deep : d.depth ≤ 8
  wgt : d.weight ≤ 2 ^ 20
  sh : d.showable = true
  ish : d.intsShort 13 = true
theorem Shows.size {d : PyData} (h : Shows d) : d.shown.length ≤ sizeLine := by
  have h1 : PyData.layable0 d = true := by
    show (PyData.canLay0 d && decide (PyData.depth d ≤ 64) && decide (PyData.weight d ≤ 2 ^ 20)) = true
    rw [h.lay, decide_eq_true (Nat.le_trans h.deep (by decide)), decide_eq_true h.wgt]
    rfl
  exact Nat.le_trans (shown_le13 h1 h.ish) (by decide)
section
variable {X : Cx}
def rReprD (K : PySem.W.Frag) : List V → Hp → VK → Prop := fun xs H Q => ∃ (a : Addr) (d : PyData), xs = [V.ref a] ∧ Dp K H (.ref a) d ∧ Shows d ∧ Q (.str d.shown) H
theorem cr_reprD (hg : X.A.guards = some []) (hu : X.A.units + 64 < cLine) : CallR X (.builtin "repr") (rReprD X.K) := by
  intro pins s σ H xs us Q I r h
  obtain ⟨a, d, rfl, hd, hs, q⟩ := h
  rw [Vals.ref1 r]
  obtain ⟨as, r1⟩ := Dp.reads I d (.ref a) (.ref a) hd rfl
  have := hs.deep
  refine repr_of_reads' r1 hs.sh (PyData.noDict_hsm (PyData.hasDict_of_canLay d hs.lay)) hg (by omega) (fun _ _ e => e) (fun h' u tk hk => ?_) hs.size
  exact ⟨.str _, H, I.kept hk, ⟨u, rfl⟩, q⟩
end
end Wl

/-! Promises of defs that are kept where no text of a list, tuple or dict is being made around them: what repr of a list needs. -/
namespace Wl
open PySem PySem.Spec PyProof.Rows L2
structure FnOkG (P : Program) (w : World) (K : PySem.W.Frag) (mg : Str → Option Value) (base : Heap) (k : Nat) (f : Addr) (fd : FuncData) (ps : List Str) (sp : Sp) : Prop where
  len : ∀ vs H Q E, sp vs H Q E → vs.length = ps.length
  run : ∀ (A : Around) (outer : List Env) (s : Shared) (H : Hp) (args : Args) (us : List Value) (vs : List V) (Q : VK) (E : XK), A.guards = some [] → Room k A →
    Env0 P w K mg base A outer s H → BindsTo s fd args (ps.zip us) → Vals vs us → sp vs H Q E → codeAny (model P w) A (.call (.ref f) args) (CR CX0 outer P w H s Q E) s
section
variable {P : Program} {w : World} {K : PySem.W.Frag} {mg : Str → Option Value} {base : Heap} {k : Nat} {f : Addr} {fd : FuncData} {ps N : List Str} {sp : Sp}
theorem FnOkG.of (F : FnOk P w K mg base CX0 k f fd ps sp) : FnOkG P w K mg base k f fd ps sp := ⟨F.len, fun A o s H ar us vs Q E _ => F.run A o s H ar us vs Q E⟩
/-- a def's promise by its body, no such text being made -/
theorem okG {x qual : Str} {st : Stmt} (F : Fun K x qual st f fd) (S : FnScope N ps (defScope st)) (ln : ∀ vs H Q E, sp vs H Q E → vs.length = ps.length)
    (bd : ∀ (cdv : Value) (A : Around) (outer : List Env) (s : Shared) (H : Hp) (vs : List V) (Q : VK) (E : XK), A.guards = some [] → Room k (A.deeper (envOfC qual (defScope st) s.heap.objs.size f cdv)) → sp vs H Q E →
      ∃ t, PSs (cxOf CX0 P w K mg base N qual (defScope st) f cdv A outer s H E).nox (defBody st) t ∧ t { nx := fun _ H' => Q .non H', rt := Q } (start N vs) H) : FnOkG P w K mg base (k + 1) f fd ps sp := by
  obtain ⟨oc, od, kV, doc, pm, an, cd, ct, sl, rfl, at_, hc⟩ := F.ex
  refine ⟨ln, fun A ou s H ar us vs Q E hg room ev bnd rel pr => ?_⟩
  have lv := ln _ _ _ _ pr
  have inK : K.In s.heap := ev.mod.kin.keeps fun b o q => (ev.bs b o q).1
  have nol : s.heap.NoLimit := ev.mod.nolimit.keeps fun b o q => (ev.bs b o q).1
  refine codeAny_call_function room.depth (inK _ _ at_) rfl S.co S.gen rfl (PySem.W.codeRec_of inK hc) (bnd _ _ _ _ ?_)
  refine wpAny_newFunctionEnv_cells S.kind (fun y hy => ?_) fun env ee s1 ic => ?_
  · rcases S.par y.1 (List.of_mem_zip hy).1 with q | q
    · exact .inl q
    · exact .inr ⟨q, PySem.W.cellsFrom_some _ _ _ (.inl q)⟩
  · subst ee
    refine ⟨nol.keeps ic.toInCall.keep, codeAny_func ?_⟩
    obtain ⟨t, der, rd⟩ := bd cd A ou s H vs Q E hg (room.deeper _) pr
    have J0 : L2.Inv (cxOf CX0 P w K mg base N qual (defScope st) f cd A ou s H E) [] (start N vs) H s1 := inv_start S room.hd ev lv rel ic
    refine wpAny_mono (der.nox.run [] s1 (start N vs) H _ J0 rd) (fun fl s2 z => ?_) fun _ _ z => z
    cases fl with
    | ret u => exact let ⟨v, _, H2, J, rv, q⟩ := z; ⟨v, H2, J.os, J.bare, J.base, J.hok, rv, q⟩
    | next => exact let ⟨_, H2, J, q⟩ := z; ⟨V.non, H2, J.os, J.bare, J.base, J.hok, rfl, q⟩
    | brk => exact let ⟨_, _, _, q⟩ := z; q.elim
    | cont => exact let ⟨_, _, _, q⟩ := z; q.elim
/-- such a def by its name -/
def HasQ (P : Program) (w : World) (K : PySem.W.Frag) (mg : Str → Option Value) (base : Heap) (x : Str) (k : Nat) (ps : List Str) (sp : Sp) : Prop :=
  ∃ f fd, FnOkG P w K mg base k f fd ps sp ∧ mg x = some (.ref f) ∧ PySem.W.keepIn K (.ref f) = true ∧ Binds K fd ps []
end
section
variable {X : Cx} {k j : Nat} {ps : List Str} {sp : Sp} {x : Str} {p pos : Pos} {e : Expr} {es : List Expr} {t : TA}
theorem pe_hQ (h : HasQ X.prog X.w X.K X.mg X.base x k ps sp) (hgd : X.A.guards = some []) (hr : Room j X.A) (ha : PA X (e :: es) t) (hkj : k ≤ j := by decide) (hg : Gl X x := by rfl) (hdb : (x == ("__debug__" : Str)) = false := by decide)
    (he : starEach (e :: es) X.env = (false, eval e X.env) :: starEach es X.env := by rfl) (hpl : (backTo pos (starEach es X.env)).any (·.1) = false := by rfl) :
    PE X (.Call (.Name x p) (e :: es) [] pos) (tCall sp [] E0 t) := by
  obtain ⟨f, fd, F, g, kp, b⟩ := h
  refine ⟨fun pins s σ H Q I hh => ?_⟩
  refine wpAny_Call_Name_kw (ld_glob I hg g ?_ hdb)
  refine PySem.W.callWith_K (h₀ := X.base) I.ok.mod.kin kp (thn (ha.run pos pins s σ H _ I hh) fun us s1 ⟨vs, H1, I1, r, q⟩ => ⟨I1.kIn, ?_⟩) he hpl
  have q' : sp vs H1 Q E0 := by
    have z : sp (vs ++ []) H1 Q E0 := q
    rw [List.append_nil] at z
    exact z
  have hl := F.len _ _ _ _ q'
  have hb' : BindsTo s1 fd ⟨us, []⟩ (ps.zip us) := by
    have z := b s1 us I1.kIn (by rw [List.append_nil, ← r.length]; exact hl)
    rw [List.append_nil] at z
    exact z
  refine wpAny_call (codeAny_mono (F.run X.A X.stack s1 H1 ⟨us, []⟩ us vs _ E0 hgd (hr.mono hkj) I1.env0 hb' r q') fun r s' hq => ?_)
  cases r with
  | error e => exact pass0 pins σ H1 s1 e s' I1 hq
  | ok fl =>
    cases fl with
    | ret w => exact I1.after hq
    | next => exact hq.elim
    | brk => exact hq.elim
    | cont => exact hq.elim
end
/-- the law's own call, by such a promise -/
theorem law_callG {P : Program} {w : World} {K : PySem.W.Frag} {mg mb : Str → Option Value} {k : Nat} {fa a : Addr} {fd : FuncData} {x : Str} {sp : Sp} {s₁ : Shared} {vs : List Value} {ns : List Int}
    (KX : K.In s₁.heap) (hns : s₁.heap.Ns mainGlobals mg) (hb : s₁.heap.Ns builtinsNs mb) (hbb : ∀ x : Str, x ≠ "__name__" → mb x = bootBuiltins x) (lim : s₁.heap.NoLimit) (gens : s₁.gens = #[])
    (ha : s₁.heap.get? a = some { cls := .type "list", data := .seq vs.toArray }) (hi : IntsAre vs ns) (hl : ns.length ≤ sizeLine) (room : Room k callerA)
    (F : ∀ base : Heap, K.In base → base.Ns mainGlobals mg → FnOkG P w K mg base k fa fd [x] sp) (bnd : ∀ (s : Shared) (u : Value), BindsTo s fd ⟨[u], []⟩ [(x, u)])
    (pr : ∀ H : Hp, Only H → SqL K H a (ns.map V.int) → sp [.ref a] H (fun v _ => v = .bl true) E0) :
    codeAny (model P w) callerA (.call (.ref fa) ⟨[.ref a], []⟩) (fun r s' => r = .ok (.ret (.bool true)) ∧ OldK s₁.heap s'.heap ∧ s'.os = s₁.os ∧ AllBare s'.gens) s₁ := by
  have rv := vals_ints hi
  have main : ∀ H : Hp, Only H → SqL K H a (ns.map V.int) → HOk P w H s₁.heap → (∀ b u, H b = some u → b = a ∧ K.lookup a = none) →
      codeAny (model P w) callerA (.call (.ref fa) ⟨[.ref a], []⟩) (fun r s' => r = .ok (.ret (.bool true)) ∧ OldK s₁.heap s'.heap ∧ s'.os = s₁.os ∧ AllBare s'.gens) s₁ := by
    intro H only sq hok own
    have free : ∀ b, (b = a → K.lookup a ≠ none) → H b = none := fun b hn => by
      cases q : H b with
      | none => rfl
      | some u => exact absurd (own b u q).2 (hn (own b u q).1)
    have dictN : ∀ {b : Addr} {o : Obj} {es : Array DictEntry} {ep : Nat}, s₁.heap.get? b = some o → o.data = .dict es ep → H b = none := fun {b o es ep} e d => by
      cases q : H b with
      | none => rfl
      | some u =>
        obtain ⟨rfl, _⟩ := own b u q
        rw [ha] at e
        cases e
        cases d
    have nsB : ∀ {b : Addr} {m : Str → Option Value}, s₁.heap.Ns b m → (hidT s₁.heap H).Ns b m := fun {b m} ⟨o, es, ep, e, d, r⟩ => ⟨o, es, ep, hidT_get e (dictN e d), d, r⟩
    have kB : K.In (hidT s₁.heap H) := fun b o e => hidT_get (KX b o e) (free b fun z q => by rw [z, q] at e; cases e)
    have md : Mod K mg (hidT s₁.heap H) := ⟨kB, nsB hns, ⟨mb, nsB hb, hbb⟩, let ⟨mc, h1, h2⟩ := lim; ⟨mc, nsB h1, h2⟩⟩
    have ev : Env0 P w K mg (hidT s₁.heap H) callerA [] s₁ H := ⟨rfl, md, fun _ _ e => of_hidT e, Nat.le_of_eq (hidT_size _ _), trivial, fun b z => absurd (show b ∈ ([] : List Addr) from z) (by simp), hok, .of_eq gens⟩
    refine codeAny_mono ((F _ kB (nsB hns)).run callerA [] s₁ H ⟨[.ref a], []⟩ [.ref a] [.ref a] _ _ rfl room ev (bnd s₁ (.ref a)) (.cons rfl .nil) (pr H only sq)) fun r s' h => ?_
    match r, h with
    | .error e, h => exact (show False from h).elim
    | .ok .next, h => exact h.elim
    | .ok .brk, h => exact h.elim
    | .ok .cont, h => exact h.elim
    | .ok (.ret u), ⟨v, H', os, bare, un, hok', r', q⟩ =>
      obtain rfl : v = .bl true := q
      obtain rfl : u = Value.bool true := r'
      refine ⟨rfl, OldK.of_keep fun b o e => ?_, os, bare⟩
      rcases only b with z | ⟨ob, xs, z⟩
      · exact un.keep b o e z (fun y => absurd (show b ∈ ([] : List Addr) from y) (by simp)) (by simp)
      · have e1 := (hok b _ z).1
        rw [e] at e1
        cases e1
        exact (hok' b _ (un.frzs b _ _ z)).1
  cases hk : K.lookup a with
  | some o =>
    have e := KX a o hk
    rw [ha] at e
    cases e
    refine main (fun _ => none) (fun _ => .inl rfl) (.inr ⟨_, vs.toArray, _, hk, rfl, rfl, rfl, ?_, by simpa using rv⟩) (fun b u z => nomatch z) fun b u z => nomatch z
    rw [List.size_toArray, hi.length]
    exact hl
  | none =>
    have at_ : ∀ b u, (if b = a then some (HO.frz { cls := .type "list", data := .seq vs.toArray } (.lst (ns.map V.int))) else none) = some u → b = a ∧ u = HO.frz { cls := .type "list", data := .seq vs.toArray } (.lst (ns.map V.int)) := fun b u z => by
      by_cases c : b = a
      · rw [if_pos c] at z
        exact ⟨c, (Option.some.inj z).symm⟩
      · rw [if_neg c] at z
        cases z
    refine main (fun b => if b = a then some (.frz { cls := .type "list", data := .seq vs.toArray } (.lst (ns.map V.int))) else none) (fun b => ?_) (.inl (.inr ⟨_, if_pos rfl⟩)) (fun b u z => ?_) fun b u z => ⟨(at_ b u z).1, hk⟩
    · by_cases c : b = a
      · exact .inr ⟨_, _, if_pos c⟩
      · exact .inl (if_neg c)
    · obtain ⟨rfl, rfl⟩ := at_ b u z
      exact ⟨ha, by rw [List.length_map]; exact hl, vs, _, rv, ha⟩
theorem walk_ofG {l : PySem.W.OpenLaw} {n k : Nat} {q : Program} {loose : List Str} {XP : (Str → Option Value) → Heap → Prop} {YP : World → Heap → Prop} {d : DefRec} {x : Str}
    (hn : l.most = some n) (hn2 : n ≤ sizeLine) (hdf : d.params.defaults = []) (hr : Room k callerA)
    (F : ∀ (w : World) (mg : Str → Option Value) (fa : Addr) (h : Heap), YP w h → h.Ns mainGlobals mg → mg d.name = some (.ref fa) →
      ∃ (K : PySem.W.Frag) (fd : FuncData) (sp : Sp), K.In h ∧ (∀ (s : Shared) (u : Value), BindsTo s fd ⟨[u], []⟩ [(x, u)]) ∧ (∀ (H : Hp) (a : Addr) (ns : List Int), ns.length ≤ n → Only H → SqL K H a (ns.map V.int) → sp [.ref a] H (fun v _ => v = .bl true) E0) ∧
        ∀ base : Heap, K.In base → base.Ns mainGlobals mg → FnOkG l.prog w K mg base k fa fd [x] sp) :
    PySem.W.WalkO q loose XP YP l.row.toRowW d [] (fun f vs => PySem.call f vs) := by
  refine Att.attach_call hn hdf fun w s₀ s₁ mg mb fa o pm cd doc a vs ns G Y ho hd hcd hmg hobj hints hlen hg => ?_
  obtain ⟨K, fd, sp, inK, bnd, pr, keeps⟩ := F w mg fa _ Y G.T.g hmg
  exact law_callG inK G.T.g G.T.b G.T.builtins G.T.nolimit hg hobj hints (Nat.le_trans hlen hn2) hr keeps bnd fun H only sq => pr H a ns hlen only sq
end Wl

/-! What a Gathering tells, held against what was kept. -/
namespace Wl
open PySem PySem.Spec PyProof.Rows L2
theorem wgt_strs : ∀ {ws : List Str}, (∀ z ∈ ws, IsWd z) → PyData.weightAll (ws.map PyData.str) ≤ 9 * ws.length
  | [], _ => by simp [PyData.weightAll]
  | z :: ws, h => by
    have h1 := wgt_strs (ws := ws) fun y hy => h y (List.mem_cons_of_mem _ hy)
    have h2 := (h z List.mem_cons_self).len
    have h3 : z.cps.size ≤ 8 := h2.2
    simp only [List.map_cons, PyData.weightAll, PyData.weight, List.length_cons]
    omega
theorem show_strs : ∀ ws : List Str, PyData.showableAll (ws.map PyData.str) = true
  | [] => by simp [PyData.showableAll]
  | z :: ws => by simp [PyData.showableAll, PyData.showable, show_strs ws]
theorem short_strs : ∀ ws : List Str, PyData.intsShortAll 13 (ws.map PyData.str) = true
  | [] => by simp [PyData.intsShortAll]
  | z :: ws => by simp [PyData.intsShortAll, PyData.intsShort, short_strs ws]
theorem shows_strs {ws : List Str} (h : ∀ z ∈ ws, IsWd z) (hl : ws.length ≤ 200) : Shows (.tuple (ws.map PyData.str)) := by
  refine ⟨by simpa [PyData.canLay0] using lay_strs h, ?_, ?_, by simpa [PyData.showable] using show_strs ws, by simpa [PyData.intsShort] using short_strs ws⟩
  · simp only [PyData.depth, depth_strs]
    omega
  · have := wgt_strs h
    simp only [PyData.weight]
    omega
theorem tel_shows {t : Tel} (h : OkT t) : PyData.canLay0 (telD t) = true ∧ (telD t).depth = 1 ∧ (telD t).weight ≤ 60 ∧ (telD t).showable = true ∧ (telD t).intsShort 13 = true := by
  have la : PyData.canLay0 (telD t) = true := lay_tel h
  have len8 : ∀ {z : Str}, IsWd z → z.cps.size ≤ 8 := fun h => h.len.2
  have w1 := len8 h.v
  have w2 := len8 h.th
  have w3 := len8 h.wo
  have w4 := len8 h.tl
  have w5 := len8 h.g
  have ag := h.age
  have key : ∀ n : Nat, n ≤ 120 → PyData.weight (.int (n : Int)) ≤ 8 ∧ PyData.showable (.int (n : Int)) = true ∧ PyData.intsShort 13 (.int (n : Int)) = true := by decide +kernel
  obtain ⟨k1, k2, k3⟩ := key t.age ag
  refine ⟨la, by simp [telD, PyData.depth, PyData.depthAll], ?_, ?_, ?_⟩
  · show PyData.weightAll [.str t.v, .str t.th, .str t.wo, .str t.tl, .int (t.age : Int), .str t.g, .bool t.sure] ≤ 60
    simp only [PyData.weightAll]
    have e : ∀ z : Str, PyData.weight (.str z) = z.cps.size := fun z => by simp only [PyData.weight]
    have eb : PyData.weight (.bool t.sure) = 0 := by simp only [PyData.weight]
    rw [e, e, e, e, e, eb]
    omega
  · show PyData.showableAll [.str t.v, .str t.th, .str t.wo, .str t.tl, .int (t.age : Int), .str t.g, .bool t.sure] = true
    simp only [PyData.showableAll, k2]
    simp [PyData.showable]
  · show PyData.intsShortAll 13 [.str t.v, .str t.th, .str t.wo, .str t.tl, .int (t.age : Int), .str t.g, .bool t.sure] = true
    simp only [PyData.intsShortAll, k3]
    simp [PyData.intsShort]
theorem tels_shows {ts : List Tel} (h : ∀ t ∈ ts, OkT t) (hl : ts.length ≤ 200) : Shows (.list (ts.map telD)) := by
  have key : ∀ {ts : List Tel}, (∀ t ∈ ts, OkT t) → PyData.weightAll (ts.map telD) ≤ 61 * ts.length ∧ PyData.showableAll (ts.map telD) = true ∧ PyData.intsShortAll 13 (ts.map telD) = true := by
    intro ts
    induction ts with
    | nil => exact fun _ => ⟨by simp [PyData.weightAll], by simp [PyData.showableAll], by simp [PyData.intsShortAll]⟩
    | cons t ts ih =>
      intro h
      obtain ⟨i1, i2, i3⟩ := ih fun u hu => h u (List.mem_cons_of_mem _ hu)
      obtain ⟨_, _, t1, t2, t3⟩ := tel_shows (h t List.mem_cons_self)
      refine ⟨?_, ?_, ?_⟩
      · simp only [List.map_cons, PyData.weightAll, List.length_cons]
        omega
      · rw [List.map_cons, PyData.showableAll, t2, i2]
        rfl
      · rw [List.map_cons, PyData.intsShortAll, t3, i3]
        rfl
  obtain ⟨k1, k2, k3⟩ := key h
  refine ⟨by simpa [PyData.canLay0] using lay_tels h, ?_, ?_, by simpa [PyData.showable] using k2, by simpa [PyData.intsShort] using k3⟩
  · have := depth_tels ts
    simp only [PyData.depth]
    omega
  · simp only [PyData.weight]
    omega
theorem tels_byV {H : Hp} {g : Tel → Str} {as : List Addr} {ts : List Tel} (h : TelsAt H as ts) : (as.map V.ref).map (fun x => V.str (telBy H g x)) = (ts.map g).map V.str := by
  rw [← tels_by h (g := g), List.map_map, List.map_map, List.map_map]
  rfl
theorem le_land {C : Addr} {H : Hp} {p L q M : Addr} {g g' : Grid} {wd wd' : Nat} {Q : VK} (h1 : LandAt C H p L g) (gd : Good g wd) (h2 : LandAt C H q M g') (gd' : Good g' wd') (k : Q (.bl (decide (g = g'))) H) : spLEq C [.ref p, .ref q] H Q E0 := ⟨p, L, q, M, g, g', wd, wd', rfl, h1, gd, h2, gd', k⟩
section
variable {P : Program} {w : World} {K : PySem.W.Frag} {mg : Str → Option Value} {base : Heap} {f C D : Addr} {fd : FuncData}
end
end Wl



namespace Wl
open PySem PySem.Spec PyProof.Rows L2
abbrev sBasket : Stmt := topS 53
section
variable {P : Program} {w : World} {K : PySem.W.Frag} {mg : Str → Option Value} {base : Heap} {f C D : Addr} {fd : FuncData}
/-- a basket and what was kept: tellings of the pools, no key twice -/
structure BasI (g : Grid) (p4 : List Str) (C D : Addr) (H0 H : Hp) (a p kp : Addr) (r : GR) (bs : List Addr) : Prop where
  pu : PurseAt H a
  sx : SameX a H0 H
  gat : GatAt C D H p r
  rg : r.g = g
  kept : KeptAt H kp bs r.ts
  ok : ∀ t ∈ r.ts, OkT t
  vs : ∀ t ∈ r.ts, t.v ∈ names g
  gs : ∀ t ∈ r.ts, t.g ∈ p4
  nd : (r.ts.map keyS).Nodup
  f1 : H0 r.td = none
  f2 : H0 r.dd = none
  f3 : H0 kp = none
  n1 : kp ≠ r.td
  n2 : kp ≠ r.dd
  dl : r.ds.length = r.ts.length
def spBasket (C D : Addr) : Sp := fun vs H Q _ => ∃ (a L F : Addr) (g : Grid) (wd n : Nat) (as : List Addr) (p1 p2 p3 p4 : List Str), vs = [.ref a, .ref L, .ref F, .int (n : Int)] ∧ n ≤ 20 ∧ PurseAt H a ∧ GridAt H L g ∧ Good g wd ∧ PoolsAt H F as [sortS (names g), p1, p2, p3, p4] ∧ F ≠ a ∧ (∀ p ∈ as, p ≠ a) ∧ (∀ ws ∈ [sortS (names g), p1, p2, p3, p4], OkW ws) ∧
  ∀ (R p kp : Addr) (r : GR) (bs : List Addr) (H' : Hp), BasI g p4 C D H H' a p kp r bs → r.ts.length ≤ n → H R = none → H' R = some (.lst [.ref p, .ref kp]) → Q (.ref R) H'
abbrev nBasket : List Str := ["_law_purse_here", "_law_lots", "_law_pools_here", "_law_count", "_law_basket_here", "_law_kept", "_law_k", "_law_row_here", "_law_old"]
theorem scBasket : FnScope nBasket ["_law_purse_here", "_law_lots", "_law_pools_here", "_law_count"] (defScope sBasket) := ⟨rfl, rfl, rfl, by decide +kernel, rfl, by decide +kernel, by decide +kernel⟩
theorem ok_basket (F : Fun K "_law_basket" "_law_basket" sBasket f fd) (B : Bi mg) (T : Txt K mg C) (TG : TxtG K mg D) (hI : HasI P w K mg base C) (hGi : HasG P w K mg base C D) (hRow : Has P w K mg base "_law_row" 2 ["_law_purse_here", "_law_pools_here"] spRow)
    (hKey : Has P w K mg base "_law_key" 1 ["_law_row_here"] spKeyOf) (hPut : Has P w K mg base "_law_put" 5 ["_law_basket_here", "_law_row_here", "_law_way"] (spLPut C D)) : FnOk P w K mg base CX0 6 f fd ["_law_purse_here", "_law_lots", "_law_pools_here", "_law_count"] (spBasket C D) := by
  obtain ⟨fI, fdI, MI, GI, bI⟩ := hI
  obtain ⟨fG, fdG, MG, GG, bG⟩ := hGi
  refine F.ok scBasket (fun vs H Q E h => ?_) (fun cdv A outer s H vs Q E hr h => ?_)
  · obtain ⟨a, L, F, g, wd, n, as, p1, p2, p3, p4, rfl, _⟩ := h
    rfl
  · obtain ⟨a, L, Fp, g, wd, n, as, p1, p2, p3, p4, rfl, hn, hA, hGr, gd, hPo, nF, na, hok, q⟩ := h
    have hu65 : (A.deeper (envOfC "_law_basket" (defScope sBasket) s.heap.objs.size f cdv)).units + 65 < cLine := by have := hr.un; omega
    refine ⟨_, pss_cons (ps_par (i := 4) (j := 5) (by rfl) scBasket.nd rfl rfl (by decide) rfl rfl (pa_cons (pe_make MG GG (hr.mono (by decide)) rfl TG.mgD bG .nil pass0 (pa_cons (pe_make MI GI (hr.mono (by decide)) rfl T.mgC bI .nil pass0 (pa_cons (pv 1) pa_nil)) pa_nil)) (pa_cons (pe_lst pa_nil) pa_nil)) (by rfl))
      (pss_cons (ps_for PassesOwn.never rfl (pi_range1 rfl B.range (pa_cons (pv 3) pa_nil)) (pg_name (i := 6) scBasket.nd rfl (.inl rfl))
        (pss_cons (ps_set (i := 7) scBasket.nd rfl (.inl rfl) (pe_h hRow hr (pa_cons (pv 0) (pa_cons (pv 2) pa_nil))))
        (pss_one (ps_if (pt_cmpR (op_notInD hu65) (pe_h hKey hr (pa_cons (pv 7) pa_nil)) (pe_lc (own := [("_law_old", 8)]) (g := gName 8) (tt := tYes) (te := tCall spKeyOf [] E0 (tCons (tVar 8) tNil)) rfl scBasket.nd (pi_list (pv 5)) (blkOk_by (N := nBasket) (sc := defScope sBasket) (by decide +kernel)) (fun _ _ _ _ _ => pg_name (i := 8) scBasket.nd rfl (.inl rfl)) (fun _ _ _ _ _ => pts_nil) (fun _ _ _ _ _ => pe_h hKey hr (pa_cons (pv 8) pa_nil))) (by rfl))
          (pss_cons (ps_expr (pe_h hPut hr (pa_cons (pv 4) (pa_cons (pv 7) (pa_cons (pe_op op_mod (pv 6) pe_int) pa_nil)))))
          (pss_one (ps_expr (pe_bm PySem.F.plainAttrs_list PySem.F.slot_list_append PySem.F.type_list_append mt_append (pv 5) (pa_cons (pv 7) pa_nil))))) pss_nil))))
      (pss_one (ps_ret (pe_lst (pa_cons (pv 4) (pa_cons (pv 5) pa_nil)))))), ?_⟩
    -- Gathering(Land(lots)), []
    refine ⟨_, rfl, fun pl dl npl ndl nel => ?_⟩
    have kp1 : TupKeep H (upd (upd H dl (.own pl)) pl (.ins C dl [])) := fun b xs h => by
      rw [upd_ne (ne_of_none h npl), upd_ne (ne_of_none h ndl)]
      exact h
    refine ⟨pl, dl, L, g, wd, rfl, upd_same, hGr.keep kp1, gd, fun H1 k1 hLa1 => ⟨rfl, ?_⟩⟩
    have s1 := made_same npl ndl k1
    intro p dp np ndp nep
    have s2 : Same H1 (upd (upd H1 dp (.own p)) p (.ins D dp [])) := fun b o e => by
      rw [upd_ne (ne_of_none e np), upd_ne (ne_of_none e ndp)]
      exact e
    have npp : p ≠ pl := fun e => by
      obtain ⟨_, _, h1⟩ := hLa1.ins
      rw [← e, np] at h1
      cases h1
    refine ⟨p, dp, pl, L, g, rfl, upd_same, hLa1.same s2, npp, fun td dd H2 htd hdd k2 hG2 => ⟨rfl, ?_⟩⟩
    have s12 : Same H1 H2 := fun b o e => k2 b o (ne_of_none e np) (s2 b o e)
    have s02 := s1.trans s12
    have htd0 : H td = none := s1.free (s2.free htd)
    have hdd0 : H dd = none := s1.free (s2.free hdd)
    refine ⟨lz, fun kp hkp => ⟨_, _, rfl, ?_⟩⟩
    have s3 := same_new (o := .lst []) hkp
    have hk3 : upd H2 kp (.lst []) kp = some (.lst []) := upd_same
    have hG3 := hG2.same s3
    have s03 := s02.trans s3
    have hkp0 : H kp = none := s02.free hkp
    have nk1 : kp ≠ td := fun e => by
      have := hG2.told
      rw [← e] at this
      rw [hkp] at this
      cases this
    have nk2 : kp ≠ dd := fun e => by
      have := hG2.deeds
      rw [← e] at this
      rw [hkp] at this
      cases this
    generalize upd H2 kp (.lst []) = H3 at hk3 hG3 s03
    have I0 : BasI g p4 C D H H3 a p kp ⟨pl, L, td, dd, g, [], [], []⟩ [] := ⟨hA.same s03, sx s03, hG3, rfl, ⟨hk3, .nil⟩, fun t ht => by simp at ht, fun t ht => by simp at ht, fun t ht => by simp at ht, List.nodup_nil, htd0, hdd0, hkp0, nk1, nk2, rfl⟩
    refine ⟨_, rfl, (n : Int), rfl, by omega, by omega, for_range (lo := 0) (n := n) (fun i σ H' => (∃ y6 y7 y8, σ = [some (.ref a), some (.ref L), some (.ref Fp), some (.int (n : Int)), some (.ref p), some (.ref kp), y6, y7, y8]) ∧ ∃ r bs, BasI g p4 C D H H' a p kp r bs ∧ r.ts.length ≤ i)
      ⟨⟨_, _, _, rfl⟩, _, _, I0, Nat.le_refl 0⟩ ?_ ?_⟩
    · rintro i σ H4 hi ⟨⟨y6, y7, y8, rfl⟩, r, bs, I, hl⟩
      have ntd : r.td ≠ a := hA.ne I.f1
      have ndd : r.dd ≠ a := hA.ne I.f2
      have nkp : kp ≠ a := hA.ne I.f3
      refine ⟨_, rfl, _, rfl, a, Fp, as, _, p1, p2, p3, p4, rfl, I.pu, hPo.x I.sx nF na, nF, na, hok, fun rp t H5 nrp okt v0 m1 m2 m3 m4 hrp hA5 x5 => ?_⟩
      have hG5 := I.gat.x I.pu x5 ntd ndd
      obtain ⟨pys, hpu⟩ := I.pu.lst
      have hk5 : KeptAt H5 kp bs r.ts := ⟨x5 _ _ nkp I.kept.at_, I.kept.tels.keep (tk_x x5 hpu)⟩
      have x05 := I.sx.trans x5
      refine ⟨_, rfl, rp, t, rfl, hrp, fun u hu => ?_⟩
      have s6 := same_new (o := .tup (keyV t)) hu
      have hu6 : upd H5 u (.tup (keyV t)) u = some (.tup (keyV t)) := upd_same
      generalize upd H5 u (.tup (keyV t)) = H6 at s6 hu6
      have hk6 : H6 kp = some (.lst (bs.map V.ref)) := s6 _ _ hk5.at_
      have ht6 := hk5.tels.keep (tk_same s6)
      have lb : bs.length = r.ts.length := hk5.tels.length
      refine ⟨_, rfl, kp, rfl, ⟨_, .inl (.inl hk6)⟩, fun Dd hD => ?_⟩
      refine lc_rel (walk_list (K := K) (a := kp) (xs := bs.map V.ref)) hD (fun _ => true) (fun x z H' => ∀ (pt : Addr) (t' : Tel), x = .ref pt → H6 pt = some (.tup (telV t')) → ∃ k, z = .ref k ∧ H' k = some (.tup (keyV t'))) (fun H' s' => .inl (.inl (s' _ _ hk6))) (fun _ => rfl) (fun x H' _ _ Q' q' => q') ?_ ?_ ?_ ?_
      · intro x H' hx _ s' Q' q'
        obtain ⟨pt, hpt, rfl⟩ := List.mem_map.mp hx
        obtain ⟨j, hj, ej⟩ := List.mem_iff_getElem.mp hpt
        obtain ⟨t', ht', hH⟩ := Each.get ht6 (i := j) (a := pt) (by rw [List.getElem?_eq_getElem hj, ej])
        refine ⟨_, rfl, pt, t', rfl, s' _ _ hH, fun k hk => q' _ _ (same_new hk) fun pt2 t2 e2 h2 => ⟨k, rfl, ?_⟩⟩
        obtain rfl : pt = pt2 := V.ref.inj e2
        rw [hH] at h2
        rw [upd_same, telV_inj (HO.tup.inj (Option.some.inj h2))]
      · intro x y H' H'' acc hacc xs' rr pt t' e h
        obtain ⟨k, rfl, hk⟩ := rr pt t' e h
        exact ⟨k, rfl, xs' _ _ (ne_of hk hacc (by intro z; cases z)) hk⟩
      · rw [List.length_map]
        exact small1000 (by omega)
      · intro zs H7 s7 hD7 he
        rw [List.filter_eq_self.mpr fun _ _ => rfl] at he
        have dpk := keys_dp (K := K) ht6 he
        refine ⟨.tuple ((keyS t).map .str), r.ts.map kD, .tup (.inl (.inl (s7 _ _ hu6))) (dp_strs (keyS t)), .lst (.inl (.inl hD7)) dpk, shaped_strs okt.key, shaped_list (lay_keys I.ok) (by have := depth_keys r.ts; omega), _, rfl, ?_⟩
        rw [any_keys]
        have s57 := s6.trans s7
        have hG7 := hG5.same s57
        have hA7 := hA5.same s57
        have hk7 : KeptAt H7 kp bs r.ts := ⟨s57 _ _ hk5.at_, hk5.tels.keep (tk_same s57)⟩
        have x07 := x05.trans (sx s57)
        refine not_b (fun e => ?_) (fun e => ?_)
        · have hnew := of_decide_eq_false e
          refine ⟨_, rfl, _, rfl, _, rfl, _, _, rfl, rfl, (show (0 : Int) < 5 by decide), p, rp, _, r, wd, t, rfl, s57 _ _ hrp, hG7, by rw [I.rg]; exact gd, I.ok, okt, by rw [I.rg]; exact mem_sortS.mp v0, hnew, by omega, by rw [I.dl]; omega, fun q1 H8 nq m8 hG8 => ?_⟩
          have hk8 := m8 _ _ I.n1 I.n2 hk7.at_
          have k8 : Keep H7 H8 := kp_2 m8 hG7.told hG7.deeds
          have hrp8 := k8.tk _ _ (s57 _ _ hrp)
          refine ⟨_, rfl, .inl ⟨rfl, _, .inl (.inl hk8)⟩, _, rfl, kp, _, _, rfl, rfl, hk8, ?_, ⟨_, _, _, rfl⟩, r.add q1 t, bs ++ [rp], ?_, ?_⟩
          · rw [List.length_map]
            exact small1000 (by omega)
          · have k9 := kp_upd (o := .lst (bs.map V.ref ++ [V.ref rp])) hk8
            refine ⟨?_, ?_, hG8.keep k9 ((upd_ne (H := H8) (o := .lst (bs.map V.ref ++ [V.ref rp])) I.n1.symm).trans hG8.told) ((upd_ne (H := H8) (o := .lst (bs.map V.ref ++ [V.ref rp])) I.n2.symm).trans hG8.deeds), I.rg, ⟨?_, ?_⟩, ?_, ?_, ?_, ?_, I.f1, I.f2, I.f3, I.n1, I.n2, ?_⟩
            · obtain ⟨y0, y1, y2, hy, hy1⟩ := hA7
              exact ⟨y0, y1, y2, by rw [upd_ne nkp.symm]; exact m8 _ _ ntd.symm ndd.symm hy, hy1⟩
            · intro c o n1 e
              rw [upd_ne (ne_of_none e I.f3)]
              exact m8 _ _ (ne_of_none e I.f1) (ne_of_none e I.f2) (x07 c o n1 e)
            · rw [upd_same, List.map_append]
              rfl
            · exact Each.append (hk7.tels.keep (k8.trans k9).tk) (.cons (k9.tk _ _ hrp8) .nil)
            · intro z hz
              rcases List.mem_append.mp hz with hz | hz
              · exact I.ok z hz
              · rw [List.mem_singleton.mp hz]
                exact okt
            · intro z hz
              rcases List.mem_append.mp hz with hz | hz
              · exact I.vs z hz
              · rw [List.mem_singleton.mp hz]
                exact mem_sortS.mp v0
            · intro z hz
              rcases List.mem_append.mp hz with hz | hz
              · exact I.gs z hz
              · rw [List.mem_singleton.mp hz]
                exact m4
            · show ((r.ts ++ [t]).map keyS).Nodup
              rw [List.map_append, List.nodup_append]
              refine ⟨I.nd, by simp, fun x hx y hy e => ?_⟩
              rw [List.map_singleton, List.mem_singleton] at hy
              rw [e, hy] at hx
              exact hnew hx
            · show (r.ds ++ [V.non]).length = (r.ts ++ [t]).length
              rw [List.length_append, List.length_append, I.dl]
              rfl
          · show (r.ts ++ [t]).length ≤ i + 1
            rw [List.length_append]
            simp only [List.length_cons, List.length_nil]
            omega
        · exact ⟨⟨_, _, _, rfl⟩, r, bs, ⟨hA7, x07, hG7, I.rg, hk7, I.ok, I.vs, I.gs, I.nd, I.f1, I.f2, I.f3, I.n1, I.n2, I.dl⟩, by omega⟩
    · rintro σ H4 ⟨⟨y6, y7, y8, rfl⟩, r, bs, I, hl⟩
      refine ⟨_, rfl, _, rfl, lz, fun R hR => ?_⟩
      have s5 := same_new (o := .lst [V.ref p, V.ref kp]) hR
      have nRa : R ≠ a := I.pu.ne hR
      refine q R p kp r bs _ ⟨I.pu.same s5, I.sx.trans (sx s5), I.gat.same s5, I.rg, ⟨s5 _ _ I.kept.at_, I.kept.tels.keep (tk_same s5)⟩, I.ok, I.vs, I.gs, I.nd, I.f1, I.f2, I.f3, I.n1, I.n2, I.dl⟩ hl (SameX.free I.sx nRa hR) upd_same
end
end Wl


/-! Lambdas with parameters: made, kept as values, told by a promise. -/
namespace Wl
open PySem PySem.Spec PyProof.Rows L2 LamX NdefX
/-- what a lambda is made of: all but its body as a nested def's words (those without statements), and the body -/
structure LF where
  nf : NF
  body : Expr
abbrev LF.fd (F : LF) (pm ctv : Value) : FuncData := PySem.W.kla_fn "<lambda>" F.nf.qual F.nf.params F.body F.nf.scope F.nf.cl pm (.ref F.nf.c) ctv
abbrev LF.ob (F : LF) (pm ctv : Value) : Obj := { cls := .type "function", data := .func (F.fd pm ctv) }
def LmO (f : Addr) (F : LF) : HO := .ext fun g => ∃ pm ctv : Value, g.get? f = some (F.ob pm ctv)
theorem lmO_tbl {f : Addr} {F : LF} (ps : Array Value) : LmO f F ≠ .tbl ps := fun e => by
  unfold LmO at e
  cases e
theorem lmO_lst {f : Addr} {F : LF} (xs : List V) : LmO f F ≠ .lst xs := fun e => by
  unfold LmO at e
  cases e
theorem codeO_lst {c : Addr} {q : Str} (xs : List V) : CodeO c q ≠ .lst xs := fun e => by
  unfold CodeO at e
  cases e
/-- the function at f is the lambda F -/
structure LmAt (H : Hp) (f : Addr) (F : LF) : Prop where
  fn : H f = some (LmO f F)
  cd : H F.nf.c = some (CodeO F.nf.c F.nf.qual)
theorem LmAt.ext {H H' : Hp} {f : Addr} {F : LF} (h : LmAt H f F) (e : ExtN H H') : LmAt H' f F := ⟨e _ _ h.fn lmO_tbl, e _ _ h.cd codeO_ne⟩
theorem LmAt.mv {H H' : Hp} {f : Addr} {F : LF} (h : LmAt H f F) (e : ∀ b o, (∀ xs, o ≠ .lst xs) → (∀ ps, o ≠ .tbl ps) → H b = some o → H' b = some o) : LmAt H' f F := ⟨e _ _ lmO_lst lmO_tbl h.fn, e _ _ codeO_lst codeO_ne h.cd⟩
theorem lm_obj {P : Program} {w : World} {H : Hp} {h : Heap} {f : Addr} {F : LF} (ok : HOk P w H h) (e : LmAt H f F) : ∃ pm ctv : Value, h.get? f = some (F.ob pm ctv) := (ok f _ e.fn).1
section
variable {X : Cx} {pins : List (Addr × Obj)} {σ : L2.St} {H : Hp} {s : Shared}
/-- a lambda's object that has just been laid is known -/
theorem inv_lm {F : LF} {tk : Nat} {pm ctv : Value} (I : Inv X pins σ H s) : Inv X pins σ (upd H s.heap.objs.size (LmO s.heap.objs.size F)) { s with heap := s.heap.push (F.ob pm ctv), toks := tk } := by
  have at_ : (s.heap.push (F.ob pm ctv)).get? s.heap.objs.size = some (F.ob pm ctv) := Heap.get?_push_size _ rfl
  refine I.laid (fun b u q => Heap.get?_push_of_some _ q) (Nat.le_refl _) ⟨⟨pm, ctv, at_⟩, ⟨_, at_⟩, ?_⟩
  rintro g g' ⟨a, b, e⟩ st
  exact ⟨a, b, st _ e⟩
/-- «lambda ..: body» is made: its code is new, or it stands in the table -/
theorem lm_make {T : List (Addr × Str)} {c P : Addr} {params : Arguments} {body : Expr} {scope : Scope} {pos : Pos} {E Q : Value → Shared → Prop} (I : Inv X pins σ H s) (B : TabB X.base X.mg c P) (cd : X.env.code = .ref c)
    (mT : (P, X.env.qual ++ "<lambda>") ∈ T) (uT : ∀ p ∈ T, p.1 = P → p.2 = X.env.qual ++ "<lambda>") (tT : Tabs T H) (d0 : defaultsOf params X.env = ([], [])) (fr : ∀ y ∈ scope.names, y.2 = .free → ∃ d, X.env.cells.lookup y.1 = some d)
    (go : ∀ (f c' : Addr) (H1 : Hp) (s1 : Shared), Inv X pins σ H1 s1 → ExtN H H1 → (∀ b, H1 b = none → H b = none) → Tabs T H1 → H f = none → LmAt H1 f ⟨⟨"<lambda>", X.env.qual ++ "<lambda>", params, [], scope, cloFrom X.env.cells scope.names [], c'⟩, body⟩ → Q (.ref f) s1) :
    wpAny (model X.prog X.w) X.A (eval (.Lambda params body scope pos) X.env) Q E s := by
  obtain ⟨ps, tP, trip, among⟩ := tT _ mT
  have bP : s.heap.BuiltinsAt X.mg P := B.bm.keeps I.bk
  have oP : s.heap.get? P = some { cls := .none, data := .fields ps } := I.hok P _ tP
  refine PySem.W.kla_eval d0 ?_
  cases hit : codeAmong pos ps.toList with
  | some cv =>
    obtain ⟨c', rfl, kc⟩ := among pos cv hit
    refine PySem.W.kla_makeFunctionHit (mg := X.mg) (c := c) (P := P) (ps := ps) (closure_ok fr) I.ok.glob (I.mod.glob.keeps I.bk) cd (B.code.keeps I.bk) oP trip hit bP fun ctv g tk old _ => ?_
    have I1 : Inv X pins σ H { s with heap := g, toks := tk } := I.kept old
    have new : H g.objs.size = none := I1.hok.fresh (Nat.le_refl _)
    have I2 := inv_lm (F := ⟨⟨"<lambda>", X.env.qual ++ "<lambda>", params, [], scope, cloFrom X.env.cells scope.names [], c'⟩, body⟩) (tk := tk) (pm := (X.mg "__name__").getD .none) (ctv := ctv) I1
    have up : ∀ b o, H b = some o → upd H g.objs.size (LmO g.objs.size ⟨⟨"<lambda>", X.env.qual ++ "<lambda>", params, [], scope, cloFrom X.env.cells scope.names [], c'⟩, body⟩) b = some o := fun b o e => (upd_ne (ne_of_none e new)).trans e
    exact go g.objs.size c' _ _ I2 (fun b o e _ => up b o e) (fun b e => upd_none e) (tT.ext up) new ⟨upd_same, up _ _ kc⟩
  | none =>
    refine PySem.W.kla_makeFunction (mg := X.mg) (c := c) (P := P) (ps := ps) (closure_ok fr) I.ok.glob (I.mod.glob.keeps I.bk) cd (B.code.keeps I.bk) oP trip hit B.gP bP fun c' ctv g tk old ge lt rc tb => ?_
    obtain ⟨c2, oc, us, t, e2, hoc, hd, hv⟩ := rc
    cases e2
    have nC : H c' = none := I.hok.fresh ge
    have I1 := inv_table (t' := tk) (more := #[rawInt pos.line, rawInt pos.col, .ref c']) (h' := g) I tP (fun b o hb e => old b o hb e) tb ge ⟨oc, us, t, hoc, hd, hv⟩
    have nP : ∀ b o, (∀ q, o ≠ .tbl q) → H b = some o → b ≠ P := fun b o n e z => n ps (Option.some.inj (e.symm.trans (by rw [z]; exact tP)))
    have keep1 : ExtN H (upd (upd H P (.tbl (ps ++ #[rawInt pos.line, rawInt pos.col, .ref c']))) c' (CodeO c' (X.env.qual ++ "<lambda>"))) := fun b o e n => by
      rw [upd_ne (ne_of_none e nC), upd_ne (nP b o n e)]
      exact e
    have lst : (ps ++ #[rawInt pos.line, rawInt pos.col, .ref c']).toList = ps.toList ++ [rawInt pos.line, rawInt pos.col, .ref c'] := by simp
    have tabs1 : Tabs T (upd (upd H P (.tbl (ps ++ #[rawInt pos.line, rawInt pos.col, .ref c']))) c' (CodeO c' (X.env.qual ++ "<lambda>"))) := fun p hp => by
      by_cases same : p.1 = P
      · rw [uT p hp same, same]
        refine ⟨ps ++ #[rawInt pos.line, rawInt pos.col, .ref c'], ?_, ?_, fun p' cv z => ?_⟩
        · rw [upd_ne (ne_of_none tP nC)]
          exact upd_same
        · rw [lst]
          exact PySem.TriplesOk_snoc _ _ _ _ trip
        · rw [lst] at z
          rcases among_app _ trip z with z | rfl
          · obtain ⟨c0, rfl, k0⟩ := among p' cv z
            exact ⟨c0, rfl, keep1 _ _ k0 codeO_ne⟩
          · exact ⟨c', rfl, upd_same⟩
      · obtain ⟨qs, a1, a2, a3⟩ := tT p hp
        refine ⟨qs, ?_, a2, fun p' cv z => ?_⟩
        · rw [upd_ne (ne_of_none a1 nC), upd_ne same]
          exact a1
        · obtain ⟨c0, rfl, k0⟩ := a3 p' cv z
          exact ⟨c0, rfl, keep1 _ _ k0 codeO_ne⟩
    have new := I1.hok.fresh (Nat.le_refl g.objs.size)
    have I2 := inv_lm (F := ⟨⟨"<lambda>", X.env.qual ++ "<lambda>", params, [], scope, cloFrom X.env.cells scope.names [], c'⟩, body⟩) (tk := tk) (pm := (X.mg "__name__").getD .none) (ctv := ctv) I1
    refine go g.objs.size c' _ _ I2 (fun b o e n => ?_) (fun b e => upd_none (upd_none (upd_none e))) (tabs1.ext fun b o e => ?_) (I.hok.fresh (Nat.le_trans ge (Nat.le_of_lt lt))) ⟨upd_same, ?_⟩
    · exact (upd_ne (ne_of_none (keep1 b o e n) new)).trans (keep1 b o e n)
    · exact (upd_ne (ne_of_none e new)).trans e
    · exact (upd_ne (Nat.ne_of_lt lt)).trans upd_same
end
/-- «lambda ..: body» as an expression -/
def tLam (T : List (Addr × Str)) (mk : Addr → LF) : TE := fun _ H Q => Tabs T H ∧ ∀ (f c' : Addr) (H1 : Hp), ExtN H H1 → (∀ b, H1 b = none → H b = none) → Tabs T H1 → H f = none → LmAt H1 f (mk c') → Q (.ref f) H1
theorem pe_lam {X : Cx} {T : List (Addr × Str)} {c P : Addr} {params : Arguments} {body : Expr} {scope : Scope} {pos : Pos} (B : TabB X.base X.mg c P) (cd : X.env.code = .ref c) (mT : (P, X.env.qual ++ "<lambda>") ∈ T) (uT : ∀ p ∈ T, p.1 = P → p.2 = X.env.qual ++ "<lambda>")
    (fr : ∀ y ∈ scope.names, y.2 = .free → X.env.scope.names.lookup y.1 = some .cell ∨ X.env.scope.names.lookup y.1 = some .free) (d0 : defaultsOf params X.env = ([], []) := by rfl) :
    PE X (.Lambda params body scope pos) (tLam T fun c' => ⟨⟨"<lambda>", X.env.qual ++ "<lambda>", params, [], scope, cloFrom X.env.cells scope.names [], c'⟩, body⟩) := by
  refine ⟨fun pins s σ H Q I h => ?_⟩
  have has : ∀ y ∈ scope.names, y.2 = .free → ∃ d, X.env.cells.lookup y.1 = some d := fun y hy e => (fr y hy e).elim (fun z => I.ok.has _ (.inl z)) fun z => I.ok.has _ (.inr z)
  exact lm_make I B cd mT uT h.1 d0 has fun f c' H1 s1 I1 e n t new at_ => ⟨.ref f, H1, I1, rfl, h.2 f c' H1 e n t new at_⟩
/-! ### its promise -/
/-- the promise of the lambda F at f; ws: what its captured cells hold -/
structure NvOk (P : Program) (w : World) (K : PySem.W.Frag) (mg : Str → Option Value) (base : Heap) (k : Nat) (f : Addr) (F : LF) (ps fr : List Str) (sp : List (Option V) → Sp) : Prop where
  len : ∀ ws vs H Q, sp ws vs H Q E0 → vs.length = ps.length
  run : ∀ (A : Around) (outer : List Env) (s : Shared) (H : Hp) (us : List Value) (vs : List V) (ws : List (Option V)) (Q : VK), Room k A → Env0 P w K mg base A outer s H → LmAt H f F → CellsAt F.nf.cl fr ws s.heap H →
    Vals vs us → sp ws vs H Q E0 → codeAny (model P w) A (.call (.ref f) ⟨us, []⟩) (CR CX0 outer P w H s Q E0) s
section
variable {P : Program} {w : World} {K : PySem.W.Frag} {mg : Str → Option Value} {base : Heap} {N ps fr : List Str} {F : LF} {f : Addr} {k j : Nat} {sp : List (Option V) → Sp}
theorem NvOk.mono (o : NvOk P w K mg base j f F ps fr sp) (h : j ≤ k) : NvOk P w K mg base k f F ps fr sp := ⟨o.len, fun A u s H us vs ws Q room => o.run A u s H us vs ws Q (room.mono h)⟩
/-- a lambda's promise by its body -/
theorem nv_of (S : NScope N ps fr F.nf.scope) (hb : ∀ (pm ctv : Value) (us : List Value), us.length = ps.length → bindArgs (F.fd pm ctv) ⟨us, []⟩ = pure (ps.zip us)) (len : ∀ ws vs H Q, sp ws vs H Q E0 → vs.length = ps.length)
    (bd : ∀ (A : Around) (outer : List Env) (s : Shared) (H : Hp) (vs : List V) (ws : List (Option V)) (Q : VK), Room k (A.deeper (envF F.nf f s.heap.objs.size)) → LmAt H f F → ws.length = fr.length → sp ws vs H Q E0 →
      ∃ t, PE (ncx CX0 P w K mg base N F.nf f A outer s H E0) F.body t ∧ t (startF N vs ws) H Q) : NvOk P w K mg base (k + 1) f F ps fr sp := by
  refine ⟨len, fun A outer s H us vs ws Q room ev at_ cells rel pr => ?_⟩
  have lv := len _ _ _ _ pr
  have lim : s.heap.NoLimit := ev.mod.nolimit.keeps fun b o q => (ev.bs b o q).1
  obtain ⟨pm, ctv, ho⟩ := lm_obj ev.hok at_
  refine PySem.W.kla_callFunE room.depth ho rfl S.co S.gen rfl (codeO_at ev.hok at_.cd) ?_
  rw [hb pm ctv us (by rw [← rel.length]; exact lv)]
  refine wpAny_pure (wpAny_newFunctionEnv S.nocell (fun y hy => S.par y.1 (List.of_mem_zip hy).1) (fun g ns sb => ⟨lim.fresh _ sb, ?_⟩) S.kind)
  show codeAny _ _ (.expr F.body (envF F.nf f s.heap.objs.size)) _ _
  have old : ∀ b o, s.heap.get? b = some o → g.get? b = some o := fun b o q => sb.extBut b o (Nat.ne_of_lt (Heap.lt_size q)) (Heap.get?_push_of_some _ q)
  obtain ⟨t, der, rd⟩ := bd A outer s H vs ws Q (room.deeper _) at_ cells.len pr
  have J : Inv (ncx CX0 P w K mg base N F.nf f A outer s H E0) [] (startF N vs ws) H { s with heap := g, toks := s.toks + (ps.zip us).length } := inv_startN S room.hd ev lv rel cells ns old
  refine PySem.W.kla_codeExpr (wpAny_mono (der.run [] _ (startF N vs ws) H Q J rd) (fun u s2 z => ?_) fun _ _ z => z)
  obtain ⟨v, H2, J2, rv, q⟩ := z
  exact ⟨v, H2, J2.os, J2.bare, J2.base, J2.hok, rv, q⟩
end
/-- all but lists and tables stays -/
def KeepR (H H' : Hp) : Prop := ∀ b o, (∀ xs, o ≠ .lst xs) → (∀ ps, o ≠ .tbl ps) → H b = some o → H' b = some o
theorem KeepR.refl (H : Hp) : KeepR H H := fun _ _ _ _ e => e
theorem KeepR.trans {H H1 H2 : Hp} (a : KeepR H H1) (b : KeepR H1 H2) : KeepR H H2 := fun c o n m e => b c o n m (a c o n m e)
theorem KeepR.of {H H' : Hp} (e : ExtN H H') : KeepR H H' := fun b o _ m z => e b o z m
theorem KeepR.tup {H H' : Hp} {b : Addr} {xs : List V} (k : KeepR H H') (e : H b = some (.tup xs)) : H' b = some (.tup xs) := k _ _ (fun _ z => by cases z) (fun _ z => by cases z) e
/-- a value that may be called, its promise: here, and wherever all but lists and tables stands as here -/
structure FunV (P : Program) (w : World) (K : PySem.W.Frag) (mg : Str → Option Value) (base : Heap) (H : Hp) (k : Nat) (f : Addr) (sp : Sp) : Prop where
  go : ∀ (H1 : Hp), KeepR H H1 → ∀ (A : Around) (outer : List Env) (s : Shared) (us : List Value) (vs : List V) (Q : VK), Room k A → Env0 P w K mg base A outer s H1 → Vals vs us → sp vs H1 Q E0 →
    codeAny (model P w) A (.call (.ref f) ⟨us, []⟩) (CR CX0 outer P w H1 s Q E0) s
  isf : ∀ (H1 : Hp) (h : Heap), KeepR H H1 → HOk P w H1 h → K.In h → PySem.W.FnAt f h
section
variable {P : Program} {w : World} {K : PySem.W.Frag} {mg : Str → Option Value} {base : Heap} {H H' : Hp} {k j : Nat} {f : Addr} {sp : Sp}
theorem FunV.mv (h : FunV P w K mg base H k f sp) (e : KeepR H H') : FunV P w K mg base H' k f sp := ⟨fun H1 k1 => h.go H1 (e.trans k1), fun H1 g k1 => h.isf H1 g (e.trans k1)⟩
theorem FunV.ext (h : FunV P w K mg base H k f sp) (e : ExtN H H') : FunV P w K mg base H' k f sp := h.mv (.of e)
theorem cells_nil {h : Heap} : CellsAt [] [] [] h H := ⟨rfl, fun y c e => (nomatch e), fun x y c e => (nomatch e), fun i y e => (nomatch (show (none : Option Str) = some y from by simpa using e))⟩
/-- a lambda that captured nothing -/
theorem FunV.lam {F : LF} {ps : List Str} (a : LmAt H f F) (b : F.nf.cl = []) (c : NvOk P w K mg base k f F ps [] fun _ => sp) : FunV P w K mg base H k f sp := by
  refine ⟨fun H1 k1 A outer s us vs Q room ev rel pr => c.run A outer s H1 us vs [] Q room ev (a.mv k1) ?_ rel pr, fun H1 h k1 ok _ => ?_⟩
  · rw [b]
    exact cells_nil
  · obtain ⟨pm, ctv, ho⟩ := lm_obj ok (a.mv k1)
    exact ⟨_, _, _, _, ho⟩
/-- a def of the program -/
theorem FunV.def_ {fd : FuncData} {ps : List Str} (Fn : FnOk P w K mg base CX0 k f fd ps sp) (bd : L2.Binds K fd ps []) (at_ : ∃ oc od fd' sl, K.lookup f = some ⟨oc, od, .func fd', sl⟩) : FunV P w K mg base H k f sp := by
  refine ⟨fun H1 _ A outer s us vs Q room ev rel pr => ?_, fun H1 h _ _ inK => ?_⟩
  · have inK : K.In s.heap := ev.mod.kin.keeps fun b o q => (ev.bs b o q).1
    have lv := Fn.len _ _ _ _ pr
    have z := bd s us inK (by rw [List.append_nil, ← rel.length]; exact lv)
    rw [List.append_nil] at z
    exact Fn.run A outer s H1 ⟨us, []⟩ us vs Q E0 room ev z rel pr
  · obtain ⟨oc, od, fd', sl, e⟩ := at_
    exact ⟨_, _, _, _, inK _ _ e⟩
theorem FunV.run (h : FunV P w K mg base H k f sp) {A : Around} {outer : List Env} {s : Shared} {us : List Value} {vs : List V} {Q : VK} (room : Room j A) (hk : k ≤ j) (ev : Env0 P w K mg base A outer s H) (rel : Vals vs us) (pr : sp vs H Q E0) :
    codeAny (model P w) A (.call (.ref f) ⟨us, []⟩) (CR CX0 outer P w H s Q E0) s := h.go H (.refl H) A outer s us vs Q (room.mono hk) ev rel pr
theorem FunV.at_ {X : Cx} {pins : List (Addr × Obj)} {σ : L2.St} {s : Shared} (h : FunV X.prog X.w X.K X.mg X.base H k f sp) (I : Inv X pins σ H s) : PySem.W.FnAt f s.heap := h.isf H _ (.refl H) I.hok I.kIn
end
/-- g(..): the slot i holds a value that may be called -/
def tCallV (P : Program) (w : World) (K : PySem.W.Frag) (mg : Str → Option Value) (base : Heap) (k i : Nat) (t : TA) : TE := fun σ H Q => ∃ f, σ[i]? = some (some (.ref f)) ∧ (∃ sp, FunV P w K mg base H k f sp) ∧ t σ H fun vs H1 => ∃ sp, FunV P w K mg base H1 k f sp ∧ sp vs H1 Q E0
theorem run_v {X : Cx} {pins : List (Addr × Obj)} {σ : L2.St} {H : Hp} {s : Shared} {k j : Nat} {f : Addr} {sp : Sp} {us : List Value} {vs : List V} {Q : VK} (h : FunV X.prog X.w X.K X.mg X.base H k f sp) (room : Room j X.A) (hk : k ≤ j) (I : Inv X pins σ H s) (rel : Vals vs us) (pr : sp vs H Q E0) :
    wpAny (model X.prog X.w) X.A (call (.ref f) us) (EP X pins σ Q) X.xe s := by
  refine wpAny_call (codeAny_mono (h.run room hk I.env0 rel pr) fun r s2 z => ?_)
  match r, z with
  | .error e, z => exact (show False from z).elim
  | .ok .next, z => exact z.elim
  | .ok .brk, z => exact z.elim
  | .ok .cont, z => exact z.elim
  | .ok (.ret u), z => exact I.after z
theorem pe_callV {X : Cx} {k j i : Nat} {x : Str} {e : Expr} {es : List Expr} {t : TA} {p pos : Pos} (room : Room j X.A) (hN : X.N[i]? = some x) (hv : Vis X.env.scope x) (ha : PA X (e :: es) t) (hk : k ≤ j := by decide) (hd : (x == ("__debug__" : Str)) = false := by decide)
    (hc : (x == ("__classdict__" : Str)) = false := by decide) (he : starEach (e :: es) X.env = (false, eval e X.env) :: starEach es X.env := by rfl) (hp : (backTo pos (starEach es X.env)).any (·.1) = false := by rfl) :
    PE X (.Call (.Name x p) (e :: es) [] pos) (tCallV X.prog X.w X.K X.mg X.base k i t) := by
  refine ⟨fun pins s σ H Q I h => ?_⟩
  obtain ⟨f, hs, ⟨sp0, f0⟩, ht⟩ := h
  refine wpAny_Call_Name_kw (thn ((pe_var (pos := p) hN hv hd hc).run pins s σ H (fun v H1 => v = .ref f ∧ H1 = H) I ⟨.ref f, hs, rfl, rfl⟩) fun u s1 z => ?_)
  obtain ⟨_, _, I1, r1, rfl, rfl⟩ := z
  cases r1
  refine PySem.W.callWith_F (first := []) (f0.at_ I1) (thn (ha.run pos pins s1 σ _ _ I1 ht) fun us s2 z => ?_) he hp
  obtain ⟨vs, H2, I2, rel, sp, fv, pr⟩ := z
  exact ⟨fv.at_ I2, run_v fv room hk I2 rel pr⟩
end Wl

/-! d == e of two dicts of the same texts, their values told by data. -/
namespace Wl
open PySem PySem.Spec PyProof.Rows L2
def rEqDT (K : PySem.W.Frag) : R2 := fun x y H Q => ∃ (a b : Addr) (nms : List Str) (f g : Str → V) (fd gd : Str → PyData), x = .ref a ∧ y = .ref b ∧ H a = some (.dK (kvZ f nms)) ∧ H b = some (.dK (kvZ g nms)) ∧
  (∀ z ∈ nms, Dp K H (f z) (fd z) ∧ Dp K H (g z) (gd z) ∧ (fd z).canLay0 = true ∧ (gd z).canLay0 = true ∧ (fd z).depth ≤ 3) ∧ Q (.bl (nms.all fun z => PyData.eqv (fd z) (gd z))) H
theorem kv_mem {f : Str → V} : ∀ {nms : List Str} {va : List (Key × Value)}, KV (kvZ f nms) va → ∀ {k : Key} {v : Value}, (k, v) ∈ va → ∃ z ∈ nms, k = Sum.inr z ∧ RelV (f z) v
  | [], va, r, k, v, h => by
    cases r
    cases h
  | z :: nms, va, r, k, v, h => by
    have r' : Paired (fun (p : Key × V) (q : Key × Value) => p.1 = q.1 ∧ RelV p.2 q.2) ((Sum.inr z, f z) :: kvZ f nms) va := r
    cases r' with
    | cons e t =>
      rcases List.mem_cons.mp h with h1 | h1
      · obtain ⟨e1, e2⟩ := e
        rw [← h1] at e1 e2
        exact ⟨z, List.mem_cons_self, e1.symm, e2⟩
      · obtain ⟨y, hy, q⟩ := kv_mem (f := f) (nms := nms) t h1
        exact ⟨y, List.mem_cons_of_mem _ hy, q⟩
theorem kv_keys {f : Str → V} : ∀ {nms : List Str} {va : List (Key × Value)}, KV (kvZ f nms) va → va.map (·.1) = nms.map Sum.inr
  | [], va, r => by
    cases r
    rfl
  | z :: nms, va, r => by
    have r' : Paired (fun (p : Key × V) (q : Key × Value) => p.1 = q.1 ∧ RelV p.2 q.2) ((Sum.inr z, f z) :: kvZ f nms) va := r
    cases r' with
    | cons e t =>
      rw [List.map_cons, List.map_cons, kv_keys (f := f) (nms := nms) t, ← e.1]
section
variable {X : Cx}
theorem op_eqDT (hu : X.A.units + 64 < cLine) : OpR X (compareOp .Eq) (rEqDT X.K) := by
  intro pins s σ H x y v u Q I rx ry h
  obtain ⟨a, b, nms, f, g, fd, gd, rfl, rfl, ea, eb, hv, q⟩ := h
  obtain rfl : v = Value.ref a := rx
  obtain rfl : u = Value.ref b := ry
  obtain ⟨_, ya, va, ra, da⟩ := (show ObjOk X.prog X.w H s.heap a (.dK (kvZ f nms)) from I.hok a _ ea)
  obtain ⟨_, yb, vb, rb, db⟩ := (show ObjOk X.prog X.w H s.heap b (.dK (kvZ g nms)) from I.hok b _ eb)
  let e : Key → Bool := fun k => match k with
    | .inl _ => true
    | .inr z => PyData.eqv (fd z) (gd z)
  refine PySem.W.eq_dictsT (knd := mixKind X.prog X.w) (n := 3) (e := e) ya yb da db (fun k v' y' hm hva => ?_) (by omega) ?_
  · obtain ⟨z, hz, rfl, rv⟩ := kv_mem ra hm
    have rr := rb.val (Sum.inr z : Key)
    rw [valV_in hz] at rr
    obtain ⟨y2, hy2, ry2⟩ := rr.some_of
    rw [hva] at hy2
    obtain rfl := Option.some.inj hy2
    obtain ⟨d1, d2, c1, c2, dp⟩ := hv z hz
    obtain ⟨as, r1⟩ := Dp.reads I _ _ _ d1 rv
    obtain ⟨bs, r2⟩ := Dp.reads I _ _ _ d2 ry2
    exact .leaf fun A hA => SeqAt.eqAt_reads _ _ A s _ _ _ _ r1 r2 c1 c2 (by
      have := Nat.min_le_left (fd z).depth (gd z).depth
      omega)
  · have e1 : va.length = nms.length := by
      have := congrArg List.length (kv_keys ra)
      simpa using this
    have e2 : vb.length = nms.length := by
      have := congrArg List.length (kv_keys rb)
      simpa using this
    have e3 : (va.all fun p => (valueAt vb p.1).isSome && e p.1) = nms.all fun z => PyData.eqv (fd z) (gd z) := by
      have h1 : (va.all fun p => (valueAt vb p.1).isSome && e p.1) = (va.map (·.1)).all fun k => (valueAt vb k).isSome && e k := by
        rw [List.all_map]
        rfl
      rw [h1, kv_keys ra, List.all_map, Bool.eq_iff_iff, List.all_eq_true, List.all_eq_true]
      have sm : ∀ z ∈ nms, (valueAt vb (Sum.inr z : Key)).isSome = true := fun z hz => by
        have rr := rb.val (Sum.inr z : Key)
        rw [valV_in hz] at rr
        obtain ⟨y2, hy2, _⟩ := rr.some_of
        rw [hy2]
        rfl
      constructor
      · intro h z hz
        have := h z hz
        simp only [Function.comp, Bool.and_eq_true] at this
        exact this.2
      · intro h z hz
        simp only [Function.comp, Bool.and_eq_true]
        exact ⟨sm z hz, h z hz⟩
    rw [e3, e1, e2]
    refine ⟨.bl _, H, I, ?_, q⟩
    show _ = Value.bool _
    simp
end
end Wl

/-! v == v: a thing beside itself, data or a dict of texts with data. -/
namespace Wl
open PySem PySem.Spec PyProof.Rows L2
def SelfV (K : PySem.W.Frag) (H : Hp) (v : V) : Prop := (∃ d, Dp K H v d ∧ SeqAt.shaped d = true) ∨
  ∃ (p : Addr) (nms : List Str) (g : Str → V) (gd : Str → PyData), v = .ref p ∧ H p = some (.dK (kvZ g nms)) ∧ ∀ z ∈ nms, Dp K H (g z) (gd z) ∧ (gd z).canLay0 = true ∧ (gd z).depth ≤ 3
def rEqSelf (K : PySem.W.Frag) : R2 := fun x y H Q => x = y ∧ SelfV K H x ∧ Q (.bl true) H
theorem op_eqSelf {X : Cx} (hu : X.A.units + 64 < cLine) : OpR X (compareOp .Eq) (rEqSelf X.K) := by
  intro pins s σ H x y v u Q I rx ry h
  obtain ⟨rfl, h | h, q⟩ := h
  · obtain ⟨d, hd, sd⟩ := h
    refine op_eqD hu pins s σ H x x v u Q I rx ry ⟨d, d, hd, hd, sd, sd, ?_⟩
    rw [SeqAt.eqv_refl _ (SeqAt.canLay_of_shaped sd)]
    exact q
  · obtain ⟨p, nms, g, gd, rfl, hp, hz⟩ := h
    refine op_eqDT hu pins s σ H _ _ v u Q I rx ry ⟨p, p, nms, g, g, gd, gd, rfl, rfl, hp, hp, fun z hm => ?_, ?_⟩
    · obtain ⟨h1, h2, h3⟩ := hz z hm
      exact ⟨h1, h1, h2, h2, h3⟩
    · have : (nms.all fun z => PyData.eqv (gd z) (gd z)) = true := List.all_eq_true.mpr fun z hm => SeqAt.eqv_refl _ (hz z hm).2.1
      rw [this]
      exact q
end Wl

/-! Data of any depth under a heap that grows; a heap with one object left out. -/
namespace Wl
open PySem PySem.Spec PyProof.Rows L2
mutual
theorem dp_same {K : PySem.W.Frag} {H H' : Hp} (s : Same H H') : ∀ {v : V} {d : PyData}, Dp K H v d → Dp K H' v d
  | _, _, .non => .non
  | _, _, .bl b => .bl b
  | _, _, .int i => .int i
  | _, _, .str x => .str x
  | _, _, .lst h t => .lst (s.seq h) (dpAll_same s t)
  | _, _, .tup h t => .tup (tup_same s h) (dpAll_same s t)
theorem dpAll_same {K : PySem.W.Frag} {H H' : Hp} (s : Same H H') : ∀ {vs : List V} {ds : List PyData}, DpAll K H vs ds → DpAll K H' vs ds
  | _, _, .nil => .nil
  | _, _, .cons r t => .cons (dp_same s r) (dpAll_same s t)
end
theorem SelfV.same {K : PySem.W.Frag} {H H' : Hp} {v : V} (h : SelfV K H v) (s : Same H H') : SelfV K H' v := by
  rcases h with ⟨d, h1, h2⟩ | ⟨p, nms, g, gd, e, hp, hz⟩
  · exact .inl ⟨d, dp_same s h1, h2⟩
  · exact .inr ⟨p, nms, g, gd, e, s _ _ hp, fun z hm => ⟨dp_same s (hz z hm).1, (hz z hm).2⟩⟩
/-- new behind, new ahead -/
theorem hq_of {H H' : Hp} {p : Addr} (s : Same H H') (h : H' p = none) : H p = none := by
  cases q : H p with
  | none => rfl
  | some o =>
    rw [s p o q] at h
    cases h
/-- H without what stands at a -/
def hid (a : Addr) (H : Hp) : Hp := fun b => if b = a then none else H b
theorem hid_same {a : Addr} {H : Hp} : Same (hid a H) H := fun b o e => by
  unfold hid at e
  by_cases h : b = a
  · rw [if_pos h] at e
    cases e
  · rw [if_neg h] at e
    exact e
theorem hid_x {a : Addr} {H H' : Hp} (s : SameX a H H') : Same (hid a H) (hid a H') := fun b o e => by
  unfold hid at e ⊢
  by_cases h : b = a
  · rw [if_pos h] at e
    cases e
  · rw [if_neg h] at e ⊢
    exact s b o h e
theorem hid_at {a p : Addr} {H : Hp} {o : HO} (h : H p = some o) (hne : p ≠ a) : hid a H p = some o := by
  unfold hid
  rw [if_neg hne]
  exact h
/-- what H' has that H has not -/
def newH (H H' : Hp) : Hp := fun p => match H p with
  | none => H' p
  | some _ => none
theorem new_at {H H' : Hp} {p : Addr} {o : HO} (hn : H p = none) (h : H' p = some o) : newH H H' p = some o := by
  unfold newH
  rw [hn]
  exact h
theorem new_hid {H H' : Hp} {a : Addr} {o : HO} (h : H a = some o) : Same (newH H H') (hid a H') := fun p u e => by
  unfold newH at e
  cases q : H p with
  | some _ =>
    rw [q] at e
    cases e
  | none =>
    rw [q] at e
    exact hid_at e fun z => by
      rw [z, h] at q
      cases q
end Wl

/-! sorted(xs, key=f), f a lambda that is made there. -/
namespace Wl
open PySem PySem.Spec PyProof.Rows L2 LamX NdefX
/-- an address beyond all that the running frame and its walks know -/
structure Own (X : Cx) (pins : List (Addr × Obj)) (b : Addr) : Prop where
  loc : b ≠ X.env.locals
  cel : ∀ x c, X.env.cells.lookup x = some c → c ≠ b
  pin : ∀ p ∈ X.pn ++ pins, p.1 ≠ b
  new : X.s_0.heap.objs.size ≤ b
  stk : b ∉ frs X.stack
section
variable {X : Cx} {pins : List (Addr × Obj)} {σ : L2.St} {H H' : Hp} {s : Shared} {a b kS : Addr}
theorem Own.of (I : Inv X pins σ H s) (h : s.heap.objs.size ≤ b) : Own X pins b := by
  have lt : ∀ {c : Addr} {o : Obj}, s.heap.get? c = some o → c ≠ b := fun e z => by
    have := Heap.lt_size e
    rw [z] at this
    exact absurd (Nat.lt_of_lt_of_le this h) (Nat.lt_irrefl _)
  refine ⟨fun z => ?_, fun x c e => ?_, fun p hp => lt (I.pin p hp).1, Nat.le_trans I.sz h, fun z => ?_⟩
  · have := I.lt
    rw [← z] at this
    exact Nat.lt_irrefl _ (Nat.lt_of_lt_of_le this h)
  · obtain ⟨v, o, ho, _⟩ := I.cell x c e
    exact lt ho
  · rcases List.mem_cons.mp (I.stkSub b z) with e | e
    · have := I.lt
      rw [← e] at this
      exact Nat.lt_irrefl _ (Nat.lt_of_lt_of_le this h)
    · exact I.nofs h e
/-- a thing of ours that stands there already is known from now on -/
theorem inv_adopt {o : HO} (I : Inv X pins σ H s) (W : Own X pins a) (na : H a = none) (new : ObjOk X.prog X.w (upd H a o) s.heap a o) : Inv X pins σ (upd H a o) s := by
  have up : ∀ {c : Addr} {u : HO}, H c = some u → upd H a o c = some u := fun e => (upd_ne (ne_of_none e na)).trans e
  have old : ∀ {c : Addr}, c ≠ a → H c = none → upd H a o c = none := fun n e => (upd_ne n).trans e
  refine ⟨I.ok, I.os, I.bare, ⟨I.base.keep, I.base.slot, fun c u e n x => old (fun z => ?_) (I.base.free c u e n x), I.base.there, fun c xs e => up (I.base.tups c xs e), fun c u v e => up (I.base.frzs c u v e), fun c ps e => ?_⟩, I.loc, I.cell, old (Ne.symm W.loc) I.free, fun x c e => old (W.cel x c e) (I.freeC x c e), fun p hp => ?_, fun c u e => ?_, I.len⟩
  · have h1 := Heap.lt_size e
    rw [z] at h1
    exact Nat.lt_irrefl _ (Nat.lt_of_lt_of_le h1 W.new)
  · obtain ⟨more, z⟩ := I.base.tbls c ps e
    exact ⟨more, up z⟩
  · obtain ⟨e, n, r⟩ := I.pin p hp
    exact ⟨e, old (W.pin p hp) n, r⟩
  · by_cases hc : c = a
    · subst hc
      rw [upd_same] at e
      cases e
      exact new
    · rw [upd_ne hc] at e
      exact (I.hok c u e).stay (fun _ _ _ q => q) (fun d q => up q) fun d xs q => up q
/-- two things of ours that nobody knows have changed -/
theorem inv_stir {g : Heap} {tk : Nat} (I : Inv X pins σ H s) (Wk : Own X pins kS) (Wa : Own X pins a) (nk : H kS = none) (na : H a = none) (keep : ∀ b o, b ≠ kS → b ≠ a → s.heap.get? b = some o → g.get? b = some o) : Inv X pins σ H { s with heap := g, toks := tk } := by
  have not2 : ∀ {b : Addr}, b ∉ [kS, a] → b ≠ kS ∧ b ≠ a := fun {b} h => ⟨fun z => h (by simp [z]), fun z => h (by simp [z])⟩
  have live : ∀ {b : Addr} {u : HO}, H b = some u → b ≠ kS ∧ b ≠ a := fun e => ⟨ne_of_none e nk, ne_of_none e na⟩
  refine I.step (g' := s.gens) (d' := s.drawn) (ch := [kS, a]) (fun b hb => ?_) (fun b o _ _ hc e _ => keep b o (not2 hc).1 (not2 hc).2 e) (fun b o _ _ hc e _ => ⟨o.slots, keep b o (not2 hc).1 (not2 hc).2 e⟩) (fun _ _ _ _ n => n)
    (fun b o hc e => ⟨o, keep b o (not2 hc).1 (not2 hc).2 e⟩) (fun _ _ e => e) (fun _ _ _ e => e) (fun b ps e => ⟨#[], by rw [e]; simp⟩) (fun m hm => ?_) (fun b u e => ?_) I.bare
  · simp only [List.mem_cons, List.not_mem_nil, or_false] at hb
    rcases hb with rfl | rfl
    · exact ⟨.inr Wk.new, Wk.loc, Wk.cel, Wk.pin⟩
    · exact ⟨.inr Wa.new, Wa.loc, Wa.cel, Wa.pin⟩
  · obtain ⟨o, es, ep, ho, r⟩ := hm
    exact ⟨o, es, ep, keep _ o (Ne.symm Wk.loc) (Ne.symm Wa.loc) ho, r⟩
  · refine (I.hok b u e).stay (fun c v hc q => ?_) (fun _ q => q) fun _ _ q => q
    rcases hc with rfl | z
    · exact keep _ v (live e).1 (live e).2 q
    · exact keep c v (live z).1 (live z).2 q
end
section
variable {X : Cx} {pins : List (Addr × Obj)} {σ : L2.St} {H : Hp} {s : Shared} {a kS f : Addr} {e1 : Nat} {P : PySem.Fin → Shared → Prop} {E : Value → Shared → Prop}
/-- what a call of the key's def brings -/
def KTurn (X : Cx) (pins : List (Addr × Obj)) (σ : L2.St) (H : Hp) (f : Addr) (bs : List (V × PyData)) : Prop :=
  ∀ b ∈ bs, ∀ (v : Value) (s1 : Shared) (H1 : Hp), RelV b.1 v → Inv X pins σ H1 s1 → Same H H1 → wpAny (model X.prog X.w) X.A.in1.in1 (call (.ref f) [v]) (fun u s2 => CE X.stack X.prog X.w H1 s1 (fun y H2 => Same H1 H2 ∧ Dp X.K H2 y b.2) u s2) (fun _ _ => False) s1
theorem key_rest {bs : List (V × PyData)} {vs : List Value} (I : Inv X pins σ H s) (rv : PySem.W.EachIs (fun u b => RelV b.1 u) vs bs) (nk : s.heap.get? kS = some (seqObj "list" #[] 0)) (na : s.heap.get? a = some (seqObj "list" #[] e1)) (hka : kS ≠ a)
    (Wk : Own X pins kS) (Wa : Own X pins a) (hk : H kS = none) (ha : H a = none) (turn : KTurn X pins σ H f bs) (al : PySem.W.AllAlike (bs.map (·.2))) (sk : PySem.W.Sortable (bs.map (·.2))) (dep : ∀ d ∈ bs.map (·.2), X.A.in1.in1.units + d.depth < cLine) (ln : vs.length ≤ sizeLine)
    (fin : ∀ (H1 : Hp) (s1 : Shared) (out : List Value) (c : Nat), Inv X pins σ H1 s1 → Same H H1 → H1 a = none → s1.heap.get? a = some (seqObj "list" (List.toArray out) c) → PySem.W.KeyedOut false (bs.map (·.2)) vs out → P (.done (.ret .none)) s1) :
    wpAny (model X.prog X.w) X.A.in1.in1 (ksk_rest a (.ref f) false vs.toArray e1 (.ref kS)) P E s := by
  have lb : bs.length = vs.length := rv.length.symm
  unfold ksk_rest
  refine wpAny_bind (wpAny_rule ?_)
  first
    | rw [List.forIn_toArray]
    | (rw [← Array.forIn_toList]; simp only [List.toList_toArray])
  refine wpAny_bind (ksk_fold (fun i s1 => ∃ (H1 : Hp) (kA : Array Value) (e : Nat) (ks : List (V × PyData)), Inv X pins σ H1 s1 ∧ Same H H1 ∧ H1 kS = none ∧ H1 a = none ∧ s1.heap.get? kS = some (seqObj "list" kA e) ∧ s1.heap.get? a = some (seqObj "list" #[] e1) ∧
      PySem.W.EachIs (fun u b => RelV b.1 u) kA.toList ks ∧ ks.map (·.2) = (bs.map (·.2)).take i ∧ ∀ b ∈ ks, Dp X.K H1 b.1 b.2) vs 0 s ⟨H, #[], 0, [], I, Same.refl H, hk, ha, nk, na, .nil, by simp, fun b z => by cases z⟩ ?step ?done)
  case step =>
    rintro j x s1 hx ⟨H1, kA, e, ks, I1, sm, hk1, ha1, nk1, na1, rk, ek, dk⟩
    simp only [Nat.zero_add] at ek ⊢
    have hj : j < vs.length := (List.getElem?_eq_some_iff.mp hx).1
    obtain ⟨b, hb⟩ : ∃ b, bs[j]? = some b := ⟨_, List.getElem?_eq_getElem (by omega)⟩
    have mz : (x, b) ∈ vs.zip bs := List.mem_of_getElem? (i := j) (by
      rw [List.getElem?_zip_eq_some]
      exact ⟨hx, hb⟩)
    have rb : RelV b.1 x := rv.zip _ mz
    have lk : kA.size = ks.length := by
      rw [← Array.length_toList]
      exact rk.length
    have lk2 : ks.length ≤ j := by
      have := congrArg List.length ek
      rw [List.length_map, List.length_take] at this
      omega
    refine wpAny_bind (wpAny_attempt (wpAny_mono (turn b (List.mem_of_getElem? hb) x s1 H1 rb I1 sm) (fun v s2 z => ?_) fun _ _ z => z.elim))
    obtain ⟨y, H2, os, bare, un, ok2, ry, sm2, dy⟩ := z
    try dsimp only
    have nk2 := un.keep kS _ nk1 hk1 Wk.stk (by simp)
    have na2 := un.keep a _ na1 ha1 Wa.stk (by simp)
    have hk2 := un.free kS _ nk1 hk1 (by simp)
    have ha2 := un.free a _ na1 ha1 (by simp)
    have I2 : Inv X pins σ H2 s2 := I1.call' os un ok2 bare (ch := []) (fun b z => by simp at z)
    have s3 := Heap.SameBut.update s2.heap kS (Obj.mapSeq (·.push v))
    obtain ⟨c2, hc2⟩ : ∃ c2, (s2.heap.update kS (Obj.mapSeq (·.push v))).get? kS = some (seqObj "list" (kA.push v) c2) := ⟨_, get?_update_seq nk2 (·.push v)⟩
    have tl : (kA.push v).toList = kA.toList ++ [v] := by simp
    refine wpAny_bind (listUpdate_at nk2 rfl ?_ (by omega) (Nat.le_trans (Nat.le_of_eq (Array.size_push ..)) (by omega)))
    have I3 : Inv X pins σ H2 { s2 with heap := s2.heap.update kS (Obj.mapSeq (·.push v)), toks := s2.toks } := inv_stir I2 Wk Wk hk2 hk2 (fun b o n _ q => (s3.2 b n).trans q) 
    refine wpAny_pure ⟨rfl, H2, kA.push v, c2, ks ++ [(y, b.2)], I3, sm.trans sm2, hk2, ha2, hc2, (s3.2 a hka.symm).trans na2, ?_, ?_, fun q hq => ?_⟩
    · rw [tl]
      exact PySem.W.each_snoc (R := fun (u : Value) (b : V × PyData) => RelV b.1 u) ry rk
    · rw [List.map_append, ek, List.take_add_one, List.getElem?_map, hb]
      rfl
    · rcases List.mem_append.mp hq with hq | hq
      · exact dp_same sm2 (dk q hq)
      · rw [List.mem_singleton.mp hq]
        exact dy
  case done =>
    rintro s1 ⟨H1, kA, e, ks, I1, sm, hk1, ha1, nk1, na1, rk, ek, dk⟩
    have ek : ks.map (·.2) = bs.map (·.2) := by
      rw [ek]
      exact List.take_of_length_le (by rw [List.length_map]; omega)
    have er := PySem.W.each_map (R := fun (u : Value) (d : PyData) => ∃ as, Reads s1.heap u d as) (fun b : V × PyData => b.2) (each_reads I1 dk rk)
    rw [ek] at er
    have lk : kA.size = vs.length := by
      have h1 := er.length
      rw [Array.length_toList, List.length_map] at h1
      omega
    try dsimp only
    refine wpAny_bind (listItems_at nk1 rfl ?_)
    have hid : (PySem.W.hideAll s1.heap [kS]).get? kS = none := PySem.W.hideAll_none _ (by simp)
    refine PySem.W.keyH_end (κ := PySem.W.dataKind s1.heap (bs.map (·.2))) (h₁ := PySem.W.hideAll s1.heap [kS]) (fun b o _ q => PySem.W.of_hideAll _ q) hid nk1 na1 hka (PySem.W.SortsAt.data (s := s1) er al sk dep) lk ln fun g tk c kp at_ => ?_
    have keep : ∀ b o, b ≠ kS → b ≠ a → s1.heap.get? b = some o → g.get? b = some o := fun b o n1 n2 q => kp b o n2 (PySem.W.hideAll_get _ q (by simpa using n1))
    exact fin H1 _ _ c (inv_stir I1 Wk Wa hk1 ha1 keep) sm ha1 at_ ⟨s1.heap, kA.toList, al, rfl, er⟩
end
/-! ### sorted by a key -/
section
variable {X : Cx} {x : Str} {p pos : Pos} {e : Expr} {es : List Expr} {kws : List Keyword} {t tk : TA} {id : String} {ks : List Str}
/-- a built-in called with keywords; what is asked of it may speak of the slots -/
def CallRS (X : Cx) (g : Value) (ks : List Str) (r : L2.St → List V → List V → Hp → VK → Prop) : Prop :=
  ∀ (pins : List (Addr × Obj)) (s : Shared) (σ : L2.St) (H : Hp) (xs zs : List V) (us ws : List Value) (Q : VK), Inv X pins σ H s → Vals xs us → Vals zs ws → r σ xs zs H Q → wpAny (model X.prog X.w) X.A (call g us (ks.zip ws)) (EP X pins σ Q) X.xe s
def tCallRS (r : L2.St → List V → List V → Hp → VK → Prop) (t tk : TA) : TE := fun σ H Q => t σ H fun vs H1 => tk σ H1 fun zs H2 => r σ vs zs H2 Q
theorem pe_callRS {r : L2.St → List V → List V → Hp → VK → Prop} (hc : CallRS X (.builtin id) ks r) (hg : Gl X x) (hm : X.mg x = none) (hv : bootBuiltins x = some (.builtin id)) (ha : PA X (e :: es) t) (hk : PK X kws tk) (hn : x ≠ "__name__" := by decide) (hd : (x == ("__debug__" : Str)) = false := by decide)
    (he : backTo pos (starEach (e :: es) X.env) = (false, eval e X.env) :: backTo pos (starEach es X.env) := by rfl) (hp : (backTo pos (starEach (e :: es) X.env)).any (·.1) = false := by rfl) (h1 : (backToKw pos (keywordEach kws X.env)).all (·.1.isSome) = true := by rfl)
    (h2 : (backToKw pos (keywordEach kws X.env)).any (·.1.isNone) = false := by rfl) (h3 : (backToKw pos (keywordEach kws X.env)).filterMap (·.1) = ks := by rfl) : PE X (.Call (.Name x p) (e :: es) kws pos) (tCallRS r t tk) := by
  refine ⟨fun pins s σ H Q I h => wpAny_Call_Name_kw (ld_blt I hg hm hv ?_ hn hd)⟩
  refine PyProof.Rows.callWith_kw (thn (ha.run pos pins s σ H _ I h) fun us s1 z => ?_) he hp h1 h2
  obtain ⟨vs, H1, I1, r1, q1⟩ := z
  refine thn (hk.run pos pins s1 σ H1 _ I1 q1) fun ws s2 z => ?_
  obtain ⟨zs, H2, I2, r2, q2⟩ := z
  rw [h3]
  exact hc pins s2 σ H2 vs zs us ws Q I2 r1 r2 q2
end
/-- sorted(xs, key=f): f a lambda whose captured names stand in the slots js -/
def rSortF (X : Cx) (k : Nat) : L2.St → List V → List V → Hp → VK → Prop := fun σ vs zs H Q =>
  ∃ (a f : Addr) (F : LF) (ps fr : List Str) (js : List Nat) (sp : List (Option V) → Sp) (bs : List (V × PyData)), vs = [.ref a] ∧ zs = [.ref f] ∧ SqL X.K H a (bs.map (·.1)) ∧ LmAt H f F ∧ (X.Ok → Caps X F.nf.cl fr js) ∧ NvOk X.prog X.w X.K X.mg X.base k f F ps fr sp ∧
    (∀ b ∈ bs, ∀ H1, Same H H1 → sp (js.map (slotAt σ)) [b.1] H1 (fun y H2 => Same H1 H2 ∧ Dp X.K H2 y b.2) E0) ∧ PySem.W.AllAlike (bs.map (·.2)) ∧ PySem.W.Sortable (bs.map (·.2)) ∧ (∀ b ∈ bs, b.2.depth ≤ 8) ∧
    ∀ H1 p, Same H H1 → H1 p = none → Q (.ref p) (upd H1 p (.lst ((bs.mergeSort (PySem.W.dataLe false (·.2))).map (·.1))))
theorem cr_sortF {X : Cx} {k j : Nat} (room : Room (j + 2) X.A) (hk : k ≤ j) : CallRS X (.builtin "sorted") [Str.ofString "key"] (rSortF X k) := by
  intro pins s σ H vs zs us ws Q I r rz h
  obtain ⟨a, f, F, ps, fr, js, sp, bs, rfl, rfl, hl, at_, cap, nv, turn, al, sk, dep, q⟩ := h
  obtain ⟨its, rv, il, ln⟩ := I.list hl
  obtain ⟨u, rfl, ru⟩ := vals1 r
  obtain rfl : u = Value.ref a := ru
  obtain ⟨g, rfl, rg⟩ := vals1 rz
  obtain rfl : g = Value.ref f := rg
  have e := each_of_vals rv
  have li : its.length ≤ sizeLine := by
    rw [← rv.length]
    exact ln
  have ev2 : ∀ {s1 : Shared} {H1 : Hp}, Inv X pins σ H1 s1 → Env0 X.prog X.w X.K X.mg X.base X.A.in1.in1 X.stack s1 H1 := fun I1 => I1.env0.in1.in1
  have room2 : Room j X.A.in1.in1 := room.in1.in1
  refine PySem.W.sorted_of_sort il.isList li (PyProof.Rows.ksk_s1 _ _) (fun _ => PyProof.Rows.ksk_l1 _ _) fun E' => ?_
  show wpAny _ _ (Builtin.«list.sort» ⟨[.ref (s.heap.objs.size + 1)], [(Str.ofString "key", .ref f)]⟩) _ E' _
  rw [ksk_t1]
  have hc := PySem.W.copyHeap_at s.heap its
  have csz : (PySem.W.copyHeap s.heap its).objs.size = s.heap.objs.size + 2 := by
    unfold PySem.W.copyHeap
    rw [size_push', Heap.size_update, size_push']
  obtain ⟨e1, ho1⟩ : ∃ e1, ((PySem.W.copyHeap s.heap its).update (s.heap.objs.size + 1) (Obj.mapSeq fun _ => (#[] : Array Value))).get? (s.heap.objs.size + 1) = some (seqObj "list" #[] e1) := ⟨_, get?_update_seq hc fun _ => #[]⟩
  unfold ksk_tree
  refine wpAny_bind (listItems_at hc rfl ?_)
  refine wpAny_bind (listUpdate_at hc rfl ?_ (by rw [List.size_toArray]; exact li) (Nat.zero_le _))
  refine wpAny_bind (seqEpoch_at ho1 rfl ?_)
  refine wpAny_bind (wpAny_newTuple ?_ (by show its.length ≤ _; exact li))
  refine wpAny_bind (wpAny_newList ?_ (Nat.zero_le _))
  refine wpAny_holding ?_
  have hsz : (((PySem.W.copyHeap s.heap its).update (s.heap.objs.size + 1) (Obj.mapSeq fun _ => (#[] : Array Value))).push (seqObj "tuple" its.toArray 0)).objs.size = s.heap.objs.size + 3 := by
    rw [size_push', Heap.size_update, csz]
  have I0 : Inv X pins σ H { s with heap := PySem.W.sortingHeap (PySem.W.copyHeap s.heap its) (s.heap.objs.size + 1) its, toks := s.toks } :=
    I.kept fun b o q => PySem.W.sortingHeap_old (Nat.ne_of_lt (Nat.lt_succ_of_lt (Heap.lt_size q))) (PySem.W.copyHeap_old q)
  have Wa : Own X pins (s.heap.objs.size + 1) := Own.of I (Nat.le_succ _)
  have Wk : Own X pins (((PySem.W.copyHeap s.heap its).update (s.heap.objs.size + 1) (Obj.mapSeq fun _ => (#[] : Array Value))).push (seqObj "tuple" its.toArray 0)).objs.size := Own.of I (by rw [hsz]; omega)
  have hall : PySem.W.EachIs (fun u (b : V × PyData) => RelV b.1 u) its bs := e
  refine key_rest (s := { s with heap := PySem.W.sortingHeap (PySem.W.copyHeap s.heap its) (s.heap.objs.size + 1) its, toks := s.toks }) I0 hall (Heap.get?_push_size _ rfl) (Heap.get?_push_of_some _ (Heap.get?_push_of_some _ ho1)) (Nat.ne_of_gt (by rw [hsz]; exact Nat.lt_add_of_pos_right (n := s.heap.objs.size + 1) (k := 2) (by decide))) Wk Wa
    (I.hok.fresh (by rw [hsz]; omega)) (I.hok.fresh (Nat.le_succ _)) (fun b hb v s1 H1 rb I1 sm => ?_) al sk (fun d hd => ?_) li fun H1 s1 out c I1 sm na at2 ko => ⟨rfl, ?_⟩
  · refine wpAny_call (codeAny_mono (nv.run X.A.in1.in1 X.stack s1 H1 [v] [b.1] (js.map (slotAt σ)) _ (room2.mono hk) (ev2 I1) (at_.ext fun c o z _ => sm c o z) (cells_of I1 (cap I1.ok)) (.cons rb .nil) (turn b hb H1 sm)) fun r s2 z => ?_)
    match r, z with
    | .error e, z => exact (show False from z).elim
    | .ok .next, z => exact z.elim
    | .ok .brk, z => exact z.elim
    | .ok .cont, z => exact z.elim
    | .ok (.ret u), z => exact z
  · obtain ⟨b, hb, rfl⟩ := List.mem_map.mp hd
    have h1 := dep b hb
    have h2 := room2.units
    omega
  · have eo := PySem.W.keyedOut_each (fun b : V × PyData => b.2) ko hall
    have rv2 := vals_of_each eo
    have hlen : ((bs.mergeSort (PySem.W.dataLe false (·.2))).map (·.1)).length ≤ sizeLine := by
      rw [List.length_map, List.length_mergeSort]
      rw [List.length_map] at ln
      exact ln
    exact ⟨.ref (s.heap.objs.size + 1), _, inv_adopt (o := .lst ((bs.mergeSort (PySem.W.dataLe false (·.2))).map (·.1))) I1 Wa na ⟨hlen, out, c, rv2, at2⟩, rfl, q H1 _ sm na⟩
end Wl

/-! Defs that make lambdas: their code object and its table; the law's own call with such tables. -/
namespace Wl
open PySem PySem.Spec PyProof.Rows L2 LamX NdefX
def codeOf (K : PySem.W.Frag) (f : Addr) : Option Addr := match K.lookup f with
  | some ⟨_, _, .func fd, _⟩ => match fd.code with
    | .ref c => some c
    | _ => none
  | _ => none
/-- the code object of the def at f, and its table -/
def codeTab (K : PySem.W.Frag) (f : Addr) : Option (Addr × Addr) := match codeOf K f with
  | some c => match K.lookup c with
    | some ⟨_, _, .fields vs, _⟩ => match (vs[11]? : Option Value) with
      | some (.ref P) => if PySem.W.codeHdIn K c P = true then some (c, P) else none
      | _ => none
    | _ => none
  | none => none
section
variable {K : PySem.W.Frag} {f c T : Addr}
theorem codeOf_code {oc : Value} {od : Option Addr} {fd : FuncData} {sl : Array (Option Value)} (e : codeOf K f = some c) (h : K.lookup f = some ⟨oc, od, .func fd, sl⟩) : fd.code = .ref c := by
  unfold codeOf at e
  rw [h] at e
  dsimp only at e
  split at e
  · rename_i d hd
    rw [hd]
    rw [Option.some.inj e]
  · cases e
theorem codeTab_code (e : codeTab K f = some (c, T)) : codeOf K f = some c ∧ PySem.W.codeHdIn K c T = true := by
  unfold codeTab at e
  split at e
  · rename_i d hd
    split at e
    · split at e
      · split at e
        · rename_i q
          have z := Prod.mk.inj (Option.some.inj e)
          rw [z.1, z.2] at q
          exact ⟨by rw [hd, z.1], q⟩
        · cases e
      · cases e
    · cases e
  · cases e
theorem codeTab_hd {h : Heap} (e : codeTab K f = some (c, T)) (inK : K.In h) : PySem.W.CodeHd h c T := PySem.W.codeHd_of_K inK (codeTab_code e).2
end
section
variable {P : Program} {w : World} {K : PySem.W.Frag} {mg : Str → Option Value} {base : Heap} {k : Nat} {f c : Addr} {fd : FuncData} {ps N : List Str} {sp : Sp}
/-- a def's promise by its body, its code object told -/
theorem okC {x qual : Str} {st : Stmt} (F : Fun K x qual st f fd) (hc : codeOf K f = some c) (S : FnScope N ps (defScope st)) (ln : ∀ vs H Q E, sp vs H Q E → vs.length = ps.length)
    (bd : ∀ (A : Around) (outer : List Env) (s : Shared) (H : Hp) (vs : List V) (Q : VK) (E : XK), Room k (A.deeper (envOfC qual (defScope st) s.heap.objs.size f (.ref c))) → sp vs H Q E →
      ∃ t, PSs (cxOf CX0 P w K mg base N qual (defScope st) f (.ref c) A outer s H E).nox (defBody st) t ∧ t { nx := fun _ H' => Q .non H', rt := Q } (start N vs) H) : FnOk P w K mg base CX0 (k + 1) f fd ps sp := by
  obtain ⟨oc, od, kV, doc, pm, an, cd, ct, sl, rfl, at_, hq⟩ := F.ex
  obtain rfl : cd = .ref c := codeOf_code hc at_
  refine fn_of at_ hq S ln fun A ou s H vs Q E room pr => ?_
  obtain ⟨t, der, rd⟩ := bd A ou s H vs Q E room pr
  exact ⟨t, der.nox, rd⟩
theorem okDC {x qual : Str} {params : Arguments} {body : List Stmt} {scope : Scope} {dvs : List V} (F : FunD K x qual params body scope dvs [] f fd) (hc : codeOf K f = some c) (S : FnScope N ps scope) (ln : ∀ vs H Q E, sp vs H Q E → vs.length = ps.length)
    (bd : ∀ (A : Around) (outer : List Env) (s : Shared) (H : Hp) (vs : List V) (Q : VK) (E : XK), Room k (A.deeper (envOfC qual scope s.heap.objs.size f (.ref c))) → sp vs H Q E →
      ∃ t, PSs (cxOf CX0 P w K mg base N qual scope f (.ref c) A outer s H E).nox body t ∧ t { nx := fun _ H' => Q .non H', rt := Q } (start N vs) H) : FnOk P w K mg base CX0 (k + 1) f fd ps sp := by
  obtain ⟨oc, od, dV, kV, doc, pm, an, cd, ct, sl, rfl, at_, hq, _⟩ := F.ex
  obtain rfl : cd = .ref c := codeOf_code hc at_
  refine fn_of at_ hq S ln fun A ou s H vs Q E room pr => ?_
  obtain ⟨t, der, rd⟩ := bd A ou s H vs Q E room pr
  exact ⟨t, der.nox, rd⟩
end
/-! ### the frame without the tables -/
def cutA (K : PySem.W.Frag) (ts : List Addr) : PySem.W.Frag := K.filter fun q => !ts.contains q.1
theorem cutA_at {ts : List Addr} {a : Addr} : ∀ {K : PySem.W.Frag}, (cutA K ts).lookup a = if ts.contains a = true then none else K.lookup a
  | [] => by
    show (none : Option Obj) = _
    split <;> rfl
  | q :: K => by
    have ih := cutA_at (K := K) (ts := ts) (a := a)
    unfold cutA at ih ⊢
    rw [List.filter_cons]
    by_cases hq : ts.contains q.1 = true
    · rw [hq]
      show (List.filter _ K).lookup a = _
      rw [ih]
      by_cases ha : ts.contains a = true
      · rw [if_pos ha, if_pos ha]
      · rw [if_neg ha, if_neg ha]
        have n : (a == q.1) = false := beq_eq_false_iff_ne.mpr fun z => ha (by rw [z]; exact hq)
        rw [List.lookup_cons, n]
    · rw [Bool.not_eq_true] at hq
      rw [hq]
      show ((q :: List.filter _ K).lookup a) = _
      obtain ⟨b, o⟩ := q
      rw [List.lookup_cons, List.lookup_cons]
      by_cases e : (a == b) = true
      · rw [e]
        have z : a = b := beq_iff_eq.mp e
        rw [z, if_neg (by rw [hq]; decide)]
      · rw [Bool.not_eq_true] at e
        rw [e]
        exact ih
theorem cutA_in {K : PySem.W.Frag} {ts : List Addr} {h : Heap} (inK : K.In h) : (cutA K ts).In h := fun a o e => by
  rw [cutA_at] at e
  split at e
  · cases e
  · exact inK a o e
def isTabO : Obj → Bool
  | ⟨.none, none, .fields vs, sl⟩ => vs.size == 0 && sl.size == 0
  | _ => false
theorem isTabO_ok {o : Obj} (e : isTabO o = true) : o = { cls := .none, data := .fields #[] } := by
  unfold isTabO at e
  split at e
  · rename_i vs sl
    simp only [Bool.and_eq_true, beq_iff_eq] at e
    have h1 : vs = #[] := Array.eq_empty_of_size_eq_zero e.1
    have h2 : sl = #[] := Array.eq_empty_of_size_eq_zero e.2
    rw [h1, h2]
  · cases e
/-- the tables of these defs -/
def tabsOf (K : PySem.W.Frag) (fs : List Addr) : List Addr := fs.filterMap fun f => (codeTab K f).map (·.2)
def tabOne (K K1 : PySem.W.Frag) (f : Addr) : Bool := match codeTab K1 f with
  | some (_, T) => (match K.lookup T with
    | some o => isTabO o
    | none => false) && (K1.lookup T).isNone
  | none => false
theorem tabOne_ok {K K1 : PySem.W.Frag} {f : Addr} {h : Heap} (e : tabOne K K1 f = true) (inK : K.In h) (in1 : K1.In h) : ∃ c T, codeOf K1 f = some c ∧ PySem.W.CodeHd h c T ∧ h.get? T = some { cls := .none, data := .fields #[] } ∧ K1.lookup T = none := by
  unfold tabOne at e
  split at e
  · rename_i c T hc
    rw [Bool.and_eq_true] at e
    obtain ⟨e1, e2⟩ := e
    split at e1
    · rename_i o ho
      exact ⟨c, T, (codeTab_code hc).1, codeTab_hd hc in1, by rw [inK _ _ ho, isTabO_ok e1], Option.isNone_iff_eq_none.mp e2⟩
    · cases e1
  · cases e
/-! ### the law's own call -/
/-- a code object, its table, as the law's own call finds them -/
structure TabP (K : PySem.W.Frag) (h : Heap) (p : Addr × Addr) : Prop where
  hd : PySem.W.CodeHd h p.1 p.2
  at_ : h.get? p.2 = some { cls := .none, data := .fields #[] }
  out : K.lookup p.2 = none
theorem law_callGT {P : Program} {w : World} {K : PySem.W.Frag} {mg mb : Str → Option Value} {k : Nat} {fa a : Addr} {cs : List (Addr × Addr)} {fd : FuncData} {x : Str} {sp : Sp} {s₁ : Shared} {vs : List Value} {ns : List Int}
    (KX : K.In s₁.heap) (hns : s₁.heap.Ns mainGlobals mg) (hb : s₁.heap.Ns builtinsNs mb) (hbb : ∀ x : Str, x ≠ "__name__" → mb x = bootBuiltins x) (lim : s₁.heap.NoLimit) (gens : s₁.gens = #[]) (tabs : ∀ p ∈ cs, TabP K s₁.heap p)
    (bm : ∃ (b : Addr) (ob : Obj), mg "__builtins__" = some (.ref b) ∧ b ≠ builtinsNs ∧ s₁.heap.get? b = some ob ∧ ob.cls = .type "module" ∧ ob.dict = some builtinsNs ∧ ob.data = .plain)
    (ha : s₁.heap.get? a = some { cls := .type "list", data := .seq vs.toArray }) (hi : IntsAre vs ns) (hl : ns.length ≤ sizeLine) (room : Room k callerA)
    (F : ∀ base : Heap, K.In base → base.Ns mainGlobals mg → (∀ p ∈ cs, TabB base mg p.1 p.2) → FnOkG P w K mg base k fa fd [x] sp) (bnd : ∀ (s : Shared) (u : Value), BindsTo s fd ⟨[u], []⟩ [(x, u)])
    (pr : ∀ H : Hp, (∀ p ∈ cs, H p.2 = some (.tbl #[])) → SqL K H a (ns.map V.int) → sp [.ref a] H (fun v _ => v = .bl true) E0) :
    codeAny (model P w) callerA (.call (.ref fa) ⟨[.ref a], []⟩) (fun r s' => r = .ok (.ret (.bool true)) ∧ OldK s₁.heap s'.heap ∧ s'.os = s₁.os ∧ AllBare s'.gens) s₁ := by
  have rv := vals_ints hi
  have tabAt : ∀ b, b ∈ cs.map (·.2) → s₁.heap.get? b = some { cls := .none, data := .fields #[] } ∧ K.lookup b = none := fun b hb => by
    obtain ⟨p, hp, rfl⟩ := List.mem_map.mp hb
    exact ⟨(tabs p hp).at_, (tabs p hp).out⟩
  have aOut : a ∉ cs.map (·.2) := fun z => by
    have q := (tabAt a z).1
    rw [ha] at q
    cases q
  have main : ∀ H : Hp, (∀ b ∈ cs.map (·.2), H b = some (.tbl #[])) → SqL K H a (ns.map V.int) → HOk P w H s₁.heap → (∀ b u, H b = some u → b ∈ cs.map (·.2) ∨ (b = a ∧ K.lookup a = none ∧ ∃ ob xs, u = .frz ob (.lst xs))) →
      codeAny (model P w) callerA (.call (.ref fa) ⟨[.ref a], []⟩) (fun r s' => r = .ok (.ret (.bool true)) ∧ OldK s₁.heap s'.heap ∧ s'.os = s₁.os ∧ AllBare s'.gens) s₁ := by
    intro H tH sq hok own
    have shown : ∀ {b : Addr} {o : Obj}, s₁.heap.get? b = some o → H b = none → (hidT s₁.heap H).get? b = some o := fun e n => hidT_get e n
    have free : ∀ {b : Addr} {o : Obj}, s₁.heap.get? b = some o → (∀ ys n, o.data ≠ .seq ys n) → o.data ≠ .fields #[] → H b = none := fun {b o} e h1 h2 => by
      cases q : H b with
      | none => rfl
      | some u =>
        rcases own b u q with z | ⟨rfl, _⟩
        · rw [(tabAt b z).1] at e
          cases e
          exact (h2 rfl).elim
        · rw [ha] at e
          cases e
          exact (h1 _ _ rfl).elim
    have nsB : ∀ {b : Addr} {m : Str → Option Value}, s₁.heap.Ns b m → (hidT s₁.heap H).Ns b m := fun {b m} ⟨o, es, ep, e, d, r⟩ => ⟨o, es, ep, shown e (free e (fun ys n z => by rw [d] at z; cases z) fun z => by rw [d] at z; cases z), d, r⟩
    have kB : K.In (hidT s₁.heap H) := fun b o e => shown (KX b o e) (by
      cases q : H b with
      | none => rfl
      | some u =>
        rcases own b u q with z | ⟨rfl, z, _⟩
        · rw [(tabAt b z).2] at e
          cases e
        · rw [z] at e
          cases e)
    have md : L2.Mod K mg (hidT s₁.heap H) := ⟨kB, nsB hns, ⟨mb, nsB hb, hbb⟩, let ⟨mc, h1, h2⟩ := lim; ⟨mc, nsB h1, h2⟩⟩
    have tb : ∀ p ∈ cs, TabB (hidT s₁.heap H) mg p.1 p.2 := fun p hp => by
      have t := tabs p hp
      refine ⟨?_, ?_, fun z => ?_⟩
      · obtain ⟨o, us, file, tf, flags, tg, inF, text, tt, e1, r1, r2, r3, rest⟩ := t.hd
        refine ⟨o, us, file, tf, flags, tg, inF, text, tt, shown e1 (free e1 (fun ys n z => ?_) fun z => ?_), r1, r2, r3, rest⟩
        · rw [r2] at z
          cases z
        · rw [r2] at z
          cases z
          simp at r3
      · obtain ⟨b, ob, b1, b2, b3, b4, b5, b6⟩ := bm
        refine ⟨b, ob, b1, b2, fun q => ?_, fun q => ?_, shown b3 (free b3 (fun ys n z => ?_) fun z => ?_), b4, b5, b6⟩
        · obtain ⟨o, es, ep, e, d, _⟩ := hns
          rw [q, e] at b3
          cases b3
          rw [d] at b6
          cases b6
        · rw [q, t.at_] at b3
          cases b3
          cases b6
        · rw [b6] at z
          cases z
        · rw [b6] at z
          cases z
      · obtain ⟨o, es, ep, e, d, _⟩ := hns
        rw [z, t.at_] at e
        cases e
        cases d
    have ev : Env0 P w K mg (hidT s₁.heap H) callerA [] s₁ H := ⟨rfl, md, fun _ _ e => of_hidT e, Nat.le_of_eq (hidT_size _ _), trivial, fun b z => absurd (show b ∈ ([] : List Addr) from z) (by simp), hok, .of_eq gens⟩
    refine codeAny_mono ((F _ kB (nsB hns) tb).run callerA [] s₁ H ⟨[.ref a], []⟩ [.ref a] [.ref a] _ _ rfl room ev (bnd s₁ (.ref a)) (.cons rfl .nil) (pr H (fun p hp => tH _ (List.mem_map.mpr ⟨p, hp, rfl⟩)) sq)) fun r s' h => ?_
    match r, h with
    | .error e, h => exact (show False from h).elim
    | .ok .next, h => exact h.elim
    | .ok .brk, h => exact h.elim
    | .ok .cont, h => exact h.elim
    | .ok (.ret u), ⟨v, H', os, bare, un, hok', r', q⟩ =>
      obtain rfl : v = .bl true := q
      obtain rfl : u = Value.bool true := r'
      have grown : ∀ p ∈ cs, ∃ more : Array Value, s'.heap.get? p.2 = some { cls := .none, data := .fields more } := fun p hp => by
        obtain ⟨more, z⟩ := un.tbls p.2 #[] (tH _ (List.mem_map.mpr ⟨p, hp, rfl⟩))
        exact ⟨_, hok' p.2 _ z⟩
      have rest : ∀ b o, b ∉ cs.map (·.2) → s₁.heap.get? b = some o → s'.heap.get? b = some o := fun b o nb e => by
        cases q : H b with
        | none => exact un.keep b o e q (fun y => absurd (show b ∈ ([] : List Addr) from y) (by simp)) (by simp)
        | some u =>
          rcases own b u q with z | ⟨_, _, ob, xs, rfl⟩
          · exact absurd z nb
          · have e1 := (hok b _ q).1
            rw [e] at e1
            cases e1
            exact (hok' b _ (un.frzs b _ _ q)).1
      refine ⟨rfl, ⟨fun b o e => ?_, fun b o e => ?_⟩, os, bare⟩
      · by_cases hb : b ∈ cs.map (·.2)
        · obtain ⟨p, hp, rfl⟩ := List.mem_map.mp hb
          obtain ⟨more, hm⟩ := grown p hp
          have t := tabs p hp
          rw [t.at_] at e
          cases e
          exact .inr (.inl ⟨(t.hd.tab t.at_).isCodeTable, rfl, #[], more, rfl, by rw [Array.empty_append]; exact hm⟩)
        · exact .inl (rest b o hb e)
      · by_cases hb : b ∈ cs.map (·.2)
        · obtain ⟨p, hp, rfl⟩ := List.mem_map.mp hb
          obtain ⟨more, hm⟩ := grown p hp
          exact ⟨_, hm⟩
        · exact ⟨o, rest b o hb e⟩
  cases hk : K.lookup a with
  | some o =>
    have e := KX a o hk
    rw [ha] at e
    cases e
    have at1 : ∀ b u, (if b ∈ cs.map (·.2) then some (HO.tbl #[]) else none) = some u → b ∈ cs.map (·.2) ∧ u = .tbl #[] := fun b u z => by
      by_cases c : b ∈ cs.map (·.2)
      · rw [if_pos c] at z
        exact ⟨c, (Option.some.inj z).symm⟩
      · rw [if_neg c] at z
        cases z
    refine main (fun b => if b ∈ cs.map (·.2) then some (.tbl #[]) else none) (fun b z => if_pos z) (.inr ⟨_, vs.toArray, _, hk, rfl, rfl, rfl, ?_, by simpa using rv⟩) (fun b u z => ?_) fun b u z => .inl (at1 b u z).1
    · rw [List.size_toArray, hi.length]
      exact hl
    · obtain ⟨m, rfl⟩ := at1 b u z
      exact (tabAt b m).1
  | none =>
    have at1 : ∀ b u, (if b = a then some (HO.frz { cls := .type "list", data := .seq vs.toArray } (.lst (ns.map V.int))) else if b ∈ cs.map (·.2) then some (HO.tbl #[]) else none) = some u →
        (b = a ∧ u = HO.frz { cls := .type "list", data := .seq vs.toArray } (.lst (ns.map V.int))) ∨ (b ∈ cs.map (·.2) ∧ u = .tbl #[]) := fun b u z => by
      by_cases c : b = a
      · rw [if_pos c] at z
        exact .inl ⟨c, (Option.some.inj z).symm⟩
      · rw [if_neg c] at z
        by_cases d : b ∈ cs.map (·.2)
        · rw [if_pos d] at z
          exact .inr ⟨d, (Option.some.inj z).symm⟩
        · rw [if_neg d] at z
          cases z
    refine main (fun b => if b = a then some (.frz { cls := .type "list", data := .seq vs.toArray } (.lst (ns.map V.int))) else if b ∈ cs.map (·.2) then some (.tbl #[]) else none) (fun b z => ?_) (.inl (.inr ⟨_, if_pos rfl⟩)) (fun b u z => ?_) fun b u z => ?_
    · have n : ¬ b = a := fun q => aOut (by rw [← q]; exact z)
      exact (if_neg n).trans (if_pos z)
    · rcases at1 b u z with ⟨rfl, rfl⟩ | ⟨m, rfl⟩
      · exact ⟨ha, by rw [List.length_map]; exact hl, vs, _, rv, ha⟩
      · exact (tabAt b m).1
    · rcases at1 b u z with ⟨rfl, rfl⟩ | ⟨m, rfl⟩
      · exact .inr ⟨rfl, hk, _, _, rfl⟩
      · exact .inl m
theorem walk_ofGT {l : PySem.W.OpenLaw} {n k : Nat} {q : Program} {loose : List Str} {XP : (Str → Option Value) → Heap → Prop} {YP : World → Heap → Prop} {d : DefRec} {x : Str}
    (hn : l.most = some n) (hn2 : n ≤ sizeLine) (hdf : d.params.defaults = []) (hr : Room k callerA)
    (F : ∀ (w : World) (mg : Str → Option Value) (fa : Addr) (h : Heap), YP w h → h.Ns mainGlobals mg → mg d.name = some (.ref fa) →
      ∃ (K : PySem.W.Frag) (fd : FuncData) (cs : List (Addr × Addr)) (sp : Sp), K.In h ∧ (∀ p ∈ cs, TabP K h p) ∧ (∀ (s : Shared) (u : Value), BindsTo s fd ⟨[u], []⟩ [(x, u)]) ∧
        (∀ (H : Hp) (a : Addr) (ns : List Int), ns.length ≤ n → (∀ p ∈ cs, H p.2 = some (.tbl #[])) → SqL K H a (ns.map V.int) → sp [.ref a] H (fun v _ => v = .bl true) E0) ∧
        ∀ base : Heap, K.In base → base.Ns mainGlobals mg → (∀ p ∈ cs, TabB base mg p.1 p.2) → FnOkG l.prog w K mg base k fa fd [x] sp) :
    PySem.W.WalkO q loose XP YP l.row.toRowW d [] (fun f vs => PySem.call f vs) := by
  refine Att.attach_call hn hdf fun w s₀ s₁ mg mb fa o pm cd doc a vs ns G Y ho hd hcd hmg hobj hints hlen hg => ?_
  obtain ⟨K, fd, cs, sp, inK, tabs, bnd, pr, keeps⟩ := F w mg fa _ Y G.T.g hmg
  exact law_callGT inK G.T.g G.T.b G.T.builtins G.T.nolimit hg tabs G.T.bmain hobj hints (Nat.le_trans hlen hn2) hr keeps bnd fun H th sq => pr H a ns hlen th sq
end Wl

/-! Lambdas of a program's text by their place. -/
namespace Wl
open PySem PySem.Spec PyProof.Rows L2 LamX NdefX
def noE : Expr := .Constant .none 0 ⟨0, 0, 0, 0⟩
def eRet : Stmt → Expr
  | .Return (some e) _ => e
  | _ => noE
def eStm : Stmt → Expr
  | .Expr e _ => e
  | _ => noE
def eAsg : Stmt → Expr
  | .Assign _ e _ => e
  | _ => noE
def eArg (i : Nat) : Expr → Expr
  | .Call _ as _ _ => as.getD i noE
  | _ => noE
def eKwd (i : Nat) : Expr → Expr
  | .Call _ _ ks _ => (ks.map (·.value)).getD i noE
  | _ => noE
def eItm (i : Nat) : Expr → Expr
  | .List es _ => es.getD i noE
  | _ => noE
def eRight : Expr → Expr
  | .BinOp _ _ b _ => b
  | _ => noE
def lamP : Expr → Arguments
  | .Lambda p _ _ _ => p
  | _ => { posonlyargs := [], args := [], vararg := none, kwonlyargs := [], kw_defaults := [], kwarg := none, defaults := [] }
def lamB : Expr → Expr
  | .Lambda _ b _ _ => b
  | _ => noE
def lamS : Expr → Scope
  | .Lambda _ _ s _ => s
  | _ => { kind := .function, names := [], isGenerator := false, isCoroutine := false }
def lamL : Expr → Pos
  | .Lambda _ _ _ l => l
  | _ => ⟨0, 0, 0, 0⟩
def LF.of (e : Expr) (qual : Str) (cl : List (Str × Addr)) (c : Addr) : LF := ⟨⟨"<lambda>", qual, lamP e, [], lamS e, cl, c⟩, lamB e⟩
theorem pe_lamS {X : Cx} {e : Expr} {T : List (Addr × Str)} {c P : Addr} (he : e = .Lambda (lamP e) (lamB e) (lamS e) (lamL e)) (B : TabB X.base X.mg c P) (cd : X.env.code = .ref c) (mT : (P, X.env.qual ++ "<lambda>") ∈ T) (uT : ∀ p ∈ T, p.1 = P → p.2 = X.env.qual ++ "<lambda>")
    (fr : ∀ y ∈ (lamS e).names, y.2 = .free → X.env.scope.names.lookup y.1 = some .cell ∨ X.env.scope.names.lookup y.1 = some .free) (d0 : defaultsOf (lamP e) X.env = ([], []) := by rfl) :
    PE X e (tLam T fun c' => LF.of e (X.env.qual ++ "<lambda>") (cloFrom X.env.cells (lamS e).names []) c') := by
  have q := pe_lam (X := X) (T := T) (c := c) (P := P) (params := lamP e) (body := lamB e) (scope := lamS e) (pos := lamL e) B cd mT uT fr d0
  rw [← he] at q
  exact q
/-- the tables stay where all that is tracked stays -/
theorem tabs_same {T : List (Addr × Str)} {H H' : Hp} (t : Tabs T H) (s : Same H H') : Tabs T H' := t.ext s
/-- .. where all but some lists stays -/
theorem tabs_mv {T : List (Addr × Str)} {H H' : Hp} (t : Tabs T H) (s : ∀ b o, (∀ xs, o ≠ .lst xs) → H b = some o → H' b = some o) : Tabs T H' := fun p hp => by
  obtain ⟨ps, h1, h2, h3⟩ := t p hp
  refine ⟨ps, s _ _ (fun xs e => by cases e) h1, h2, fun pos cv hc => ?_⟩
  obtain ⟨c, e1, e2⟩ := h3 pos cv hc
  exact ⟨c, e1, s _ _ codeO_lst e2⟩
end Wl

/-! A comprehension whose test makes objects. -/
namespace Wl
open PySem PySem.Spec PyProof.Rows L2
section
variable {J : It} {ys : List V} {G : Hp → Prop} {slot : Nat} {tt : TT} {te : TE} {vs : List Nat} {σ : L2.St} {H1 : Hp} {D : Addr} {Qd : Hp → Prop}
theorem lc_keepX (w : L2.Walk J ys.length G (YAt ys)) (hD : H1 D = none) (keep : V → Bool) (hG : ∀ H, Same H1 H → G H) (hw : ∀ x, wipe ((wipe σ vs).set slot (some x)) vs = wipe σ vs)
    (ht : ∀ (x : V) (H : Hp), x ∈ ys → Same H1 H → ∀ Q : Bool → Hp → Prop, (∀ H', Same H H' → Q (keep x) H') → tt ((wipe σ vs).set slot (some x)) H Q)
    (he : ∀ (x : V) (H : Hp) (Q : VK), Q x H → te ((wipe σ vs).set slot (some x)) H Q)
    (hn : ys.length < sizeLine)
    (hd : ∀ H, Same H1 H → H D = some (.lst (ys.filter keep)) → Qd H) :
    ∃ W : Nat → Nat → Hp → Prop, (∃ m, W 0 m (upd H1 D (.lst []))) ∧ ∀ i m H, W i m H →
      (J.stop i H ∧ Qd H) ∨ (J.go i H ∧ ∃ Nx : Hp → Prop, (∀ H', Nx H' → ∃ m', m' < m ∧ W (i + 1) m' H') ∧ ∀ x H', J.yld i H x H' → gName slot x (wipe σ vs) H' fun σ2 H2 => wipe σ2 vs = wipe σ vs ∧ tt σ2 H2 fun b H3 =>
        if b = true then te σ2 H3 fun y H4 => ∃ acc, H4 D = some (.lst acc) ∧ acc.length < sizeLine ∧ Nx (upd H4 D (.lst (acc ++ [y]))) else Nx H3) := by
  refine lc_it w (fun i H => Same H1 H ∧ H D = some (.lst ((ys.take i).filter keep))) ⟨same_new hD, upd_same⟩ (fun i H _ h => hG H h.1) ?_ ?_
  · rintro i x H H' hi ⟨s, hz⟩ ⟨rfl, hx⟩
    have hm : x ∈ ys := List.mem_of_getElem? hx
    refine ⟨hw x, ht x _ hm s _ fun H3 s3 => ?_⟩
    have hf := filter_take_snoc (p := keep) hx
    refine ite_b (fun e => ?_) (fun e => ?_)
    · refine he x _ _ ⟨_, s3 _ _ hz, ?_, same_mut (s.trans s3) hD, ?_⟩
      · have h2 : ((ys.take i).filter keep).length ≤ (ys.take i).length := List.length_filter_le _ _
        have h3 : (ys.take i).length ≤ ys.length := List.length_take_le' _ _
        omega
      · rw [upd_same, hf, if_pos e]
    · refine ⟨s.trans s3, ?_⟩
      rw [hf, if_neg (by rw [e]; decide), List.append_nil]
      exact s3 _ _ hz
  · rintro H ⟨s, hz⟩
    rw [List.take_length] at hz
    exact hd H s hz
end
end Wl

/-! sorted(a list of things told by data), and when two such lists are sorted alike -/
namespace Wl
open PySem PySem.Spec PyProof.Rows L2
theorem each_pairs {α β : Type} {R : α → β → Prop} : ∀ {as : List α} {bs : List β}, Each R as bs → ∃ zs : List (α × β), zs.map (·.1) = as ∧ zs.map (·.2) = bs ∧ ∀ z ∈ zs, R z.1 z.2
  | _, _, .nil => ⟨[], rfl, rfl, fun z h => by cases h⟩
  | _, _, .cons (a := a) (b := b) r t => by
    obtain ⟨zs, h1, h2, h3⟩ := each_pairs t
    refine ⟨(a, b) :: zs, by rw [List.map_cons, h1], by rw [List.map_cons, h2], fun z hz => ?_⟩
    rcases List.mem_cons.mp hz with rfl | hz
    · exact r
    · exact h3 z hz
theorem pairs_each {α β : Type} {R : α → β → Prop} : ∀ (zs : List (α × β)), (∀ z ∈ zs, R z.1 z.2) → Each R (zs.map (·.1)) (zs.map (·.2))
  | [], _ => .nil
  | z :: zs, h => .cons (h z List.mem_cons_self) (pairs_each zs fun y hy => h y (List.mem_cons_of_mem _ hy))
def sortE {β : Type} (enc : β → PyData) (bs : List β) : List β := bs.mergeSort (PySem.W.dataLe false enc)
section
variable {β : Type} {enc : β → PyData}
theorem sortE_ind {enc : β → PyData} (bs : List β) : (sortE enc bs).Perm bs := List.mergeSort_perm _ _
theorem le_enc (a b : β) : PySem.W.dataLe false enc a b = !PyProof.Rows.lexLt PyProof.Rows.itemOrd (PySem.W.keyToks (enc b)) (PySem.W.keyToks (enc a)) := by
  rw [PySem.W.dataLe_eq]
  rfl
theorem le_tr (a b c : β) (h1 : PySem.W.dataLe false enc a b = true) (h2 : PySem.W.dataLe false enc b c = true) : PySem.W.dataLe false enc a c = true := by
  rw [le_enc, Bool.not_eq_true'] at h1 h2 ⊢
  cases e : PyProof.Rows.lexLt PyProof.Rows.itemOrd (PySem.W.keyToks (enc c)) (PySem.W.keyToks (enc a)) with
  | false => rfl
  | true =>
    rcases PyProof.Rows.lex_negTrans _ (PySem.W.keyToks (enc b)) _ e with z | z
    · rw [h2] at z
      cases z
    · rw [h1] at z
      cases z
theorem le_tot (a b : β) : (PySem.W.dataLe false enc a b || PySem.W.dataLe false enc b a) = true := by
  rw [le_enc, le_enc]
  cases e : PyProof.Rows.lexLt PyProof.Rows.itemOrd (PySem.W.keyToks (enc b)) (PySem.W.keyToks (enc a)) with
  | false => rfl
  | true =>
    cases e2 : PyProof.Rows.lexLt PyProof.Rows.itemOrd (PySem.W.keyToks (enc a)) (PySem.W.keyToks (enc b)) with
    | false => rfl
    | true =>
      have := PyProof.Rows.lex_trans _ _ _ e e2
      rw [PyProof.Rows.lex_irrefl] at this
      cases this
theorem le_anti (inj : ∀ a b : β, PySem.W.keyToks (enc a) = PySem.W.keyToks (enc b) → a = b) (a b : β) (h1 : PySem.W.dataLe false enc a b = true) (h2 : PySem.W.dataLe false enc b a = true) : a = b := by
  rw [le_enc, Bool.not_eq_true'] at h1 h2
  exact inj a b (PyProof.Rows.lex_total _ _ h2 h1)
theorem sorted_same {le : β → β → Bool} (anti : ∀ a b : β, le a b = true → le b a = true → a = b) : ∀ {l m : List β}, l.Pairwise (fun a b => le a b = true) → m.Pairwise (fun a b => le a b = true) → l.Perm m → l = m
  | [], m, _, _, p => p.nil_eq
  | a :: l, [], _, _, p => absurd p.symm.nil_eq (by simp)
  | a :: l, b :: m, h1, h2, p => by
    have e : a = b := by
      have ha : a ∈ b :: m := p.mem_iff.mp List.mem_cons_self
      have hb : b ∈ a :: l := p.mem_iff.mpr List.mem_cons_self
      rcases List.mem_cons.mp ha with e | ha
      · exact e
      · rcases List.mem_cons.mp hb with e | hb
        · exact e.symm
        · exact anti a b ((List.pairwise_cons.mp h1).1 b hb) ((List.pairwise_cons.mp h2).1 a ha)
    subst e
    rw [sorted_same anti (List.pairwise_cons.mp h1).2 (List.pairwise_cons.mp h2).2 (List.Perm.cons_inv p)]
theorem sortE_perm (inj : ∀ a b : β, PySem.W.keyToks (enc a) = PySem.W.keyToks (enc b) → a = b) {l m : List β} : sortE enc l = sortE enc m ↔ l.Perm m := by
  refine ⟨fun e => ?_, fun p => ?_⟩
  · have h1 := sortE_ind (enc := enc) l
    have h2 := sortE_ind (enc := enc) m
    rw [e] at h1
    exact h1.symm.trans h2
  · refine sorted_same (le := PySem.W.dataLe false enc) (le_anti inj) (List.pairwise_mergeSort le_tr le_tot l) (List.pairwise_mergeSort le_tr le_tot m) ?_
    exact (sortE_ind l).trans (p.trans (sortE_ind m).symm)
/-- sorted(xs) -/
theorem sort_enc {K : PySem.W.Frag} {H : Hp} {Q : VK} {a : Addr} {xs : List V} {bs : List β} (h : SqL K H a xs) (hd : Each (fun x b => Dp K H x (enc b)) xs bs) (al : ∀ b b' : β, PySem.W.alike (enc b) (enc b') = true) (sb : ∀ b, ∃ x r, enc b = .tuple (x :: r)) (dep : ∀ b, (enc b).depth ≤ 8)
    (q : ∀ p ys, H p = none → (∀ R : V → β → Prop, Each R xs bs → Each R ys (sortE enc bs)) → Q (.ref p) (upd H p (.lst ys))) : rSortD K [.ref a] H Q := by
  obtain ⟨zs, e1, e2, hz⟩ := each_pairs hd
  refine ⟨a, zs.map fun z => (z.1, enc z.2), rfl, ?_, ?_, ?_, ?_, ?_, fun p hp => ?_⟩
  · rw [List.map_map]
    exact e1 ▸ h
  · intro b hb
    obtain ⟨z, hzm, rfl⟩ := List.mem_map.mp hb
    exact hz z hzm
  · intro d hd e he
    obtain ⟨b, hb, rfl⟩ := List.mem_map.mp hd
    obtain ⟨x, _, rfl⟩ := List.mem_map.mp hb
    obtain ⟨c, hc, rfl⟩ := List.mem_map.mp he
    obtain ⟨y, _, rfl⟩ := List.mem_map.mp hc
    exact al _ _
  · refine .inl fun d hd => ?_
    obtain ⟨b, hb, rfl⟩ := List.mem_map.mp hd
    obtain ⟨x, _, rfl⟩ := List.mem_map.mp hb
    exact sb _
  · intro b hb
    obtain ⟨x, _, rfl⟩ := List.mem_map.mp hb
    exact dep _
  · have m1 : (zs.mergeSort fun x y => PySem.W.dataLe false enc x.2 y.2).map (fun z => (z.1, enc z.2)) = (zs.map fun z => (z.1, enc z.2)).mergeSort (PySem.W.dataLe false (·.2)) := List.map_mergeSort fun x _ y _ => by
      rw [PySem.W.dataLe_eq, PySem.W.dataLe_eq]
    have m2 : (zs.mergeSort fun x y => PySem.W.dataLe false enc x.2 y.2).map (·.2) = (zs.map (·.2)).mergeSort (PySem.W.dataLe false enc) := List.map_mergeSort fun x _ y _ => rfl
    rw [← m1, List.map_map]
    refine q p _ hp fun R hR => ?_
    have hall : ∀ z ∈ zs, R z.1 z.2 := by
      have : ∀ (zs : List (V × β)), Each R (zs.map (·.1)) (zs.map (·.2)) → ∀ z ∈ zs, R z.1 z.2 := by
        intro zs
        induction zs with
        | nil => intro _ z hz; cases hz
        | cons y ys ih =>
          intro h z hz
          cases h with
          | cons r t =>
            rcases List.mem_cons.mp hz with rfl | hz
            · exact r
            · exact ih t z hz
      rw [← e1, ← e2] at hR
      exact this zs hR
    have e3 := pairs_each (R := R) (zs.mergeSort fun x y => PySem.W.dataLe false enc x.2 y.2) fun z hzm => hall z (List.mem_mergeSort.mp hzm)
    rw [m2, e2] at e3
    exact e3
end
end Wl

/-! tellings by a keying, those by an ask. -/
namespace Wl
open PySem PySem.Spec PyProof.Rows L2 LamX NdefX
abbrev sGThose : Stmt := inClass sGat 7
/-- the lambda of tellings -/
abbrev lamT : Expr := eKwd 0 (eRet ((defBody sGTell).getD 1 (.Pass ⟨0, 0, 0, 0⟩)))
section
variable {P : Program} {w : World} {K : PySem.W.Frag} {mg : Str → Option Value} {base : Heap} {f C D : Addr} {fd : FuncData}
abbrev nLamT : List Str := ["telling", "keying"]
theorem nsT : NScope nLamT ["telling"] ["keying"] (lamS lamT) := nscope_by (by decide +kernel)
/-- what the lambda of tellings does: it calls what it captured -/
def spLamT (P : Program) (w : World) (K : PySem.W.Frag) (mg : Str → Option Value) (base : Heap) (k : Nat) (ws : List (Option V)) : Sp := fun vs H Q _ => ∃ (g : Addr) (v : V) (sp : Sp), ws = [some (.ref g)] ∧ vs = [v] ∧ FunV P w K mg base H k g sp ∧ sp [v] H Q E0
theorem ok_lamT {q : Str} {cl : List (Str × Addr)} {c' h : Addr} {k : Nat} : NvOk P w K mg base (k + 1) h (LF.of lamT q cl c') ["telling"] ["keying"] (spLamT P w K mg base k) := by
  refine nv_of (N := nLamT) nsT (fun pm ctv us hl => ?_) (fun ws vs H Q z => ?_) (fun A outer s H vs ws Q room at_ lw z => ?_)
  · match us, hl with
    | [_], _ => rfl
  · obtain ⟨g, v, sp, _, rfl, _⟩ := z
    rfl
  · obtain ⟨g, v, sp, rfl, rfl, fv, pr⟩ := z
    refine ⟨_, pe_callV (k := k) (j := k) (i := 1) room rfl (.inr (.inr rfl)) (pa_cons (pv 0) pa_nil) (Nat.le_refl _), ?_⟩
    exact ⟨g, rfl, ⟨sp, fv⟩, _, rfl, sp, fv, pr⟩
end
end Wl


namespace Wl
open PySem PySem.Spec PyProof.Rows L2 LamX NdefX
theorem sort_pairs {H : Hp} {as : List Addr} {ts : List Tel} (enc : Tel → PyData) (h : TelsAt H as ts) : ∃ zs : List (Addr × Tel), as.map V.ref = (zs.map fun z => (V.ref z.1, enc z.2)).map (·.1) ∧ (∀ z ∈ zs, z.2 ∈ ts ∧ H z.1 = some (.tup (telV z.2))) ∧
    ∃ as' : List Addr, (((zs.map fun z => (V.ref z.1, enc z.2)).mergeSort (PySem.W.dataLe false (·.2))).map (·.1)) = as'.map V.ref ∧ TelsAt H as' (sortE enc ts) := by
  obtain ⟨zs, e1, e2, hz⟩ := each_pairs h
  refine ⟨zs, by rw [← e1, List.map_map, List.map_map]; rfl, fun z m => ⟨by rw [← e2]; exact List.mem_map.mpr ⟨z, m, rfl⟩, hz z m⟩, (zs.mergeSort (PySem.W.dataLe false fun z : Addr × Tel => enc z.2)).map (·.1), ?_, ?_⟩
  · rw [← List.map_mergeSort (r := PySem.W.dataLe false fun z : Addr × Tel => enc z.2) (f := fun z : Addr × Tel => (V.ref z.1, enc z.2)) (fun a _ b _ => rfl), List.map_map, List.map_map]
    rfl
  · have e3 : sortE enc ts = (zs.mergeSort (PySem.W.dataLe false fun z : Addr × Tel => enc z.2)).map (·.2) := by
      unfold sortE
      rw [← e2, List.map_mergeSort (r := PySem.W.dataLe false fun z : Addr × Tel => enc z.2) (s := PySem.W.dataLe false enc) (f := fun z : Addr × Tel => z.2) (fun a _ b _ => rfl)]
    rw [e3]
    exact pairs_each _ fun z m => hz z (List.mem_mergeSort.mp m)
section
variable {P : Program} {w : World} {K : PySem.W.Frag} {mg : Str → Option Value} {base : Heap} {f C D : Addr} {fd : FuncData}
/-- a key's call brings this of each of these -/
def KeyDoes (K : PySem.W.Frag) (H : Hp) (sp : Sp) (ts : List Tel) (enc : Tel → PyData) : Prop := ∀ t ∈ ts, ∀ (a : Addr) (H1 : Hp), ExtN H H1 → H1 a = some (.tup (telV t)) → ∀ Q : VK, (∀ y H2, Same H1 H2 → Dp K H2 y (enc t) → Q y H2) → sp [.ref a] H1 Q E0
structure KeyOk (ts : List Tel) (enc : Tel → PyData) : Prop where
  al : PySem.W.AllAlike (ts.map enc)
  sk : PySem.W.Sortable (ts.map enc)
  dep : ∀ t ∈ ts, (enc t).depth ≤ 8
/-- tellings(keying) -/
def spTellBy (P : Program) (w : World) (K : PySem.W.Frag) (mg : Str → Option Value) (base : Heap) (T : List (Addr × Str)) (k : Nat) (C D : Addr) : Sp := fun vs H Q _ => ∃ (p g : Addr) (r : GR) (sp : Sp) (enc : Tel → PyData), vs = [.ref p, .ref g] ∧ GatAt C D H p r ∧ Tabs T H ∧ FunV P w K mg base H k g sp ∧ KeyDoes K H sp r.ts enc ∧ KeyOk r.ts enc ∧
  ∀ (l : Addr) (as' : List Addr) (H1 : Hp), ExtN H H1 → (∀ b, H1 b = none → H b = none) → Tabs T H1 → H1 l = none → TelsAt H1 as' (sortE enc r.ts) → Q (.ref l) (upd H1 l (.lst (as'.map V.ref)))
theorem lam_freeT : ∀ y ∈ (lamS lamT).names, y.2 = .free → (defScope sGTell).names.lookup y.1 = some .cell ∨ (defScope sGTell).names.lookup y.1 = some .free := by decide +kernel
theorem ok_tellBy {c ct : Addr} {T : List (Addr × Str)} {k : Nat} (F : FunT K f fd) (hc : codeOf K f = some c) (TB : TabB base mg c ct) (mT : (ct, ("Gathering.tellings.<locals>." : Str) ++ "<lambda>") ∈ T) (uT : ∀ p ∈ T, p.1 = ct → p.2 = ("Gathering.tellings.<locals>." : Str) ++ "<lambda>") (B : Bi mg) (TG : TxtG K mg D) :
    FnOk P w K mg base CX0 (k + 4) f fd ["self", "keying"] (spTellBy P w K mg base T k C D) := by
  refine okDC F hc scTell (fun vs H Q E h => ?_) (fun A outer s H vs Q E hr h => ?_)
  · obtain ⟨p, g, r, sp, enc, rfl, _⟩ := h
    rfl
  · obtain ⟨p, g, r, sp, enc, rfl, hG, tb, fv, kd, ko, q⟩ := h
    refine ⟨_, pss_cons (ps_if (pt_cmp (pc_isN (pv 1))) (pss_one ps_never) pss_nil) (pss_one (ps_ret (pe_callRS (ks := [Str.ofString "key"]) (cr_sortF (k := k + 1) (j := k + 1) hr (Nat.le_refl _)) rfl B.sorted (by decide +kernel) (pa_cons (pe_fld (pv 0) rfl) pa_nil)
      (pk_cons (pe_lamS (e := lamT) (T := T) (c := c) (P := ct) rfl TB rfl mT uT lam_freeT) pk_nil)))), ?_⟩
    obtain ⟨dx, hp⟩ := hG.at_
    refine ⟨_, rfl, _, rfl, iteF ⟨_, rfl, p, D, dx, _, _, rfl, hp, TG.cl, TG.nT, gf_told _ _ _, tb, fun h c' H1 ex ml tb1 nh at_ => ?_⟩⟩
    obtain ⟨zs, e1, hz, as', e2, ht⟩ := sort_pairs enc hG.tels
    have sub : ∀ d ∈ (zs.map fun z => (V.ref z.1, enc z.2)).map (·.2), d ∈ r.ts.map enc := fun d hd => by
      obtain ⟨b, hb, rfl⟩ := List.mem_map.mp hd
      obtain ⟨z, hm, rfl⟩ := List.mem_map.mp hb
      exact List.mem_map.mpr ⟨z.2, (hz z hm).1, rfl⟩
    have htd : H1 r.td = some (.lst (r.as.map V.ref)) := ex _ _ hG.told (fun ps e => by cases e)
    refine ⟨r.td, h, _, ["telling"], ["keying"], [1], spLamT P w K mg base k, zs.map fun z => (V.ref z.1, enc z.2), rfl, rfl, .inl (.inl (by rw [← e1]; exact htd)), at_, fun ok => Caps.made ok lam_freeT (by decide +kernel) rfl, ok_lamT, fun b hb H2 s2 => ?_, fun d hd d' hd' => ko.al d (sub d hd) d' (sub d' hd'),
      ko.sk.imp (fun z d hd => z d (sub d hd)) (fun z d hd => z d (sub d hd)), fun b hb => ?_, fun H2 l s2 nl => ?_⟩
    · obtain ⟨z, hm, rfl⟩ := List.mem_map.mp hb
      have ex2 : ExtN H H2 := ex.trans fun b o e _ => s2 b o e
      exact ⟨g, _, sp, rfl, rfl, fv.ext ex2, kd z.2 (hz z hm).1 z.1 H2 ex2 (ex2 _ _ (hz z hm).2 (fun ps e => by cases e)) _ fun y H3 s3 d3 => ⟨s3, d3⟩⟩
    · obtain ⟨z, hm, rfl⟩ := List.mem_map.mp hb
      exact ko.dep z.2 (hz z hm).1
    · rw [e2]
      have ex2 : ExtN H H2 := ex.trans fun b o e _ => s2 b o e
      exact q l as' H2 ex2 (fun b nb => ml b (s2.free nb)) (tabs_same tb1 s2) nl (ht.keep fun b xs e => ex2 b _ e (fun ps e => by cases e))
/-! ### those(ask) -/
abbrev nThose : List Str := ["self", "ask", "telling"]
theorem scThose : FnScope nThose ["self", "ask"] (defScope sGThose) := ⟨rfl, rfl, rfl, by decide +kernel, rfl, by decide +kernel, by decide +kernel⟩
/-- an ask's call tells this of each of these -/
def AskDoes (H : Hp) (sp : Sp) (ts : List Tel) (pr : Tel → Bool) : Prop := ∀ t ∈ ts, ∀ (a : Addr) (H1 : Hp), Same H H1 → H1 a = some (.tup (telV t)) → ∀ Q : VK, (∀ H2, Same H1 H2 → Q (.bl (pr t)) H2) → sp [.ref a] H1 Q E0
def spThose (P : Program) (w : World) (K : PySem.W.Frag) (mg : Str → Option Value) (base : Heap) (k : Nat) (C D : Addr) : Sp := fun vs H Q _ => ∃ (p g : Addr) (r : GR) (sp : Sp) (pr : Tel → Bool), vs = [.ref p, .ref g] ∧ GatAt C D H p r ∧ r.ts.length ≤ 200 ∧ FunV P w K mg base H k g sp ∧ AskDoes H sp r.ts pr ∧
  ∀ (l : Addr) (bs : List Addr) (H1 : Hp), H l = none → Same H H1 → H1 l = some (.lst (bs.map V.ref)) → TelsAt H1 bs (r.ts.filter pr) → Q (.ref l) H1
end
end Wl


namespace Wl
open PySem PySem.Spec PyProof.Rows L2
/-- a test of tellings, as a test of values -/
noncomputable def keepBy (H : Hp) (pr : Tel → Bool) (x : V) : Bool := open Classical in if h : ∃ t : Tel, ∃ p, x = .ref p ∧ H p = some (.tup (telV t)) then pr h.choose else false
theorem keepBy_at {H : Hp} {pr : Tel → Bool} {p : Addr} {t : Tel} (h : H p = some (.tup (telV t))) : keepBy H pr (.ref p) = pr t := by
  unfold keepBy
  have e : ∃ t : Tel, ∃ q, V.ref p = .ref q ∧ H q = some (.tup (telV t)) := ⟨t, p, rfl, h⟩
  rw [dif_pos e]
  obtain ⟨q, e1, e2⟩ := e.choose_spec
  have e1 := V.ref.inj e1
  subst e1
  rw [h] at e2
  rw [← telV_inj (HO.tup.inj (Option.some.inj e2))]
theorem tels_filter {H H' : Hp} {pr : Tel → Bool} : ∀ {as : List Addr} {ts : List Tel}, TelsAt H as ts → TelsAt H' as ts → ∃ bs : List Addr, ((as.map V.ref).filter (keepBy H pr)).map id = bs.map V.ref ∧ TelsAt H' bs (ts.filter pr)
  | _, _, .nil, .nil => ⟨[], rfl, .nil⟩
  | _, _, .cons (a := p) (b := t) e r, .cons e' r' => by
    obtain ⟨bs, h1, h2⟩ := tels_filter (pr := pr) r r'
    rw [List.map_cons, List.filter_cons, keepBy_at e, List.filter_cons]
    by_cases c : pr t = true
    · rw [if_pos c, if_pos c]
      exact ⟨p :: bs, by rw [List.map_cons, h1]; rfl, .cons e' h2⟩
    · rw [if_neg c, if_neg c]
      exact ⟨bs, h1, h2⟩
section
variable {P : Program} {w : World} {K : PySem.W.Frag} {mg : Str → Option Value} {base : Heap} {f C D : Addr} {fd : FuncData}
/-! ### by_village -/
end
end Wl






namespace Wl
open PySem PySem.Spec PyProof.Rows L2
section
variable {P : Program} {w : World} {K : PySem.W.Frag} {mg : Str → Option Value} {base : Heap} {f C D : Addr} {fd : FuncData}
/-- [t for t in tellings if ..], the test makes objects -/
theorem pick_telsX {H1 : Hp} {a Dd : Addr} {as : List Addr} {ts : List Tel} {tt : TT} {te : TE} {slot : Nat} {vs : List Nat} {σ : L2.St} {Qd : Hp → Prop} (hl : H1 a = some (.lst (as.map V.ref))) (hT : TelsAt H1 as ts) (hD : H1 Dd = none) (pr : Tel → Bool) (hn : ts.length ≤ 200)
    (hw : ∀ x, wipe ((wipe σ vs).set slot (some x)) vs = wipe σ vs)
    (ht : ∀ (p : Addr) (t : Tel) (H : Hp), t ∈ ts → H p = some (.tup (telV t)) → Same H1 H → ∀ Q : Bool → Hp → Prop, (∀ H', Same H H' → Q (pr t) H') → tt ((wipe σ vs).set slot (some (.ref p))) H Q)
    (he : ∀ (x : V) (H : Hp) (Q : VK), Q x H → te ((wipe σ vs).set slot (some x)) H Q)
    (hd : ∀ (bs : List Addr) (H : Hp), Same H1 H → H Dd = some (.lst (bs.map V.ref)) → TelsAt H bs (ts.filter pr) → Qd H) :
    ∃ W : Nat → Nat → Hp → Prop, (∃ m, W 0 m (upd H1 Dd (.lst []))) ∧ ∀ i m H, W i m H →
      ((Itl K a).stop i H ∧ Qd H) ∨ ((Itl K a).go i H ∧ ∃ Nx : Hp → Prop, (∀ H', Nx H' → ∃ m', m' < m ∧ W (i + 1) m' H') ∧ ∀ x H', (Itl K a).yld i H x H' → gName slot x (wipe σ vs) H' fun σ2 H2 => wipe σ2 vs = wipe σ vs ∧ tt σ2 H2 fun b H3 =>
        if b = true then te σ2 H3 fun y H4 => ∃ acc, H4 Dd = some (.lst acc) ∧ acc.length < sizeLine ∧ Nx (upd H4 Dd (.lst (acc ++ [y]))) else Nx H3) := by
  have hlen := hT.length
  refine lc_keepX (walk_list (K := K) (a := a) (xs := as.map V.ref)) hD (keepBy H1 pr) (fun H' s' => .inl (.inl (s' _ _ hl))) hw ?_ he ?_ ?_
  · intro x H' hx s' Q' q'
    obtain ⟨p, hp, rfl⟩ := List.mem_map.mp hx
    obtain ⟨i, hi, ei⟩ := List.mem_iff_getElem.mp hp
    obtain ⟨t, htm, hH⟩ := Each.get hT (i := i) (a := p) (by rw [List.getElem?_eq_getElem hi, ei])
    rw [keepBy_at hH] at q'
    exact ht p t H' (List.mem_of_getElem? htm) (s' _ _ hH) s' Q' q'
  · rw [List.length_map]
    exact small1000 (by omega)
  · intro H2 s2 hD2
    obtain ⟨bs, e1, e2⟩ := tels_filter (pr := pr) hT (hT.keep (tk_same s2))
    rw [List.map_id] at e1
    rw [e1] at hD2
    exact hd bs H2 s2 hD2 e2
/-! ### tellings_of_two -/
/-! ### how_otherwise -/
/-! ### age_cut -/
end
end Wl



namespace Wl
open PySem PySem.Spec PyProof.Rows L2 LamX NdefX
section
variable {P : Program} {w : World} {K : PySem.W.Frag} {mg : Str → Option Value} {base : Heap} {f C D : Addr} {fd : FuncData}
theorem ok_those {k : Nat} (F : Fun K "those" "Gathering.those" sGThose f fd) (TG : TxtG K mg D) : FnOk P w K mg base CX0 (k + 1) f fd ["self", "ask"] (spThose P w K mg base k C D) := by
  refine F.ok scThose (fun vs H Q E h => ?_) (fun cdv A outer s H vs Q E hr h => ?_)
  · obtain ⟨p, g, r, sp, pr, rfl, _⟩ := h
    rfl
  · obtain ⟨p, g, r, sp, pr, rfl, hG, h200, fv, ad, q⟩ := h
    refine ⟨_, pss_one (ps_ret (pe_lc (own := [("telling", 2)]) (g := gName 2) (tt := tTest (tOp rIsB (tCallV P w K mg base k 1 (tCons (tVar 2) tNil)) (tC (.bl true)))) (te := tVar 2) rfl scThose.nd (pi_list (pe_fld (pv 0) rfl)) (blkOk_by (N := nThose) (sc := defScope sGThose) (by decide +kernel)) (fun _ _ _ _ _ => pg_name (i := 2) scThose.nd rfl (.inl rfl))
      (fun _ _ _ _ _ => pts_one (pt_cmpR op_isBl (pe_callV (k := k) (j := k) (i := 1) hr rfl (by first | exact .inl rfl | exact .inr (.inl rfl) | exact .inr (.inr rfl)) (pa_cons (pv 2) pa_nil) (Nat.le_refl _)) pe_bl (nomark _))) (fun _ _ _ _ _ => pv 2))), ?_⟩
    obtain ⟨dx, hp⟩ := hG.at_
    refine ⟨_, rfl, p, D, dx, _, _, rfl, hp, TG.cl, TG.nT, gf_told _ _ _, r.td, rfl, ⟨_, .inl (.inl hG.told)⟩, fun Dd nDd => ?_⟩
    refine pick_telsX hG.told hG.tels nDd pr h200 (fun _ => rfl) ?_ (fun x H Q q => ⟨_, rfl, q⟩) ?_
    · intro pt t H' htm hpt s' Q' q'
      have fv' := fv.ext fun b o e _ => s' b o e
      refine ⟨g, rfl, ⟨sp, fv'⟩, _, rfl, sp, fv', ?_⟩
      refine ad t htm pt H' s' hpt _ fun H2 s2 => ⟨pr t, true, rfl, rfl, _, rfl, ?_⟩
      have e : decide (pr t = true) = pr t := by cases pr t <;> rfl
      rw [e]
      exact q' H2 s2
    · intro bs H2 s2 hD2 hb
      exact q Dd bs H2 nDd s2 hD2 hb
end
end Wl


/-! A lambda that captured a cell, called after its maker has returned. -/
namespace Wl
open PySem PySem.Spec PyProof.Rows L2 LamX NdefX
/-- a cell that nobody writes any more -/
def CellO (c : Addr) (v : V) : HO := .ext fun h => ∃ u, RelV v u ∧ h.IsCell c (some u)
theorem cellO_lst {c : Addr} {v : V} (xs : List V) : CellO c v ≠ .lst xs := fun e => by
  unfold CellO at e
  cases e
theorem cellO_tup {c : Addr} {v : V} (xs : List V) : CellO c v ≠ .tup xs := fun e => by
  unfold CellO at e
  cases e
theorem cellO_tbl {c : Addr} {v : V} (xs : Array Value) : CellO c v ≠ .tbl xs := fun e => by
  unfold CellO at e
  cases e
theorem cellO_own {c : Addr} {v : V} (a : Addr) : CellO c v ≠ .own a := fun e => by
  unfold CellO at e
  cases e
theorem cellO_frz {c : Addr} {v : V} (o : Obj) (u : HO) : CellO c v ≠ .frz o u := fun e => by
  unfold CellO at e
  cases e
theorem cellO_ok {P : Program} {w : World} {H : Hp} {h : Heap} {c : Addr} {v : V} {u : Value} (r : RelV v u) (e : h.IsCell c (some u)) : ObjOk P w H h c (CellO c v) := by
  obtain ⟨o, ho, hd⟩ := id e
  refine ⟨⟨u, r, e⟩, ⟨o, ho⟩, ?_⟩
  rintro g g' ⟨u', r', ⟨o', a1, a2⟩⟩ st
  exact ⟨u', r', ⟨o', st _ a1, a2⟩⟩
/-- all but c -/
def dropH (c : Addr) (H : Hp) : Hp := fun b => if b = c then none else H b
section
variable {c : Addr} {H : Hp} {b : Addr} {o : HO}
theorem drop_self : dropH c H c = none := if_pos rfl
theorem drop_ne (n : b ≠ c) : dropH c H b = H b := if_neg n
theorem drop_none (e : H b = none) : dropH c H b = none := by
  unfold dropH
  split
  · rfl
  · exact e
theorem drop_some (e : dropH c H b = some o) : b ≠ c ∧ H b = some o := by
  unfold dropH at e
  split at e
  · cases e
  · exact ⟨by assumption, e⟩
theorem drop_put (e : H c = some o) : upd (dropH c H) c o = H := by
  funext b
  by_cases h : b = c
  · rw [h, upd_same, e]
  · rw [upd_ne h, drop_ne h]
end
section
variable {P : Program} {w : World} {K : PySem.W.Frag} {mg : Str → Option Value} {base : Heap} {H : Hp} {k : Nat} {f c : Addr} {sp : Sp} {v : V} {x : Str}
theorem FunV.cap {F : LF} {ps : List Str} {sp0 : List (Option V) → Sp} (a : LmAt H f F) (hcl : F.nf.cl = [(x, c)]) (hc : H c = some (CellO c v)) (nv : NvOk P w K mg base k f F ps [x] sp0)
    (conv : ∀ (vs : List V) (H1 : Hp) (Q : VK), KeepR H H1 → H1 c = some (CellO c v) → sp vs H1 Q E0 → sp0 [some v] vs (dropH c H1) (fun y H2 => Q y (upd H2 c (CellO c v))) E0) : FunV P w K mg base H k f sp := by
  refine ⟨fun H1 k1 A outer s us vs Q room ev rel pr => ?_, fun H1 h k1 ok _ => ?_⟩
  · have hc1 : H1 c = some (CellO c v) := k1 _ _ cellO_lst cellO_tbl hc
    have a1 := a.mv k1
    have okc := ev.hok c _ hc1
    obtain ⟨⟨u, ru, cu⟩, _, _⟩ := (show (∃ u, RelV v u ∧ s.heap.IsCell c (some u)) ∧ _ ∧ _ from okc)
    obtain ⟨oc, hoc, dc⟩ := id cu
    obtain ⟨pm, ctv, hf⟩ := lm_obj ev.hok a1
    have nf : f ≠ c := fun z => by
      rw [z, hoc] at hf
      cases hf
      cases dc
    have ncd : F.nf.c ≠ c := fun z => by
      obtain ⟨ob, vs', t, ho, hd, _⟩ : ∃ (oc : Obj) (vs : Array Value) (t : Tok), s.heap.get? F.nf.c = some oc ∧ oc.data = .fields vs ∧ vs[1]? = some (.str F.nf.qual t) := (ev.hok _ _ a1.cd).1
      rw [z, hoc] at ho
      cases ho
      rw [dc] at hd
      cases hd
    have hok0 : HOk P w (dropH c H1) s.heap := fun b o e => by
      obtain ⟨n, e1⟩ := drop_some e
      refine (ev.hok b o e1).stay (fun _ _ _ q => q) (fun d q => ?_) fun d xs q => ?_
      · exact (drop_ne fun z => by rw [z, hc1] at q; exact cellO_own _ (Option.some.inj q)).trans q
      · exact (drop_ne fun z => by rw [z, hc1] at q; exact cellO_tup _ (Option.some.inj q)).trans q
    have ev0 : Env0 P w K mg base A outer s (dropH c H1) := ⟨ev.frames, ev.mod, fun b o e => ⟨(ev.bs b o e).1, drop_none (ev.bs b o e).2⟩, ev.bsz, ev.funs, fun b hb => drop_none (ev.frf b hb), hok0, ev.bare⟩
    have a0 : LmAt (dropH c H1) f F := ⟨(drop_ne nf).trans a1.fn, (drop_ne ncd).trans a1.cd⟩
    have cells : CellsAt F.nf.cl [x] [some v] s.heap (dropH c H1) := by
      rw [hcl]
      refine ⟨rfl, fun y c' e => ?_, fun y z c' e1 e2 => ?_, fun i y e => ?_⟩
      · by_cases h : y = x
        · subst h
          rw [List.lookup_cons_self] at e
          obtain rfl := Option.some.inj e
          exact ⟨drop_self, _, cu⟩
        · rw [List.lookup_cons, (beq_eq_false_iff_ne.mpr h : (y == x) = false)] at e
          cases e
      · have key : ∀ q, ([(x, c)] : List (Str × Addr)).lookup q = some c' → q = x := fun q e => by
          by_cases h : q = x
          · exact h
          · rw [List.lookup_cons, (beq_eq_false_iff_ne.mpr h : (q == x) = false)] at e
            cases e
        rw [key y e1, key z e2]
      · match i, e with
        | 0, e =>
          obtain rfl : x = y := Option.some.inj e
          refine ⟨c, List.lookup_cons_self, fun v' e' => ?_⟩
          obtain rfl : v = v' := Option.some.inj (Option.some.inj e')
          exact ⟨u, ru, cu⟩
        | i + 1, e => cases e
    refine codeAny_mono (nv.run A outer s (dropH c H1) us vs [some v] _ room ev0 a0 cells rel (conv vs H1 Q k1 hc1 pr)) fun r s' z => ?_
    match r, z with
    | .error e, z => exact (show False from z).elim
    | .ok .next, z => exact z.elim
    | .ok .brk, z => exact z.elim
    | .ok .cont, z => exact z.elim
    | .ok (.ret y), z =>
      obtain ⟨yv, H2, os, bare, un, hok2, ry, q⟩ := z
      have ncf : c ∉ frs outer := fun m => by
        have := ev.frf c m
        rw [hc1] at this
        cases this
      have cc2 := un.keep c oc hoc drop_self ncf (by simp)
      have n2 : H2 c = none := un.free c oc hoc drop_self (by simp)
      have up : ∀ {b : Addr} {o : HO}, H2 b = some o → upd H2 c (CellO c v) b = some o := fun e => (upd_ne (ne_of_none e n2)).trans e
      refine ⟨yv, upd H2 c (CellO c v), os, bare, ⟨fun b o e n m m2 => un.keep b o e (drop_none n) m m2, fun b o e n m m2 => un.slot b o e (drop_none n) m m2, fun b o e n m => ?_, un.there, fun b xs e => ?_, fun b o u e => ?_, fun b ps e => ?_⟩, fun b o e => ?_, ry, q⟩
      · exact (upd_ne fun z => by rw [z, hc1] at n; cases n).trans (un.free b o e (drop_none n) m)
      · exact up (un.tups b xs ((drop_ne fun z => by rw [z, hc1] at e; exact cellO_tup _ (Option.some.inj e)).trans e))
      · exact up (un.frzs b o u ((drop_ne fun z => by rw [z, hc1] at e; exact cellO_frz _ _ (Option.some.inj e)).trans e))
      · obtain ⟨more, e2⟩ := un.tbls b ps ((drop_ne fun z => by rw [z, hc1] at e; exact cellO_tbl _ (Option.some.inj e)).trans e)
        exact ⟨more, up e2⟩
      · by_cases hb : b = c
        · subst hb
          rw [upd_same] at e
          cases e
          exact cellO_ok ru ⟨oc, cc2, dc⟩
        · rw [upd_ne hb] at e
          exact (hok2 b o e).stay (fun _ _ _ q => q) (fun d q => up q) fun d xs q => up q
  · obtain ⟨pm, ctv, ho⟩ := lm_obj ok (a.mv k1)
    exact ⟨_, _, _, _, ho⟩
end
/-! ### a def that returns what captured its cell -/
abbrev TSR := (V → L2.St → Hp → Prop) → L2.St → Hp → Prop
/-- statements that end with a return; what is returned may speak of the slots -/
structure PSsR (X : Cx) (sts : List Stmt) (t : TSR) : Prop where
  run : ∀ (pins : List (Addr × Obj)) (s : Shared) (σ : L2.St) (H : Hp) (R : V → L2.St → Hp → Prop), Inv X pins σ H s → t R σ H →
    wpAny (model X.prog X.w) X.A (execs sts X.env) (fun fl s' => ∃ u v σ' H', fl = .ret u ∧ Inv X pins σ' H' s' ∧ RelV v u ∧ R v σ' H') X.xe s
section
variable {X : Cx} {st : Stmt} {rest : List Stmt} {t : TS} {u : TSR} {e : Expr} {te : TE} {pos : Pos}
def trSeq (t : TS) (u : TSR) : TSR := fun R σ H => t { nx := u R, rt := fun _ _ => False, bk := fun _ _ => False, ct := fun _ _ => False } σ H
theorem psr_cons (h1 : PS X st t) (h2 : PSsR X rest u) : PSsR X (st :: rest) (trSeq t u) := by
  refine ⟨fun pins s σ H R I h => ?_⟩
  refine wpAny_execs_cons (thn (h1.run pins s σ H _ I h) fun f s1 q => ?_)
  cases f with
  | next =>
    obtain ⟨σ', H', I', q⟩ := q
    exact h2.run pins s1 σ' H' R I' q
  | ret v =>
    obtain ⟨_, _, _, _, _, q⟩ := q
    exact q.elim
  | brk =>
    obtain ⟨_, _, _, q⟩ := q
    exact q.elim
  | cont =>
    obtain ⟨_, _, _, q⟩ := q
    exact q.elim
def trRet (te : TE) : TSR := fun R σ H => te σ H fun v H1 => R v σ H1
theorem psr_ret (he : PE X e te) : PSsR X [.Return (some e) pos] (trRet te) := by
  refine ⟨fun pins s σ H R I h => ?_⟩
  refine wpAny_execs_cons (wpAny_Return_some (thn (he.run pins s σ H _ I h) fun v s1 ⟨x, H1, I1, r1, q1⟩ => ?_))
  exact ⟨v, x, σ, H1, rfl, I1, r1, q1⟩
end
section
variable {P : Program} {w : World} {K : PySem.W.Frag} {mg : Str → Option Value} {base : Heap} {k : Nat} {f c : Addr} {fd : FuncData} {ps N : List Str} {sp : Sp}
theorem okCap {x qual : Str} {st : Stmt} {i : Nat} {y : Str} (F : Fun K x qual st f fd) (hc : codeOf K f = some c) (S : FnScope N ps (defScope st)) (ln : ∀ vs H Q E, sp vs H Q E → vs.length = ps.length)
    (hi : N[i]? = some y) (hy : (defScope st).names.lookup y = some .cell) (cels : ∀ n, cellsFrom n (defScope st).names [] = [(y, n)])
    (bd : ∀ (A : Around) (outer : List Env) (s : Shared) (H : Hp) (vs : List V) (Q : VK) (E : XK) (cc : Addr), cc = s.heap.objs.size + 1 → H cc = none → Room k (A.deeper (envOfC qual (defScope st) s.heap.objs.size f (.ref c))) → sp vs H Q E →
      ∃ t, PSsR (cxOf CX0 P w K mg base N qual (defScope st) f (.ref c) A outer s H E).nox (defBody st) t ∧ t (fun v σ' H' => ∃ wv, σ'[i]? = some (some wv) ∧ (H' cc = none → Q v (upd H' cc (CellO cc wv)))) (start N vs) H) : FnOk P w K mg base CX0 (k + 1) f fd ps sp := by
  obtain ⟨oc, od, kV, doc, pm, an, cd, ct, sl, rfl, lk, hcd⟩ := F.ex
  obtain rfl : cd = .ref c := codeOf_code hc lk
  refine ⟨ln, fun A outer s H args us vs Q E hr e0 hb r hsp => ?_⟩
  have hl := ln _ _ _ _ hsp
  have KX : K.In s.heap := e0.mod.kin.keeps fun b o e => (e0.bs b o e).1
  have lim : s.heap.NoLimit := e0.mod.nolimit.keeps fun b o e => (e0.bs b o e).1
  have hkind : ∀ z ∈ ps.zip us, (defScope st).names.lookup z.1 = some .local ∨ ((defScope st).names.lookup z.1 = some .cell ∧ ((cellsFrom (s.heap.objs.size + 1) (defScope st).names []).lookup z.1).isSome = true) := fun ⟨n, v⟩ hz => by
    rcases S.par n (List.of_mem_zip hz).1 with q | q
    · exact .inl q
    · exact .inr ⟨q, PySem.W.cellsFrom_some _ _ _ (.inl q)⟩
  refine codeAny_call_function hr.depth (KX _ _ lk) rfl S.co S.gen rfl (PySem.W.codeRec_of KX hcd) (hb _ _ _ _ ?_)
  refine wpAny_newFunctionEnv_cells S.kind hkind fun env he s1 x => ?_
  subst he
  refine ⟨lim.keeps x.toInCall.keep, codeAny_func ?_⟩
  obtain ⟨t, ht, hq⟩ := bd A outer s H vs Q E (s.heap.objs.size + 1) rfl (e0.hok.fresh (Nat.le_succ _)) (hr.deeper _) hsp
  have I : Inv (cxOf CX0 P w K mg base N qual (defScope st) f (.ref c) A outer s H E) [] (start N vs) H s1 := inv_start S hr.hd e0 hl r x
  refine wpAny_mono (ht.run [] s1 (start N vs) H _ (I.wish _) hq) (fun fl s' hs => ?_) fun e s' hs => False.elim hs
  obtain ⟨u, v, σ', H', rfl, J0, rv, wv, hσ, q⟩ := hs
  have J := J0.unwish
  have lc : (envOfC qual (defScope st) s.heap.objs.size f (.ref c)).cells.lookup y = some (s.heap.objs.size + 1) := by
    show (cellsFrom (s.heap.objs.size + 1) (defScope st).names []).lookup y = _
    rw [cels]
    exact List.lookup_cons_self
  have nC : H' (s.heap.objs.size + 1) = none := J.freeC y _ lc
  obtain ⟨m, hn, hl2⟩ := J.loc
  obtain ⟨uw, ruw, hu⟩ := hl2 i y wv hi hσ (.inr (.inl hy))
  have cellAt : s'.heap.IsCell (s.heap.objs.size + 1) (some uw) := by
    rcases hu with ⟨h1, _⟩ | ⟨_, c2, h2, h3⟩
    · have h1 : (defScope st).names.lookup y = some .local := h1
      rw [hy] at h1
      cases h1
    · have h2 : (envOfC qual (defScope st) s.heap.objs.size f (.ref c)).cells.lookup y = some c2 := h2
      rw [lc] at h2
      cases h2
      exact h3
  have up : ∀ {b : Addr} {o : HO}, H' b = some o → upd H' (s.heap.objs.size + 1) (CellO (s.heap.objs.size + 1) wv) b = some o := fun e => (upd_ne (ne_of_none e nC)).trans e
  have un := J.base
  refine ⟨v, upd H' (s.heap.objs.size + 1) (CellO (s.heap.objs.size + 1) wv), J.os, J.bare, ⟨un.keep, un.slot, fun b o e n m => ?_, un.there, fun b xs e => up (un.tups b xs e), fun b o u e => up (un.frzs b o u e), fun b ps e => ?_⟩, fun b o e => ?_, rv, q nC⟩
  · refine (upd_ne fun z => ?_).trans (un.free b o e n m)
    have := Heap.lt_size (show s.heap.get? b = some o from e)
    rw [z] at this
    exact absurd this (Nat.not_lt.mpr (Nat.le_succ _))
  · obtain ⟨more, e2⟩ := un.tbls b ps e
    exact ⟨more, up e2⟩
  · by_cases hb : b = s.heap.objs.size + 1
    · subst hb
      rw [upd_same] at e
      cases e
      exact cellO_ok ruw cellAt
    · rw [upd_ne hb] at e
      exact (J.hok b o e).stay (fun _ _ _ q => q) (fun d q => up q) fun d xs q => up q
end
end Wl

/-! xs[::-1], xs a list; xs[:-1]. -/
namespace Wl
open PySem PySem.Spec PyProof.Rows L2
def tRevL (K : PySem.W.Frag) (te : TE) : TE := fun σ H Q => te σ H fun x H1 => ∃ a xs, x = .ref a ∧ SqL K H1 a xs ∧ ∀ p, H1 p = none → Q (.ref p) (upd H1 p (.lst xs.reverse))
theorem pe_revL {X : Cx} {e : Expr} {te : TE} {k : Nat} {p1 p2 p3 pos : Pos} (he : PE X e te) : PE X (.Subscript e (.Slice none none (some (.UnaryOp .USub (.Constant (.int 1) k p1) p2)) p3) pos) (tRevL X.K te) := by
  refine ⟨fun pins s σ H Q I h => Subscript_ (thn (he.run pins s σ H _ I h) fun v s1 ⟨x, H1, I1, r1, a, xs, ex, hx, q⟩ => ?_)⟩
  subst ex
  cases r1
  have hst : PO X (some (.UnaryOp .USub (.Constant (.int 1) k p1) p2)) (tPart (tUn (rU fun i => .int (-i)) (tC (.int 1)))) := po_some (pe_un un_neg pe_int)
  refine wpAny_Slice (thn (po_none.run pins s1 σ H1 (fun o H2 => o = none ∧ H2 = H1) I1 ⟨rfl, rfl⟩) fun vl s2 ⟨l, H2, I2, pl, el, e2⟩ => ?_)
  subst el e2
  refine thn (po_none.run pins s2 σ H2 (fun o H3 => o = none ∧ H3 = H2) I2 ⟨rfl, rfl⟩) fun vu s3 ⟨u, H3, I3, pu, eu, e3⟩ => ?_
  subst eu e3
  refine thn (hst.run pins s3 σ H3 (fun o H4 => o = some (-1) ∧ H4 = H3) I3 ⟨1, rfl, -1, rfl, rfl, rfl⟩) fun vs s4 ⟨o, H4, I4, ps, eo, e4⟩ => ?_
  subst eo e4
  have J : L2.Inv X pins σ H4 { s4 with heap := s4.heap.push { cls := .type "slice", data := .fields #[vl, vu, vs] } } := I4.kept (t' := s4.toks) fun b ob q => Heap.get?_push_of_some _ q
  obtain ⟨its, r, ht, hz⟩ := J.list hx
  have hlen := r.length
  show wpAny (model X.prog X.w) X.A (subscriptTail e (.Slice none none (some (.UnaryOp .USub (.Constant (.int 1) k p1) p2)) p3) (.ref a) (.ref s4.heap.objs.size)) _ _ _
  refine tail_any (ops := [.ref a, .ref s4.heap.objs.size]) ht.isList.typeIs (slot_list_getitem.lookup) ?_ (by with_unfolding_all rfl)
  refine wpAny_getItem_list_slice ht.isList (Heap.IsSliceOf.new _ vl vu vs) pl pu ps (by simp) ?_ (by rw [List.size_toArray]; omega)
  rw [PySem.W.krv_pick]
  refine ⟨.ref _, _, J.laid (t' := s4.toks) (o := .lst xs.reverse) (fun b ob q => Heap.get?_push_of_some _ q) (Nat.le_refl _) ?_, rfl, q _ (J.hok.fresh (Nat.le_refl _))⟩
  exact ⟨by rw [List.length_reverse]; exact hz, _, 0, r.reverse, Heap.get?_push_size _ rfl⟩
theorem cut_init (xs : List V) (v : V) : cutV (xs ++ [v]) none (some (-1)) = xs := by
  unfold cutV
  rw [HT.sIx_none, List.drop_zero, Nat.sub_zero]
  have e : HT.sIx (xs ++ [v]).length (xs ++ [v]).length (some (-1)) = xs.length := by
    show (if (-1 : Int) < 0 then ((-1 : Int) + ((xs ++ [v]).length : Int)).toNat else min (-1 : Int).toNat (xs ++ [v]).length) = _
    rw [if_pos (by decide), List.length_append]
    simp only [List.length_cons, List.length_nil]
    omega
  rw [e, List.take_left]
end Wl

/-! z[::-1], z a text -/
namespace Wl
open PySem PySem.Spec PyProof.Rows L2
def revS (z : Str) : Str := Txt.sliceBy z none none (-1, 0)
theorem revS_len (z : Str) : (revS z).length = z.length := step_rev_len z 0
def tRevS (te : TE) : TE := fun σ H Q => te σ H fun x H1 => ∃ z, x = .str z ∧ z.length ≤ sizeLine ∧ Q (.str (revS z)) H1
theorem pe_revS {X : Cx} {e : Expr} {te : TE} {k : Nat} {p1 p2 p3 pos : Pos} (he : PE X e te) : PE X (.Subscript e (.Slice none none (some (.UnaryOp .USub (.Constant (.int 1) k p1) p2)) p3) pos) (tRevS te) := by
  refine ⟨fun pins s σ H Q I h => Subscript_ (thn (he.run pins s σ H _ I h) fun v s1 ⟨x, H1, I1, r1, z, ex, hz, q⟩ => ?_)⟩
  subst ex
  obtain ⟨t, rfl⟩ := r1
  have hst : PO X (some (.UnaryOp .USub (.Constant (.int 1) k p1) p2)) (tPart (tUn (rU fun i => .int (-i)) (tC (.int 1)))) := po_some (pe_un un_neg pe_int)
  refine wpAny_Slice (thn (po_none.run pins s1 σ H1 (fun o H2 => o = none ∧ H2 = H1) I1 ⟨rfl, rfl⟩) fun vl s2 ⟨l, H2, I2, pl, el, e2⟩ => ?_)
  subst el e2
  refine thn (po_none.run pins s2 σ H2 (fun o H3 => o = none ∧ H3 = H2) I2 ⟨rfl, rfl⟩) fun vu s3 ⟨u, H3, I3, pu, eu, e3⟩ => ?_
  subst eu e3
  refine thn (hst.run pins s3 σ H3 (fun o H4 => o = some (-1) ∧ H4 = H3) I3 ⟨1, rfl, -1, rfl, rfl, rfl⟩) fun vs s4 ⟨o, H4, I4, ps, eo, e4⟩ => ?_
  subst eo e4
  have J : L2.Inv X pins σ H4 { s4 with heap := s4.heap.push { cls := .type "slice", data := .fields #[vl, vu, vs] } } := I4.kept (t' := s4.toks) fun b ob q => Heap.get?_push_of_some _ q
  show wpAny (model X.prog X.w) X.A (subscriptTail e (.Slice none none (some (.UnaryOp .USub (.Constant (.int 1) k p1) p2)) p3) (.str z t) (.ref s4.heap.objs.size)) _ _ _
  refine tail_any (ops := [.str z t, .ref s4.heap.objs.size]) (typeIs_str _ z t) (F.slot_str_getitem.lookup) ?_ (by with_unfolding_all rfl)
  obtain ⟨l, rfl, el⟩ := IsPart.raw pl
  obtain ⟨u, rfl, eu⟩ := IsPart.raw pu
  obtain ⟨st, rfl, es⟩ := IsPart.raw ps
  obtain rfl : l = none := by
    cases l with
    | none => rfl
    | some _ => cases el
  obtain rfl : u = none := by
    cases u with
    | none => rfl
    | some _ => cases eu
  obtain ⟨tk, rfl⟩ : ∃ tk, st = some (-1, tk) := by
    cases st with
    | none => cases es
    | some p =>
      obtain ⟨i, tk⟩ := p
      cases Option.some.inj es
      exact ⟨tk, rfl⟩
  refine wpAny_getItem_str_slice (l := none) (u := none) (st := some (-1, tk)) ⟨_, Heap.get?_push_size _ rfl, rfl, rfl⟩ rfl ?_
  have e1 : sliceMade z t none none (some (-1, tk)) = .str (revS z) := by
    unfold sliceMade
    have f1 : ((((some (-1, tk) : Option (Int × Tok)).map (·.1)).getD 1 == 1) : Bool) = false := rfl
    rw [f1, Bool.false_and, if_neg Bool.false_ne_true]
    unfold revS Txt.sliceBy
    have f2 : ((((some (-1, 0) : Option (Int × Tok)).map (·.1)).getD 1 == 1) : Bool) = false := rfl
    rw [f2, Bool.false_and, if_neg Bool.false_ne_true]
    rfl
  rw [e1]
  exact ⟨by rw [revS_len]; exact hz, .str _, H4, J.tok _, ⟨_, rfl⟩, q⟩
end Wl

/-! The keys and the asks. -/
namespace Wl
open PySem PySem.Spec PyProof.Rows L2 LamX NdefX
abbrev sAged : Stmt := topS 54
abbrev sSpelt : Stmt := topS 55
abbrev sKeys : Stmt := topS 56
abbrev sAsks : Stmt := topS 57
abbrev noS : Stmt := .Pass ⟨0, 0, 0, 0⟩
abbrev kL (i : Nat) : Expr := eArg 0 (eStm ((defBody sKeys).getD i noS))
abbrev kL5 : Expr := eItm 0 (eRight (eRet ((defBody sKeys).getD 5 noS)))
abbrev aL0 : Expr := eItm 0 (eAsg ((defBody sAsks).getD 0 noS))
abbrev aL (i : Nat) : Expr := eArg 0 (eStm ((defBody sAsks).getD i noS))
abbrev aL6 : Expr := eItm 0 (eRight (eRet ((defBody sAsks).getD 6 noS)))
abbrev qKeys : Str := ("_law_keys.<locals>." : Str) ++ "<lambda>"
abbrev qAsks : Str := ("_law_asks.<locals>." : Str) ++ "<lambda>"
abbrev qTell : Str := ("Gathering.tellings.<locals>." : Str) ++ "<lambda>"
def spKeyX (K : PySem.W.Frag) (enc : Tel → PyData) : Sp := fun vs H Q _ => ∃ (a : Addr) (t : Tel), vs = [.ref a] ∧ H a = some (.tup (telV t)) ∧ OkT t ∧ ∀ y H', Same H H' → Dp K H' y (enc t) → Q y H'
def spAskX (pr : Tel → Bool) : Sp := fun vs H Q _ => ∃ (a : Addr) (t : Tel), vs = [.ref a] ∧ H a = some (.tup (telV t)) ∧ OkT t ∧ Q (.bl (pr t)) H
def eAge (t : Tel) : PyData := .int (t.age : Int)
def eSpelt (t : Tel) : PyData := .tuple [.int (t.wo.length : Int), .str (revS t.wo)]
def eZero (_ : Tel) : PyData := .int 0
def eVill (t : Tel) : PyData := .str t.v
def eSure (t : Tel) : PyData := .tuple [.bool t.sure, .int (0 - (t.age : Int))]
def eBoth (t : Tel) : PyData := .str (t.th ++ t.g)
abbrev encL : List (Tel → PyData) := [eAge, eSpelt, eZero, eVill, eSure, eBoth, telD]
abbrev prL (t0 : Tel) : List (Tel → Bool) := [fun _ => true, fun _ => false, (·.sure), fun t => decide ((t.age : Int) < 40), fun t => decide (t.wo = t0.wo), fun t => decide (t = t0), fun t => !t.sure]
section
variable {P : Program} {w : World} {K : PySem.W.Frag} {mg : Str → Option Value} {base : Heap} {f C D : Addr} {fd : FuncData}
theorem scAged : FnScope ["_law_row_here"] ["_law_row_here"] (defScope sAged) := ⟨rfl, rfl, rfl, by decide +kernel, rfl, by decide +kernel, by decide +kernel⟩
theorem ok_aged (F : Fun K "_law_aged" "_law_aged" sAged f fd) : FnOk P w K mg base CX0 1 f fd ["_law_row_here"] (spKeyX K eAge) := by
  refine F.ok scAged (fun vs H Q E h => ?_) (fun cdv A outer s H vs Q E hr h => ?_)
  · obtain ⟨a, t, rfl, _⟩ := h
    rfl
  · obtain ⟨a, t, rfl, ha, ok, q⟩ := h
    refine ⟨_, pss_one (ps_ret (pe_ix ix_tup (pv 0) pe_int (fun _ _ => rfl))), ?_⟩
    exact ⟨_, rfl, a, _, _, _, rfl, rfl, .inl (.inl ha), atI_nat (j := 4) rfl, q _ H (Same.refl H) (.int _)⟩
theorem scSpelt : FnScope ["_law_row_here"] ["_law_row_here"] (defScope sSpelt) := ⟨rfl, rfl, rfl, by decide +kernel, rfl, by decide +kernel, by decide +kernel⟩
theorem ok_spelt (F : Fun K "_law_spelt" "_law_spelt" sSpelt f fd) (B : Bi mg) : FnOk P w K mg base CX0 1 f fd ["_law_row_here"] (spKeyX K eSpelt) := by
  refine F.ok scSpelt (fun vs H Q E h => ?_) (fun cdv A outer s H vs Q E hr h => ?_)
  · obtain ⟨a, t, rfl, _⟩ := h
    rfl
  · obtain ⟨a, t, rfl, ha, ok, q⟩ := h
    refine ⟨_, pss_one (ps_ret (pe_tup (pa_cons (pe_callB call_len_str (by rfl) B.len PySem.boot_len (pa_cons (pe_ix ix_tup (pv 0) pe_int (fun _ _ => rfl)) pa_nil)) (pa_cons (pe_revS (pe_ix ix_tup (pv 0) pe_int (fun _ _ => rfl))) pa_nil)))), ?_⟩
    refine ⟨_, rfl, a, _, _, _, rfl, rfl, .inl (.inl ha), atI_nat (j := 2) rfl, _, rfl, wd_line ok.wo, ?_⟩
    refine ⟨_, rfl, a, _, _, _, rfl, rfl, .inl (.inl ha), atI_nat (j := 2) rfl, _, rfl, wd_line ok.wo, lz, fun p hp => ?_⟩
    exact q _ _ (same_new hp) (.tup (.inl (.inl upd_same)) (.cons (.int _) (.cons (.str _) .nil)))
theorem ok_k1 {q : Str} {cl : List (Str × Addr)} {c' h : Addr} {k : Nat} : NvOk P w K mg base (k + 1) h (LF.of (kL 1) q cl c') ["_law_row_here"] [] (fun _ => spKeyX K eZero) := by
  refine nv_of (N := ["_law_row_here"]) (show NScope ["_law_row_here"] ["_law_row_here"] [] (lamS (kL 1)) from nscope_by (by decide +kernel)) (fun pm ctv us hl => ?_) (fun ws vs H Q z => ?_) (fun A outer s H vs ws Q room at_ lw z => ?_)
  · match us, hl with
    | [_], _ => rfl
  · obtain ⟨a, t, rfl, _⟩ := z
    rfl
  · obtain ⟨a, t, rfl, ha, ok, q⟩ := z
    match ws, lw with
    | [], _ =>
      refine ⟨_, pe_int, ?_⟩
      exact q _ H (Same.refl H) (.int _)
theorem ok_k2 {q : Str} {cl : List (Str × Addr)} {c' h : Addr} {k : Nat} : NvOk P w K mg base (k + 1) h (LF.of (kL 2) q cl c') ["_law_row_here"] [] (fun _ => spKeyX K eVill) := by
  refine nv_of (N := ["_law_row_here"]) (show NScope ["_law_row_here"] ["_law_row_here"] [] (lamS (kL 2)) from nscope_by (by decide +kernel)) (fun pm ctv us hl => ?_) (fun ws vs H Q z => ?_) (fun A outer s H vs ws Q room at_ lw z => ?_)
  · match us, hl with
    | [_], _ => rfl
  · obtain ⟨a, t, rfl, _⟩ := z
    rfl
  · obtain ⟨a, t, rfl, ha, ok, q⟩ := z
    match ws, lw with
    | [], _ =>
      refine ⟨_, pe_ix ix_tup (pv 0) pe_int (fun _ _ => rfl), ?_⟩
      exact ⟨_, rfl, a, _, _, _, rfl, rfl, .inl (.inl ha), atI_nat (j := 0) rfl, q _ H (Same.refl H) (.str _)⟩
theorem ok_k3 {q : Str} {cl : List (Str × Addr)} {c' h : Addr} {k : Nat} : NvOk P w K mg base (k + 1) h (LF.of (kL 3) q cl c') ["_law_row_here"] [] (fun _ => spKeyX K eSure) := by
  refine nv_of (N := ["_law_row_here"]) (show NScope ["_law_row_here"] ["_law_row_here"] [] (lamS (kL 3)) from nscope_by (by decide +kernel)) (fun pm ctv us hl => ?_) (fun ws vs H Q z => ?_) (fun A outer s H vs ws Q room at_ lw z => ?_)
  · match us, hl with
    | [_], _ => rfl
  · obtain ⟨a, t, rfl, _⟩ := z
    rfl
  · obtain ⟨a, t, rfl, ha, ok, q⟩ := z
    match ws, lw with
    | [], _ =>
      refine ⟨_, pe_tup (pa_cons (pe_ix ix_tup (pv 0) pe_int (fun _ _ => rfl)) (pa_cons (pe_op op_sub pe_int (pe_ix ix_tup (pv 0) pe_int (fun _ _ => rfl))) pa_nil)), ?_⟩
      refine ⟨_, rfl, a, _, _, _, rfl, rfl, .inl (.inl ha), atI_nat (j := 6) rfl, _, rfl, a, _, _, _, rfl, rfl, .inl (.inl ha), atI_nat (j := 4) rfl, _, _, rfl, rfl, lz, fun p hp => ?_⟩
      exact q _ _ (same_new hp) (.tup (.inl (.inl upd_same)) (.cons (.bl _) (.cons (.int _) .nil)))
theorem ok_k4 {q : Str} {cl : List (Str × Addr)} {c' h : Addr} {k : Nat} : NvOk P w K mg base (k + 1) h (LF.of (kL 4) q cl c') ["_law_row_here"] [] (fun _ => spKeyX K eBoth) := by
  refine nv_of (N := ["_law_row_here"]) (show NScope ["_law_row_here"] ["_law_row_here"] [] (lamS (kL 4)) from nscope_by (by decide +kernel)) (fun pm ctv us hl => ?_) (fun ws vs H Q z => ?_) (fun A outer s H vs ws Q room at_ lw z => ?_)
  · match us, hl with
    | [_], _ => rfl
  · obtain ⟨a, t, rfl, _⟩ := z
    rfl
  · obtain ⟨a, t, rfl, ha, ok, q⟩ := z
    match ws, lw with
    | [], _ =>
      refine ⟨_, pe_op op_add_str (pe_ix ix_tup (pv 0) pe_int (fun _ _ => rfl)) (pe_ix ix_tup (pv 0) pe_int (fun _ _ => rfl)), ?_⟩
      refine ⟨_, rfl, a, _, _, _, rfl, rfl, .inl (.inl ha), atI_nat (j := 1) rfl, _, rfl, a, _, _, _, rfl, rfl, .inl (.inl ha), atI_nat (j := 5) rfl, _, _, rfl, rfl, ?_, q _ H (Same.refl H) (.str _)⟩
      have l1 := ok.th.len
      have l2 := ok.g.len
      exact lzl (by omega)
theorem ok_k5 {q : Str} {cl : List (Str × Addr)} {c' h : Addr} {k : Nat} : NvOk P w K mg base (k + 1) h (LF.of kL5 q cl c') ["_law_row_here"] [] (fun _ => spKeyX K telD) := by
  refine nv_of (N := ["_law_row_here"]) (show NScope ["_law_row_here"] ["_law_row_here"] [] (lamS kL5) from nscope_by (by decide +kernel)) (fun pm ctv us hl => ?_) (fun ws vs H Q z => ?_) (fun A outer s H vs ws Q room at_ lw z => ?_)
  · match us, hl with
    | [_], _ => rfl
  · obtain ⟨a, t, rfl, _⟩ := z
    rfl
  · obtain ⟨a, t, rfl, ha, ok, q⟩ := z
    match ws, lw with
    | [], _ =>
      refine ⟨_, pv 0, ?_⟩
      exact ⟨_, rfl, q _ H (Same.refl H) (dp_tel ha)⟩
theorem ok_a0 {q : Str} {cl : List (Str × Addr)} {c' h : Addr} {k : Nat} : NvOk P w K mg base (k + 1) h (LF.of aL0 q cl c') ["_law_told"] [] (fun _ => spAskX fun _ => true) := by
  refine nv_of (N := ["_law_told"]) (show NScope ["_law_told"] ["_law_told"] [] (lamS aL0) from nscope_by (by decide +kernel)) (fun pm ctv us hl => ?_) (fun ws vs H Q z => ?_) (fun A outer s H vs ws Q room at_ lw z => ?_)
  · match us, hl with
    | [_], _ => rfl
  · obtain ⟨a, t, rfl, _⟩ := z
    rfl
  · obtain ⟨a, t, rfl, ha, ok, q⟩ := z
    match ws, lw with
    | [], _ =>
      refine ⟨_, pe_bl, ?_⟩
      exact q
theorem ok_a1 {q : Str} {cl : List (Str × Addr)} {c' h : Addr} {k : Nat} : NvOk P w K mg base (k + 1) h (LF.of (aL 1) q cl c') ["_law_told"] [] (fun _ => spAskX fun _ => false) := by
  refine nv_of (N := ["_law_told"]) (show NScope ["_law_told"] ["_law_told"] [] (lamS (aL 1)) from nscope_by (by decide +kernel)) (fun pm ctv us hl => ?_) (fun ws vs H Q z => ?_) (fun A outer s H vs ws Q room at_ lw z => ?_)
  · match us, hl with
    | [_], _ => rfl
  · obtain ⟨a, t, rfl, _⟩ := z
    rfl
  · obtain ⟨a, t, rfl, ha, ok, q⟩ := z
    match ws, lw with
    | [], _ =>
      refine ⟨_, pe_bl, ?_⟩
      exact q
theorem ok_a2 {q : Str} {cl : List (Str × Addr)} {c' h : Addr} {k : Nat} : NvOk P w K mg base (k + 1) h (LF.of (aL 2) q cl c') ["_law_told"] [] (fun _ => spAskX (·.sure)) := by
  refine nv_of (N := ["_law_told"]) (show NScope ["_law_told"] ["_law_told"] [] (lamS (aL 2)) from nscope_by (by decide +kernel)) (fun pm ctv us hl => ?_) (fun ws vs H Q z => ?_) (fun A outer s H vs ws Q room at_ lw z => ?_)
  · match us, hl with
    | [_], _ => rfl
  · obtain ⟨a, t, rfl, _⟩ := z
    rfl
  · obtain ⟨a, t, rfl, ha, ok, q⟩ := z
    match ws, lw with
    | [], _ =>
      refine ⟨_, pe_ix ix_tup (pv 0) pe_int (fun _ _ => rfl), ?_⟩
      exact ⟨_, rfl, a, _, _, _, rfl, rfl, .inl (.inl ha), atI_nat (j := 6) rfl, q⟩
theorem ok_a3 {q : Str} {cl : List (Str × Addr)} {c' h : Addr} {k : Nat} : NvOk P w K mg base (k + 1) h (LF.of (aL 3) q cl c') ["_law_told"] [] (fun _ => spAskX fun t => decide ((t.age : Int) < 40)) := by
  refine nv_of (N := ["_law_told"]) (show NScope ["_law_told"] ["_law_told"] [] (lamS (aL 3)) from nscope_by (by decide +kernel)) (fun pm ctv us hl => ?_) (fun ws vs H Q z => ?_) (fun A outer s H vs ws Q room at_ lw z => ?_)
  · match us, hl with
    | [_], _ => rfl
  · obtain ⟨a, t, rfl, _⟩ := z
    rfl
  · obtain ⟨a, t, rfl, ha, ok, q⟩ := z
    match ws, lw with
    | [], _ =>
      refine ⟨_, pe_cmpR op_lt (pe_ix ix_tup (pv 0) pe_int (fun _ _ => rfl)) pe_int (nomark _), ?_⟩
      exact ⟨_, rfl, a, _, _, _, rfl, rfl, .inl (.inl ha), atI_nat (j := 4) rfl, _, _, rfl, rfl, q⟩
theorem ok_a6 {q : Str} {cl : List (Str × Addr)} {c' h : Addr} {k : Nat} : NvOk P w K mg base (k + 1) h (LF.of aL6 q cl c') ["_law_told"] [] (fun _ => spAskX fun t => !t.sure) := by
  refine nv_of (N := ["_law_told"]) (show NScope ["_law_told"] ["_law_told"] [] (lamS aL6) from nscope_by (by decide +kernel)) (fun pm ctv us hl => ?_) (fun ws vs H Q z => ?_) (fun A outer s H vs ws Q room at_ lw z => ?_)
  · match us, hl with
    | [_], _ => rfl
  · obtain ⟨a, t, rfl, _⟩ := z
    rfl
  · obtain ⟨a, t, rfl, ha, ok, q⟩ := z
    match ws, lw with
    | [], _ =>
      refine ⟨_, pe_not (pe_ix ix_tup (pv 0) pe_int (fun _ _ => rfl)), ?_⟩
      exact ⟨_, rfl, a, _, _, _, rfl, rfl, .inl (.inl ha), atI_nat (j := 6) rfl, _, rfl, q⟩
/-- an ask that looks at the telling it captured -/
def spCap (pr : Tel → Tel → Bool) (ws : List (Option V)) : Sp := fun vs H Q _ => ∃ (a : Addr) (t : Tel) (rp : Addr) (t0 : Tel), ws = [some (.ref rp)] ∧ vs = [.ref a] ∧ H a = some (.tup (telV t)) ∧ OkT t ∧ H rp = some (.tup (telV t0)) ∧ OkT t0 ∧ Q (.bl (pr t0 t)) H
theorem dec_str {x y : Str} : decide (V.str x = V.str y) = decide (x = y) := by
  by_cases h : x = y
  · rw [h]
    simp
  · rw [decide_eq_false h, decide_eq_false fun e => h (V.str.inj e)]
theorem ok_a4 {q : Str} {cl : List (Str × Addr)} {c' h : Addr} {k : Nat} : NvOk P w K mg base (k + 1) h (LF.of (aL 4) q cl c') ["_law_told"] ["_law_row_here"] (spCap fun t0 => fun t => decide (t.wo = t0.wo)) := by
  refine nv_of (N := ["_law_told", "_law_row_here"]) (show NScope ["_law_told", "_law_row_here"] ["_law_told"] ["_law_row_here"] (lamS (aL 4)) from nscope_by (by decide +kernel)) (fun pm ctv us hl => ?_) (fun ws vs H Q z => ?_) (fun A outer s H vs ws Q room at_ lw z => ?_)
  · match us, hl with
    | [_], _ => rfl
  · obtain ⟨a, t, rp, t0, _, rfl, _⟩ := z
    rfl
  · obtain ⟨a, t, rp, t0, rfl, rfl, ha, ok, hrp, ok0, q⟩ := z
    refine ⟨_, pe_cmpR op_eq (pe_ix ix_tup (pv 0) pe_int (fun _ _ => rfl)) (pe_ix ix_tup (pv 1) pe_int (fun _ _ => rfl)) (nomark _), ?_⟩
    refine ⟨_, rfl, a, _, _, _, rfl, rfl, .inl (.inl ha), atI_nat (j := 2) rfl, _, rfl, rp, _, _, _, rfl, rfl, .inl (.inl hrp), atI_nat (j := 2) rfl, rfl, ?_⟩
    rw [dec_str]
    exact q
theorem ok_a5 {q : Str} {cl : List (Str × Addr)} {c' h : Addr} {k : Nat} : NvOk P w K mg base (k + 1) h (LF.of (aL 5) q cl c') ["_law_told"] ["_law_row_here"] (spCap fun t0 => fun t => decide (t = t0)) := by
  refine nv_of (N := ["_law_told", "_law_row_here"]) (show NScope ["_law_told", "_law_row_here"] ["_law_told"] ["_law_row_here"] (lamS (aL 5)) from nscope_by (by decide +kernel)) (fun pm ctv us hl => ?_) (fun ws vs H Q z => ?_) (fun A outer s H vs ws Q room at_ lw z => ?_)
  · match us, hl with
    | [_], _ => rfl
  · obtain ⟨a, t, rp, t0, _, rfl, _⟩ := z
    rfl
  · obtain ⟨a, t, rp, t0, rfl, rfl, ha, ok, hrp, ok0, q⟩ := z
    refine ⟨_, pe_cmpR (op_eqD room.units) (pv 0) (pv 1) (nomark _), ?_⟩
    refine ⟨_, rfl, _, rfl, telD t, telD t0, dp_tel ha, dp_tel hrp, shaped_tel ok, shaped_tel ok0, ?_⟩
    rw [tel_eqv]
    exact q
end
end Wl

/-! What hands the keys and the asks out. -/
namespace Wl
open PySem PySem.Spec PyProof.Rows L2 LamX NdefX
section
variable {P : Program} {w : World} {K : PySem.W.Frag} {mg : Str → Option Value} {base : Heap} {f C D : Addr} {fd : FuncData}
/-- these functions keep these promises -/
def FunsAt (P : Program) (w : World) (K : PySem.W.Frag) (mg : Str → Option Value) (base : Heap) (H : Hp) (fs : List Addr) (sps : List Sp) : Prop := Each (fun (f : Addr) (sp : Sp) => FunV P w K mg base H 1 f sp) fs sps
theorem FunsAt.mv {H H' : Hp} {fs : List Addr} {sps : List Sp} (h : FunsAt P w K mg base H fs sps) (k : KeepR H H') : FunsAt P w K mg base H' fs sps := Each.mono (fun f sp z => z.mv k) h
theorem FunsAt.snoc {H : Hp} {fs : List Addr} {sps : List Sp} {f : Addr} {sp : Sp} (h : FunsAt P w K mg base H fs sps) (z : FunV P w K mg base H 1 f sp) : FunsAt P w K mg base H (fs ++ [f]) (sps ++ [sp]) := Each.append h (.cons z .nil)
theorem keepR_x {l : Addr} {H H' : Hp} {xs : List V} (s : SameX l H H') (e : H l = some (.lst xs)) : KeepR H H' := fun b o n _ h => s b o (fun z => by rw [z, e] at h; exact n _ (Option.some.inj h).symm) h
structure KSt (P : Program) (w : World) (K : PySem.W.Frag) (mg : Str → Option Value) (base : Heap) (T : List (Addr × Str)) (H0 H : Hp) (l : Addr) (fs : List Addr) (sps : List Sp) : Prop where
  ext : ExtN H0 H
  mono : ∀ b, H b = none → H0 b = none
  tabs : Tabs T H
  new : H0 l = none
  at_ : H l = some (.lst (fs.map V.ref))
  funs : FunsAt P w K mg base H fs sps
theorem KSt.at1 {T : List (Addr × Str)} {H0 H H1 : Hp} {l : Addr} {fs : List Addr} {sps : List Sp} (S : KSt P w K mg base T H0 H l fs sps) (ex : ExtN H H1) : H1 l = some (.lst (fs.map V.ref)) := ex _ _ S.at_ fun ps z => (by cases z)
theorem KSt.step {T : List (Addr × Str)} {H0 H H1 : Hp} {l h : Addr} {fs : List Addr} {sps : List Sp} {sp : Sp} (S : KSt P w K mg base T H0 H l fs sps) (ex : ExtN H H1) (ml : ∀ b, H1 b = none → H b = none) (tb : Tabs T H1) (fv : FunV P w K mg base H1 1 h sp) :
    KSt P w K mg base T H0 (upd H1 l (.lst (fs.map V.ref ++ [V.ref h]))) l (fs ++ [h]) (sps ++ [sp]) := by
  have hl := S.at1 ex
  have x2 : SameX l H1 (upd H1 l (.lst (fs.map V.ref ++ [V.ref h]))) := sameX_upd
  have k2 := keepR_x x2 hl
  refine ⟨fun b o e n => x2 b o (ne_of_none e S.new) (ex b o (S.ext b o e n) n), fun b e => ?_, tabs_mv tb fun b o z e => x2 b o (fun w => by rw [w, hl] at e; exact z _ (Option.some.inj e).symm) e, S.new, by rw [upd_same, List.map_append]; rfl, (S.funs.mv ((KeepR.of ex).trans k2)).snoc (fv.mv k2)⟩
  by_cases hb : b = l
  · rw [hb]
    exact S.new
  · rw [upd_ne hb] at e
    exact S.mono b (ml b e)
def spKeys (P : Program) (w : World) (mg : Str → Option Value) (base : Heap) (T : List (Addr × Str)) (K : PySem.W.Frag) : Sp := fun vs H Q _ => vs = [] ∧ Tabs T H ∧
  ∀ (l : Addr) (fs : List Addr) (H' : Hp), ExtN H H' → (∀ b, H' b = none → H b = none) → Tabs T H' → H l = none → H' l = some (.lst (fs.map V.ref)) → FunsAt P w K mg base H' fs (encL.map fun e => spKeyX K e) → Q (.ref l) H'
abbrev nKeys : List Str := ["_law_some"]
theorem scKeys : FnScope nKeys [] (defScope sKeys) := ⟨rfl, rfl, rfl, by decide +kernel, rfl, by decide +kernel, by decide +kernel⟩
theorem freeK (i : Nat) (h : ((lamS (kL i)).names.all fun y => decide (y.2 ≠ .free)) = true) : ∀ y ∈ (lamS (kL i)).names, y.2 = .free → (defScope sKeys).names.lookup y.1 = some .cell ∨ (defScope sKeys).names.lookup y.1 = some .free := fun y hy e => absurd e (of_decide_eq_true (List.all_eq_true.mp h y hy))
theorem free5 : ∀ y ∈ (lamS kL5).names, y.2 = .free → (defScope sKeys).names.lookup y.1 = some .cell ∨ (defScope sKeys).names.lookup y.1 = some .free := by decide +kernel
/-- a step: a lambda is made and put to the list -/
theorem ok_keys {c ct fA fS : Addr} {fdA fdS : FuncData} {T : List (Addr × Str)} (F : Fun K "_law_keys" "_law_keys" sKeys f fd) (hc : codeOf K f = some c) (TB : TabB base mg c ct) (mT : (ct, qKeys) ∈ T) (uT : ∀ p ∈ T, p.1 = ct → p.2 = qKeys)
    (gA : mg "_law_aged" = some (.ref fA)) (FA : Fun K "_law_aged" "_law_aged" sAged fA fdA) (OA : FnOk P w K mg base CX0 1 fA fdA ["_law_row_here"] (spKeyX K eAge)) (bA : L2.Binds K fdA ["_law_row_here"] [])
    (gS : mg "_law_spelt" = some (.ref fS)) (FS : Fun K "_law_spelt" "_law_spelt" sSpelt fS fdS) (OS : FnOk P w K mg base CX0 1 fS fdS ["_law_row_here"] (spKeyX K eSpelt)) (bS : L2.Binds K fdS ["_law_row_here"] []) :
    FnOk P w K mg base CX0 1 f fd [] (spKeys P w mg base T K) := by
  have app := fun {X : Cx} {e : Expr} {te : TE} {pos apos : Pos} => @pe_bm X
  refine okC F hc scKeys (fun vs H Q E h => ?_) (fun A outer s H vs Q E hr h => ?_)
  · obtain ⟨rfl, _⟩ := h
    rfl
  · obtain ⟨rfl, tb, q⟩ := h
    refine ⟨_, pss_cons (ps_set (i := 0) scKeys.nd rfl (.inl rfl) (pe_lst (pa_cons (pe_glob (v := .ref fA) (by rfl) gA rfl) (pa_cons (pe_glob (v := .ref fS) (by rfl) gS rfl) pa_nil))))
      (pss_cons (ps_expr (pe_bm PySem.F.plainAttrs_list PySem.F.slot_list_append PySem.F.type_list_append mt_append (pv 0) (pa_cons (pe_lamS (e := kL 1) (T := T) (c := c) (P := ct) rfl TB rfl mT uT (freeK 1 (by decide +kernel))) pa_nil)))
      (pss_cons (ps_expr (pe_bm PySem.F.plainAttrs_list PySem.F.slot_list_append PySem.F.type_list_append mt_append (pv 0) (pa_cons (pe_lamS (e := kL 2) (T := T) (c := c) (P := ct) rfl TB rfl mT uT (freeK 2 (by decide +kernel))) pa_nil)))
      (pss_cons (ps_expr (pe_bm PySem.F.plainAttrs_list PySem.F.slot_list_append PySem.F.type_list_append mt_append (pv 0) (pa_cons (pe_lamS (e := kL 3) (T := T) (c := c) (P := ct) rfl TB rfl mT uT (freeK 3 (by decide +kernel))) pa_nil)))
      (pss_cons (ps_expr (pe_bm PySem.F.plainAttrs_list PySem.F.slot_list_append PySem.F.type_list_append mt_append (pv 0) (pa_cons (pe_lamS (e := kL 4) (T := T) (c := c) (P := ct) rfl TB rfl mT uT (freeK 4 (by decide +kernel))) pa_nil)))
      (pss_one (ps_ret (pe_op op_cat (pv 0) (pe_lst (pa_cons (pe_lamS (e := kL5) (T := T) (c := c) (P := ct) rfl TB rfl mT uT free5) pa_nil))))))))), ?_⟩
    refine ⟨lz, fun l0 nl0 => ?_⟩
    have fvA : FunV P w K mg base (upd H l0 (.lst [V.ref fA, V.ref fS])) 1 fA (spKeyX K eAge) := .def_ OA bA (let ⟨oc, od, kV, doc, pm, an, cdv, ct, osl, e, l, _⟩ := FA.ex; ⟨_, _, _, _, l⟩)
    have fvS : FunV P w K mg base (upd H l0 (.lst [V.ref fA, V.ref fS])) 1 fS (spKeyX K eSpelt) := .def_ OS bS (let ⟨oc, od, kV, doc, pm, an, cdv, ct, osl, e, l, _⟩ := FS.ex; ⟨_, _, _, _, l⟩)
    have S0 : KSt P w K mg base T H (upd H l0 (.lst [V.ref fA, V.ref fS])) l0 [fA, fS] [spKeyX K eAge, spKeyX K eSpelt] :=
      ⟨fun b o e _ => (same_new nl0) b o e, fun b e => (same_new nl0).free e, tabs_same tb (same_new nl0), nl0, upd_same, .cons fvA (.cons fvS .nil)⟩
    generalize upd H l0 (.lst [V.ref fA, V.ref fS]) = H0 at S0
    refine ⟨_, rfl, .inl ⟨rfl, _, .inl (.inl S0.at_)⟩, S0.tabs, fun h1 c1 G1 ex1 ml1 tb1 _ at1 => ⟨l0, _, _, rfl, rfl, S0.at1 ex1, lz, ?_⟩⟩
    have S1 := S0.step ex1 ml1 tb1 (sp := spKeyX K eZero) (.lam at1 rfl ok_k1)
    generalize upd G1 l0 _ = H1 at S1 ⊢
    refine ⟨_, rfl, .inl ⟨rfl, _, .inl (.inl S1.at_)⟩, S1.tabs, fun h2 c2 G2 ex2 ml2 tb2 _ at2 => ⟨l0, _, _, rfl, rfl, S1.at1 ex2, lz, ?_⟩⟩
    have S2 := S1.step ex2 ml2 tb2 (sp := spKeyX K eVill) (.lam at2 rfl ok_k2)
    generalize upd G2 l0 _ = H2 at S2 ⊢
    refine ⟨_, rfl, .inl ⟨rfl, _, .inl (.inl S2.at_)⟩, S2.tabs, fun h3 c3 G3 ex3 ml3 tb3 _ at3 => ⟨l0, _, _, rfl, rfl, S2.at1 ex3, lz, ?_⟩⟩
    have S3 := S2.step ex3 ml3 tb3 (sp := spKeyX K eSure) (.lam at3 rfl ok_k3)
    generalize upd G3 l0 _ = H3 at S3 ⊢
    refine ⟨_, rfl, .inl ⟨rfl, _, .inl (.inl S3.at_)⟩, S3.tabs, fun h4 c4 G4 ex4 ml4 tb4 _ at4 => ⟨l0, _, _, rfl, rfl, S3.at1 ex4, lz, ?_⟩⟩
    have S4 := S3.step ex4 ml4 tb4 (sp := spKeyX K eBoth) (.lam at4 rfl ok_k4)
    generalize upd G4 l0 _ = H4 at S4 ⊢
    refine ⟨_, rfl, S4.tabs, fun h5 c5 G5 ex5 ml5 tb5 _ at5 => ⟨lz, fun m nm => ?_⟩⟩
    have s6 := same_new (o := .lst [V.ref h5]) nm
    have hm6 : upd G5 m (.lst [V.ref h5]) m = some (.lst [V.ref h5]) := upd_same
    have hl6 := s6 _ _ (S4.at1 ex5)
    have fv5 : FunV P w K mg base G5 1 h5 (spKeyX K telD) := .lam at5 rfl ok_k5
    generalize upd G5 m (.lst [V.ref h5]) = H6 at s6 hm6 hl6 ⊢
    refine ⟨l0, m, _, _, rfl, rfl, hl6, hm6, lz, fun l nl => ?_⟩
    have s7 := same_new (o := .lst ([fA, fS, h1, h2, h3, h4].map V.ref ++ [V.ref h5])) nl
    have ex57 : ExtN G5 (upd H6 l (.lst ([fA, fS, h1, h2, h3, h4].map V.ref ++ [V.ref h5]))) := fun b o e _ => s7 b o (s6 b o e)
    have ex47 := ex5.trans ex57
    refine q l ([fA, fS, h1, h2, h3, h4] ++ [h5]) _ (S4.ext.trans ex47) (fun b e => S4.mono b (ml5 b (s6.free (s7.free e)))) (tabs_same (tabs_same tb5 s6) s7) (S4.mono _ (ml5 _ (s6.free nl))) ?_ ((S4.funs.mv (.of ex47)).snoc (fv5.ext ex57))
    exact upd_same
end
end Wl

namespace Wl
open PySem PySem.Spec PyProof.Rows L2 LamX NdefX
section
variable {P : Program} {w : World} {K : PySem.W.Frag} {mg : Str → Option Value} {base : Heap} {f C D : Addr} {fd : FuncData}
def spAsks (P : Program) (w : World) (mg : Str → Option Value) (base : Heap) (T : List (Addr × Str)) (K : PySem.W.Frag) : Sp := fun vs H Q _ => ∃ (rp : Addr) (t0 : Tel), vs = [.ref rp] ∧ H rp = some (.tup (telV t0)) ∧ OkT t0 ∧ Tabs T H ∧
  ∀ (l : Addr) (fs : List Addr) (H' : Hp), ExtN H H' → (∀ b, H' b = none → H b = none) → Tabs T H' → H l = none → H' l = some (.lst (fs.map V.ref)) → FunsAt P w K mg base H' fs ((prL t0).map spAskX) → Q (.ref l) H'
abbrev nAsks : List Str := ["_law_row_here", "_law_some"]
theorem scAsks : FnScope nAsks ["_law_row_here"] (defScope sAsks) := ⟨rfl, rfl, rfl, by decide +kernel, rfl, by decide +kernel, by decide +kernel⟩
theorem freeA (e : Expr) (h : ((lamS e).names.all fun y => decide (y.2 ≠ .free) || decide ((defScope sAsks).names.lookup y.1 = some .cell)) = true) : ∀ y ∈ (lamS e).names, y.2 = .free → (defScope sAsks).names.lookup y.1 = some .cell ∨ (defScope sAsks).names.lookup y.1 = some .free := fun y hy e2 => by
  have := List.all_eq_true.mp h y hy
  rw [Bool.or_eq_true] at this
  rcases this with h | h
  · exact absurd e2 (of_decide_eq_true h)
  · exact .inl (of_decide_eq_true h)
/-- a lambda that captured the telling's cell, the cell tracked -/
theorem cap_fun {e : Expr} {q : Str} {c' h cc rp : Addr} {t0 : Tel} {H : Hp} {pr : Tel → Tel → Bool} {cl : List (Str × Addr)} (at_ : LmAt H h (LF.of e q cl c')) (hcl : cl = [(("_law_row_here" : Str), cc)]) (hc : H cc = some (CellO cc (.ref rp))) (hrp : H rp = some (.tup (telV t0))) (ok0 : OkT t0)
    (nv : NvOk P w K mg base 1 h (LF.of e q cl c') ["_law_told"] ["_law_row_here"] (spCap pr)) : FunV P w K mg base H 1 h (spAskX (pr t0)) := by
  refine FunV.cap (x := "_law_row_here") at_ hcl hc nv fun vs H1 Q k1 hc1 z => ?_
  obtain ⟨a, t, rfl, ha, ok, q⟩ := z
  have nt : ∀ {b : Addr} {xs : List V}, H1 b = some (.tup xs) → b ≠ cc := fun e z => by
    rw [z, hc1] at e
    exact cellO_tup _ (Option.some.inj e)
  have hrp1 := k1.tup hrp
  refine ⟨a, t, rp, t0, rfl, rfl, (drop_ne (nt ha)).trans ha, ok, (drop_ne (nt hrp1)).trans hrp1, ok0, ?_⟩
  show Q (.bl (pr t0 t)) (upd (dropH cc H1) cc (CellO cc (V.ref rp)))
  rw [drop_put hc1]
  exact q
/-- a lambda that may not be called yet -/
theorem fun_later {F : LF} {h : Addr} {H : Hp} (at_ : LmAt H h F) : FunV P w K mg base H 1 h (fun _ _ _ _ => False) :=
  ⟨fun _ _ _ _ _ _ _ _ _ _ _ z => z.elim, fun H1 g k1 ok _ => let ⟨_, _, ho⟩ := lm_obj ok (at_.mv k1); ⟨_, _, _, _, ho⟩⟩
theorem ok_asks {c ct : Addr} {T : List (Addr × Str)} (F : Fun K "_law_asks" "_law_asks" sAsks f fd) (hc : codeOf K f = some c) (TB : TabB base mg c ct) (mT : (ct, qAsks) ∈ T) (uT : ∀ p ∈ T, p.1 = ct → p.2 = qAsks) : FnOk P w K mg base CX0 1 f fd ["_law_row_here"] (spAsks P w mg base T K) := by
  refine okCap (i := 0) (y := "_law_row_here") F hc scAsks (fun vs H Q E h => ?_) rfl (by decide +kernel) (fun _ => rfl) (fun A outer s H vs Q E cc ecc ncc hr h => ?_)
  · obtain ⟨rp, t0, rfl, _⟩ := h
    rfl
  · obtain ⟨rp, t0, rfl, hrp, ok0, tb, q⟩ := h
    refine ⟨_, psr_cons (ps_set (i := 1) scAsks.nd rfl (.inl rfl) (pe_lst (pa_cons (pe_lamS (e := aL0) (T := T) (c := c) (P := ct) rfl TB rfl mT uT (freeA _ (by decide +kernel))) pa_nil)))
      (psr_cons (ps_expr (pe_bm PySem.F.plainAttrs_list PySem.F.slot_list_append PySem.F.type_list_append mt_append (pv 1) (pa_cons (pe_lamS (e := aL 1) (T := T) (c := c) (P := ct) rfl TB rfl mT uT (freeA _ (by decide +kernel))) pa_nil)))
      (psr_cons (ps_expr (pe_bm PySem.F.plainAttrs_list PySem.F.slot_list_append PySem.F.type_list_append mt_append (pv 1) (pa_cons (pe_lamS (e := aL 2) (T := T) (c := c) (P := ct) rfl TB rfl mT uT (freeA _ (by decide +kernel))) pa_nil)))
      (psr_cons (ps_expr (pe_bm PySem.F.plainAttrs_list PySem.F.slot_list_append PySem.F.type_list_append mt_append (pv 1) (pa_cons (pe_lamS (e := aL 3) (T := T) (c := c) (P := ct) rfl TB rfl mT uT (freeA _ (by decide +kernel))) pa_nil)))
      (psr_cons (ps_expr (pe_bm PySem.F.plainAttrs_list PySem.F.slot_list_append PySem.F.type_list_append mt_append (pv 1) (pa_cons (pe_lamS (e := aL 4) (T := T) (c := c) (P := ct) rfl TB rfl mT uT (freeA _ (by decide +kernel))) pa_nil)))
      (psr_cons (ps_expr (pe_bm PySem.F.plainAttrs_list PySem.F.slot_list_append PySem.F.type_list_append mt_append (pv 1) (pa_cons (pe_lamS (e := aL 5) (T := T) (c := c) (P := ct) rfl TB rfl mT uT (freeA _ (by decide +kernel))) pa_nil)))
      (psr_ret (pe_op op_cat (pv 1) (pe_lst (pa_cons (pe_lamS (e := aL6) (T := T) (c := c) (P := ct) rfl TB rfl mT uT (freeA _ (by decide +kernel))) pa_nil))))))))), ?_⟩
    refine ⟨tb, fun h0 c0 G0 ex0 ml0 tb0 nh0 at0 => ⟨lz, fun l0 nl0 => ?_⟩⟩
    have fv0 : FunV P w K mg base G0 1 h0 (spAskX fun _ => true) := .lam at0 rfl ok_a0
    have s0 := same_new (o := .lst [V.ref h0]) nl0
    have S0 : KSt P w K mg base T H (upd G0 l0 (.lst [V.ref h0])) l0 [h0] [spAskX fun _ => true] :=
      ⟨fun b o e n => s0 b o (ex0 b o e n), fun b e => ml0 b (s0.free e), tabs_same tb0 s0, ml0 _ nl0, upd_same, .cons (fv0.ext fun b o e _ => s0 b o e) .nil⟩
    generalize upd G0 l0 (.lst [V.ref h0]) = H0 at S0
    refine ⟨_, rfl, .inl ⟨rfl, _, .inl (.inl S0.at_)⟩, S0.tabs, fun h1 c1 G1 ex1 ml1 tb1 _ at1 => ⟨l0, _, _, rfl, rfl, S0.at1 ex1, lz, ?_⟩⟩
    have S1 := S0.step ex1 ml1 tb1 (sp := spAskX fun _ => false) (.lam at1 rfl ok_a1)
    generalize upd G1 l0 _ = H1 at S1 ⊢
    refine ⟨_, rfl, .inl ⟨rfl, _, .inl (.inl S1.at_)⟩, S1.tabs, fun h2 c2 G2 ex2 ml2 tb2 _ at2 => ⟨l0, _, _, rfl, rfl, S1.at1 ex2, lz, ?_⟩⟩
    have S2 := S1.step ex2 ml2 tb2 (sp := spAskX (·.sure)) (.lam at2 rfl ok_a2)
    generalize upd G2 l0 _ = H2 at S2 ⊢
    refine ⟨_, rfl, .inl ⟨rfl, _, .inl (.inl S2.at_)⟩, S2.tabs, fun h3 c3 G3 ex3 ml3 tb3 _ at3 => ⟨l0, _, _, rfl, rfl, S2.at1 ex3, lz, ?_⟩⟩
    have S3 := S2.step ex3 ml3 tb3 (sp := spAskX fun t => decide ((t.age : Int) < 40)) (.lam at3 rfl ok_a3)
    generalize upd G3 l0 _ = H3 at S3 ⊢
    refine ⟨_, rfl, .inl ⟨rfl, _, .inl (.inl S3.at_)⟩, S3.tabs, fun h4 c4 G4 ex4 ml4 tb4 _ at4 => ⟨l0, _, _, rfl, rfl, S3.at1 ex4, lz, ?_⟩⟩
    have S4 := S3.step ex4 ml4 tb4 (fun_later at4)
    have k4 := keepR_x (sameX_upd (a := l0) (H := G4) (o := .lst (([h0] ++ [h1] ++ [h2] ++ [h3]).map V.ref ++ [V.ref h4]))) (S3.at1 ex4)
    have at4' := at4.mv k4
    generalize upd G4 l0 _ = H4 at S4 at4' ⊢
    refine ⟨_, rfl, .inl ⟨rfl, _, .inl (.inl S4.at_)⟩, S4.tabs, fun h5 c5 G5 ex5 ml5 tb5 _ at5 => ⟨l0, _, _, rfl, rfl, S4.at1 ex5, lz, ?_⟩⟩
    have S5 := S4.step ex5 ml5 tb5 (fun_later at5)
    have k5 := keepR_x (sameX_upd (a := l0) (H := G5) (o := .lst (([h0] ++ [h1] ++ [h2] ++ [h3] ++ [h4]).map V.ref ++ [V.ref h5]))) (S4.at1 ex5)
    have at5' := at5.mv k5
    have at4'' := (at4'.ext ex5).mv k5
    generalize upd G5 l0 _ = H5 at S5 at5' at4'' ⊢
    refine ⟨_, rfl, S5.tabs, fun h6 c6 G6 ex6 ml6 tb6 _ at6 => ⟨lz, fun m nm => ?_⟩⟩
    have s7 := same_new (o := .lst [V.ref h6]) nm
    have hm7 : upd G6 m (.lst [V.ref h6]) m = some (.lst [V.ref h6]) := upd_same
    have hl7 := s7 _ _ (S5.at1 ex6)
    have fv6 : FunV P w K mg base G6 1 h6 (spAskX fun t => !t.sure) := .lam at6 rfl ok_a6
    generalize upd G6 m (.lst [V.ref h6]) = H7 at s7 hm7 hl7 ⊢
    refine ⟨l0, m, _, _, rfl, rfl, hl7, hm7, lz, fun l nl => ⟨.ref rp, rfl, fun nc8 => ?_⟩⟩
    have s8 := same_new (o := .lst (([h0] ++ [h1] ++ [h2] ++ [h3] ++ [h4] ++ [h5]).map V.ref ++ [V.ref h6])) nl
    have hl8 : upd H7 l (.lst (([h0] ++ [h1] ++ [h2] ++ [h3] ++ [h4] ++ [h5]).map V.ref ++ [V.ref h6])) l = some (.lst ((([h0] ++ [h1] ++ [h2] ++ [h3] ++ [h4] ++ [h5]) ++ [h6]).map V.ref)) := upd_same
    have ex68 : ExtN G6 (upd H7 l (.lst (([h0] ++ [h1] ++ [h2] ++ [h3] ++ [h4] ++ [h5]).map V.ref ++ [V.ref h6]))) := fun b o e _ => s8 b o (s7 b o e)
    have nl6 : H l = none := S5.mono _ (ml6 _ (s7.free nl))
    have ml8 : ∀ b, upd H7 l (.lst (([h0] ++ [h1] ++ [h2] ++ [h3] ++ [h4] ++ [h5]).map V.ref ++ [V.ref h6])) b = none → H b = none := fun b e => S5.mono b (ml6 b (s7.free (s8.free e)))
    have tb8 := tabs_same (tabs_same tb6 s7) s8
    generalize upd H7 l (.lst (([h0] ++ [h1] ++ [h2] ++ [h3] ++ [h4] ++ [h5]).map V.ref ++ [V.ref h6])) = H8 at hl8 ex68 ml8 tb8 nc8 ⊢
    have ex58 := ex6.trans ex68
    have ex8 := S5.ext.trans ex58
    have s9 := same_new (o := CellO cc (.ref rp)) nc8
    have hc9 : upd H8 cc (CellO cc (.ref rp)) cc = some (CellO cc (.ref rp)) := upd_same
    have ex89 : ExtN H8 (upd H8 cc (CellO cc (.ref rp))) := fun b o e _ => s9 b o e
    have f5 := (S5.funs.mv (.of (ex58.trans ex89)))
    have f6 := fv6.ext (ex68.trans ex89)
    have a4 := (at4''.ext ex58).ext ex89
    have a5 := (at5'.ext ex58).ext ex89
    have hrp9 : upd H8 cc (CellO cc (.ref rp)) rp = some (.tup (telV t0)) := s9 _ _ (ex8 _ _ hrp fun ps z => (by cases z))
    have tb9 := tabs_same tb8 s9
    refine q l (([h0] ++ [h1] ++ [h2] ++ [h3] ++ [h4] ++ [h5]) ++ [h6]) _ (ex8.trans ex89) (fun b e => ml8 b (s9.free e)) tb9 nl6 (s9 _ _ hl8) ?_
    have g4 : FunV P w K mg base (upd H8 cc (CellO cc (.ref rp))) 1 h4 (spAskX fun t => decide (t.wo = t0.wo)) := cap_fun (cc := cc) a4 (by rw [ecc]; rfl) hc9 hrp9 ok0 ok_a4
    have g5 : FunV P w K mg base (upd H8 cc (CellO cc (.ref rp))) 1 h5 (spAskX fun t => decide (t = t0)) := cap_fun (cc := cc) a5 (by rw [ecc]; rfl) hc9 hrp9 ok0 ok_a5
    match f5 with
    | .cons x0 (.cons x1 (.cons x2 (.cons x3 (.cons _ (.cons _ .nil))))) => exact .cons x0 (.cons x1 (.cons x2 (.cons x3 (.cons g4 (.cons g5 (.cons f6 .nil))))))
end
end Wl

/-! put in one after another, behind those that are no greater: the stable sort. -/
namespace Wl
section
variable {β : Type} {le : β → β → Bool}
def insB (le : β → β → Bool) (S : List β) (x : β) : List β := S.take (S.filter fun o => le o x).length ++ x :: S.drop (S.filter fun o => le o x).length
def insF (le : β → β → Bool) (a : β) (S : List β) : List β := (S.filter fun b => !le a b) ++ a :: S.filter fun b => le a b
theorem insB_eq (tr : ∀ a b c : β, le a b = true → le b c = true → le a c = true) : ∀ {S : List β} {x : β}, S.Pairwise (fun a b => le a b = true) → insB le S x = (S.filter fun o => le o x) ++ x :: S.filter fun o => !le o x
  | [], x, _ => rfl
  | b :: S, x, h => by
    obtain ⟨h1, h2⟩ := List.pairwise_cons.mp h
    have ih := insB_eq tr (x := x) h2
    unfold insB at ih ⊢
    by_cases c : le b x = true
    · rw [List.filter_cons_of_pos (p := fun o => le o x) c, List.filter_cons_of_neg (p := fun o => !le o x) (by simp [c]), List.length_cons, List.take_succ_cons, List.drop_succ_cons, List.cons_append, List.cons_append, ih]
    · have e0 : S.filter (fun o => le o x) = [] := List.filter_eq_nil_iff.mpr fun o ho e => c (tr _ _ _ (h1 o ho) e)
      have e1 : S.filter (fun o => !le o x) = S := List.filter_eq_self.mpr fun o ho => by
        have := List.filter_eq_nil_iff.mp e0 o ho
        simpa using this
      rw [List.filter_cons_of_neg (p := fun o => le o x) c, List.filter_cons_of_pos (p := fun o => !le o x) (by simp [c]), e0, e1]
      rfl
theorem ins_comm (tr : ∀ a b c : β, le a b = true → le b c = true → le a c = true) (tot : ∀ a b : β, (le a b || le b a) = true) (S : List β) (a x : β) :
    insF le a ((S.filter fun o => le o x) ++ x :: S.filter fun o => !le o x) = ((insF le a S).filter fun o => le o x) ++ x :: (insF le a S).filter fun o => !le o x := by
  have rev : ∀ {p q : β}, ¬ le p q = true → le q p = true := fun {p q} h => by
    have := tot p q
    rw [Bool.or_eq_true] at this
    exact this.resolve_left h
  unfold insF
  have cm : ∀ (p q : β → Bool), (S.filter p).filter q = (S.filter q).filter p := fun p q => by
    rw [List.filter_filter, List.filter_filter]
    exact List.filter_congr fun o _ => Bool.and_comm _ _
  rw [List.filter_append, List.filter_append, List.filter_append, List.filter_append]
  by_cases c : le a x = true
  · rw [List.filter_cons_of_neg (p := fun b => !le a b) (by simp [c]), List.filter_cons_of_pos (p := fun b => le a b) c, List.filter_cons_of_pos (p := fun o => le o x) c, List.filter_cons_of_neg (p := fun o => !le o x) (by simp [c])]
    have e1 : ((S.filter fun o => !le o x).filter fun b => !le a b) = [] := List.filter_eq_nil_iff.mpr fun o ho e => by
      have h1 := (List.mem_filter.mp ho).2
      have h2 : ¬ le o x = true := by simpa using h1
      have h3 := tr _ _ _ c (rev h2)
      rw [h3] at e
      cases e
    have e2 : ((S.filter fun b => !le a b).filter fun o => !le o x) = [] := by
      rw [cm]
      exact e1
    rw [e1, e2, List.append_nil, List.nil_append, cm (fun o => le o x) (fun b => !le a b), cm (fun o => le o x) (fun b => le a b), cm (fun o => !le o x) (fun b => le a b)]
    simp
  · rw [List.filter_cons_of_pos (p := fun b => !le a b) (by simp [c]), List.filter_cons_of_neg (p := fun b => le a b) c, List.filter_cons_of_neg (p := fun o => le o x) c, List.filter_cons_of_pos (p := fun o => !le o x) (by simp [c])]
    have e1 : ((S.filter fun o => le o x).filter fun b => le a b) = [] := List.filter_eq_nil_iff.mpr fun o ho e => c (tr _ _ _ e (List.mem_filter.mp ho).2)
    have e2 : ((S.filter fun b => le a b).filter fun o => le o x) = [] := by
      rw [cm]
      exact e1
    rw [e1, e2, List.append_nil, List.nil_append, cm (fun o => le o x) (fun b => !le a b), cm (fun o => !le o x) (fun b => !le a b), cm (fun o => !le o x) (fun b => le a b)]
    simp
theorem sort_front (tr : ∀ a b c : β, le a b = true → le b c = true → le a c = true) (tot : ∀ a b : β, (le a b || le b a) = true) (a : β) (l : List β) : (a :: l).mergeSort le = insF le a (l.mergeSort le) := by
  obtain ⟨l1, l2, e1, e2, h⟩ := List.mergeSort_cons (le := le) (fun a b c h1 h2 => tr a b c h1 h2) tot a l
  have s := List.pairwise_mergeSort (le := le) (fun a b c h1 h2 => tr a b c h1 h2) tot (a :: l)
  rw [e1] at s ⊢
  have s2 := (List.pairwise_append.mp s).2.1
  have s3 := (List.pairwise_cons.mp s2).1
  unfold insF
  have f1 : l1.filter (fun b => !le a b) = l1 := List.filter_eq_self.mpr fun b hb => h b hb
  have f2 : l2.filter (fun b => !le a b) = [] := List.filter_eq_nil_iff.mpr fun b hb e => by
    rw [s3 b hb] at e
    cases e
  have f3 : l1.filter (fun b => le a b) = [] := List.filter_eq_nil_iff.mpr fun b hb e => by
    have := h b hb
    rw [e] at this
    cases this
  have f4 : l2.filter (fun b => le a b) = l2 := List.filter_eq_self.mpr fun b hb => s3 b hb
  rw [e2, List.filter_append, List.filter_append, f1, f2, f3, f4, List.append_nil, List.nil_append]
theorem sort_snoc (tr : ∀ a b c : β, le a b = true → le b c = true → le a c = true) (tot : ∀ a b : β, (le a b || le b a) = true) : ∀ (l : List β) (x : β), (l ++ [x]).mergeSort le = insB le (l.mergeSort le) x
  | [], x => by
    rw [List.nil_append, List.mergeSort_singleton, List.mergeSort_nil]
    rfl
  | a :: l, x => by
    have so : ∀ m : List β, (m.mergeSort le).Pairwise (fun a b => le a b = true) := fun m => List.pairwise_mergeSort (fun a b c h1 h2 => tr a b c h1 h2) tot m
    rw [List.cons_append, sort_front tr tot, sort_snoc tr tot l x, insB_eq tr (so l), ins_comm tr tot, ← sort_front tr tot, insB_eq tr (so (a :: l))]
end
end Wl

/-! min of a list of pairs of whole numbers. -/
namespace Wl
open PySem PySem.Spec PyProof.Rows L2
def encPr (p : Int × Int) : PyData := .tuple [.int p.1, .int p.2]
def ltPr (p q : Int × Int) : Bool := decide (p.1 < q.1 ∨ (p.1 = q.1 ∧ p.2 < q.2))
def minPr (x : Int × Int) (xs : List (Int × Int)) : Int × Int := xs.foldl (fun a y => if ltPr y a then y else a) x
theorem minD_enc : ∀ (xs : List (Int × Int)) (x : Int × Int), PySem.W.minD (encPr x) (xs.map encPr) = encPr (minPr x xs)
  | [], _ => rfl
  | y :: r, x => by
    have ih := fun z => minD_enc r z
    have e : PySem.W.dataLt (encPr y) (encPr x) = ltPr y x := PySem.W.dataLt_ii _ _ _ _
    show PySem.W.minD (if PySem.W.dataLt (encPr y) (encPr x) = true then encPr y else encPr x) (r.map encPr) = encPr (minPr (if ltPr y x then y else x) r)
    rw [e]
    by_cases c : ltPr y x = true
    · rw [if_pos c, if_pos c]
      exact ih y
    · rw [if_neg c, if_neg c]
      exact ih x
theorem minPr_mem : ∀ (xs : List (Int × Int)) (x : Int × Int), minPr x xs ∈ x :: xs
  | [], _ => List.mem_cons_self
  | y :: r, x => by
    have ih := minPr_mem r (if ltPr y x then y else x)
    show minPr (if ltPr y x then y else x) r ∈ _
    rcases List.mem_cons.mp ih with h | h
    · rw [h]
      split <;> simp
    · exact List.mem_cons_of_mem _ (List.mem_cons_of_mem _ h)
theorem minPr_le : ∀ (xs : List (Int × Int)) (x : Int × Int), ∀ q ∈ x :: xs, ltPr q (minPr x xs) = false
  | [], x, q, hq => by
    rw [List.mem_singleton.mp hq]
    unfold ltPr
    exact decide_eq_false (by show ¬ (x.1 < x.1 ∨ (x.1 = x.1 ∧ x.2 < x.2)); omega)
  | y :: r, x, q, hq => by
    have ih := minPr_le r (if ltPr y x then y else x)
    show ltPr q (minPr (if ltPr y x then y else x) r) = false
    generalize minPr (if ltPr y x then y else x) r = m at ih
    have h0 := ih _ List.mem_cons_self
    unfold ltPr at h0 ih ⊢
    rw [decide_eq_false_iff_not] at h0 ⊢
    rcases List.mem_cons.mp hq with rfl | hq
    · split at h0
      · rename_i c
        have c := of_decide_eq_true c
        omega
      · exact h0
    · rcases List.mem_cons.mp hq with rfl | hq
      · split at h0
        · exact h0
        · rename_i c
          have c : ¬ _ := fun z => c (decide_eq_true z)
          omega
      · exact of_decide_eq_false (ih q (List.mem_cons_of_mem _ hq))
def rMinP (K : PySem.W.Frag) : List V → Hp → VK → Prop := fun vs H Q => ∃ (a : Addr) (ps : List (Addr × Int × Int)), vs = [V.ref a] ∧ SqL K H a (ps.map fun p => V.ref p.1) ∧ (∀ p ∈ ps, H p.1 = some (.tup [.int p.2.1, .int p.2.2])) ∧ ps ≠ [] ∧
  ∀ p ∈ ps, (∀ q ∈ ps, ltPr q.2 p.2 = false) → Q (.ref p.1) H
theorem dp_pairsI {K : PySem.W.Frag} {H : Hp} : ∀ {ps : List (Addr × Int × Int)}, (∀ p ∈ ps, H p.1 = some (.tup [.int p.2.1, .int p.2.2])) → DpAll K H (ps.map fun p => V.ref p.1) ((ps.map Prod.snd).map encPr)
  | [], _ => .nil
  | p :: r, h => .cons (.tup (.inl (.inl (h p List.mem_cons_self))) (.cons (.int _) (.cons (.int _) .nil))) (dp_pairsI fun q hq => h q (List.mem_cons_of_mem _ hq))
theorem pairs_alike (l : List (Int × Int)) : PySem.W.AlikeAll (l.map encPr) := by
  refine ⟨fun a ha b hb => ?_, fun a ha => ?_⟩
  · obtain ⟨x, _, rfl⟩ := List.mem_map.mp ha
    obtain ⟨y, _, rfl⟩ := List.mem_map.mp hb
    rfl
  · obtain ⟨x, _, rfl⟩ := List.mem_map.mp ha
    exact fun z => by cases z
theorem pairs_depth : ∀ l : List (Int × Int), PyData.depthAll (l.map encPr) ≤ 1
  | [] => by simp [PyData.depthAll]
  | p :: r => by
    have := pairs_depth r
    simp only [List.map_cons, PyData.depthAll, encPr, PyData.depth]
    omega
theorem vals_atP : ∀ {xs : List V} {us : List Value}, Vals xs us → ∀ {i : Nat} {v : Value}, us[i]? = some v → ∃ x, xs[i]? = some x ∧ RelV x v
  | _, _, .nil, i, v, h => by simp at h
  | _, _, .cons r t, 0, v, h => by
    cases h
    exact ⟨_, rfl, r⟩
  | _, _, .cons r t, i + 1, v, h => vals_atP t (i := i) (by simpa using h)
theorem ra_cons {h : Heap} {us : List Value} {d : PyData} {ds : List PyData} {as : List Addr} (r : ReadsAll h us (d :: ds) as) : ∃ v vs a b, us = v :: vs ∧ Reads h v d a ∧ ReadsAll h vs ds b := by
  cases r with
  | cons r1 r2 => exact ⟨_, _, _, _, rfl, r1, r2⟩
theorem rd_int {h : Heap} {v : Value} {a c : Int} {as bs : List Addr} (r : Reads h v (.int a) as) (r' : Reads h v (.int c) bs) : a = c := by
  cases r
  cases r'
  rfl
theorem reads_two {h : Heap} {us : List Value} {a b c d : Int} {as bs : List Addr} (r : ReadsAll h us [.int a, .int b] as) (r' : ReadsAll h us [.int c, .int d] bs) : a = c ∧ b = d := by
  obtain ⟨v, vs, _, _, rfl, r1, r2⟩ := ra_cons r
  obtain ⟨u, us, _, _, e, r3, r4⟩ := ra_cons r'
  cases e
  obtain ⟨v2, vs2, _, _, rfl, r5, _⟩ := ra_cons r2
  obtain ⟨u2, us2, _, _, e, r6, _⟩ := ra_cons r4
  cases e
  exact ⟨rd_int r1 r3, rd_int r5 r6⟩
theorem reads_pair {h : Heap} {v : Value} {p q : Int × Int} {as bs : List Addr} (h1 : Reads h v (encPr p) as) (h2 : Reads h v (encPr q) bs) : p = q := by
  unfold encPr at h1 h2
  cases h1 with
  | tuple g1 c1 d1 r1 =>
    cases h2 with
    | tuple g2 c2 d2 r2 =>
      rw [g1] at g2
      cases g2
      rw [d1] at d2
      cases d2
      obtain ⟨e1, e2⟩ := reads_two r1 r2
      exact Prod.ext e1 e2
theorem cr_minP {X : Cx} (hc : X.calm = true) (hu : X.A.units + 64 < cLine) : CallR X (.builtin "min") (rMinP X.K) := by
  intro pins s σ H vs us Q I r h
  obtain ⟨a, ps, rfl, hs, hp, hne, q⟩ := h
  obtain ⟨its, rv, hl, hn⟩ := I.list hs
  obtain ⟨u, rfl, ru⟩ := vals1 r
  obtain rfl : u = Value.ref a := ru
  obtain ⟨as, hr⟩ := Dp.readsAll I _ _ its (dp_pairsI hp) rv
  cases hps : ps with
  | nil => exact absurd hps hne
  | cons p0 pr =>
    rw [hps] at hr hp q rv
    refine PySem.W.min_list_data (x := encPr p0.2) (xs := (pr.map Prod.snd).map encPr) (I.ok.hd hc) hl.isList (by simpa using hr) (pairs_alike (p0.2 :: pr.map Prod.snd)) (by
      have := pairs_depth (p0.2 :: pr.map Prod.snd)
      simp only [List.map_cons] at this
      omega) fun i v h' tk bs hv hR hk => ?_
    rw [minD_enc] at hR
    have hv' : its[i]? = some v := by simpa using hv
    obtain ⟨x, hx, rx⟩ : ∃ x, ((p0 :: pr).map fun p => V.ref p.1)[i]? = some x ∧ RelV x v := vals_atP rv hv'
    rw [List.getElem?_map] at hx
    obtain ⟨p, hpi, rfl⟩ := Option.map_eq_some_iff.mp hx
    have hpm := List.mem_of_getElem? hpi
    have I1 := I.kept (t' := tk) hk
    have rd := Dp.reads I1 (encPr p.2) (V.ref p.1) v (.tup (.inl (.inl (hp p hpm))) (.cons (.int _) (.cons (.int _) .nil))) rx
    obtain ⟨as2, rd⟩ := rd
    have e2 : minPr p0.2 (pr.map Prod.snd) = p.2 := reads_pair hR rd
    exact ⟨.ref p.1, H, I1, rx, q p hpm fun y hy => by
      rw [← e2]
      exact minPr_le _ _ _ (show y.2 ∈ (p0 :: pr).map Prod.snd from List.mem_map.mpr ⟨y, hy, rfl⟩)⟩
end Wl

/-! min of a list of things told by data, < of two of them -/
namespace Wl
open PySem PySem.Spec PyProof.Rows L2
section
variable {β : Type} {enc : β → PyData}
theorem minD_mem : ∀ (xs : List PyData) (x : PyData), PySem.W.minD x xs ∈ x :: xs
  | [], _ => List.mem_cons_self
  | y :: r, x => by
    have ih := minD_mem r (if PySem.W.dataLt y x then y else x)
    show PySem.W.minD (if PySem.W.dataLt y x then y else x) r ∈ _
    rcases List.mem_cons.mp ih with h | h
    · rw [h]
      split <;> simp
    · exact List.mem_cons_of_mem _ (List.mem_cons_of_mem _ h)
theorem minD_le : ∀ (xs : List PyData) (x : PyData), ∀ q ∈ x :: xs, PySem.W.dataLt q (PySem.W.minD x xs) = false
  | [], x, q, hq => by
    rw [List.mem_singleton.mp hq]
    exact PyProof.Rows.lex_irrefl _
  | y :: r, x, q, hq => by
    have ih := minD_le r (if PySem.W.dataLt y x then y else x)
    show PySem.W.dataLt q (PySem.W.minD (if PySem.W.dataLt y x then y else x) r) = false
    generalize PySem.W.minD (if PySem.W.dataLt y x then y else x) r = m at ih
    have h0 := ih _ List.mem_cons_self
    rcases List.mem_cons.mp hq with rfl | hq
    · split at h0
      · rename_i c
        cases e : PySem.W.dataLt q m with
        | false => rfl
        | true =>
          have := PyProof.Rows.lex_trans _ _ _ c e
          have h0 : PyProof.Rows.lexLt PyProof.Rows.itemOrd (PySem.W.keyToks y) (PySem.W.keyToks m) = false := h0
          rw [this] at h0
          cases h0
      · exact h0
    · rcases List.mem_cons.mp hq with rfl | hq
      · split at h0
        · exact h0
        · rename_i c
          have c : PySem.W.dataLt q x = false := by simpa using c
          cases e : PySem.W.dataLt q m with
          | false => rfl
          | true =>
            rcases PyProof.Rows.lex_negTrans _ (PySem.W.keyToks x) _ e with z | z
            · have c : PyProof.Rows.lexLt PyProof.Rows.itemOrd (PySem.W.keyToks q) (PySem.W.keyToks x) = false := c
              rw [c] at z
              cases z
            · have h0 : PyProof.Rows.lexLt PyProof.Rows.itemOrd (PySem.W.keyToks x) (PySem.W.keyToks m) = false := h0
              rw [h0] at z
              cases z
      · exact ih q (List.mem_cons_of_mem _ hq)
def rMinE (K : PySem.W.Frag) : List V → Hp → VK → Prop := fun vs H Q => ∃ (a : Addr) (xs : List V) (ds : List PyData), vs = [V.ref a] ∧ SqL K H a xs ∧ DpAll K H xs ds ∧ ds ≠ [] ∧ (∀ d ∈ ds, ∀ e ∈ ds, PySem.W.alike d e = true) ∧ (∀ d ∈ ds, d ≠ .none) ∧ PyData.depthAll ds ≤ 60 ∧
  ∀ (i : Nat) (x : V) (d : PyData), xs[i]? = some x → ds[i]? = some d → (∀ e ∈ ds, PySem.W.dataLt e d = false) → Q x H
theorem dpAll_at {K : PySem.W.Frag} {H : Hp} : ∀ {xs : List V} {ds : List PyData}, DpAll K H xs ds → ∀ {i : Nat} {x : V}, xs[i]? = some x → ∃ d, ds[i]? = some d ∧ Dp K H x d
  | _, _, .nil, _, _, h => by simp at h
  | _, _, .cons r _, 0, _, h => by cases h; exact ⟨_, rfl, r⟩
  | _, _, .cons _ t, i + 1, _, h => dpAll_at t (i := i) h
theorem cr_minE {X : Cx} (hc : X.calm = true) (hu : X.A.units + 64 < cLine) : CallR X (.builtin "min") (rMinE X.K) := by
  intro pins s σ H vs us Q I r h
  obtain ⟨a, xs, ds, rfl, hs, hp, hne, al, nn, hd, q⟩ := h
  obtain ⟨its, rv, hl, hn⟩ := I.list hs
  obtain ⟨u, rfl, ru⟩ := vals1 r
  obtain rfl : u = Value.ref a := ru
  obtain ⟨as, hr⟩ := Dp.readsAll I _ _ its hp rv
  cases hps : ds with
  | nil => exact absurd hps hne
  | cons d0 dr =>
    rw [hps] at hr hp q al nn hd
    refine PySem.W.min_list_data (x := d0) (xs := dr) (I.ok.hd hc) hl.isList (by simpa using hr) ⟨al, nn⟩ (by omega) fun i v h' tk bs hv hR hk => ?_
    have hv' : its[i]? = some v := by simpa using hv
    obtain ⟨x, hx, rx⟩ : ∃ x, xs[i]? = some x ∧ RelV x v := vals_atP rv hv'
    obtain ⟨d, hdi, hdp⟩ := dpAll_at hp hx
    have I1 := I.kept (t' := tk) hk
    obtain ⟨as2, rd⟩ := Dp.reads I1 d x v hdp rx
    have e : PySem.W.minD d0 dr = d := (PyProof.Rows.reads_det (fun _ _ z _ => z) rd hR).1
    exact ⟨x, H, I1, rx, q i x d hx hdi fun y hy => by
      rw [← e]
      exact minD_le _ _ _ hy⟩
/-- a < b -/
def rLtD (K : PySem.W.Frag) : R2 := fun x y H Q => ∃ d e, Dp K H x d ∧ Dp K H y e ∧ PySem.W.alike d e = true ∧ d ≠ .none ∧ d.depth ≤ 60 ∧ Q (.bl (PySem.W.dataLt d e)) H
theorem op_ltD {X : Cx} (hu : X.A.units + 65 < cLine) : OpR X (compareOp .Lt) (rLtD X.K) := by
  intro pins s σ H x y v u Q I rx ry h
  obtain ⟨d, e, hd, he, al, nn, dp, q⟩ := h
  obtain ⟨as, r1⟩ := Dp.reads I d x v hd rx
  obtain ⟨bs, r2⟩ := Dp.reads I e y u he ry
  exact PySem.W.lt_data r1 r2 al nn (by omega) ⟨.bl _, H, I, rfl, q⟩
end
end Wl

/-! Displays of things that G tells of, whatever they are, while I stands. -/
namespace Wl
open PySem PySem.Spec PyProof.Rows L2
/-- G and I bear a growing heap -/
def Grows (G : Hp → V → Prop) : Prop := ∀ (H H' : Hp) (v : V), G H v → Same H H' → G H' v
def GrowsH (I : Hp → Prop) : Prop := ∀ (H H' : Hp), I H → Same H H' → I H'
def Bld (σ : L2.St) (I : Hp → Prop) (G : Hp → V → Prop) (te : TE) : Prop := ∀ (H : Hp) (Q : VK), I H → (∀ v H', Same H H' → G H' v → Q v H') → te σ H Q
def BldA (σ : L2.St) (I : Hp → Prop) (G : Hp → V → Prop) (n : Nat) (ta : TA) : Prop := ∀ (H : Hp) (Q : List V → Hp → Prop), I H → (∀ vs H', Same H H' → vs.length = n → (∀ v ∈ vs, G H' v) → Q vs H') → ta σ H Q
section
variable {σ : L2.St} {I : Hp → Prop} {G : Hp → V → Prop} {te : TE} {ta : TA} {n : Nat}
theorem bld_nil : BldA σ I G 0 tNil := fun H Q _ q => q [] H (Same.refl H) rfl (fun v hv => by cases hv)
theorem bld_cons (gI : GrowsH I) (gG : Grows G) (h : Bld σ I G te) (k : BldA σ I G n ta) : BldA σ I G (n + 1) (tCons te ta) := fun H Q i q => h H _ i fun v H1 s1 g1 => k H1 _ (gI _ _ i s1) fun vs H2 s2 l2 g2 => q (v :: vs) H2 (s1.trans s2) (by rw [List.length_cons, l2]) (fun u hu => by
  rcases List.mem_cons.mp hu with rfl | hu
  · exact gG _ _ _ g1 s2
  · exact g2 u hu)
/-- a constant -/
theorem bld_c {v : V} (h : ∀ H, I H → G H v) : Bld σ I G (tC v) := fun H Q i q => q v H (Same.refl H) (h H i)
/-- a display of such, as a new list -/
theorem bld_lst (gG : Grows G) (h : BldA σ I G n ta) (hn : n ≤ 1000) {H : Hp} {Q : VK} (i : I H) (q : ∀ p vs H', Same H H' → H p = none → H' p = some (.lst vs) → vs.length = n → (∀ v ∈ vs, G H' v) → Q (.ref p) H') : tLst ta σ H Q :=
  h H _ i fun vs H1 s1 l1 g1 => ⟨lzl (by omega), fun p hp => q p vs _ (s1.trans (same_new hp)) (hq_of s1 hp) upd_same l1 fun v hv => gG _ _ _ (g1 v hv) (same_new hp)⟩
/-- xs + [..] -/
theorem bld_cat (gI : GrowsH I) (gG : Grows G) {i0 m : Nat} (h : BldA σ I G n ta) (hn : n + m ≤ 1000) {H : Hp} {Q : VK} {p : Addr} {xs : List V} (i : I H) (hσ : σ[i0]? = some (some (.ref p))) (hp : H p = some (.lst xs)) (hm : xs.length = m) (hg : ∀ v ∈ xs, G H v)
    (q : ∀ r vs H', Same H H' → H r = none → H' r = some (.lst vs) → vs.length = m + n → (∀ v ∈ vs, G H' v) → Q (.ref r) H') : tOp rCat (tVar i0) (tLst ta) σ H Q := by
  refine ⟨_, hσ, bld_lst (n := n) gG h (by omega) i fun r vs H1 s1 n1 e1 l1 g1 => ⟨p, r, xs, vs, rfl, rfl, s1 _ _ hp, e1, lzl (by omega), fun t ht => ?_⟩⟩
  refine q t (xs ++ vs) _ (s1.trans (same_new ht)) (hq_of s1 ht) upd_same (by rw [List.length_append, hm, l1]) fun v hv => ?_
  rcases List.mem_append.mp hv with hv | hv
  · exact gG _ _ _ (hg v hv) (s1.trans (same_new ht))
  · exact gG _ _ _ (g1 v hv) (same_new ht)
/-- what a display's parts are, all at once -/
def BldX (σ : L2.St) (I : Hp → Prop) (R : Hp → List V → Prop) (ta : TA) : Prop := ∀ (H : Hp) (Q : List V → Hp → Prop), I H → (∀ xs H', Same H H' → I H' → R H' xs → Q xs H') → ta σ H Q
theorem bldx_c {xs : List V} (h : ∀ (H : Hp) (Q : List V → Hp → Prop), Q xs H → ta σ H Q) : BldX σ I (fun _ ys => ys = xs) ta := fun H Q i q => h H Q (q xs H (Same.refl H) i rfl)
theorem bld_tup {R : Hp → List V → Prop} (ht : BldX σ I R ta) (hl : ∀ H xs, R H xs → xs.length ≤ 1000) (g : ∀ (H : Hp) (p : Addr) (xs : List V), I H → R H xs → H p = none → G (upd H p (.tup xs)) (.ref p)) : Bld σ I G (tTup ta) := fun H Q i q =>
  ht H _ i fun xs H1 s1 i1 r1 => ⟨lzl (hl _ _ r1), fun p hp => q (.ref p) _ (s1.trans (same_new hp)) (g H1 p xs i1 r1 hp)⟩
theorem bld_lstX {R : Hp → List V → Prop} (ht : BldX σ I R ta) (hl : ∀ H xs, R H xs → xs.length ≤ 1000) (g : ∀ (H : Hp) (p : Addr) (xs : List V), I H → R H xs → H p = none → G (upd H p (.lst xs)) (.ref p)) : Bld σ I G (tLst ta) := fun H Q i q =>
  ht H _ i fun xs H1 s1 i1 r1 => ⟨lzl (hl _ _ r1), fun p hp => q (.ref p) _ (s1.trans (same_new hp)) (g H1 p xs i1 r1 hp)⟩
end
end Wl

/-! Single steps of a reading, so that the kernel need not unfold what stands in it. -/
namespace Wl
open PySem PySem.Spec PyProof.Rows L2
section
variable {te ta tb : TE} {i : Nat} {B : TS} {D : Ends} {σ : L2.St} {H : Hp} {Q : VK} {r : R2}
theorem st_asg (h : te σ H fun x H1 => B D (σ.set i (some x)) H1) : tSeq (tAsg te (gName i)) B D σ H := h
theorem st_ret (h : te σ H D.rt) : tRet te D σ H := h
theorem st_next (h : D.nx σ H) : tNext D σ H := h
theorem st_nextR {rt : VK} {bk ct : L2.St → Hp → Prop} (h : te σ H D.rt) : tNext { nx := tRet te D, rt := rt, bk := bk, ct := ct } σ H := h
theorem st_op (h : ta σ H fun x H1 => tb σ H1 fun y H2 => r x y H2 Q) : tOp r ta tb σ H Q := h
/-- behind branches: what J says -/
theorem st_join {A : TS} (J : L2.St → Hp → Prop) (h2 : ∀ σ' H', J σ' H' → B D σ' H') (h1 : ∀ D' : Ends, (∀ σ' H', J σ' H' → D'.nx σ' H') → D'.rt = D.rt → A D' σ H) : tSeq A B D σ H := h1 _ (fun σ' H' j => h2 σ' H' j) rfl
end
end Wl

namespace Wl
open PySem PySem.Spec PyProof.Rows L2 LamX NdefX
abbrev sBy : Stmt := topS 58
abbrev sLList : Stmt := topS 59
section
variable {P : Program} {w : World} {K : PySem.W.Frag} {mg : Str → Option Value} {base : Heap} {f C D : Addr} {fd : FuncData}
/-- what a key must be for the sort, and for the law's own -/
structure KeyFit (ts : List Tel) (enc : Tel → PyData) : Prop where
  ok : KeyOk ts enc
  nn : ∀ t, enc t ≠ .none
  dp : ∀ t, (enc t).depth ≤ 8
def spBy (P : Program) (w : World) (mg : Str → Option Value) (base : Heap) (K : PySem.W.Frag) : Sp := fun vs H Q _ => ∃ (kp g : Addr) (bs : List Addr) (ts : List Tel) (enc : Tel → PyData), vs = [.ref kp, .ref g] ∧ KeptAt H kp bs ts ∧ (∀ t ∈ ts, OkT t) ∧ ts.length ≤ 100 ∧ FunV P w K mg base H 1 g (spKeyX K enc) ∧ KeyFit ts enc ∧
  ∀ (l : Addr) (bs' : List Addr) (H' : Hp), Same H H' → H l = none → KeptAt H' l bs' (sortE enc ts) → Q (.ref l) H'
abbrev nBy : List Str := ["_law_kept", "_law_deed", "_law_found", "_law_row_here", "_law_at", "_law_old"]
theorem scBy : FnScope nBy ["_law_kept", "_law_deed"] (defScope sBy) := ⟨rfl, rfl, rfl, by decide +kernel, rfl, by decide +kernel, by decide +kernel⟩
theorem sortE_snoc {enc : Tel → PyData} (l : List Tel) (x : Tel) : sortE enc (l ++ [x]) = insB (PySem.W.dataLe false enc) (sortE enc l) x := sort_snoc le_tr le_tot l x
theorem ok_by (F : Fun K "_law_by" "_law_by" sBy f fd) (B : Bi mg) : FnOk P w K mg base CX0 2 f fd ["_law_kept", "_law_deed"] (spBy P w mg base K) := by
  refine F.ok scBy (fun vs H Q E h => ?_) (fun cdv A outer s H vs Q E hr h => ?_)
  · obtain ⟨kp, g, bs, ts, enc, rfl, _⟩ := h
    rfl
  · obtain ⟨kp, g, bs, ts, enc, rfl, hk, hok, h100, fv, kf, q⟩ := h
    have hu65 : (A.deeper (envOfC "_law_by" (defScope sBy) s.heap.objs.size f cdv)).units + 65 < cLine := by have := hr.un; omega
    refine ⟨_, pss_cons (ps_set (i := 2) scBy.nd rfl (.inl rfl) (pe_lst pa_nil))
      (pss_cons (ps_for PassesOwn.never rfl (pi_list (pv 0)) (pg_name (i := 3) scBy.nd rfl (.inr rfl))
        (pss_cons (ps_set (i := 4) scBy.nd rfl (.inl rfl) (pe_callB call_len_seq (by rfl) B.len PySem.boot_len (pa_cons (pe_lc (own := [("_law_old", 5)]) (g := gName 5) (tt := tNot (tTest (tOp (rLtD K) (tCallV P w K mg base 1 1 (tCons (tVar 3) tNil)) (tCallV P w K mg base 1 1 (tCons (tVar 5) tNil))))) (te := tVar 5) rfl scBy.nd (pi_list (pv 2)) (blkOk_by (N := nBy) (sc := defScope sBy) (by decide +kernel)) (fun _ _ _ _ _ => pg_name (i := 5) scBy.nd rfl (.inl rfl))
          (fun _ _ _ _ _ => pts_one (pt_not (pt_cmpR (op_ltD hu65) (pe_callV (k := 1) (j := 1) (i := 1) hr rfl (by first | exact .inl rfl | exact .inr (.inl rfl) | exact .inr (.inr rfl)) (pa_cons (pv 3) pa_nil) (Nat.le_refl _)) (pe_callV (k := 1) (j := 1) (i := 1) hr rfl (by first | exact .inl rfl | exact .inr (.inl rfl) | exact .inr (.inr rfl)) (pa_cons (pv 5) pa_nil) (Nat.le_refl _)) (nomark _)))) (fun _ _ _ _ _ => pv 5)) pa_nil)))
        (pss_one (ps_expr (pe_bm PySem.F.plainAttrs_list PySem.F.slot_list_insert PySem.F.type_list_insert mt_insert (pv 2) (pa_cons (pv 4) (pa_cons (pv 3) pa_nil)))))))
      (pss_one (ps_ret (pv 2)))), ?_⟩
    refine ⟨lz, fun l0 nl0 => ?_⟩
    have s0 := same_new (o := .lst []) nl0
    have hl0 : upd H l0 (.lst []) l0 = some (.lst (([] : List Addr).map V.ref)) := upd_same
    generalize upd H l0 (.lst []) = H0 at s0 hl0
    have lb := hk.tels.length
    refine ⟨_, rfl, kp, rfl, ⟨_, .inl (.inl (s0 _ _ hk.at_))⟩, for_list (K := K) (a := kp) (xs := bs.map V.ref) (fun i σ H' => (∃ y3 y4, σ = [some (.ref kp), some (.ref g), some (.ref l0), y3, y4, none]) ∧ Same H H' ∧ ∃ as', H' l0 = some (.lst (as'.map V.ref)) ∧ TelsAt H' as' (sortE enc (ts.take i)))
      ⟨⟨_, _, rfl⟩, s0, [], hl0, by rw [List.take_zero]; unfold sortE; rw [List.mergeSort_nil]; exact .nil⟩ (fun i σ H' _ h => .inl (.inl (h.2.1 _ _ hk.at_))) ?_ ?_⟩
    case refine_2 =>
      rintro σ H' ⟨⟨y3, y4, rfl⟩, s', as', h1, h2⟩
      rw [List.length_map, lb, List.take_length] at h2
      exact ⟨_, rfl, q l0 as' H' s' nl0 ⟨h1, h2⟩⟩
    rintro i x σ H1 hx ⟨⟨y3, y4, rfl⟩, s1, as', h1, h2⟩
    rw [List.getElem?_map] at hx
    obtain ⟨rp, hrp, rfl⟩ := Option.map_eq_some_iff.mp hx
    obtain ⟨t, ht, hH⟩ := Each.get hk.tels hrp
    have htm := List.mem_of_getElem? ht
    have okt := hok t htm
    have sub : ∀ u ∈ sortE enc (ts.take i), u ∈ ts := fun u hu => List.mem_of_mem_take ((sortE_ind _).mem_iff.mp hu)
    have ls : (sortE enc (ts.take i)).length ≤ 100 := by
      rw [(sortE_ind (enc := enc) (ts.take i)).length_eq, List.length_take]
      omega
    have la := h2.length
    refine ⟨_, rfl, l0, rfl, ⟨_, .inl (.inl h1)⟩, fun Dd hD => pick_telsX h1 h2 hD (fun old => PySem.W.dataLe false enc old t) (by omega) (fun _ => rfl) ?_ (fun x H Q q => ⟨_, rfl, q⟩) ?_⟩
    · intro po old H2 hom hpo s2 Q' q'
      have fv2 := fv.mv (H' := H2) (fun b o _ _ e => s2 b o (s1 b o e))
      refine ⟨g, rfl, ⟨_, fv2⟩, _, rfl, _, fv2, rp, t, rfl, s2 _ _ (s1 _ _ hH), okt, fun y H3 s3 dy => ?_⟩
      have fv3 := fv2.mv (H' := H3) (fun b o _ _ e => s3 b o e)
      refine ⟨g, rfl, ⟨_, fv3⟩, _, rfl, _, fv3, po, old, rfl, s3 _ _ hpo, hok old (sub old hom), fun z H4 s4 dz => ?_⟩
      refine ⟨enc t, enc old, dp_same s4 dy, dz, kf.ok.al _ (List.mem_map.mpr ⟨t, htm, rfl⟩) _ (List.mem_map.mpr ⟨old, sub old hom, rfl⟩), kf.nn t, by have := kf.dp t; omega, _, rfl, ?_⟩
      have e : PySem.W.dataLe false enc old t = !PySem.W.dataLt (enc t) (enc old) := by
        rw [PySem.W.dataLe_eq]
        rfl
      have z := q' H4 (s3.trans s4)
      rw [e] at z
      exact z
    · intro bs2 H2 s2 hD2 hb2
      have lb2 := hb2.length
      refine ⟨Dd, _, rfl, .inl (.inl (.inl hD2)), ?_⟩
      have h12 := s2 _ _ h1
      refine ⟨_, rfl, .inl ⟨rfl, _, .inl (.inl h12)⟩, _, rfl, _, rfl, l0, _, _, _, rfl, rfl, h12, ?_, ?_, ?_, ?_⟩
      · rw [List.length_map]
        exact small1000 (by omega)
      · omega
      · rw [List.length_map]
        have : ((sortE enc (ts.take i)).filter fun old => PySem.W.dataLe false enc old t).length ≤ (sortE enc (ts.take i)).length := List.length_filter_le _ _
        omega
      · have en : ((bs2.map V.ref).length : Int).toNat = ((sortE enc (ts.take i)).filter fun old => PySem.W.dataLe false enc old t).length := by
          rw [List.length_map, lb2]
          rfl
        rw [en]
        generalize hn : ((sortE enc (ts.take i)).filter fun old => PySem.W.dataLe false enc old t).length = n
        have s3 : Same H (upd H2 l0 (.lst ((as'.map V.ref).take n ++ [V.ref rp] ++ (as'.map V.ref).drop n))) := same_mut (s1.trans s2) nl0
        have tk3 : TupKeep H1 (upd H2 l0 (.lst ((as'.map V.ref).take n ++ [V.ref rp] ++ (as'.map V.ref).drop n))) := fun b xs e => by
          rw [upd_ne (ne_of e h1 (by intro z; cases z))]
          exact s2 _ _ e
        have hl3 : upd H2 l0 (.lst ((as'.map V.ref).take n ++ [V.ref rp] ++ (as'.map V.ref).drop n)) l0 = some (.lst ((as'.take n ++ ([rp] ++ as'.drop n)).map V.ref)) := by
          rw [upd_same]
          simp
        generalize upd H2 l0 (.lst ((as'.map V.ref).take n ++ [V.ref rp] ++ (as'.map V.ref).drop n)) = H3 at s3 tk3 hl3 ⊢
        refine ⟨⟨_, _, rfl⟩, s3, as'.take n ++ ([rp] ++ as'.drop n), hl3, ?_⟩
        have e3 := h2.keep tk3
        have hr3 := s3 _ _ hH
        rw [take_snoc ht, sortE_snoc]
        unfold insB
        rw [hn]
        exact Each.append (each_take _ e3) (.cons hr3 (each_drop _ e3))
end
end Wl

namespace Wl
open PySem PySem.Spec PyProof.Rows L2
theorem int_wgt {n : Nat} (h : n ≤ 120) : (PyData.int (n : Int)).weight ≤ 8 ∧ (PyData.int (n : Int)).intsShort 13 = true := by
  have : ∀ k : Fin 121, (decide ((PyData.int (k.val : Int)).weight ≤ 8) && (PyData.int (k.val : Int)).intsShort 13) = true := by decide +kernel
  have := this ⟨n, by omega⟩
  rw [Bool.and_eq_true, decide_eq_true_eq] at this
  exact this
theorem tel_wgt {t : Tel} (h : OkT t) : (telD t).weight ≤ 64 := by
  have l1 : t.v.cps.size ≤ 8 := h.v.len.2
  have l2 : t.th.cps.size ≤ 8 := h.th.len.2
  have l3 : t.wo.cps.size ≤ 8 := h.wo.len.2
  have l4 : t.tl.cps.size ≤ 8 := h.tl.len.2
  have l5 : t.g.cps.size ≤ 8 := h.g.len.2
  have l6 : (PyData.int (t.age : Int)).weight ≤ 8 := (int_wgt h.age).1
  simp only [telD, PyData.weight, PyData.weightAll] at l6 ⊢
  omega
theorem tels_wgt : ∀ {ts : List Tel}, (∀ t ∈ ts, OkT t) → PyData.weightAll (ts.map telD) ≤ ts.length * 65
  | [], _ => by simp [PyData.weightAll]
  | t :: r, h => by
    have h1 := tel_wgt (h t List.mem_cons_self)
    have h2 := tels_wgt (ts := r) fun u hu => h u (List.mem_cons_of_mem _ hu)
    simp only [List.map_cons, PyData.weightAll, List.length_cons]
    omega
theorem tels_show : ∀ {ts : List Tel}, (∀ t ∈ ts, OkT t) → PyData.showableAll (ts.map telD) = true
  | [], _ => by simp [PyData.showableAll]
  | t :: r, h => by
    have h2 := tels_show (ts := r) fun u hu => h u (List.mem_cons_of_mem _ hu)
    have h1 := (h t List.mem_cons_self).age
    have h3 := Nat.log2_le_self t.age
    simp only [List.map_cons, PyData.showableAll, h2]
    simp [telD, PyData.showable, PyData.showableAll]
    omega
theorem tels_short : ∀ {ts : List Tel}, (∀ t ∈ ts, OkT t) → PyData.intsShortAll 13 (ts.map telD) = true
  | [], _ => by simp [PyData.intsShortAll]
  | t :: r, h => by
    have h1 := (int_wgt (h t List.mem_cons_self).age).2
    have h2 := tels_short (ts := r) fun u hu => h u (List.mem_cons_of_mem _ hu)
    simp only [List.map_cons, PyData.intsShortAll, h2, telD, PyData.intsShort] at h1 ⊢
    simp [h1]
theorem shows_tels {ts : List Tel} (hok : ∀ t ∈ ts, OkT t) (h20 : ts.length ≤ 20) : Shows (.list (ts.map telD)) := by
  have d := depth_tels ts
  have w := tels_wgt hok
  refine ⟨?_, ?_, ?_, ?_, ?_⟩
  · simpa [PyData.canLay0] using lay_tels hok
  · simp only [PyData.depth]
    omega
  · simp only [PyData.weight]
    omega
  · simpa [PyData.showable] using tels_show hok
  · simpa [PyData.intsShort] using tels_short hok
theorem shows_two {xs ys : List Str} (hx : ∀ z ∈ xs, IsWd z) (hy : ∀ z ∈ ys, IsWd z) (lx : xs.length ≤ 200) (ly : ys.length ≤ 200) : Shows (.tuple [.tuple (xs.map PyData.str), .tuple (ys.map PyData.str)]) := by
  have a := shows_strs hx lx
  have b := shows_strs hy ly
  have d1 : PyData.depth (.tuple (xs.map PyData.str)) ≤ 1 := by simp only [PyData.depth, depth_strs]; omega
  have d2 : PyData.depth (.tuple (ys.map PyData.str)) ≤ 1 := by simp only [PyData.depth, depth_strs]; omega
  have w1 := wgt_strs hx
  have w2 := wgt_strs hy
  refine ⟨?_, ?_, ?_, ?_, ?_⟩
  · show (PyData.canLay0 _ && (PyData.canLay0 _ && true)) = true
    rw [a.lay, b.lay]
    rfl
  · have e : PyData.depth (.tuple [.tuple (xs.map PyData.str), .tuple (ys.map PyData.str)]) = 1 + max (PyData.depth (.tuple (xs.map PyData.str))) (max (PyData.depth (.tuple (ys.map PyData.str))) 0) := by simp only [PyData.depth, PyData.depthAll]; omega
    omega
  · simp only [PyData.weight, PyData.weightAll]
    omega
  · show (PyData.showable _ && (PyData.showable _ && true)) = true
    rw [a.sh, b.sh]
    rfl
  · show (PyData.intsShort 13 _ && (PyData.intsShort 13 _ && true)) = true
    rw [a.ish, b.ish]
    rfl
end Wl

namespace Wl
open PySem PySem.Spec PyProof.Rows L2 LamX NdefX
section
variable {P : Program} {w : World} {K : PySem.W.Frag} {mg : Str → Option Value} {base : Heap} {f C D : Addr} {fd : FuncData}
def spLList : Sp := fun vs H Q _ => ∃ (l1 l2 : Addr) (b1 b2 : List Addr) (ts : List Tel), vs = [.ref l1, .ref l2] ∧ KeptAt H l1 b1 ts ∧ KeptAt H l2 b2 ts ∧ (∀ t ∈ ts, OkT t) ∧ ts.length ≤ 20 ∧ ∀ H', SameX l1 H H' → Q (.bl true) H'
abbrev psLList : List Str := ["_law_told", "_law_due"]
abbrev nLList : List Str := ["_law_told", "_law_due", "_law_good"]
theorem scLList : FnScope nLList psLList (defScope sLList) := ⟨rfl, rfl, rfl, by decide +kernel, rfl, by decide +kernel, by decide +kernel⟩
theorem ok_llist (F : Fun K "_law_list" "_law_list" sLList f fd) (B : Bi mg) (hrep : mg "repr" = none) : FnOkG P w K mg base 1 f fd psLList spLList := by
  refine okG F scLList (fun vs H Q E h => ?_) (fun cdv A outer s H vs Q E hgd hr h => ?_)
  · obtain ⟨l1, l2, b1, b2, ts, rfl, _⟩ := h
    rfl
  · obtain ⟨l1, l2, b1, b2, ts, rfl, k1, k2, hok, h20, q⟩ := h
    have hgd' : (A.deeper (envOfC "_law_list" (defScope sLList) s.heap.objs.size f cdv)).guards = some [] := hgd
    refine ⟨_, pss_cons (ps_set (i := 2) scLList.nd rfl (.inl rfl) (pe_and (pe_callB call_isi (by rfl) B.isi (by decide +kernel) (pa_cons (pv 0) (pa_cons (pe_bltn (v := .ty "list") (by rfl) B.list (by decide +kernel) rfl) pa_nil))) (pe_one (pe_cmpR op_eq (pe_callB (cr_reprD hgd' hr.units) (by rfl) hrep (by decide +kernel) (pa_cons (pv 0) pa_nil)) (pe_callB (cr_reprD hgd' hr.units) (by rfl) hrep (by decide +kernel) (pa_cons (pv 1) pa_nil)) (nomark _)))))
      (pss_cons (ps_expr (pe_bm PySem.F.plainAttrs_list PySem.F.slot_list_append PySem.F.type_list_append mt_append (pv 0) (pa_cons pe_int pa_nil)))
      (pss_cons (ps_expr (pe_bm0 PySem.F.plainAttrs_list PySem.F.slot_list_reverse PySem.F.type_list_reverse mt_reverse (pv 0)))
      (pss_one (ps_ret (pv 2))))), ?_⟩
    have sh := shows_tels hok h20
    have lb := k1.tels.length
    refine ⟨_, rfl, _, _, _, _, _, rfl, .ty "list", .base (.lst k1.at_), kit_ty (r := true) (by decide +kernel), true, rfl, iteT ?_⟩
    refine ⟨_, rfl, l1, _, rfl, .lst (.inl (.inl k1.at_)) (dp_tels k1.tels), sh, ?_⟩
    refine ⟨_, rfl, l2, _, rfl, .lst (.inl (.inl k2.at_)) (dp_tels k2.tels), sh, rfl, ?_⟩
    rw [decide_eq_true rfl]
    refine ⟨_, rfl, .inl ⟨rfl, _, .inl (.inl k1.at_)⟩, l1, _, _, rfl, rfl, k1.at_, ?_, ?_⟩
    · rw [List.length_map]
      exact small1000 (by omega)
    have x1 : SameX l1 H (upd H l1 (.lst (b1.map V.ref ++ [V.int 0]))) := sameX_upd
    have h1 : upd H l1 (.lst (b1.map V.ref ++ [V.int 0])) l1 = some (.lst (b1.map V.ref ++ [V.int 0])) := upd_same
    generalize upd H l1 (.lst (b1.map V.ref ++ [V.int 0])) = H1 at x1 h1
    refine ⟨_, rfl, .inl ⟨rfl, _, .inl (.inl h1)⟩, l1, _, rfl, rfl, h1, ?_⟩
    exact ⟨_, rfl, q _ (x1.trans sameX_upd)⟩
end
end Wl

namespace Wl
open PySem PySem.Spec PyProof.Rows L2 LamX NdefX
theorem fit_by {enc : Tel → PyData} (al : ∀ t u, PySem.W.alike (enc t) (enc u) = true) (sb : (∀ t, ∃ x r, enc t = .tuple (x :: r)) ∨ ∀ t, enc t ≠ .none ∧ ∀ xs, enc t ≠ .tuple xs) (nn : ∀ t, enc t ≠ .none) (dp : ∀ t, (enc t).depth ≤ 8) (ts : List Tel) : KeyFit ts enc := by
  refine ⟨⟨fun d hd d' hd' => ?_, ?_, fun t _ => dp t⟩, nn, dp⟩
  · obtain ⟨t, _, rfl⟩ := List.mem_map.mp hd
    obtain ⟨u, _, rfl⟩ := List.mem_map.mp hd'
    exact al t u
  · rcases sb with sb | sb
    · refine .inl fun d hd => ?_
      obtain ⟨t, _, rfl⟩ := List.mem_map.mp hd
      exact sb t
    · refine .inr fun d hd => ?_
      obtain ⟨t, _, rfl⟩ := List.mem_map.mp hd
      exact sb t
theorem key_fit {enc : Tel → PyData} (h : enc ∈ encL) (ts : List Tel) : KeyFit ts enc := by
  simp only [encL, List.mem_cons, List.not_mem_nil, or_false] at h
  rcases h with rfl | rfl | rfl | rfl | rfl | rfl | rfl
  · exact fit_by (fun _ _ => rfl) (.inr fun t => ⟨fun z => (by cases z), fun xs z => (by cases z)⟩) (fun t z => (by cases z)) (fun t => by simp [eAge, PyData.depth]) ts
  · exact fit_by (fun _ _ => rfl) (.inl fun t => ⟨_, _, rfl⟩) (fun t z => (by cases z)) (fun t => by simp [eSpelt, PyData.depth, PyData.depthAll]) ts
  · exact fit_by (fun _ _ => rfl) (.inr fun t => ⟨fun z => (by cases z), fun xs z => (by cases z)⟩) (fun t z => (by cases z)) (fun t => by simp [eZero, PyData.depth]) ts
  · exact fit_by (fun _ _ => rfl) (.inr fun t => ⟨fun z => (by cases z), fun xs z => (by cases z)⟩) (fun t z => (by cases z)) (fun t => by simp [eVill, PyData.depth]) ts
  · exact fit_by (fun _ _ => rfl) (.inl fun t => ⟨_, _, rfl⟩) (fun t z => (by cases z)) (fun t => by simp [eSure, PyData.depth, PyData.depthAll]) ts
  · exact fit_by (fun _ _ => rfl) (.inr fun t => ⟨fun z => (by cases z), fun xs z => (by cases z)⟩) (fun t z => (by cases z)) (fun t => by simp [eBoth, PyData.depth]) ts
  · exact fit_by (fun _ _ => rfl) (.inl fun t => ⟨_, _, rfl⟩) (fun t z => (by cases z)) (fun t => by simp [telD, PyData.depth, PyData.depthAll]) ts
/-- all stays, and what is new was not there -/
structure Ri (T : List (Addr × Str)) (H0 H : Hp) : Prop where
  ext : ExtN H0 H
  mono : ∀ b, H b = none → H0 b = none
  tabs : Tabs T H
section
variable {T : List (Addr × Str)} {H0 H H1 : Hp} {l : Addr} {xs : List V}
theorem Ri.refl (tb : Tabs T H) : Ri T H H := ⟨fun _ _ e _ => e, fun _ e => e, tb⟩
theorem Ri.go (R : Ri T H0 H) (ex : ExtN H H1) (ml : ∀ b, H1 b = none → H b = none) (tb : Tabs T H1) : Ri T H0 H1 := ⟨R.ext.trans ex, fun b e => R.mono b (ml b e), tb⟩
theorem Ri.same (R : Ri T H0 H) (s : Same H H1) : Ri T H0 H1 := R.go (fun b o e _ => s b o e) (fun b e => s.free e) (tabs_same R.tabs s)
theorem Ri.spoil (R : Ri T H0 H) (hl : H l = some (.lst xs)) (n0 : H0 l = none) (x : SameX l H H1) : Ri T H0 H1 := by
  refine ⟨fun b o e n => x b o (ne_of_none e n0) (R.ext b o e n), fun b e => ?_, tabs_mv R.tabs fun b o z e => x b o (fun w => by rw [w, hl] at e; exact z _ (Option.some.inj e).symm) e⟩
  by_cases hb : b = l
  · rw [hb]
    exact n0
  · refine R.mono b ?_
    cases q : H b with
    | none => rfl
    | some o =>
      rw [x b o hb q] at e
      cases e
theorem Ri.lst (R : Ri T H0 H) (e : H0 l = some (.lst xs)) : H l = some (.lst xs) := R.ext _ _ e fun ps z => (by cases z)
theorem Ri.tk (R : Ri T H0 H) : TupKeep H0 H := fun b xs e => R.ext _ _ e fun ps z => (by cases z)
theorem Ri.kept (R : Ri T H0 H) {kp : Addr} {bs : List Addr} {ts : List Tel} (h : KeptAt H0 kp bs ts) : KeptAt H kp bs ts := ⟨R.lst h.at_, h.tels.keep R.tk⟩
theorem Ri.gat (R : Ri T H0 H) {C D p : Addr} {r : GR} (h : GatAt C D H0 p r) : GatAt C D H p r := h.keep (fun b o z e => R.ext b o e z.2) (R.lst h.told) (R.lst h.deeds)
end
end Wl

namespace Wl
open PySem PySem.Spec PyProof.Rows L2 LamX NdefX
abbrev sRight : Stmt := topS 60
section
variable {P : Program} {w : World} {K : PySem.W.Frag} {mg : Str → Option Value} {base : Heap} {f C D : Addr} {fd : FuncData}
/-- tellings, both ways -/
def HasTB (P : Program) (w : World) (K : PySem.W.Frag) (mg : Str → Option Value) (base : Heap) (T : List (Addr × Str)) (k : Nat) (C D : Addr) : Prop := ∃ f fd, FnOk P w K mg base CX0 (k + 4) f fd ["self", "keying"] (spTellBy P w K mg base T k C D) ∧ Meth K D "tellings" f ∧ FunT K f fd
def HasTh (P : Program) (w : World) (K : PySem.W.Frag) (mg : Str → Option Value) (base : Heap) (C D : Addr) : Prop := ∃ f fd, FnOk P w K mg base CX0 2 f fd ["self", "ask"] (spThose P w K mg base 1 C D) ∧ Meth K D "those" f ∧ Binds K fd ["self", "ask"] [] ∧ KBn K fd ["self", "ask"] 1 ["ask"] g2 g2
theorem tell_b0 (F : FunT K f fd) : Binds K fd ["self", "keying"] [] := by
  obtain ⟨ds, h1, h2⟩ := F.binds1 (ps := ["self", "keying"]) 2 1 (by simp) rfl (fun T kV doc pm an cdv ct us its l1 l2 => by
      match us, its, l1, l2 with
      | [_, _], [_], _, _ => exact ⟨_, rfl, rfl⟩)
  cases h1
  exact h2
theorem those_k (F : Fun K "those" "Gathering.those" sGThose f fd) : KBn K fd ["self", "ask"] 1 ["ask"] g2 g2 := by
  obtain ⟨oc, od, kV, doc, pm, an, cdv, ct, osl, rfl, l, c⟩ := F.ex
  refine ⟨fun s us ws _ h1 h2 => ?_, g2_rel⟩
  match us, ws, h1, h2 with
  | [a], [b], _, _ => exact .of_eq rfl
def spRight (T : List (Addr × Str)) (C D : Addr) : Sp := fun vs H Q _ => ∃ (p kp rp : Addr) (r : GR) (bs : List Addr) (t0 : Tel), vs = [.ref p, .ref kp, .ref rp] ∧ GatAt C D H p r ∧ KeptAt H kp bs r.ts ∧ (∀ t ∈ r.ts, OkT t) ∧ r.ts.length ≤ 20 ∧ H rp = some (.tup (telV t0)) ∧ OkT t0 ∧ Tabs T H ∧
  ∀ (H' : Hp), Ri T H H' → Q (.bl true) H'
abbrev psRight : List Str := ["_law_basket_here", "_law_kept", "_law_row_here"]
abbrev nRight : List Str := ["_law_basket_here", "_law_kept", "_law_row_here", "_law_deed", "_law_due", "_law_things", "_law_hands", "_law_old"]
theorem scRight : FnScope nRight psRight (defScope sRight) := ⟨rfl, rfl, rfl, by decide +kernel, rfl, by decide +kernel, by decide +kernel⟩
theorem ok_right {T : List (Addr × Str)} (F : Fun K "_law_right" "_law_right" sRight f fd) (B : Bi mg) (hrep : mg "repr" = none) (hset : mg "set" = none) (TG : TxtG K mg D) (hTl : HasTl P w K mg base C D) (hTB : HasTB P w K mg base T 1 C D) (hTo : HasTh P w K mg base C D)
    (hTh : HasM P w K mg base D "things" 1 ["self"] (spThings C D)) (hGa : HasM P w K mg base D "gatherers" 1 ["self"] (spGathers C D)) (hKeys : Has P w K mg base "_law_keys" 1 [] (spKeys P w mg base T K)) (hAsks : Has P w K mg base "_law_asks" 1 ["_law_row_here"] (spAsks P w mg base T K))
    (hBy : Has P w K mg base "_law_by" 2 ["_law_kept", "_law_deed"] (spBy P w mg base K)) (hLL : HasQ P w K mg base "_law_list" 1 psLList spLList) : FnOkG P w K mg base 6 f fd psRight (spRight T C D) := by
  obtain ⟨fT, fdT, FT, mT, fnT⟩ := hTl
  obtain ⟨dsT, vT, bT⟩ := tell_b1 fnT
  have bT0 := tell_b0 fnT
  obtain ⟨fU, fdU, FU, mU, fnU⟩ := hTB
  have bU := tell_b0 fnU
  obtain ⟨iU, kU⟩ := tell_b2 fnU
  obtain ⟨fO, fdO, FO, mO, bO, kO⟩ := hTo
  refine okG F scRight (fun vs H Q E h => ?_) (fun cdv A outer s H vs Q E hgd hr h => ?_)
  · obtain ⟨p, kp, rp, r, bs, t0, rfl, _⟩ := h
    rfl
  · obtain ⟨p, kp, rp, r, bs, t0, rfl, hG, hk, hok, h20, hrp, ok0, tb, q⟩ := h
    have hgd' : (A.deeper (envOfC "_law_right" (defScope sRight) s.heap.objs.size f cdv)).guards = some [] := hgd
    refine ⟨_, pss_cons (ps_for PassesOwn.never rfl (pi_list (pe_h0 hKeys hr)) (pg_name (i := 3) scRight.nd rfl (.inr rfl))
        (pss_cons (ps_set (i := 4) scRight.nd rfl (.inl rfl) (pe_h hBy hr (pa_cons (pv 1) (pa_cons (pv 3) pa_nil))))
        (pss_one (ps_if (PW.pt (pw_or (pt_not (pt_val (pe_hQ hLL hgd' hr (pa_cons (pe_meth (pv 0) TG.cl mU FU (hr.mono (by decide)) bU .nil pass0 (pa_cons (pv 3) pa_nil)) (pa_cons (pv 4) pa_nil))))) (pw_or1 (pt_not (pt_val (pe_hQ hLL hgd' hr (pa_cons (pe_methN0 (pv 0) TG.cl mU FU (hr.mono (by decide)) kU pass0 (pk_cons (pv 3) pk_nil)) (pa_cons (pv 4) pa_nil)))))))) (pss_one (ps_ret pe_bl)) pss_nil))))
      (pss_cons (ps_for PassesOwn.never rfl (pi_list (pe_h hAsks hr (pa_cons (pv 2) pa_nil))) (pg_name (i := 3) scRight.nd rfl (.inr rfl))
        (pss_cons (ps_setLc (i := 4) (own := [("_law_old", 7)]) (g := gName 7) (tt := tB (tCallV P w K mg base 1 3 (tCons (tVar 7) tNil))) (te := tVar 7) rfl scRight.nd rfl rfl (sw_true rfl rfl rfl (by decide +kernel)) (pi_list (pv 1)) (blkOk_by (N := nRight) (sc := defScope sRight) (by decide +kernel)) (fun _ _ _ _ _ => pg_name (i := 7) scRight.nd rfl (.inl rfl))
          (fun _ _ _ _ _ => pts_one (pt_val (pe_callV (k := 1) (j := 5) (i := 3) hr rfl (by first | exact .inl rfl | exact .inr (.inl rfl) | exact .inr (.inr rfl)) (pa_cons (pv 7) pa_nil) (by decide)))) (fun _ _ _ _ _ => pv 7))
        (pss_one (ps_if (PW.pt (pw_or (pt_not (pt_val (pe_hQ hLL hgd' hr (pa_cons (pe_meth (pv 0) TG.cl mO FO (hr.mono (by decide)) bO .nil pass0 (pa_cons (pv 3) pa_nil)) (pa_cons (pv 4) pa_nil))))) (pw_or1 (pt_not (pt_val (pe_hQ hLL hgd' hr (pa_cons (pe_methN0 (pv 0) TG.cl mO FO (hr.mono (by decide)) kO pass0 (pk_cons (pv 3) pk_nil)) (pa_cons (pv 4) pa_nil)))))))) (pss_one (ps_ret pe_bl)) pss_nil))))
      (pss_cons (ps_if (PW.pt (pw_or (pt_not (pt_val (pe_hQ hLL hgd' hr (pa_cons (pe_meth (pv 0) TG.cl mT FT (hr.mono (by decide)) bT0 .nil pass0 (pa_cons pe_non pa_nil)) (pa_cons (pv 1) pa_nil))))) (pw_or1 (pt_not (pt_val (pe_hQ hLL hgd' hr (pa_cons (pe_meth0 (pv 0) TG.cl mT FT (hr.mono (by decide)) bT vT pass0) (pa_cons (pv 1) pa_nil)))))))) (pss_one (ps_ret pe_bl)) pss_nil)
      (pss_cons (ps_par (i := 5) (j := 6) (by rfl) scRight.nd rfl rfl (by decide) rfl rfl (pa_cons (pe_callB (cr_sortX rfl hr.units) (by rfl) B.sorted (by decide +kernel) (pa_cons (pe_callTy (cr_setX rfl) (by rfl) hset (by decide +kernel) (pa_cons (pe_lc (own := [("_law_old", 7)]) (g := gName 7) (tt := tYes) (te := tOp (rIxT K) (tVar 7) (tC (.int 1))) rfl scRight.nd (pi_list (pv 1)) (blkOk_by (N := nRight) (sc := defScope sRight) (by decide +kernel)) (fun _ _ _ _ _ => pg_name (i := 7) scRight.nd rfl (.inl rfl)) (fun _ _ _ _ _ => pts_nil) (fun _ _ _ _ _ => pe_ix ix_tup (pv 7) pe_int (fun _ _ => rfl))) pa_nil)) pa_nil)) (pa_cons (pe_callB (cr_sortX rfl hr.units) (by rfl) B.sorted (by decide +kernel) (pa_cons (pe_callTy (cr_setX rfl) (by rfl) hset (by decide +kernel) (pa_cons (pe_lc (own := [("_law_old", 7)]) (g := gName 7) (tt := tYes) (te := tOp (rIxT K) (tVar 7) (tC (.int 5))) rfl scRight.nd (pi_list (pv 1)) (blkOk_by (N := nRight) (sc := defScope sRight) (by decide +kernel)) (fun _ _ _ _ _ => pg_name (i := 7) scRight.nd rfl (.inl rfl)) (fun _ _ _ _ _ => pts_nil) (fun _ _ _ _ _ => pe_ix ix_tup (pv 7) pe_int (fun _ _ => rfl))) pa_nil)) pa_nil)) pa_nil)) (by rfl))
      (pss_one (ps_ret (pe_cmpR op_eq (pe_callB (cr_reprD hgd' hr.units) (by rfl) hrep (by decide +kernel) (pa_cons (pe_tup (pa_cons (pe_hm0 hTh TG.cl hr (pv 0)) (pa_cons (pe_hm0 hGa TG.cl hr (pv 0)) pa_nil))) pa_nil))
        (pe_callB (cr_reprD hgd' hr.units) (by rfl) hrep (by decide +kernel) (pa_cons (pe_tup (pa_cons (pe_callTy call_tuple_of (by rfl) B.tuple (by decide +kernel) (pa_cons (pv 5) pa_nil)) (pa_cons (pe_callTy call_tuple_of (by rfl) B.tuple (by decide +kernel) (pa_cons (pv 6) pa_nil)) pa_nil))) pa_nil)) (nomark _))))))), ?_⟩
    have lb : bs.length = r.ts.length := hk.tels.length
    have la : r.as.length = r.ts.length := hG.tels.length
    refine ⟨rfl, tb, fun lK fs H1 ex1 ml1 tb1 nlK hlK hfs => ?_⟩
    have R1 : Ri T H H1 := (Ri.refl tb).go ex1 ml1 tb1
    refine ⟨lK, rfl, ⟨_, .inl (.inl hlK)⟩, for_list (K := K) (a := lK) (xs := fs.map V.ref) (fun i σ H' => (∃ y3 y4, σ = [some (.ref p), some (.ref kp), some (.ref rp), y3, y4, none, none, none]) ∧ Ri T H H' ∧ Ri T H1 H')
      ⟨⟨_, _, rfl⟩, R1, Ri.refl tb1⟩ (fun i σ H' _ h => .inl (.inl (h.2.2.lst hlK))) ?_ ?_⟩
    · rintro i x σ H2 hx ⟨⟨y3, y4, rfl⟩, R2, S2⟩
      rw [List.getElem?_map] at hx
      obtain ⟨fk, hfk, rfl⟩ := Option.map_eq_some_iff.mp hx
      obtain ⟨sp, hsp, fv⟩ := Each.get hfs hfk
      rw [List.getElem?_map] at hsp
      obtain ⟨enc, henc, rfl⟩ := Option.map_eq_some_iff.mp hsp
      have kf := key_fit (List.mem_of_getElem? henc) r.ts
      have fv2 := fv.ext S2.ext
      have so : ∀ t ∈ sortE enc r.ts, OkT t := fun t ht => hok t ((sortE_ind r.ts).mem_iff.mp ht)
      have sl : (sortE enc r.ts).length ≤ 20 := by rw [(sortE_ind (enc := enc) r.ts).length_eq]; exact h20
      have kd : ∀ H, KeyDoes K H (spKeyX K enc) r.ts enc := fun H t ht a H1 e ha Q q => ⟨a, t, rfl, ha, hok t ht, q⟩
      refine ⟨_, rfl, _, rfl, kp, fk, bs, r.ts, enc, rfl, R2.kept hk, hok, by omega, fv2, kf, fun l2 b2 H3 s3 nl2 hk3 => ?_⟩
      have R3 := R2.same s3
      have S3 := S2.same s3
      have hG3 := R3.gat hG
      obtain ⟨dx3, hp3⟩ := hG3.at_
      refine ⟨_, rfl, p, dx3, _, rfl, hp3, gf_no _ _ _, _, rfl, p, fk, r, _, enc, rfl, hG3, R3.tabs, fv.ext S3.ext, kd _, kf.ok, fun l1 b1 H4 ex4 ml4 tb4 nl1 ht4 => ?_⟩
      have R4 := R3.go ex4 ml4 tb4
      have S4 := S3.go ex4 ml4 tb4
      have s5 := same_new (o := .lst (b1.map V.ref)) nl1
      have hl5 : upd H4 l1 (.lst (b1.map V.ref)) l1 = some (.lst (b1.map V.ref)) := upd_same
      have ht5 : TelsAt (upd H4 l1 (.lst (b1.map V.ref))) b1 (sortE enc r.ts) := ht4.keep (tk_same s5)
      have R5 := R4.same s5
      have S5 := S4.same s5
      have hk5 : KeptAt (upd H4 l1 (.lst (b1.map V.ref))) l2 b2 (sortE enc r.ts) := ⟨s5 _ _ (ex4 _ _ hk3.at_ fun ps z => (by cases z)), hk3.tels.keep fun b xs e => s5 _ _ (ex4 _ _ e fun ps z => (by cases z))⟩
      have n1 : H l1 = none := R4.mono _ nl1
      have n1' : H1 l1 = none := S4.mono _ nl1
      have n12 : l2 ≠ l1 := ne_of_none hk3.at_ (ml4 _ nl1)
      generalize upd H4 l1 (.lst (b1.map V.ref)) = H5 at s5 hl5 ht5 R5 S5 hk5
      refine ⟨_, rfl, l1, l2, b1, b2, sortE enc r.ts, rfl, ⟨hl5, ht5⟩, hk5, so, sl, fun H6 x6 => ⟨true, rfl, iteF ?_⟩⟩
      have R6 := R5.spoil hl5 n1 x6
      have S6 := S5.spoil hl5 n1' x6
      have tk6 := tk_x x6 hl5
      have hk6 : KeptAt H6 l2 b2 (sortE enc r.ts) := ⟨x6 _ _ n12 hk5.at_, hk5.tels.keep tk6⟩
      have hG6 := R6.gat hG
      obtain ⟨dx6, hp6⟩ := hG6.at_
      refine ⟨_, rfl, p, dx6, _, rfl, hp6, gf_no _ _ _, _, rfl, rfl, rfl, p, fk, r, _, enc, rfl, hG6, R6.tabs, fv.ext S6.ext, kd _, kf.ok, fun l3 b3 H7 ex7 ml7 tb7 nl3 ht7 => ?_⟩
      have R7 := R6.go ex7 ml7 tb7
      have S7 := S6.go ex7 ml7 tb7
      have s8 := same_new (o := .lst (b3.map V.ref)) nl3
      have hl8 : upd H7 l3 (.lst (b3.map V.ref)) l3 = some (.lst (b3.map V.ref)) := upd_same
      have ht8 : TelsAt (upd H7 l3 (.lst (b3.map V.ref))) b3 (sortE enc r.ts) := ht7.keep (tk_same s8)
      have R8 := R7.same s8
      have S8 := S7.same s8
      have hk8 : KeptAt (upd H7 l3 (.lst (b3.map V.ref))) l2 b2 (sortE enc r.ts) := ⟨s8 _ _ (ex7 _ _ hk6.at_ fun ps z => (by cases z)), hk6.tels.keep fun b xs e => s8 _ _ (ex7 _ _ e fun ps z => (by cases z))⟩
      have n3 : H l3 = none := R7.mono _ nl3
      have n3' : H1 l3 = none := S7.mono _ nl3
      generalize upd H7 l3 (.lst (b3.map V.ref)) = H8 at s8 hl8 ht8 R8 S8 hk8
      exact ⟨_, rfl, l3, l2, b3, b2, sortE enc r.ts, rfl, ⟨hl8, ht8⟩, hk8, so, sl, fun H9 x9 => ⟨true, rfl, iteF ⟨⟨_, _, rfl⟩, R8.spoil hl8 n3 x9, S8.spoil hl8 n3' x9⟩⟩⟩
    rintro σ H2 ⟨⟨y3, y4, rfl⟩, R2, _⟩
    clear R1 ex1 ml1 tb1 nlK hlK hfs
    -- the asks
    refine ⟨_, rfl, rp, t0, rfl, R2.tk _ _ hrp, ok0, R2.tabs, fun lA fs' H3 ex3 ml3 tb3 nlA hlA hfs => ?_⟩
    have R3 := R2.go ex3 ml3 tb3
    refine ⟨lA, rfl, ⟨_, .inl (.inl hlA)⟩, for_list (K := K) (a := lA) (xs := fs'.map V.ref) (fun i σ H' => (∃ y3 y4, σ = [some (.ref p), some (.ref kp), some (.ref rp), y3, y4, none, none, none]) ∧ Ri T H H' ∧ Ri T H3 H')
      ⟨⟨_, _, rfl⟩, R3, Ri.refl tb3⟩ (fun i σ H' _ h => .inl (.inl (h.2.2.lst hlA))) ?_ ?_⟩
    · rintro i x σ H4 hx ⟨⟨y3, y4, rfl⟩, R4, S4⟩
      rw [List.getElem?_map] at hx
      obtain ⟨fk, hfk, rfl⟩ := Option.map_eq_some_iff.mp hx
      obtain ⟨sp, hsp, fv⟩ := Each.get hfs hfk
      rw [List.getElem?_map] at hsp
      obtain ⟨pr, hpr, rfl⟩ := Option.map_eq_some_iff.mp hsp
      have so : ∀ t ∈ r.ts.filter pr, OkT t := fun t ht => hok t (List.mem_filter.mp ht).1
      have sl : (r.ts.filter pr).length ≤ 20 := Nat.le_trans (List.length_filter_le _ _) h20
      have ad : ∀ H, AskDoes H (spAskX pr) r.ts pr := fun H t ht a H1 s ha Q q => ⟨a, t, rfl, ha, hok t ht, q H1 (Same.refl _)⟩
      have hk4 := R4.kept hk
      refine ⟨_, rfl, kp, rfl, ⟨_, .inl (.inl hk4.at_)⟩, fun Dd nDd => pick_telsX hk4.at_ hk4.tels nDd pr (by omega) (fun _ => rfl) (fun pt t H5 htm hpt s5 Q' q' => ?_) (fun x H Q q => ⟨_, rfl, q⟩) fun b2 H5 s5 hD5 hb5 => ?_⟩
      · have fv5 := fv.ext ((S4.same s5).ext)
        exact ⟨fk, rfl, ⟨_, fv5⟩, _, rfl, _, fv5, pt, t, rfl, hpt, hok t htm, _, rfl, q' H5 (Same.refl _)⟩
      have R5 := R4.same s5
      have S5 := S4.same s5
      have hG5 := R5.gat hG
      obtain ⟨dx5, hp5⟩ := hG5.at_
      refine ⟨_, rfl, p, dx5, _, rfl, hp5, gf_no _ _ _, _, rfl, p, fk, r, _, pr, rfl, hG5, by omega, fv.ext S5.ext, ad _, fun l1 b1 H6 nl1 s6 hl6 hb6 => ?_⟩
      have R6 := R5.same s6
      have S6 := S5.same s6
      have n1 : H l1 = none := R5.mono _ nl1
      have n1' : H3 l1 = none := S5.mono _ nl1
      have n12 : Dd ≠ l1 := ne_of_none hD5 nl1
      refine ⟨_, rfl, l1, Dd, b1, b2, r.ts.filter pr, rfl, ⟨hl6, hb6⟩, ⟨s6 _ _ hD5, hb5.keep (tk_same s6)⟩, so, sl, fun H7 x7 => ⟨true, rfl, iteF ?_⟩⟩
      have R7 := R6.spoil hl6 n1 x7
      have S7 := S6.spoil hl6 n1' x7
      have tk7 := tk_x x7 hl6
      have hG7 := R7.gat hG
      obtain ⟨dx7, hp7⟩ := hG7.at_
      have hD7 := x7 _ _ n12 (s6 _ _ hD5)
      have hb7 := (hb5.keep (tk_same s6)).keep tk7
      refine ⟨_, rfl, p, dx7, _, rfl, hp7, gf_no _ _ _, _, rfl, rfl, rfl, p, fk, r, _, pr, rfl, hG7, by omega, fv.ext S7.ext, ad _, fun l3 b3 H8 nl3 s8 hl8 hb8 => ?_⟩
      have n3 : H l3 = none := R7.mono _ nl3
      have n3' : H3 l3 = none := S7.mono _ nl3
      exact ⟨_, rfl, l3, Dd, b3, b2, r.ts.filter pr, rfl, ⟨hl8, hb8⟩, ⟨s8 _ _ hD7, hb7.keep (tk_same s8)⟩, so, sl, fun H9 x9 => ⟨true, rfl, iteF ⟨⟨_, _, rfl⟩, (R7.same s8).spoil hl8 n3 x9, (S7.same s8).spoil hl8 n3' x9⟩⟩⟩
    rintro σ H4 ⟨⟨y3', y4', rfl⟩, R4, _⟩
    clear R3 ex3 ml3 tb3 nlA hlA hfs R2
    -- as put in
    have hG4 := R4.gat hG
    obtain ⟨dx4, hp4⟩ := hG4.at_
    have hk4 := R4.kept hk
    refine ⟨_, rfl, p, dx4, _, rfl, hp4, gf_no _ _ _, p, r, rfl, hG4, fun l1 nl1 => ?_⟩
    have s5 := same_new (o := .lst (r.as.map V.ref)) nl1
    have hl5 : upd H4 l1 (.lst (r.as.map V.ref)) l1 = some (.lst (r.as.map V.ref)) := upd_same
    generalize upd H4 l1 (.lst (r.as.map V.ref)) = H5 at s5 hl5
    have R5 := R4.same s5
    refine ⟨_, rfl, l1, kp, r.as, bs, r.ts, rfl, ⟨hl5, (R5.gat hG).tels⟩, R5.kept hk, hok, h20, fun H6 x6 => ⟨true, rfl, iteF ?_⟩⟩
    have R6 := R5.spoil hl5 (R4.mono _ nl1) x6
    have hG6 := R6.gat hG
    obtain ⟨dx6, hp6⟩ := hG6.at_
    refine ⟨_, rfl, p, dx6, _, rfl, hp6, gf_no _ _ _, p, r, rfl, hG6, fun l2 nl2 => ?_⟩
    have s7 := same_new (o := .lst (r.as.map V.ref)) nl2
    have hl7 : upd H6 l2 (.lst (r.as.map V.ref)) l2 = some (.lst (r.as.map V.ref)) := upd_same
    generalize upd H6 l2 (.lst (r.as.map V.ref)) = H7 at s7 hl7
    have R7 := R6.same s7
    refine ⟨_, rfl, l2, kp, r.as, bs, r.ts, rfl, ⟨hl7, (R7.gat hG).tels⟩, R7.kept hk, hok, h20, fun H5 x8 => ⟨true, rfl, iteF ?_⟩⟩
    have R5 := R7.spoil hl7 (R6.mono _ nl2) x8
    have hG := R5.gat hG
    have hk := R5.kept hk
    have hk5 := hk.at_
    have ht5 := hk.tels
    obtain ⟨dx, hp⟩ := hG.at_
    have s35 : Same H5 H5 := Same.refl _
    refine ⟨_, rfl, kp, rfl, ⟨_, .inl (.inl hk5)⟩, fun D1 hD1 => ?_⟩
    refine lc_map (walk_list (K := K) (a := kp) (xs := bs.map V.ref)) hD1 (fun _ => true) (fun x => .str (telBy H5 (·.th) x)) (fun H' s' => .inl (.inl (s' _ _ hk5))) (fun _ => rfl) (fun x H' _ _ Q' q' => q') ?_ (by rw [List.length_map]; exact small1000 (by omega)) ?_
    · intro x H' hx _ s' Q' q'
      obtain ⟨pt, hpt, rfl⟩ := List.mem_map.mp hx
      obtain ⟨j, hj, ej⟩ := List.mem_iff_getElem.mp hpt
      obtain ⟨t, ht, hH⟩ := Each.get ht5 (i := j) (a := pt) (by rw [List.getElem?_eq_getElem hj, ej])
      rw [telBy_at hH] at q'
      exact ⟨_, rfl, pt, _, _, _, rfl, rfl, .inl (.inl (s' _ _ hH)), atI_nat (j := 1) rfl, q'⟩
    intro H6 s6 hL6
    rw [List.filter_eq_self.mpr fun _ _ => rfl, tels_byV ht5] at hL6
    refine ⟨D1, r.ts.map (·.th), rfl, .inl (.inl hL6), by rw [List.length_map]; omega, fun sa sl hsa nd1 hm1 hl1' => ?_⟩
    have s7 := same_new (o := SetXO P w sa sl) hsa
    unfold tNil
    show rSortX P w [V.ref sa] (upd H6 sa (SetXO P w sa sl)) _
    have hsa7 : upd H6 sa (SetXO P w sa sl) sa = some (SetXO P w sa sl) := upd_same
    generalize upd H6 sa (SetXO P w sa sl) = H7 at s7 hsa7
    rw [List.length_map] at hl1'
    refine ⟨sa, sl, rfl, hsa7, by omega, fun l4 hl4 => ?_⟩
    have e1 : sortS sl = thingsOf r.ts := sortS_same nd1 (keysOf_nodup _) fun z => by rw [hm1, mem_keysOf]
    rw [e1]
    have s8 := same_new (o := .lst ((thingsOf r.ts).map V.str)) hl4
    have hl8 : upd H7 l4 (.lst ((thingsOf r.ts).map V.str)) l4 = some (.lst ((thingsOf r.ts).map V.str)) := upd_same
    generalize upd H7 l4 (.lst ((thingsOf r.ts).map V.str)) = H8 at s8 hl8
    have s38 := s35.trans (s6.trans (s7.trans s8))
    have hk8 := s38 _ _ hk.at_
    have ht8 := hk.tels.keep (tk_same s38)
    refine ⟨_, rfl, kp, rfl, ⟨_, .inl (.inl hk8)⟩, fun D2 hD2 => ?_⟩
    refine lc_map (walk_list (K := K) (a := kp) (xs := bs.map V.ref)) hD2 (fun _ => true) (fun x => .str (telBy H8 (·.g) x)) (fun H' s' => .inl (.inl (s' _ _ hk8))) (fun _ => rfl) (fun x H' _ _ Q' q' => q') ?_ (by rw [List.length_map]; exact small1000 (by omega)) ?_
    · intro x H' hx _ s' Q' q'
      obtain ⟨pt, hpt, rfl⟩ := List.mem_map.mp hx
      obtain ⟨j, hj, ej⟩ := List.mem_iff_getElem.mp hpt
      obtain ⟨t, ht, hH⟩ := Each.get ht8 (i := j) (a := pt) (by rw [List.getElem?_eq_getElem hj, ej])
      rw [telBy_at hH] at q'
      exact ⟨_, rfl, pt, _, _, _, rfl, rfl, .inl (.inl (s' _ _ hH)), atI_nat (j := 5) rfl, q'⟩
    intro H9 s9 hL9
    rw [List.filter_eq_self.mpr fun _ _ => rfl, tels_byV ht8] at hL9
    refine ⟨D2, r.ts.map (·.g), rfl, .inl (.inl hL9), by rw [List.length_map]; omega, fun sb sm hsb nd2 hm2 hl2' => ?_⟩
    have s10 := same_new (o := SetXO P w sb sm) hsb
    show rSortX P w [V.ref sb] (upd H9 sb (SetXO P w sb sm)) _
    have hsb10 : upd H9 sb (SetXO P w sb sm) sb = some (SetXO P w sb sm) := upd_same
    generalize upd H9 sb (SetXO P w sb sm) = H10 at s10 hsb10
    rw [List.length_map] at hl2'
    refine ⟨sb, sm, rfl, hsb10, by omega, fun l5 hl5 => ?_⟩
    have e2 : sortS sm = gathersOf r.ts := sortS_same nd2 (keysOf_nodup _) fun z => by rw [hm2, mem_keysOf]
    rw [e2]
    have s11 := same_new (o := .lst ((gathersOf r.ts).map V.str)) hl5
    have hl11 : upd H10 l5 (.lst ((gathersOf r.ts).map V.str)) l5 = some (.lst ((gathersOf r.ts).map V.str)) := upd_same
    generalize upd H10 l5 (.lst ((gathersOf r.ts).map V.str)) = H11 at s11 hl11
    have s811 := s9.trans (s10.trans s11)
    have hl4' := s811 _ _ hl8
    have s311 := s38.trans s811
    have hG11 := hG.same s311
    refine ⟨_, _, rfl, ?_⟩
    have dx11 := s311 _ _ hp
    refine ⟨_, rfl, p, dx, _, rfl, dx11, gf_no _ _ _, p, r, rfl, hG11, by omega, fun t1 H12 nt1 s12 ht12 => ?_⟩
    have hG12 := hG11.same s12
    refine ⟨_, rfl, p, dx, _, rfl, s12 _ _ dx11, gf_no _ _ _, p, r, rfl, hG12, by omega, fun t2 H13 nt2 s13 ht13 => ⟨lz, fun u1 hu1 => ?_⟩⟩
    have s14 := same_new (o := .tup [.ref t1, .ref t2]) hu1
    have wth : ∀ z ∈ thingsOf r.ts, IsWd z := fun z hz => by
      obtain ⟨t, ht, rfl⟩ := mem_things.mp hz
      exact (hok t ht).th
    have wga : ∀ z ∈ gathersOf r.ts, IsWd z := fun z hz => by
      obtain ⟨t, ht, rfl⟩ := mem_gathers.mp hz
      exact (hok t ht).g
    have sh2 := shows_two wth wga (by have := things_len r.ts; omega) (by have := gathers_len r.ts; omega)
    have d1 : Dp K (upd H13 u1 (.tup [.ref t1, .ref t2])) (.ref u1) (.tuple [.tuple ((thingsOf r.ts).map PyData.str), .tuple ((gathersOf r.ts).map PyData.str)]) := .tup (.inl (.inl upd_same)) (.cons (.tup (.inl (.inl (s14 _ _ (s13 _ _ ht12)))) (dp_strs _)) (.cons (.tup (.inl (.inl (s14 _ _ ht13))) (dp_strs _)) .nil))
    refine ⟨u1, _, rfl, d1, sh2, ?_⟩
    have s1114 := s12.trans (s13.trans s14)
    generalize upd H13 u1 (.tup [.ref t1, .ref t2]) = H14 at s1114
    refine ⟨_, rfl, l4, _, rfl, .inl ⟨.inl (.inl (s1114 _ _ hl4')), fun t3 ht3 => ?_⟩⟩
    have s15 := same_new (o := .tup ((thingsOf r.ts).map V.str)) ht3
    refine ⟨_, rfl, l5, _, rfl, .inl ⟨.inl (.inl (s15 _ _ (s1114 _ _ hl11))), fun t4 ht4 => ⟨lz, fun u2 hu2 => ?_⟩⟩⟩
    have s16 := same_new (o := .tup ((gathersOf r.ts).map V.str)) ht4
    have s17 := same_new (o := .tup [.ref t3, .ref t4]) hu2
    refine ⟨u2, _, rfl, .tup (.inl (.inl upd_same)) (.cons (.tup (.inl (.inl (s17 _ _ (s16 _ _ upd_same)))) (dp_strs _)) (.cons (.tup (.inl (.inl (s17 _ _ upd_same))) (dp_strs _)) .nil)), sh2, rfl, ?_⟩
    rw [decide_eq_true rfl]
    exact q _ (R5.same (s311.trans (s1114.trans (s15.trans (s16.trans s17)))))

end
end Wl

/-! xs.remove(y) of things told by data. -/
namespace Wl
open PySem PySem.Spec PyProof.Rows L2
def rRemD (K : PySem.W.Frag) : V → List V → Hp → VK → Prop := fun x xs H Q => ∃ (l : Addr) (vs : List V) (y : V) (ds : List PyData) (d : PyData) (j : Nat), x = .ref l ∧ xs = [y] ∧ H l = some (.lst vs) ∧ DpAll K H vs ds ∧ Dp K H y d ∧ PyData.plainAll ds = true ∧ d.plain = true ∧ d.depth ≤ 8 ∧ SeqAt.dataPlace ds d = some j ∧ Q .non (upd H l (.lst (vs.eraseIdx j)))
theorem map_eraseD {α β : Type} (f : α → β) : ∀ (l : List α) (j : Nat), (l.map f).eraseIdx j = (l.eraseIdx j).map f
  | [], j => by simp
  | a :: r, 0 => by simp
  | a :: r, j + 1 => by
    have ih := map_eraseD f r j
    simp [ih]
theorem mt_removeD {X : Cx} (hu : X.A.units + 64 < cLine) : MtM X "list.remove" (rRemD X.K) := by
  intro pins s σ H x xs v us Q I rx rxs h
  obtain ⟨l, vs, y, ds, d, j, rfl, rfl, hH, da, dy, pa, pd, dd, hp, q⟩ := h
  cases rx
  obtain ⟨u, rfl, ru⟩ := rxs.one
  obtain ⟨z, its, n, r, hl, e⟩ := I.lstM hH
  obtain ⟨as, r1⟩ := Dp.readsAll I ds vs its da r
  obtain ⟨bs, r2⟩ := Dp.reads I d y u dy ru
  have hsz : its.toArray.size ≤ sizeLine := by rw [List.size_toArray, ← hl]; exact z
  refine PySem.SeqAt.remove_list_data (vs := its.toArray) ⟨_, e, rfl, n, rfl⟩ r1 r2 pa pd (by omega) hp hsz ?_
  have rr := r.eraseIdx j
  refine ⟨.non, _, I.lset (its' := its.eraseIdx j) (t' := s.toks) hH e ?_ rr ?_, rfl, q⟩
  · show its.toArray.eraseIdxIfInBounds j = (its.eraseIdx j).toArray
    rw [List.eraseIdxIfInBounds_toArray]
  · have := List.length_eraseIdx_le vs j
    omega
end Wl

namespace Wl
open PySem PySem.Spec PyProof.Rows L2 LamX NdefX
abbrev sLaw : Stmt := topS 61
abbrev nLaw : List Str := ["_law_script", "_law_k", "_law_purse_here", "_law_count", "_law_lots", "_law_pools_here", "_law_basket_here", "_law_kept", "_law_row_here", "_law_gone", "_law_old"]
theorem scLaw : FnScope nLaw ["_law_script"] (defScope sLaw) := ⟨rfl, rfl, rfl, by decide +kernel, rfl, by decide +kernel, by decide +kernel⟩
def spLaw (T : List (Addr × Str)) (K : PySem.W.Frag) : Sp := fun vs H Q _ => ∃ (a : Addr) (ns : List Int), vs = [.ref a] ∧ SqL K H a (ns.map V.int) ∧ ns.length ≤ 63 ∧ Tabs T H ∧ ∀ H', Q (.bl true) H'
theorem tabs_empty {T : List (Addr × Str)} {H : Hp} (h : ∀ p ∈ T, H p.1 = some (.tbl #[])) : Tabs T H := fun p hp => ⟨#[], h p hp, trivial, fun pos cv hc => by cases hc⟩
theorem at_once {l : List Tel} {i j : Nat} {o u : Tel} (nd : (l.map keyS).Nodup) (h : l[j]? = some o) (hu : l[i]? = some u) (e : keyS u = keyS o) : i = j := by
  obtain ⟨hj, ej⟩ := List.getElem?_eq_some_iff.mp h
  obtain ⟨hi, ei⟩ := List.getElem?_eq_some_iff.mp hu
  have e1 : (l.map keyS)[i]'(by rw [List.length_map]; exact hi) = (l.map keyS)[j]'(by rw [List.length_map]; exact hj) := by
    rw [List.getElem_map, List.getElem_map, ei, ej, e]
  exact (List.getElem_inj nd).mp e1
theorem find_atN {l : List Tel} {j : Nat} {o : Tel} (nd : (l.map keyS).Nodup) (h : l[j]? = some o) : (l.findIdx? fun u => decide (keyS u = keyS o)) = some j := by
  refine find_at h (decide_eq_true rfl) fun i y hi hy => decide_eq_false fun e => ?_
  exact absurd (at_once nd h hy e) (by omega)
theorem place_tel {l : List Tel} {j : Nat} {o : Tel} (nd : (l.map keyS).Nodup) (h : l[j]? = some o) : SeqAt.dataPlace (l.map telD) (telD o) = some j := by
  unfold SeqAt.dataPlace
  refine find_at (x := telD o) (by rw [List.getElem?_map, h]; rfl) (by rw [tel_eqv]; exact decide_eq_true rfl) fun i y hi hy => ?_
  rw [List.getElem?_map] at hy
  obtain ⟨u, hu, rfl⟩ := Option.map_eq_some_iff.mp hy
  rw [tel_eqv]
  refine decide_eq_false fun e => ?_
  exact absurd (at_once nd h hu (by rw [e])) (by omega)
theorem plain_tels : ∀ ts : List Tel, PyData.plainAll (ts.map telD) = true
  | [] => by simp [PyData.plainAll]
  | t :: ts => by
    have := plain_tels ts
    simp [PyData.plainAll, PyData.plain, telD, this]
/-- what stands in a turn of the law -/
structure SitL (g : Grid) (C D : Addr) (T : List (Addr × Str)) (H1 H : Hp) (a p kp : Addr) (r : GR) (bs : List Addr) (rp : Addr) (t : Tel) : Prop where
  ext : ExtN H1 H
  tabs : Tabs T H
  pu : PurseAt H a
  gat : GatAt C D H p r
  rg : r.g = g
  kept : KeptAt H kp bs r.ts
  ok : ∀ u ∈ r.ts, OkT u
  vs : ∀ u ∈ r.ts, u.v ∈ names g
  nd : (r.ts.map keyS).Nodup
  ln : r.ts.length ≤ 13
  dl : r.ds.length ≤ 14
  row : H rp = some (.tup (telV t))
  okt : OkT t
  tv : t.v ∈ names g
  f0 : H1 a = none
  f1 : H1 r.td = none
  f2 : H1 r.dd = none
  f3 : H1 kp = none
  n1 : kp ≠ r.td
  n2 : kp ≠ r.dd
  a1 : r.td ≠ a
  a2 : r.dd ≠ a
  a3 : kp ≠ a
section
variable {g : Grid} {C D : Addr} {T : List (Addr × Str)} {H1 H H' : Hp} {a p kp : Addr} {r : GR} {bs : List Addr} {rp : Addr} {t : Tel}
theorem SitL.ri (S : SitL g C D T H1 H a p kp r bs rp t) (R : Ri T H H') : SitL g C D T H1 H' a p kp r bs rp t :=
  ⟨S.ext.trans R.ext, R.tabs, let ⟨x, y, z, h1, h2⟩ := S.pu; ⟨x, y, z, R.lst h1, h2⟩, R.gat S.gat, S.rg, R.kept S.kept, S.ok, S.vs, S.nd, S.ln, S.dl, R.tk _ _ S.row, S.okt, S.tv, S.f0, S.f1, S.f2, S.f3, S.n1, S.n2, S.a1, S.a2, S.a3⟩
theorem SitL.same (S : SitL g C D T H1 H a p kp r bs rp t) (s : Same H H') : SitL g C D T H1 H' a p kp r bs rp t := S.ri ((Ri.refl S.tabs).same s)
theorem SitL.x (S : SitL g C D T H1 H a p kp r bs rp t) (s : SameX a H H') (hA : PurseAt H' a) : SitL g C D T H1 H' a p kp r bs rp t := by
  obtain ⟨ys, hy⟩ := S.pu.lst
  have tk := tk_x s hy
  exact ⟨fun b o e n => s b o (ne_of_none e S.f0) (S.ext b o e n), tabs_mv S.tabs fun b o z e => s b o (fun w => by rw [w, hy] at e; exact z _ (Option.some.inj e).symm) e, hA, S.gat.x S.pu s S.a1 S.a2, S.rg, ⟨s _ _ S.a3 S.kept.at_, S.kept.tels.keep tk⟩, S.ok, S.vs, S.nd, S.ln, S.dl, tk _ _ S.row, S.okt, S.tv, S.f0, S.f1, S.f2, S.f3, S.n1, S.n2, S.a1, S.a2, S.a3⟩
/-- one is struck, and out of what was kept -/
theorem SitL.cut (S : SitL g C D T H1 H a p kp r bs rp t) {i : Nat} {q : Addr} {H2 : Hp} (m : Same2 r.td r.dd H H') (hG : GatAt C D H' p (r.cut i q)) (hl : r.ds.length < 14) (hx : H2 = upd H' kp (.lst ((bs.eraseIdx i).map V.ref))) : SitL g C D T H1 H2 a p kp (r.cut i q) (bs.eraseIdx i) rp t := by
  subst hx
  have hk := m _ _ S.n1 S.n2 S.kept.at_
  have k1 : Keep H H' := kp_2 m S.gat.told S.gat.deeds
  have k2 : Keep H' (upd H' kp (.lst ((bs.eraseIdx i).map V.ref))) := kp_upd hk
  have x2 : SameX kp H' (upd H' kp (.lst ((bs.eraseIdx i).map V.ref))) := sameX_upd
  have tk := (k1.trans k2).tk
  obtain ⟨x, y, z, h1, h2⟩ := S.pu
  refine ⟨fun b o e n => x2 b o (ne_of_none e S.f3) (m b o (ne_of_none e S.f1) (ne_of_none e S.f2) (S.ext b o e n)), ?_, ⟨x, y, z, x2 _ _ S.a3.symm (m _ _ S.a1.symm S.a2.symm h1), h2⟩, hG.keep k2 (x2 _ _ S.n1.symm hG.told) (x2 _ _ S.n2.symm hG.deeds), S.rg, ⟨upd_same, each_erase _ (S.kept.tels.keep tk)⟩,
    fun u hu => S.ok u (List.mem_of_mem_eraseIdx hu), fun u hu => S.vs u (List.mem_of_mem_eraseIdx hu), ?_, ?_, ?_, tk _ _ S.row, S.okt, S.tv, S.f0, S.f1, S.f2, S.f3, S.n1, S.n2, S.a1, S.a2, S.a3⟩
  · refine tabs_mv (tabs_mv S.tabs fun b o z e => m b o (fun w => ?_) (fun w => ?_) e) fun b o z e => x2 b o (fun w => ?_) e
    · rw [w, S.gat.told] at e
      exact z _ (Option.some.inj e).symm
    · rw [w, S.gat.deeds] at e
      exact z _ (Option.some.inj e).symm
    · rw [w, hk] at e
      exact z _ (Option.some.inj e).symm
  · show ((r.ts.eraseIdx i).map keyS).Nodup
    exact S.nd.sublist ((List.eraseIdx_sublist _ _).map keyS)
  · show (r.ts.eraseIdx i).length ≤ 13
    exact Nat.le_trans (List.length_eraseIdx_le _ _) S.ln
  · show (r.ds ++ [_]).length ≤ 14
    rw [List.length_append]
    exact hl
end
section
variable {P : Program} {w : World} {K : PySem.W.Frag} {mg : Str → Option Value} {base : Heap} {f C D : Addr} {fd : FuncData}
theorem ok_law {T : List (Addr × Str)} (F : Fun K "law" "law" sLaw f fd) (B : Bi mg) (TG : TxtG K mg D) (hCell : Has P w K mg base "_law_cell" 1 ["_law_script", "_law_k"] (spCell K)) (hPurse : Has P w K mg base "_law_purse" 1 ["_law_cell_here"] spPurse) (hPick : Has P w K mg base "_law_pick" 1 ["_law_purse_here", "_law_count"] spPick) (hLand : Has P w K mg base "_law_land" 4 ["_law_purse_here", "_law_topmost"] spLand)
    (hPools : Has P w K mg base "_law_pools" 4 ["_law_purse_here", "_law_lots"] spPools) (hBas : Has P w K mg base "_law_basket" 6 ["_law_purse_here", "_law_lots", "_law_pools_here", "_law_count"] (spBasket C D)) (hRow : Has P w K mg base "_law_row" 2 ["_law_purse_here", "_law_pools_here"] spRow)
    (hKey : Has P w K mg base "_law_key" 1 ["_law_row_here"] spKeyOf) (hPut : Has P w K mg base "_law_put" 5 ["_law_basket_here", "_law_row_here", "_law_way"] (spLPut C D)) (hS : HasS P w K mg base C D) (hRight : HasQ P w K mg base "_law_right" 6 psRight (spRight T C D)) : FnOkG P w K mg base 7 f fd ["_law_script"] (spLaw T K) := by
  obtain ⟨fS, fdS, FS, mS, fnS⟩ := hS
  have bS := strike_b5 fnS
  refine okG F scLaw (fun vs H Q E h => ?_) (fun cdv A outer s H vs Q E hgd hr h => ?_)
  · obtain ⟨a, ns, rfl, _⟩ := h
    rfl
  · obtain ⟨sa, ns, rfl, hSc, hlen, hT, q⟩ := h
    have hgd' : (A.deeper (envOfC "law" (defScope sLaw) s.heap.objs.size f cdv)).guards = some [] := hgd
    have hu65 : (A.deeper (envOfC "law" (defScope sLaw) s.heap.objs.size f cdv)).units + 65 < cLine := by have := hr.un; omega
    refine ⟨_, pss_cons (ps_for PassesOwn.never rfl (pi_range1 rfl B.range (pa_cons (pe_callB (call_max2 rfl) (by rfl) B.max (by decide +kernel) (pa_cons pe_int (pa_cons (pe_callB (call_min2 rfl) (by rfl) B.min (by decide +kernel) (pa_cons (pe_callB call_len_seq (by rfl) B.len PySem.boot_len (pa_cons (pv 0) pa_nil)) (pa_cons pe_int pa_nil))) pa_nil))) pa_nil)) (pg_name (i := 1) scLaw.nd rfl (.inl rfl))
        (pss_cons (ps_set (i := 2) scLaw.nd rfl (.inl rfl) (pe_h hPurse hr (pa_cons (pe_h hCell hr (pa_cons (pv 0) (pa_cons (pv 1) pa_nil))) pa_nil)))
        (pss_cons (ps_par (i := 3) (j := 4) (by rfl) scLaw.nd rfl rfl (by decide) rfl rfl (pa_cons (pe_h hPick hr (pa_cons (pv 2) (pa_cons pe_int pa_nil))) (pa_cons (pe_h hLand hr (pa_cons (pv 2) (pa_cons pe_int pa_nil))) pa_nil)) (by rfl))
        (pss_cons (ps_set (i := 5) scLaw.nd rfl (.inl rfl) (pe_h hPools hr (pa_cons (pv 2) (pa_cons (pv 4) pa_nil))))
        (pss_cons (ps_asg (pe_h hBas hr (pa_cons (pv 2) (pa_cons (pv 4) (pa_cons (pv 5) (pa_cons (pv 3) pa_nil))))) (pg_lst rfl (pgs_cons (pg_name (i := 6) scLaw.nd rfl (.inl rfl)) (pgs_cons (pg_name (i := 7) scLaw.nd rfl (.inl rfl)) pgs_nil))))
        (pss_cons (ps_set (i := 8) scLaw.nd rfl (.inl rfl) (pe_h hRow hr (pa_cons (pv 2) (pa_cons (pv 5) pa_nil))))
        (pss_cons (ps_if (pt_not (pt_val (pe_hQ hRight hgd' hr (pa_cons (pv 6) (pa_cons (pv 7) (pa_cons (pe_ix ix_list (pe_op op_cat (pv 7) (pe_lst (pa_cons (pv 8) pa_nil))) pe_int (fun _ _ => rfl)) pa_nil)))))) (pss_one (ps_ret pe_bl)) pss_nil)
        (pss_cons (ps_if (pt_cmpR (op_neD hr.units) (pv 7) (pe_lst pa_nil) (nomark _))
          (pss_cons (ps_set (i := 9) scLaw.nd rfl (.inl rfl) (pe_ix ix_list (pv 7) (pe_h hPick hr (pa_cons (pv 2) (pa_cons (pe_callB call_len_seq (by rfl) B.len PySem.boot_len (pa_cons (pv 7) pa_nil)) pa_nil))) (fun _ _ => rfl)))
          (pss_cons (ps_expr (pe_meth (pv 6) TG.cl mS FS (hr.mono (by decide)) bS .nil pass0 (pa_cons (pe_ix ix_tup (pv 9) pe_int (fun _ _ => rfl)) (pa_cons (pe_ix ix_tup (pv 9) pe_int (fun _ _ => rfl)) (pa_cons (pe_ix ix_tup (pv 9) pe_int (fun _ _ => rfl)) (pa_cons (pe_ix ix_tup (pv 9) pe_int (fun _ _ => rfl)) pa_nil))))))
          (pss_cons (ps_expr (pe_bm PySem.F.plainAttrs_list PySem.F.slot_list_remove PySem.F.type_list_remove (mt_removeD hr.units) (pv 7) (pa_cons (pv 9) pa_nil)))
          (pss_one (ps_if (pt_not (pt_val (pe_hQ hRight hgd' hr (pa_cons (pv 6) (pa_cons (pv 7) (pa_cons (pv 9) pa_nil)))))) (pss_one (ps_ret pe_bl)) pss_nil))))) pss_nil)
        (pss_one (ps_if (pt_cmpR (op_notInD hu65) (pe_h hKey hr (pa_cons (pv 8) pa_nil)) (pe_lc (own := [("_law_old", 10)]) (g := gName 10) (tt := tYes) (te := tCall spKeyOf [] E0 (tCons (tVar 10) tNil)) rfl scLaw.nd (pi_list (pv 7)) (blkOk_by (N := nLaw) (sc := defScope sLaw) (by decide +kernel)) (fun _ _ _ _ _ => pg_name (i := 10) scLaw.nd rfl (.inl rfl)) (fun _ _ _ _ _ => pts_nil) (fun _ _ _ _ _ => pe_h hKey hr (pa_cons (pv 10) pa_nil))) (by rfl))
          (pss_cons (ps_expr (pe_h hPut hr (pa_cons (pv 6) (pa_cons (pv 8) (pa_cons pe_int pa_nil)))))
          (pss_one (ps_if (pt_not (pt_val (pe_hQ hRight hgd' hr (pa_cons (pv 6) (pa_cons (pe_op op_cat (pv 7) (pe_lst (pa_cons (pv 8) pa_nil))) (pa_cons (pv 8) pa_nil)))))) (pss_one (ps_ret pe_bl)) pss_nil))) pss_nil))))))))))
      (pss_one (ps_ret pe_bl)), ?_⟩
    have hln : ((ns.map V.int).length : Int) = ns.length := by rw [List.length_map]
    have mx : ∀ n : Int, 0 ≤ n → n ≤ 63 → (if (if (3 : Int) < n then (3 : Int) else n) > 2 then (if (3 : Int) < n then (3 : Int) else n) else 2) ≤ 3 ∧ 2 ≤ (if (if (3 : Int) < n then (3 : Int) else n) > 2 then (if (3 : Int) < n then (3 : Int) else n) else 2) := fun n h0 h1 => by
      split <;> split <;> omega
    obtain ⟨mx1, mx0⟩ := mx (ns.length : Int) (by omega) (by omega)
    refine ⟨_, rfl, sa, _, rfl, .inl hSc, _, _, rfl, _, _, rfl, _, rfl, ?_, ?_, ?_⟩
    · rw [hln]; omega
    · rw [hln]; omega
    rw [hln]
    generalize (if (if (3 : Int) < (ns.length : Int) then (3 : Int) else (ns.length : Int)) > 2 then (if (3 : Int) < (ns.length : Int) then (3 : Int) else (ns.length : Int)) else 2) = mm at mx1 mx0
    refine for_range (lo := 0) (n := _) (fun i σ H' => (∃ y1 y2 y3 y4 y5 y6 y7 y8 y9, σ = [some (.ref sa), y1, y2, y3, y4, y5, y6, y7, y8, y9, none]) ∧ SqL K H' sa (ns.map V.int) ∧ Tabs T H')
      ⟨⟨_, _, _, _, _, _, _, _, _, rfl⟩, hSc, hT⟩ ?_ ?_
    case refine_2 =>
      rintro σ H' ⟨⟨y1, y2, y3, y4, y5, y6, y7, y8, y9, rfl⟩, _⟩
      exact q H'
    rintro i σ H1 hi ⟨⟨y1, y2, y3, y4, y5, y6, y7, y8, y9, rfl⟩, hSc1, hT1⟩
    have back : ∀ {H' : Hp}, ExtN H1 H' → SqL K H' sa (ns.map V.int) := fun {H'} ex => by
      rcases hSc1 with h | h
      · left
        rcases h with h | ⟨o, h⟩
        · exact .inl (ex _ _ h fun ps z => (by cases z))
        · exact .inr ⟨o, ex _ _ h fun ps z => (by cases z)⟩
      · exact .inr h
    refine ⟨_, rfl, _, rfl, sa, ns, 0 + i, rfl, hSc1, by omega, by omega, fun v H2 s2 => ⟨v, rfl, fun a H3 na s3 hA3 => ?_⟩⟩
    have na1 : H1 a = none := s2.free na
    have S3 : Same H1 H3 := s2.trans s3
    refine ⟨_, rfl, a, 13, rfl, hA3, by decide, by decide, fun cnt H4 c0 c13 hA4 x4 _ => ?_⟩
    refine ⟨_, rfl, a, 3, rfl, hA4, by decide, by decide, fun L g wd H5 gd g3 w3 hL5 hA5 x5 => ⟨_, _, rfl, ?_⟩⟩
    obtain ⟨nc, rfl⟩ : ∃ nc : Nat, cnt = (nc : Int) := ⟨cnt.toNat, by omega⟩
    have S5 : SameX a H1 H5 := (sx S3).trans (x4.trans x5)
    refine ⟨_, rfl, _, rfl, a, L, g, wd, rfl, hA5, hL5, gd, fun Fp as p1 p2 p3 p4 H6 nFp nas hPo6 hokW hp4 hp3 hA6 x6 => ?_⟩
    obtain ⟨ya5, hya5⟩ := hA5.lst
    have hL6 := hL5.keep (tk_x x6 hya5)
    have nF : Fp ≠ a := hA5.ne nFp
    have nq : ∀ q ∈ as, q ≠ a := fun q hq => hA5.ne (nas q hq)
    have S6 : SameX a H1 H6 := S5.trans x6
    refine ⟨_, rfl, _, rfl, _, rfl, _, rfl, a, L, Fp, g, wd, nc, as, p1, p2, p3, p4, rfl, by omega, hA6, hL6, gd, hPo6, nF, nq, hokW, fun R p kp r bs H7 I hlr nR hR => ?_⟩
    refine ⟨R, _, rfl, .inl (.inl hR), rfl, _, _, rfl, _, _, rfl, rfl, ?_⟩
    have fr : ∀ {b : Addr}, b ≠ a → H6 b = none → H1 b = none := fun {b} n e => by
      cases z : H1 b with
      | none => rfl
      | some o =>
        have := S6 b o n z
        rw [e] at this
        cases this
    have ntd : r.td ≠ a := hA6.ne I.f1
    have ndd : r.dd ≠ a := hA6.ne I.f2
    have nkp : kp ≠ a := hA6.ne I.f3
    refine ⟨_, rfl, _, rfl, a, Fp, as, _, p1, p2, p3, p4, rfl, I.pu, hPo6.x I.sx nF nq, nF, nq, hokW, fun rp t H8 nrp okt v0 m1 m2 m3 m4 hrp hA8 x8 => ?_⟩
    obtain ⟨ya7, hya7⟩ := I.pu.lst
    have x18 : SameX a H1 H8 := S6.trans (I.sx.trans x8)
    have ex8 : ExtN H1 H8 := fun b o e _ => x18 b o (ne_of_none e na1) e
    obtain ⟨ya, hya⟩ := hA5.lst
    have tb8 : Tabs T H8 := tabs_mv hT1 fun b o z e => x18 b o (ne_of_none e na1) e
    have S0 : SitL g C D T H1 H8 a p kp r bs rp t := ⟨ex8, tb8, hA8, I.gat.x I.pu x8 ntd ndd, I.rg, ⟨x8 _ _ nkp I.kept.at_, I.kept.tels.keep (tk_x x8 hya7)⟩, I.ok, I.vs, I.nd, by omega, by rw [I.dl]; omega, hrp, okt, mem_sortS.mp v0, na1, fr ntd I.f1, fr ndd I.f2, fr nkp I.f3, I.n1, I.n2, ntd, ndd, nkp⟩
    have hdl : r.ds.length < 14 := by rw [I.dl]; omega
    have hln13 : r.ts.length ≤ 12 := by omega
    clear x4 x5 x6 x8 x18 ex8 tb8 hA3 hA4 hA5 hA6 hA8 I hPo6 hL5 hL6 S3 S5 S6 s2 s3 hR hrp fr hya5 hya7 hya
    -- all as it stands
    have lb := S0.kept.tels.length
    refine ⟨_, rfl, _, rfl, _, rfl, _, rfl, lz, fun m nm => ?_⟩
    have s9 := same_new (o := .lst [V.ref rp]) nm
    have hm9 : upd H8 m (.lst [V.ref rp]) m = some (.lst [V.ref rp]) := upd_same
    have S1 := S0.same s9
    generalize upd H8 m (.lst [V.ref rp]) = H9 at s9 hm9 S1
    refine ⟨kp, m, _, _, rfl, rfl, S1.kept.at_, hm9, ?_, fun l nl => ?_⟩
    · rw [List.length_map]
      exact lzl (by simp only [List.length_cons, List.length_nil]; omega)
    have s10 := same_new (o := .lst (bs.map V.ref ++ [V.ref rp])) nl
    have hl10 : upd H9 l (.lst (bs.map V.ref ++ [V.ref rp])) l = some (.lst ((bs ++ [rp]).map V.ref)) := by
      rw [upd_same, List.map_append]
      rfl
    have S2 := S1.same s10
    generalize upd H9 l (.lst (bs.map V.ref ++ [V.ref rp])) = H10 at s10 hl10 S2
    have hts : TelsAt H10 (bs ++ [rp]) (r.ts ++ [t]) := Each.append S2.kept.tels (.cons S2.row .nil)
    obtain ⟨b0, hb0⟩ : ∃ b0, (bs ++ [rp])[0]? = some b0 := ⟨(bs ++ [rp])[0]'(by simp), List.getElem?_eq_getElem (by simp)⟩
    obtain ⟨t0, ht0, hH0⟩ := Each.get hts hb0
    have okt0 : OkT t0 := by
      rcases List.mem_append.mp (List.mem_of_getElem? ht0) with h | h
      · exact S2.ok _ h
      · rw [List.mem_singleton.mp h]
        exact okt
    refine ⟨l, _, 0, .ref b0, rfl, rfl, .inl (.inl hl10), atI_nat (j := 0) (by rw [List.getElem?_map, hb0]; rfl), ?_⟩
    refine ⟨p, kp, b0, r, bs, t0, rfl, S2.gat, S2.kept, S2.ok, by omega, hH0, okt0, S2.tabs, fun H11 R11 => ⟨true, rfl, iteF ?_⟩⟩
    have S3 := S2.ri R11
    clear hts hH0 ht0 hb0 S1 S2 s9 s10 hm9 hl10 R11 S0 nm nl
    -- one struck
    refine st_join (A := tIfS (tTest (tOp (rNeD _) (tVar 7) (tLst tNil))) _ _) (fun σ' H' => ∃ (y9 : Option V) (r' : GR) (bs' : List Addr), σ' = [some (.ref sa), some (.int (0 + (i : Int))), some (.ref a), some (.int (nc : Int)), some (.ref L), some (.ref Fp), some (.ref p), some (.ref kp), some (.ref rp), y9, none] ∧ SitL g C D T H1 H' a p kp r' bs' rp t ∧ r'.ts.length ≤ 12) ?_ (fun D' hn _ => ?_)
    case refine_2 =>
      refine ⟨_, rfl, lz, fun e1 he1 => ?_⟩
      have s4 := same_new (o := .lst []) he1
      have he4 : upd H11 e1 (.lst []) e1 = some (.lst []) := upd_same
      have S4 := S3.same s4
      generalize upd H11 e1 (.lst []) = H12 at s4 he4 S4 ⊢
      refine ⟨.list (r.ts.map telD), .list [], .lst (.inl (.inl S4.kept.at_)) (dp_tels S4.kept.tels), .lst (.inl (.inl he4)) .nil, shaped_tels S4.ok, by decide +kernel, _, rfl, ?_⟩
      rw [tels_nil]
      refine not_b (fun en => ?_) (fun en => hn _ _ ⟨_, r, bs, rfl, S4, hln13⟩)
      have hne : r.ts ≠ [] := fun z => by
        rw [z] at en
        cases en
      have l0 : 0 < r.ts.length := List.length_pos_iff.mpr hne
      refine ⟨_, rfl, _, rfl, _, rfl, kp, _, rfl, .inl (.inl (.inl S4.kept.at_)), a, _, rfl, S4.pu, ?_, ?_, fun rr H13 i0 i1 hA13 x13 _ => ?_⟩
      · rw [List.length_map]
        omega
      · rw [List.length_map]
        omega
      rw [List.length_map] at i1
      obtain ⟨j, rfl⟩ : ∃ j : Nat, rr = (j : Int) := ⟨rr.toNat, by omega⟩
      have hj : j < bs.length := by omega
      have S5 := S4.x x13 hA13
      obtain ⟨o, ho, hH⟩ := Each.get S5.kept.tels (i := j) (a := bs[j]) (List.getElem?_eq_getElem hj)
      have oko := S5.ok o (List.mem_of_getElem? ho)
      refine ⟨kp, _, _, .ref bs[j], rfl, rfl, .inl (.inl S5.kept.at_), atI_nat (j := j) (by rw [List.getElem?_map, List.getElem?_eq_getElem hj]; rfl), ?_⟩
      obtain ⟨dx, hp⟩ := S5.gat.at_
      refine ⟨_, rfl, p, dx, _, rfl, hp, gf_no _ _ _, _, rfl, bs[j], _, _, _, rfl, rfl, .inl (.inl hH), atI_nat (j := 0) rfl, _, rfl, bs[j], _, _, _, rfl, rfl, .inl (.inl hH), atI_nat (j := 3) rfl, _, rfl, bs[j], _, _, _, rfl, rfl, .inl (.inl hH), atI_nat (j := 1) rfl, _, rfl, bs[j], _, _, _, rfl, rfl, .inl (.inl hH), atI_nat (j := 5) rfl, ?_⟩
      refine ⟨p, r, o, j, rfl, S5.gat, S5.ok, by omega, by omega, find_atN S5.nd ho, oko, fun q1 pa H14 nq1 hpa m14 hG14 hq14 => ?_⟩
      have hk14 := m14 _ _ S5.n1 S5.n2 S5.kept.at_
      have k14 : Keep H13 H14 := kp_2 m14 S5.gat.told S5.gat.deeds
      have ht14 := S5.kept.tels.keep k14.tk
      have hH14 := k14.tk _ _ hH
      refine ⟨_, rfl, .inl ⟨rfl, _, .inl (.inl hk14)⟩, _, rfl, kp, bs.map V.ref, .ref bs[j], r.ts.map telD, telD o, j, rfl, rfl, hk14, dp_tels ht14, dp_tel hH14, plain_tels _, ?_, ?_, place_tel S5.nd ho, ?_⟩
      · simp [PyData.plainAll, PyData.plain, telD]
      · simp [telD, PyData.depth, PyData.depthAll]
      rw [map_eraseD]
      have hH15 : upd H14 kp (.lst ((bs.eraseIdx j).map V.ref)) bs[j] = some (.tup (telV o)) := (kp_upd hk14).tk _ _ hH14
      have S6 := S5.cut (H2 := upd H14 kp (.lst ((bs.eraseIdx j).map V.ref))) m14 hG14 hdl rfl
      generalize upd H14 kp (.lst ((bs.eraseIdx j).map V.ref)) = H15 at hH15 S6 ⊢
      have l6 : (r.ts.eraseIdx j).length ≤ 12 := Nat.le_trans (List.length_eraseIdx_le _ _) hln13
      exact ⟨_, rfl, _, rfl, _, rfl, p, kp, bs[j], r.cut j q1, bs.eraseIdx j, o, rfl, S6.gat, S6.kept, S6.ok, by show (r.ts.eraseIdx j).length ≤ 20; omega, hH15, oko, S6.tabs, fun H16 R16 => ⟨true, rfl, iteF (hn _ _ ⟨some (.ref bs[j]), r.cut j q1, bs.eraseIdx j, rfl, S6.ri R16, l6⟩)⟩⟩
    case refine_1 =>
      rintro σ' H12 ⟨y9', r', bs', rfl, S, l12⟩
      have lb' := S.kept.tels.length
      have rg := S.rg
      refine ⟨_, rfl, rp, t, rfl, S.row, fun u hu => ?_⟩
      have s6 := same_new (o := .tup (keyV t)) hu
      have hu6 : upd H12 u (.tup (keyV t)) u = some (.tup (keyV t)) := upd_same
      have S6 := S.same s6
      generalize upd H12 u (.tup (keyV t)) = H13 at s6 hu6 S6 ⊢
      have hk6 := S6.kept.at_
      have ht6 := S6.kept.tels
      refine ⟨_, rfl, kp, rfl, ⟨_, .inl (.inl hk6)⟩, fun Dd hD => ?_⟩
      refine lc_rel (walk_list (K := K) (a := kp) (xs := bs'.map V.ref)) hD (fun _ => true) (fun x z H' => ∀ (pt : Addr) (t' : Tel), x = .ref pt → H13 pt = some (.tup (telV t')) → ∃ k, z = .ref k ∧ H' k = some (.tup (keyV t'))) (fun H' s' => .inl (.inl (s' _ _ hk6))) (fun _ => rfl) (fun x H' _ _ Q' q' => q') ?_ ?_ ?_ ?_
      · intro x H' hx _ s' Q' q'
        obtain ⟨pt, hpt, rfl⟩ := List.mem_map.mp hx
        obtain ⟨j, hj, ej⟩ := List.mem_iff_getElem.mp hpt
        obtain ⟨t', ht', hH⟩ := Each.get ht6 (i := j) (a := pt) (by rw [List.getElem?_eq_getElem hj, ej])
        refine ⟨_, rfl, pt, t', rfl, s' _ _ hH, fun k hk => q' _ _ (same_new hk) fun pt2 t2 e2 h2 => ⟨k, rfl, ?_⟩⟩
        obtain rfl : pt = pt2 := V.ref.inj e2
        rw [hH] at h2
        rw [upd_same, telV_inj (HO.tup.inj (Option.some.inj h2))]
      · intro x y H' H'' acc hacc xs' rr pt t' e h
        obtain ⟨k, rfl, hk⟩ := rr pt t' e h
        exact ⟨k, rfl, xs' _ _ (ne_of hk hacc (by intro z; cases z)) hk⟩
      · rw [List.length_map]
        exact small1000 (by omega)
      intro zs H14 s14 hD14 he
      rw [List.filter_eq_self.mpr fun _ _ => rfl] at he
      have dpk := keys_dp (K := K) ht6 he
      refine ⟨.tuple ((keyS t).map .str), r'.ts.map kD, .tup (.inl (.inl (s14 _ _ hu6))) (dp_strs (keyS t)), .lst (.inl (.inl hD14)) dpk, shaped_strs okt.key, shaped_list (lay_keys S6.ok) (by have := depth_keys r'.ts; omega), _, rfl, ?_⟩
      rw [any_keys]
      have S7 := S6.same s14
      clear he dpk hD14 hu6 hD ht6 hk6 S6 s6 s14 S
      refine not_b (fun e => ?_) (fun e => ⟨⟨_, _, _, _, _, _, _, _, _, rfl⟩, back S7.ext, S7.tabs⟩)
      have hnew := of_decide_eq_false e
      refine ⟨_, rfl, _, rfl, p, rp, 4, r', wd, t, rfl, S7.row, S7.gat, by rw [rg]; exact gd, S7.ok, okt, by rw [rg]; exact S7.tv, hnew, by omega, by have := S7.dl; omega, fun q1 H15 nq1 m15 hG15 => ?_⟩
      have hk15 := m15 _ _ S7.n1 S7.n2 S7.kept.at_
      have k15 : Keep H14 H15 := kp_2 m15 S7.gat.told S7.gat.deeds
      have ht15 := S7.kept.tels.keep k15.tk
      have hrp15 := k15.tk _ _ S7.row
      have ex15 : ExtN H1 H15 := fun b o e n => m15 b o (ne_of_none e S7.f1) (ne_of_none e S7.f2) (S7.ext b o e n)
      have tb15 : Tabs T H15 := tabs_mv S7.tabs fun b o z e => m15 b o (fun w => by rw [w, S7.gat.told] at e; exact z _ (Option.some.inj e).symm) (fun w => by rw [w, S7.gat.deeds] at e; exact z _ (Option.some.inj e).symm) e
      refine ⟨_, rfl, _, rfl, _, rfl, lz, fun m nm => ?_⟩
      have s16 := same_new (o := .lst [V.ref rp]) nm
      have hm16 : upd H15 m (.lst [V.ref rp]) m = some (.lst [V.ref rp]) := upd_same
      have hk16 := s16 _ _ hk15
      generalize upd H15 m (.lst [V.ref rp]) = H16 at s16 hm16 hk16
      refine ⟨kp, m, _, _, rfl, rfl, hk16, hm16, ?_, fun l nl => ?_⟩
      · rw [List.length_map]
        exact lzl (by simp only [List.length_cons, List.length_nil]; omega)
      have s17 := same_new (o := .lst (bs'.map V.ref ++ [V.ref rp])) nl
      have hl17 : upd H16 l (.lst (bs'.map V.ref ++ [V.ref rp])) l = some (.lst ((bs' ++ [rp]).map V.ref)) := by
        rw [upd_same, List.map_append]
        rfl
      generalize upd H16 l (.lst (bs'.map V.ref ++ [V.ref rp])) = H17 at s17 hl17
      have s1517 := s16.trans s17
      have hrp17 := s1517 _ _ hrp15
      have hG17 := hG15.same s1517
      have hts : TelsAt H17 (bs' ++ [rp]) (r'.ts ++ [t]) := Each.append (ht15.keep (tk_same s1517)) (.cons hrp17 .nil)
      have R17 : Ri T H15 H17 := (Ri.refl tb15).same s1517
      refine ⟨_, rfl, p, l, rp, r'.add q1 t, bs' ++ [rp], t, rfl, hG17, ⟨hl17, hts⟩, fun u hu => ?_, ?_, hrp17, okt, R17.tabs, fun H18 R18 => ⟨true, rfl, iteF ⟨⟨_, _, _, _, _, _, _, _, _, rfl⟩, back ((ex15.trans R17.ext).trans R18.ext), R18.tabs⟩⟩⟩
      · rcases List.mem_append.mp (show u ∈ r'.ts ++ [t] from hu) with h | h
        · exact S7.ok u h
        · rw [List.mem_singleton.mp h]
          exact okt
      · show (r'.ts ++ [t]).length ≤ 20
        rw [List.length_append, List.length_singleton]
        omega

end
end Wl

/-! What the head reads off the frame of an own exception's class. -/
namespace Wl
open PySem PySem.Spec PyProof.Rows L2
/-- an exception's class: which it is, its field read, caught by its base -/
structure ErrC (K : PySem.W.Frag) (ad bd : Nat → Addr) (C : Addr) (n : Nat) : Prop where
  sort : SortC K ad bd C n
  xf : XfC K C
  all : PySem.W.exmAny K (.ref C) [.ref (bd 0), .ref (bd 1), .ref (bd 2)] = some true
def adK (K : PySem.W.Frag) (i : Nat) : Addr := He.ga K (exN i)
def bdK (K : PySem.W.Frag) (i : Nat) : Addr := He.ga K (baN i)
/-- what is asked of the n-th exception's class, at C; bm: its built-in bases -/
def errB (K : PySem.W.Frag) (C : Addr) (f : Str) (n : Nat) (bm : List Value) (newId : String) : Bool :=
  PySem.W.excInitIn K C bm newId && (PySem.W.excOver K C bm && (He.eqO (PySem.W.findIn K (.ref C) "__setattr__") (some (some (.builtin "object.__setattr__"))) && (He.eqO (PySem.W.takerIn K C f) (some none) &&
  (He.eqO (PySem.W.findIn K (.ref C) f) (some none) && (decide (PySem.W.subIn K (.ref C) (.type "BaseException") = some true) && (decide (PySem.W.typeIn K (.ref C) = some (.type "type")) && (PySem.W.hasDictIn K C && (PySem.W.keepIn K (.ref C) &&
  ((PySem.W.clsIn K C).isSome && (He.eqO (PySem.W.findIn K (.ref C) "__getattribute__") (some (some (.builtin "BaseException.__getattribute__"))) && (He.eqO (PySem.W.findIn K (.ref C) "__getattr__") (some none) &&
  (He.eqO (PySem.W.findIn K (.ref C) "__class__") (some (some (.builtin "object.__class__"))) && (He.eqO (PySem.W.specialIn K (.builtin "object.__class__") "__get__") (some (some (.builtin "getset_descriptor.__get__"))) &&
  (decide (PySem.W.takesIn K (.builtin "object.__class__") = some true) && (decide (PySem.W.mroIn K C (.type "object") = some true) && (((List.range 19).all fun i => decide (PySem.W.kitOne K (.ref C) (.ref (adK K i)) = some (decide (i = n)))) &&
  (((List.range 3).all fun i => decide (PySem.W.kitOne K (.ref C) (.ref (bdK K i)) = some (decide (i = baOf n)))) && (decide (PySem.W.kitOne K (.ref C) (.type "ValueError") = some (decide (0 = baOf n))) &&
  (decide (PySem.W.kitOne K (.ref C) (.type "LookupError") = some (decide (1 = baOf n))) && (decide (PySem.W.kitOne K (.ref C) (.type "ArithmeticError") = some (decide (2 = baOf n))) &&
  (decide (PySem.W.exmAny K (.ref C) [.ref (bdK K 0), .ref (bdK K 1), .ref (bdK K 2)] = some true) && decide (n < 19))))))))))))))))))))))
def bmOf (n : Nat) : List Value := if n ≤ 8 then [.type "ValueError", .type "Exception", .type "BaseException", .type "object"] else if n ≤ 14 then [.type "LookupError", .type "Exception", .type "BaseException", .type "object"] else [.type "ArithmeticError", .type "Exception", .type "BaseException", .type "object"]
def newOf (n : Nat) : String := if n ≤ 8 then "ValueError.__new__" else if n ≤ 14 then "LookupError.__new__" else "ArithmeticError.__new__"
theorem base_of (n : Nat) : ∃ B initId, BaseX B (newOf n) initId (bmOf n) := by
  unfold newOf bmOf
  by_cases h : n ≤ 8
  · rw [if_pos h, if_pos h]
    exact ⟨_, _, baseVE⟩
  · rw [if_neg h, if_neg h]
    by_cases h2 : n ≤ 14
    · rw [if_pos h2, if_pos h2]
      exact ⟨_, _, baseLE⟩
    · rw [if_neg h2, if_neg h2]
      exact ⟨_, _, baseAE⟩
section
variable {K : PySem.W.Frag} {mg : Str → Option Value} {C : Addr} {f x : Str} {n : Nat}
def errOf (K : PySem.W.Frag) (n : Nat) (f : Str) : Bool := errB K (adK K n) f n (bmOf n) (newOf n)
theorem err_ok (h : errB K C f n (bmOf n) (newOf n) = true) : ErrC K (adK K) (bdK K) C n ∧
    ∀ {q : Str} {st : Stmt} {fI : Addr} {fd : FuncData} {x : Str} {q1 q2 q3 q4 : Pos}, mg x = some (.ref C) → Meth K C "__init__" fI → Fun K "__init__" q st fI fd → Binds K fd ["self", f] [] → FnScope ["self", f] ["self", f] (defScope st) → ((["self", f] : List Str).all fun y => decide ((defScope st).names.lookup y = some .local)) = true →
      defBody st = [.Assign [.Attribute (.Name "self" q1) f q2] (.Name f q3) q4] → OwnX K mg x f C := by
  unfold errB at h
  simp only [Bool.and_eq_true] at h
  obtain ⟨h1, h2, h3, h4, h5, h6, h7, h8, h9, h10, h11, h12, h13, h14, h15, h16, h17, h18, h19, h20, h21, h22, h23⟩ := h
  have hsub := of_decide_eq_true h6
  refine ⟨⟨⟨⟨h10, He.eqO_ok h11, He.eqO_ok h12, hsub, He.eqO_ok h13, He.eqO_ok h14, of_decide_eq_true h15, of_decide_eq_true h16⟩, of_decide_eq_true h23, fun i hi => of_decide_eq_true (List.all_eq_true.mp h17 i (List.mem_range.mpr hi)), fun i hi => of_decide_eq_true (List.all_eq_true.mp h18 i (List.mem_range.mpr hi)),
    of_decide_eq_true h19, of_decide_eq_true h20, of_decide_eq_true h21⟩, ⟨He.eqO_ok h11, He.eqO_ok h12, hsub, h8⟩, of_decide_eq_true h22⟩, ?_⟩
  intro q st fI fd x q1 q2 q3 q4 hg hm hF hB hS hL hb
  obtain ⟨B, ini, BX⟩ := base_of n
  refine ⟨hg, h9, ⟨B, newOf n, ini, bmOf n, BX, h1, h2⟩, He.eqO_ok h3, He.eqO_ok h4, He.eqO_ok h5, hsub, of_decide_eq_true h7, h8, ⟨fI, fd, q, st, q1, q2, q3, q4, hm.at_, ?_, hF, hB, hS, fun y hy => of_decide_eq_true (List.all_eq_true.mp hL y hy), hb⟩⟩
  have z : (PySem.W.typeIn K (.ref fI) == some (.type "function")) = true := hm.fn
  exact beq_iff_eq.mp z
/-- the globals -/
def sortB (K : PySem.W.Frag) : Bool := ((List.range 19).all fun i => (He.Fa.glo (exN i)).ok K) && (((List.range 3).all fun i => (He.Fa.glo (baN i)).ok K) && ((He.Fa.free "ValueError").ok K && ((He.Fa.free "LookupError").ok K && (He.Fa.free "ArithmeticError").ok K)))
theorem sort_ok {h : Heap} (X : K.In h) (G : h.Ns mainGlobals mg) (c : sortB K = true) : SortG mg (adK K) (bdK K) := by
  unfold sortB at c
  simp only [Bool.and_eq_true] at c
  obtain ⟨c1, c2, c3, c4, c5⟩ := c
  exact ⟨fun i hi => He.glo_ok X G (List.all_eq_true.mp c1 i (List.mem_range.mpr hi)), fun i hi => He.glo_ok X G (List.all_eq_true.mp c2 i (List.mem_range.mpr hi)), He.free_ok X G c3, He.free_ok X G c4, He.free_ok X G c5⟩
end
end Wl

/-! An own exception class without own __init__, raised with a text: no own dict. -/
namespace Wl
open PySem PySem.Spec PyProof.Rows L2
structure OwnN (K : PySem.W.Frag) (mg : Str → Option Value) (x : Str) (C : Addr) : Prop where
  gC : mg x = some (.ref C)
  kC : PySem.W.keepIn K (.ref C) = true
  bas : ∃ B newId initId bm, BaseX B newId initId bm ∧ PySem.W.excIn K C bm newId = true
  exC : PySem.W.subIn K (.ref C) (.type "BaseException") = some true
  tyC : PySem.W.typeIn K (.ref C) = some (.type "type")
section
variable {X : Cx} {C : Addr}
theorem ps_raiseN {x m : Str} {j : Nat} {W : WX} {p p2 pos pos2 : Pos} (hc : X.calm = true) (T : OwnN X.K X.mg x C) (tk : L2N.Takes X W) (hg : Gl X x := by rfl) (hdb : (x == ("__debug__" : Str)) = false := by decide) :
    PS X (.Raise (some (.Call (.Name x p) [.Constant (.str m) j p2] [] pos)) none pos2) (fun _ σ H => W (.ref C) none σ H) := by
  obtain ⟨B, nI, iI, bm, BX, q⟩ := T.bas
  exact L2N.ps_raise hc tk (L2N.pmk_own BX.base q T.gC T.kC (raises_own T.exC T.tyC) hg hdb)
end
end Wl

/-! What the head reads off the frame of an own exception's class, without the laws' own sorting. -/
namespace Wl
open PySem PySem.Spec PyProof.Rows L2
def exkB (K : PySem.W.Frag) (C : Addr) : Bool :=
  (PySem.W.clsIn K C).isSome && (He.eqO (PySem.W.findIn K (.ref C) "__getattribute__") (some (some (.builtin "BaseException.__getattribute__"))) && (He.eqO (PySem.W.findIn K (.ref C) "__getattr__") (some none) &&
  (He.eqO (PySem.W.findIn K (.ref C) "__class__") (some (some (.builtin "object.__class__"))) && (He.eqO (PySem.W.specialIn K (.builtin "object.__class__") "__get__") (some (some (.builtin "getset_descriptor.__get__"))) &&
  (decide (PySem.W.takesIn K (.builtin "object.__class__") = some true) && (decide (PySem.W.mroIn K C (.type "object") = some true) && (decide (PySem.W.subIn K (.ref C) (.type "BaseException") = some true) && (decide (PySem.W.typeIn K (.ref C) = some (.type "type")) && PySem.W.keepIn K (.ref C)))))))))
def errS (K : PySem.W.Frag) (C : Addr) (f : Str) (n : Nat) : Bool :=
  exkB K C && (PySem.W.excInitIn K C (bmOf n) (newOf n) && (PySem.W.excOver K C (bmOf n) && (He.eqO (PySem.W.findIn K (.ref C) "__setattr__") (some (some (.builtin "object.__setattr__"))) && (He.eqO (PySem.W.takerIn K C f) (some none) &&
  (He.eqO (PySem.W.findIn K (.ref C) f) (some none) && PySem.W.hasDictIn K C)))))
def errSN (K : PySem.W.Frag) (C : Addr) (n : Nat) : Bool := exkB K C && PySem.W.excIn K C (bmOf n) (newOf n)
section
variable {K : PySem.W.Frag} {mg : Str → Option Value} {C : Addr} {f : Str} {n : Nat}
theorem exk_ok (h : exkB K C = true) : ExK K C ∧ PySem.W.typeIn K (.ref C) = some (.type "type") ∧ PySem.W.keepIn K (.ref C) = true := by
  unfold exkB at h
  simp only [Bool.and_eq_true] at h
  obtain ⟨h10, h11, h12, h13, h14, h15, h16, h6, h7, h9⟩ := h
  exact ⟨⟨h10, He.eqO_ok h11, He.eqO_ok h12, of_decide_eq_true h6, He.eqO_ok h13, He.eqO_ok h14, of_decide_eq_true h15, of_decide_eq_true h16⟩, of_decide_eq_true h7, h9⟩
theorem errS_ok (h : errS K C f n = true) : (ExK K C ∧ XfC K C) ∧
    ∀ {q : Str} {st : Stmt} {fI : Addr} {fd : FuncData} {x : Str} {q1 q2 q3 q4 : Pos}, mg x = some (.ref C) → Meth K C "__init__" fI → Fun K "__init__" q st fI fd → Binds K fd ["self", f] [] → FnScope ["self", f] ["self", f] (defScope st) → ((["self", f] : List Str).all fun y => decide ((defScope st).names.lookup y = some .local)) = true →
      defBody st = [.Assign [.Attribute (.Name "self" q1) f q2] (.Name f q3) q4] → OwnX K mg x f C := by
  unfold errS at h
  simp only [Bool.and_eq_true] at h
  obtain ⟨h0, h1, h2, h3, h4, h5, h8⟩ := h
  obtain ⟨eK, h7, h9⟩ := exk_ok h0
  refine ⟨⟨eK, ⟨eK.ga, eK.gg, eK.sub, h8⟩⟩, ?_⟩
  intro q st fI fd x q1 q2 q3 q4 hg hm hF hB hS hL hb
  obtain ⟨B, ini, BX⟩ := base_of n
  refine ⟨hg, h9, ⟨B, newOf n, ini, bmOf n, BX, h1, h2⟩, He.eqO_ok h3, He.eqO_ok h4, He.eqO_ok h5, eK.sub, h7, h8, ⟨fI, fd, q, st, q1, q2, q3, q4, hm.at_, ?_, hF, hB, hS, fun y hy => of_decide_eq_true (List.all_eq_true.mp hL y hy), hb⟩⟩
  have z : (PySem.W.typeIn K (.ref fI) == some (.type "function")) = true := hm.fn
  exact beq_iff_eq.mp z
theorem errSN_ok (h : errSN K C n = true) : ExK K C ∧ ∀ {x : Str}, mg x = some (.ref C) → OwnN K mg x C := by
  unfold errSN at h
  rw [Bool.and_eq_true] at h
  obtain ⟨eK, h7, h9⟩ := exk_ok h.1
  obtain ⟨B, ini, BX⟩ := base_of n
  exact ⟨eK, fun hg => ⟨hg, h9, ⟨B, newOf n, ini, bmOf n, BX, h.2⟩, eK.sub, h7⟩⟩
end
end Wl

/-! The head of a law whose program makes lambdas: what is known of the code tables. -/
namespace Wl
open PySem PySem.Spec PyProof.Rows L2 LamX NdefX
theorem tabP_of {K K1 : PySem.W.Frag} {f : Addr} {h : Heap} {p : Addr × Addr} (e : tabOne K K1 f = true) (hp : codeTab K1 f = some p) (inK : K.In h) (in1 : K1.In h) : codeOf K1 f = some p.1 ∧ TabP K1 h p := by
  obtain ⟨c, T⟩ := p
  unfold tabOne at e
  rw [hp] at e
  dsimp only at e
  rw [Bool.and_eq_true] at e
  obtain ⟨e1, e2⟩ := e
  refine ⟨(codeTab_code hp).1, codeTab_hd hp in1, ?_, Option.isNone_iff_eq_none.mp e2⟩
  cases ho : K.lookup T with
  | none =>
    rw [ho] at e1
    cases e1
  | some o =>
    rw [ho] at e1
    rw [inK _ _ ho, isTabO_ok e1]
theorem TabP.keeps {K : PySem.W.Frag} {h h' : Heap} {p : Addr × Addr} (t : TabP K h p) (k : ∀ b o, h.get? b = some o → h'.get? b = some o) : TabP K h' p := ⟨t.hd.keeps k, k _ _ t.at_, t.out⟩
/-- two tables are two -/
def distT (K : PySem.W.Frag) (f g : Addr) : Bool := match codeTab K f, codeTab K g with
  | some p, some q => p.2 != q.2
  | _, _ => false
def tabTwo (K K1 : PySem.W.Frag) (f g : Addr) : Bool := tabOne K K1 f && (tabOne K K1 g && distT K1 f g)
theorem tabTwo_ok {K K1 : PySem.W.Frag} {f g : Addr} {h : Heap} (e : tabTwo K K1 f g = true) (inK : K.In h) (in1 : K1.In h) : ∃ p q : Addr × Addr, codeOf K1 f = some p.1 ∧ codeOf K1 g = some q.1 ∧ TabP K1 h p ∧ TabP K1 h q ∧ p.2 ≠ q.2 := by
  unfold tabTwo distT at e
  simp only [Bool.and_eq_true] at e
  obtain ⟨e1, e2, e3⟩ := e
  split at e3
  · rename_i p q hp hq
    obtain ⟨a1, a2⟩ := tabP_of e1 hp inK in1
    obtain ⟨b1, b2⟩ := tabP_of e2 hq inK in1
    exact ⟨p, q, a1, b1, a2, b2, bne_iff_ne.mp e3⟩
  · cases e3
theorem two_in {p q : Addr × Str} {r : Addr × Str} (pq : p.1 ≠ q.1) (hr : r ∈ [p, q]) (e : r.1 = p.1) : r.2 = p.2 := by
  simp only [List.mem_cons, List.not_mem_nil, or_false] at hr
  rcases hr with rfl | rfl
  · rfl
  · exact absurd e.symm pq
theorem two_in2 {p q : Addr × Str} {r : Addr × Str} (pq : p.1 ≠ q.1) (hr : r ∈ [p, q]) (e : r.1 = q.1) : r.2 = q.2 := by
  simp only [List.mem_cons, List.not_mem_nil, or_false] at hr
  rcases hr with rfl | rfl
  · exact absurd e pq
  · rfl
end Wl

/-! The head of a law with three code tables. -/
namespace Wl
open PySem PySem.Spec PyProof.Rows L2 LamX NdefX
def tabThree (K K1 : PySem.W.Frag) (f g i : Addr) : Bool := tabTwo K K1 f g && (tabOne K K1 i && (distT K1 f i && distT K1 g i))
theorem distT_ok {K1 : PySem.W.Frag} {f g : Addr} {p q : Addr × Addr} (e : distT K1 f g = true) (hp : codeTab K1 f = some p) (hq : codeTab K1 g = some q) : p.2 ≠ q.2 := by
  unfold distT at e
  rw [hp, hq] at e
  exact bne_iff_ne.mp e
theorem tabThree_ok {K K1 : PySem.W.Frag} {f g i : Addr} {h : Heap} (e : tabThree K K1 f g i = true) (inK : K.In h) (in1 : K1.In h) : ∃ p q r : Addr × Addr, codeOf K1 f = some p.1 ∧ codeOf K1 g = some q.1 ∧ codeOf K1 i = some r.1 ∧ TabP K1 h p ∧ TabP K1 h q ∧ TabP K1 h r ∧ p.2 ≠ q.2 ∧ p.2 ≠ r.2 ∧ q.2 ≠ r.2 := by
  unfold tabThree tabTwo at e
  simp only [Bool.and_eq_true] at e
  obtain ⟨⟨e1, e2, e3⟩, e4, e5, e6⟩ := e
  have get : ∀ {f : Addr}, tabOne K K1 f = true → ∃ p, codeTab K1 f = some p := by
    intro f e
    unfold tabOne at e
    split at e
    · rename_i p hp
      exact ⟨_, hp⟩
    · cases e
  obtain ⟨p, hp⟩ := get e1
  obtain ⟨q, hq⟩ := get e2
  obtain ⟨r, hr⟩ := get e4
  obtain ⟨a1, a2⟩ := tabP_of e1 hp inK in1
  obtain ⟨b1, b2⟩ := tabP_of e2 hq inK in1
  obtain ⟨c1, c2⟩ := tabP_of e4 hr inK in1
  exact ⟨p, q, r, a1, b1, c1, a2, b2, c2, distT_ok e3 hp hq, distT_ok e5 hp hr, distT_ok e6 hq hr⟩
theorem three_in1 {p q r : Addr × Str} {z : Addr × Str} (pq : p.1 ≠ q.1) (pr : p.1 ≠ r.1) (hz : z ∈ [p, q, r]) (e : z.1 = p.1) : z.2 = p.2 := by
  simp only [List.mem_cons, List.not_mem_nil, or_false] at hz
  rcases hz with rfl | rfl | rfl
  · rfl
  · exact absurd e.symm pq
  · exact absurd e.symm pr
theorem three_in2 {p q r : Addr × Str} {z : Addr × Str} (pq : p.1 ≠ q.1) (qr : q.1 ≠ r.1) (hz : z ∈ [p, q, r]) (e : z.1 = q.1) : z.2 = q.2 := by
  simp only [List.mem_cons, List.not_mem_nil, or_false] at hz
  rcases hz with rfl | rfl | rfl
  · exact absurd e pq
  · rfl
  · exact absurd e.symm qr
theorem three_in3 {p q r : Addr × Str} {z : Addr × Str} (pr : p.1 ≠ r.1) (qr : q.1 ≠ r.1) (hz : z ∈ [p, q, r]) (e : z.1 = r.1) : z.2 = r.2 := by
  simp only [List.mem_cons, List.not_mem_nil, or_false] at hz
  rcases hz with rfl | rfl | rfl
  · exact absurd e pr
  · exact absurd e qr
  · rfl
end Wl

namespace Wl
open PySem PySem.Spec PyProof.Rows L2 LamX NdefX
/-- an exception's class that is not followed -/
def isExc (o : Obj) : Bool := match o.data with
  | .cls cd => (cd.mro.any fun v => match v with | .type n => n == "Exception" | _ => false) && !(decide (cd.name = "LandError"))
  | _ => false
/-- what these objects name, exceptions left out -/
def refsL (g : Addr → Option Obj) (as : List Addr) : List Addr := as.flatMap fun a => match g a with
  | some o => if isExc o then [] else He.refsD o
  | none => []
def layK (g : Addr → Option Obj) : Nat → List Addr → List Addr
  | 0, l => l
  | n + 1, l => l ++ layK g n (refsL g l)
/-- the defs that make lambdas -/
def tA (K : PySem.W.Frag) : Addr := He.ga K "_law_keys"
def tB (K : PySem.W.Frag) : Addr := He.ga K "_law_asks"
def tC (K : PySem.W.Frag) : Addr := He.ma K (He.ga K "Gathering") "tellings"
def withT (g : Addr → Option Obj) (l : List Addr) (K : PySem.W.Frag) : PySem.W.Frag := He.frG g (tabsOf K [tA K, tB K, tC K] ++ l)
def frK0 (g : Addr → Option Obj) : PySem.W.Frag := withT g (layK g 4 [mainGlobals]) (He.frG g (layK g 4 [mainGlobals]))
def cutT (K : PySem.W.Frag) : PySem.W.Frag := cutA K (tabsOf K [tA K, tB K, tC K])
def frK (g : Addr → Option Obj) : PySem.W.Frag := cutT (frK0 g)
def tabX (K0 K : PySem.W.Frag) : Bool := tabThree K0 K (tA K) (tB K) (tC K)
/-- the hook of facts over such a frame, with one more test of the frame -/
def hookK (fa : List He.Fa) (fn : List He.DefD) (ex : PySem.W.Frag → Bool) : PySem.W.Hook where
  α := He.AlD × Bool
  obs := fun s => (He.obsD fa fn (frK s.heap.get?), ex (frK s.heap.get?) && tabX (frK0 s.heap.get?) (frK s.heap.get?))
  val := fun _ => (He.valD fn, true)
  says := fun _ h => ∃ K : PySem.W.Frag, K.In h ∧ He.SaysD fa fn K ∧ ex K = true ∧ ∃ p q r : Addr × Addr, codeOf K (tA K) = some p.1 ∧ codeOf K (tB K) = some q.1 ∧ codeOf K (tC K) = some r.1 ∧ TabP K h p ∧ TabP K h q ∧ TabP K h r ∧ p.2 ≠ q.2 ∧ p.2 ≠ r.2 ∧ q.2 ≠ r.2
  of := fun _ _ e => by
    have e2 := congrArg (fun z : He.AlD × Bool => z.2) e
    have e3 := (Bool.and_eq_true _ _).mp e2
    exact ⟨_, cutA_in He.frG_in, congrArg (fun z : He.AlD × Bool => z.1) e, e3.1, tabThree_ok e3.2 He.frG_in (cutA_in He.frG_in)⟩
  keeps := fun _ _ _ ⟨K, hK, c, e, p, q, r, a1, a2, a3, t1, t2, t3, pq⟩ k => ⟨K, PySem.W.Frag.In.keeps hK k, c, e, p, q, r, a1, a2, a3, t1.keeps k, t2.keeps k, t3.keeps k, pq⟩
theorem map3 {α β γ δ : Type} {o : Option α} {f : α → β} {g : α → γ} {h : α → δ} {a : β} {b : γ} {c : δ} (h1 : o.map (fun s => (f s, g s)) = some (a, b)) (h2 : o.map h = some c) : o.map (fun s => (f s, g s, h s)) = some (a, b, c) := by
  cases o with
  | none => cases h1
  | some x =>
    have e1 := Option.some.inj h1
    have e2 := Option.some.inj h2
    show some (f x, g x, h x) = _
    rw [(Prod.mk.inj e1).1, (Prod.mk.inj e1).2, e2]
/-- what else a class says: isinstance -/
def exC (K : PySem.W.Frag) (x : Str) : Bool :=
  He.eqO (PySem.W.findIn K (.ref (He.ga K x)) "__class__") (some (some (.builtin "object.__class__"))) && (decide (PySem.W.mroIn K (He.ga K x) (.type "object") = some true) && decide (PySem.W.kitOne K (.ref (He.ga K x)) (.ref (He.ga K x)) = some true))
def dOf (x : Str) (st : Stmt) (ds : List He.Dv) : He.DefD := ⟨(x, none), x, x, defArgs st, defBody st, defScope st, ds, []⟩
def dMet (cl m q : Str) (st : Stmt) (ds : List He.Dv) : He.DefD := ⟨(cl, some m), m, q, defArgs st, defBody st, defScope st, ds, []⟩
def exT (K : PySem.W.Frag) : Bool := He.eqO (PySem.W.specialIn K (.builtin "object.__class__") "__get__") (some (some (.builtin "getset_descriptor.__get__"))) && (decide (PySem.W.takesIn K (.builtin "object.__class__") = some true) && (exC K "Land" && (exC K "Gathering" &&
  He.eqO (PySem.W.findIn K (.ref (He.ga K "Land")) "__ne__") (some (some (.builtin "object.__ne__"))))))
def fn : List He.DefD := dOf "is_whole" sIsWhole [] :: dOf "is_number_from" sIsNum [] :: dOf "is_word" sIsWord [] :: dOf "check_word" sCheckW [] :: dOf "are_rows" sAreRows [] :: dOf "wrong_spot" sWrong [] :: dOf "spots_in" sSpotsIn [] :: dOf "checked_spots" sSpots [] :: dMet "Land" "__init__" "Land.__init__" sInit [] :: dMet "Land" "check_name" "Land.check_name" sCheck [] :: dOf "check_age" sCheckA [] :: dOf "check_sure" sCheckS [] :: dOf "key_of" sKeyOf [] :: dMet "Gathering" "__init__" "Gathering.__init__" sGInit [] :: dMet "Gathering" "place_of" "Gathering.place_of" sGPlace [] :: dMet "Gathering" "put" "Gathering.put" sGPut [.str "self", .bl true] :: dMet "Gathering" "strike" "Gathering.strike" sGStrike [.str "self"] :: dMet "Gathering" "tellings" "Gathering.tellings" sGTell [.non] :: dMet "Gathering" "those" "Gathering.those" sGThose [] :: dMet "Gathering" "things" "Gathering.things" sGThings [] :: dMet "Gathering" "gatherers" "Gathering.gatherers" sGGathers [] :: dOf "_law_cell" sCell [] :: dOf "_law_purse" sPurse [] :: dOf "_law_pick" sPick [] :: dOf "_law_menu" sMenu [] :: dOf "_law_word" sWord [] :: dOf "_law_fresh" sFresh [] :: dOf "_law_land" sLand [] :: dOf "_law_names" sNames [] :: dOf "_law_pools" sPools [] :: dOf "_law_row" sRow [] :: dOf "_law_key" sKey [] :: dOf "_law_put" sPut [] :: dOf "_law_basket" sBasket [] :: dOf "_law_aged" sAged [] :: dOf "_law_spelt" sSpelt [] :: dOf "_law_keys" sKeys [] :: dOf "_law_asks" sAsks [] :: dOf "_law_by" sBy [] :: dOf "_law_list" sLList [] :: dOf "_law_right" sRight [] :: dOf "law" sLaw [] :: []
def fa : List He.Fa := .glo "is_whole" :: .glo "is_number_from" :: .glo "is_word" :: .glo "check_word" :: .glo "are_rows" :: .glo "wrong_spot" :: .glo "spots_in" :: .glo "checked_spots" :: .glo "Land" :: .meth "Land" "check_name" :: .glo "check_age" :: .glo "check_sure" :: .glo "key_of" :: .glo "Gathering" :: .meth "Gathering" "place_of" :: .meth "Gathering" "put" :: .meth "Gathering" "strike" :: .meth "Gathering" "tellings" :: .meth "Gathering" "things" :: .meth "Gathering" "gatherers" :: .glo "_law_cell" :: .glo "_law_purse" :: .glo "_law_pick" :: .glo "_law_menu" :: .glo "_law_word" :: .glo "_law_fresh" :: .glo "_law_land" :: .glo "_law_names" :: .glo "_law_pools" :: .glo "_law_row" :: .glo "_law_key" :: .glo "_law_put" :: .glo "_law_basket" :: .glo "_law_aged" :: .glo "_law_spelt" :: .glo "_law_keys" :: .glo "_law_asks" :: .glo "_law_by" :: .glo "_law_list" :: .glo "_law_right" :: .glo "law" :: .str "LETTERS" "abcdefghijklmnopqrstuvwxyz" :: .int "LONGEST_WORD" 8 :: .int "MOST_ROWS" 6 :: .int "MOST_COLUMNS" 6 :: .int "OLDEST" 120 :: .int "MOST_TELLINGS" 200 :: .str "DOT" "." :: .str "DOUBT" "?" :: .free "bool" :: .free "repr" :: .free "set" :: .meth "Gathering" "those" :: .cls "Land" :: .mkr "Land" :: .noat "Land" "spots" :: .noat "Land" "rows" :: .cls "Gathering" :: .mkr "Gathering" :: .noat "Gathering" "land" :: .noat "Gathering" "told" :: .noat "Gathering" "deeds" :: .free "len" :: .free "range" :: .free "isinstance" :: .free "tuple" :: .free "list" :: .free "sorted" :: .free "all" :: .free "int" :: .free "max" :: .free "min" :: .free "enumerate" :: .free "str" :: []
abbrev R : PySem.W.OpenRow := PySem.W.OpenLaw.row PySem.Challenge.rw_wordlines_k09_rows_by_keys_and_asks
abbrev hk : PySem.W.Hook := hookK fa fn exT
def ob (s : PySem.W.SharedT) : He.AlD × Bool := (He.obsD fa fn (frK (HandSHeadRun.getT s)), exT (frK (HandSHeadRun.getT s)) && tabX (frK0 (HandSHeadRun.getT s)) (frK (HandSHeadRun.getT s)))
theorem ob_eq (s : PySem.W.SharedT) : ob s = hk.obs s.abs := by
  have e : HandSHeadRun.getT s = s.abs.heap.get? := funext (HandSHeadRun.getT_eq s)
  unfold ob
  rw [e]
  rfl
def others : List PySem.Str := "_wall" :: "WordError" :: "LandError" :: "JoinError" :: "NoWord" :: "NoAge" :: "NoSure" :: "NoLand" :: "NoName" :: "NoTelling" :: "NoBack" :: "Told" :: "Full" :: "LETTERS" :: "LONGEST_WORD" :: "is_whole" :: "is_number_from" :: "is_word" :: "check_word" :: "MOST_ROWS" :: "MOST_COLUMNS" :: "LAKE" :: "are_rows" :: "wrong_spot" :: "spots_in" :: "checked_spots" :: "Land" :: "MOST_TELLINGS" :: "OLDEST" :: "DOT" :: "DOUBT" :: "check_age" :: "check_sure" :: "key_of" :: "telling_row" :: "Gathering" :: "_law_cell" :: "_law_purse" :: "_law_pick" :: "_law_menu" :: "_law_word" :: "_law_fresh" :: "_law_land" :: "_law_names" :: "_law_pools" :: "_law_row" :: "_law_key" :: "_law_put" :: "_law_basket" :: "_law_aged" :: "_law_spelt" :: "_law_keys" :: "_law_asks" :: "_law_by" :: "_law_list" :: "_law_right" :: []
theorem facts {P : Program} {w : World} {K : PySem.W.Frag} {h : Heap} {mg : Str → Option Value} {f : Addr} (X : K.In h) (G : h.Ns mainGlobals mg) (hfa : mg ("law" : Str) = some (.ref f)) (c : He.SaysD fa fn K) (cx : exT K = true) (p q r : Addr × Addr) (hA : codeOf K (tA K) = some p.1) (hB : codeOf K (tB K) = some q.1) (hC : codeOf K (tC K) = some r.1) (pq : p.2 ≠ q.2) (pr : p.2 ≠ r.2) (qr : q.2 ≠ r.2) :
    ∃ fd : FuncData, (∀ (s : Shared) (v : Value), BindsTo s fd ⟨[v], []⟩ [("_law_script", v)]) ∧ ∀ base : Heap, K.In base → base.Ns mainGlobals mg → (∀ z ∈ [p, q, r], TabB base mg z.1 z.2) → FnOkG P w K mg base 7 f fd ["_law_script"] (spLaw [(p.2, qKeys), (q.2, qAsks), (r.2, qTell)] K) := by
  have B : Bi mg := ⟨He.free_ok X G (c.fact 62 (f := .free "len") rfl), He.free_ok X G (c.fact 63 (f := .free "range") rfl), He.free_ok X G (c.fact 64 (f := .free "isinstance") rfl), He.free_ok X G (c.fact 65 (f := .free "tuple") rfl), He.free_ok X G (c.fact 66 (f := .free "list") rfl), He.free_ok X G (c.fact 67 (f := .free "sorted") rfl), He.free_ok X G (c.fact 68 (f := .free "all") rfl), He.free_ok X G (c.fact 69 (f := .free "int") rfl), He.free_ok X G (c.fact 70 (f := .free "max") rfl), He.free_ok X G (c.fact 71 (f := .free "min") rfl), He.free_ok X G (c.fact 72 (f := .free "enumerate") rfl), He.free_ok X G (c.fact 73 (f := .free "str") rfl)⟩
  obtain ⟨fd0, F0⟩ := c.def_ 0 (d := dOf "is_whole" sIsWhole []) rfl
  obtain ⟨fd1, F1⟩ := c.def_ 1 (d := dOf "is_number_from" sIsNum []) rfl
  obtain ⟨fd2, F2⟩ := c.def_ 2 (d := dOf "is_word" sIsWord []) rfl
  obtain ⟨fd3, F3⟩ := c.def_ 3 (d := dOf "check_word" sCheckW []) rfl
  obtain ⟨fd4, F4⟩ := c.def_ 4 (d := dOf "are_rows" sAreRows []) rfl
  obtain ⟨fd5, F5⟩ := c.def_ 5 (d := dOf "wrong_spot" sWrong []) rfl
  obtain ⟨fd6, F6⟩ := c.def_ 6 (d := dOf "spots_in" sSpotsIn []) rfl
  obtain ⟨fd7, F7⟩ := c.def_ 7 (d := dOf "checked_spots" sSpots []) rfl
  obtain ⟨fd8, F8⟩ := c.def_ 8 (d := dMet "Land" "__init__" "Land.__init__" sInit []) rfl
  obtain ⟨fd9, F9⟩ := c.def_ 9 (d := dMet "Land" "check_name" "Land.check_name" sCheck []) rfl
  obtain ⟨fd10, F10⟩ := c.def_ 10 (d := dOf "check_age" sCheckA []) rfl
  obtain ⟨fd11, F11⟩ := c.def_ 11 (d := dOf "check_sure" sCheckS []) rfl
  obtain ⟨fd12, F12⟩ := c.def_ 12 (d := dOf "key_of" sKeyOf []) rfl
  obtain ⟨fd13, F13⟩ := c.def_ 13 (d := dMet "Gathering" "__init__" "Gathering.__init__" sGInit []) rfl
  obtain ⟨fd14, F14⟩ := c.def_ 14 (d := dMet "Gathering" "place_of" "Gathering.place_of" sGPlace []) rfl
  obtain ⟨fd15, F15⟩ := c.def_ 15 (d := dMet "Gathering" "put" "Gathering.put" sGPut [.str "self", .bl true]) rfl
  obtain ⟨fd16, F16⟩ := c.def_ 16 (d := dMet "Gathering" "strike" "Gathering.strike" sGStrike [.str "self"]) rfl
  obtain ⟨fd17, F17⟩ := c.def_ 17 (d := dMet "Gathering" "tellings" "Gathering.tellings" sGTell [.non]) rfl
  obtain ⟨fd18, F18⟩ := c.def_ 18 (d := dMet "Gathering" "those" "Gathering.those" sGThose []) rfl
  obtain ⟨fd19, F19⟩ := c.def_ 19 (d := dMet "Gathering" "things" "Gathering.things" sGThings []) rfl
  obtain ⟨fd20, F20⟩ := c.def_ 20 (d := dMet "Gathering" "gatherers" "Gathering.gatherers" sGGathers []) rfl
  obtain ⟨fd21, F21⟩ := c.def_ 21 (d := dOf "_law_cell" sCell []) rfl
  obtain ⟨fd22, F22⟩ := c.def_ 22 (d := dOf "_law_purse" sPurse []) rfl
  obtain ⟨fd23, F23⟩ := c.def_ 23 (d := dOf "_law_pick" sPick []) rfl
  obtain ⟨fd24, F24⟩ := c.def_ 24 (d := dOf "_law_menu" sMenu []) rfl
  obtain ⟨fd25, F25⟩ := c.def_ 25 (d := dOf "_law_word" sWord []) rfl
  obtain ⟨fd26, F26⟩ := c.def_ 26 (d := dOf "_law_fresh" sFresh []) rfl
  obtain ⟨fd27, F27⟩ := c.def_ 27 (d := dOf "_law_land" sLand []) rfl
  obtain ⟨fd28, F28⟩ := c.def_ 28 (d := dOf "_law_names" sNames []) rfl
  obtain ⟨fd29, F29⟩ := c.def_ 29 (d := dOf "_law_pools" sPools []) rfl
  obtain ⟨fd30, F30⟩ := c.def_ 30 (d := dOf "_law_row" sRow []) rfl
  obtain ⟨fd31, F31⟩ := c.def_ 31 (d := dOf "_law_key" sKey []) rfl
  obtain ⟨fd32, F32⟩ := c.def_ 32 (d := dOf "_law_put" sPut []) rfl
  obtain ⟨fd33, F33⟩ := c.def_ 33 (d := dOf "_law_basket" sBasket []) rfl
  obtain ⟨fd34, F34⟩ := c.def_ 34 (d := dOf "_law_aged" sAged []) rfl
  obtain ⟨fd35, F35⟩ := c.def_ 35 (d := dOf "_law_spelt" sSpelt []) rfl
  obtain ⟨fd36, F36⟩ := c.def_ 36 (d := dOf "_law_keys" sKeys []) rfl
  obtain ⟨fd37, F37⟩ := c.def_ 37 (d := dOf "_law_asks" sAsks []) rfl
  obtain ⟨fd38, F38⟩ := c.def_ 38 (d := dOf "_law_by" sBy []) rfl
  obtain ⟨fd39, F39⟩ := c.def_ 39 (d := dOf "_law_list" sLList []) rfl
  obtain ⟨fd40, F40⟩ := c.def_ 40 (d := dOf "_law_right" sRight []) rfl
  obtain ⟨fd41, F41⟩ := c.def_ 41 (d := dOf "law" sLaw []) rfl
  have e := hfa.symm.trans (He.glo_ok X G (c.fact 40 (f := .glo "law") rfl))
  cases e
  have f0 : Fun K "is_whole" "is_whole" sIsWhole _ fd0 := He5.fun_of F0
  have f1 : Fun K "is_number_from" "is_number_from" sIsNum _ fd1 := He5.fun_of F1
  have f2 : Fun K "is_word" "is_word" sIsWord _ fd2 := He5.fun_of F2
  have f3 : Fun K "check_word" "check_word" sCheckW _ fd3 := He5.fun_of F3
  have f4 : Fun K "are_rows" "are_rows" sAreRows _ fd4 := He5.fun_of F4
  have f5 : Fun K "wrong_spot" "wrong_spot" sWrong _ fd5 := He5.fun_of F5
  have f6 : Fun K "spots_in" "spots_in" sSpotsIn _ fd6 := He5.fun_of F6
  have f7 : Fun K "checked_spots" "checked_spots" sSpots _ fd7 := He5.fun_of F7
  have f8 : Fun K "__init__" "Land.__init__" sInit _ fd8 := He5.fun_of F8
  have f9 : Fun K "check_name" "Land.check_name" sCheck _ fd9 := He5.fun_of F9
  have f10 : Fun K "check_age" "check_age" sCheckA _ fd10 := He5.fun_of F10
  have f11 : Fun K "check_sure" "check_sure" sCheckS _ fd11 := He5.fun_of F11
  have f12 : Fun K "key_of" "key_of" sKeyOf _ fd12 := He5.fun_of F12
  have f13 : Fun K "__init__" "Gathering.__init__" sGInit _ fd13 := He5.fun_of F13
  have f14 : Fun K "place_of" "Gathering.place_of" sGPlace _ fd14 := He5.fun_of F14
  have f15 : FunP K _ fd15 := F15
  have f16 : FunS K _ fd16 := F16
  have f17 : FunT K _ fd17 := F17
  have f18 : Fun K "those" "Gathering.those" sGThose _ fd18 := He5.fun_of F18
  have f19 : Fun K "things" "Gathering.things" sGThings _ fd19 := He5.fun_of F19
  have f20 : Fun K "gatherers" "Gathering.gatherers" sGGathers _ fd20 := He5.fun_of F20
  have f21 : Fun K "_law_cell" "_law_cell" sCell _ fd21 := He5.fun_of F21
  have f22 : Fun K "_law_purse" "_law_purse" sPurse _ fd22 := He5.fun_of F22
  have f23 : Fun K "_law_pick" "_law_pick" sPick _ fd23 := He5.fun_of F23
  have f24 : Fun K "_law_menu" "_law_menu" sMenu _ fd24 := He5.fun_of F24
  have f25 : Fun K "_law_word" "_law_word" sWord _ fd25 := He5.fun_of F25
  have f26 : Fun K "_law_fresh" "_law_fresh" sFresh _ fd26 := He5.fun_of F26
  have f27 : Fun K "_law_land" "_law_land" sLand _ fd27 := He5.fun_of F27
  have f28 : Fun K "_law_names" "_law_names" sNames _ fd28 := He5.fun_of F28
  have f29 : Fun K "_law_pools" "_law_pools" sPools _ fd29 := He5.fun_of F29
  have f30 : Fun K "_law_row" "_law_row" sRow _ fd30 := He5.fun_of F30
  have f31 : Fun K "_law_key" "_law_key" sKey _ fd31 := He5.fun_of F31
  have f32 : Fun K "_law_put" "_law_put" sPut _ fd32 := He5.fun_of F32
  have f33 : Fun K "_law_basket" "_law_basket" sBasket _ fd33 := He5.fun_of F33
  have f34 : Fun K "_law_aged" "_law_aged" sAged _ fd34 := He5.fun_of F34
  have f35 : Fun K "_law_spelt" "_law_spelt" sSpelt _ fd35 := He5.fun_of F35
  have f36 : Fun K "_law_keys" "_law_keys" sKeys _ fd36 := He5.fun_of F36
  have f37 : Fun K "_law_asks" "_law_asks" sAsks _ fd37 := He5.fun_of F37
  have f38 : Fun K "_law_by" "_law_by" sBy _ fd38 := He5.fun_of F38
  have f39 : Fun K "_law_list" "_law_list" sLList _ fd39 := He5.fun_of F39
  have f40 : Fun K "_law_right" "_law_right" sRight _ fd40 := He5.fun_of F40
  have f41 : Fun K "law" "law" sLaw _ fd41 := He5.fun_of F41
  refine ⟨fd41, fun s v => ?_, fun base _ _ tb => ?_⟩
  · obtain ⟨oc, od, kV, doc, pm, an, cdv, ct, osl, e, l, c⟩ := f41.ex
    subst e
    exact .of_eq rfl
  have tA := tb p List.mem_cons_self
  have tB := tb q (List.mem_cons_of_mem _ List.mem_cons_self)
  have tC := tb r (List.mem_cons_of_mem _ (List.mem_cons_of_mem _ List.mem_cons_self))
  have hrepr : mg "repr" = none := He.free_ok X G (c.fact 50 (f := .free "repr") rfl)
  have hset : mg "set" = none := He.free_ok X G (c.fact 51 (f := .free "set") rfl)
  have B2 : Bg mg := ⟨He.free_ok X G (c.fact 49 (f := .free "bool") rfl), He.int_ok X G (c.fact 45 (f := .int "OLDEST" 120) rfl), He.int_ok X G (c.fact 46 (f := .int "MOST_TELLINGS" 200) rfl), He.str_ok X G (c.fact 47 (f := .str "DOT" ".") rfl), He.str_ok X G (c.fact 48 (f := .str "DOUBT" "?") rfl)⟩
  have Gk' : Gk mg := ⟨He.str_ok X G (c.fact 41 (f := .str "LETTERS" "abcdefghijklmnopqrstuvwxyz") rfl), He.int_ok X G (c.fact 42 (f := .int "LONGEST_WORD" 8) rfl), He.int_ok X G (c.fact 43 (f := .int "MOST_ROWS" 6) rfl), He.int_ok X G (c.fact 44 (f := .int "MOST_COLUMNS" 6) rfl)⟩
  have T : Txt K mg (He.ga K "Land") := ⟨He.cls_ok (c.fact 53 (f := .cls "Land") rfl), He.noat_ok (c.fact 55 (f := .noat "Land" "spots") rfl), He.noat_ok (c.fact 56 (f := .noat "Land" "rows") rfl), He.glo_ok X G (c.fact 8 (f := .glo "Land") rfl)⟩
  have TG : TxtG K mg (He.ga K "Gathering") := ⟨He.cls_ok (c.fact 57 (f := .cls "Gathering") rfl), He.noat_ok (c.fact 59 (f := .noat "Gathering" "land") rfl), He.noat_ok (c.fact 60 (f := .noat "Gathering" "told") rfl), He.noat_ok (c.fact 61 (f := .noat "Gathering" "deeds") rfl), He.glo_ok X G (c.fact 13 (f := .glo "Gathering") rfl)⟩
  unfold exT exC at cx
  simp only [Bool.and_eq_true] at cx
  obtain ⟨e2, e3, ⟨a1, a2, a3⟩, ⟨b1, b2, b3⟩, e6⟩ := cx
  have T2 : Txt2 K mg (He.ga K "Land") := ⟨T, ⟨T.cl, He.eqO_ok a1, He.eqO_ok e2, of_decide_eq_true e3, of_decide_eq_true a2, of_decide_eq_true a3⟩, ⟨He.eqO_ok e6, of_decide_eq_true a2⟩⟩
  have insD : C8.InsC K (He.ga K "Gathering") := ⟨TG.cl, He.eqO_ok b1, He.eqO_ok e2, of_decide_eq_true e3, of_decide_eq_true b2, of_decide_eq_true b3⟩
  have h_is_whole : Has P w K mg base "is_whole" 1 ["thing"] spIsWhole := ⟨_, fd0, ok_iswhole f0 B B2, He.glo_ok X G (c.fact 0 (f := .glo "is_whole") rfl), f0.kp, f0.binds fun _ _ _ _ _ _ us hl => match us, hl with | [_], _ => rfl⟩
  have h_is_number_from : Has P w K mg base "is_number_from" 2 ["thing", "least", "most"] spIsNum := ⟨_, fd1, ok_isnum f1 h_is_whole, He.glo_ok X G (c.fact 1 (f := .glo "is_number_from") rfl), f1.kp, f1.binds fun _ _ _ _ _ _ us hl => match us, hl with | [_, _, _], _ => rfl⟩
  have h_is_word : Has P w K mg base "is_word" 1 ["thing"] spIsWord := ⟨_, fd2, ok_isword f2 B Gk', He.glo_ok X G (c.fact 2 (f := .glo "is_word") rfl), f2.kp, f2.binds fun _ _ _ _ _ _ us hl => match us, hl with | [_], _ => rfl⟩
  have h_check_word : Has P w K mg base "check_word" 2 ["word"] spCheckW := ⟨_, fd3, ok_checkw f3 h_is_word, He.glo_ok X G (c.fact 3 (f := .glo "check_word") rfl), f3.kp, f3.binds fun _ _ _ _ _ _ us hl => match us, hl with | [_], _ => rfl⟩
  have h_are_rows : Has P w K mg base "are_rows" 1 ["thing"] spAreRows := ⟨_, fd4, ok_arerows f4 B Gk', He.glo_ok X G (c.fact 4 (f := .glo "are_rows") rfl), f4.kp, f4.binds fun _ _ _ _ _ _ us hl => match us, hl with | [_], _ => rfl⟩
  have h_wrong_spot : Has P w K mg base "wrong_spot" 2 ["rows"] spWrong := ⟨_, fd5, ok_wrong f5 B h_is_word, He.glo_ok X G (c.fact 5 (f := .glo "wrong_spot") rfl), f5.kp, f5.binds fun _ _ _ _ _ _ us hl => match us, hl with | [_], _ => rfl⟩
  have h_spots_in : Has P w K mg base "spots_in" 1 ["rows"] spSpotsIn := ⟨_, fd6, ok_spotsin f6 B, He.glo_ok X G (c.fact 6 (f := .glo "spots_in") rfl), f6.kp, f6.binds fun _ _ _ _ _ _ us hl => match us, hl with | [_], _ => rfl⟩
  have h_checked_spots : Has P w K mg base "checked_spots" 3 ["rows"] spSpots := ⟨_, fd7, ok_spots f7 h_are_rows h_wrong_spot h_spots_in, He.glo_ok X G (c.fact 7 (f := .glo "checked_spots") rfl), f7.kp, f7.binds fun _ _ _ _ _ _ us hl => match us, hl with | [_], _ => rfl⟩
  have h_Land__init__ : HasI P w K mg base (He.ga K "Land") := ⟨_, fd8, He.mkr_ok (c.fact 54 (f := .mkr "Land") rfl), ok_init f8 T h_checked_spots, (f8.binds fun _ _ _ _ _ _ us hl => match us, hl with | [_, _], _ => rfl)⟩
  have h_check_name : HasM P w K mg base (He.ga K "Land") "check_name" 2 ["self", "name"] (spCheck (He.ga K "Land")) := ⟨_, fd9, ok_check f9 T h_is_word, He.meth_ok (c.fact 9 (f := .meth "Land" "check_name") rfl), f9.binds fun _ _ _ _ _ _ us hl => match us, hl with | [_, _], _ => rfl⟩
  have h_check_age : Has P w K mg base "check_age" 3 ["age"] spCheckA := ⟨_, fd10, ok_checka f10 B2 h_is_number_from, He.glo_ok X G (c.fact 10 (f := .glo "check_age") rfl), f10.kp, f10.binds fun _ _ _ _ _ _ us hl => match us, hl with | [_], _ => rfl⟩
  have h_check_sure : Has P w K mg base "check_sure" 1 ["sure"] spCheckS := ⟨_, fd11, ok_checks f11 B B2, He.glo_ok X G (c.fact 11 (f := .glo "check_sure") rfl), f11.kp, f11.binds fun _ _ _ _ _ _ us hl => match us, hl with | [_], _ => rfl⟩
  have h_key_of : Has P w K mg base "key_of" 1 ["telling"] spKeyOf := ⟨_, fd12, ok_keyof f12, He.glo_ok X G (c.fact 12 (f := .glo "key_of") rfl), f12.kp, f12.binds fun _ _ _ _ _ _ us hl => match us, hl with | [_], _ => rfl⟩
  have h_Gathering__init__ : HasG P w K mg base (He.ga K "Land") (He.ga K "Gathering") := ⟨_, fd13, He.mkr_ok (c.fact 58 (f := .mkr "Gathering") rfl), ok_ginit f13 B T2 TG, (f13.binds fun _ _ _ _ _ _ us hl => match us, hl with | [_, _], _ => rfl)⟩
  have h_place_of : HasM P w K mg base (He.ga K "Gathering") "place_of" 2 ["self", "key"] (spGPlace (He.ga K "Land") (He.ga K "Gathering")) := ⟨_, fd14, ok_gplace f14 B TG h_key_of, He.meth_ok (c.fact 14 (f := .meth "Gathering" "place_of") rfl), f14.binds fun _ _ _ _ _ _ us hl => match us, hl with | [_, _], _ => rfl⟩
  have h_put : HasP P w K mg base (He.ga K "Land") (He.ga K "Gathering") := ⟨_, fd15, ok_put f15 B B2 T TG h_check_name h_check_word h_check_age h_check_sure h_place_of, He.meth_ok (c.fact 15 (f := .meth "Gathering" "put") rfl), f15⟩
  have h_strike : HasS P w K mg base (He.ga K "Land") (He.ga K "Gathering") := ⟨_, fd16, ok_strike f16 B TG h_is_word h_place_of, He.meth_ok (c.fact 16 (f := .meth "Gathering" "strike") rfl), f16⟩
  have h_tellings : HasTl P w K mg base (He.ga K "Land") (He.ga K "Gathering") := ⟨_, fd17, ok_tell f17 B TG, He.meth_ok (c.fact 17 (f := .meth "Gathering" "tellings") rfl), f17⟩
  have hTB : HasTB P w K mg base [(p.2, qKeys), (q.2, qAsks), (r.2, qTell)] 1 (He.ga K "Land") (He.ga K "Gathering") := ⟨_, fd17, ok_tellBy f17 hC tC (List.mem_cons_of_mem _ (List.mem_cons_of_mem _ List.mem_cons_self)) (fun z hz e => three_in3 (p := (p.2, qKeys)) (q := (q.2, qAsks)) (r := (r.2, qTell)) pr qr hz e) B TG, (He.meth_ok (c.fact 17 (f := .meth "Gathering" "tellings") rfl)), f17⟩
  have hTo : HasTh P w K mg base (He.ga K "Land") (He.ga K "Gathering") := ⟨_, fd18, ok_those f18 TG, He.meth_ok (c.fact 52 (f := .meth "Gathering" "those") rfl), (f18.binds fun _ _ _ _ _ _ us hl => match us, hl with | [_, _], _ => rfl), those_k f18⟩
  have h_things : HasM P w K mg base (He.ga K "Gathering") "things" 1 ["self"] (spThings (He.ga K "Land") (He.ga K "Gathering")) := ⟨_, fd19, ok_things f19 B TG, He.meth_ok (c.fact 18 (f := .meth "Gathering" "things") rfl), f19.binds fun _ _ _ _ _ _ us hl => match us, hl with | [_], _ => rfl⟩
  have h_gatherers : HasM P w K mg base (He.ga K "Gathering") "gatherers" 1 ["self"] (spGathers (He.ga K "Land") (He.ga K "Gathering")) := ⟨_, fd20, ok_gatherers f20 B TG, He.meth_ok (c.fact 19 (f := .meth "Gathering" "gatherers") rfl), f20.binds fun _ _ _ _ _ _ us hl => match us, hl with | [_], _ => rfl⟩
  have h__law_cell : Has P w K mg base "_law_cell" 1 ["_law_script", "_law_k"] (spCell K) := ⟨_, fd21, ok_cell f21 B, He.glo_ok X G (c.fact 20 (f := .glo "_law_cell") rfl), f21.kp, f21.binds fun _ _ _ _ _ _ us hl => match us, hl with | [_, _], _ => rfl⟩
  have h__law_purse : Has P w K mg base "_law_purse" 1 ["_law_cell_here"] spPurse := ⟨_, fd22, ok_purse f22 B, He.glo_ok X G (c.fact 21 (f := .glo "_law_purse") rfl), f22.kp, f22.binds fun _ _ _ _ _ _ us hl => match us, hl with | [_], _ => rfl⟩
  have h__law_pick : Has P w K mg base "_law_pick" 1 ["_law_purse_here", "_law_count"] spPick := ⟨_, fd23, ok_pick f23, He.glo_ok X G (c.fact 22 (f := .glo "_law_pick") rfl), f23.kp, f23.binds fun _ _ _ _ _ _ us hl => match us, hl with | [_, _], _ => rfl⟩
  have h__law_menu : Has P w K mg base "_law_menu" 1 [] spMenu := ⟨_, fd24, ok_menu f24, He.glo_ok X G (c.fact 23 (f := .glo "_law_menu") rfl), f24.kp, f24.binds fun _ _ _ _ _ _ us hl => match us, hl with | [], _ => rfl⟩
  have h__law_word : Has P w K mg base "_law_word" 2 ["_law_purse_here"] spWord := ⟨_, fd25, ok_word f25 B h__law_pick h__law_menu, He.glo_ok X G (c.fact 24 (f := .glo "_law_word") rfl), f25.kp, f25.binds fun _ _ _ _ _ _ us hl => match us, hl with | [_], _ => rfl⟩
  have h__law_fresh : Has P w K mg base "_law_fresh" 3 ["_law_purse_here", "_law_used"] spFresh := ⟨_, fd26, ok_fresh f26 B h__law_word, He.glo_ok X G (c.fact 25 (f := .glo "_law_fresh") rfl), f26.kp, f26.binds fun _ _ _ _ _ _ us hl => match us, hl with | [_, _], _ => rfl⟩
  have h__law_land : Has P w K mg base "_law_land" 4 ["_law_purse_here", "_law_topmost"] spLand := ⟨_, fd27, ok_land f27 B h__law_pick h__law_fresh, He.glo_ok X G (c.fact 26 (f := .glo "_law_land") rfl), f27.kp, f27.binds fun _ _ _ _ _ _ us hl => match us, hl with | [_, _], _ => rfl⟩
  have h__law_names : Has P w K mg base "_law_names" 1 ["_law_lots"] spNames := ⟨_, fd28, ok_names f28 B, He.glo_ok X G (c.fact 27 (f := .glo "_law_names") rfl), f28.kp, f28.binds fun _ _ _ _ _ _ us hl => match us, hl with | [_], _ => rfl⟩
  have h__law_pools : Has P w K mg base "_law_pools" 4 ["_law_purse_here", "_law_lots"] spPools := ⟨_, fd29, ok_pools f29 B h__law_pick h__law_fresh h__law_names, He.glo_ok X G (c.fact 28 (f := .glo "_law_pools") rfl), f29.kp, f29.binds fun _ _ _ _ _ _ us hl => match us, hl with | [_, _], _ => rfl⟩
  have h__law_row : Has P w K mg base "_law_row" 2 ["_law_purse_here", "_law_pools_here"] spRow := ⟨_, fd30, ok_row f30 B h__law_pick, He.glo_ok X G (c.fact 29 (f := .glo "_law_row") rfl), f30.kp, f30.binds fun _ _ _ _ _ _ us hl => match us, hl with | [_, _], _ => rfl⟩
  have h__law_key : Has P w K mg base "_law_key" 1 ["_law_row_here"] spKeyOf := ⟨_, fd31, ok_key f31, He.glo_ok X G (c.fact 30 (f := .glo "_law_key") rfl), f31.kp, f31.binds fun _ _ _ _ _ _ us hl => match us, hl with | [_], _ => rfl⟩
  have h__law_put : Has P w K mg base "_law_put" 5 ["_law_basket_here", "_law_row_here", "_law_way"] (spLPut (He.ga K "Land") (He.ga K "Gathering")) := ⟨_, fd32, ok_lput f32 TG h_put, He.glo_ok X G (c.fact 31 (f := .glo "_law_put") rfl), f32.kp, f32.binds fun _ _ _ _ _ _ us hl => match us, hl with | [_, _, _], _ => rfl⟩
  have h__law_basket : Has P w K mg base "_law_basket" 6 ["_law_purse_here", "_law_lots", "_law_pools_here", "_law_count"] (spBasket (He.ga K "Land") (He.ga K "Gathering")) := ⟨_, fd33, ok_basket f33 B T TG h_Land__init__ h_Gathering__init__ h__law_row h__law_key h__law_put, He.glo_ok X G (c.fact 32 (f := .glo "_law_basket") rfl), f33.kp, f33.binds fun _ _ _ _ _ _ us hl => match us, hl with | [_, _, _, _], _ => rfl⟩
  have h__law_aged : Has P w K mg base "_law_aged" 1 ["_law_row_here"] (spKeyX K eAge) := ⟨_, fd34, ok_aged f34, He.glo_ok X G (c.fact 33 (f := .glo "_law_aged") rfl), f34.kp, f34.binds fun _ _ _ _ _ _ us hl => match us, hl with | [_], _ => rfl⟩
  have OA : FnOk P w K mg base CX0 1 _ fd34 ["_law_row_here"] (spKeyX K eAge) := ok_aged f34
  have gA := (He.glo_ok X G (c.fact 33 (f := .glo "_law_aged") rfl))
  have FA_ := f34
  have bA : L2.Binds K fd34 ["_law_row_here"] [] := (f34.binds fun _ _ _ _ _ _ us hl => match us, hl with | [_], _ => rfl)
  have h__law_spelt : Has P w K mg base "_law_spelt" 1 ["_law_row_here"] (spKeyX K eSpelt) := ⟨_, fd35, ok_spelt f35 B, He.glo_ok X G (c.fact 34 (f := .glo "_law_spelt") rfl), f35.kp, f35.binds fun _ _ _ _ _ _ us hl => match us, hl with | [_], _ => rfl⟩
  have OS : FnOk P w K mg base CX0 1 _ fd35 ["_law_row_here"] (spKeyX K eSpelt) := ok_spelt f35 B
  have gS := (He.glo_ok X G (c.fact 34 (f := .glo "_law_spelt") rfl))
  have FS_ := f35
  have bS : L2.Binds K fd35 ["_law_row_here"] [] := (f35.binds fun _ _ _ _ _ _ us hl => match us, hl with | [_], _ => rfl)
  have h__law_keys : Has P w K mg base "_law_keys" 1 [] (spKeys P w mg base [(p.2, qKeys), (q.2, qAsks), (r.2, qTell)] K) := ⟨_, fd36, ok_keys f36 hA tA List.mem_cons_self (fun z hz e => three_in1 (p := (p.2, qKeys)) (q := (q.2, qAsks)) (r := (r.2, qTell)) pq pr hz e) gA FA_ OA bA gS FS_ OS bS, He.glo_ok X G (c.fact 35 (f := .glo "_law_keys") rfl), f36.kp, f36.binds fun _ _ _ _ _ _ us hl => match us, hl with | [], _ => rfl⟩
  have h__law_asks : Has P w K mg base "_law_asks" 1 ["_law_row_here"] (spAsks P w mg base [(p.2, qKeys), (q.2, qAsks), (r.2, qTell)] K) := ⟨_, fd37, ok_asks f37 hB tB (List.mem_cons_of_mem _ List.mem_cons_self) (fun z hz e => three_in2 (p := (p.2, qKeys)) (q := (q.2, qAsks)) (r := (r.2, qTell)) pq qr hz e), He.glo_ok X G (c.fact 36 (f := .glo "_law_asks") rfl), f37.kp, f37.binds fun _ _ _ _ _ _ us hl => match us, hl with | [_], _ => rfl⟩
  have h__law_by : Has P w K mg base "_law_by" 2 ["_law_kept", "_law_deed"] (spBy P w mg base K) := ⟨_, fd38, ok_by f38 B, He.glo_ok X G (c.fact 37 (f := .glo "_law_by") rfl), f38.kp, f38.binds fun _ _ _ _ _ _ us hl => match us, hl with | [_, _], _ => rfl⟩
  have h__law_list : HasQ P w K mg base "_law_list" 1 ["_law_told", "_law_due"] spLList := ⟨_, fd39, ok_llist f39 B hrepr, He.glo_ok X G (c.fact 38 (f := .glo "_law_list") rfl), f39.kp, f39.binds fun _ _ _ _ _ _ us hl => match us, hl with | [_, _], _ => rfl⟩
  have h__law_right : HasQ P w K mg base "_law_right" 6 ["_law_basket_here", "_law_kept", "_law_row_here"] (spRight [(p.2, qKeys), (q.2, qAsks), (r.2, qTell)] (He.ga K "Land") (He.ga K "Gathering")) := ⟨_, fd40, ok_right f40 B hrepr hset TG h_tellings hTB hTo h_things h_gatherers h__law_keys h__law_asks h__law_by h__law_list, He.glo_ok X G (c.fact 39 (f := .glo "_law_right") rfl), f40.kp, f40.binds fun _ _ _ _ _ _ us hl => match us, hl with | [_, _, _], _ => rfl⟩
  exact ok_law f41 B TG h__law_cell h__law_purse h__law_pick h__law_land h__law_pools h__law_basket h__law_row h__law_key h__law_put h_strike h__law_right
end Wl

namespace Wl
open PySem PySem.Spec PyProof.Rows L2
noncomputable abbrev atEnd (w : World) (os : OsState) : Option PySem.W.SharedT := HandSHeadRun.endF (HandSHeadRun.stepQ (HandSHeadRun.denQ HandSHeadRun.tabQ) R.prog w) 12000 R.prog w os
theorem runA (w : World) (os : OsState) : (atEnd w os).map (fun s => (HandSHeadRun.looksF R.prog (PySem.W.boot_heap w.params) s.abs, HandSHeadRun.seenQ (PySem.W.view R.prog [61]) others (importedModules R.prog.main.body) (fun s => PySem.W.xlAt (PySem.W.view R.prog [61]) [] s && PySem.W.recOk R.toRowW.records s) s.abs)) = some (true, PySem.W.openGood (PySem.W.view R.prog [61]) others) := by
  kernel_rfl
theorem runB (w : World) (os : OsState) : (atEnd w os).map ob = some (He.valD fn, true) := by
  kernel_rfl
theorem run (w : World) : HandSHeadRun.RunEq R (PySem.W.view R.prog [61]) hk ob 12000 others w := fun os => map3 (runA w os) (runB w os)
end Wl

open PySem PySem.W PySem.Calls PyProof.Rows
theorem PySem.Challenge.cw_wordlines_k09_rows_by_keys_and_asks_holds : PySem.Challenge.rw_wordlines_k09_rows_by_keys_and_asks.Holds := by
  w_on; o_law
  refine HandSHeadRun.head_any (r := OpenLaw.row PySem.Challenge.rw_wordlines_k09_rows_by_keys_and_asks) (q := view (OpenLaw.row PySem.Challenge.rw_wordlines_k09_rows_by_keys_and_asks).prog [61]) (H := Wl.hk) (ob := Wl.ob) (M := 12000) (loose := Wl.others) (d := HandSHeadRun.topDef (OpenLaw.row PySem.Challenge.rw_wordlines_k09_rows_by_keys_and_asks).prog 61) (kwd := []) Wl.ob_eq
    (by kernel_rfl) (fun s => by kernel_rfl) Wl.run (by kernel_rfl) (by kernel_rfl) (by kernel_rfl) (by rfl) (by first | assumption | decide +kernel) (by decide +kernel) ⟨rfl, rfl, rfl, rfl, rfl, by decide +kernel⟩ ?hw ?hc
  case hw => w_witness2
  case hc =>
    refine Wl.walk_ofGT (l := PySem.Challenge.rw_wordlines_k09_rows_by_keys_and_asks) (n := 63) (k := 7) (x := "_law_script") rfl (by decide) (by kernel_rfl) ⟨rfl, by decide, by decide⟩ ?F
    intro w mg fa h Y G hmg0
    obtain ⟨K, KX, c, cx, p, q, r, hA, hB, hC, t1, t2, t3, pq, pr, qr⟩ := Y
    have hmg : mg ("law" : PySem.Str) = some (.ref fa) := by
      have e : (HandSHeadRun.topDef (OpenLaw.row PySem.Challenge.rw_wordlines_k09_rows_by_keys_and_asks).prog 61).name = ("law" : PySem.Str) := by kernel_rfl
      rw [← e]
      exact hmg0
    obtain ⟨fd, hb, hF⟩ := Wl.facts (P := (PySem.Challenge.rw_wordlines_k09_rows_by_keys_and_asks).prog) (w := w) KX G hmg c cx p q r hA hB hC pq pr qr
    refine ⟨K, fd, [p, q, r], _, KX, fun z hr => ?_, hb, fun H a ns hl th hS => ⟨a, ns, rfl, hS, hl, Wl.tabs_empty fun z hr => ?_, fun _ => rfl⟩, hF⟩
    · simp only [List.mem_cons, List.not_mem_nil, or_false] at hr
      rcases hr with rfl | rfl | rfl
      · exact t1
      · exact t2
      · exact t3
    · simp only [List.mem_cons, List.not_mem_nil, or_false] at hr
      rcases hr with rfl | rfl | rfl
      · exact th p List.mem_cons_self
      · exact th q (List.mem_cons_of_mem _ List.mem_cons_self)
      · exact th r (List.mem_cons_of_mem _ (List.mem_cons_of_mem _ List.mem_cons_self))

