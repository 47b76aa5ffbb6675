import PyProof.Rows.All
import Wide.All
import OpenK.AllK
import Wide.FinOn
import HandS.ForMost
import HandS.Defaults
import HandS.MakeKwOnly
import HandS.Conv
import HandS.IsInst
import HandS.Walk
import HandS.Flow
import KE.SortData
import KE.DataMinMax
import KE.GoesMore
import HandS.Replace
import HandS.DictComp
import HandS.MakeKw
import HandS.Style
import HandS.TryOnly
import KE.KStateDown
import Lean
import HandS.Ends
import HandS.More
import HandS.WordsExc
import HandS.Head0
import HandS.Head1
import HandS.Head2
import HandS.HeadEnd
import HandS.HeadHook1
import HandS.HeadHook2
import HandS.HeadNt
import PySem.Challenge.RW_wordlines_k01_words_and_changes
set_option Elab.async false
set_option linter.all false
set_option maxRecDepth 100000
set_option maxHeartbeats 4000000
/-! Rules of ours beside the layer: sorted of data, min and max of two texts, in of nested tuples, methods by keyword, enumerate of a tuple. -/
namespace Wl
open PySem PySem.Spec PyProof.Rows L2

/-! sorted(list of data) -/
def rSortD (K : PySem.W.Frag) : List V → Hp → VK → Prop := fun vs H Q =>
  ∃ (a : Addr) (bs : List (V × PyData)), vs = [V.ref a] ∧ SqL K H a (bs.map (·.1)) ∧ (∀ b ∈ bs, Dp K H b.1 b.2) ∧
    PySem.W.AllAlike (bs.map (·.2)) ∧ PySem.W.Sortable (bs.map (·.2)) ∧ (∀ b ∈ bs, b.2.depth ≤ 8) ∧
    ∀ p, H p = none → Q (.ref p) (upd H p (.lst ((bs.mergeSort (PySem.W.dataLe false (·.2))).map (·.1))))
theorem each_of_vals : ∀ {bs : List (V × PyData)} {its : List Value}, Vals (bs.map (·.1)) its → PySem.W.EachIs (fun u b => RelV b.1 u) its bs
  | [], [], _ => .nil
  | [], _ :: _, h => nomatch h
  | _ :: _, [], h => nomatch h
  | b :: bs, u :: us, h => by
    cases h with
    | cons r t => exact .cons r (each_of_vals t)
theorem vals_of_each : ∀ {bs : List (V × PyData)} {its : List Value}, PySem.W.EachIs (fun u b => RelV b.1 u) its bs → Vals (bs.map (·.1)) its
  | _, _, .nil => .nil
  | _, _, .cons r t => .cons r (vals_of_each t)
theorem each_reads {X : Cx} {pins : List (Addr × Obj)} {σ : L2.St} {H : Hp} {s : Shared} (I : Inv X pins σ H s) :
    ∀ {bs : List (V × PyData)} {its : List Value}, (∀ b ∈ bs, Dp X.K H b.1 b.2) → PySem.W.EachIs (fun u b => RelV b.1 u) its bs →
      PySem.W.EachIs (fun v b => ∃ as, Reads s.heap v b.2 as) its bs
  | _, _, _, .nil => .nil
  | _, _, hd, .cons r t => .cons (Dp.reads I _ _ _ (hd _ List.mem_cons_self) r) (each_reads I (fun b m => hd b (List.mem_cons_of_mem _ m)) t)
theorem cr_sortD {X : Cx} (hu : X.A.units + 64 < cLine) : CallR X (.builtin "sorted") (rSortD X.K) := by
  intro pins s σ H vs us Q I r h
  obtain ⟨a, bs, rfl, hs, hd, ha, hk, hz, q⟩ := h
  obtain ⟨its, rv, hl, hn⟩ := I.list hs
  obtain ⟨u, rfl, ru⟩ := vals1 r
  obtain rfl : u = Value.ref a := ru
  have e := each_of_vals rv
  have hbn : bs.length ≤ sizeLine := by
    rw [List.length_map] at hn
    exact hn
  refine PySem.W.sorted_data (R := fun u b => RelV b.1 u) (enc := (·.2)) hl.isList e (each_reads I hd e) ha hk hbn (fun b hb => ?_) fun out ho eo => ?_
  · have := hz b hb
    omega
  · have rv2 := vals_of_each eo
    obtain ⟨n, hn2⟩ := sortedAll_at s.heap its out.toArray
    have hlen : ((bs.mergeSort (PySem.W.dataLe false (·.2))).map (·.1)).length ≤ sizeLine := by
      rw [List.length_map, List.length_mergeSort]
      exact hbn
    exact ⟨.ref (s.heap.objs.size + 1), _, I.laid (t' := s.toks) (o := .lst ((bs.mergeSort (PySem.W.dataLe false (·.2))).map (·.1))) (fun b o e => sortedAll_old e) (Nat.le_succ _) ⟨hlen, out, n, rv2, hn2⟩, rfl, q _ (I.hok.fresh (Nat.le_succ _))⟩

/-! min, max of a tuple of two texts -/
def rTwo (K : PySem.W.Frag) (f : Str → Str → Str) : List V → Hp → VK → Prop := fun vs H Q =>
  ∃ (a : Addr) (x y : Str), vs = [V.ref a] ∧ SqT K H a [.str x, .str y] ∧ Q (.str (f x y)) H
def lessOf (x y : Str) : Str := if y.cps.toList < x.cps.toList then y else x
def moreOf (x y : Str) : Str := if x.cps.toList < y.cps.toList then y else x
theorem alike2 (x y : Str) : PySem.W.AlikeAll [PyData.str x, .str y] := by
  refine ⟨fun a ha b hb => ?_, fun a ha => ?_⟩
  · simp only [List.mem_cons, List.not_mem_nil, or_false] at ha hb
    rcases ha with rfl | rfl <;> rcases hb with rfl | rfl <;> rfl
  · simp only [List.mem_cons, List.not_mem_nil, or_false] at ha
    rcases ha with rfl | rfl <;> exact fun z => by cases z
theorem dp2 {K : PySem.W.Frag} {H : Hp} (x y : Str) : DpAll K H [.str x, .str y] [PyData.str x, .str y] := .cons (.str x) (.cons (.str y) .nil)
theorem cr_minT {X : Cx} (hc : X.calm = true) (hu : X.A.units + 64 < cLine) : CallR X (.builtin "min") (rTwo X.K lessOf) := by
  intro pins s σ H vs us Q I r h
  obtain ⟨a, x, y, rfl, hs, q⟩ := h
  obtain ⟨its, rv, hl, hn⟩ := I.tuple hs
  obtain ⟨u, rfl, ru⟩ := vals1 r
  obtain rfl : u = Value.ref a := ru
  obtain ⟨as, hr⟩ := Dp.readsAll I _ _ its (dp2 x y) rv
  refine PySem.W.min_tuple_data (I.ok.hd hc) (show s.heap.IsTuple a its.toArray from hl) (by simpa using hr) (alike2 x y) (by
    have : PyData.depthAll [PyData.str x, .str y] = 0 := rfl
    omega) fun i v h' tk bs hv hR hk => ?_
  have e : PySem.W.minD (.str x) [.str y] = .str (lessOf x y) := by
    unfold PySem.W.minD lessOf
    simp only [List.foldl_cons, List.foldl_nil, PySem.W.dataLt_str]
    by_cases c : y.cps.toList < x.cps.toList <;> simp [c]
  rw [e] at hR
  cases hR with
  | str z t => exact ⟨.str _, H, I.kept (t' := tk) hk, ⟨_, rfl⟩, q⟩
theorem cr_maxT {X : Cx} (hc : X.calm = true) (hu : X.A.units + 64 < cLine) : CallR X (.builtin "max") (rTwo X.K moreOf) := by
  intro pins s σ H vs us Q I r h
  obtain ⟨a, x, y, rfl, hs, q⟩ := h
  obtain ⟨its, rv, hl, hn⟩ := I.tuple hs
  obtain ⟨u, rfl, ru⟩ := vals1 r
  obtain rfl : u = Value.ref a := ru
  obtain ⟨as, hr⟩ := Dp.readsAll I _ _ its (dp2 x y) rv
  refine PySem.W.max_tuple_data (I.ok.hd hc) (show s.heap.IsTuple a its.toArray from hl) (by simpa using hr) (alike2 x y) (by
    have : PyData.depthAll [PyData.str x, .str y] = 0 := rfl
    omega) fun i v h' tk bs hv hR hk => ?_
  have e : PySem.W.maxD (.str x) [.str y] = .str (moreOf x y) := by
    unfold PySem.W.maxD moreOf
    simp only [List.foldl_cons, List.foldl_nil, PySem.W.dataLt_str]
    by_cases c : x.cps.toList < y.cps.toList <;> simp [c]
  rw [e] at hR
  cases hR with
  | str z t => exact ⟨.str _, H, I.kept (t' := tk) hk, ⟨_, rfl⟩, q⟩

/-! x in a tuple of data -/
def rInDT (K : PySem.W.Frag) : R2 := fun x y H Q => ∃ d ds, Dp K H x d ∧ Dp K H y (.tuple ds) ∧ SeqAt.shaped d = true ∧
  SeqAt.shaped (.tuple ds) = true ∧ Q (.bl (ds.any fun z => PyData.eqv z d)) H
theorem op_inDT {X : Cx} (hu : X.A.units + 65 < cLine) : OpR X (compareOp .In) (rInDT X.K) := by
  intro pins s σ H x y v u Q I rx ry h
  obtain ⟨d, ds, hd, he, sd, se, q⟩ := h
  obtain ⟨as, r1⟩ := Dp.reads I d x v hd rx
  obtain ⟨bs, r2⟩ := Dp.reads I (.tuple ds) y u he ry
  exact SeqAt.in_tuple_reads r2 r1 (SeqAt.canLay_of_shaped se) (SeqAt.canLay_of_shaped sd) (room_in_shaped sd hu) ⟨.bl _, H, I, rfl, q⟩

/-! o.m(k = e): one argument by its name -/
def g2 {α : Type} : List α → List α → List α
  | [a], [b] => [a, b]
  | _, _ => []
theorem g2_rel : ∀ {vs : List V} {us : List Value} {zs : List V} {ws : List Value}, Vals vs us → Vals zs ws → Vals (g2 vs zs) (g2 us ws)
  | _, _, _, _, .nil, _ => .nil
  | _, _, _, _, .cons a (.cons b c), _ => .nil
  | _, _, _, _, .cons a .nil, .nil => .nil
  | _, _, _, _, .cons a .nil, .cons b .nil => .cons a (.cons b .nil)
  | _, _, _, _, .cons a .nil, .cons b (.cons c d) => .nil
def tMethK (C : Addr) (m : Str) (sp : Sp) (E : XK) (ta : TE) (tk : TA) : TE := fun σ H Q => ta σ H fun x H1 =>
  ∃ a dx fs, x = .ref a ∧ H1 a = some (.ins C dx fs) ∧ fs.lookup m = none ∧ tk σ H1 fun zs H2 => sp (g2 [.ref a] zs) H2 Q E
theorem pe_methK {X : Cx} {CX : CXT} {k : Nat} {f C : Addr} {fd : FuncData} {ps ks : List Str} {sp : Sp} {E : XK} {m : Str} {pos apos : Pos} {o : Expr} {kws : List Keyword} {ta : TE} {tk : TA} {pl : Sem Bool}
    (he : PE X o ta) (c : Cls X.K C) (hm : Meth X.K C m f) (F : FnOk X.prog X.w X.K X.mg X.base CX k f fd ps sp) (hr : Room k X.A) (hb : KBinds X.K fd ps ks g2 g2) (hx : Passes CX X E) (hkw : PK X kws tk)
    (hall : (backToKw pos (keywordEach kws X.env)).all (·.1.isSome) = true := by rfl) (hks : (backToKw pos (keywordEach kws X.env)).filterMap (·.1) = ks := by rfl)
    (hpl : ((backTo pos (starEach [] X.env)).any (·.1) || (backToKw pos (keywordEach kws X.env)).any (·.1.isNone)) = false := by rfl)
    (ht : eval (.Call (.Attribute o m apos) [] kws pos) X.env = (do
      let ov ← eval o X.env
      standAt apos.atName
      let (f, first) ← holding [ov] (getMethod ov m pl)
      callWith pos f first (backTo pos (starEach [] X.env)) (backToKw pos (keywordEach kws X.env))) := by rfl) :
    PE X (.Call (.Attribute o m apos) [] kws pos) (tMethK C m sp E ta tk) := by
  refine ⟨fun pins s σ H Q I h => ?_⟩
  refine PySem.W.methodCall_KW (pl := pl) (thn (he.run pins s σ H _ I h) fun u s1 ⟨x, H1, I1, rx, a, dx, fs, ex, ea, l, q⟩ => ?_) ht
  subst ex
  obtain rfl : u = Value.ref a := rx
  refine getmeth_ok I1 ea c hm l ?_
  refine PySem.W.callWith_KW0 (first := [.ref a]) (h₀ := X.base) I.ok.mod.kin hm.kp hall (thn (hkw.run pos pins s1 σ H1 _ I1 q) fun ws s2 ⟨zs, H2, I2, rz, q2⟩ => ⟨I2.kIn, ?_⟩) hpl
  rw [hks]
  exact run_fnk (us := [.ref a]) (vs := [.ref a]) F hr hb hx I2 (.cons rfl .nil) rz q2

/-! enumerate(a tuple) -/
open AutoSeq1 (wpAny_loadPart') in
theorem new_enumT (l : Addr) (items : Array Value) (n : Nat) (dct : Option Addr) (sl : Array (Option Value)) :
    Meets (Builtin.«enumerate.__new__» ⟨[.type "enumerate", .ref l], []⟩) (fun _ R s =>
      s.heap.get? l = some { cls := .type "tuple", dict := dct, data := .seq items n, slots := sl } ∧
      R (.ok (.ret (.ref (s.heap.push { cls := .type "tuple_iterator", data := .fields #[.ref l, .int 0 0] }).objs.size)))
        { s with heap := (s.heap.push { cls := .type "tuple_iterator", data := .fields #[.ref l, .int 0 0] }).push { cls := .type "enumerate", data := .fields #[.none, .bool false, .ref s.heap.objs.size, rawInt 0, .none, .none] } }) :=
  .of_wp fun prog w A R s h => by
    obtain ⟨hp, g, d, tk, os⟩ := s
    obtain ⟨hl, h⟩ := h
    have hsub := sub_enumerate
    have hT : Heap.IsTuple (Shared.heap ⟨hp, g, d, tk, os⟩) l items := ⟨_, hl, rfl, n, rfl⟩
    wp_walk using wpAny_loadPart' hl
    refine wpAny_stack_any fun st => wpAny_pure ?_
    split
    · rename_i c _ _ _ _ _
      cases (c == Value.type "enumerate") <;> (wp_walk using wpAny_loadPart' hl, wpAny_pyIter_tuple hT; exact ⟨_, rfl, h⟩)
    · (wp_walk using wpAny_loadPart' hl, wpAny_pyIter_tuple hT); exact ⟨_, rfl, h⟩
section
variable {prog : Program} {w : World} {A : Around} {E : Value → Shared → Prop} {s : Shared}
theorem make_enumT {l : Addr} {items : Array Value} {Q : Value → Shared → Prop} (hL : s.heap.IsTuple l items)
    (h : ∀ h', IsEnum h' (s.heap.objs.size + 1) s.heap.objs.size 0 .none → h'.IsTupleIter s.heap.objs.size l 0 →
      (∀ b o, s.heap.get? b = some o → h'.get? b = some o) → Q (.ref (s.heap.objs.size + 1)) { s with heap := h' }) :
    wpAny (model prog w) A (call (.type "enumerate") [.ref l]) Q E s := by
  obtain ⟨⟨c, dct, dt, sl⟩, hl, hc, n, hd⟩ := hL
  obtain rfl : c = .type "tuple" := hc
  obtain rfl : dt = .seq items n := hd
  refine callType_new F.called_enumerate (by decide) (F.typeCall_enumerate_1 _) (F.newCall_enumerate_1 _) (fun obj => F.args_object_init_2 obj _) F.entry_enumerate_new (new_enumT l items n dct sl) ⟨hl, ?_⟩
  have hz : (s.heap.push { cls := .type "tuple_iterator", data := .fields #[.ref l, .int 0 0] }).objs.size = s.heap.objs.size + 1 := Heap.size_push ..
  rw [hz]
  have he : IsEnum ((s.heap.push { cls := .type "tuple_iterator", data := .fields #[.ref l, .int 0 0] }).push { cls := .type "enumerate", data := .fields #[.none, .bool false, .ref s.heap.objs.size, rawInt 0, .none, .none] })
      (s.heap.objs.size + 1) s.heap.objs.size 0 .none := hz ▸ Heap.get?_push_size (s.heap.push { cls := .type "tuple_iterator", data := .fields #[.ref l, .int 0 0] }) rfl
  exact ⟨⟨_, he, rfl⟩, h _ he ⟨_, Heap.get?_push_of_some _ (Heap.get?_push_size _ rfl), rfl, rfl⟩ fun b o x => Heap.get?_push_of_some _ (Heap.get?_push_of_some _ x)⟩
end
def IteT (K : PySem.W.Frag) (a : Addr) : It where
  go := fun i H => ∃ (xs : List V) (x : V), SqT K H a xs ∧ xs[i]? = some x
  yld := fun i H v H' => ∃ T x, v = .ref T ∧ H T = none ∧ H' = upd H T (.tup [.int (i : Nat), x]) ∧ ∀ xs, SqT K H a xs → xs[i]? = some x
  stop := fun i H => ∃ xs : List V, SqT K H a xs ∧ xs.length ≤ i
theorem apart_of {h : Heap} {a b : Addr} {o u : Obj} (ha : h.get? a = some o) (hb : h.get? b = some u) (hc : o.cls ≠ u.cls) : a ≠ b := fun e => by
  subst e
  rw [ha] at hb
  exact hc (congrArg Obj.cls (Option.some.inj hb))
theorem turn_enumT {P : Program} {w : World} {K : PySem.W.Frag} {elts : List Expr} {kk : Nat} {tpos : Pos} (a e it : Addr) :
    Turn P w K (.Tuple elts kk tpos) (IteT K a) [e, it] e (fun i h => (∃ old, IsEnum h e it ((i : Nat) : Int) old) ∧ h.IsTupleIter it a i ∧ e ≠ it) where
  mem := by simp
  obj := fun i h st b hb => by
    obtain ⟨⟨old, he⟩, ⟨o, ho, hc, hd⟩, _⟩ := st
    rcases (show b = e ∨ b = it by simpa using hb) with z | z
    · subst z; exact ⟨_, he, fun v q => nomatch q⟩
    · subst z; exact ⟨o, ho, fun v q => by rw [hd] at q; cases q⟩
  keep := fun i h h' st k => let ⟨⟨old, he⟩, hi, hne⟩ := st; ⟨⟨old, k e (by simp) _ he⟩, hi.at fun o q => k it (by simp) o q, hne⟩
  item := by
    intro X hP hw hK hc i pins s σ H E I hf st hg
    subst hP hw hK
    obtain ⟨⟨old, he⟩, hit, hne⟩ := st
    obtain ⟨xs, x, hq, hx⟩ := hg
    obtain ⟨its, rv, p, hz⟩ := I.tuple hq
    obtain ⟨u, hu, ru⟩ := rv.get hx
    have hT : s.heap.IsTuple a its.toArray := p
    obtain ⟨oi, hoi, hci, _⟩ := id hit
    obtain ⟨oa, hoa, hca, _⟩ := id hT
    have hel : e < s.heap.objs.size := Heap.lt_size he
    have hil : it < s.heap.objs.size := Heap.lt_size hoi
    have nai : a ≠ it := apart_of hoa hoi (by rw [hca, hci]; decide)
    have nea : e ≠ a := apart_of he hoa (by rw [hca]; show Value.type "enumerate" ≠ Value.type "tuple"; decide)
    have hi : i < its.toArray.size := by
      have := (List.getElem?_eq_some_iff.mp hu).1
      simpa using this
    refine wpAny_pyNext_enum_itemD (Draws.tuple (prog := X.prog) (w := X.w) (A := X.A.in1) (I.ok.hd hc) it a nai its.toArray) he ⟨hit, hT⟩ hi hne (by simp [hne, nea]) fun y h' tk hy ho hst hTp hsz hk => ?_
    obtain rfl : u = y := by
      have q : its.toArray[i]? = some u := by simpa using hu
      exact Option.some.inj (q.symm.trans hy)
    refine ⟨_, rfl, wpAny_letOwnedTupleGo_enum (s := { s with heap := h', toks := tk + 1 }) ho fun h'' he' sb => ?_⟩
    have hT2 : h''.get? s.heap.objs.size = some { cls := .type "tuple", data := .seq #[.int i tk, u] } := (sb.2 _ (Nat.ne_of_gt hel)).trans hTp
    have new : ObjOk X.prog X.w (upd H s.heap.objs.size (.tup [.int (i : Nat), x])) h'' s.heap.objs.size (.tup [.int (i : Nat), x]) :=
      ⟨by show 2 ≤ sizeLine; decide, [.int i tk, u], .cons ⟨_, rfl⟩ (.cons ru .nil), ⟨_, hT2, rfl, _, rfl⟩⟩
    have I1 : L2.Inv X pins σ (upd H s.heap.objs.size (.tup [.int (i : Nat), x])) { s with heap := h'', toks := tk + 1 } :=
      I.turnedNew (ch := [e, it]) (fun b ob hb q => by
        simp only [List.mem_cons, List.not_mem_nil, or_false, not_or] at hb
        exact (sb.2 b hb.1).trans (hk b ob hb.1 hb.2 q)) hf (Nat.le_refl _) new
    have e1 : ((i + 1 : Nat) : Int) = (i : Int) + 1 := by omega
    refine ⟨.ref s.heap.objs.size, _, I1, rfl, ⟨_, x, rfl, I.hok.fresh (Nat.le_refl _), rfl, fun ys hy => by rw [I.tuple_inj hy hq]; exact hx⟩,
      ⟨⟨u, by rw [e1]; exact he'⟩, hst.1.at fun o q => (sb.2 it (Ne.symm hne)).trans q, hne⟩, fun b hb => ?_⟩
    have hb' : b < s.heap.objs.size := by
      rcases (show b = e ∨ b = it by simpa using hb) with z | z <;> subst z <;> assumption
    rw [upd_ne (Nat.ne_of_lt hb')]
    exact (hf b hb).1
  done := by
    intro X hP hw hK hc i pins s σ H E I hf st hg
    subst hP hw hK
    obtain ⟨⟨old, he⟩, hit, hne⟩ := st
    obtain ⟨xs, hq, hx⟩ := hg
    obtain ⟨its, rv, p, hz⟩ := I.tuple hq
    obtain ⟨f0, f1, f2, f3, f4, f5⟩ := hf it (by simp)
    have hT : s.heap.IsTuple a its.toArray := p
    have hl : xs.length = its.length := rv.length
    have hT2 : ¬ (i < its.toArray.size) := by simp; omega
    show wpAny _ _ (pyNext (.ref e)) _ _ s
    have hTy : s.TypeIs (.ref e) "enumerate" := ⟨_, he, rfl⟩
    unfold pyNext
    refine wpAny_bind (wpAny_attempt (wpAny_callSpecial?_slot (name := Str.ofString "__next__") hTy F.slot_enumerate_next (wpAny_call_entry F.slot_enumerate_next hTy F.entry_enumerate_next ?_ (F.args_enumerate_next_1 _))))
    show wpAny _ _ (field (.ref e) 2 >>= _) _ _ _
    refine wpAny_bind (wpAny_field he rfl (x := .ref it) rfl (wpAny_bind (wpAny_nextOf_tuple_end (I.ok.hd hc) hit hT (Array.getElem?_eq_none (by omega)) fun h' x he' hx' => ?_)))
    obtain ⟨o, ho, hcc⟩ := hx'
    exact wpAny_bind (wpAny_isInstance (T := "StopIteration") (b := true) ⟨o, ho, hcc⟩ isSubtype_stop (wpAny_pure ⟨rfl, I.turned (t' := s.toks) (fun b o hb q => he' b o hb q) f0 f1 f3 f4 f5⟩))
  self := fun A i s Q E st h => let ⟨⟨_, he⟩, _⟩ := st; wpAny_pyIter_enum he h
def iEnumT (K : PySem.W.Frag) (ta : TA) : TI := fun σ H R => ta σ H fun vs H1 => ∃ a xs, vs = [.ref a] ∧ SqT K H1 a xs ∧ R (IteT K a) H1
theorem pi_enumT {X : Cx} {e : Expr} {ta : TA} {p pos tpos : Pos} {elts : List Expr} {kk : Nat} (hg : Gl X "enumerate") (hm : X.mg "enumerate" = none) (ha : PA X [e] ta) (hs : starEach [e] X.env = [(false, eval e X.env)] := by rfl) :
    PI X (.Tuple elts kk tpos) (.Call (.Name "enumerate" p) [e] [] pos) (iEnumT X.K ta) := by
  refine ⟨fun pins s σ H R I h => ?_⟩
  refine Call_ (ld_blt I hg hm boot_enumerate (PyProof.Rows.callWith_type1 (thn (ha.run pos pins s σ H _ I h) fun us s1 ⟨vs, H1, I1, r1, q1⟩ => ?_) hs rfl))
  obtain ⟨a, xs, rfl, hq, q⟩ := q1
  obtain ⟨u, rfl, ru⟩ := vals1 r1
  obtain rfl : u = Value.ref a := ru
  obtain ⟨its, rv, p', hz⟩ := I1.tuple hq
  refine make_enumT (show s1.heap.IsTuple a its.toArray from p') fun h' he hit hk => wpAny_pyIter_enum he ?_
  refine ⟨s1.heap.objs.size + 1, [s1.heap.objs.size + 1, s1.heap.objs.size], _, _, H1, rfl, I1.kept (t' := s1.toks) hk, turn_enumT a (s1.heap.objs.size + 1) s1.heap.objs.size, ⟨⟨.none, he⟩, hit, Nat.succ_ne_self _⟩, fun b hb => ?_, q⟩
  have hle : s1.heap.objs.size ≤ b := by
    rcases (show b = s1.heap.objs.size + 1 ∨ b = s1.heap.objs.size by simpa using hb) with z | z <;> rw [z]
    · exact Nat.le_add_right _ _
    · exact Nat.le_refl _
  exact I1.fpOk hle (I1.hok.fresh hle)
theorem walk_enumT {K : PySem.W.Frag} {a : Addr} {xs : List V} : Walk (IteT K a) xs.length (fun H => SqT K H a xs) (YPair (fun i => some (.int (i : Nat))) (fun i => xs[i]?)) := by
  refine ⟨fun i _ hi q => ⟨xs, xs[i], q, by simp [hi]⟩, fun _ q => ⟨xs, q, Nat.le_refl _⟩, ?_⟩
  rintro i H v H' _ q ⟨T, x, h1, h2, h3, h4⟩
  exact ⟨T, .int (i : Nat), x, h1, h2, h3, rfl, h4 xs q⟩
end Wl

namespace Wl
open PySem

/-! ### strictly rising lists -/
theorem rising_ext {α : Type} {lt : α → α → Prop} (ir : ∀ a, ¬ lt a a) (tr : ∀ a b c, lt a b → lt b c → lt a c) :
    ∀ {l m : List α}, l.Pairwise lt → m.Pairwise lt → (∀ x, x ∈ l ↔ x ∈ m) → l = m
  | [], [], _, _, _ => rfl
  | [], y :: m, _, _, h => absurd ((h y).mpr List.mem_cons_self) (by simp)
  | x :: l, [], _, _, h => absurd ((h x).mp List.mem_cons_self) (by simp)
  | x :: l, y :: m, hl, hm, h => by
    obtain ⟨hx, hl'⟩ := List.pairwise_cons.mp hl
    obtain ⟨hy, hm'⟩ := List.pairwise_cons.mp hm
    have e : x = y := by
      rcases List.mem_cons.mp ((h x).mp List.mem_cons_self) with e | h1
      · exact e
      · rcases List.mem_cons.mp ((h y).mpr List.mem_cons_self) with e | h2
        · exact e.symm
        · exact absurd (tr _ _ _ (hx y h2) (hy x h1)) (ir x)
    subst e
    have : l = m := rising_ext ir tr hl' hm' fun z => by
      constructor
      · intro hz
        rcases List.mem_cons.mp ((h z).mp (List.mem_cons_of_mem _ hz)) with e | q
        · exact absurd (hx z hz) (by rw [e]; exact ir x)
        · exact q
      · intro hz
        rcases List.mem_cons.mp ((h z).mpr (List.mem_cons_of_mem _ hz)) with e | q
        · exact absurd (hy z hz) (by rw [e]; exact ir x)
        · exact q
    rw [this]

/-! ### texts by their codes -/
theorem str_ext {a b : Str} (h : a.cps.toList = b.cps.toList) : a = b := by
  cases a; cases b
  exact congrArg Str.mk (Array.ext' h)
abbrev ltS (a b : Str) : Prop := a.cps.toList < b.cps.toList
theorem ltS_irr (a : Str) : ¬ ltS a a := List.lt_irrefl _
theorem ltS_tr (a b c : Str) (h : ltS a b) (k : ltS b c) : ltS a c := List.lt_trans h k
theorem ltS_tot {a b : Str} (h : ¬ ltS a b) (k : ¬ ltS b a) : a = b :=
  str_ext (List.le_antisymm (List.not_lt.mp k) (List.not_lt.mp h))
def leB (a b : Str) : Bool := !decide (ltS b a)
theorem leB_trans (a b c : Str) (h : leB a b = true) (k : leB b c = true) : leB a c = true := by
  simp only [leB, Bool.not_eq_true', decide_eq_false_iff_not] at h k ⊢
  exact fun q => by
    by_cases e : ltS a b
    · exact k (ltS_tr _ _ _ q e)
    · have := ltS_tot e h
      subst this
      exact k q
theorem leB_total (a b : Str) : (leB a b || leB b a) = true := by
  simp only [leB, Bool.or_eq_true, Bool.not_eq_true', decide_eq_false_iff_not]
  by_cases h : ltS b a
  · exact .inr fun q => ltS_irr _ (ltS_tr _ _ _ h q)
  · exact .inl h
def sortS (xs : List Str) : List Str := xs.mergeSort leB
theorem mem_sortS {xs : List Str} {z : Str} : z ∈ sortS xs ↔ z ∈ xs := List.mem_mergeSort
theorem sortS_len (xs : List Str) : (sortS xs).length = xs.length := List.length_mergeSort _
theorem sortS_rising {xs : List Str} (h : xs.Nodup) : (sortS xs).Pairwise ltS := by
  have h1 : (sortS xs).Pairwise (fun a b => leB a b = true) := List.pairwise_mergeSort leB_trans leB_total xs
  have h2 : (sortS xs).Pairwise (· ≠ ·) := (List.mergeSort_perm xs leB).nodup_iff.mpr h
  refine List.Pairwise.imp₂ ?_ h1 h2
  intro a b q n
  simp only [leB, Bool.not_eq_true', decide_eq_false_iff_not] at q
  exact Classical.byContradiction fun c => n (ltS_tot c q)
/-- what is strictly rising with the same members is the sorted list -/
theorem sortS_eq {xs l : List Str} (h : xs.Nodup) (hl : l.Pairwise ltS) (hm : ∀ z, z ∈ l ↔ z ∈ xs) : l = sortS xs :=
  rising_ext ltS_irr ltS_tr hl (sortS_rising h) fun z => (hm z).trans mem_sortS.symm

/-! ### pairs of texts -/
abbrev Two := Str × Str
def ltP (p q : Two) : Prop := ltS p.1 q.1 ∨ (p.1 = q.1 ∧ ltS p.2 q.2)
instance (p q : Two) : Decidable (ltP p q) := by unfold ltP; infer_instance
theorem ltP_irr (p : Two) : ¬ ltP p p := by
  rintro (h | ⟨_, h⟩) <;> exact ltS_irr _ h
theorem ltP_tr (p q r : Two) (h : ltP p q) (k : ltP q r) : ltP p r := by
  obtain ⟨p1, p2⟩ := p
  obtain ⟨q1, q2⟩ := q
  obtain ⟨r1, r2⟩ := r
  rcases h with h | ⟨e, h⟩ <;> rcases k with k | ⟨f, k⟩
  · exact .inl (ltS_tr _ _ _ h k)
  · simp only at f; subst f; exact .inl h
  · simp only at e; subst e; exact .inl k
  · simp only at e f; subst e f; exact .inr ⟨rfl, ltS_tr _ _ _ h k⟩
theorem ltP_tot {p q : Two} (h : ¬ ltP p q) (k : ¬ ltP q p) : p = q := by
  obtain ⟨p1, p2⟩ := p
  obtain ⟨q1, q2⟩ := q
  simp only [ltP, not_or, not_and] at h k
  have e : p1 = q1 := ltS_tot h.1 k.1
  subst e
  rw [ltS_tot (h.2 rfl) (k.2 rfl)]
def lePB (a b : Two) : Bool := !decide (ltP b a)
theorem lePB_trans (a b c : Two) (h : lePB a b = true) (k : lePB b c = true) : lePB a c = true := by
  simp only [lePB, Bool.not_eq_true', decide_eq_false_iff_not] at h k ⊢
  exact fun q => by
    by_cases e : ltP a b
    · exact k (ltP_tr _ _ _ q e)
    · have := ltP_tot e h
      subst this
      exact k q
theorem lePB_total (a b : Two) : (lePB a b || lePB b a) = true := by
  simp only [lePB, Bool.or_eq_true, Bool.not_eq_true', decide_eq_false_iff_not]
  by_cases h : ltP b a
  · exact .inr fun q => ltP_irr _ (ltP_tr _ _ _ h q)
  · exact .inl h
def sortP (xs : List Two) : List Two := xs.mergeSort lePB
theorem mem_sortP {xs : List Two} {z : Two} : z ∈ sortP xs ↔ z ∈ xs := List.mem_mergeSort
theorem sortP_len (xs : List Two) : (sortP xs).length = xs.length := List.length_mergeSort _
theorem sortP_rising {xs : List Two} (h : xs.Nodup) : (sortP xs).Pairwise ltP := by
  have h1 : (sortP xs).Pairwise (fun a b => lePB a b = true) := List.pairwise_mergeSort lePB_trans lePB_total xs
  have h2 : (sortP xs).Pairwise (· ≠ ·) := (List.mergeSort_perm xs lePB).nodup_iff.mpr h
  refine List.Pairwise.imp₂ ?_ h1 h2
  intro a b q n
  simp only [lePB, Bool.not_eq_true', decide_eq_false_iff_not] at q
  exact Classical.byContradiction fun c => n (ltP_tot c q)
theorem sortP_eq {xs l : List Two} (h : xs.Nodup) (hl : l.Pairwise ltP) (hm : ∀ z, z ∈ l ↔ z ∈ xs) : l = sortP xs :=
  rising_ext ltP_irr ltP_tr hl (sortP_rising h) fun z => (hm z).trans mem_sortP.symm

/-! ### the machine's order is ours -/
theorem le_data_str (a b : Str) : (!PySem.W.dataLt (.str b) (.str a)) = leB a b := by
  rw [PySem.W.dataLt_str]
  rfl
theorem le_data_two (a b : Two) : (!PySem.W.dataLt (.tuple [.str b.1, .str b.2]) (.tuple [.str a.1, .str a.2])) = lePB a b := by
  rw [PySem.W.dataLt_pair rfl rfl, PySem.W.dataLt_str, PySem.W.dataLt_str]
  unfold lePB
  congr 1
  have q : ∀ x y : Str, (PyData.eqv (.str x) (.str y) = true) = (x = y) := fun x y => by simp [PyData.eqv]
  simp only [q]
  by_cases h : b.1 = a.1
  · by_cases k : b.2 = a.2
    · have e : b = a := Prod.ext h k
      subst e
      simp [ltP_irr]
    · simp only [h, k, if_true, if_false, ltP]
      by_cases z : ltS b.2 a.2
      · simp [z]
      · simp [z, ltS_irr]
  · simp only [h, if_false, ltP]
    by_cases z : ltS b.1 a.1 <;> simp [z, h]
end Wl

namespace Wl
open PySem PySem.Spec PyProof.Rows L2

/-! ### defs that keep promises, by name -/
def Has (P : Program) (w : World) (K : PySem.W.Frag) (mg : Str → Option Value) (base : Heap) (x : Str) (k : Nat) (ps : List Str) (sp : Sp) : Prop :=
  ∃ f fd, FnOk P w K mg base CX0 k f fd ps sp ∧ mg x = some (.ref f) ∧ PySem.W.keepIn K (.ref f) = true ∧ Binds K fd ps []
def HasM (P : Program) (w : World) (K : PySem.W.Frag) (mg : Str → Option Value) (base : Heap) (C : Addr) (m : Str) (k : Nat) (ps : List Str) (sp : Sp) : Prop :=
  ∃ f fd, FnOk P w K mg base CX0 k f fd ps sp ∧ Meth K C m f ∧ Binds K fd ps []
section
variable {X : Cx} {k j : Nat} {C : Addr} {ps ks : List Str} {sp : Sp} {x m : Str} {p pos apos : Pos} {e o : Expr} {es : List Expr} {kws : List Keyword} {ta : TE} {t tk : TA}
theorem pe_h (h : Has X.prog X.w X.K X.mg X.base x k ps sp) (hr : Room j X.A) (ha : PA X (e :: es) t) (hkj : k ≤ j := by decide) (hg : Gl X x := by rfl) (hdb : (x == ("__debug__" : Str)) = false := by decide)
    (he : starEach (e :: es) X.env = (false, eval e X.env) :: starEach es X.env := by rfl) (hpl : (backTo pos (starEach es X.env)).any (·.1) = false := by rfl) :
    PE X (.Call (.Name x p) (e :: es) [] pos) (tCall sp [] E0 t) := by
  obtain ⟨f, fd, F, g, kp, b⟩ := h
  exact pe_call F (hr.mono hkj) hg g kp b .nil pass0 ha hdb he hpl
theorem pe_h0 (h : Has X.prog X.w X.K X.mg X.base x k ps sp) (hr : Room j X.A) (hkj : k ≤ j := by decide) (hg : Gl X x := by rfl) (hdb : (x == ("__debug__" : Str)) = false := by decide) :
    PE X (.Call (.Name x p) [] [] pos) (tCall sp [] E0 tNil) := by
  obtain ⟨f, fd, F, g, kp, b⟩ := h
  exact pe_call0 F (hr.mono hkj) hg g kp b .nil pass0 hdb
theorem pe_hm {pl : Sem Bool} (h : HasM X.prog X.w X.K X.mg X.base C m k ps sp) (c : Cls X.K C) (hr : Room j X.A) (ho : PE X o ta) (ha : PA X (e :: es) t) (hkj : k ≤ j := by decide)
    (hst : starEach (e :: es) X.env = (false, eval e X.env) :: starEach es X.env := by rfl) (hpl : (backTo pos (starEach es X.env)).any (·.1) = false := by rfl)
    (ht : eval (.Call (.Attribute o m apos) (e :: es) [] pos) X.env = (do
      let ov ← eval o X.env
      standAt apos.atName
      let (f, first) ← holding [ov] (getMethod ov m pl)
      callWith pos f first (backTo pos (starEach (e :: es) X.env)) (backToKw pos (keywordEach [] X.env))) := by rfl) :
    PE X (.Call (.Attribute o m apos) (e :: es) [] pos) (tMeth C m sp [] E0 ta t) := by
  obtain ⟨f, fd, F, g, b⟩ := h
  exact pe_meth ho c g F (hr.mono hkj) b .nil pass0 ha hst hpl ht
theorem pe_hm0 {pl : Sem Bool} (h : HasM X.prog X.w X.K X.mg X.base C m k ps sp) (c : Cls X.K C) (hr : Room j X.A) (ho : PE X o ta) (hkj : k ≤ j := by decide)
    (ht : eval (.Call (.Attribute o m apos) [] [] pos) X.env = (do
      let ov ← eval o X.env
      standAt apos.atName
      let (f, first) ← holding [ov] (getMethod ov m pl)
      callWith pos f first (backTo pos (starEach [] X.env)) (backToKw pos (keywordEach [] X.env))) := by rfl) :
    PE X (.Call (.Attribute o m apos) [] [] pos) (tMeth C m sp [] E0 ta tNil) := by
  obtain ⟨f, fd, F, g, b⟩ := h
  exact pe_meth0 ho c g F (hr.mono hkj) b .nil pass0 ht
end

/-! ### heaps -/
theorem same_new {H : Hp} {p : Addr} {o : HO} (h : H p = none) : Same H (upd H p o) := fun b x e => by
  rw [upd_ne (ne_of_none e h)]
  exact e
theorem same_mut {H H' : Hp} {p : Addr} {o : HO} (s : Same H H') (h : H p = none) : Same H (upd H' p o) := fun b x e => by
  rw [upd_ne (ne_of_none e h)]
  exact s b x e
theorem tup_same {K : PySem.W.Frag} {H H' : Hp} {a : Addr} {xs : List V} (e : Same H H') (h : SqT K H a xs) : SqT K H' a xs := by
  rcases h with (h | ⟨o, h⟩) | h
  · exact .inl (.inl (e _ _ h))
  · exact .inl (.inr ⟨o, e _ _ h⟩)
  · exact .inr h
/-- all but what stands at a is as it was -/
def SameX (a : Addr) (H H' : Hp) : Prop := ∀ b o, b ≠ a → H b = some o → H' b = some o
theorem SameX.refl (a : Addr) (H : Hp) : SameX a H H := fun _ _ _ h => h
theorem SameX.trans {a : Addr} {H H1 H2 : Hp} (s : SameX a H H1) (t : SameX a H1 H2) : SameX a H H2 := fun b o n h => t b o n (s b o n h)
theorem sx {a : Addr} {H H' : Hp} (s : Same H H') : SameX a H H' := fun b o _ h => s b o h
theorem sameX_upd {a : Addr} {H : Hp} {o : HO} : SameX a H (upd H a o) := fun b u n h => by rw [upd_ne n]; exact h
/-- an object that H does not know may change -/
theorem sameX_mut {a : Addr} {H H' : Hp} {p : Addr} {o : HO} (s : SameX a H H') (h : H p = none) : SameX a H (upd H' p o) := fun b u n e => by
  rw [upd_ne (ne_of_none e h)]
  exact s b u n e
theorem SameX.free {a l : Addr} {H H' : Hp} (e : SameX a H H') (n : l ≠ a) (h : H' l = none) : H l = none := by
  cases q : H l with
  | none => rfl
  | some o =>
    rw [e l o n q] at h
    cases h
theorem SameX.tup {K : PySem.W.Frag} {a p : Addr} {H H' : Hp} {xs ys : List V} (e : SameX a H H') (ha : H a = some (.lst ys)) (h : SqT K H p xs) : SqT K H' p xs := by
  rcases h with (h | ⟨o, h⟩) | h
  · exact .inl (.inl (e _ _ (ne_of h ha (by intro z; cases z)) h))
  · exact .inl (.inr ⟨o, e _ _ (ne_of h ha (by intro z; cases z)) h⟩)
  · exact .inr h

/-! ### tests whose answer is known -/
theorem ite_b {b : Bool} {A B : Prop} (h1 : b = true → A) (h2 : b = false → B) : if b = true then A else B := by
  cases b with
  | true => exact iteT (h1 rfl)
  | false => exact iteF (h2 rfl)
theorem not_b {b : Bool} {A B : Prop} (h1 : b = false → A) (h2 : b = true → B) : if (!b) = true then A else B := by
  cases b with
  | true => exact iteF (h2 rfl)
  | false => exact iteT (h1 rfl)

theorem yes_it {σ : L2.St} {H : Hp} {A B : Hp → Prop} (h : A H) : tYes σ H (fun b H' => if b = true then A H' else B H') := by
  show if true = true then A H else B H
  rw [if_pos rfl]
  exact h
theorem lz {n : Nat} (h : Nat.ble n 1000 = true := by rfl) : n ≤ sizeLine := Nat.le_trans (Nat.le_of_ble_eq_true h) (by decide)
theorem lzl {n : Nat} (h : n ≤ 1000) : n ≤ sizeLine := Nat.le_trans h (by decide)

/-! ### words -/
def wdB (z : Str) : Bool := decide (1 ≤ z.length) && decide (z.length ≤ 8) && z.cps.toList.all fun c => decide (97 ≤ c) && decide (c ≤ 122)
def IsWd (z : Str) : Prop := wdB z = true
instance (z : Str) : Decidable (IsWd z) := inferInstanceAs (Decidable (wdB z = true))
def oV : Option Str → V
  | none => .non
  | some z => .str z

/-! ### the built-ins that the text leaves as they are -/
structure Bi (mg : Str → Option Value) : Prop where
  len : mg "len" = none
  range : mg "range" = none
  isi : mg "isinstance" = none
  tuple : mg "tuple" = none
  list : mg "list" = none
  sorted : mg "sorted" = none
  all : mg "all" = none
  int : mg "int" = none
  max : mg "max" = none
  min : mg "min" = none
  enum : mg "enumerate" = none
  str : mg "str" = none
end Wl
namespace Wl
open PySem PySem.Spec PyProof.Rows L2
theorem atI_tab {ns : List Int} {r : Int} (h0 : 0 ≤ r) (h : r < ns.length) : ∃ n ∈ ns, atI (ns.map V.int) r = some (.int n) := by
  have hr : r.toNat < ns.length := by omega
  refine ⟨ns[r.toNat], List.getElem_mem hr, at_of (j := r.toNat) (by omega) ?_⟩
  rw [List.getElem?_map, List.getElem?_eq_getElem hr]
  rfl
theorem atI_strs {zs : List Str} {r : Int} (h0 : 0 ≤ r) (h : r < zs.length) : ∃ z ∈ zs, atI (zs.map V.str) r = some (.str z) := by
  have hr : r.toNat < zs.length := by omega
  refine ⟨zs[r.toNat], List.getElem_mem hr, at_of (j := r.toNat) (by omega) ?_⟩
  rw [List.getElem?_map, List.getElem?_eq_getElem hr]
  rfl
theorem letters_eq : ("abcdefghijklmnopqrstuvwxyz" : Str).cps.toList = List.range' 97 26 := by decide +kernel
theorem letter_at {r : Int} (h0 : 0 ≤ r) (h : r < 26) : atI ("abcdefghijklmnopqrstuvwxyz" : Str).cps.toList r = some (97 + r.toNat) := by
  rw [letters_eq]
  refine at_of' (j := r.toNat) (by omega) ?_
  rw [List.getElem?_range' (by omega)]
  congr 1
  omega
where
  at_of' {xs : List Nat} {z : Int} {j : Nat} {v : Nat} (e : z = (j : Int)) (h : xs[j]? = some v) : atI xs z = some v := by
    rw [e]
    exact atI_nat h
def sign (c : Nat) : Str := ⟨#[c]⟩
theorem joinL_flat : ∀ ps : List (List Nat), TL.joinL [] ps = ps.flatten
  | [] => rfl
  | [p] => by simp [TL.joinL]
  | p :: q :: r => by
    show p ++ ([] ++ TL.joinL [] (q :: r)) = _
    rw [joinL_flat (q :: r)]
    simp
theorem join_codes (ys : List Str) : (Txt.join ("" : Str) ys).cps.toList = (ys.map fun y => y.cps.toList).flatten := by
  have h := TL.tl_join ("" : Str) ys
  rw [show TL.tl ("" : Str) = [] by decide +kernel, joinL_flat] at h
  rw [TL.join_eq]
  exact h
theorem join_signs (cs : List Nat) : (Txt.join ("" : Str) (cs.map sign)).cps.toList = cs := by
  rw [join_codes, List.map_map]
  induction cs with
  | nil => rfl
  | cons c r ih => exact congrArg (c :: ·) ih
theorem isWd_of {z : Str} (h1 : 1 ≤ z.cps.toList.length) (h8 : z.cps.toList.length ≤ 8) (hc : ∀ c ∈ z.cps.toList, 97 ≤ c ∧ c ≤ 122) : IsWd z := by
  unfold IsWd wdB Str.length
  rw [Array.length_toList] at h1 h8
  simp only [Bool.and_eq_true, decide_eq_true_eq, List.all_eq_true]
  exact ⟨⟨h1, h8⟩, hc⟩
theorem IsWd.len {z : Str} (h : IsWd z) : 1 ≤ z.length ∧ z.length ≤ 8 := by
  unfold IsWd wdB at h
  simp only [Bool.and_eq_true, decide_eq_true_eq] at h
  exact h.1
end Wl

namespace Wl
open PySem PySem.Spec PyProof.Rows L2

inductive Each {α β : Type} (R : α → β → Prop) : List α → List β → Prop
  | nil : Each R [] []
  | cons {a : α} {b : β} {as : List α} {bs : List β} : R a b → Each R as bs → Each R (a :: as) (b :: bs)
section
variable {α β : Type} {R S : α → β → Prop}
theorem Each.length : ∀ {as : List α} {bs : List β}, Each R as bs → as.length = bs.length
  | _, _, .nil => rfl
  | _, _, .cons _ t => congrArg (· + 1) t.length
theorem Each.mono (h : ∀ a b, R a b → S a b) : ∀ {as : List α} {bs : List β}, Each R as bs → Each S as bs
  | _, _, .nil => .nil
  | _, _, .cons r t => .cons (h _ _ r) (t.mono h)
theorem Each.append : ∀ {as : List α} {bs : List β} {cs : List α} {ds : List β}, Each R as bs → Each R cs ds → Each R (as ++ cs) (bs ++ ds)
  | _, _, _, _, .nil, s => s
  | _, _, _, _, .cons r t, s => .cons r (t.append s)
theorem Each.get : ∀ {as : List α} {bs : List β} {i : Nat} {a : α}, Each R as bs → as[i]? = some a → ∃ b, bs[i]? = some b ∧ R a b
  | _, _, _, _, .nil, e => by simp at e
  | _, _, 0, _, .cons r _, e => by simp at e; subst e; exact ⟨_, rfl, r⟩
  | _, _, i + 1, x, .cons _ t, e => by
    obtain ⟨u, h1, h2⟩ := t.get (i := i) (a := x) (by simpa using e)
    exact ⟨u, by simpa using h1, h2⟩
theorem Each.get2 : ∀ {as : List α} {bs : List β} {i : Nat} {b : β}, Each R as bs → bs[i]? = some b → ∃ a, as[i]? = some a ∧ R a b
  | _, _, _, _, .nil, e => by simp at e
  | _, _, 0, _, .cons r _, e => by simp at e; subst e; exact ⟨_, rfl, r⟩
  | _, _, i + 1, x, .cons _ t, e => by
    obtain ⟨u, h1, h2⟩ := t.get2 (i := i) (b := x) (by simpa using e)
    exact ⟨u, by simpa using h1, h2⟩
theorem Each.mem2 : ∀ {as : List α} {bs : List β} {b : β}, Each R as bs → b ∈ bs → ∃ a ∈ as, R a b
  | _, _, _, .nil, h => by simp at h
  | _, _, _, .cons r t, h => by
    rcases List.mem_cons.mp h with rfl | h
    · exact ⟨_, List.mem_cons_self, r⟩
    · obtain ⟨a, ha, hr⟩ := t.mem2 h
      exact ⟨a, List.mem_cons_of_mem _ ha, hr⟩
theorem each_fn {f : α → β} : ∀ {as : List α} {bs : List β}, Each (fun a b => b = f a) as bs → bs = as.map f
  | _, _, .nil => rfl
  | _, _, .cons r t => by rw [List.map_cons, ← each_fn t, r]
theorem each_map_l {γ : Type} {g : γ → α} : ∀ {cs : List γ} {bs : List β}, Each R (cs.map g) bs → Each (fun c b => R (g c) b) cs bs
  | [], [], _ => .nil
  | [], _ :: _, h => nomatch h
  | _ :: _, [], h => nomatch h
  | _ :: _, _ :: _, .cons r t => .cons r (each_map_l t)
theorem each_map_r {γ : Type} {g : γ → α} : ∀ {cs : List γ} {bs : List β}, Each (fun c b => R (g c) b) cs bs → Each R (cs.map g) bs
  | _, _, .nil => .nil
  | _, _, .cons r t => .cons r (each_map_r t)
end

theorem filter_take_snoc {α : Type} {p : α → Bool} {ys : List α} {i : Nat} {x : α} (h : ys[i]? = some x) : (ys.take (i + 1)).filter p = (ys.take i).filter p ++ (if p x then [x] else []) := by
  rw [List.take_add_one, h, List.filter_append]
  congr 1
  by_cases c : p x = true
  · simp [c]
  · simp [c]

section
variable {J : It} {ys : List V} {G : Hp → Prop} {slot : Nat} {tt : TT} {te : TE} {vs : List Nat} {σ : L2.St} {H1 : Hp} {D : Addr} {Qd : Hp → Prop}
/-- a comprehension [e for x in ys if t]: each e a value that R tells of, the heap only growing -/
theorem lc_rel (w : L2.Walk J ys.length G (YAt ys)) (hD : H1 D = none) (keep : V → Bool) (R : V → V → Hp → Prop)
    (hG : ∀ H, Same H1 H → G H)
    (hw : ∀ x, wipe ((wipe σ vs).set slot (some x)) vs = wipe σ vs)
    (ht : ∀ (x : V) (H : Hp), x ∈ ys → Same H1 H → ∀ Q : Bool → Hp → Prop, Q (keep x) H → tt ((wipe σ vs).set slot (some x)) H Q)
    (he : ∀ (x : V) (H : Hp), x ∈ ys → keep x = true → Same H1 H → ∀ Q : VK, (∀ y H', Same H H' → R x y H' → Q y H') → te ((wipe σ vs).set slot (some x)) H Q)
    (hR : ∀ x y H H' acc, H D = some (.lst acc) → SameX D H H' → R x y H → R x y H')
    (hn : ys.length < sizeLine)
    (hd : ∀ zs H, Same H1 H → H D = some (.lst zs) → Each (fun x z => R x z H) (ys.filter keep) zs → Qd H) :
    ∃ W : Nat → Nat → Hp → Prop, (∃ m, W 0 m (upd H1 D (.lst []))) ∧ ∀ i m H, W i m H →
      (J.stop i H ∧ Qd H) ∨ (J.go i H ∧ ∃ Nx : Hp → Prop, (∀ H', Nx H' → ∃ m', m' < m ∧ W (i + 1) m' H') ∧ ∀ x H', J.yld i H x H' → gName slot x (wipe σ vs) H' fun σ2 H2 => wipe σ2 vs = wipe σ vs ∧ tt σ2 H2 fun b H3 =>
        if b = true then te σ2 H3 fun y H4 => ∃ acc, H4 D = some (.lst acc) ∧ acc.length < sizeLine ∧ Nx (upd H4 D (.lst (acc ++ [y]))) else Nx H3) := by
  refine lc_it w (fun i H => ∃ zs, Same H1 H ∧ H D = some (.lst zs) ∧ Each (fun x z => R x z H) ((ys.take i).filter keep) zs) ⟨[], same_new hD, upd_same, by simpa using Each.nil⟩ (fun i H _ h => ?_) ?_ ?_
  · obtain ⟨zs, s, _⟩ := h
    exact hG H s
  · rintro i x H H' hi ⟨zs, s, hz, ez⟩ ⟨rfl, hx⟩
    have hm : x ∈ ys := List.mem_of_getElem? hx
    refine ⟨hw x, ht x _ hm s _ ?_⟩
    have hf := filter_take_snoc (p := keep) hx
    refine ite_b (fun e => ?_) (fun e => ?_)
    · refine he x _ hm e s _ fun y H4 s4 r4 => ⟨zs, s4 _ _ hz, ?_, zs ++ [y], same_mut (s.trans s4) hD, upd_same, ?_⟩
      · have h1 := ez.length
        have h2 : ((ys.take i).filter keep).length ≤ (ys.take i).length := List.length_filter_le _ _
        have h3 : (ys.take i).length ≤ ys.length := List.length_take_le' _ _
        omega
      · rw [hf, if_pos e]
        have hD4 : H4 D = some (.lst zs) := s4 _ _ hz
        refine Each.append (ez.mono fun a b r => ?_) (.cons ?_ .nil)
        · exact hR _ _ _ _ _ hz (fun b o n h => by rw [upd_ne n]; exact s4 _ _ h) r
        · exact hR _ _ _ _ _ hD4 sameX_upd r4
    · refine ⟨zs, s, hz, ?_⟩
      rw [hf, if_neg (by rw [e]; decide), List.append_nil]
      exact ez
  · rintro H ⟨zs, s, hz, ez⟩
    rw [List.take_length] at ez
    exact hd zs H s hz ez
/-- the same, each e a plain value, the heap as it was -/
theorem lc_map (w : L2.Walk J ys.length G (YAt ys)) (hD : H1 D = none) (keep : V → Bool) (f : V → V)
    (hG : ∀ H, Same H1 H → G H)
    (hw : ∀ x, wipe ((wipe σ vs).set slot (some x)) vs = wipe σ vs)
    (ht : ∀ (x : V) (H : Hp), x ∈ ys → Same H1 H → ∀ Q : Bool → Hp → Prop, Q (keep x) H → tt ((wipe σ vs).set slot (some x)) H Q)
    (he : ∀ (x : V) (H : Hp), x ∈ ys → keep x = true → Same H1 H → ∀ Q : VK, Q (f x) H → te ((wipe σ vs).set slot (some x)) H Q)
    (hn : ys.length < sizeLine)
    (hd : ∀ H, Same H1 H → H D = some (.lst ((ys.filter keep).map f)) → Qd H) :
    ∃ W : Nat → Nat → Hp → Prop, (∃ m, W 0 m (upd H1 D (.lst []))) ∧ ∀ i m H, W i m H →
      (J.stop i H ∧ Qd H) ∨ (J.go i H ∧ ∃ Nx : Hp → Prop, (∀ H', Nx H' → ∃ m', m' < m ∧ W (i + 1) m' H') ∧ ∀ x H', J.yld i H x H' → gName slot x (wipe σ vs) H' fun σ2 H2 => wipe σ2 vs = wipe σ vs ∧ tt σ2 H2 fun b H3 =>
        if b = true then te σ2 H3 fun y H4 => ∃ acc, H4 D = some (.lst acc) ∧ acc.length < sizeLine ∧ Nx (upd H4 D (.lst (acc ++ [y]))) else Nx H3) :=
  lc_rel w hD keep (fun x y _ => y = f x) hG hw ht (fun x H hx hk s Q q => he x H hx hk s Q (q _ H (Same.refl H) rfl)) (fun _ _ _ _ _ _ _ r => r) hn fun zs H s hz ez => hd H s (by rw [hz, each_fn ez])
end
/-- a text's signs as a list -/
def signsOf (z : Str) : List V := z.cps.toList.map fun c => .str (sign c)
theorem walk_signs {z : Str} : L2.Walk (Its z) (signsOf z).length (fun _ => True) (YAt (signsOf z)) := by
  have e : (signsOf z).length = z.cps.size := by simp [signsOf]
  rw [e]
  refine ⟨fun _ _ hi _ => hi, fun _ _ => Nat.le_refl _, ?_⟩
  rintro i H x H' _ _ ⟨rfl, c, hc, rfl⟩
  refine ⟨rfl, ?_⟩
  have : z.cps.toList[i]? = some c := by simpa using hc
  simp only [signsOf, List.getElem?_map, this]
  rfl
theorem yes_pure {σ : L2.St} {H : Hp} {Q : Bool → Hp → Prop} (h : Q true H) : tYes σ H Q := h
theorem inV_strs (z : Str) (ws : List Str) : inV (.str z) (ws.map V.str) = decide (z ∈ ws) := by
  unfold inV
  induction ws with
  | nil => rfl
  | cons x r ih =>
    rw [List.map_cons, List.any_cons, ih]
    by_cases h : x = z
    · subst h
      simp [eqV]
    · have h2 : ¬ z = x := fun e => h e.symm
      simp [eqV, h, h2]
theorem flat_strs (ws : List Str) : (ws.map V.str).all flatV = true := by
  rw [List.all_eq_true]
  intro v hv
  obtain ⟨x, _, rfl⟩ := List.mem_map.mp hv
  rfl
theorem dp_strs {K : PySem.W.Frag} {H : Hp} : ∀ ws : List Str, DpAll K H (ws.map V.str) (ws.map PyData.str)
  | [] => .nil
  | z :: r => .cons (.str z) (dp_strs r)
theorem wd_ok {z : Str} (h : IsWd z) : PyData.strOk z = true := by
  unfold PyData.strOk
  rw [← Array.all_toList, List.all_eq_true]
  intro c hc
  unfold IsWd wdB at h
  simp only [Bool.and_eq_true, decide_eq_true_eq, List.all_eq_true] at h
  have := h.2 c hc
  exact decide_eq_true (by omega)
theorem lay_strs : ∀ {ws : List Str}, (∀ z ∈ ws, IsWd z) → PyData.canLayAll0 (ws.map PyData.str) = true
  | [], _ => by simp [PyData.canLayAll0]
  | z :: r, h => by
    have h1 := wd_ok (h z List.mem_cons_self)
    have h2 := lay_strs (ws := r) fun y hy => h y (List.mem_cons_of_mem _ hy)
    simp [PyData.canLayAll0, PyData.canLay0, h1, h2]
theorem depth_strs : ∀ ws : List Str, PyData.depthAll (ws.map PyData.str) = 0
  | [] => by simp [PyData.depthAll]
  | z :: r => by simp [PyData.depthAll, PyData.depth, depth_strs r]
theorem shaped_list {ds : List PyData} (h : PyData.canLayAll0 ds = true) (d : PyData.depthAll ds ≤ 60) : SeqAt.shaped (.list ds) = true := by
  unfold SeqAt.shaped
  rw [Bool.and_eq_true]
  refine ⟨by simpa [PyData.canLay0] using h, decide_eq_true ?_⟩
  simp only [PyData.depth]
  omega
theorem shaped_tuple {ds : List PyData} (h : PyData.canLayAll0 ds = true) (d : PyData.depthAll ds ≤ 60) : SeqAt.shaped (.tuple ds) = true := by
  unfold SeqAt.shaped
  rw [Bool.and_eq_true]
  refine ⟨by simpa [PyData.canLay0] using h, decide_eq_true ?_⟩
  simp only [PyData.depth]
  omega
theorem cut_hi (z : Str) (k : Nat) : (cutS z none (some (k : Int))).cps.toList = z.cps.toList.take k := by
  show ((z.cps.toList.drop (HT.sIx z.length 0 none)).take (HT.sIx z.length z.length (some (k : Int)) - HT.sIx z.length 0 none)) = _
  rw [HT.sIx_none, HT.sIx_nat, Nat.sub_zero, List.drop_zero]
  have : z.length = z.cps.toList.length := by simp [Str.length]
  rw [this]
  by_cases h : k ≤ z.cps.toList.length
  · rw [Nat.min_eq_left h]
  · rw [Nat.min_eq_right (by omega), List.take_length, List.take_of_length_le (by omega)]
end Wl

namespace Wl
open PySem PySem.Spec PyProof.Rows L2
inductive Wh where
  | first | last | any
  deriving DecidableEq
def whS : Wh → Str
  | .first => "first"
  | .last => "last"
  | .any => "any"
abbrev Chg := Nat × Nat × Wh
def isLet (c : Nat) : Prop := 97 ≤ c ∧ c ≤ 122
instance (c : Nat) : Decidable (isLet c) := by unfold isLet; infer_instance
def OkC (ch : Chg) : Prop := isLet ch.1 ∧ isLet ch.2.1 ∧ ch.1 ≠ ch.2.1
def acts (wh : Wh) (i n : Nat) : Bool := match wh with
  | .first => decide (i = 0)
  | .last => decide (i + 1 = n)
  | .any => true
abbrev Edges := List (Nat × Nat)
def es (chs : List Chg) (i n : Nat) : Edges := (chs.filter fun ch => acts ch.2.2 i n).map fun ch => (ch.1, ch.2.1)
def nbE (c : Nat) (e : Nat × Nat) : List Nat := (if e.1 = c then [e.2] else []) ++ (if e.2 = c then [e.1] else [])
def nbrs (E : Edges) (c : Nat) : List Nat := E.flatMap (nbE c)
theorem mem_nbrs {E : Edges} {c d : Nat} : d ∈ nbrs E c ↔ (c, d) ∈ E ∨ (d, c) ∈ E := by
  unfold nbrs nbE
  rw [List.mem_flatMap]
  constructor
  · rintro ⟨⟨x, y⟩, he, h⟩
    rcases List.mem_append.mp h with k | k
    · by_cases q : x = c
      · rw [if_pos q, List.mem_singleton] at k
        rw [k, ← q]
        exact .inl he
      · rw [if_neg q] at k
        cases k
    · by_cases q : y = c
      · rw [if_pos q, List.mem_singleton] at k
        rw [k, ← q]
        exact .inr he
      · rw [if_neg q] at k
        cases k
  · rintro (h | h)
    · exact ⟨(c, d), h, List.mem_append_left _ (by simp)⟩
    · exact ⟨(d, c), h, List.mem_append_right _ (by simp)⟩
theorem nbrs_symm {E : Edges} {c d : Nat} (h : d ∈ nbrs E c) : c ∈ nbrs E d := mem_nbrs.mpr ((mem_nbrs.mp h).symm)
theorem nbrs_snoc (E : Edges) (x y c : Nat) : nbrs (E ++ [(x, y)]) c = nbrs E c ++ ((if x = c then [y] else []) ++ (if y = c then [x] else [])) := by
  unfold nbrs
  rw [List.flatMap_append]
  simp [nbE]
inductive Conn (E : Edges) : Nat → Nat → Prop
  | refl (a : Nat) : Conn E a a
  | step {a b c : Nat} : Conn E a b → c ∈ nbrs E b → Conn E a c
theorem Conn.trans {E : Edges} {a b c : Nat} (h : Conn E a b) (k : Conn E b c) : Conn E a c := by
  induction k with
  | refl => exact h
  | step _ m ih => exact .step ih m
theorem Conn.symm {E : Edges} {a b : Nat} (h : Conn E a b) : Conn E b a := by
  induction h with
  | refl => exact .refl _
  | step _ m ih => exact (Conn.step (.refl _) (nbrs_symm m)).trans ih
def OkE (E : Edges) : Prop := ∀ e ∈ E, isLet e.1 ∧ isLet e.2
theorem conn_let {E : Edges} (ok : OkE E) {a b : Nat} (h : Conn E a b) (ha : isLet a) : isLet b := by
  induction h with
  | refl => exact ha
  | step _ m _ =>
    rcases mem_nbrs.mp m with m | m
    · exact (ok _ m).2
    · exact (ok _ m).1
theorem es_ok {chs : List Chg} (h : ∀ ch ∈ chs, OkC ch) (i n : Nat) : OkE (es chs i n) := fun e he => by
  obtain ⟨ch, hc, rfl⟩ := List.mem_map.mp he
  have := h ch (List.mem_filter.mp hc).1
  exact ⟨this.1, this.2.1⟩
theorem least_of (p : Nat → Prop) : ∀ n, p n → ∃ m, p m ∧ ∀ d, p d → m ≤ d := by
  intro n
  induction n using Nat.strongRecOn with
  | _ n ih =>
    intro hn
    by_cases h : ∃ k, k < n ∧ p k
    · obtain ⟨k, hk, pk⟩ := h
      exact ih k hk pk
    · exact ⟨n, hn, fun d hd => Nat.le_of_not_lt fun q => h ⟨d, q, hd⟩⟩
noncomputable def lo (E : Edges) (c : Nat) : Nat := Classical.choose (least_of (Conn E c) c (.refl c))
theorem lo_conn (E : Edges) (c : Nat) : Conn E c (lo E c) := (Classical.choose_spec (least_of (Conn E c) c (.refl c))).1
theorem lo_le {E : Edges} {c d : Nat} (h : Conn E c d) : lo E c ≤ d := (Classical.choose_spec (least_of (Conn E c) c (.refl c))).2 d h
theorem lo_self (E : Edges) (c : Nat) : lo E c ≤ c := lo_le (.refl c)
theorem lo_eq {E : Edges} {c d : Nat} : lo E c = lo E d ↔ Conn E c d := by
  constructor
  · intro e
    have h1 := lo_conn E c
    have h2 := lo_conn E d
    rw [← e] at h2
    exact h1.trans h2.symm
  · intro h
    exact Nat.le_antisymm (lo_le (h.trans (lo_conn E d))) (lo_le (h.symm.trans (lo_conn E c)))
theorem lo_of {E : Edges} {c m : Nat} (h : Conn E c m) (k : ∀ d, Conn E c d → m ≤ d) : lo E c = m := Nat.le_antisymm (lo_le h) (k _ (lo_conn E c))
/-! ### words -/
abbrev codes (z : Str) : List Nat := z.cps.toList
def ofC (l : List Nat) : Str := ⟨l.toArray⟩
theorem codes_ofC (l : List Nat) : codes (ofC l) = l := rfl
noncomputable def mean (chs : List Chg) (z : Str) : Str := ofC ((codes z).mapIdx fun i c => lo (es chs i (codes z).length) c)
theorem mean_len (chs : List Chg) (z : Str) : (codes (mean chs z)).length = (codes z).length := by
  unfold mean
  rw [codes_ofC, List.length_mapIdx]
theorem mean_at (chs : List Chg) (z : Str) {i c : Nat} (h : (codes z)[i]? = some c) : (codes (mean chs z))[i]? = some (lo (es chs i (codes z).length) c) := by
  unfold mean
  rw [codes_ofC, List.getElem?_mapIdx, h]
  rfl
/-- they are one: as long, and at each place the letters hang together -/
def OneP (chs : List Chg) (z y : Str) : Prop := (codes z).length = (codes y).length ∧ ∀ i a b, (codes z)[i]? = some a → (codes y)[i]? = some b → Conn (es chs i (codes z).length) b a
theorem one_iff {chs : List Chg} {z y : Str} : OneP chs z y ↔ (codes z).length = (codes y).length ∧ mean chs z = mean chs y := by
  constructor
  · rintro ⟨hl, h⟩
    refine ⟨hl, str_ext ?_⟩
    refine List.ext_getElem? fun i => ?_
    by_cases hi : i < (codes z).length
    · have h1 : (codes z)[i]? = some (codes z)[i] := List.getElem?_eq_getElem hi
      have h2 : (codes y)[i]? = some ((codes y)[i]'(by omega)) := List.getElem?_eq_getElem (by omega)
      have e1 := mean_at chs z h1
      have e2 := mean_at chs y h2
      rw [e1, e2, hl]
      rw [hl] at h
      exact congrArg some (lo_eq.mpr (h i _ _ h1 h2).symm)
    · have q1 : (codes (mean chs z))[i]? = none := List.getElem?_eq_none (by rw [mean_len]; omega)
      have q2 : (codes (mean chs y))[i]? = none := List.getElem?_eq_none (by rw [mean_len]; omega)
      exact q1.trans q2.symm
  · rintro ⟨hl, e⟩
    refine ⟨hl, fun i a b ha hb => ?_⟩
    have e1 := mean_at chs z ha
    have e2 := mean_at chs y hb
    rw [e, e2, ← hl] at e1
    exact lo_eq.mp (Option.some.inj e1)
theorem mean_mean {chs : List Chg} (z : Str) : mean chs (mean chs z) = mean chs z := by
  refine str_ext (List.ext_getElem? fun i => ?_)
  have l1 := mean_len chs z
  have l2 := mean_len chs (mean chs z)
  by_cases hi : i < (codes z).length
  · have h1 : (codes z)[i]? = some (codes z)[i] := List.getElem?_eq_getElem hi
    have e1 := mean_at chs z h1
    have e2 := mean_at chs (mean chs z) e1
    rw [e2, e1, l1]
    exact congrArg some (lo_eq.mpr (lo_conn _ _).symm)
  · have q1 : (codes (mean chs (mean chs z)))[i]? = none := List.getElem?_eq_none (by rw [mean_len, mean_len]; omega)
    have q2 : (codes (mean chs z))[i]? = none := List.getElem?_eq_none (by rw [mean_len]; omega)
    exact q1.trans q2.symm
theorem one_mean (chs : List Chg) (z : Str) : OneP chs (mean chs z) z := one_iff.mpr ⟨mean_len chs z, mean_mean z⟩
theorem one_symm {chs : List Chg} {z y : Str} : OneP chs z y ↔ OneP chs y z := by
  rw [one_iff, one_iff]
  constructor <;> rintro ⟨a, b⟩ <;> exact ⟨a.symm, b.symm⟩
theorem lt_no : ∀ {l m : List Nat}, l.length = m.length → (∀ (i a b : Nat), l[i]? = some a → m[i]? = some b → a ≤ b) → ¬ m < l
  | [], [], _, _ => List.lt_irrefl _
  | a :: l, b :: m, hl, h => by
    have h0 : a ≤ b := h 0 a b rfl rfl
    have ih := lt_no (l := l) (m := m) (by simpa using hl) fun i x y hx hy => h (i + 1) x y (by simpa using hx) (by simpa using hy)
    intro q
    rcases List.cons_lt_cons_iff.mp q with q | ⟨e, q⟩
    · omega
    · exact ih q
  | [], b :: m, hl, _ => by simp at hl
  | a :: l, [], hl, _ => by simp at hl
theorem mean_le (chs : List Chg) (z : Str) : ¬ ltS z (mean chs z) := by
  refine lt_no (mean_len chs z) fun i a b ha hb => ?_
  rw [mean_at chs z hb] at ha
  cases ha
  exact lo_self _ _
theorem es_nil (i n : Nat) : es [] i n = [] := rfl
theorem conn_nil {a b : Nat} (h : Conn [] a b) : a = b := by
  induction h with
  | refl => rfl
  | step _ m _ => cases m
theorem one_plain {z y : Str} : OneP [] z y ↔ z = y := by
  constructor
  · rintro ⟨hl, h⟩
    refine str_ext (List.ext_getElem? fun i => ?_)
    by_cases hi : i < (codes z).length
    · have h1 : (codes z)[i]? = some (codes z)[i] := List.getElem?_eq_getElem hi
      have h2 : (codes y)[i]? = some ((codes y)[i]'(by omega)) := List.getElem?_eq_getElem (by omega)
      exact h1.trans ((congrArg some (conn_nil (h i _ _ h1 h2)).symm).trans h2.symm)
    · have q1 : (codes z)[i]? = none := List.getElem?_eq_none (by omega)
      have q2 : (codes y)[i]? = none := List.getElem?_eq_none (by omega)
      exact q1.trans q2.symm
  · rintro rfl
    refine ⟨rfl, fun i a b h1 h2 => ?_⟩
    rw [h1] at h2
    cases h2
    exact .refl _
theorem mean_plain (z : Str) : mean [] z = z := by
  refine str_ext (List.ext_getElem? fun i => ?_)
  have l1 := mean_len [] z
  by_cases hi : i < (codes z).length
  · have h1 : (codes z)[i]? = some (codes z)[i] := List.getElem?_eq_getElem hi
    exact (mean_at [] z h1).trans ((congrArg some (conn_nil (lo_conn _ _)).symm).trans h1.symm)
  · have q1 : (codes (mean [] z))[i]? = none := List.getElem?_eq_none (by rw [mean_len]; omega)
    have q2 : (codes z)[i]? = none := List.getElem?_eq_none (by omega)
    exact q1.trans q2.symm
theorem wd_codes {z : Str} : IsWd z ↔ (1 ≤ (codes z).length ∧ (codes z).length ≤ 8) ∧ ∀ c ∈ codes z, isLet c := by
  unfold IsWd wdB isLet Str.length codes
  rw [Array.length_toList]
  simp only [Bool.and_eq_true, decide_eq_true_eq, List.all_eq_true]
theorem mean_wd {chs : List Chg} (h : ∀ ch ∈ chs, OkC ch) {z : Str} (hz : IsWd z) : IsWd (mean chs z) := by
  obtain ⟨h1, h2⟩ := wd_codes.mp hz
  refine wd_codes.mpr ⟨by rw [mean_len]; exact h1, fun c hc => ?_⟩
  obtain ⟨i, hi, rfl⟩ := List.mem_iff_getElem.mp hc
  have hi2 : i < (codes z).length := by rw [mean_len] at hi; exact hi
  have e := mean_at chs z (List.getElem?_eq_getElem hi2)
  rw [List.getElem?_eq_getElem hi] at e
  rw [Option.some.inj e]
  exact conn_let (es_ok h _ _) (lo_conn _ _) (h2 _ (List.getElem_mem hi2))
/-! ### the walk over letters, by breadth -/
structure Bfs (E : Edges) (goal : Nat) (tw : List (Nat × Option Nat)) (at' : Nat) : Prop where
  nd : (tw.map (·.1)).Nodup
  lets : ∀ x ∈ tw.map (·.1), isLet x
  conn : ∀ x ∈ tw.map (·.1), Conn E goal x
  head : tw[0]? = some (goal, none)
  par : ∀ (i c d : Nat), tw[i]? = some (c, some d) → ∃ j o, j < i ∧ tw[j]? = some (d, o)
  non : ∀ (i c : Nat), tw[i]? = some (c, none) → i = 0
  closed : ∀ (j x : Nat) (o : Option Nat), j < at' → tw[j]? = some (x, o) → ∀ y ∈ nbrs E x, y ∈ tw.map (·.1)
theorem Bfs.start {E : Edges} {goal : Nat} (h : isLet goal) : Bfs E goal [(goal, none)] 0 := by
  refine ⟨by simp, ?_, ?_, rfl, ?_, ?_, fun j x o hj => by omega⟩
  · intro x hx
    simp at hx
    subst hx
    exact h
  · intro x hx
    simp at hx
    subst hx
    exact .refl _
  · intro i c d hi
    match i, hi with
    | 0, e => cases e
    | n + 1, e => simp at e
  · intro i c hi
    match i, hi with
    | 0, _ => rfl
    | n + 1, e => simp at e
theorem Bfs.len {E : Edges} {goal : Nat} {tw : List (Nat × Option Nat)} {a : Nat} (b : Bfs E goal tw a) : tw.length ≤ 26 := by
  have h := b.nd.length_le_of_subset (l₂ := List.range' 97 26) fun x hx => by
    have := b.lets x hx
    rw [List.mem_range'_1]
    unfold isLet at this
    omega
  simpa using h
theorem Bfs.push {E : Edges} {goal x y : Nat} {tw : List (Nat × Option Nat)} {a : Nat} {o : Option Nat} (b : Bfs E goal tw a) (hx : tw[a]? = some (x, o)) (hy : y ∈ nbrs E x) (hl : isLet y) (hn : y ∉ tw.map (·.1)) : Bfs E goal (tw ++ [(y, some x)]) a := by
  have ha : a < tw.length := (List.getElem?_eq_some_iff.mp hx).1
  have old : ∀ {i : Nat} {p : Nat × Option Nat}, tw[i]? = some p → (tw ++ [(y, some x)])[i]? = some p := fun {i p} h => by
    rw [List.getElem?_append_left (List.getElem?_eq_some_iff.mp h).1]
    exact h
  have back : ∀ {i : Nat} {p : Nat × Option Nat}, (tw ++ [(y, some x)])[i]? = some p → tw[i]? = some p ∨ (i = tw.length ∧ p = (y, some x)) := fun {i p} h => by
    by_cases q : i < tw.length
    · rw [List.getElem?_append_left q] at h
      exact .inl h
    · rw [List.getElem?_append_right (by omega)] at h
      have : i - tw.length = 0 := by
        have := (List.getElem?_eq_some_iff.mp h).1
        simp at this
        omega
      rw [this] at h
      simp at h
      exact .inr ⟨by omega, h.symm⟩
  refine ⟨?_, ?_, ?_, old b.head, ?_, ?_, ?_⟩
  · rw [List.map_append, List.nodup_append]
    refine ⟨b.nd, by simp, fun u hu v hv e => ?_⟩
    simp at hv
    subst hv e
    exact hn hu
  · intro u hu
    rw [List.map_append] at hu
    rcases List.mem_append.mp hu with hu | hu
    · exact b.lets u hu
    · simp at hu
      subst hu
      exact hl
  · intro u hu
    rw [List.map_append] at hu
    rcases List.mem_append.mp hu with hu | hu
    · exact b.conn u hu
    · simp at hu
      subst hu
      exact .step (b.conn x (List.mem_map.mpr ⟨_, List.mem_of_getElem? hx, rfl⟩)) hy
  · intro i c d hi
    rcases back hi with h | ⟨e, h⟩
    · obtain ⟨j, o', hj, h'⟩ := b.par i c d h
      exact ⟨j, o', hj, old h'⟩
    · cases h
      exact ⟨a, o, by omega, old hx⟩
  · intro i c hi
    rcases back hi with h | ⟨e, h⟩
    · exact b.non i c h
    · cases h
  · intro j u o' hj h v hv
    rcases back h with h | ⟨e, h⟩
    · rw [List.map_append]
      exact List.mem_append_left _ (b.closed j u o' hj h v hv)
    · omega
theorem Bfs.next {E : Edges} {goal x : Nat} {tw : List (Nat × Option Nat)} {a : Nat} {o : Option Nat} (b : Bfs E goal tw a) (hx : tw[a]? = some (x, o)) (h : ∀ y ∈ nbrs E x, y ∈ tw.map (·.1)) : Bfs E goal tw (a + 1) := by
  refine ⟨b.nd, b.lets, b.conn, b.head, b.par, b.non, fun j u o' hj hu => ?_⟩
  by_cases q : j < a
  · exact b.closed j u o' q hu
  · have : j = a := by omega
    subst this
    rw [hx] at hu
    cases hu
    exact h
theorem Bfs.done {E : Edges} {goal : Nat} {tw : List (Nat × Option Nat)} {a : Nat} (b : Bfs E goal tw a) (ha : tw.length ≤ a) {c : Nat} : c ∈ tw.map (·.1) ↔ Conn E goal c := by
  refine ⟨b.conn c, fun h => ?_⟩
  induction h with
  | refl => exact List.mem_map.mpr ⟨_, List.mem_of_getElem? b.head, rfl⟩
  | step _ m ih =>
    obtain ⟨⟨u, o⟩, hu, rfl⟩ := List.mem_map.mp ih
    obtain ⟨j, hj, e⟩ := List.mem_iff_getElem.mp hu
    exact b.closed j u o (by omega) (by rw [List.getElem?_eq_getElem hj, e]) _ m
end Wl

namespace Wl
open PySem PySem.Spec PyProof.Rows L2
/-! enumerate(a text) -/
def IteS (z : Str) : It where
  go := fun i _ => i < z.cps.size
  yld := fun i H v H' => ∃ T c, v = .ref T ∧ H T = none ∧ z.cps[i]? = some c ∧ H' = upd H T (.tup [.int (i : Nat), .str (sign c)])
  stop := fun i _ => z.cps.size ≤ i
theorem turn_enumS {P : Program} {w : World} {K : PySem.W.Frag} {elts : List Expr} {kk : Nat} {tpos : Pos} (z : Str) (t : Tok) (e it : Addr) :
    Turn P w K (.Tuple elts kk tpos) (IteS z) [e, it] e (fun i h => (∃ old, IsEnum h e it ((i : Nat) : Int) old) ∧ h.IsStrIter it (strIterType z) z t i ∧ e ≠ it) where
  mem := by simp
  obj := fun i h st b hb => by
    obtain ⟨⟨old, he⟩, ⟨o, ho, hc, hd⟩, _⟩ := st
    rcases (show b = e ∨ b = it by simpa using hb) with q | q
    · subst q; exact ⟨_, he, fun v q => nomatch q⟩
    · subst q; exact ⟨o, ho, fun v q => by rw [hd] at q; cases q⟩
  keep := fun i h h' st k => let ⟨⟨old, he⟩, ⟨o, ho, r⟩, hne⟩ := st; ⟨⟨old, k e (by simp) _ he⟩, ⟨o, k it (by simp) o ho, r⟩, hne⟩
  item := by
    intro X hP hw hK hc i pins s σ H E I hf st hg
    subst hP hw hK
    obtain ⟨⟨old, he⟩, hit, hne⟩ := st
    have hi : i < z.cps.size := hg
    obtain ⟨oi, hoi, _⟩ := id hit
    have hel : e < s.heap.objs.size := Heap.lt_size he
    have hil : it < s.heap.objs.size := Heap.lt_size hoi
    refine wpAny_pyNext_enum_itemD (Draws.text (prog := X.prog) (w := X.w) (A := X.A.in1) (I.ok.hd hc) it z t) he hit hi hne (by simp [hne]) fun y h' tk hy ho hst hTp hsz hk => ?_
    obtain ⟨c, tu, hcz, rfl⟩ := hy
    refine ⟨_, rfl, wpAny_letOwnedTupleGo_enum (s := { s with heap := h', toks := tk + 1 }) ho fun h'' he' sb => ?_⟩
    have hT2 : h''.get? s.heap.objs.size = some { cls := .type "tuple", data := .seq #[.int i tk, .str ⟨#[c]⟩ tu] } := (sb.2 _ (Nat.ne_of_gt hel)).trans hTp
    have new : ObjOk X.prog X.w (upd H s.heap.objs.size (.tup [.int (i : Nat), .str (sign c)])) h'' s.heap.objs.size (.tup [.int (i : Nat), .str (sign c)]) :=
      ⟨by show 2 ≤ sizeLine; decide, [.int i tk, .str ⟨#[c]⟩ tu], .cons ⟨_, rfl⟩ (.cons ⟨_, rfl⟩ .nil), ⟨_, hT2, rfl, _, rfl⟩⟩
    have I1 : L2.Inv X pins σ (upd H s.heap.objs.size (.tup [.int (i : Nat), .str (sign c)])) { s with heap := h'', toks := tk + 1 } :=
      I.turnedNew (ch := [e, it]) (fun b ob hb q => by
        simp only [List.mem_cons, List.not_mem_nil, or_false, not_or] at hb
        exact (sb.2 b hb.1).trans (hk b ob hb.1 hb.2 q)) hf (Nat.le_refl _) new
    have e1 : ((i + 1 : Nat) : Int) = (i : Int) + 1 := by omega
    obtain ⟨o2, ho2, r2⟩ := hst
    refine ⟨.ref s.heap.objs.size, _, I1, rfl, ⟨_, c, rfl, I.hok.fresh (Nat.le_refl _), hcz, rfl⟩, ⟨⟨.str ⟨#[c]⟩ tu, by rw [e1]; exact he'⟩, ⟨o2, (sb.2 it (Ne.symm hne)).trans ho2, r2⟩, hne⟩, fun b hb => ?_⟩
    have hb' : b < s.heap.objs.size := by
      rcases (show b = e ∨ b = it by simpa using hb) with q | q <;> subst q <;> assumption
    rw [upd_ne (Nat.ne_of_lt hb')]
    exact (hf b hb).1
  done := by
    intro X hP hw hK hc i pins s σ H E I hf st hg
    subst hP hw hK
    obtain ⟨⟨old, he⟩, hit, hne⟩ := st
    have hi : z.cps.size ≤ i := hg
    obtain ⟨f0, f1, f2, f3, f4, f5⟩ := hf it (by simp)
    have hTy : s.TypeIs (.ref e) "enumerate" := ⟨_, he, rfl⟩
    show wpAny _ _ (pyNext (.ref e)) _ _ s
    unfold pyNext
    refine wpAny_bind (wpAny_attempt (wpAny_callSpecial?_slot (name := Str.ofString "__next__") hTy F.slot_enumerate_next (wpAny_call_entry F.slot_enumerate_next hTy F.entry_enumerate_next ?_ (F.args_enumerate_next_1 _))))
    show wpAny _ _ (field (.ref e) 2 >>= _) _ _ _
    refine wpAny_bind (wpAny_field he rfl (x := .ref it) rfl (wpAny_bind ?_))
    have hx : z.cps[i]? = none := Array.getElem?_eq_none hi
    cases ha : z.cps.all (· < 128)
    · simp only [strIterType, ha, Bool.false_eq_true, if_false] at hit
      refine wpAny_nextOf_wide_end (I.ok.hd hc) hit hx fun h' x he' hx' => ?_
      obtain ⟨o, ho, hcc⟩ := hx'
      exact wpAny_bind (wpAny_isInstance (T := "StopIteration") (b := true) ⟨o, ho, hcc⟩ isSubtype_stop (wpAny_pure ⟨rfl, I.turned (t' := s.toks) (fun b o hb q => he' b o hb q) f0 f1 f3 f4 f5⟩))
    · simp only [strIterType, ha, if_true] at hit
      refine wpAny_nextOf_ascii_end (I.ok.hd hc) hit hx fun h' x he' hx' => ?_
      obtain ⟨o, ho, hcc⟩ := hx'
      exact wpAny_bind (wpAny_isInstance (T := "StopIteration") (b := true) ⟨o, ho, hcc⟩ isSubtype_stop (wpAny_pure ⟨rfl, I.turned (t' := s.toks) (fun b o hb q => he' b o hb q) f0 f1 f3 f4 f5⟩))
  self := fun A i s Q E st h => let ⟨⟨_, he⟩, _⟩ := st; wpAny_pyIter_enum he h
def iEnumS (ta : TA) : TI := fun σ H R => ta σ H fun vs H1 => ∃ z, vs = [.str z] ∧ R (IteS z) H1
theorem pi_enumS {X : Cx} {e : Expr} {ta : TA} {p pos tpos : Pos} {elts : List Expr} {kk : Nat} (hg : Gl X "enumerate") (hm : X.mg "enumerate" = none) (ha : PA X [e] ta) (hs : starEach [e] X.env = [(false, eval e X.env)] := by rfl) :
    PI X (.Tuple elts kk tpos) (.Call (.Name "enumerate" p) [e] [] pos) (iEnumS ta) := by
  refine ⟨fun pins s σ H R I h => ?_⟩
  refine Call_ (ld_blt I hg hm boot_enumerate (PyProof.Rows.callWith_type1 (thn (ha.run pos pins s σ H _ I h) fun us s1 ⟨vs, H1, I1, r1, q1⟩ => ?_) hs rfl))
  obtain ⟨z, rfl, q⟩ := q1
  obtain ⟨u, rfl, ru⟩ := vals1 r1
  obtain ⟨t, rfl⟩ := ru
  refine call_enumerate_str fun h' he hit hsz hk => wpAny_pyIter_enum he ?_
  refine ⟨s1.heap.objs.size + 1, [s1.heap.objs.size + 1, s1.heap.objs.size], _, _, H1, rfl, I1.kept (t' := s1.toks) hk, turn_enumS z t (s1.heap.objs.size + 1) s1.heap.objs.size, ⟨⟨.none, he⟩, hit, Nat.succ_ne_self _⟩, fun b hb => ?_, q⟩
  have hle : s1.heap.objs.size ≤ b := by
    rcases (show b = s1.heap.objs.size + 1 ∨ b = s1.heap.objs.size by simpa using hb) with q | q <;> rw [q]
    · exact Nat.le_add_right _ _
    · exact Nat.le_refl _
  exact I1.fpOk hle (I1.hok.fresh hle)
theorem walk_enumS {z : Str} : L2.Walk (IteS z) (codes z).length (fun _ => True) (fun i H v H' => ∃ T c, v = .ref T ∧ H T = none ∧ (codes z)[i]? = some c ∧ H' = upd H T (.tup [.int (i : Nat), .str (sign c)])) := by
  have e : (codes z).length = z.cps.size := by simp [codes]
  rw [e]
  refine ⟨fun _ _ hi _ => hi, fun _ _ => Nat.le_refl _, ?_⟩
  rintro i H v H' _ _ ⟨T, c, h1, h2, h3, h4⟩
  exact ⟨T, c, h1, h2, by simpa [codes] using h3, h4⟩
/-! f(k = v, ..) with no place -/
theorem pe_callN0 {X : Cx} {CX : CXT} {k : Nat} {f : Addr} {fd : FuncData} {ps ks : List Str} {sp : Sp} {E : XK} {x : Str} {p pos : Pos} {kws : List Keyword} {tk : TA} {g : List Value → List Value → List Value} {gV : List V → List V → List V}
    (F : FnOk X.prog X.w X.K X.mg X.base CX k f fd ps sp) (hr : Room k X.A) (hg : Gl X x) (hm : X.mg x = some (.ref f)) (hk : PySem.W.keepIn X.K (.ref f) = true) (hb : KBn X.K fd ps 0 ks g gV) (hx : Passes CX X E) (hkw : PK X kws tk)
    (hall : (backToKw pos (keywordEach kws X.env)).all (·.1.isSome) = true := by rfl) (hks : (backToKw pos (keywordEach kws X.env)).filterMap (·.1) = ks := by rfl) (hdb : (x == ("__debug__" : Str)) = false := by decide)
    (hpl : ((backTo pos (starEach [] X.env)).any (·.1) || (backToKw pos (keywordEach kws X.env)).any (·.1.isNone)) = false := by rfl) :
    PE X (.Call (.Name x p) [] kws pos) (L2.tCallN 0 ks.length sp gV E tNil tk) := by
  refine ⟨fun pins s σ H Q I h => ?_⟩
  refine wpAny_Call_Name_kw (ld_glob I hg hm ?_ hdb)
  refine PySem.W.callWith_KW0 (h₀ := X.base) I.ok.mod.kin hk hall ?_ hpl
  refine thn (hkw.run pos pins s σ H _ I h) fun ws s2 ⟨zs, H2, I2, rz, l1, l2, q2⟩ => ⟨I2.kIn, ?_⟩
  rw [hks]
  exact run_fnN (us := []) (vs := []) F hr hb hx I2 .nil rz rfl l2 q2
/-! min of a list of signs -/
def sgV (c : Nat) : V := .str (sign c)
def rMinL (K : PySem.W.Frag) : List V → Hp → VK → Prop := fun vs H Q => ∃ (a : Addr) (cs : List Nat), vs = [V.ref a] ∧ SqL K H a (cs.map sgV) ∧ cs ≠ [] ∧ cs.length ≤ 1000 ∧ ∀ m ∈ cs, (∀ c ∈ cs, m ≤ c) → Q (sgV m) H
theorem dp_signs {K : PySem.W.Frag} {H : Hp} : ∀ cs : List Nat, DpAll K H (cs.map sgV) (cs.map fun c => PyData.str (sign c))
  | [] => .nil
  | c :: r => .cons (.str _) (dp_signs r)
theorem sign_lt (a b : Nat) : ((sign a).cps.toList < (sign b).cps.toList) ↔ a < b := by
  show ([a] < [b]) ↔ _
  constructor
  · intro h
    rcases List.cons_lt_cons_iff.mp h with h | ⟨_, h⟩
    · exact h
    · exact absurd h (List.lt_irrefl _)
  · intro h
    exact List.cons_lt_cons_iff.mpr (.inl h)
theorem minD_signs : ∀ (c : Nat) (cs : List Nat), ∃ m, m ∈ c :: cs ∧ (∀ d ∈ c :: cs, m ≤ d) ∧ PySem.W.minD (.str (sign c)) (cs.map fun c => PyData.str (sign c)) = .str (sign m)
  | c, [] => ⟨c, List.mem_cons_self, fun d hd => by simp at hd; omega, rfl⟩
  | c, d :: r => by
    by_cases h : d < c
    · obtain ⟨m, h1, h2, h3⟩ := minD_signs d r
      refine ⟨m, List.mem_cons_of_mem _ h1, fun x hx => ?_, ?_⟩
      · rcases List.mem_cons.mp hx with rfl | hx
        · have := h2 d List.mem_cons_self
          omega
        · exact h2 x hx
      · rw [← h3]
        unfold PySem.W.minD
        rw [List.map_cons, List.foldl_cons, PySem.W.dataLt_str, decide_eq_true ((sign_lt d c).mpr h)]
        rfl
    · obtain ⟨m, h1, h2, h3⟩ := minD_signs c r
      refine ⟨m, ?_, fun x hx => ?_, ?_⟩
      · rcases List.mem_cons.mp h1 with rfl | h1
        · exact List.mem_cons_self
        · exact List.mem_cons_of_mem _ (List.mem_cons_of_mem _ h1)
      · rcases List.mem_cons.mp hx with rfl | hx
        · exact h2 x List.mem_cons_self
        · rcases List.mem_cons.mp hx with rfl | hx
          · have := h2 c List.mem_cons_self
            omega
          · exact h2 x (List.mem_cons_of_mem _ hx)
      · rw [← h3]
        unfold PySem.W.minD
        rw [List.map_cons, List.foldl_cons, PySem.W.dataLt_str, decide_eq_false (fun q => h ((sign_lt d c).mp q))]
        rfl
theorem cr_minL {X : Cx} (hc : X.calm = true) (hu : X.A.units + 64 < cLine) : CallR X (.builtin "min") (rMinL X.K) := by
  intro pins s σ H vs us Q I r h
  obtain ⟨a, cs, rfl, hs, hne, hlen, q⟩ := h
  obtain ⟨its, rv, hl, hn⟩ := I.list hs
  obtain ⟨u, rfl, ru⟩ := vals1 r
  obtain rfl : u = Value.ref a := ru
  obtain ⟨as, hr⟩ := Dp.readsAll I _ _ its (dp_signs cs) rv
  cases cs with
  | nil => exact absurd rfl hne
  | cons c cs =>
    have al : PySem.W.AlikeAll (((c :: cs)).map fun c => PyData.str (sign c)) := by
      refine ⟨fun x hx y hy => ?_, fun x hx => ?_⟩
      · obtain ⟨i, _, rfl⟩ := List.mem_map.mp hx
        obtain ⟨j, _, rfl⟩ := List.mem_map.mp hy
        rfl
      · obtain ⟨i, _, rfl⟩ := List.mem_map.mp hx
        exact fun q => by cases q
    have dp : ∀ l : List Nat, PyData.depthAll (l.map fun c => PyData.str (sign c)) = 0 := fun l => by
      induction l with
      | nil => rfl
      | cons x r ih => simp [PyData.depthAll, PyData.depth, ih]
    refine PySem.W.min_list_data (x := .str (sign c)) (xs := cs.map fun c => PyData.str (sign c)) (I.ok.hd hc) hl.isList (by simpa using hr) al (by
      have := dp (c :: cs)
      rw [List.map_cons] at this
      omega) fun i v h' tk bs hv hR hk => ?_
    obtain ⟨m, h1, h2, h3⟩ := minD_signs c cs
    rw [h3] at hR
    cases hR with
    | str z t => exact ⟨.str _, H, I.kept (t' := tk) hk, ⟨_, rfl⟩, q m h1 h2⟩
/-! 'a' * 8 -/
def rMulA : R2 := fun x y H Q => x = .str "a" ∧ y = .int 8 ∧ Q (.str "aaaaaaaa") H
theorem op_mulA {X : Cx} : OpR X (binaryOp .Mult) rMulA := by
  intro pins s σ H x y v u Q I rx ry h
  obtain ⟨rfl, rfl, q⟩ := h
  obtain ⟨t, rfl⟩ := rx
  obtain ⟨t', rfl⟩ := ry
  refine P.mul_str (by decide) (fun _ _ => by decide +kernel) (fun _ _ => by decide +kernel) ?_
  have e1 : ((8 : Int) == 1 || ("a" : Str).length == 0) = false := by decide +kernel
  rw [if_neg (by decide), e1]
  have e2 : (⟨(List.replicate (8 : Int).toNat ("a" : Str).cps).foldl (· ++ ·) #[]⟩ : Str) = "aaaaaaaa" := by decide +kernel
  show Made.post (Made.str (⟨(List.replicate (8 : Int).toNat ("a" : Str).cps).foldl (· ++ ·) #[]⟩ : Str)) _ _
  rw [e2]
  exact ⟨by decide +kernel, .str _, H, I.tok _, ⟨_, rfl⟩, q⟩
end Wl

namespace Wl
open PySem PySem.Spec PyProof.Rows L2
def topW (i : Nat) : Stmt := PySem.Challenge.pw_wordlines_k01_words_and_changes.main.body.getD i (.Pass ⟨0, 0, 0, 0⟩)
abbrev wIsWord : Stmt := topW 9
abbrev wCheck : Stmt := topW 10
abbrev wIsLetter : Stmt := topW 11
abbrev wIsChange : Stmt := topW 12
abbrev wTupTo : Stmt := topW 13
abbrev wChecked : Stmt := topW 14
abbrev wReaches : Stmt := topW 15
abbrev wTurned : Stmt := topW 16
/-! y = {k: v for x in ..} -/
theorem ps_setDc {X : Cx} {i : Nat} {y : Str} {py : Pos} {kx vx tg iter : Expr} {ifs : List Expr} {scope : Scope} {own : List (Str × Nat)} {pos spos : Pos} {wi : TI} {g : TG} {tt : TT} {tk tv : TE} (hc : X.calm = true) (hN : X.N.Nodup) (hy : X.N[i]? = some y) (hyl : X.env.scope.names.lookup y = some .local)
    (hsw : swapsWith (.DictComp kx vx [⟨tg, iter, ifs, 0⟩] scope pos) (some (.Name y py)) spos.line X.env = pure true) (hi : PI X tg iter wi) (ok : BlkOk X.N X.env.scope scope own)
    (hg : ∀ (s : Shared) (H : Hp) (C : Addr) (cl : List (Str × Addr)) (fp : List Addr), PG (X.blk s H scope (compEnvC scope cl C X.env) fp) tg g) (ht : ∀ (s : Shared) (H : Hp) (C : Addr) (cl : List (Str × Addr)) (fp : List Addr), PTs (X.blk s H scope (compEnvC scope cl C X.env) fp) ifs tt)
    (hk : ∀ (s : Shared) (H : Hp) (C : Addr) (cl : List (Str × Addr)) (fp : List Addr), PE (X.blk s H scope (compEnvC scope cl C X.env) fp) kx tk) (he : ∀ (s : Shared) (H : Hp) (C : Addr) (cl : List (Str × Addr)) (fp : List Addr), PE (X.blk s H scope (compEnvC scope cl C X.env) fp) vx tv)
    (hs : ∀ x, foldedSetIterable iter X.env x = pure x := by intro _; rfl) :
    PS X (.Assign [.Name y py] (.DictComp kx vx [⟨tg, iter, ifs, 0⟩] scope pos) spos) (tAsg (tDc wi g tt tk tv (own.map (·.2))) (gName i)) := by
  constructor
  intro pins s σ H D I h
  rw [exec_Assign_Name_used _ _ _ _ hsw]
  refine wpAny_bind (wpAny_standAt (wpAny_bind ?_))
  show wpAny _ X.A (do let _ ← comprehension (.DictComp kx vx [⟨tg, iter, ifs, 0⟩] scope pos) scope X.env (firstIterPos [⟨tg, iter, ifs, 0⟩] pos) newDict false (eval iter X.env) (some (assign (.Name y py) X.env))) _ _ s
  have h2 : tDc wi g tt tk tv (own.map (·.2)) σ H (fun x H1 => gName i x σ H1 D.nx) := h
  refine wpAny_bind (thn (dc_core (Qf := fun _ s' => SP X pins D .next s') hc hN I hi ok hg ht hk he hs h2 fun L C s' m H' I' q hn f => ?_) fun _ s' hq => wpAny_pure (wpAny_pure hq))
  show wpAny _ _ (assign (.Name y py) X.env (.ref L)) _ _ _
  obtain ⟨f0, f1, f2, f3, f4, f5⟩ := f
  refine wpAny_assign_Name (store_ok2 (v := V.ref L) I' hN hy (.inl hyl) rfl (fun s2 I2 ⟨a, sb, ha⟩ => ?_) (.inr hyl))
  have haC : C ≠ a := ha.elim (fun z => z ▸ f1) (fun z e => f4 y a z e.symm)
  exact ⟨m, hn.sameBut sb haC, fun h3 sb3 => ⟨_, H', I2.turned (t' := s2.toks) (fun b o hb e => (sb3.2 b hb).trans e) f0 f1 f3 f4 f5, q⟩⟩
theorem sw_dict {kx vx : Expr} {gs : List Comprehension} {scope : Scope} {pos py : Pos} {y : Str} {l : Nat} {env : Env} (hk : env.scope.kind = .function) (hy : env.scope.names.lookup y = some .local) (hl : (py.line == pos.line) = true)
    (ha : (scope.names.any fun (n, k) => n == y && (k == .local || k == .cell)) = false) : swapsWith (.DictComp kx vx gs scope pos) (some (.Name y py)) l env = pure true := by
  have ky : env.kindOf y = some .local := hy
  have hb : env.blockKind = .function := by
    show env.blockKind = _
    unfold Env.blockKind
    rw [hk]
    rfl
  show (do return env.blockKind == .function && env.kindOf y == some .local && py.line == pos.line && !(scope.names.any fun (n, k) => n == y && (k == .local || k == .cell)) : Sem Bool) = _
  rw [hb, ky, ha, hl]
  rfl

structure Bw (mg : Str → Option Value) : Prop where
  bool : mg "bool" = none
structure Gw (K : PySem.W.Frag) (mg : Str → Option Value) : Prop where
  letters : ∃ t, mg "LETTERS" = some (.str "abcdefghijklmnopqrstuvwxyz" t)
  longest : ∃ t, mg "LONGEST_WORD" = some (.int 8 t)
  mostch : ∃ t, mg "MOST_CHANGES" = some (.int 12 t)
  wheres : ∃ a, mg "WHERES" = some (.ref a) ∧ ∀ H, SqT K H a [.str "first", .str "last", .str "any"]
def letB (c : Nat) : Bool := decide (97 ≤ c) && decide (c ≤ 122)
def letV : V → V
  | .str s => .bl (s.cps.toList.all letB)
  | v => v
theorem letB_mem (c : Nat) : decide (c ∈ ("abcdefghijklmnopqrstuvwxyz" : Str).cps.toList) = letB c := by
  rw [letters_eq]
  unfold letB
  by_cases h : c ∈ List.range' 97 26
  · rw [decide_eq_true h]
    rw [List.mem_range'_1] at h
    simp
    omega
  · rw [decide_eq_false h]
    rw [List.mem_range'_1] at h
    symm
    rw [Bool.and_eq_false_iff, decide_eq_false_iff_not, decide_eq_false_iff_not]
    omega
/-- whether a thing of any kind is a word -/
def Wv (K : PySem.W.Frag) (H : Hp) (v : V) (b : Bool) : Prop := (∃ z, v = .str z ∧ z.length ≤ 1000 ∧ b = wdB z) ∨ (∃ t, TyX K H v t ∧ PySem.W.kitOne K t (.type "str") = some false ∧ b = false)
section
variable {P : Program} {w : World} {K : PySem.W.Frag} {mg : Str → Option Value} {base : Heap} {f : Addr} {fd : FuncData}
def spIsW (K : PySem.W.Frag) : Sp := fun vs H Q _ => ∃ (v : V) (b : Bool), vs = [v] ∧ Wv K H v b ∧ ∀ (H' : Hp), Same H H' → Q (.bl b) H'
abbrev nIsWord : List Str := ["thing", "letter"]
theorem scIsW : FnScope nIsWord ["thing"] (defScope wIsWord) := ⟨rfl, rfl, rfl, by decide +kernel, rfl, by decide +kernel, by decide +kernel⟩
theorem ok_isw (F : Fun K "is_word" "is_word" wIsWord f fd) (B : Bi mg) (G : Gw K mg) : FnOk P w K mg base CX0 1 f fd ["thing"] (spIsW K) := by
  obtain ⟨t1, g1⟩ := G.letters
  obtain ⟨t2, g2⟩ := G.longest
  refine F.ok scIsW (fun vs H Q E h => ?_) (fun cdv A outer s H vs Q E hr h => ?_)
  · obtain ⟨v, b, rfl, _⟩ := h
    rfl
  · obtain ⟨v, b, rfl, hw, q⟩ := h
    refine ⟨_, pss_cons (ps_if (PW.pt (pw_or (pt_not (pt_val (pe_callB call_isi (by rfl) B.isi (by decide +kernel) (pa_cons (pv 0) (pa_cons (pe_bltn (v := .ty "str") (by rfl) B.str (by decide +kernel) rfl) pa_nil)))))
        (pw_or1 (pt_not (pt_chain op_le op_le pe_int (pe_callB call_len_str (by rfl) B.len PySem.boot_len (pa_cons (pv 0) pa_nil)) (pe_glob (v := .int 8) rfl g2 ⟨_, rfl⟩)))))) (pss_one (ps_ret pe_bl)) pss_nil)
      (pss_one (ps_ret (pe_callB (cr_all rfl) (by rfl) B.all (by decide +kernel) (pa_cons (pe_lc (own := [("letter", 1)]) (g := gName 1) (tt := tYes) rfl scIsW.nd (pi_str (pv 0)) (blkOk_by (N := nIsWord) (sc := defScope wIsWord) (by decide +kernel))
        (fun _ _ _ _ _ => pg_name (i := 1) scIsW.nd rfl (.inl rfl)) (fun _ _ _ _ _ => pts_nil) (fun _ _ _ _ _ => pe_cmpR op_in_sign (pv 1) (pe_glob (v := .str "abcdefghijklmnopqrstuvwxyz") rfl g1 ⟨_, rfl⟩) rfl)) pa_nil)))), ?_⟩
    rcases hw with ⟨z, rfl, hz, rfl⟩ | ⟨t, ty, hk, rfl⟩
    · refine ⟨_, rfl, _, _, _, _, _, rfl, .ty "str", .base (.str z), kit_ty (r := true) (by decide +kernel), true, rfl, ?_⟩
      refine iteF ⟨_, rfl, _, rfl, lzl hz, _, _, rfl, rfl, _, rfl, ite_b (fun e1 => ?_) (fun e1 => ?_)⟩
      · refine ⟨_, _, rfl, rfl, _, rfl, not_b (fun e2 => ?_) (fun e2 => ?_)⟩
        · have e2' : ¬ ((z.length : Int) ≤ 8) := of_decide_eq_false e2
          have : wdB z = false := by
            unfold wdB
            rw [decide_eq_false (show ¬ z.length ≤ 8 by omega)]
            simp
          rw [← this]
          exact q H (Same.refl H)
        · have h1 : 1 ≤ z.length := by
            have := of_decide_eq_true e1
            omega
          have h8 : z.length ≤ 8 := by
            have := of_decide_eq_true e2
            omega
          refine ⟨_, rfl, _, rfl, fun D hD => lc_map walk_signs hD (fun _ => true) letV (fun _ _ => trivial) (fun _ => rfl) (fun x H' _ _ Q' q' => q') ?_ ?_ ?_⟩
          · intro x H' hx _ _ Q' q'
            obtain ⟨c, hc, rfl⟩ := List.mem_map.mp hx
            refine ⟨_, rfl, c, _, rfl, rfl, ?_⟩
            rw [letB_mem]
            have : letV (.str (sign c)) = .bl (letB c) := by
              show V.bl ([c].all letB) = _
              simp
            rw [this] at q'
            exact q'
          · unfold signsOf
            rw [List.length_map, Array.length_toList]
            exact small1000 (by have : z.length = z.cps.size := rfl; omega)
          · intro H' s' hD'
            have e0 : ((signsOf z).filter fun _ => true).map letV = (z.cps.toList.map letB).map V.bl := by
              rw [List.filter_eq_self.mpr fun _ _ => rfl]
              unfold signsOf
              rw [List.map_map, List.map_map]
              refine List.map_congr_left fun c _ => ?_
              show V.bl ([c].all letB) = _
              simp
            refine ⟨D, z.cps.toList.map letB, rfl, .inl (.inl (by rw [hD', e0])), ?_⟩
            have : (z.cps.toList.map letB).all id = wdB z := by
              unfold wdB
              rw [decide_eq_true h1, decide_eq_true h8, List.all_map]
              rfl
            rw [this]
            exact q H' s'
      · refine ⟨false, rfl, iteT ?_⟩
        have : wdB z = false := by
          have e1' : ¬ ((1 : Int) ≤ z.length) := of_decide_eq_false e1
          unfold wdB
          rw [decide_eq_false (show ¬ 1 ≤ z.length by omega)]
          simp
        rw [← this]
        exact q H (Same.refl H)
    · exact ⟨_, rfl, _, _, _, _, _, rfl, .ty "str", ty, hk, false, rfl, iteT (q H (Same.refl H))⟩
theorem wv_wd {K : PySem.W.Frag} {H : Hp} {z : Str} (h : IsWd z) : Wv K H (.str z) true := .inl ⟨z, rfl, by have := h.len; omega, (show wdB z = true from h).symm⟩
theorem sign_wd {c : Nat} (h : isLet c) : IsWd (sign c) := wd_codes.mpr ⟨⟨Nat.le_refl 1, Nat.le_of_ble_eq_true rfl⟩, fun d hd => by
  have : d = c := by simpa [codes, sign] using hd
  rw [this]
  exact h⟩
/-! ### check_word, is_letter -/
def spCheckW : Sp := fun vs H Q _ => ∃ (z : Str), vs = [.str z] ∧ IsWd z ∧ ∀ (H' : Hp), Same H H' → Q .non H'
theorem scCheckW : FnScope ["word"] ["word"] (defScope wCheck) := ⟨rfl, rfl, rfl, by decide +kernel, rfl, by decide +kernel, by decide +kernel⟩
theorem ok_checkw (F : Fun K "check_word" "check_word" wCheck f fd) (hI : Has P w K mg base "is_word" 1 ["thing"] (spIsW K)) : FnOk P w K mg base CX0 2 f fd ["word"] spCheckW := by
  refine F.ok scCheckW (fun vs H Q E h => ?_) (fun cdv A outer s H vs Q E hr h => ?_)
  · obtain ⟨z, rfl, _⟩ := h
    rfl
  · obtain ⟨z, rfl, hz, q⟩ := h
    exact ⟨_, pss_one (ps_if (pt_not (pt_val (pe_h hI hr (pa_cons (pv 0) pa_nil)))) (pss_one ps_never) pss_nil), _, rfl, _, true, rfl, wv_wd hz, fun H1 s1 => ⟨_, rfl, iteF (q H1 s1)⟩⟩
def spIsLet : Sp := fun vs H Q _ => ∃ (c : Nat), vs = [sgV c] ∧ isLet c ∧ ∀ (H' : Hp), Same H H' → Q (.bl true) H'
theorem scIsLet : FnScope ["thing"] ["thing"] (defScope wIsLetter) := ⟨rfl, rfl, rfl, by decide +kernel, rfl, by decide +kernel, by decide +kernel⟩
theorem ok_islet (F : Fun K "is_letter" "is_letter" wIsLetter f fd) (B : Bi mg) (hI : Has P w K mg base "is_word" 1 ["thing"] (spIsW K)) : FnOk P w K mg base CX0 2 f fd ["thing"] spIsLet := by
  refine F.ok scIsLet (fun vs H Q E h => ?_) (fun cdv A outer s H vs Q E hr h => ?_)
  · obtain ⟨z, rfl, _⟩ := h
    rfl
  · obtain ⟨c, rfl, hc, q⟩ := h
    refine ⟨_, pss_one (ps_ret (pe_and (pe_h hI hr (pa_cons (pv 0) pa_nil)) (pe_one (pe_cmpR op_eq (pe_callB call_len_str (by rfl) B.len PySem.boot_len (pa_cons (pv 0) pa_nil)) pe_int (nomark _))))), ?_⟩
    refine ⟨_, rfl, _, true, rfl, wv_wd (sign_wd hc), fun H1 s1 => ⟨true, rfl, iteT ⟨_, rfl, _, rfl, lz, rfl, ?_⟩⟩⟩
    rw [show decide (V.int ((sign c).length : Int) = V.int 1) = true from decide_eq_true rfl]
    exact q H1 s1
/-! ### changes -/
def chV (ch : Chg) : List V := [sgV ch.1, sgV ch.2.1, .str (whS ch.2.2)]
theorem wh_dec (a b : Wh) : decide (V.str (whS a) = V.str (whS b)) = decide (a = b) := by
  cases a <;> cases b <;> decide +kernel
theorem sg_dec (a b : Nat) : decide (sgV a = sgV b) = decide (a = b) := by
  by_cases h : a = b
  · subst h
    simp
  · have : sgV a ≠ sgV b := fun e => h (by
      have e2 := congrArg (fun z : Str => z.cps.toList) (V.str.inj e)
      simpa [sign] using e2)
    rw [decide_eq_false h, decide_eq_false this]
def spIsCh : Sp := fun vs H Q _ => ∃ (p : Addr) (ch : Chg), vs = [.ref p] ∧ H p = some (.tup (chV ch)) ∧ OkC ch ∧ ∀ (H' : Hp), Same H H' → Q (.bl true) H'
abbrev nIsCh : List Str := ["thing", "one", "other", "where"]
theorem scIsCh : FnScope nIsCh ["thing"] (defScope wIsChange) := ⟨rfl, rfl, rfl, by decide +kernel, rfl, by decide +kernel, by decide +kernel⟩
theorem ok_isch (F : Fun K "is_change" "is_change" wIsChange f fd) (B : Bi mg) (G : Gw K mg) (hL : Has P w K mg base "is_letter" 2 ["thing"] spIsLet) : FnOk P w K mg base CX0 3 f fd ["thing"] spIsCh := by
  obtain ⟨wa, gw, hw⟩ := G.wheres
  refine F.ok scIsCh (fun vs H Q E h => ?_) (fun cdv A outer s H vs Q E hr h => ?_)
  · obtain ⟨p, ch, rfl, _⟩ := h
    rfl
  · obtain ⟨p, ch, rfl, hp, ok, q⟩ := h
    refine ⟨_, pss_cons (ps_if (PW.pt (pw_or (pt_not (pt_val (pe_callB call_isi (by rfl) B.isi (by decide +kernel) (pa_cons (pv 0) (pa_cons (pe_bltn (v := .ty "tuple") (by rfl) B.tuple (by decide +kernel) rfl) pa_nil)))))
        (pw_or1 (pt_cmpR op_ne (pe_callB call_len_seq (by rfl) B.len PySem.boot_len (pa_cons (pv 0) pa_nil)) pe_int (nomark _))))) (pss_one (ps_ret pe_bl)) pss_nil)
      (pss_cons (ps_asg (pv 0) (pg_tup rfl (pgs_cons (pg_name (i := 1) scIsCh.nd rfl (.inl rfl)) (pgs_cons (pg_name (i := 2) scIsCh.nd rfl (.inl rfl)) (pgs_cons (pg_name (i := 3) scIsCh.nd rfl (.inl rfl)) pgs_nil)))))
      (pss_cons (ps_if (PW.pt (pw_or (pt_not (pt_val (pe_h hL hr (pa_cons (pv 1) pa_nil)))) (pw_or (pt_not (pt_val (pe_h hL hr (pa_cons (pv 2) pa_nil)))) (pw_or1 (pt_cmpR op_eq (pv 1) (pv 2) (nomark _)))))) (pss_one (ps_ret pe_bl)) pss_nil)
      (pss_one (ps_ret (pe_and (pe_callB call_isi (by rfl) B.isi (by decide +kernel) (pa_cons (pv 3) (pa_cons (pe_bltn (v := .ty "str") (by rfl) B.str (by decide +kernel) rfl) pa_nil))) (pe_one (pe_cmpR op_in_seq (pv 3) (pe_glob (v := .ref wa) rfl gw rfl) (by rfl)))))))), ?_⟩
    refine ⟨_, rfl, _, _, _, _, _, rfl, .ty "tuple", .base (.tup hp), kit_ty (r := true) (by decide +kernel), true, rfl, ?_⟩
    refine iteF ⟨_, rfl, p, _, rfl, .inr (.inl (.inl hp)), rfl, _, rfl, ?_⟩
    refine iteNS rfl ?_
    refine ⟨_, rfl, p, _, rfl, .inl (.inl hp), rfl, _, _, rfl, _, _, rfl, _, _, rfl, rfl, ?_⟩
    refine ⟨_, rfl, ch.1, rfl, ok.1, fun H1 s1 => ⟨true, rfl, iteF ⟨_, rfl, ch.2.1, rfl, ok.2.1, fun H2 s2 => ⟨true, rfl, iteF ⟨_, rfl, _, rfl, rfl, _, rfl, ?_⟩⟩⟩⟩⟩
    rw [sg_dec, decide_eq_false ok.2.2]
    refine iteF ⟨_, rfl, _, _, _, _, _, rfl, .ty "str", .base (.str _), kit_ty (r := true) (by decide +kernel), true, rfl, iteT ⟨_, rfl, wa, _, rfl, .inr (hw H2), rfl, rfl, ?_⟩⟩
    have e : inV (.str (whS ch.2.2)) [.str "first", .str "last", .str "any"] = true := by
      generalize ch.2.2 = wh
      cases wh <;> decide +kernel
    rw [if_neg (by decide), e]
    exact q H2 (s1.trans s2)
/-- a tuple of changes -/
def ChAt (H : Hp) (S : Addr) (chs : List Chg) : Prop := ∃ as : List Addr, H S = some (.tup (as.map V.ref)) ∧ Each (fun (p : Addr) (ch : Chg) => H p = some (.tup (chV ch))) as chs
theorem ChAt.keep {H H' : Hp} {S : Addr} {chs : List Chg} (h : ChAt H S chs) (k : ∀ p xs, H p = some (.tup xs) → H' p = some (.tup xs)) : ChAt H' S chs := by
  obtain ⟨as, h1, h2⟩ := h
  exact ⟨as, k _ _ h1, h2.mono fun p ch e => k _ _ e⟩
theorem ChAt.same {H H' : Hp} {S : Addr} {chs : List Chg} (h : ChAt H S chs) (s : Same H H') : ChAt H' S chs := h.keep fun p xs e => s _ _ e
def OkCs (chs : List Chg) : Prop := chs.length ≤ 12 ∧ ∀ ch ∈ chs, OkC ch
/-- what is handed in for changes: None, or a tuple of them -/
def ChV (H : Hp) (v : V) (chs : List Chg) : Prop := (v = .non ∧ chs = []) ∨ ∃ S, v = .ref S ∧ ChAt H S chs
theorem ChV.same {H H' : Hp} {v : V} {chs : List Chg} (h : ChV H v chs) (s : Same H H') : ChV H' v chs := by
  rcases h with h | ⟨S, e, h⟩
  · exact .inl h
  · exact .inr ⟨S, e, h.same s⟩
def spChecked : Sp := fun vs H Q _ => ∃ (v : V) (chs : List Chg), vs = [v] ∧ ChV H v chs ∧ OkCs chs ∧ ∀ (S : Addr) (H' : Hp), Same H H' → ChAt H' S chs → Q (.ref S) H'
abbrev nChecked : List Str := ["changes", "place", "change"]
theorem scChecked : FnScope nChecked ["changes"] (defScope wChecked) := ⟨rfl, rfl, rfl, by decide +kernel, rfl, by decide +kernel, by decide +kernel⟩
/-! ### is_tuple_up_to -/
def spTupTo : Sp := fun vs H Q _ => ∃ (S : Addr) (xs : List V) (n : Int), vs = [.ref S, .int n] ∧ H S = some (.tup xs) ∧ Q (.bl (decide ((xs.length : Int) ≤ n))) H
theorem scTupTo : FnScope ["thing", "most"] ["thing", "most"] (defScope wTupTo) := ⟨rfl, rfl, rfl, by decide +kernel, rfl, by decide +kernel, by decide +kernel⟩
theorem ok_tupto (F : Fun K "is_tuple_up_to" "is_tuple_up_to" wTupTo f fd) (B : Bi mg) : FnOk P w K mg base CX0 1 f fd ["thing", "most"] spTupTo := by
  refine F.ok scTupTo (fun vs H Q E h => ?_) (fun cdv A outer s H vs Q E hr h => ?_)
  · obtain ⟨S, xs, n, rfl, _⟩ := h
    rfl
  · obtain ⟨S, xs, n, rfl, hS, q⟩ := h
    refine ⟨_, pss_one (ps_ret (pe_and (pe_callB call_isi (by rfl) B.isi (by decide +kernel) (pa_cons (pv 0) (pa_cons (pe_bltn (v := .ty "tuple") (by rfl) B.tuple (by decide +kernel) rfl) pa_nil))) (pe_one (pe_cmpR op_le (pe_callB call_len_seq (by rfl) B.len PySem.boot_len (pa_cons (pv 0) pa_nil)) (pv 1) (nomark _))))), ?_⟩
    exact ⟨_, rfl, _, _, _, _, _, rfl, .ty "tuple", .base (.tup hS), kit_ty (r := true) (by decide +kernel), true, rfl, iteT ⟨_, rfl, S, _, rfl, .inr (.inl (.inl hS)), _, rfl, _, _, rfl, rfl, q⟩⟩
theorem ok_checked (F : Fun K "checked_changes" "checked_changes" wChecked f fd) (B : Bi mg) (G : Gw K mg) (hTu : Has P w K mg base "is_tuple_up_to" 1 ["thing", "most"] spTupTo) (hC : Has P w K mg base "is_change" 3 ["thing"] spIsCh) : FnOk P w K mg base CX0 4 f fd ["changes"] spChecked := by
  obtain ⟨t1, g1⟩ := G.mostch
  refine F.ok scChecked (fun vs H Q E h => ?_) (fun cdv A outer s H vs Q E hr h => ?_)
  · obtain ⟨v, chs, rfl, _⟩ := h
    rfl
  · obtain ⟨v, chs, rfl, hv, ok, q⟩ := h
    refine ⟨_, pss_cons (ps_if (pt_cmp (pc_isN (pv 0))) (pss_one (ps_ret (pe_tup pa_nil))) pss_nil)
      (pss_cons (ps_if (pt_not (pt_val (pe_h hTu hr (pa_cons (pv 0) (pa_cons (pe_glob (v := .int 12) rfl g1 ⟨_, rfl⟩) pa_nil))))) (pss_one ps_never) pss_nil)
      (pss_cons (ps_for PassesOwn.never rfl (pi_enumT (by rfl) B.enum (pa_cons (pv 0) pa_nil)) (pg_tup rfl (pgs_cons (pg_name (i := 1) scChecked.nd rfl (.inl rfl)) (pgs_cons (pg_name (i := 2) scChecked.nd rfl (.inl rfl)) pgs_nil)))
        (pss_one (ps_if (pt_not (pt_val (pe_h hC hr (pa_cons (pv 2) pa_nil)))) (pss_one ps_never) pss_nil)))
      (pss_one (ps_ret (pv 0))))), ?_⟩
    rcases hv with ⟨rfl, rfl⟩ | ⟨S, rfl, as, hS, hE⟩
    · exact ⟨_, rfl, _, rfl, iteT ⟨lz, fun p hp => q p _ (same_new hp) ⟨[], upd_same, .nil⟩⟩⟩
    · refine ⟨_, rfl, _, rfl, iteF ?_⟩
      have hl : (as.map V.ref).length = chs.length := by rw [List.length_map, hE.length]
      refine ⟨_, rfl, S, _, 12, rfl, hS, _, rfl, ?_⟩
      rw [hl, decide_eq_true (by have := ok.1; omega)]
      refine iteF ⟨_, rfl, S, _, rfl, .inl (.inl hS), for_it (walk_enumT (K := K) (a := S) (xs := as.map V.ref)) (fun i σ H' => (∃ y1 y2, σ = [some (.ref S), y1, y2]) ∧ Same H H') ⟨⟨_, _, rfl⟩, Same.refl H⟩ (fun i σ H' _ h => .inl (.inl (h.2 _ _ hS))) ?_ ?_⟩
      · rintro i x σ H1 H2 hi ⟨⟨y1, y2, rfl⟩, s1⟩ ⟨T, x1, x2, rfl, hT, rfl, ex1, ex2⟩
        cases ex1
        have ex2 : (as.map V.ref)[i]? = some x2 := ex2
        rw [List.getElem?_map] at ex2
        obtain ⟨p, hp, rfl⟩ := Option.map_eq_some_iff.mp ex2
        obtain ⟨ch, hch, hH⟩ := hE.get hp
        have s2 : Same H1 (upd H1 T (.tup [.int i, .ref p])) := same_new hT
        refine ⟨T, _, rfl, .inl (.inl upd_same), rfl, _, _, rfl, _, _, rfl, rfl, ?_⟩
        exact ⟨_, rfl, p, ch, rfl, s2 _ _ (s1 _ _ hH), ok.2 ch (List.mem_of_getElem? hch), fun H3 s3 => ⟨true, rfl, iteF ⟨⟨_, _, rfl⟩, (s1.trans s2).trans s3⟩⟩⟩
      · rintro σ H1 ⟨⟨y1, y2, rfl⟩, s1⟩
        exact ⟨_, rfl, q S H1 s1 ⟨as, s1 _ _ hS, hE.mono fun p ch e => s1 _ _ e⟩⟩
/-! ### reaches -/
def spReaches : Sp := fun vs H Q _ => ∃ (wh : Wh) (i n : Nat), vs = [.str (whS wh), .int i, .int n] ∧ Q (.bl (acts wh i n)) H
theorem scReaches : FnScope ["where", "place", "length"] ["where", "place", "length"] (defScope wReaches) := ⟨rfl, rfl, rfl, by decide +kernel, rfl, by decide +kernel, by decide +kernel⟩
theorem int_dec (a b : Int) : decide (V.int a = V.int b) = decide (a = b) := by
  by_cases h : a = b
  · subst h
    simp
  · rw [decide_eq_false h, decide_eq_false fun e => h (V.int.inj e)]
theorem ok_reaches (F : Fun K "reaches" "reaches" wReaches f fd) : FnOk P w K mg base CX0 1 f fd ["where", "place", "length"] spReaches := by
  refine F.ok scReaches (fun vs H Q E h => ?_) (fun cdv A outer s H vs Q E hr h => ?_)
  · obtain ⟨wh, i, n, rfl, _⟩ := h
    rfl
  · obtain ⟨wh, i, n, rfl, q⟩ := h
    refine ⟨_, pss_cons (ps_if (pt_cmpR op_eq (pv 0) pe_str (nomark _)) (pss_one (ps_ret (pe_cmpR op_eq (pv 1) pe_int (nomark _)))) pss_nil)
      (pss_cons (ps_if (pt_cmpR op_eq (pv 0) pe_str (nomark _)) (pss_one (ps_ret (pe_cmpR op_eq (pv 1) (pe_op op_sub (pv 2) pe_int) (nomark _)))) pss_nil)
      (pss_one (ps_ret pe_bl))), ?_⟩
    have e1 : decide (V.str (whS wh) = V.str "first") = decide (wh = .first) := wh_dec wh .first
    have e2 : decide (V.str (whS wh) = V.str "last") = decide (wh = .last) := wh_dec wh .last
    refine ⟨_, rfl, rfl, _, rfl, ?_⟩
    rw [e1]
    cases wh with
    | first =>
      refine iteT ⟨_, rfl, rfl, ?_⟩
      rw [int_dec]
      have : decide ((i : Int) = 0) = acts .first i n := by
        unfold acts
        by_cases h : i = 0
        · simp [h]
        · simp [h]
      rw [this]
      exact q
    | last =>
      refine iteF ⟨_, rfl, rfl, _, rfl, ?_⟩
      rw [e2]
      refine iteT ⟨_, rfl, _, rfl, _, _, rfl, rfl, rfl, ?_⟩
      rw [int_dec]
      have : decide ((i : Int) = (n : Int) - 1) = acts .last i n := by
        unfold acts
        by_cases h : i + 1 = n
        · rw [decide_eq_true h, decide_eq_true (by omega)]
        · rw [decide_eq_false h, decide_eq_false (by omega)]
      rw [this]
      exact q
    | any =>
      refine iteF ⟨_, rfl, rfl, _, rfl, ?_⟩
      rw [e2]
      exact iteF q
end
end Wl

namespace Wl
open PySem PySem.Spec PyProof.Rows L2
abbrev wSteps : Stmt := topW 17
/-! a dict comprehension over a walk -/
theorem dc_it {J : It} {n : Nat} {G : Hp → Prop} {Y : Nat → Hp → V → Hp → Prop} (w : L2.Walk J n G Y) {g : TG} {tt : TT} {tk tv : TE} {vs : List Nat} {σ : L2.St} {H1 : Hp} {D : Addr} {Qd : Hp → Prop} (Pv : Nat → Hp → Prop) (h0 : Pv 0 (upd H1 D (.dK []))) (hG : ∀ i H, i ≤ n → Pv i H → G H)
    (hs : ∀ i x H H', i < n → Pv i H → Y i H x H' → g x (wipe σ vs) H' fun σ2 H2 => wipe σ2 vs = wipe σ vs ∧ tt σ2 H2 fun b H3 =>
      if b = true then tk σ2 H3 fun y H4 => tv σ2 H4 fun z H5 => ∃ kvs k, y = kV k ∧ H5 D = some (.dK kvs) ∧ kvs.length < sizeLine ∧ Pv (i + 1) (upd H5 D (.dK (putK kvs k z))) else Pv (i + 1) H3) (hd : ∀ H, Pv n H → Qd H) :
    ∃ W : Nat → Nat → Hp → Prop, (∃ m, W 0 m (upd H1 D (.dK []))) ∧ ∀ i m H, W i m H →
      (J.stop i H ∧ Qd H) ∨ (J.go i H ∧ ∃ Nx : Hp → Prop, (∀ H', Nx H' → ∃ m', m' < m ∧ W (i + 1) m' H') ∧ ∀ x H', J.yld i H x H' → g x (wipe σ vs) H' fun σ2 H2 => wipe σ2 vs = wipe σ vs ∧ tt σ2 H2 fun b H3 =>
        if b = true then tk σ2 H3 fun y H4 => tv σ2 H4 fun z H5 => ∃ kvs k, y = kV k ∧ H5 D = some (.dK kvs) ∧ kvs.length < sizeLine ∧ Nx (upd H5 D (.dK (putK kvs k z))) else Nx H3) := by
  refine ⟨fun i m H => m = n - i ∧ i ≤ n ∧ Pv i H, ⟨n, by simp, Nat.zero_le _, h0⟩, ?_⟩
  rintro i m H ⟨rfl, hi, p⟩
  have q := hG i H hi p
  by_cases hlt : i < n
  · exact .inr ⟨w.goes i H hlt q, Pv (i + 1), fun H' p' => ⟨n - (i + 1), by omega, rfl, hlt, p'⟩, fun x H' y => hs i x H H' hlt p (w.yields i H x H' hlt q y)⟩
  · have e : i = n := by omega
    subst e
    exact .inl ⟨w.stops H q, hd H p⟩
abbrev kS (c : Nat) : Key := Sum.inr (sign c)
theorem kS_inj {a b : Nat} (h : kS a = kS b) : a = b := by
  have e := congrArg (fun z : Str => z.cps.toList) (Sum.inr.inj h)
  simpa [sign] using e
def kvL (ad : Nat → V) (l : List Nat) : List (Key × V) := l.map fun c => (kS c, ad c)
theorem valV_kvL (ad : Nat → V) (c : Nat) : ∀ l : List Nat, valV (kvL ad l) (kS c) = if c ∈ l then some (ad c) else none
  | [] => rfl
  | d :: r => by
    by_cases h : d = c
    · subst h
      rw [if_pos List.mem_cons_self]
      exact valV_pos rfl
    · have h1 : valV (kvL ad (d :: r)) (kS c) = valV (kvL ad r) (kS c) := valV_neg fun e => h (kS_inj e)
      rw [h1, valV_kvL ad c r]
      have h2 : (c ∈ d :: r) = (c ∈ r) := by
        simp only [List.mem_cons, eq_iff_iff]
        constructor
        · rintro (e | e)
          · exact absurd e.symm h
          · exact e
        · exact .inr
      simp only [h2]
theorem kvL_congr {a b : Nat → V} {l : List Nat} (h : ∀ c ∈ l, a c = b c) : kvL a l = kvL b l := List.map_congr_left fun c hc => by rw [h c hc]
structure TurnI (H : Hp) (D : Addr) (ad : Nat → Addr) (E : Edges) : Prop where
  dict : H D = some (.dK (kvL (fun c => .ref (ad c)) (List.range' 97 26)))
  lst : ∀ c, isLet c → H (ad c) = some (.lst ((nbrs E c).map sgV))
  inj : ∀ c d, isLet c → isLet d → ad c = ad d → c = d
theorem let_mem {c : Nat} : isLet c ↔ c ∈ List.range' 97 26 := by
  rw [List.mem_range'_1]
  unfold isLet
  omega
def TurnAt (H : Hp) (D : Addr) (E : Edges) : Prop := ∃ ad, TurnI H D ad E
theorem TurnI.val {H : Hp} {D : Addr} {ad : Nat → Addr} {E : Edges} (t : TurnI H D ad E) {c : Nat} (h : isLet c) : DGet H D (sgV c) (some (.ref (ad c))) := by
  have := DGet.k (k := kS c) t.dict
  rw [valV_kvL, if_pos (let_mem.mp h)] at this
  exact this
theorem TurnI.same {H H' : Hp} {D : Addr} {ad : Nat → Addr} {E : Edges} (t : TurnI H D ad E) (s : Same H H') : TurnI H' D ad E := ⟨s _ _ t.dict, fun c h => s _ _ (t.lst c h), t.inj⟩
theorem room1 {k : Nat} {A : Around} (r : Room k A) : A.units + 1 < cLine := by have := r.un; omega
theorem nbrs_len (E : Edges) (c : Nat) : (nbrs E c).length ≤ 2 * E.length := by
  induction E with
  | nil => simp [nbrs]
  | cons e r ih =>
    have h1 : nbrs (e :: r) c = nbE c e ++ nbrs r c := rfl
    have h2 : (nbE c e).length ≤ 2 := by
      unfold nbE
      split <;> split <;> simp
    rw [h1, List.length_append, List.length_cons]
    omega
theorem es_len (chs : List Chg) (i n : Nat) : (es chs i n).length ≤ chs.length := by
  unfold es
  rw [List.length_map]
  exact List.length_filter_le _ _
theorem es_snoc (l : List Chg) (ch : Chg) (i n : Nat) : es (l ++ [ch]) i n = es l i n ++ (if acts ch.2.2 i n = true then [(ch.1, ch.2.1)] else []) := by
  unfold es
  rw [List.filter_append, List.map_append]
  by_cases h : acts ch.2.2 i n = true
  · simp [h]
  · simp [h]
theorem signs_abc : signsOf "abcdefghijklmnopqrstuvwxyz" = (List.range' 97 26).map sgV := by
  unfold signsOf
  rw [letters_eq]
  rfl
theorem TurnI.push {H : Hp} {D : Addr} {ad : Nat → Addr} {E : Edges} (t : TurnI H D ad E) {a b : Nat} (ha : isLet a) (hb : isLet b) (hn : a ≠ b) :
    TurnI (upd (upd H (ad a) (.lst ((nbrs E a).map sgV ++ [sgV b]))) (ad b) (.lst ((nbrs E b).map sgV ++ [sgV a]))) D ad (E ++ [(a, b)]) := by
  have nab : ad a ≠ ad b := fun e => hn (t.inj a b ha hb e)
  have nd : ∀ c, isLet c → D ≠ ad c := fun c hc => ne_of t.dict (t.lst c hc) (by intro z; cases z)
  refine ⟨?_, fun c hc => ?_, t.inj⟩
  · rw [upd_ne (nd b hb), upd_ne (nd a ha)]
    exact t.dict
  · rw [nbrs_snoc]
    by_cases h1 : b = c
    · subst h1
      rw [upd_same, if_neg hn, if_pos rfl, List.map_append]
      rfl
    · have n1 : ad c ≠ ad b := fun e => h1 (t.inj c b hc hb e).symm
      rw [upd_ne n1, if_neg h1]
      by_cases h2 : a = c
      · subst h2
        rw [upd_same, if_pos rfl, List.map_append]
        rfl
      · have n2 : ad c ≠ ad a := fun e => h2 (t.inj c a hc ha e).symm
        rw [upd_ne n2, if_neg h2, t.lst c hc]
        simp
section
variable {P : Program} {w : World} {K : PySem.W.Frag} {mg : Str → Option Value} {base : Heap} {f : Addr} {fd : FuncData}
def spTurned : Sp := fun vs H Q _ => ∃ (S : Addr) (chs : List Chg) (i n : Nat), vs = [.ref S, .int i, .int n] ∧ ChAt H S chs ∧ OkCs chs ∧ ∀ (D : Addr) (H' : Hp), Same H H' → TurnAt H' D (es chs i n) → Q (.ref D) H'
abbrev nTurned : List Str := ["changes", "place", "length", "turned", "letter", "one", "other", "where"]
theorem scTurned : FnScope nTurned ["changes", "place", "length"] (defScope wTurned) := ⟨rfl, rfl, rfl, by decide +kernel, rfl, by decide +kernel, by decide +kernel⟩
theorem ok_turned (F : Fun K "turned_letters" "turned_letters" wTurned f fd) (G : Gw K mg) (hR : Has P w K mg base "reaches" 1 ["where", "place", "length"] spReaches) : FnOk P w K mg base CX0 2 f fd ["changes", "place", "length"] spTurned := by
  obtain ⟨t1, g1⟩ := G.letters
  refine F.ok scTurned (fun vs H Q E h => ?_) (fun cdv A outer s H vs Q E hr h => ?_)
  · obtain ⟨S, chs, i, n, rfl, _⟩ := h
    rfl
  · obtain ⟨S, chs, pl, n, rfl, ⟨as, hS, hE⟩, ok, q⟩ := h
    refine ⟨_, pss_cons (ps_setDc (i := 3) (own := [("letter", 4)]) (g := gName 4) (tt := tYes) rfl scTurned.nd rfl rfl (sw_dict rfl rfl rfl rfl) (pi_str (pe_glob (v := .str "abcdefghijklmnopqrstuvwxyz") rfl g1 ⟨_, rfl⟩)) (blkOk_by (N := nTurned) (sc := defScope wTurned) (by decide +kernel))
        (fun _ _ _ _ _ => pg_name (i := 4) scTurned.nd rfl (.inl rfl)) (fun _ _ _ _ _ => pts_nil) (fun _ _ _ _ _ => pv 4) (fun _ _ _ _ _ => pe_lst pa_nil))
      (pss_cons (ps_for PassesOwn.never rfl (pi_tup (pv 0)) (pg_tup rfl (pgs_cons (pg_name (i := 5) scTurned.nd rfl (.inl rfl)) (pgs_cons (pg_name (i := 6) scTurned.nd rfl (.inl rfl)) (pgs_cons (pg_name (i := 7) scTurned.nd rfl (.inl rfl)) pgs_nil))))
        (pss_one (ps_if (pt_val (pe_h hR hr (pa_cons (pv 7) (pa_cons (pv 1) (pa_cons (pv 2) pa_nil)))))
          (pss_cons (ps_expr (pe_bm PySem.F.plainAttrs_list PySem.F.slot_list_append PySem.F.type_list_append mt_append (pe_dget (room1 hr) (pv 3) (pv 5) (fun _ _ => rfl)) (pa_cons (pv 6) pa_nil)))
          (pss_one (ps_expr (pe_bm PySem.F.plainAttrs_list PySem.F.slot_list_append PySem.F.type_list_append mt_append (pe_dget (room1 hr) (pv 3) (pv 6) (fun _ _ => rfl)) (pa_cons (pv 5) pa_nil))))) pss_nil)))
      (pss_one (ps_ret (pv 3)))), ?_⟩
    refine ⟨_, rfl, fun D hD => dc_it walk_signs (fun i H' => ∃ ad : Nat → Addr, Same H H' ∧ H' D = some (.dK (kvL (fun c => .ref (ad c)) (List.range' 97 i))) ∧ (∀ c ∈ List.range' 97 i, H' (ad c) = some (.lst []) ∧ H (ad c) = none) ∧ ∀ c d, c ∈ List.range' 97 i → d ∈ List.range' 97 i → ad c = ad d → c = d) ⟨fun _ => 0, same_new hD, upd_same, fun c hc => by simp at hc, fun c d hc => by simp at hc⟩ (fun _ _ _ _ => trivial) ?_ ?_⟩
    · rintro i x H1 H2 hi ⟨ad, s1, hd, hl, hj⟩ ⟨rfl, hx⟩
      have hi26 : i < 26 := by
        rw [signs_abc, List.length_map, List.length_range'] at hi
        exact hi
      rw [signs_abc, List.getElem?_map, List.getElem?_range' hi26] at hx
      obtain rfl := Option.some.inj hx
      have e97 : 97 + 1 * i = 97 + i := by omega
      rw [e97]
      refine ⟨rfl, yes_it ⟨_, rfl, lz, fun p hp => ⟨_, kS (97 + i), rfl, (same_new hp) _ _ hd, ?_, fun c => if c = 97 + i then p else ad c, ?_, ?_, ?_, ?_⟩⟩⟩
      · unfold kvL
        rw [List.length_map, List.length_range']
        exact small1000 (by omega)
      · exact same_mut (s1.trans (same_new hp)) hD
      · rw [upd_same, putK_new]
        · have e : List.range' 97 (i + 1) = List.range' 97 i ++ [97 + i] := by
            have := List.range'_concat (s := 97) (n := i) (step := 1)
            simpa using this
          rw [e]
          unfold kvL
          rw [List.map_append]
          have e2 : (List.range' 97 i).map (fun c => (kS c, V.ref (if c = 97 + i then p else ad c))) = (List.range' 97 i).map fun c => (kS c, V.ref (ad c)) := List.map_congr_left fun c hc => by
            rw [List.mem_range'_1] at hc
            rw [if_neg (by omega)]
          rw [e2]
          simp
        · rw [valV_kvL, if_neg]
          rw [List.mem_range'_1]
          omega
      · intro c hc
        rw [List.mem_range'_1] at hc
        have nD : p ≠ D := (ne_of_none hd hp).symm
        dsimp only
        by_cases h : c = 97 + i
        · rw [if_pos h]
          exact ⟨by rw [upd_ne nD, upd_same], s1.free hp⟩
        · rw [if_neg h]
          obtain ⟨h1, h2⟩ := hl c (by rw [List.mem_range'_1]; omega)
          have n1 : ad c ≠ D := ne_of h1 hd (by intro z; cases z)
          exact ⟨by rw [upd_ne n1]; exact (same_new hp) _ _ h1, h2⟩
      · intro c d hc hd' e
        rw [List.mem_range'_1] at hc hd'
        dsimp only at e
        have np : ∀ c, c < 97 + i → 97 ≤ c → ad c ≠ p := fun c h1 h2 => ne_of_none (hl c (by rw [List.mem_range'_1]; omega)).1 hp
        by_cases h1 : c = 97 + i <;> by_cases h2 : d = 97 + i
        · omega
        · rw [if_pos h1, if_neg h2] at e
          exact absurd e.symm (np d (by omega) (by omega))
        · rw [if_neg h1, if_pos h2] at e
          exact absurd e (np c (by omega) (by omega))
        · rw [if_neg h1, if_neg h2] at e
          exact hj c d (by rw [List.mem_range'_1]; omega) (by rw [List.mem_range'_1]; omega) e
    · rintro H1 ⟨ad, s1, hd, hl, hj⟩
      have e26 : (signsOf "abcdefghijklmnopqrstuvwxyz").length = 26 := by rw [signs_abc, List.length_map, List.length_range']
      rw [e26] at hd hl hj
      have T1 : TurnI H1 D ad (es (chs.take 0) pl n) := ⟨hd, fun c hc => (hl c (let_mem.mp hc)).1, fun c d hc hd' e => hj c d (let_mem.mp hc) (let_mem.mp hd') e⟩
      refine ⟨_, rfl, S, rfl, ⟨_, .inl (.inl (s1 _ _ hS))⟩, for_it (walk_tup (K := K) (a := S) (xs := as.map V.ref)) (fun i σ H' => (∃ y4 y5 y6 y7, σ = [some (.ref S), some (.int pl), some (.int n), some (.ref D), y4, y5, y6, y7]) ∧ Same H H' ∧ TurnI H' D ad (es (chs.take i) pl n)) ⟨⟨_, _, _, _, rfl⟩, s1, T1⟩ (fun i σ H' _ h => .inl (.inl (h.2.1 _ _ hS))) ?_ ?_⟩
      · rintro i x σ H2 H3 hi ⟨⟨y4, y5, y6, y7, rfl⟩, s2, t2⟩ ⟨rfl, hx⟩
        rw [List.getElem?_map] at hx
        obtain ⟨p, hp, rfl⟩ := Option.map_eq_some_iff.mp hx
        obtain ⟨ch, hch, hH⟩ := hE.get hp
        obtain ⟨o1, o2, o3⟩ := ok.2 ch (List.mem_of_getElem? hch)
        have etk : chs.take (i + 1) = chs.take i ++ [ch] := by rw [List.take_add_one, hch]; rfl
        have lenE : ∀ c, ((nbrs (es (chs.take i) pl n) c).map sgV).length < sizeLine := fun c => by
          rw [List.length_map]
          have h1 := nbrs_len (es (chs.take i) pl n) c
          have h2 := es_len (chs.take i) pl n
          have h3 : (chs.take i).length ≤ chs.length := List.length_take_le' _ _
          have h4 := ok.1
          exact small1000 (by omega)
        refine ⟨p, _, rfl, .inl (.inl (s2 _ _ hH)), rfl, _, _, rfl, _, _, rfl, _, _, rfl, rfl, ?_⟩
        refine ⟨_, rfl, _, rfl, _, rfl, ch.2.2, pl, n, rfl, _, rfl, ite_b (fun e => ?_) (fun e => ?_)⟩
        · refine ⟨_, rfl, _, rfl, D, _, rfl, t2.val o1, .inl ⟨rfl, _, .inl (.inl (t2.lst _ o1))⟩, _, rfl, ad ch.1, _, _, rfl, rfl, t2.lst _ o1, lenE _, ?_⟩
          have nab : ad ch.2.1 ≠ ad ch.1 := fun e => o3 (t2.inj _ _ o2 o1 e).symm
          have hb : upd H3 (ad ch.1) (.lst ((nbrs (es (chs.take i) pl n) ch.1).map sgV ++ [sgV ch.2.1])) (ad ch.2.1) = some (.lst ((nbrs (es (chs.take i) pl n) ch.2.1).map sgV)) := by
            rw [upd_ne nab]
            exact t2.lst _ o2
          have hDg : DGet (upd H3 (ad ch.1) (.lst ((nbrs (es (chs.take i) pl n) ch.1).map sgV ++ [sgV ch.2.1]))) D (sgV ch.2.1) (some (.ref (ad ch.2.1))) := by
            have nD : D ≠ ad ch.1 := ne_of t2.dict (t2.lst _ o1) (by intro z; cases z)
            have := DGet.k (k := kS ch.2.1) (show upd H3 (ad ch.1) (.lst ((nbrs (es (chs.take i) pl n) ch.1).map sgV ++ [sgV ch.2.1])) D = _ by rw [upd_ne nD]; exact t2.dict)
            rw [valV_kvL, if_pos (let_mem.mp o2)] at this
            exact this
          refine ⟨_, rfl, _, rfl, D, _, rfl, hDg, .inl ⟨rfl, _, .inl (.inl hb)⟩, _, rfl, ad ch.2.1, _, _, rfl, rfl, hb, lenE _, ⟨_, _, _, _, rfl⟩, ?_, ?_⟩
          · exact same_mut (same_mut s2 (hl _ (let_mem.mp o1)).2) (hl _ (let_mem.mp o2)).2
          · rw [etk, es_snoc, if_pos e]
            exact t2.push o1 o2 o3
        · refine ⟨⟨_, _, _, _, rfl⟩, s2, ?_⟩
          rw [etk, es_snoc, if_neg (by rw [e]; decide), List.append_nil]
          exact t2
      · rintro σ H2 ⟨⟨y4, y5, y6, y7, rfl⟩, s2, t2⟩
        have : chs.take (as.map V.ref).length = chs := by rw [List.length_map, hE.length, List.take_length]
        rw [this] at t2
        exact ⟨_, rfl, q D H2 s2 ⟨ad, t2⟩⟩
end
end Wl

namespace Wl
open PySem PySem.Spec PyProof.Rows L2
abbrev wBetween : Stmt := topW 18
abbrev Tw := List (Nat × Option Nat)
def oS : Option Nat → V
  | none => .non
  | some d => sgV d
def twK (tw : Tw) : List (Key × V) := tw.map fun p => (kS p.1, oS p.2)
theorem twK_snoc (tw : Tw) (c : Nat) (o : Option Nat) : twK (tw ++ [(c, o)]) = twK tw ++ [(kS c, oS o)] := by
  unfold twK
  rw [List.map_append]
  rfl
theorem twK_in (tw : Tw) (c : Nat) : (valV (twK tw) (kS c)).isSome = decide (c ∈ tw.map (·.1)) := by
  rw [← valV_any]
  induction tw with
  | nil => rfl
  | cons p r ih =>
    have e : twK (p :: r) = (kS p.1, oS p.2) :: twK r := rfl
    rw [e, List.any_cons, ih, List.map_cons]
    by_cases h : p.1 = c
    · subst h
      simp
    · have h1 : ¬ kS p.1 = kS c := fun q => h (kS_inj q)
      have h2 : ¬ c = p.1 := fun q => h q.symm
      rw [decide_eq_false h1]
      simp [h2]
theorem twK_none {tw : Tw} {c : Nat} (h : c ∉ tw.map (·.1)) : valV (twK tw) (kS c) = none := by
  have := twK_in tw c
  rw [decide_eq_false h] at this
  cases q : valV (twK tw) (kS c) with
  | none => rfl
  | some v => rw [q] at this; cases this
theorem twK_val : ∀ {tw : Tw} {i c : Nat} {o : Option Nat}, (tw.map (·.1)).Nodup → tw[i]? = some (c, o) → valV (twK tw) (kS c) = some (oS o)
  | [], i, c, o, _, h => by simp at h
  | p :: r, 0, c, o, _, h => by
    simp at h
    subst h
    exact valV_pos rfl
  | p :: r, i + 1, c, o, nd, h => by
    rw [List.map_cons, List.nodup_cons] at nd
    have h' : r[i]? = some (c, o) := by simpa using h
    have hm : c ∈ r.map (·.1) := List.mem_map.mpr ⟨_, List.mem_of_getElem? h', rfl⟩
    have e : valV (twK (p :: r)) (kS c) = valV (twK r) (kS c) := valV_neg fun q => by
      have := kS_inj q
      rw [this] at nd
      exact nd.1 hm
    rw [e]
    exact twK_val nd.2 h'
section
variable {P : Program} {w : World} {K : PySem.W.Frag} {mg : Str → Option Value} {base : Heap} {f : Addr} {fd : FuncData}
def spSteps : Sp := fun vs H Q _ => ∃ (g : Nat) (D : Addr) (E : Edges), vs = [sgV g, .ref D] ∧ isLet g ∧ TurnAt H D E ∧ OkE E ∧ E.length ≤ 12 ∧ ∀ (W : Addr) (tw : Tw) (H' : Hp), Same H H' → H' W = some (.dK (twK tw)) → Bfs E g tw tw.length → Q (.ref W) H'
abbrev nSteps : List Str := ["goal", "turned", "toward", "waiting", "at", "letter", "ahead"]
theorem scSteps : FnScope nSteps ["goal", "turned"] (defScope wSteps) := ⟨rfl, rfl, rfl, by decide +kernel, rfl, by decide +kernel, by decide +kernel⟩
theorem ok_steps (F : Fun K "steps_toward" "steps_toward" wSteps f fd) (B : Bi mg) : FnOk P w K mg base CX0 1 f fd ["goal", "turned"] spSteps := by
  refine F.ok scSteps (fun vs H Q E h => ?_) (fun cdv A outer s H vs Q E hr h => ?_)
  · obtain ⟨g, D, E, rfl, _⟩ := h
    rfl
  · obtain ⟨g, D, Ed, rfl, hg, ⟨ad, t⟩, okE, lE, q⟩ := h
    refine ⟨_, pss_cons (ps_set (i := 2) scSteps.nd rfl (.inl rfl) (pe_disp (pps_cons (pv 0) pe_non pps_nil) rfl rfl (by simp) (by decide)))
      (pss_cons (ps_set (i := 3) scSteps.nd rfl (.inl rfl) (pe_lst (pa_cons (pv 0) pa_nil)))
      (pss_cons (ps_set (i := 4) scSteps.nd rfl (.inl rfl) pe_int)
      (pss_cons (ps_while PassesOwn.never (pt_cmpR op_lt (pv 4) (pe_callB call_len_seq (by rfl) B.len PySem.boot_len (pa_cons (pv 3) pa_nil)) (nomark _))
        (pss_cons (ps_set (i := 5) scSteps.nd rfl (.inl rfl) (pe_ix ix_list (pv 3) (pv 4) (fun _ _ => rfl)))
        (pss_cons (ps_for PassesOwn.never rfl (pi_list (pe_dget (room1 hr) (pv 1) (pv 5) (fun _ _ => rfl))) (pg_name (i := 6) scSteps.nd rfl (.inl rfl))
          (pss_one (ps_if (pt_cmp (pc_dnotin (room1 hr) (pv 6) (pv 2)))
            (pss_cons (ps_dput (room1 hr) (pv 2) (pv 6) (pv 5) rfl)
            (pss_one (ps_expr (pe_bm PySem.F.plainAttrs_list PySem.F.slot_list_append PySem.F.type_list_append mt_append (pv 3) (pa_cons (pv 6) pa_nil))))) pss_nil)))
        (pss_one (ps_aug (i := 4) scSteps.nd rfl (.inl rfl) pe_int ip_add)))))
      (pss_one (ps_ret (pv 2)))))), ?_⟩
    intro W hW
    refine ⟨_, rfl, upd_same, [(kS g, .non)], rfl, by simp, ?_⟩
    have sW : Same H (upd (upd H W (.dK [])) W (.dK (mergeK [] [(kS g, .non)]))) := same_mut (same_new hW) hW
    have eW : (upd (upd H W (.dK [])) W (.dK (mergeK [] [(kS g, .non)]))) W = some (.dK (twK [(g, none)])) := upd_same
    generalize upd (upd H W (.dK [])) W (.dK (mergeK [] [(kS g, .non)])) = H1 at sW eW
    refine ⟨_, rfl, lz, fun L hL => ?_⟩
    have nLW : L ≠ W := (ne_of_none eW hL).symm
    have hL0 : H L = none := sW.free hL
    refine ⟨fun m σ H' => ∃ (tw : Tw) (a : Nat) (y5 y6 : Option V), m = 26 - a ∧ σ = [some (sgV g), some (.ref D), some (.ref W), some (.ref L), some (.int a), y5, y6] ∧ Same H H' ∧ H' W = some (.dK (twK tw)) ∧ H' L = some (.lst (tw.map fun p => sgV p.1)) ∧ Bfs Ed g tw a ∧ a ≤ tw.length,
      ⟨26, [(g, none)], 0, _, _, rfl, rfl, sW.trans (same_new hL), (same_new hL) _ _ eW, upd_same, Bfs.start hg, by simp⟩, ?_⟩
    rintro m σ H2 ⟨tw, a, y5, y6, rfl, rfl, s2, hW2, hL2, b2, ha⟩
    have h26 := b2.len
    refine ⟨_, rfl, _, rfl, L, _, rfl, .inl (.inl (.inl hL2)), _, _, rfl, rfl, _, rfl, ite_b (fun e => ?_) (fun e => ?_)⟩
    · have hlt : a < tw.length := by
        have := of_decide_eq_true e
        rw [List.length_map] at this
        omega
      obtain ⟨⟨x, o⟩, hx⟩ : ∃ p, tw[a]? = some p := ⟨tw[a], List.getElem?_eq_getElem hlt⟩
      have hxl : isLet x := b2.lets x (List.mem_map.mpr ⟨_, List.mem_of_getElem? hx, rfl⟩)
      refine ⟨_, fun σ' H' h => h, ?_⟩
      refine ⟨_, rfl, _, rfl, L, _, _, sgV x, rfl, rfl, .inl (.inl hL2), atI_nat (j := a) (by rw [List.getElem?_map, hx]; rfl), ?_⟩
      have lenN : (nbrs Ed x).length ≤ 24 := by
        have := nbrs_len Ed x
        omega
      refine ⟨_, rfl, _, rfl, D, _, rfl, (t.same s2).val hxl, ad x, rfl, ⟨_, .inl (.inl ((t.same s2).lst x hxl))⟩, for_it (walk_list (K := K) (a := ad x) (xs := (nbrs Ed x).map sgV)) (fun j σ H' => ∃ (tw' : Tw) (y6 : Option V), σ = [some (sgV g), some (.ref D), some (.ref W), some (.ref L), some (.int a), some (sgV x), y6] ∧ Same H H' ∧ H' W = some (.dK (twK tw')) ∧ H' L = some (.lst (tw'.map fun p => sgV p.1)) ∧ Bfs Ed g tw' a ∧ tw'[a]? = some (x, o) ∧ ∀ y ∈ (nbrs Ed x).take j, y ∈ tw'.map (·.1))
        ⟨tw, _, rfl, s2, hW2, hL2, b2, hx, fun y hy => by simp at hy⟩ (fun j σ H' _ h => ?_) ?_ ?_⟩
      · obtain ⟨_, _, _, s3, _⟩ := h
        exact .inl (.inl ((t.same s3).lst x hxl))
      · rintro j v σ H3 H4 hj ⟨tw', y6', rfl, s3, hW3, hL3, b3, hx3, hin⟩ ⟨rfl, hv⟩
        rw [List.getElem?_map] at hv
        obtain ⟨c, hc, rfl⟩ := Option.map_eq_some_iff.mp hv
        have hcn : c ∈ nbrs Ed x := List.mem_of_getElem? hc
        have hcl : isLet c := conn_let okE (Conn.step (.refl x) hcn) hxl
        have l3 := b3.len
        have etk : (nbrs Ed x).take (j + 1) = (nbrs Ed x).take j ++ [c] := by rw [List.take_add_one, hc]; rfl
        refine ⟨_, rfl, _, rfl, W, _, rfl, DGet.k (k := kS c) hW3, _, rfl, ?_⟩
        rw [twK_in]
        refine not_b (fun e => ?_) (fun e => ?_)
        · have hnot := of_decide_eq_false e
          have lK : (twK tw').length < sizeLine := by
            unfold twK
            rw [List.length_map]
            exact small1000 (by omega)
          refine ⟨_, rfl, _, rfl, _, rfl, W, _, rfl, DPut.k (k := kS c) hW3 lK, ?_⟩
          rw [putK_new _ (twK_none hnot)]
          have hL4 : upd H4 W (.dK (twK tw' ++ [(kS c, sgV x)])) L = some (.lst (tw'.map fun p => sgV p.1)) := by
            rw [upd_ne nLW]
            exact hL3
          refine ⟨_, rfl, .inl ⟨rfl, _, .inl (.inl hL4)⟩, _, rfl, L, _, _, rfl, rfl, hL4, ?_, tw' ++ [(c, some x)], _, rfl, ?_, ?_, ?_, b3.push hx3 hcn hcl hnot, ?_, ?_⟩
          · rw [List.length_map]
            exact small1000 (by omega)
          · exact same_mut (same_mut s3 hW) hL0
          · rw [upd_ne nLW.symm, upd_same, twK_snoc]
            rfl
          · rw [upd_same, List.map_append]
            rfl
          · rw [List.getElem?_append_left (List.getElem?_eq_some_iff.mp hx3).1]
            exact hx3
          · intro y hy
            rw [etk] at hy
            rw [List.map_append]
            rcases List.mem_append.mp hy with hy | hy
            · exact List.mem_append_left _ (hin y hy)
            · rw [List.mem_singleton] at hy
              subst hy
              exact List.mem_append_right _ (by simp)
        · have hyes := of_decide_eq_true e
          refine ⟨tw', _, rfl, s3, hW3, hL3, b3, hx3, fun y hy => ?_⟩
          rw [etk] at hy
          rcases List.mem_append.mp hy with hy | hy
          · exact hin y hy
          · rw [List.mem_singleton] at hy
            subst hy
            exact hyes
      · rintro σ H3 ⟨tw', y6', rfl, s3, hW3, hL3, b3, hx3, hin⟩
        have hall : ∀ y ∈ nbrs Ed x, y ∈ tw'.map (·.1) := fun y hy => hin y (by rw [List.length_map, List.take_length]; exact hy)
        have hl3 : a < tw'.length := (List.getElem?_eq_some_iff.mp hx3).1
        exact ⟨_, rfl, _, _, rfl, rfl, 26 - (a + 1), by omega, tw', a + 1, _, _, rfl, rfl, s3, hW3, hL3, b3.next hx3 hall, hl3⟩
    · have hge : tw.length ≤ a := by
        have := of_decide_eq_false e
        rw [List.length_map] at this
        omega
      have : a = tw.length := by omega
      subst this
      exact ⟨_, rfl, q W tw H2 s2 hW2 b2⟩
end
end Wl

namespace Wl
open PySem PySem.Spec PyProof.Rows L2
section
variable {P : Program} {w : World} {K : PySem.W.Frag} {mg : Str → Option Value} {base : Heap} {f : Addr} {fd : FuncData}
def spBetween : Sp := fun vs H Q _ => ∃ (a b : Nat) (D : Addr) (E : Edges), vs = [sgV a, sgV b, .ref D] ∧ isLet b ∧ TurnAt H D E ∧ OkE E ∧ E.length ≤ 12 ∧
  (Conn E b a → ∀ (L : Addr) (cs : List Nat) (H' : Hp), H L = none → Same H H' → H' L = some (.lst (cs.map sgV)) → cs.length ≤ 26 → Q (.ref L) H') ∧ (¬ Conn E b a → ∀ H', Same H H' → Q .non H')
abbrev nBetween : List Str := ["one", "other", "turned", "toward", "row", "letter"]
theorem scBetween : FnScope nBetween ["one", "other", "turned"] (defScope wBetween) := ⟨rfl, rfl, rfl, by decide +kernel, rfl, by decide +kernel, by decide +kernel⟩
theorem ok_between (F : Fun K "letters_between" "letters_between" wBetween f fd) (hS : Has P w K mg base "steps_toward" 1 ["goal", "turned"] spSteps) : FnOk P w K mg base CX0 2 f fd ["one", "other", "turned"] spBetween := by
  refine F.ok scBetween (fun vs H Q E h => ?_) (fun cdv A outer s H vs Q E hr h => ?_)
  · obtain ⟨a, b, D, E, rfl, _⟩ := h
    rfl
  · obtain ⟨a, b, D, Ed, rfl, hb, t, okE, lE, q1, q2⟩ := h
    refine ⟨_, pss_cons (ps_set (i := 3) scBetween.nd rfl (.inl rfl) (pe_h hS hr (pa_cons (pv 1) (pa_cons (pv 2) pa_nil))))
      (pss_cons (ps_if (pt_cmp (pc_dnotin (room1 hr) (pv 0) (pv 3))) (pss_one (ps_ret pe_non)) pss_nil)
      (pss_cons (ps_set (i := 4) scBetween.nd rfl (.inl rfl) (pe_lst pa_nil))
      (pss_cons (ps_set (i := 5) scBetween.nd rfl (.inl rfl) (pe_dget (room1 hr) (pv 3) (pv 0) (fun _ _ => rfl)))
      (pss_cons (ps_while PassesOwn.never (pt_cmp (pc_notN (pv 5)))
        (pss_cons (ps_expr (pe_bm PySem.F.plainAttrs_list PySem.F.slot_list_append PySem.F.type_list_append mt_append (pv 4) (pa_cons (pv 5) pa_nil)))
        (pss_one (ps_set (i := 5) scBetween.nd rfl (.inl rfl) (pe_dget (room1 hr) (pv 3) (pv 5) (fun _ _ => rfl))))))
      (pss_one (ps_ret (pv 4))))))), ?_⟩
    refine ⟨_, rfl, _, rfl, b, D, Ed, rfl, hb, t, okE, lE, fun W tw H1 s1 hW bf => ?_⟩
    refine ⟨_, rfl, _, rfl, W, _, rfl, DGet.k (k := kS a) hW, _, rfl, ?_⟩
    rw [twK_in]
    refine not_b (fun e => ?_) (fun e => ?_)
    · exact q2 (fun c => of_decide_eq_false e ((bf.done (Nat.le_refl _)).mpr c)) H1 s1
    · have hin := of_decide_eq_true e
      have hc : Conn Ed b a := (bf.done (Nat.le_refl _)).mp hin
      obtain ⟨⟨a', o⟩, hm, e1⟩ := List.mem_map.mp hin
      have e1 : a' = a := e1
      subst e1
      obtain ⟨i, hi, e2⟩ := List.mem_iff_getElem.mp hm
      have hti : tw[i]? = some (a', o) := by rw [List.getElem?_eq_getElem hi, e2]
      refine ⟨lz, fun R hR => ?_⟩
      have sR : Same H1 (upd H1 R (.lst [])) := same_new hR
      have hv : DGet (upd H1 R (.lst [])) W (sgV a') (some (oS o)) := by
        have := DGet.k (k := kS a') (sR _ _ hW)
        rw [twK_val bf.nd hti] at this
        exact this
      refine ⟨_, rfl, _, rfl, W, _, rfl, hv, ?_⟩
      refine ⟨fun m σ H' => ∃ (c : Nat) (o : Option Nat) (cs : List Nat), σ = [some (sgV a'), some (sgV b), some (.ref D), some (.ref W), some (.ref R), some (oS o)] ∧ Same H1 H' ∧ H' R = some (.lst (cs.map sgV)) ∧ tw[m]? = some (c, o) ∧ cs.length + m ≤ 26,
        ⟨i, a', o, [], rfl, sR, upd_same, hti, by have := bf.len; simp; omega⟩, ?_⟩
      rintro m σ H2 ⟨c, o, cs, rfl, s2, hR2, ht, hl⟩
      cases o with
      | none =>
        refine ⟨_, rfl, _, rfl, iteF ⟨_, rfl, q1 hc R cs H2 (s1.free hR) (s1.trans s2) hR2 (by omega)⟩⟩
      | some d =>
        obtain ⟨j, o', hj, htj⟩ := bf.par m c d ht
        refine ⟨_, rfl, _, rfl, iteT ⟨_, fun σ' H' h => h, ?_⟩⟩
        have nW : W ≠ R := ne_of_none hW hR
        have hv2 : DGet (upd H2 R (.lst (cs.map sgV ++ [sgV d]))) W (sgV d) (some (oS o')) := by
          have := DGet.k (k := kS d) (show upd H2 R (.lst (cs.map sgV ++ [sgV d])) W = _ by rw [upd_ne nW]; exact s2 _ _ hW)
          rw [twK_val bf.nd htj] at this
          exact this
        refine ⟨_, rfl, .inl ⟨rfl, _, .inl (.inl hR2)⟩, _, rfl, R, _, _, rfl, rfl, hR2, ?_, ?_⟩
        · rw [List.length_map]
          exact small1000 (by omega)
        · refine ⟨_, rfl, _, rfl, W, _, rfl, hv2, j, hj, d, o', cs ++ [d], rfl, same_mut s2 hR, ?_, htj, ?_⟩
          · rw [upd_same, List.map_append]
            rfl
          · rw [List.length_append, List.length_singleton]
            omega
end
end Wl

namespace Wl
open PySem PySem.Spec PyProof.Rows L2
abbrev wRow : Stmt := topW 19
abbrev wAre : Stmt := topW 20
abbrev wLetAt : Stmt := topW 21
abbrev wMean : Stmt := topW 22
section
variable {P : Program} {w : World} {K : PySem.W.Frag} {mg : Str → Option Value} {base : Heap} {f : Addr} {fd : FuncData}
/-- a def whose last parameter may be left out: None -/
abbrev FunN (K : PySem.W.Frag) (x : Str) (st : Stmt) (f : Addr) (fd : FuncData) : Prop := FunD K x x (defArgs st) (defBody st) (defScope st) [.non] [] f fd
def HasN (P : Program) (w : World) (K : PySem.W.Frag) (mg : Str → Option Value) (base : Heap) (x : Str) (st : Stmt) (k : Nat) (ps : List Str) (sp : Sp) : Prop :=
  ∃ f fd, FnOk P w K mg base CX0 k f fd ps sp ∧ mg x = some (.ref f) ∧ FunN K x st f fd
abbrev ps3 : List Str := ["word", "other", "changes"]
theorem bind3 {x : Str} {st : Stmt} (F : FunN K x st f fd) (hs : st = wRow ∨ st = wAre) : Binds K fd ps3 [] := by
  rcases hs with rfl | rfl
  · obtain ⟨ds, h1, h2⟩ := F.binds1 (ps := ps3) 3 1 (by simp) rfl (fun T kV doc pm an cdv ct us its l1 l2 => by
      match us, its, l1, l2 with
      | [a, b, c], [d], _, _ => exact ⟨_, rfl, rfl⟩)
    cases h1
    exact h2
  · obtain ⟨ds, h1, h2⟩ := F.binds1 (ps := ps3) 3 1 (by simp) rfl (fun T kV doc pm an cdv ct us its l1 l2 => by
      match us, its, l1, l2 with
      | [a, b, c], [d], _, _ => exact ⟨_, rfl, rfl⟩)
    cases h1
    exact h2
theorem bindA2 {x : Str} (F : FunN K x wAre f fd) : ∃ ds, Vals [V.non] ds ∧ Binds K fd ps3 ds :=
  F.binds1 (ps := ps3) 2 0 (by simp) rfl (fun T kV doc pm an cdv ct us its l1 l2 => by
      match us, its, l1, l2 with
      | [a, b], [d], _, _ => exact ⟨_, rfl, rfl⟩)
abbrev ps2 : List Str := ["word", "changes"]
theorem bindM2 {x : Str} (F : FunN K x wMean f fd) : Binds K fd ps2 [] := by
  obtain ⟨ds, h1, h2⟩ := F.binds1 (ps := ps2) 2 1 (by simp) rfl (fun T kV doc pm an cdv ct us its l1 l2 => by
      match us, its, l1, l2 with
      | [a, b], [d], _, _ => exact ⟨_, rfl, rfl⟩)
  cases h1
  exact h2
theorem bindM1 {x : Str} (F : FunN K x wMean f fd) : ∃ ds, Vals [V.non] ds ∧ Binds K fd ps2 ds :=
  F.binds1 (ps := ps2) 1 0 (by simp) rfl (fun T kV doc pm an cdv ct us its l1 l2 => by
      match us, its, l1, l2 with
      | [a], [d], _, _ => exact ⟨_, rfl, rfl⟩)
/-! keywords -/
def gA3 {α : Type} : List α → List α → List α → List α
  | [], _, [c, b, a] => [a, b, c]
  | us, _, _ => us
def gA2 {α : Type} : List α → List α → List α → List α
  | [], ds, zs => zs ++ ds
  | us, _, _ => us
def gA1 {α : Type} : List α → List α → List α → List α
  | us, _, zs => us ++ zs
def gM2 {α : Type} : List α → List α → List α → List α
  | [], _, [c, a] => [a, c]
  | us, _, _ => us
theorem vals_app {vs zs : List V} {us ws : List Value} (r : Vals vs us) (s : Vals zs ws) : Vals (vs ++ zs) (us ++ ws) := r.append s
theorem gA3_rel {vs ds zs : List V} {us its ws : List Value} (r1 : Vals vs us) (r2 : Vals ds its) (r3 : Vals zs ws) : Vals (gA3 vs ds zs) (gA3 us its ws) := by
  cases r1 with
  | nil =>
    cases r3 with
    | nil => exact .nil
    | cons a r3 => cases r3 with
      | nil => exact .nil
      | cons b r3 => cases r3 with
        | nil => exact .nil
        | cons c r3 => cases r3 with
          | nil => exact .cons c (.cons b (.cons a .nil))
          | cons d r3 => exact .nil
  | cons a r => exact .cons a r
theorem gM2_rel {vs ds zs : List V} {us its ws : List Value} (r1 : Vals vs us) (r2 : Vals ds its) (r3 : Vals zs ws) : Vals (gM2 vs ds zs) (gM2 us its ws) := by
  cases r1 with
  | nil =>
    cases r3 with
    | nil => exact .nil
    | cons a r3 => cases r3 with
      | nil => exact .nil
      | cons b r3 => cases r3 with
        | nil => exact .cons b (.cons a .nil)
        | cons d r3 => exact .nil
  | cons a r => exact .cons a r
theorem gA2_rel {vs ds zs : List V} {us its ws : List Value} (r1 : Vals vs us) (r2 : Vals ds its) (r3 : Vals zs ws) : Vals (gA2 vs ds zs) (gA2 us its ws) := by
  cases r1 with
  | nil => exact vals_app r3 r2
  | cons a r => exact .cons a r
theorem kwA3 {x : Str} (F : FunN K x wAre f fd) : ∃ its : List Value, KBn K fd ps3 0 ["changes", "other", "word"] (fun us ws => gA3 us its ws) (fun vs zs => gA3 vs [.non] zs) :=
  F.kbindsD (ps := ps3) 0 ["changes", "other", "word"] gA3 (by simp) gA3_rel (fun T kV doc pm an cdv ct us its ws l1 l2 l3 => by
      match us, its, ws, l1, l2, l3 with
      | [], [d], [a, b, c], _, _, _ => exact ⟨_, rfl, rfl⟩)
theorem kwA2 {x : Str} (F : FunN K x wAre f fd) : ∃ its : List Value, KBn K fd ps3 0 ["word", "other"] (fun us ws => gA2 us its ws) (fun vs zs => gA2 vs [.non] zs) :=
  F.kbindsD (ps := ps3) 0 ["word", "other"] gA2 (by simp) gA2_rel (fun T kV doc pm an cdv ct us its ws l1 l2 l3 => by
      match us, its, ws, l1, l2, l3 with
      | [], [d], [a, b], _, _, _ => exact ⟨_, rfl, rfl⟩)
theorem kwA1 {x : Str} (F : FunN K x wAre f fd) : ∃ its : List Value, KBn K fd ps3 2 ["changes"] (fun us ws => gA1 us its ws) (fun vs zs => gA1 vs [.non] zs) :=
  F.kbindsD (ps := ps3) 2 ["changes"] gA1 (by simp) (fun r1 r2 r3 => vals_app r1 r3) (fun T kV doc pm an cdv ct us its ws l1 l2 l3 => by
      match us, its, ws, l1, l2, l3 with
      | [a, b], [d], [c], _, _, _ => exact ⟨_, rfl, rfl⟩)
theorem kwM2 {x : Str} (F : FunN K x wMean f fd) : ∃ its : List Value, KBn K fd ps2 0 ["changes", "word"] (fun us ws => gM2 us its ws) (fun vs zs => gM2 vs [.non] zs) :=
  F.kbindsD (ps := ps2) 0 ["changes", "word"] gM2 (by simp) gM2_rel (fun T kV doc pm an cdv ct us its ws l1 l2 l3 => by
      match us, its, ws, l1, l2, l3 with
      | [], [d], [a, b], _, _, _ => exact ⟨_, rfl, rfl⟩)
theorem kwM1 {x : Str} (F : FunN K x wMean f fd) : ∃ its : List Value, KBn K fd ps2 0 ["word"] (fun us ws => gA2 us its ws) (fun vs zs => gA2 vs [.non] zs) :=
  F.kbindsD (ps := ps2) 0 ["word"] gA2 (by simp) gA2_rel (fun T kV doc pm an cdv ct us its ws l1 l2 l3 => by
      match us, its, ws, l1, l2, l3 with
      | [], [d], [a], _, _, _ => exact ⟨_, rfl, rfl⟩)
end
end Wl

/-! sorted of a list of texts, as a reading; the least of sorted letters stands first. -/
namespace Wl
open PySem PySem.Spec PyProof.Rows L2
def dz (z : Str) : V × PyData := (.str z, .str z)
theorem srt_strs (xs : List Str) : ((xs.map dz).mergeSort (PySem.W.dataLe false (·.2))).map (·.1) = (sortS xs).map V.str := by
  have h : (sortS xs).map dz = (xs.map dz).mergeSort (PySem.W.dataLe false (·.2)) := List.map_mergeSort fun a _ b _ => by
    rw [PySem.W.dataLe_eq]
    exact (le_data_str a b).symm
  rw [← h, List.map_map]
  rfl
theorem srt_reads {K : PySem.W.Frag} {H : Hp} {Q : VK} {a : Addr} {xs : List Str} (h : SqL K H a (xs.map V.str)) (q : ∀ p, H p = none → Q (.ref p) (upd H p (.lst ((sortS xs).map V.str)))) : rSortD K [.ref a] H Q := by
  refine ⟨a, xs.map dz, rfl, ?_, ?_, ?_, ?_, ?_, fun p hp => ?_⟩
  · rw [List.map_map]
    exact h
  · intro b hb
    obtain ⟨x, _, rfl⟩ := List.mem_map.mp hb
    exact .str x
  · intro d hd e he
    obtain ⟨b, hb, rfl⟩ := List.mem_map.mp hd
    obtain ⟨x, _, rfl⟩ := List.mem_map.mp hb
    obtain ⟨c, hc, rfl⟩ := List.mem_map.mp he
    obtain ⟨y, _, rfl⟩ := List.mem_map.mp hc
    rfl
  · refine .inr fun d hd => ?_
    obtain ⟨b, hb, rfl⟩ := List.mem_map.mp hd
    obtain ⟨x, _, rfl⟩ := List.mem_map.mp hb
    exact ⟨(fun e => by cases e), (fun ys e => by cases e)⟩
  · intro b hb
    obtain ⟨x, _, rfl⟩ := List.mem_map.mp hb
    show PyData.depth (.str x) ≤ 8
    simp [PyData.depth]
  · rw [srt_strs]
    exact q p hp
theorem ltS_sign {c d : Nat} : ltS (sign c) (sign d) ↔ c < d := by
  show [c] < [d] ↔ c < d
  constructor
  · intro h
    cases h with
    | rel h => exact h
    | cons h => cases h
  · exact fun h => .rel h
theorem sg_inj1 {c d : Nat} (h : sign c = sign d) : c = d := by
  have e := congrArg (fun z : Str => z.cps.toList) h
  simpa [sign] using e
theorem head_sortS {cs : List Nat} {m : Nat} (hm : m ∈ cs) (hmin : ∀ d ∈ cs, m ≤ d) : (sortS (cs.map sign))[0]? = some (sign m) := by
  have h1 : (sortS (cs.map sign)).Pairwise (fun a b => leB a b = true) := List.pairwise_mergeSort leB_trans leB_total _
  have h2 : sign m ∈ sortS (cs.map sign) := mem_sortS.mpr (List.mem_map.mpr ⟨m, hm, rfl⟩)
  have h3 : ∀ x ∈ sortS (cs.map sign), ∃ c ∈ cs, sign c = x := fun x hx => List.mem_map.mp (mem_sortS.mp hx)
  cases e : sortS (cs.map sign) with
  | nil =>
    rw [e] at h2
    cases h2
  | cons x r =>
    rw [e] at h1 h2 h3
    obtain ⟨c, hc, rfl⟩ := h3 x List.mem_cons_self
    have e2 : c = m := by
      rcases List.mem_cons.mp h2 with h | h
      · exact (sg_inj1 h).symm
      · have q := (List.pairwise_cons.mp h1).1 _ h
        unfold leB at q
        rw [Bool.not_eq_true', decide_eq_false_iff_not, ltS_sign] at q
        have := hmin c hc
        omega
    rw [e2]
    rfl
end Wl

namespace Wl
open PySem PySem.Spec PyProof.Rows L2
theorem cut_len (z : Str) (lo hi : Option Int) : (cutS z lo hi).length ≤ z.length := by
  have e : ∀ x : Str, x.length = x.cps.toList.length := fun x => by simp [Str.length]
  rw [e, e]
  show (List.take _ (List.drop _ z.cps.toList)).length ≤ _
  rw [List.length_take, List.length_drop]
  omega
theorem add_len (x y : Str) : (x ++ y).length = x.length + y.length := by
  rw [TL.len_tl, TL.tl_append, List.length_append, ← TL.len_tl, ← TL.len_tl]
theorem codes_len (z : Str) : (codes z).length = z.length := by simp [codes, Str.length]
theorem ones_sum (l : List Nat) : (l.map fun _ => 1).sum = l.length := by
  induction l with
  | nil => rfl
  | cons x r ih => rw [List.map_cons, List.sum_cons, ih, List.length_cons]; omega
section
variable {P : Program} {w : World} {K : PySem.W.Frag} {mg : Str → Option Value} {base : Heap} {f : Addr} {fd : FuncData}
theorem okN {x : Str} {st : Stmt} {N ps : List Str} {k : Nat} {sp : Sp} (F : FunN K x st f fd) (S : FnScope N ps (defScope st)) (len : ∀ vs H Q E, sp vs H Q E → vs.length = ps.length)
    (hbody : ∀ (cdv : Value) (A : Around) (outer : List Env) (s : Shared) (H : Hp) (vs : List V) (Q : VK) (E : XK), Room k (A.deeper (envOfC x (defScope st) s.heap.objs.size f cdv)) → sp vs H Q E →
      ∃ t, PSs (cxOf CX0 P w K mg base N x (defScope st) f cdv A outer s H E).nox (defBody st) t ∧ t { nx := fun _ H' => Q .non H', rt := Q } (start N vs) H) : FnOk P w K mg base CX0 (k + 1) f fd ps sp :=
  F.ok S len fun cdv A outer s H vs Q E hr hsp => let ⟨t, h, q⟩ := hbody cdv A outer s H vs Q E hr hsp; ⟨t, h.nox, q⟩
def spRow : Sp := fun vs H Q _ => ∃ (z y : Str) (v : V) (chs : List Chg), vs = [.str z, .str y, v] ∧ IsWd z ∧ IsWd y ∧ ChV H v chs ∧ OkCs chs ∧
  (OneP chs z y → ∀ (T : Addr) (xs : List V) (H' : Hp), Same H H' → H' T = some (.tup xs) → Q (.ref T) H') ∧ (¬ OneP chs z y → ∀ H', Same H H' → Q .non H')
abbrev nRow : List Str := ["word", "other", "changes", "known", "row", "place", "goal", "letters", "letter"]
theorem scRow : FnScope nRow ps3 (defScope wRow) := ⟨rfl, rfl, rfl, by decide +kernel, rfl, by decide +kernel, by decide +kernel⟩
theorem ok_row (F : FunN K "row_between" wRow f fd) (B : Bi mg) (hCk : Has P w K mg base "check_word" 2 ["word"] spCheckW) (hCh : Has P w K mg base "checked_changes" 4 ["changes"] spChecked)
    (hB : Has P w K mg base "letters_between" 2 ["one", "other", "turned"] spBetween) (hT : Has P w K mg base "turned_letters" 2 ["changes", "place", "length"] spTurned) : FnOk P w K mg base CX0 5 f fd ps3 spRow := by
  refine okN F scRow (fun vs H Q E h => ?_) (fun cdv A outer s H vs Q E hr h => ?_)
  · obtain ⟨z, y, v, chs, rfl, _⟩ := h
    rfl
  · obtain ⟨z, y, v, chs, rfl, hz, hy, hv, ok, q1, q2⟩ := h
    refine ⟨_, pss_cons (ps_expr (pe_h hCk hr (pa_cons (pv 0) pa_nil))) (pss_cons (ps_expr (pe_h hCk hr (pa_cons (pv 1) pa_nil)))
      (pss_cons (ps_set (i := 3) scRow.nd rfl (.inl rfl) (pe_h hCh hr (pa_cons (pv 2) pa_nil)))
      (pss_cons (ps_if (pt_cmpR op_ne (pe_callB call_len_str (by rfl) B.len PySem.boot_len (pa_cons (pv 0) pa_nil)) (pe_callB call_len_str (by rfl) B.len PySem.boot_len (pa_cons (pv 1) pa_nil)) (nomark _)) (pss_one (ps_ret pe_non)) pss_nil)
      (pss_cons (ps_set (i := 4) scRow.nd rfl (.inl rfl) (pe_lst (pa_cons (pv 0) pa_nil)))
      (pss_cons (ps_for PassesOwn.never rfl (pi_enumS (by rfl) B.enum (pa_cons (pv 1) pa_nil)) (pg_tup rfl (pgs_cons (pg_name (i := 5) scRow.nd rfl (.inl rfl)) (pgs_cons (pg_name (i := 6) scRow.nd rfl (.inl rfl)) pgs_nil)))
        (pss_cons (ps_set (i := 7) scRow.nd rfl (.inl rfl) (pe_h hB hr (pa_cons (pe_ix ix_str (pv 0) (pv 5) (fun _ _ => rfl)) (pa_cons (pv 6) (pa_cons (pe_h hT hr (pa_cons (pv 3) (pa_cons (pv 5) (pa_cons (pe_callB call_len_str (by rfl) B.len PySem.boot_len (pa_cons (pv 0) pa_nil)) pa_nil)))) pa_nil)))))
        (pss_cons (ps_if (pt_cmp (pc_isN (pv 7))) (pss_one (ps_ret pe_non)) pss_nil)
        (pss_one (ps_for PassesOwn.never rfl (pi_list (pv 7)) (pg_name (i := 8) scRow.nd rfl (.inl rfl)) (pss_one (ps_expr (pe_bm PySem.F.plainAttrs_list PySem.F.slot_list_append PySem.F.type_list_append mt_append (pv 4) (pa_cons
          (pe_op op_add_str (pe_op op_add_str (pe_slice sl_str (pv 1) po_none (po_some (pv 5))) (pv 8)) (pe_slice sl_str (pv 0) (po_some (pe_op op_add (pv 5) pe_int)) po_none)) pa_nil)))))))))
      (pss_one (ps_ret (pe_callTy call_tuple_of (by rfl) B.tuple (by decide +kernel) (pa_cons (pv 4) pa_nil))))))))), ?_⟩
    have z8 := hz.len
    have y8 := hy.len
    refine ⟨_, rfl, z, rfl, hz, fun Ha sa => ⟨_, rfl, y, rfl, hy, fun Hb sb => ?_⟩⟩
    refine ⟨_, rfl, v, chs, rfl, hv.same (sa.trans sb), ok, fun S H1 s1 hS => ?_⟩
    have s01 : Same H H1 := (sa.trans sb).trans s1
    refine ⟨_, rfl, _, rfl, lzl (by omega), _, rfl, _, rfl, lzl (by omega), rfl, _, rfl, ?_⟩
    rw [int_dec]
    refine ite_b (fun e => ?_) (fun e => ?_)
    · refine q2 (fun o => ?_) H1 s01
      have := o.1
      rw [codes_len, codes_len] at this
      rw [decide_eq_true (by omega)] at e
      cases e
    · have hl : z.length = y.length := by
        by_cases q : z.length = y.length
        · exact q
        · rw [decide_eq_false (by omega)] at e
          cases e
      refine ⟨_, rfl, lz, fun R hR => ?_⟩
      refine ⟨_, rfl, y, rfl, for_it walk_enumS (fun i σ H' => (∃ y5 y6 y7 y8, σ = [some (.str z), some (.str y), some v, some (.ref S), some (.ref R), y5, y6, y7, y8]) ∧ Same H1 H' ∧ (∃ xs, H' R = some (.lst xs) ∧ xs.length ≤ 1 + 26 * i) ∧ ∀ j a b, j < i → (codes z)[j]? = some a → (codes y)[j]? = some b → Conn (es chs j (codes z).length) b a)
        ⟨⟨_, _, _, _, rfl⟩, same_new hR, ⟨_, upd_same, by simp⟩, fun j a b hj => by omega⟩ (fun _ _ _ _ _ => trivial) ?_ ?_⟩
      · rintro i x σ H2 H3 hi ⟨⟨y5, y6, y7, y8', rfl⟩, s2, ⟨xs, hx, lx⟩, hc⟩ ⟨T, b, rfl, hT, hb, rfl⟩
        have sT : Same H2 (upd H2 T (.tup [.int i, .str (sign b)])) := same_new hT
        refine ⟨T, _, rfl, .inl (.inl upd_same), rfl, _, _, rfl, _, _, rfl, rfl, ?_⟩
        have hiz : i < (codes z).length := by rw [codes_len] at hi ⊢; omega
        obtain ⟨a, ha⟩ : ∃ a, (codes z)[i]? = some a := ⟨_, List.getElem?_eq_getElem hiz⟩
        have hbl : isLet b := (wd_codes.mp hy).2 b (List.mem_of_getElem? hb)
        have hxT : upd H2 T (.tup [.int i, .str (sign b)]) R = some (.lst xs) := sT _ _ hx
        have s2T : Same H1 (upd H2 T (.tup [.int i, .str (sign b)])) := s2.trans sT
        generalize upd H2 T (.tup [.int i, .str (sign b)]) = H3 at hxT s2T
        refine ⟨_, rfl, _, rfl, z, _, a, rfl, rfl, lzl (by omega), atI_nat ha, _, rfl, _, rfl, _, rfl, _, rfl, _, rfl, lzl (by omega), S, chs, i, z.length, rfl, hS.same s2T, ok, fun D H4 s4 t4 => ?_⟩
        rw [← codes_len z] at t4
        refine ⟨a, b, D, es chs i (codes z).length, rfl, hbl, t4, es_ok ok.2 _ _, Nat.le_trans (es_len _ _ _) ok.1, fun cc L cs H5 hLn s5 hL hcs => ?_, fun nc H5 s5 => ?_⟩
        · refine ⟨_, rfl, _, rfl, iteF ⟨_, rfl, L, rfl, ⟨_, .inl (.inl hL)⟩, ?_⟩⟩
          have nLR : R ≠ L := ne_of_none (s4 _ _ hxT) hLn
          refine for_it (walk_list (K := K) (a := L) (xs := cs.map sgV)) (fun j σ H' => (∃ y8, σ = [some (.str z), some (.str y), some v, some (.ref S), some (.ref R), some (.int i), some (sgV b), some (.ref L), y8]) ∧ Same H1 H' ∧ H' L = some (.lst (cs.map sgV)) ∧ ∃ xs, H' R = some (.lst xs) ∧ xs.length ≤ 1 + 26 * i + j)
            ⟨⟨_, rfl⟩, s2T.trans (s4.trans s5), hL, ⟨xs, s5 _ _ (s4 _ _ hxT), by omega⟩⟩ (fun j σ H' _ h => .inl (.inl h.2.2.1)) ?_ ?_
          · rintro j x σ H6 H7 hj ⟨⟨y9, rfl⟩, s6, hL6, xs', hx6, lx6⟩ ⟨rfl, hxj⟩
            rw [List.getElem?_map] at hxj
            obtain ⟨c, hcj, rfl⟩ := Option.map_eq_some_iff.mp hxj
            have l1 : (cutS y none (some (i : Int))).length ≤ 8 := Nat.le_trans (cut_len _ _ _) y8.2
            have l2 : (cutS z (some ((i : Int) + 1)) none).length ≤ 8 := Nat.le_trans (cut_len _ _ _) z8.2
            have l3 : (sign c).length = 1 := rfl
            refine ⟨_, rfl, .inl ⟨rfl, _, .inl (.inl hx6)⟩, ?_⟩
            refine ⟨_, rfl, ⟨_, rfl, _, rfl, y, rfl, lzl (by omega), _, rfl, _, _, rfl, rfl, lzl (by omega), _, rfl, _, rfl, _, _, rfl, rfl, _, rfl, z, rfl, lzl (by omega), _, _, rfl, rfl, lzl (by rw [add_len]; omega), ?_⟩⟩
            refine ⟨R, xs', _, rfl, rfl, hx6, small1000 (by rw [codes_len] at hi; rw [List.length_map] at hj; omega), ⟨_, rfl⟩, same_mut s6 hR, ?_, _, upd_same, ?_⟩
            · rw [upd_ne nLR.symm]
              exact hL6
            · rw [List.length_append, List.length_singleton]
              omega
          · rintro σ H6 ⟨⟨y9, rfl⟩, s6, hL6, xs', hx6, lx6⟩
            refine ⟨⟨_, _, _, _, rfl⟩, s6, ⟨xs', hx6, ?_⟩, fun j a' b' hj h1 h2 => ?_⟩
            · rw [List.length_map] at lx6
              omega
            · by_cases hji : j < i
              · exact hc j a' b' hji h1 h2
              · have : j = i := by omega
                subst this
                rw [ha] at h1
                rw [hb] at h2
                cases h1
                cases h2
                exact cc
        · refine ⟨_, rfl, _, rfl, iteT ?_⟩
          exact q2 (fun o => nc (o.2 i a b ha hb)) H5 (s01.trans (s2T.trans (s4.trans s5)))
      · rintro σ H2 ⟨⟨y5, y6, y7, y8', rfl⟩, s2, ⟨xs, hx, lx⟩, hc⟩
        refine ⟨_, rfl, R, xs, rfl, .inl ⟨.inl (.inl hx), fun l hl2 => ?_⟩⟩
        refine q1 ⟨by rw [codes_len, codes_len]; exact hl, fun j a b h1 h2 => hc j a b ?_ h1 h2⟩ l xs _ (s01.trans (s2.trans (same_new hl2))) upd_same
        exact (List.getElem?_eq_some_iff.mp h2).1
def spAre : Sp := fun vs H Q _ => ∃ (z y : Str) (v : V) (chs : List Chg), vs = [.str z, .str y, v] ∧ IsWd z ∧ IsWd y ∧ ChV H v chs ∧ OkCs chs ∧
  ∀ (b : Bool) (H' : Hp), Same H H' → (b = true ↔ OneP chs z y) → Q (.bl b) H'
theorem scAre : FnScope ps3 ps3 (defScope wAre) := ⟨rfl, rfl, rfl, by decide +kernel, rfl, by decide +kernel, by decide +kernel⟩
theorem ok_are (F : FunN K "are_one" wAre f fd) (hR : HasN P w K mg base "row_between" wRow 5 ps3 spRow) : FnOk P w K mg base CX0 6 f fd ps3 spAre := by
  refine okN F scAre (fun vs H Q E h => ?_) (fun cdv A outer s H vs Q E hr h => ?_)
  · obtain ⟨z, y, v, chs, rfl, _⟩ := h
    rfl
  · obtain ⟨z, y, v, chs, rfl, hz, hy, hv, ok, q⟩ := h
    obtain ⟨f1, fd1, F1, m1, N1⟩ := hR
    have b1 := bind3 N1 (.inl rfl)
    refine ⟨_, pss_one (ps_ret (pe_cmp (pc_notN (pe_call F1 hr rfl m1 N1.kp b1 .nil pass0 (pa_cons (pv 0) (pa_cons (pv 1) (pa_cons (pv 2) pa_nil))))))), ?_⟩
    refine ⟨_, rfl, _, rfl, _, rfl, z, y, v, chs, rfl, hz, hy, hv, ok, fun o T xs H1 s1 hT => ?_, fun no H1 s1 => ?_⟩
    · exact q true H1 s1 ⟨fun _ => o, fun _ => rfl⟩
    · exact q false H1 s1 ⟨(fun e => by cases e), fun o => absurd o no⟩
def spLetAt : Sp := fun vs H Q _ => ∃ (z : Str) (i b : Nat) (S : Addr) (chs : List Chg), vs = [.str z, .int (i : Int), .ref S] ∧ IsWd z ∧ (codes z)[i]? = some b ∧ ChAt H S chs ∧ OkCs chs ∧
  ∀ (L : Addr) (cs : List Nat) (H' : Hp), Same H H' → H' L = some (.lst ((sortS (cs.map sign)).map V.str)) → (∀ d, d ∈ cs ↔ Conn (es chs i (codes z).length) b d) → Q (.ref L) H'
theorem scLetAt : FnScope ["word", "place", "changes"] ["word", "place", "changes"] (defScope wLetAt) := ⟨rfl, rfl, rfl, by decide +kernel, rfl, by decide +kernel, by decide +kernel⟩
theorem ok_letat (F : Fun K "letters_at" "letters_at" wLetAt f fd) (B : Bi mg) (hS : Has P w K mg base "steps_toward" 1 ["goal", "turned"] spSteps) (hT : Has P w K mg base "turned_letters" 2 ["changes", "place", "length"] spTurned) : FnOk P w K mg base CX0 3 f fd ["word", "place", "changes"] spLetAt := by
  refine F.ok scLetAt (fun vs H Q E h => ?_) (fun cdv A outer s H vs Q E hr h => ?_)
  · obtain ⟨z, i, b, S, chs, rfl, _⟩ := h
    rfl
  · obtain ⟨z, i, b, S, chs, rfl, hz, hb, hS', ok, q⟩ := h
    refine ⟨_, pss_one (ps_ret (pe_callB (cr_sortD hr.units) (by rfl) B.sorted (by decide +kernel) (pa_cons (pe_callTy (call_list_dK rfl) (by rfl) B.list (by decide +kernel) (pa_cons (pe_h hS hr (pa_cons (pe_ix ix_str (pv 0) (pv 1) (fun _ _ => rfl)) (pa_cons (pe_h hT hr (pa_cons (pv 2) (pa_cons (pv 1) (pa_cons (pe_callB call_len_str (by rfl) B.len PySem.boot_len (pa_cons (pv 0) pa_nil)) pa_nil)))) pa_nil))) pa_nil)) pa_nil))), ?_⟩
    have z8 := hz.len
    have hbl : isLet b := (wd_codes.mp hz).2 b (List.mem_of_getElem? hb)
    refine ⟨_, rfl, _, rfl, z, _, b, rfl, rfl, lzl (by omega), atI_nat hb, _, rfl, _, rfl, _, rfl, _, rfl, lzl (by omega), S, chs, i, z.length, rfl, hS', ok, fun D H4 s4 t4 => ?_⟩
    rw [← codes_len z] at t4
    refine ⟨b, D, es chs i (codes z).length, rfl, hbl, t4, es_ok ok.2 _ _, Nat.le_trans (es_len _ _ _) ok.1, fun W tw H5 s5 hW bf => ?_⟩
    refine ⟨W, _, rfl, hW, fun L hL => ?_⟩
    have eL : (twK tw).map (fun kv => kV kv.1) = ((tw.map (·.1)).map sign).map V.str := by
      unfold twK
      rw [List.map_map, List.map_map, List.map_map]
      rfl
    dsimp only [tNil]
    refine srt_reads (K := K) (xs := (tw.map (·.1)).map sign) (.inl (.inl (by rw [upd_same, eL]))) fun p hp => ?_
    exact q p (tw.map (·.1)) _ (s4.trans (s5.trans ((same_new hL).trans (same_new hp)))) upd_same fun d => bf.done (Nat.le_refl _)
def spMean : Sp := fun vs H Q _ => ∃ (z : Str) (v : V) (chs : List Chg), vs = [.str z, v] ∧ IsWd z ∧ ChV H v chs ∧ OkCs chs ∧ ∀ (H' : Hp), Same H H' → Q (.str (mean chs z)) H'
abbrev nMean : List Str := ["word", "changes", "known", "place"]
theorem scMean : FnScope nMean ps2 (defScope wMean) := ⟨rfl, rfl, rfl, by decide +kernel, rfl, by decide +kernel, by decide +kernel⟩
theorem room64 {k : Nat} {A : Around} (r : Room k A) : A.units + 64 < cLine := by have := r.un; omega
theorem ok_mean (F : FunN K "meaning" wMean f fd) (B : Bi mg) (hCk : Has P w K mg base "check_word" 2 ["word"] spCheckW) (hCh : Has P w K mg base "checked_changes" 4 ["changes"] spChecked)
    (hL : Has P w K mg base "letters_at" 3 ["word", "place", "changes"] spLetAt) : FnOk P w K mg base CX0 5 f fd ps2 spMean := by
  refine okN F scMean (fun vs H Q E h => ?_) (fun cdv A outer s H vs Q E hr h => ?_)
  · obtain ⟨z, v, chs, rfl, _⟩ := h
    rfl
  · obtain ⟨z, v, chs, rfl, hz, hv, ok, q⟩ := h
    refine ⟨_, pss_cons (ps_expr (pe_h hCk hr (pa_cons (pv 0) pa_nil)))
      (pss_cons (ps_set (i := 2) scMean.nd rfl (.inr rfl) (pe_h hCh hr (pa_cons (pv 1) pa_nil)))
      (pss_one (ps_ret (pe_join pe_str (pe_lc (own := [("place", 3)]) (g := gName 3) (tt := tYes) (te := tOp (rIxL K) (tCall spLetAt [] E0 (tCons (tVar 0) (tCons (tVar 3) (tCons (tVar 2) tNil)))) (tC (.int 0))) rfl scMean.nd (pi_range1 rfl B.range (pa_cons (pe_callB call_len_str (by rfl) B.len PySem.boot_len (pa_cons (pv 0) pa_nil)) pa_nil)) (blkOk_by (N := nMean) (sc := defScope wMean) (by decide +kernel))
        (fun _ _ _ _ _ => pg_name (i := 3) scMean.nd rfl (.inl rfl)) (fun _ _ _ _ _ => pts_nil) (fun _ _ _ _ _ => pe_ix ix_list (pe_h hL hr (pa_cons (pv 0) (pa_cons (pv 3) (pa_cons (pv 2) pa_nil)))) pe_int (fun _ _ => rfl))))))), ?_⟩
    have z8 := hz.len
    refine ⟨_, rfl, z, rfl, hz, fun Ha sa => ⟨_, rfl, v, chs, rfl, hv.same sa, ok, fun S H1 s1 hS => ?_⟩⟩
    have s01 : Same H H1 := sa.trans s1
    refine ⟨⟨_, rfl⟩, _, rfl, _, rfl, lzl (by omega), (z.length : Int), rfl, by omega, by omega, fun D hD => lc_range (lo := 0) (n := z.length) (fun i H' => Same H1 H' ∧ H' D = some (.lst ((((codes (mean chs z)).take i).map sign).map V.str))) ⟨same_new hD, upd_same⟩ ?_ ?_⟩
    · rintro i H2 hi ⟨s2, hD2⟩
      obtain ⟨b, hb⟩ : ∃ b, (codes z)[i]? = some b := ⟨_, List.getElem?_eq_getElem (by rw [codes_len]; exact hi)⟩
      have ei : (0 : Int) + (i : Int) = (i : Int) := by omega
      rw [ei]
      refine ⟨rfl, yes_it ⟨_, rfl, _, rfl, _, rfl, z, i, b, S, chs, rfl, hz, hb, hS.same s2, ok, fun L cs H3 s3 hL3 hcs => ?_⟩⟩
      have hlo : ∀ d ∈ cs, lo (es chs i (codes z).length) b ≤ d := fun d hd => lo_le ((hcs d).mp hd)
      have hhd := head_sortS ((hcs _).mpr (lo_conn (es chs i (codes z).length) b)) hlo
      refine ⟨L, _, 0, .str (sign (lo (es chs i (codes z).length) b)), rfl, rfl, .inl (.inl hL3), atI_nat (j := 0) (by rw [List.getElem?_map, hhd]; rfl), _, s3 _ _ hD2, ?_, same_mut (s2.trans s3) hD, ?_⟩
      · rw [List.length_map, List.length_map]
        have h1 : ((codes (mean chs z)).take i).length ≤ (codes (mean chs z)).length := List.length_take_le' _ _
        rw [mean_len, codes_len] at h1
        exact small1000 (by omega)
      · rw [upd_same, List.take_add_one, mean_at chs z hb, List.map_append, List.map_append]
        rfl
    · rintro H2 ⟨s2, hx⟩
      have e1 : (codes (mean chs z)).take z.length = codes (mean chs z) := by rw [← codes_len z, ← mean_len chs z, List.take_length]
      rw [e1] at hx
      refine ⟨_, D, (codes (mean chs z)).map sign, rfl, rfl, .inl (.inl (.inl hx)), ?_, ?_⟩
      · have e0 : ("" : Str).length = 0 := by decide +kernel
        have e1 : ((codes (mean chs z)).map sign).map (·.length) = (codes (mean chs z)).map fun _ => 1 := by
          rw [List.map_map]
          rfl
        rw [e0, e1, Nat.mul_zero, ones_sum, mean_len, codes_len]
        omega
      · have e2 : Txt.join ("" : Str) ((codes (mean chs z)).map sign) = mean chs z := str_ext (join_signs _)
        rw [e2]
        exact q H2 (s01.trans s2)
end
end Wl

namespace Wl
open PySem PySem.Spec PyProof.Rows L2

/-! ### the text by places -/
abbrev sCell : Stmt := topW 24
abbrev sPurse : Stmt := topW 25
abbrev sPick : Stmt := topW 26
abbrev sMenu : Stmt := topW 28
abbrev sWord : Stmt := topW 29

section
variable {P : Program} {w : World} {K : PySem.W.Frag} {mg : Str → Option Value} {base : Heap} {f : Addr} {fd : FuncData}

/-! ### a cell of the script: some int -/
def spCell (K : PySem.W.Frag) : Sp := fun vs H Q _ => ∃ (a : Addr) (ns : List Int) (k : Int), vs = [.ref a, .int k] ∧ SqL K H a (ns.map V.int) ∧ 0 ≤ k ∧ k ≤ 63 ∧
  ∀ (v : Int) (H' : Hp), Same H H' → Q (.int v) H'
theorem scCell : FnScope ["_law_script", "_law_k", "_law_state", "_law_cell_here"] ["_law_script", "_law_k"] (defScope sCell) :=
  ⟨rfl, rfl, rfl, by decide +kernel, rfl, by decide +kernel, by decide +kernel⟩
theorem mem_cut {xs : List V} {lo hi : Option Int} {v : V} (h : v ∈ cutV xs lo hi) : v ∈ xs := List.mem_of_mem_drop (List.mem_of_mem_take h)
theorem ok_cell (F : Fun K "_law_cell" "_law_cell" sCell f fd) (B : Bi mg) : FnOk P w K mg base CX0 1 f fd ["_law_script", "_law_k"] (spCell K) := by
  refine F.ok scCell (fun vs H Q E h => ?_) (fun cdv A outer s H vs Q E hr h => ?_)
  · obtain ⟨a, ns, k, rfl, _⟩ := h
    rfl
  · obtain ⟨a, ns, k, rfl, hS, k0, k1, q⟩ := h
    refine ⟨_, pss_cons (ps_if (pt_cmpR op_lt (pv 1) (pe_callB call_len_seq (by rfl) B.len PySem.boot_len (pa_cons (pv 0) pa_nil)) (nomark _)) (pss_one (ps_ret (pe_ix ix_list (pv 0) (pv 1) (fun _ _ => rfl)))) pss_nil)
      (pss_cons (ps_set (i := 2) scCell.nd rfl (.inl rfl) (pe_op op_mod (pe_op op_mul pe_int (pe_op op_add (pe_op op_add (pe_op op_mul (pv 1) (pv 1)) (pe_op op_mul pe_int (pv 1))) pe_int)) pe_int))
      (pss_cons (ps_for PassesOwn.never rfl (pi_list (pe_slice sl_list (pv 0) po_none (po_some pe_int))) (pg_name (i := 3) scCell.nd rfl (.inl rfl))
        (pss_one (ps_set (i := 2) scCell.nd rfl (.inl rfl) (pe_op op_mod (pe_op op_add (pe_op op_mul (pv 2) pe_int) (pv 3)) pe_int))))
      (pss_one (ps_ret (pv 2))))), ?_⟩
    refine ⟨_, rfl, .ref a, rfl, a, _, rfl, .inl hS, _, _, rfl, rfl, _, rfl, ite_b (fun e => ?_) (fun e => ?_)⟩
    · have hk : k < ((ns.map V.int).length : Int) := of_decide_eq_true e
      rw [List.length_map] at hk
      have hk2 : k.toNat < ns.length := by omega
      refine ⟨_, rfl, _, rfl, a, _, k, .int ns[k.toNat], rfl, rfl, hS, at_of (j := k.toNat) (by omega) ?_, q _ H (Same.refl H)⟩
      rw [List.getElem?_map, List.getElem?_eq_getElem hk2]
      rfl
    · refine ⟨_, rfl, _, rfl, k, k, rfl, rfl, .inl ⟨by omega, by omega⟩, _, rfl, 5, k, rfl, rfl, .inl ⟨by decide, by decide⟩, _, _, rfl, rfl, _, _, rfl, rfl, _, _, rfl, rfl, .inl ⟨by decide, by decide⟩, _, _, rfl, rfl, (show (0 : Int) < 1000000033 by decide), ?_⟩
      refine ⟨_, rfl, 4, rfl, a, _, rfl, hS, fun p hp => ?_⟩
      have hc : SqL K (upd H p (.lst (cutV (ns.map V.int) none (some 4)))) p (cutV (ns.map V.int) none (some 4)) := .inl (.inl upd_same)
      refine ⟨p, rfl, ⟨_, hc⟩, for_list (K := K) (a := p) (xs := cutV (ns.map V.int) none (some 4)) (fun i σ H' => (∃ (z : Int) (y : Option V), σ = [some (.ref a), some (.int k), some (.int z), y]) ∧ H' = upd H p (.lst (cutV (ns.map V.int) none (some 4))))
        ⟨⟨_, _, rfl⟩, rfl⟩ (fun i σ H' _ h => by rw [h.2]; exact hc) ?_ ?_⟩
      · rintro i x σ H' hx ⟨⟨z, y, rfl⟩, rfl⟩
        obtain ⟨n, rfl⟩ : ∃ n, x = V.int n := by
          obtain ⟨n, _, e⟩ := List.mem_map.mp (mem_cut (List.mem_of_getElem? hx))
          exact ⟨n, e.symm⟩
        refine ⟨_, rfl, z, 30029, rfl, rfl, .inr ⟨by decide, by decide⟩, _, rfl, _, _, rfl, rfl, _, _, rfl, rfl, (show (0 : Int) < 1000000033 by decide), ⟨⟨_, _, rfl⟩, rfl⟩⟩
      · rintro σ H' ⟨⟨z, y, rfl⟩, rfl⟩
        exact ⟨_, rfl, q _ _ (same_new hp)⟩

/-! ### the purse -/
def PurseAt (H : Hp) (a : Addr) : Prop := ∃ s b c : Int, H a = some (.lst [.int s, .int b, .int c]) ∧ 0 ≤ b
theorem PurseAt.same {H H' : Hp} {a : Addr} (h : PurseAt H a) (s : Same H H') : PurseAt H' a := by
  obtain ⟨s0, b, c, ha, hb⟩ := h
  exact ⟨s0, b, c, s _ _ ha, hb⟩
theorem PurseAt.ne {H : Hp} {a p : Addr} (h : PurseAt H a) (hp : H p = none) : p ≠ a := by
  obtain ⟨s0, b, c, ha, hb⟩ := h
  exact (ne_of_none ha hp).symm
theorem PurseAt.lst {H : Hp} {a : Addr} (h : PurseAt H a) : ∃ ys, H a = some (.lst ys) := by
  obtain ⟨s0, b, c, ha, hb⟩ := h
  exact ⟨_, ha⟩
def spPurse : Sp := fun vs H Q _ => ∃ (n : Int), vs = [.int n] ∧ ∀ (a : Addr) (H' : Hp), H a = none → Same H H' → PurseAt H' a → Q (.ref a) H'
theorem scPurse : FnScope ["_law_cell_here"] ["_law_cell_here"] (defScope sPurse) :=
  ⟨rfl, rfl, rfl, by decide +kernel, rfl, by decide +kernel, by decide +kernel⟩
theorem ok_purse (F : Fun K "_law_purse" "_law_purse" sPurse f fd) (B : Bi mg) : FnOk P w K mg base CX0 1 f fd ["_law_cell_here"] spPurse := by
  refine F.ok scPurse (fun vs H Q E h => ?_) (fun cdv A outer s H vs Q E hr h => ?_)
  · obtain ⟨n, rfl, _⟩ := h
    rfl
  · obtain ⟨n, rfl, q⟩ := h
    refine ⟨_, pss_one (ps_ret (pe_lst (pa_cons (pe_op op_add (pe_op op_mul (pe_op op_mod (pv 0) pe_int) pe_int) pe_int)
      (pa_cons (pe_ix ix_list (pe_lst (pa_cons pe_int (pa_cons (pv 0) pa_nil))) (pe_callTy call_int1 (by rfl) B.int (by decide +kernel) (pa_cons (pe_cmpR op_ge (pv 0) (pe_op op_pow pe_int pe_int) (nomark _)) pa_nil)) (fun _ _ => rfl))
      (pa_cons pe_int pa_nil))))), ?_⟩
    refine ⟨_, rfl, _, _, rfl, rfl, (show (0 : Int) < 1000000033 by decide), _, _, rfl, rfl, .inr ⟨by decide, by decide⟩, _, _, rfl, rfl, _, rfl, lz, fun p hp => ?_⟩
    have e18 : (10 : Int) ^ (18 : Int).toNat = 1000000000000000000 := by decide
    refine ⟨_, rfl, 10, 18, rfl, rfl, ⟨by decide, by decide, by decide⟩, _, _, rfl, rfl, .inr ⟨_, rfl, ?_⟩⟩
    refine ⟨p, [.int 0, .int n], _, .int (if decide ((10 : Int) ^ (18 : Int).toNat ≤ n) = true then n else 0), rfl, rfl, .inl (.inl upd_same), ?_, lz, fun a ha => ?_⟩
    · by_cases c : (10 : Int) ^ (18 : Int).toNat ≤ n
      · simp only [decide_eq_true c, if_true]
        exact atI_nat (j := 1) rfl
      · simp only [decide_eq_false c]
        exact atI_nat (j := 0) rfl
    · have hp2 : Same H (upd H p (.lst [.int 0, .int n])) := same_new hp
      refine q a _ (hp2.free ha) (hp2.trans (same_new ha)) ⟨_, _, _, upd_same, ?_⟩
      by_cases c : (10 : Int) ^ (18 : Int).toNat ≤ n
      · simp only [decide_eq_true c, if_true]
        rw [e18] at c
        omega
      · simp only [decide_eq_false c]
        exact Int.le_refl 0
/-! ### a pick: some number below many -/
def spPick : Sp := fun vs H Q _ => ∃ (a : Addr) (m : Int), vs = [.ref a, .int m] ∧ PurseAt H a ∧ 0 < m ∧ m < 1073741824 ∧
  ∀ (r : Int) (H' : Hp), 0 ≤ r → r < m → PurseAt H' a → SameX a H H' → (∀ p, H p = none → H' p = none) → Q (.int r) H'
theorem scPick : FnScope ["_law_purse_here", "_law_many", "_law_state", "_law_taken"] ["_law_purse_here", "_law_many"] (defScope sPick) :=
  ⟨rfl, rfl, rfl, by decide +kernel, rfl, by decide +kernel, by decide +kernel⟩
theorem none_upd {H : Hp} {a : Addr} {o u : HO} (h : H a = some o) : ∀ p, H p = none → upd H a u p = none := fun p hp => by
  rw [upd_ne (ne_of_none h hp).symm]
  exact hp
theorem ok_pick (F : Fun K "_law_pick" "_law_pick" sPick f fd) : FnOk P w K mg base CX0 1 f fd ["_law_purse_here", "_law_many"] spPick := by
  refine F.ok scPick (fun vs H Q E h => ?_) (fun cdv A outer s H vs Q E hr h => ?_)
  · obtain ⟨a, m, rfl, _⟩ := h
    rfl
  · obtain ⟨a, m, rfl, ⟨s0, b, c, ha, hb⟩, m0, m1, q⟩ := h
    refine ⟨_, pss_cons (ps_asg (pe_op op_add (pe_ix ix_list (pv 0) pe_int (fun _ _ => rfl)) pe_int) (pg_sub (pv 0) pe_int set_list))
      (pss_cons (ps_set (i := 2) scPick.nd rfl (.inl rfl) (pe_op op_mod (pe_ix ix_list (pv 0) pe_int (fun _ _ => rfl)) pe_int))
      (pss_cons (ps_asg (pe_op op_add (pe_op op_mul (pv 2) (pe_op op_add (pe_op op_mod (pv 2) pe_int) pe_int)) (pe_op op_mul pe_int (pe_ix ix_list (pv 0) pe_int (fun _ _ => rfl)))) (pg_sub (pv 0) pe_int set_list))
      (pss_cons (ps_if (pt_cmpR op_gt (pe_ix ix_list (pv 0) pe_int (fun _ _ => rfl)) pe_int (nomark _))
        (pss_cons (ps_set (i := 3) scPick.nd rfl (.inl rfl) (pe_op op_mod (pe_ix ix_list (pv 0) pe_int (fun _ _ => rfl)) (pv 1)))
        (pss_cons (ps_asg (pe_op op_fdiv (pe_ix ix_list (pv 0) pe_int (fun _ _ => rfl)) (pv 1)) (pg_sub (pv 0) pe_int set_list))
        (pss_one (ps_ret (pv 3))))) pss_nil)
      (pss_one (ps_ret (pe_op op_mod (pe_op op_fdiv (pe_op op_mod (pe_ix ix_list (pv 0) pe_int (fun _ _ => rfl)) pe_int) pe_int) (pv 1))))))), ?_⟩
    have hmod : ∀ x : Int, 0 ≤ x % 1000000033 ∧ x % 1000000033 < 1000000033 := fun x => by omega
    refine ⟨_, rfl, a, _, 2, .int c, rfl, rfl, .inl (.inl ha), atI_nat (j := 2) rfl, _, _, rfl, rfl, _, rfl, a, _, 2, 2, rfl, rfl, ha, rfl, ?_⟩
    refine ⟨_, rfl, a, _, 0, .int s0, rfl, rfl, .inl (.inl upd_same), atI_nat (j := 0) rfl, _, _, rfl, rfl, (show (0 : Int) < 1000000033 by decide), ?_⟩
    refine ⟨_, rfl, _, rfl, _, _, rfl, rfl, (show (0 : Int) < 60013 by decide), _, _, rfl, rfl, _, _, rfl, rfl, .inl ⟨by have := hmod s0; omega, by have := hmod s0; omega⟩,
      _, rfl, a, _, 2, _, rfl, rfl, .inl (.inl upd_same), atI_nat (j := 2) rfl, _, _, rfl, rfl, .inl ⟨by decide, by decide⟩, _, _, rfl, rfl, _, rfl, a, _, 0, 0, rfl, rfl, upd_same, rfl, ?_⟩
    refine ⟨_, rfl, a, _, 1, .int b, rfl, rfl, .inl (.inl upd_same), atI_nat (j := 1) rfl, _, _, rfl, rfl, _, rfl, ite_b (fun e => ?_) (fun e => ?_)⟩
    · refine ⟨_, rfl, a, _, 1, .int b, rfl, rfl, .inl (.inl upd_same), atI_nat (j := 1) rfl, _, rfl, b, m, rfl, rfl, m0, ?_⟩
      refine ⟨_, rfl, a, _, 1, .int b, rfl, rfl, .inl (.inl upd_same), atI_nat (j := 1) rfl, _, rfl, b, m, rfl, rfl, ⟨m0, m1⟩, _, rfl, a, _, 1, 1, rfl, rfl, upd_same, rfl, ?_⟩
      refine ⟨_, rfl, q _ _ (Int.emod_nonneg _ (by omega)) (Int.emod_lt_of_pos _ m0) ⟨_, _, _, upd_same, ?_⟩ (((sameX_upd).trans sameX_upd).trans sameX_upd) fun p hp => ?_⟩
      · exact Int.ediv_nonneg hb (by omega)
      · exact none_upd upd_same p (none_upd upd_same p (none_upd ha p hp))
    · refine ⟨_, rfl, a, _, 0, _, rfl, rfl, .inl (.inl upd_same), atI_nat (j := 0) rfl, _, _, rfl, rfl, (show (0 : Int) < 1000000033 by decide), _, _, rfl, rfl, ⟨by decide, by decide⟩, _, rfl, _, m, rfl, rfl, m0, ?_⟩
      exact q _ _ (Int.emod_nonneg _ (by omega)) (Int.emod_lt_of_pos _ m0) ⟨_, _, _, upd_same, hb⟩ ((sameX_upd).trans sameX_upd) fun p hp => none_upd upd_same p (none_upd ha p hp)

/-! ### the menu, a word -/
def menuW : List Str := ["put", "doubt", "strike", "back", "change", "one", "map", "words", "parted", "line", "rings", "thin", "fate", "asks", "habit", "apart", "near", "paper", "ok", "no", "none", "self", "may", "not", "has", "any"]
theorem menu_wd : ∀ z ∈ menuW, IsWd z := by decide +kernel
theorem menu_len : menuW.length = 26 := by decide +kernel
def spMenu : Sp := fun vs H Q _ => vs = [] ∧ ∀ (p : Addr) (H' : Hp), H p = none → Same H H' → H' p = some (.lst (menuW.map V.str)) → Q (.ref p) H'
theorem scMenu : FnScope ["_law_some"] [] (defScope sMenu) := ⟨rfl, rfl, rfl, by decide +kernel, rfl, by decide +kernel, by decide +kernel⟩
theorem ok_menu (F : Fun K "_law_menu" "_law_menu" sMenu f fd) : FnOk P w K mg base CX0 1 f fd [] spMenu := by
  refine F.ok scMenu (fun vs H Q E h => ?_) (fun cdv A outer s H vs Q E hr h => ?_)
  · obtain ⟨rfl, _⟩ := h
    rfl
  · obtain ⟨rfl, q⟩ := h
    refine ⟨_, pss_cons (ps_set (i := 0) scMenu.nd rfl (.inl rfl) (pe_lst (pa_cons pe_str (pa_cons pe_str (pa_cons pe_str (pa_cons pe_str (pa_cons pe_str (pa_cons pe_str (pa_cons pe_str (pa_cons pe_str (pa_cons pe_str (pa_cons pe_str pa_nil))))))))))))
      (pss_cons (ps_set (i := 0) scMenu.nd rfl (.inl rfl) (pe_op op_cat (pv 0) (pe_lst (pa_cons pe_str (pa_cons pe_str (pa_cons pe_str pa_nil))))))
      (pss_one (ps_ret (pe_op op_cat (pv 0) (pe_lst (pa_cons pe_str (pa_cons pe_str (pa_cons pe_str (pa_cons pe_str (pa_cons pe_str (pa_cons pe_str (pa_cons pe_str (pa_cons pe_str (pa_cons pe_str (pa_cons pe_str (pa_cons pe_str (pa_cons pe_str (pa_cons pe_str pa_nil)))))))))))))))))), ?_⟩
    refine ⟨lz, fun p1 h1 => ?_⟩
    refine ⟨_, rfl, lz, fun p2 h2 => ⟨p1, p2, _, _, rfl, rfl, (same_new h2) _ _ upd_same, upd_same, lz, fun p3 h3 => ?_⟩⟩
    refine ⟨_, rfl, lz, fun p4 h4 => ⟨p3, p4, _, _, rfl, rfl, (same_new h4) _ _ upd_same, upd_same, lz, fun p5 h5 => ?_⟩⟩
    exact q p5 _ (Same.free (((same_new h1).trans (same_new h2)).trans ((same_new h3).trans (same_new h4))) h5) ((((same_new h1).trans (same_new h2)).trans ((same_new h3).trans (same_new h4))).trans (same_new h5)) upd_same

def spWord : Sp := fun vs H Q _ => ∃ (a : Addr), vs = [.ref a] ∧ PurseAt H a ∧ ∀ (z : Str) (H' : Hp), IsWd z → PurseAt H' a → SameX a H H' → Q (.str z) H'
abbrev nWord : List Str := ["_law_purse_here", "_law_way", "_law_wide", "_law_many", "_law_k"]
theorem scWord : FnScope nWord ["_law_purse_here"] (defScope sWord) :=
  ⟨rfl, rfl, rfl, by decide +kernel, rfl, by decide +kernel, by decide +kernel⟩
theorem ok_word (F : Fun K "_law_word" "_law_word" sWord f fd) (B : Bi mg) (hp : Has P w K mg base "_law_pick" 1 ["_law_purse_here", "_law_many"] spPick) (hm : Has P w K mg base "_law_menu" 1 [] spMenu) :
    FnOk P w K mg base CX0 2 f fd ["_law_purse_here"] spWord := by
  refine F.ok scWord (fun vs H Q E h => ?_) (fun cdv A outer s H vs Q E hr h => ?_)
  · obtain ⟨a, rfl, _⟩ := h
    rfl
  · obtain ⟨a, rfl, hA, q⟩ := h
    refine ⟨_, pss_cons (ps_asg (pe_tup (pa_cons (pe_h hp hr (pa_cons (pv 0) (pa_cons pe_int pa_nil))) (pa_cons (pe_ix ix_list (pe_lst (pa_cons pe_int (pa_cons pe_int (pa_cons pe_int pa_nil)))) (pe_h hp hr (pa_cons (pv 0) (pa_cons pe_int pa_nil))) (fun _ _ => rfl)) pa_nil)))
        (pg_tup rfl (pgs_cons (pg_name (i := 1) scWord.nd rfl (.inl rfl)) (pgs_cons (pg_name (i := 2) scWord.nd rfl (.inr rfl)) pgs_nil))))
      (pss_cons (ps_if (pt_cmpR op_eq (pv 1) pe_int (nomark _)) (pss_one (ps_ret (pe_ix ix_list (pe_h0 hm hr) (pe_h hp hr (pa_cons (pv 0) (pa_cons pe_int pa_nil))) (fun _ _ => rfl)))) pss_nil)
      (pss_cons (ps_set (i := 3) scWord.nd rfl (.inl rfl) (pe_ix ix_list (pe_lst (pa_cons pe_int (pa_cons pe_int (pa_cons pe_int (pa_cons pe_int (pa_cons (pe_op op_add pe_int (pe_h hp hr (pa_cons (pv 0) (pa_cons pe_int pa_nil)))) pa_nil)))))) (pe_h hp hr (pa_cons (pv 0) (pa_cons pe_int pa_nil))) (fun _ _ => rfl)))
      (pss_one (ps_ret (pe_join pe_str (pe_lc (own := [("_law_k", 4)]) (g := gName 4) (tt := tYes) rfl scWord.nd (pi_range1 (by rfl) B.range (pa_cons (pv 3) pa_nil)) (blkOk_by (N := nWord) (sc := defScope sWord) (by decide +kernel))
        (fun _ _ _ _ _ => pg_name (i := 4) scWord.nd rfl (.inl rfl)) (fun _ _ _ _ _ => pts_nil) (fun _ _ _ _ _ => pe_ix ix_str pe_str (pe_h hp hr (pa_cons (pv 0) (pa_cons (pv 2) pa_nil))) (fun _ _ => rfl)))))))), ?_⟩
    -- way, wide
    refine ⟨_, rfl, a, 4, rfl, hA, by decide, by decide, fun r1 H1 r10 r11 hA1 s1 n1 => ?_⟩
    refine ⟨lz, fun p hp => ⟨_, rfl, a, 3, rfl, hA1.same (same_new hp), by decide, by decide, fun r2 H2 r20 r21 hA2 s2 n2 => ?_⟩⟩
    have npa := hA1.ne hp
    obtain ⟨wd, hwm, hwd⟩ := atI_tab (ns := [3, 5, 26]) r20 r21
    have hw : 0 < wd ∧ wd ≤ 26 := by
      simp only [List.mem_cons, List.not_mem_nil, or_false] at hwm
      omega
    have s2' : SameX a H H2 := (s1.trans (sx (same_new hp))).trans s2
    refine ⟨p, _, r2, .int wd, rfl, rfl, .inl (.inl (s2 _ _ npa upd_same)), hwd, lz, fun t ht => ?_⟩
    refine ⟨t, _, rfl, .inl (.inl upd_same), rfl, _, _, rfl, _, _, rfl, rfl, ?_⟩
    have hA3 := hA2.same (same_new (o := .tup [.int r1, .int wd]) ht)
    have s3 : SameX a H _ := s2'.trans (sx (same_new (o := .tup [.int r1, .int wd]) ht))
    generalize upd H2 t (.tup [.int r1, .int wd]) = H3 at hA3 s3
    refine ⟨_, rfl, rfl, _, rfl, ite_b (fun e => ?_) (fun e => ?_)⟩
    · -- menu()[..]
      refine ⟨rfl, fun p4 H4 hp4 s4 h4 => ⟨_, rfl, a, 26, rfl, hA3.same s4, by decide, by decide, fun r5 H5 r50 r51 hA5 s5 n5 => ?_⟩⟩
      obtain ⟨z, hz, hzi⟩ := atI_strs (zs := menuW) r50 (by rw [menu_len]; exact r51)
      exact ⟨p4, _, r5, .str z, rfl, rfl, .inl (.inl (s5 _ _ (hA3.ne hp4) h4)), hzi, q z H5 (menu_wd z hz) hA5 ((s3.trans (sx s4)).trans s5)⟩
    · -- size
      refine ⟨_, rfl, a, 8, rfl, hA3, by decide, by decide, fun r4 H4 r40 r41 hA4 s4 n4 => ⟨_, _, rfl, rfl, lz, fun p5 hp5 => ⟨_, rfl, a, 5, rfl, hA4.same (same_new hp5), by decide, by decide, fun r6 H6 r60 r61 hA6 s6 n6 => ?_⟩⟩⟩
      have np5 := hA4.ne hp5
      obtain ⟨sz, hsm, hsz⟩ := atI_tab (ns := [1, 2, 3, 4, 1 + r4]) r60 r61
      have hs8 : 1 ≤ sz ∧ sz ≤ 8 := by
        simp only [List.mem_cons, List.not_mem_nil, or_false] at hsm
        omega
      refine ⟨p5, _, r6, .int sz, rfl, rfl, .inl (.inl (s6 _ _ np5 upd_same)), hsz, ?_⟩
      have s6' : SameX a H H6 := ((s3.trans s4).trans (sx (same_new hp5))).trans s6
      -- join of the signs
      refine ⟨⟨_, rfl⟩, _, rfl, sz, rfl, by omega, by omega, fun D hD => lc_range (lo := 0) (n := sz.toNat)
        (fun i H' => ∃ cs : List Nat, cs.length = i ∧ (∀ c ∈ cs, 97 ≤ c ∧ c ≤ 122) ∧ H' D = some (.lst ((cs.map sign).map V.str)) ∧ PurseAt H' a ∧ SameX a H6 H')
        ⟨[], rfl, fun c hc => by simp at hc, upd_same, hA6.same (same_new hD), sx (same_new hD)⟩ ?_ ?_⟩
      · rintro i H7 hi ⟨cs, hcl, hcs, hDl, hA7, s7⟩
        refine ⟨rfl, yes_it ⟨_, rfl, _, rfl, a, wd, rfl, hA7, hw.1, by omega, fun r8 H8 r80 r81 hA8 s8 n8 => ?_⟩⟩
        have nD := hA6.ne hD
        refine ⟨_, r8, _, rfl, rfl, lz, letter_at r80 (by omega), _, s8 _ _ nD hDl, ?_, ?_⟩
        · rw [List.length_map, List.length_map]
          exact small1000 (by omega)
        · refine ⟨cs ++ [97 + r8.toNat], by simp [hcl], fun c hc => ?_, ?_, ?_, sameX_mut (s7.trans s8) hD⟩
          · rcases List.mem_append.mp hc with hc | hc
            · exact hcs c hc
            · rw [List.mem_singleton.mp hc]
              omega
          · rw [upd_same, List.map_append, List.map_append]
            rfl
          · obtain ⟨x0, x1, x2, hx, hx1⟩ := hA8
            exact ⟨x0, x1, x2, by rw [upd_ne nD.symm]; exact hx, hx1⟩
      · rintro H7 ⟨cs, hcl, hcs, hDl, hA7, s7⟩
        refine ⟨_, D, cs.map sign, rfl, rfl, .inl (.inl (.inl hDl)), ?_, ?_⟩
        · have e0 : ("" : Str).length = 0 := by decide +kernel
          have e1 : (cs.map sign).map (·.length) = cs.map fun _ => 1 := by
            rw [List.map_map]
            rfl
          rw [e0, e1, Nat.mul_zero]
          have e2 : ∀ l : List Nat, (l.map fun _ => 1).sum = l.length := fun l => by
            induction l with
            | nil => rfl
            | cons x r ih => rw [List.map_cons, List.sum_cons, ih, List.length_cons]; omega
          rw [e2]
          omega
        · refine q _ H7 (isWd_of ?_ ?_ ?_) hA7 (s6'.trans s7)
          · rw [join_signs]; omega
          · rw [join_signs]; omega
          · rw [join_signs]; exact hcs
end
end Wl

namespace Wl
open PySem
def Closed (E : Edges) (l : List Nat) : Prop := ∀ e ∈ E, (e.1 ∈ l ↔ e.2 ∈ l)
theorem closed_conn {E : Edges} {l : List Nat} (h : Closed E l) {c d : Nat} (hc : c ∈ l) (k : Conn E c d) : d ∈ l := by
  induction k with
  | refl => exact hc
  | step _ m ih =>
    rcases mem_nbrs.mp m with m | m
    · exact (h _ m).mp ih
    · exact (h _ m).mpr ih
structure KinB (E : Edges) (c : Nat) (l : List Nat) : Prop where
  nd : l.Nodup
  lets : ∀ x ∈ l, isLet x
  conn : ∀ x ∈ l, Conn E c x
  mem : c ∈ l
theorem KinB.start {E : Edges} {c : Nat} (h : isLet c) : KinB E c [c] := ⟨by simp, fun x hx => by simp at hx; subst hx; exact h, fun x hx => by simp at hx; subst hx; exact .refl _, by simp⟩
theorem KinB.push {E : Edges} {c x y : Nat} {l : List Nat} (b : KinB E c l) (hx : x ∈ l) (hy : y ∉ l) (hn : y ∈ nbrs E x) (hl : isLet y) : KinB E c (l ++ [y]) := by
  refine ⟨?_, fun u hu => ?_, fun u hu => ?_, List.mem_append_left _ b.mem⟩
  · rw [List.nodup_append]
    refine ⟨b.nd, by simp, fun u hu v hv e => ?_⟩
    simp at hv
    subst hv e
    exact hy hu
  · rcases List.mem_append.mp hu with hu | hu
    · exact b.lets u hu
    · simp at hu; subst hu; exact hl
  · rcases List.mem_append.mp hu with hu | hu
    · exact b.conn u hu
    · simp at hu; subst hu; exact .step (b.conn x hx) hn
theorem KinB.len {E : Edges} {c : Nat} {l : List Nat} (b : KinB E c l) : l.length ≤ 26 := by
  have h := b.nd.length_le_of_subset (l₂ := List.range' 97 26) fun x hx => by
    have := b.lets x hx
    rw [List.mem_range'_1]
    unfold isLet at this
    omega
  simpa using h
def KinP (E : Edges) (c : Nat) (l0 : List Nat) (Ej : Edges) (l : List Nat) : Prop := KinB E c l ∧ ((l = l0 ∧ ∀ e ∈ Ej, (e.1 ∈ l ↔ e.2 ∈ l)) ∨ (¬ Closed E l0 ∧ l0.length + 1 ≤ l.length))
theorem KinP.add {E : Edges} {c a b : Nat} {l0 l : List Nat} {Ej Ek : Edges} (p : KinP E c l0 Ej l) (he : (a, b) ∈ E ∨ (b, a) ∈ E) (ha : a ∈ l) (hb : b ∉ l) (hl : isLet b) : KinP E c l0 Ek (l ++ [b]) := by
  obtain ⟨p1, p2⟩ := p
  refine ⟨p1.push ha hb (mem_nbrs.mpr he) hl, .inr ?_⟩
  rw [List.length_append, List.length_singleton]
  rcases p2 with ⟨e, _⟩ | ⟨h1, h2⟩
  · subst e
    refine ⟨fun cl => ?_, Nat.le_refl _⟩
    rcases he with he | he
    · exact hb ((cl _ he).mp ha)
    · exact hb ((cl _ he).mpr ha)
  · exact ⟨h1, by omega⟩
theorem KinP.skip {E : Edges} {c a b : Nat} {l0 l : List Nat} {Ej : Edges} (p : KinP E c l0 Ej l) (h : a ∈ l ↔ b ∈ l) : KinP E c l0 (Ej ++ [(a, b)]) l := by
  obtain ⟨p1, p2⟩ := p
  refine ⟨p1, ?_⟩
  rcases p2 with ⟨e, q⟩ | q
  · refine .inl ⟨e, fun x hx => ?_⟩
    rcases List.mem_append.mp hx with hx | hx
    · exact q x hx
    · rw [List.mem_singleton] at hx
      subst hx
      exact h
  · exact .inr q
def KinK (E : Edges) (c k : Nat) (l : List Nat) : Prop := KinB E c l ∧ (Closed E l ∨ k + 1 ≤ l.length)
theorem KinK.begin {E : Edges} {c k : Nat} {l : List Nat} (h : KinK E c k l) : KinP E c l [] l := ⟨h.1, .inl ⟨rfl, fun e he => by cases he⟩⟩
theorem KinK.next {E : Edges} {c k : Nat} {l0 l : List Nat} (h : KinK E c k l0) (p : KinP E c l0 E l) : KinK E c (k + 1) l := by
  refine ⟨p.1, ?_⟩
  rcases p.2 with ⟨_, q⟩ | ⟨q1, q2⟩
  · exact .inl q
  · rcases h.2 with h2 | h2
    · exact absurd h2 q1
    · exact .inr (by omega)
theorem KinK.done {E : Edges} {c : Nat} {l : List Nat} (h : KinK E c 26 l) {d : Nat} : d ∈ l ↔ Conn E c d := by
  have hl := h.1.len
  rcases h.2 with h2 | h2
  · exact ⟨h.1.conn d, closed_conn h2 h.1.mem⟩
  · omega
end Wl

namespace Wl
open PySem PySem.Spec PyProof.Rows L2
abbrev sIsW : Stmt := topW 27
abbrev sKin : Stmt := topW 31
abbrev sMeaning : Stmt := topW 32
def sd (z : Str) : V × PyData := (.str z, .str z)
theorem sort_strs (xs : List Str) : ((xs.map sd).mergeSort (PySem.W.dataLe false (·.2))).map (·.1) = (sortS xs).map V.str := by
  have h : (sortS xs).map sd = (xs.map sd).mergeSort (PySem.W.dataLe false (·.2)) := List.map_mergeSort fun a _ b _ => by
    rw [PySem.W.dataLe_eq]
    exact (le_data_str a b).symm
  rw [← h, List.map_map]
  rfl
theorem alike_strs (xs : List Str) : PySem.W.AllAlike ((xs.map sd).map (·.2)) := by
  intro d hd e he
  obtain ⟨b, hb, rfl⟩ := List.mem_map.mp hd
  obtain ⟨x, _, rfl⟩ := List.mem_map.mp hb
  obtain ⟨c, hc, rfl⟩ := List.mem_map.mp he
  obtain ⟨y, _, rfl⟩ := List.mem_map.mp hc
  rfl
theorem sortable_strs (xs : List Str) : PySem.W.Sortable ((xs.map sd).map (·.2)) := .inr fun d hd => by
  obtain ⟨b, hb, rfl⟩ := List.mem_map.mp hd
  obtain ⟨x, _, rfl⟩ := List.mem_map.mp hb
  exact ⟨(fun e => by cases e), (fun ys e => by cases e)⟩
/-- sorted of a list of texts, as a reading -/
theorem sort_reads {K : PySem.W.Frag} {H : Hp} {Q : VK} {a : Addr} {xs : List Str} (h : SqL K H a (xs.map V.str)) (q : ∀ p, H p = none → Q (.ref p) (upd H p (.lst ((sortS xs).map V.str)))) : rSortD K [.ref a] H Q := by
  refine ⟨a, xs.map sd, rfl, ?_, ?_, alike_strs xs, sortable_strs xs, ?_, fun p hp => ?_⟩
  · rw [List.map_map]
    exact h
  · intro b hb
    obtain ⟨x, _, rfl⟩ := List.mem_map.mp hb
    exact .str x
  · intro b hb
    obtain ⟨x, _, rfl⟩ := List.mem_map.mp hb
    show PyData.depth (.str x) ≤ 8
    simp [PyData.depth]
  · rw [sort_strs]
    exact q p hp
theorem sign_inj {a b : Nat} (h : sign a = sign b) : a = b := by
  have e := congrArg (fun z : Str => z.cps.toList) h
  simpa [sign] using e
theorem mem_signs {a : Nat} {l : List Nat} : sign a ∈ l.map sign ↔ a ∈ l := by
  constructor
  · intro h
    obtain ⟨b, hb, e⟩ := List.mem_map.mp h
    rw [← sign_inj e]
    exact hb
  · exact fun h => List.mem_map.mpr ⟨a, h, rfl⟩
theorem inV_signs (a : Nat) (l : List Nat) : inV (.str (sign a)) ((l.map sign).map V.str) = decide (a ∈ l) := by
  rw [inV_strs]
  by_cases h : a ∈ l
  · rw [decide_eq_true h, decide_eq_true (mem_signs.mpr h)]
  · rw [decide_eq_false h, decide_eq_false fun q => h (mem_signs.mp q)]
section
variable {a : Nat} {l : List Nat}
theorem inT (h : a ∈ l) : V.bl (if (false : Bool) then !inV (.str (sign a)) ((l.map sign).map V.str) else inV (.str (sign a)) ((l.map sign).map V.str)) = .bl true := by
  rw [if_neg (by decide), inV_signs, decide_eq_true h]
theorem inF (h : a ∉ l) : V.bl (if (false : Bool) then !inV (.str (sign a)) ((l.map sign).map V.str) else inV (.str (sign a)) ((l.map sign).map V.str)) = .bl false := by
  rw [if_neg (by decide), inV_signs, decide_eq_false h]
theorem niT (h : a ∉ l) : V.bl (if (true : Bool) then !inV (.str (sign a)) ((l.map sign).map V.str) else inV (.str (sign a)) ((l.map sign).map V.str)) = .bl true := by
  rw [if_pos rfl, inV_signs, decide_eq_false h]
  rfl
theorem niF (h : a ∈ l) : V.bl (if (true : Bool) then !inV (.str (sign a)) ((l.map sign).map V.str) else inV (.str (sign a)) ((l.map sign).map V.str)) = .bl false := by
  rw [if_pos rfl, inV_signs, decide_eq_true h]
  rfl
end
theorem sorted_least {l : List Nat} {E : Edges} {c : Nat} (nd : l.Nodup) (hm : ∀ d, d ∈ l ↔ Conn E c d) : ∃ r, (sortS (l.map sign)).map V.str = sgV (lo E c) :: r := by
  have nd2 : (l.map sign).Nodup := by
    exact List.pairwise_map.mpr (nd.imp fun h e => h (sign_inj e))
  have hr := sortS_rising nd2
  cases hs : sortS (l.map sign) with
  | nil =>
    have : sign c ∈ sortS (l.map sign) := mem_sortS.mpr (mem_signs.mpr ((hm c).mpr (.refl c)))
    rw [hs] at this
    cases this
  | cons m r =>
    rw [hs] at hr
    have hmm : m ∈ l.map sign := mem_sortS.mp (by rw [hs]; exact List.mem_cons_self)
    obtain ⟨d, hd, rfl⟩ := List.mem_map.mp hmm
    refine ⟨r.map V.str, ?_⟩
    have : lo E c = d := lo_of ((hm d).mp hd) fun x hx => by
      have hx2 : sign x ∈ sortS (l.map sign) := mem_sortS.mpr (mem_signs.mpr ((hm x).mpr hx))
      rw [hs] at hx2
      rcases List.mem_cons.mp hx2 with e | e
      · rw [sign_inj e]
        exact Nat.le_refl _
      · have := (List.pairwise_cons.mp hr).1 _ e
        exact Nat.le_of_lt ((sign_lt d x).mp this)
    rw [this]
    rfl
section
variable {P : Program} {w : World} {K : PySem.W.Frag} {mg : Str → Option Value} {base : Heap} {f : Addr} {fd : FuncData}
theorem kin_tt {σ : L2.St} {H : Hp} {Q : Bool → Hp → Prop} {wh : Wh} {pl n : Nat} (h8 : σ[8]? = some (some (.str (whS wh)))) (h2 : σ[2]? = some (some (.bl (decide (pl = 0))))) (h3 : σ[3]? = some (some (.bl (decide (pl + 1 = n))))) (q : Q (acts wh pl n) H) :
    tOr (tTest (tOp rEq (tVar 8) (tC (V.str "any")))) (tOr (tAnd (tTest (tOp rEq (tVar 8) (tC (V.str "first")))) fun σ H Q => tVar 2 σ H fun x H' => ∃ k, TruV K x H' k ∧ Q k H')
      (tAnd (tTest (tOp rEq (tVar 8) (tC (V.str "last")))) fun σ H Q => tVar 3 σ H fun x H' => ∃ k, TruV K x H' k ∧ Q k H')) σ H Q := by
  have e1 : decide (V.str (whS wh) = V.str "any") = decide (wh = .any) := wh_dec wh .any
  have e2 : decide (V.str (whS wh) = V.str "first") = decide (wh = .first) := wh_dec wh .first
  have e3 : decide (V.str (whS wh) = V.str "last") = decide (wh = .last) := wh_dec wh .last
  refine ⟨_, h8, rfl, _, rfl, ?_⟩
  rw [e1]
  cases wh with
  | any => exact iteT q
  | first =>
    refine iteF ⟨_, h8, rfl, _, rfl, ?_⟩
    rw [e2]
    refine iteT ⟨_, h2, _, rfl, ite_b (fun e => ?_) (fun e => ?_)⟩
    · rw [← e]
      exact q
    · refine ⟨_, h8, rfl, _, rfl, ?_⟩
      rw [e3]
      refine iteF ?_
      rw [← e]
      exact q
  | last =>
    refine iteF ⟨_, h8, rfl, _, rfl, ?_⟩
    rw [e2]
    refine iteF (iteF ⟨_, h8, rfl, _, rfl, ?_⟩)
    rw [e3]
    exact iteT ⟨_, h3, _, rfl, q⟩
def spKin : Sp := fun vs H Q _ => ∃ (S : Addr) (chs : List Chg) (c i n : Nat), vs = [.ref S, sgV c, .bl (decide (i = 0)), .bl (decide (i + 1 = n))] ∧ ChAt H S chs ∧ OkCs chs ∧ isLet c ∧
  ∀ (p : Addr) (xs : List V) (H' : Hp), Same H H' → H' p = some (.lst (sgV (lo (es chs i n) c) :: xs)) → Q (.ref p) H'
abbrev nKin : List Str := ["_law_turns_here", "_law_letter", "_law_first", "_law_last", "_law_found", "_law_turn", "_law_one", "_law_second", "_law_where"]
theorem scKin : FnScope nKin ["_law_turns_here", "_law_letter", "_law_first", "_law_last"] (defScope sKin) := ⟨rfl, rfl, rfl, by decide +kernel, rfl, by decide +kernel, by decide +kernel⟩
theorem ok_kin (F : Fun K "_law_kin" "_law_kin" sKin f fd) (B : Bi mg) : FnOk P w K mg base CX0 1 f fd ["_law_turns_here", "_law_letter", "_law_first", "_law_last"] spKin := by
  refine F.ok scKin (fun vs H Q E h => ?_) (fun cdv A outer s H vs Q E hr h => ?_)
  · obtain ⟨S, chs, c, i, n, rfl, _⟩ := h
    rfl
  · obtain ⟨S, chs, c, pl, n, rfl, ⟨as, hS, hE⟩, ok, hc, q⟩ := h
    refine ⟨_, pss_cons (ps_set (i := 4) scKin.nd rfl (.inl rfl) (pe_lst (pa_cons (pv 1) pa_nil)))
      (pss_cons (ps_for PassesOwn.never rfl (pi_range1 (by rfl) B.range (pa_cons pe_int pa_nil)) (pg_name (i := 5) scKin.nd rfl (.inl rfl))
        (pss_one (ps_for PassesOwn.never rfl (pi_tup (pv 0)) (pg_tup rfl (pgs_cons (pg_name (i := 6) scKin.nd rfl (.inl rfl)) (pgs_cons (pg_name (i := 7) scKin.nd rfl (.inl rfl)) (pgs_cons (pg_name (i := 8) scKin.nd rfl (.inl rfl)) pgs_nil))))
          (pss_one (ps_if (PW.pt (pw_or (pt_cmpR op_eq (pv 8) pe_str (nomark _)) (pw_or (PW.pt (pw_and (pt_cmpR op_eq (pv 8) pe_str (nomark _)) (pw_and1 (pt_truth (pv 2) (by intro _; rfl))))) (pw_or1 (PW.pt (pw_and (pt_cmpR op_eq (pv 8) pe_str (nomark _)) (pw_and1 (pt_truth (pv 3) (by intro _; rfl)))))))))
            (pss_cons (ps_if (PW.pt (pw_and (pt_cmpR op_in_seq (pv 6) (pv 4) (by rfl)) (pw_and1 (pt_cmpR op_notIn_seq (pv 7) (pv 4) (by rfl))))) (pss_one (ps_expr (pe_bm PySem.F.plainAttrs_list PySem.F.slot_list_append PySem.F.type_list_append mt_append (pv 4) (pa_cons (pv 7) pa_nil)))) pss_nil)
            (pss_one (ps_if (PW.pt (pw_and (pt_cmpR op_in_seq (pv 7) (pv 4) (by rfl)) (pw_and1 (pt_cmpR op_notIn_seq (pv 6) (pv 4) (by rfl))))) (pss_one (ps_expr (pe_bm PySem.F.plainAttrs_list PySem.F.slot_list_append PySem.F.type_list_append mt_append (pv 4) (pa_cons (pv 6) pa_nil)))) pss_nil)))
            pss_nil)))))
      (pss_one (ps_ret (pe_callB (cr_sortD hr.units) (by rfl) B.sorted (by decide +kernel) (pa_cons (pv 4) pa_nil))))), ?_⟩
    refine ⟨_, rfl, lz, fun R hR => ?_⟩
    have eE : ∀ k, as.length ≤ k → es (chs.take k) pl n = es chs pl n := fun k hk => by rw [List.take_of_length_le (by rw [← hE.length]; exact hk)]
    refine ⟨26, rfl, by decide, by decide, for_it (walk_range (lo := 0) (n := 26)) (fun k σ H' => ∃ (l : List Nat) (y5 y6 y7 y8 : Option V), σ = [some (.ref S), some (sgV c), some (.bl (decide (pl = 0))), some (.bl (decide (pl + 1 = n))), some (.ref R), y5, y6, y7, y8] ∧ Same H H' ∧ H' R = some (.lst ((l.map sign).map V.str)) ∧ KinK (es chs pl n) c k l)
      ⟨[c], _, _, _, _, rfl, same_new hR, upd_same, KinB.start hc, .inr (by simp)⟩ (fun _ _ _ _ _ => trivial) ?_ ?_⟩
    · rintro k x σ H1 H2 hk ⟨l0, y5, y6, y7, y8, rfl, s1, hR1, hK⟩ ⟨rfl, rfl⟩
      refine ⟨_, rfl, S, rfl, ⟨_, .inl (.inl (s1 _ _ hS))⟩, for_it (walk_tup (K := K) (a := S) (xs := as.map V.ref)) (fun j σ H' => ∃ (l : List Nat) (y6 y7 y8 : Option V), σ = [some (.ref S), some (sgV c), some (.bl (decide (pl = 0))), some (.bl (decide (pl + 1 = n))), some (.ref R), some (.int (0 + (k : Int))), y6, y7, y8] ∧ Same H H' ∧ H' R = some (.lst ((l.map sign).map V.str)) ∧ KinP (es chs pl n) c l0 (es (chs.take j) pl n) l)
        ⟨l0, _, _, _, rfl, s1, hR1, hK.begin⟩ (fun j σ H' _ h => ?_) ?_ ?_⟩
      · obtain ⟨_, _, _, _, _, s', _⟩ := h
        exact .inl (.inl (s' _ _ hS))
      · rintro j x σ H3 H4 hj ⟨l, z6, z7, z8, rfl, s3, hR3, hP⟩ ⟨rfl, hx⟩
        rw [List.getElem?_map] at hx
        obtain ⟨p, hp, rfl⟩ := Option.map_eq_some_iff.mp hx
        obtain ⟨⟨a, b, wh⟩, hch, hH⟩ := hE.get hp
        obtain ⟨o1, o2, o3⟩ := ok.2 _ (List.mem_of_getElem? hch)
        have etk : chs.take (j + 1) = chs.take j ++ [(a, b, wh)] := by rw [List.take_add_one, hch]; rfl
        have hmE : acts wh pl n = true → (a, b) ∈ es chs pl n := fun e => List.mem_map.mpr ⟨(a, b, wh), List.mem_filter.mpr ⟨List.mem_of_getElem? hch, e⟩, rfl⟩
        have l26 := hP.1.len
        refine ⟨p, _, rfl, .inl (.inl (s3 _ _ hH)), rfl, _, _, rfl, _, _, rfl, _, _, rfl, rfl, ?_⟩
        refine kin_tt (K := K) (wh := wh) (pl := pl) (n := n) rfl rfl rfl (ite_b (fun e => ?_) (fun e => ?_))
        · have hm := hmE e
          have fl := fun l : List Nat => flat_strs (l.map sign)
          have lL : ∀ l : List Nat, l.length ≤ 26 → ((l.map sign).map V.str).length < sizeLine := fun l hl => by
            rw [List.length_map, List.length_map]
            exact small1000 (by omega)
          rw [etk, es_snoc, if_pos e]
          by_cases ha : a ∈ l <;> by_cases hb : b ∈ l
          · -- both
            refine ⟨_, rfl, _, rfl, R, _, rfl, .inl (.inl (.inl hR3)), rfl, fl l, true, inT ha, iteT ?_⟩
            refine ⟨_, rfl, _, rfl, R, _, rfl, .inl (.inl (.inl hR3)), rfl, fl l, false, niF hb, iteF ?_⟩
            refine ⟨_, rfl, _, rfl, R, _, rfl, .inl (.inl (.inl hR3)), rfl, fl l, true, inT hb, iteT ?_⟩
            refine ⟨_, rfl, _, rfl, R, _, rfl, .inl (.inl (.inl hR3)), rfl, fl l, false, niF ha, iteF ?_⟩
            exact ⟨l, _, _, _, rfl, s3, hR3, hP.skip ⟨fun _ => hb, fun _ => ha⟩⟩
          · -- b is new
            refine ⟨_, rfl, _, rfl, R, _, rfl, .inl (.inl (.inl hR3)), rfl, fl l, true, inT ha, iteT ?_⟩
            refine ⟨_, rfl, _, rfl, R, _, rfl, .inl (.inl (.inl hR3)), rfl, fl l, true, niT hb, iteT ?_⟩
            refine ⟨_, rfl, .inl ⟨rfl, _, .inl (.inl hR3)⟩, _, rfl, R, _, _, rfl, rfl, hR3, lL l l26, ?_⟩
            have hR5 : upd H4 R (.lst ((l.map sign).map V.str ++ [sgV b])) R = some (.lst (((l ++ [b]).map sign).map V.str)) := by
              rw [upd_same, List.map_append, List.map_append]
              rfl
            have s5 : Same H (upd H4 R (.lst ((l.map sign).map V.str ++ [sgV b]))) := same_mut s3 hR
            refine ⟨_, rfl, _, rfl, R, _, rfl, .inl (.inl (.inl hR5)), rfl, fl (l ++ [b]), true, inT (List.mem_append_right _ (by simp)), iteT ?_⟩
            refine ⟨_, rfl, _, rfl, R, _, rfl, .inl (.inl (.inl hR5)), rfl, fl (l ++ [b]), false, niF (List.mem_append_left _ ha), iteF ?_⟩
            exact ⟨l ++ [b], _, _, _, rfl, s5, hR5, hP.add (.inl hm) ha hb o2⟩
          · -- a is new
            refine ⟨_, rfl, _, rfl, R, _, rfl, .inl (.inl (.inl hR3)), rfl, fl l, false, inF ha, iteF ?_⟩
            refine ⟨_, rfl, _, rfl, R, _, rfl, .inl (.inl (.inl hR3)), rfl, fl l, true, inT hb, iteT ?_⟩
            refine ⟨_, rfl, _, rfl, R, _, rfl, .inl (.inl (.inl hR3)), rfl, fl l, true, niT ha, iteT ?_⟩
            refine ⟨_, rfl, .inl ⟨rfl, _, .inl (.inl hR3)⟩, _, rfl, R, _, _, rfl, rfl, hR3, lL l l26, ?_⟩
            refine ⟨l ++ [a], _, _, _, rfl, same_mut s3 hR, ?_, hP.add (.inr hm) hb ha o1⟩
            rw [upd_same, List.map_append, List.map_append]
            rfl
          · -- none
            refine ⟨_, rfl, _, rfl, R, _, rfl, .inl (.inl (.inl hR3)), rfl, fl l, false, inF ha, iteF ?_⟩
            refine ⟨_, rfl, _, rfl, R, _, rfl, .inl (.inl (.inl hR3)), rfl, fl l, false, inF hb, iteF ?_⟩
            exact ⟨l, _, _, _, rfl, s3, hR3, hP.skip ⟨fun x => absurd x ha, fun x => absurd x hb⟩⟩
        · refine ⟨l, _, _, _, rfl, s3, hR3, ?_⟩
          rw [etk, es_snoc, if_neg (by rw [e]; decide), List.append_nil]
          exact hP
      · rintro σ H3 ⟨l, z6, z7, z8, rfl, s3, hR3, hP⟩
        rw [eE _ (by simp)] at hP
        exact ⟨l, _, _, _, _, rfl, s3, hR3, hK.next hP⟩
    · rintro σ H1 ⟨l, y5, y6, y7, y8, rfl, s1, hR1, hK⟩
      obtain ⟨r, hr2⟩ := sorted_least hK.1.nd fun d => hK.done (d := d)
      refine ⟨_, rfl, ?_⟩
      dsimp only [tNil]
      refine sort_reads (K := K) (.inl (.inl hR1)) fun p hp => ?_
      exact q p r _ (s1.trans (same_new hp)) (by rw [upd_same, hr2])
end
end Wl

namespace Wl
open PySem PySem.Spec PyProof.Rows L2
abbrev sChanges : Stmt := topW 30
section
variable {P : Program} {w : World} {K : PySem.W.Frag} {mg : Str → Option Value} {base : Heap} {f : Addr} {fd : FuncData}
abbrev nIsWl : List Str := ["_law_matter", "_law_sign"]
theorem scIsWl : FnScope nIsWl ["_law_matter"] (defScope sIsW) := ⟨rfl, rfl, rfl, by decide +kernel, rfl, by decide +kernel, by decide +kernel⟩
theorem ok_lisw (F : Fun K "_law_is_word" "_law_is_word" sIsW f fd) (B : Bi mg) : FnOk P w K mg base CX0 1 f fd ["_law_matter"] (spIsW K) := by
  refine F.ok scIsWl (fun vs H Q E h => ?_) (fun cdv A outer s H vs Q E hr h => ?_)
  · obtain ⟨v, b, rfl, _⟩ := h
    rfl
  · obtain ⟨v, b, rfl, hw, q⟩ := h
    refine ⟨_, pss_cons (ps_if (PW.pt (pw_or (pt_not (pt_val (pe_callB call_isi (by rfl) B.isi (by decide +kernel) (pa_cons (pv 0) (pa_cons (pe_bltn (v := .ty "str") (by rfl) B.str (by decide +kernel) rfl) pa_nil)))))
        (pw_or1 (pt_not (pt_chain op_le op_le pe_int (pe_callB call_len_str (by rfl) B.len PySem.boot_len (pa_cons (pv 0) pa_nil)) pe_int))))) (pss_one (ps_ret pe_bl)) pss_nil)
      (pss_one (ps_ret (pe_callB (cr_all rfl) (by rfl) B.all (by decide +kernel) (pa_cons (pe_lc (own := [("_law_sign", 1)]) (g := gName 1) (tt := tYes) rfl scIsWl.nd (pi_str (pv 0)) (blkOk_by (N := nIsWl) (sc := defScope sIsW) (by decide +kernel))
        (fun _ _ _ _ _ => pg_name (i := 1) scIsWl.nd rfl (.inl rfl)) (fun _ _ _ _ _ => pts_nil) (fun _ _ _ _ _ => pe_cmpR op_in_sign (pv 1) pe_str rfl)) pa_nil)))), ?_⟩
    rcases hw with ⟨z, rfl, hz, rfl⟩ | ⟨t, ty, hk, rfl⟩
    · refine ⟨_, rfl, _, _, _, _, _, rfl, .ty "str", .base (.str z), kit_ty (r := true) (by decide +kernel), true, rfl, ?_⟩
      refine iteF ⟨_, rfl, _, rfl, lzl hz, _, _, rfl, rfl, _, rfl, ite_b (fun e1 => ?_) (fun e1 => ?_)⟩
      · refine ⟨_, _, rfl, rfl, _, rfl, not_b (fun e2 => ?_) (fun e2 => ?_)⟩
        · have e2' : ¬ ((z.length : Int) ≤ 8) := of_decide_eq_false e2
          have : wdB z = false := by
            unfold wdB
            rw [decide_eq_false (show ¬ z.length ≤ 8 by omega)]
            simp
          rw [← this]
          exact q H (Same.refl H)
        · have h1 : 1 ≤ z.length := by
            have := of_decide_eq_true e1
            omega
          have h8 : z.length ≤ 8 := by
            have := of_decide_eq_true e2
            omega
          refine ⟨_, rfl, _, rfl, fun D hD => lc_map walk_signs hD (fun _ => true) letV (fun _ _ => trivial) (fun _ => rfl) (fun x H' _ _ Q' q' => q') ?_ ?_ ?_⟩
          · intro x H' hx _ _ Q' q'
            obtain ⟨c, hc, rfl⟩ := List.mem_map.mp hx
            refine ⟨_, rfl, c, _, rfl, rfl, ?_⟩
            rw [letB_mem]
            have : letV (.str (sign c)) = .bl (letB c) := by
              show V.bl ([c].all letB) = _
              simp
            rw [this] at q'
            exact q'
          · unfold signsOf
            rw [List.length_map, Array.length_toList]
            exact small1000 (by have : z.length = z.cps.size := rfl; omega)
          · intro H' s' hD'
            have e0 : ((signsOf z).filter fun _ => true).map letV = (z.cps.toList.map letB).map V.bl := by
              rw [List.filter_eq_self.mpr fun _ _ => rfl]
              unfold signsOf
              rw [List.map_map, List.map_map]
              refine List.map_congr_left fun c _ => ?_
              show V.bl ([c].all letB) = _
              simp
            refine ⟨D, z.cps.toList.map letB, rfl, .inl (.inl (by rw [hD', e0])), ?_⟩
            have : (z.cps.toList.map letB).all id = wdB z := by
              unfold wdB
              rw [decide_eq_true h1, decide_eq_true h8, List.all_map]
              rfl
            rw [this]
            exact q H' s'
      · refine ⟨false, rfl, iteT ?_⟩
        have : wdB z = false := by
          have e1' : ¬ ((1 : Int) ≤ z.length) := of_decide_eq_false e1
          unfold wdB
          rw [decide_eq_false (show ¬ 1 ≤ z.length by omega)]
          simp
        rw [← this]
        exact q H (Same.refl H)
    · exact ⟨_, rfl, _, _, _, _, _, rfl, .ty "str", ty, hk, false, rfl, iteT (q H (Same.refl H))⟩
def spLMean : Sp := fun vs H Q _ => ∃ (S : Addr) (chs : List Chg) (z : Str), vs = [.ref S, .str z] ∧ ChAt H S chs ∧ OkCs chs ∧ IsWd z ∧ ∀ (H' : Hp), Same H H' → Q (.str (mean chs z)) H'
abbrev nLMean : List Str := ["_law_turns_here", "_law_text_here", "_law_many", "_law_k"]
theorem scLMean : FnScope nLMean ["_law_turns_here", "_law_text_here"] (defScope sMeaning) := ⟨rfl, rfl, rfl, by decide +kernel, rfl, by decide +kernel, by decide +kernel⟩
theorem ok_lmean (F : Fun K "_law_meaning" "_law_meaning" sMeaning f fd) (B : Bi mg) (hK : Has P w K mg base "_law_kin" 1 ["_law_turns_here", "_law_letter", "_law_first", "_law_last"] spKin) : FnOk P w K mg base CX0 2 f fd ["_law_turns_here", "_law_text_here"] spLMean := by
  refine F.ok scLMean (fun vs H Q E h => ?_) (fun cdv A outer s H vs Q E hr h => ?_)
  · obtain ⟨S, chs, z, rfl, _⟩ := h
    rfl
  · obtain ⟨S, chs, z, rfl, hS, ok, hz, q⟩ := h
    have z8 := hz.len
    refine ⟨_, pss_cons (ps_set (i := 2) scLMean.nd rfl (.inr rfl) (pe_callB call_len_str (by rfl) B.len PySem.boot_len (pa_cons (pv 1) pa_nil)))
      (pss_one (ps_ret (pe_join pe_str (pe_lc (own := [("_law_k", 3)]) (g := gName 3) (tt := tYes) (te := tOp (rIxL K) (tCall spKin [] E0 (tCons (tVar 0) (tCons (tOp rIxS (tVar 1) (tVar 3)) (tCons (tOp rEq (tVar 3) (tC (.int 0))) (tCons (tOp rEq (tVar 3) (tOp (rI0 fun i j => .int (i - j)) (tVar 2) (tC (.int 1)))) tNil))))) (tC (.int 0))) rfl scLMean.nd (pi_range1 (by rfl) B.range (pa_cons (pv 2) pa_nil)) (blkOk_by (N := nLMean) (sc := defScope sMeaning) (by decide +kernel))
        (fun _ _ _ _ _ => pg_name (i := 3) scLMean.nd rfl (.inl rfl)) (fun _ _ _ _ _ => pts_nil) (fun _ _ _ _ _ => pe_ix ix_list (pe_h hK hr (pa_cons (pv 0) (pa_cons (pe_ix ix_str (pv 1) (pv 3) (fun _ _ => rfl)) (pa_cons (pe_cmpR op_eq (pv 3) pe_int (nomark _)) (pa_cons (pe_cmpR op_eq (pv 3) (pe_op op_sub (pv 2) pe_int) (nomark _)) pa_nil))))) pe_int (fun _ _ => rfl)))))), ?_⟩
    refine ⟨_, rfl, _, rfl, lzl (by omega), ⟨_, rfl⟩, _, rfl, (z.length : Int), rfl, by omega, by omega, fun D hD => lc_range (lo := 0) (n := z.length)
      (fun i H' => Same H H' ∧ H' D = some (.lst ((((codes (mean chs z)).take i).map sign).map V.str))) ⟨same_new hD, upd_same⟩ ?_ ?_⟩
    · rintro i H1 hi ⟨s1, hD1⟩
      have hi2 : i < (codes z).length := by rw [codes_len]; exact hi
      obtain ⟨c, hc⟩ : ∃ c, (codes z)[i]? = some c := ⟨_, List.getElem?_eq_getElem hi2⟩
      have hcl : isLet c := (wd_codes.mp hz).2 c (List.mem_of_getElem? hc)
      have hat := mean_at chs z hc
      rw [codes_len] at hat
      refine ⟨rfl, yes_it ⟨_, rfl, _, rfl, _, rfl, z, _, c, rfl, rfl, lzl (by omega), ?_, ?_⟩⟩
      · rw [Int.zero_add]
        exact atI_nat hc
      · refine ⟨_, rfl, rfl, _, rfl, _, rfl, _, _, rfl, rfl, rfl, S, chs, c, i, z.length, ?_, hS.same s1, ok, hcl, fun p xs H2 s2 hp => ?_⟩
        · rw [int_dec, int_dec]
          have e1 : decide ((0 : Int) + (i : Int) = 0) = decide (i = 0) := by
            by_cases h : i = 0
            · simp [h]
            · rw [decide_eq_false h, decide_eq_false (by omega)]
          have e2 : decide ((0 : Int) + (i : Int) = (z.length : Int) - 1) = decide (i + 1 = z.length) := by
            by_cases h : i + 1 = z.length
            · rw [decide_eq_true h, decide_eq_true (by omega)]
            · rw [decide_eq_false h, decide_eq_false (by omega)]
          rw [e1, e2]
          rfl
        · refine ⟨p, _, 0, _, rfl, rfl, .inl (.inl hp), atI_nat (j := 0) rfl, _, s2 _ _ hD1, ?_, same_mut (s1.trans s2) hD, ?_⟩
          · rw [List.length_map, List.length_map]
            have h1 : ((codes (mean chs z)).take i).length ≤ (codes (mean chs z)).length := List.length_take_le' _ _
            rw [mean_len, codes_len] at h1
            exact small1000 (by omega)
          · rw [upd_same, List.take_add_one, hat, List.map_append, List.map_append]
            rfl
    · rintro H1 ⟨s1, hD1⟩
      have e1 : (codes (mean chs z)).take z.length = codes (mean chs z) := by rw [← codes_len z, ← mean_len chs z, List.take_length]
      rw [e1] at hD1
      refine ⟨_, D, (codes (mean chs z)).map sign, rfl, rfl, .inl (.inl (.inl hD1)), ?_, ?_⟩
      · have e0 : ("" : Str).length = 0 := by decide +kernel
        have e1 : ((codes (mean chs z)).map sign).map (·.length) = (codes (mean chs z)).map fun _ => 1 := by
          rw [List.map_map]
          rfl
        rw [e0, e1, Nat.mul_zero, ones_sum, mean_len, codes_len]
        omega
      · have e2 : Txt.join ("" : Str) ((codes (mean chs z)).map sign) = mean chs z := str_ext (join_signs _)
        rw [e2]
        exact q H1 s1
end
end Wl

namespace Wl
open PySem PySem.Spec PyProof.Rows L2
abbrev sPartner : Stmt := topW 33
theorem abcde_eq : ("abcde" : Str).cps.toList = List.range' 97 5 := by decide +kernel
theorem abcde_at {r : Int} (h0 : 0 ≤ r) (h : r < 5) : atI ("abcde" : Str).cps.toList r = some (97 + r.toNat) := by
  rw [abcde_eq]
  have e : r = ((r.toNat : Nat) : Int) := by omega
  rw [e]
  refine atI_nat ?_
  rw [List.getElem?_range' (by omega)]
  congr 1
  omega
theorem ChAt.X {H H' : Hp} {a S : Addr} {chs : List Chg} {ys : List V} (h : ChAt H S chs) (ha : H a = some (.lst ys)) (s : SameX a H H') : ChAt H' S chs :=
  h.keep fun p xs e => s p _ (ne_of e ha (by intro z; cases z)) e
theorem each_X {H H' : Hp} {a : Addr} {as : List Addr} {chs : List Chg} {ys : List V} (h : Each (fun (p : Addr) (ch : Chg) => H p = some (.tup (chV ch))) as chs) (ha : H a = some (.lst ys)) (s : SameX a H H') : Each (fun (p : Addr) (ch : Chg) => H' p = some (.tup (chV ch))) as chs :=
  h.mono fun p ch e => s p _ (ne_of e ha (by intro z; cases z)) e
section
variable {P : Program} {w : World} {K : PySem.W.Frag} {mg : Str → Option Value} {base : Heap} {f : Addr} {fd : FuncData}
def spChanges : Sp := fun vs H Q _ => ∃ (a : Addr) (m : Int), vs = [.ref a, .int m] ∧ PurseAt H a ∧ 0 ≤ m ∧ m ≤ 12 ∧ ∀ (S : Addr) (chs : List Chg) (H' : Hp), PurseAt H' a → SameX a H H' → ChAt H' S chs → OkCs chs → Q (.ref S) H'
abbrev nChanges : List Str := ["_law_purse_here", "_law_most", "_law_found", "_law_k", "_law_one", "_law_wide", "_law_second", "_law_where"]
theorem scChanges : FnScope nChanges ["_law_purse_here", "_law_most"] (defScope sChanges) := ⟨rfl, rfl, rfl, by decide +kernel, rfl, by decide +kernel, by decide +kernel⟩
theorem ok_changes (F : Fun K "_law_changes" "_law_changes" sChanges f fd) (B : Bi mg) (hp : Has P w K mg base "_law_pick" 1 ["_law_purse_here", "_law_many"] spPick) : FnOk P w K mg base CX0 2 f fd ["_law_purse_here", "_law_most"] spChanges := by
  refine F.ok scChanges (fun vs H Q E h => ?_) (fun cdv A outer s H vs Q E hr h => ?_)
  · obtain ⟨a, m, rfl, _⟩ := h
    rfl
  · obtain ⟨a, m, rfl, hA, m0, m12, q⟩ := h
    refine ⟨_, pss_cons (ps_set (i := 2) scChanges.nd rfl (.inl rfl) (pe_lst pa_nil))
      (pss_cons (ps_for PassesOwn.never rfl (pi_range1 (by rfl) B.range (pa_cons (pe_h hp hr (pa_cons (pv 0) (pa_cons (pe_op op_add (pv 1) pe_int) pa_nil))) pa_nil)) (pg_name (i := 3) scChanges.nd rfl (.inl rfl))
        (pss_cons (ps_par (i := 4) (j := 5) (by rfl) scChanges.nd rfl rfl (by decide) rfl rfl (pa_cons (pe_h hp hr (pa_cons (pv 0) (pa_cons pe_int pa_nil))) (pa_cons (pe_h hp hr (pa_cons (pv 0) (pa_cons pe_int pa_nil))) pa_nil)) (by rfl))
        (pss_cons (ps_set (i := 6) scChanges.nd rfl (.inl rfl) (pe_op op_mod (pe_op op_add (pe_op op_add (pv 4) pe_int) (pv 5)) pe_int))
        (pss_cons (ps_set (i := 7) scChanges.nd rfl (.inl rfl) (pe_ix ix_list (pe_lst (pa_cons pe_str (pa_cons pe_str (pa_cons pe_str (pa_cons pe_str pa_nil))))) (pe_h hp hr (pa_cons (pv 0) (pa_cons pe_int pa_nil))) (fun _ _ => rfl)))
        (pss_one (ps_expr (pe_bm PySem.F.plainAttrs_list PySem.F.slot_list_append PySem.F.type_list_append mt_append (pv 2) (pa_cons (pe_tup (pa_cons (pe_ix ix_str pe_str (pv 4) (fun _ _ => rfl)) (pa_cons (pe_ix ix_str pe_str (pv 6) (fun _ _ => rfl)) (pa_cons (pv 7) pa_nil)))) pa_nil))))))))
      (pss_one (ps_ret (pe_callTy call_tuple_of (by rfl) B.tuple (by decide +kernel) (pa_cons (pv 2) pa_nil))))), ?_⟩
    refine ⟨lz, fun R hR => ?_⟩
    have nRa : R ≠ a := hA.ne hR
    refine ⟨_, rfl, _, rfl, _, _, rfl, rfl, a, m + 1, rfl, hA.same (same_new hR), by omega, by omega, fun r0 H1 r00 r01 hA1 s1 n1 => ?_⟩
    have hR1 := s1 _ _ nRa upd_same
    refine ⟨r0, rfl, by omega, by omega, for_it (walk_range (lo := 0) (n := r0.toNat)) (fun i σ H' => (∃ y3 y4 y5 y6 y7, σ = [some (.ref a), some (.int m), some (.ref R), y3, y4, y5, y6, y7]) ∧ PurseAt H' a ∧ SameX a H H' ∧ ∃ (as : List Addr) (chs : List Chg), H' R = some (.lst (as.map V.ref)) ∧ Each (fun (p : Addr) (ch : Chg) => H' p = some (.tup (chV ch))) as chs ∧ chs.length = i ∧ ∀ ch ∈ chs, OkC ch)
      ⟨⟨_, _, _, _, _, rfl⟩, hA1, (sx (same_new hR)).trans s1, [], [], hR1, .nil, rfl, fun ch hc => by cases hc⟩ (fun _ _ _ _ _ => trivial) ?_ ?_⟩
    · rintro i x σ Hq H2 hi ⟨⟨y3, y4, y5, y6, y7, rfl⟩, hA2, s2, as, chs, hR2, hE2, hl2, ok2⟩ ⟨rfl, rfl⟩
      refine ⟨_, rfl, a, 5, rfl, hA2, by decide, by decide, fun u H3 u0 u1 hA3 s3 n3 => ⟨_, rfl, a, 4, rfl, hA3, by decide, by decide, fun v H4 v0 v1 hA4 s4 n4 => ⟨_, _, rfl, ?_⟩⟩⟩
      refine ⟨_, rfl, _, _, rfl, rfl, _, rfl, _, _, rfl, rfl, _, _, rfl, rfl, (show (0 : Int) < 5 by decide), ?_⟩
      refine ⟨lz, fun p hpn => ⟨_, rfl, a, 4, rfl, hA4.same (same_new hpn), by decide, by decide, fun t H5 t0 t1 hA5 s5 n5 => ?_⟩⟩
      have npa := hA4.ne hpn
      obtain ⟨zw, hzm, hzi⟩ := atI_strs (zs := ["first", "last", "any", "any"]) t0 t1
      obtain ⟨wh, rfl⟩ : ∃ wh, zw = whS wh := by
        simp only [List.mem_cons, List.not_mem_nil, or_false] at hzm
        rcases hzm with rfl | rfl | rfl | rfl
        · exact ⟨.first, rfl⟩
        · exact ⟨.last, rfl⟩
        · exact ⟨.any, rfl⟩
        · exact ⟨.any, rfl⟩
      refine ⟨p, _, t, .str (whS wh), rfl, rfl, .inl (.inl (s5 _ _ npa upd_same)), hzi, ?_⟩
      have s25 : SameX a H2 H5 := (s3.trans s4).trans ((sx (same_new hpn)).trans s5)
      have hR5 := s25 _ _ nRa hR2
      obtain ⟨ya, hya⟩ := hA2.lst
      have hE5 := each_X hE2 hya s25
      have b0 : 0 ≤ (u + 1 + v) % 5 := Int.emod_nonneg _ (by decide)
      have b1 : (u + 1 + v) % 5 < 5 := Int.emod_lt_of_pos _ (by decide)
      refine ⟨_, rfl, .inl ⟨rfl, _, .inl (.inl hR5)⟩, ?_⟩
      refine ⟨_, rfl, ⟨_, u, _, rfl, rfl, lz, abcde_at u0 u1, _, rfl, _, _, _, rfl, rfl, lz, abcde_at b0 b1, _, rfl, lz, fun T hT => ?_⟩⟩
      refine ⟨R, _, _, rfl, rfl, (same_new hT) _ _ hR5, ?_, ⟨_, _, _, _, _, rfl⟩, ?_, ?_, as ++ [T], chs ++ [(97 + u.toNat, 97 + ((u + 1 + v) % 5).toNat, wh)], ?_, ?_, ?_, ?_⟩
      · rw [List.length_map, hE2.length]
        exact small1000 (by omega)
      · have hA6 := hA5.same (same_new (o := .tup [sgV (97 + u.toNat), sgV (97 + ((u + 1 + v) % 5).toNat), .str (whS wh)]) hT)
        obtain ⟨x0, x1, x2, hx, hx1⟩ := hA6
        exact ⟨x0, x1, x2, by rw [upd_ne nRa.symm]; exact hx, hx1⟩
      · exact sameX_mut ((s2.trans s25).trans (sx (same_new hT))) hR
      · rw [upd_same, List.map_append]
        rfl
      · have nTR : T ≠ R := (ne_of_none hR5 hT).symm
        refine Each.append (hE5.mono fun p ch e => ?_) (.cons ?_ .nil)
        · rw [upd_ne (ne_of e hR5 (by intro z; cases z))]
          exact (same_new hT) _ _ e
        · rw [upd_ne nTR, upd_same]
          rfl
      · rw [List.length_append, hl2]
        rfl
      · intro ch hch
        rcases List.mem_append.mp hch with hch | hch
        · exact ok2 ch hch
        · rw [List.mem_singleton] at hch
          subst hch
          refine ⟨?_, ?_, ?_⟩
          · show 97 ≤ 97 + u.toNat ∧ 97 + u.toNat ≤ 122
            omega
          · show 97 ≤ 97 + ((u + 1 + v) % 5).toNat ∧ 97 + ((u + 1 + v) % 5).toNat ≤ 122
            omega
          · show 97 + u.toNat ≠ 97 + ((u + 1 + v) % 5).toNat
            omega
    · rintro σ H2 ⟨⟨y3, y4, y5, y6, y7, rfl⟩, hA2, s2, as, chs, hR2, hE2, hl2, ok2⟩
      refine ⟨_, rfl, R, _, rfl, .inl ⟨.inl (.inl hR2), fun l hl => ?_⟩⟩
      refine q l chs _ (hA2.same (same_new hl)) (s2.trans (sx (same_new hl))) ⟨as, upd_same, hE2.mono fun p ch e => (same_new hl) _ _ e⟩ ⟨?_, ok2⟩
      omega
end
end Wl

namespace Wl
open PySem PySem.Spec PyProof.Rows L2
theorem cut_from (z : Str) (v : Int) : codes (cutS z (some v) none) = (codes z).drop (HT.sIx z.length 0 (some v)) := by
  show ((z.cps.toList.drop (HT.sIx z.length 0 (some v))).take (HT.sIx z.length z.length none - HT.sIx z.length 0 (some v))) = _
  rw [HT.sIx_none]
  refine List.take_of_length_le ?_
  rw [List.length_drop]
  have : z.length = z.cps.toList.length := by simp [Str.length]
  omega
theorem codes_app (x y : Str) : codes (x ++ y) = codes x ++ codes y := TL.tl_append x y
/-- letters alone, n of them -/
def Lets (z : Str) (n : Nat) : Prop := (codes z).length = n ∧ ∀ c ∈ codes z, isLet c
theorem lets_nil : Lets "" 0 := by
  have e : codes ("" : Str) = [] := by decide +kernel
  unfold Lets
  rw [e]
  exact ⟨rfl, fun c hc => by cases hc⟩
theorem Lets.wd {z : Str} {n : Nat} (h : Lets z n) (h1 : 1 ≤ n) (h8 : n ≤ 8) : IsWd z := wd_codes.mpr ⟨by rw [h.1]; exact ⟨h1, h8⟩, h.2⟩
theorem Lets.snoc {z : Str} {n c : Nat} (h : Lets z n) (hc : isLet c) : Lets (z ++ sign c) (n + 1) := by
  have e : codes (sign c) = [c] := rfl
  refine ⟨by rw [codes_app, List.length_append, e, h.1]; rfl, fun d hd => ?_⟩
  rw [codes_app, e] at hd
  rcases List.mem_append.mp hd with hd | hd
  · exact h.2 d hd
  · rw [List.mem_singleton] at hd
    subst hd
    exact hc
section
variable {P : Program} {w : World} {K : PySem.W.Frag} {mg : Str → Option Value} {base : Heap} {f : Addr} {fd : FuncData}
def spPartner : Sp := fun vs H Q _ => ∃ (a : Addr) (z : Str), vs = [.ref a, .str z] ∧ PurseAt H a ∧ IsWd z ∧ ∀ (y : Str) (H' : Hp), PurseAt H' a → SameX a H H' → IsWd y → Q (.str y) H'
abbrev nPartner : List Str := ["_law_purse_here", "_law_first", "_law_found", "_law_sign", "_law_way"]
theorem scPartner : FnScope nPartner ["_law_purse_here", "_law_first"] (defScope sPartner) := ⟨rfl, rfl, rfl, by decide +kernel, rfl, by decide +kernel, by decide +kernel⟩
theorem ok_partner (F : Fun K "_law_partner" "_law_partner" sPartner f fd) (B : Bi mg) (hp : Has P w K mg base "_law_pick" 1 ["_law_purse_here", "_law_many"] spPick) : FnOk P w K mg base CX0 2 f fd ["_law_purse_here", "_law_first"] spPartner := by
  refine F.ok scPartner (fun vs H Q E h => ?_) (fun cdv A outer s H vs Q E hr h => ?_)
  · obtain ⟨a, z, rfl, _⟩ := h
    rfl
  · obtain ⟨a, z, rfl, hA, hz, q⟩ := h
    have z8 := hz.len
    refine ⟨_, pss_cons (ps_set (i := 2) scPartner.nd rfl (.inl rfl) pe_str)
      (pss_cons (ps_for PassesOwn.never rfl (pi_str (pv 1)) (pg_name (i := 3) scPartner.nd rfl (.inl rfl))
        (pss_one (ps_set (i := 2) scPartner.nd rfl (.inl rfl) (pe_op op_add_str (pv 2) (pe_ix ix_list (pe_lst (pa_cons (pv 3) (pa_cons (pe_ix ix_str pe_str (pe_h hp hr (pa_cons (pv 0) (pa_cons pe_int pa_nil))) (fun _ _ => rfl)) pa_nil))) (pe_h hp hr (pa_cons (pv 0) (pa_cons pe_int pa_nil))) (fun _ _ => rfl))))))
      (pss_cons (ps_set (i := 4) scPartner.nd rfl (.inl rfl) (pe_h hp hr (pa_cons (pv 0) (pa_cons pe_int pa_nil))))
      (pss_cons (ps_if (pt_cmpR op_eq (pv 4) pe_int (nomark _)) (pss_one (ps_set (i := 2) scPartner.nd rfl (.inl rfl) (pe_slice sl_str (pe_op op_add_str (pv 2) (pe_ix ix_str pe_str (pe_h hp hr (pa_cons (pv 0) (pa_cons pe_int pa_nil))) (fun _ _ => rfl))) (po_some (pe_un un_neg pe_int)) po_none))) pss_nil)
      (pss_cons (ps_if (PW.pt (pw_and (pt_cmpR op_eq (pv 4) pe_int (nomark _)) (pw_and1 (pt_cmpR op_gt (pe_callB call_len_str (by rfl) B.len PySem.boot_len (pa_cons (pv 2) pa_nil)) pe_int (nomark _))))) (pss_one (ps_set (i := 2) scPartner.nd rfl (.inl rfl) (pe_slice sl_str (pv 2) (po_some pe_int) po_none))) pss_nil)
      (pss_one (ps_ret (pv 2))))))), ?_⟩
    refine ⟨_, rfl, z, rfl, for_it walk_signs (fun i σ H' => (∃ (y : Str) (y3 y4 : Option V), σ = [some (.ref a), some (.str z), some (.str y), y3, y4] ∧ Lets y i) ∧ PurseAt H' a ∧ SameX a H H')
      ⟨⟨"", _, _, rfl, lets_nil⟩, hA, SameX.refl a H⟩ (fun _ _ _ _ _ => trivial) ?_ ?_⟩
    · rintro i x σ Hq H1 hi ⟨⟨y, y3, y4, rfl, hy⟩, hA1, s1⟩ ⟨rfl, hx⟩
      unfold signsOf at hx hi
      rw [List.getElem?_map] at hx
      obtain ⟨c, hc, rfl⟩ := Option.map_eq_some_iff.mp hx
      have hcl : isLet c := (wd_codes.mp hz).2 c (List.mem_of_getElem? hc)
      rw [List.length_map, Array.length_toList] at hi
      have hi8 : i < 8 := by
        have : z.length = z.cps.size := rfl
        omega
      refine ⟨_, rfl, _, rfl, _, rfl, a, 5, rfl, hA1, by decide, by decide, fun u H2 u0 u1 hA2 s2 n2 => ?_⟩
      refine ⟨_, _, _, rfl, rfl, lz, abcde_at u0 u1, lz, fun p hpn => ⟨_, rfl, a, 2, rfl, hA2.same (same_new hpn), by decide, by decide, fun v H3 v0 v1 hA3 s3 n3 => ?_⟩⟩
      have npa := hA2.ne hpn
      obtain ⟨d, hd, hdi⟩ : ∃ d, isLet d ∧ atI [V.str (sign c), V.str (sign (97 + u.toNat))] v = some (.str (sign d)) := by
        rcases (show v = 0 ∨ v = 1 by omega) with rfl | rfl
        · exact ⟨c, hcl, atI_nat (j := 0) rfl⟩
        · exact ⟨97 + u.toNat, ⟨by omega, by omega⟩, atI_nat (j := 1) rfl⟩
      refine ⟨p, _, v, .str (sign d), rfl, rfl, .inl (.inl (s3 _ _ npa upd_same)), hdi, _, _, rfl, rfl, ?_, ⟨_, _, _, rfl, hy.snoc hd⟩, hA3, (s1.trans s2).trans ((sx (same_new hpn)).trans s3)⟩
      have : y.length = i := by rw [← codes_len]; exact hy.1
      have : (sign d).length = 1 := rfl
      exact lzl (by omega)
    · rintro σ H1 ⟨⟨y, y3, y4, rfl, hy⟩, hA1, s1⟩
      have en : (signsOf z).length = z.length := by simp [signsOf, Str.length]
      rw [en] at hy
      have hyl : y.length = z.length := by rw [← codes_len]; exact hy.1
      refine ⟨_, rfl, a, 8, rfl, hA1, by decide, by decide, fun u H2 u0 u1 hA2 s2 n2 => ?_⟩
      refine ⟨_, rfl, rfl, _, rfl, ?_⟩
      rw [int_dec]
      refine ite_b (fun e => ?_) (fun e => ?_)
      · have u00 : u = 0 := of_decide_eq_true e
        subst u00
        refine ⟨_, rfl, _, rfl, a, 5, rfl, hA2, by decide, by decide, fun v H3 v0 v1 hA3 s3 n3 => ⟨_, _, _, rfl, rfl, lz, abcde_at v0 v1, ?_⟩⟩
        have hs := hy.snoc (c := 97 + v.toNat) ⟨by omega, by omega⟩
        have hsl : (y ++ sign (97 + v.toNat)).length = z.length + 1 := by rw [← codes_len]; exact hs.1
        refine ⟨_, _, rfl, rfl, lzl (by rw [hyl]; show z.length + 1 ≤ 1000; omega), ?_⟩
        refine ⟨_, rfl, _, rfl, _, rfl, lzl (by show (y ++ sign (97 + v.toNat)).length ≤ 1000; omega), ?_⟩
        have hcut : IsWd (cutS (y ++ sign (97 + v.toNat)) (some (-8)) none) := by
          refine wd_codes.mpr ⟨?_, fun c hc => ?_⟩
          · rw [cut_from, List.length_drop, hs.1, hsl]
            have e8 : HT.sIx (z.length + 1) 0 (some (-8)) = ((-8 : Int) + ((z.length + 1 : Nat) : Int)).toNat := by
              unfold HT.sIx
              dsimp only
              rw [if_pos (by decide)]
            rw [e8]
            omega
          · rw [cut_from] at hc
            exact hs.2 c (List.mem_of_mem_drop hc)
        refine ⟨_, rfl, rfl, _, rfl, ?_⟩
        rw [int_dec]
        exact iteF (iteF ⟨_, rfl, q _ H3 hA3 (s1.trans (s2.trans s3)) hcut⟩)
      · refine ⟨_, rfl, rfl, _, rfl, ?_⟩
        rw [int_dec]
        refine ite_b (fun e1 => ?_) (fun e1 => ?_)
        · refine ⟨_, rfl, _, rfl, lzl (by omega), _, _, rfl, rfl, _, rfl, ite_b (fun e2 => ?_) (fun e2 => ?_)⟩
          · have h2 : 2 ≤ z.length := by
              have := of_decide_eq_true e2
              omega
            refine ⟨_, rfl, _, rfl, y, rfl, lzl (by omega), _, rfl, q _ H2 hA2 (s1.trans s2) (wd_codes.mpr ⟨?_, fun c hc => ?_⟩)⟩
            · have := HT.sIx_nat y.length 0 1
              rw [cut_from, List.length_drop, hy.1]
              rw [show HT.sIx y.length 0 (some 1) = min 1 y.length from this]
              omega
            · rw [cut_from] at hc
              exact hy.2 c (List.mem_of_mem_drop hc)
          · exact ⟨_, rfl, q _ H2 hA2 (s1.trans s2) (hy.wd z8.1 z8.2)⟩
        · exact iteF ⟨_, rfl, q _ H2 hA2 (s1.trans s2) (hy.wd z8.1 z8.2)⟩
end
end Wl

namespace Wl
open PySem PySem.Spec PyProof.Rows L2
abbrev sShift : Stmt := topW 34
abbrev abc : Str := "abcdefghijklmnopqrstuvwxyz"
def mv (st c : Nat) : Nat := 97 + (c - 97 + st) % 26
theorem mv_let (st c : Nat) : isLet (mv st c) := by
  unfold mv isLet
  omega
theorem mv_inj {st a b : Nat} (ha : isLet a) (hb : isLet b) (h : mv st a = mv st b) : a = b := by
  unfold mv at h
  unfold isLet at ha hb
  omega
def rSIdx : V → List V → Hp → VK → Prop := fun x xs H Q => ∃ a b i rest, x = .str a ∧ xs = [.str b] ∧ Builtin.Str.occurrences a b 0 a.length 1 = i :: rest ∧ Q (.int (i : Nat)) H
theorem occ_abc : ∀ k : Fin 26, Builtin.Str.occurrences abc (sign (97 + k.val)) 0 abc.length 1 = [k.val] := by decide +kernel
theorem occ_let {c : Nat} (h : isLet c) : Builtin.Str.occurrences abc (sign c) 0 abc.length 1 = (c - 97) :: [] := by
  unfold isLet at h
  have := occ_abc ⟨c - 97, by omega⟩
  rw [show 97 + (⟨c - 97, by omega⟩ : Fin 26).val = c by show 97 + (c - 97) = c; omega] at this
  exact this
/-- letters[(letters.index(sign) + step) % 26] -/
def tMv (K : PySem.W.Frag) : TE := tOp rIxS (tVar 2) (tOp (rI (fun _ j => 0 < j) fun i j => .int (i % j)) (tOp (rI0 fun i j => .int (i + j)) (tBM K "str" rSIdx (tVar 2) (tCons (tVar 6) tNil)) (tVar 3)) (tC (.int 26)))
theorem mv_reads {K : PySem.W.Frag} {σ : L2.St} {H : Hp} {Q : VK} {st c : Nat} (h2 : σ[2]? = some (some (.str abc))) (h3 : σ[3]? = some (some (.int (st : Int)))) (h6 : σ[6]? = some (some (sgV c))) (hc : isLet c) (q : Q (sgV (mv st c)) H) : tMv K σ H Q := by
  refine ⟨_, h2, _, h2, rfl, _, h6, abc, sign c, c - 97, [], rfl, rfl, occ_let hc, _, h3, _, _, rfl, rfl, _, _, rfl, rfl, (show (0 : Int) < 26 by decide), ?_⟩
  have b0 : 0 ≤ (((c - 97 : Nat) : Int) + (st : Int)) % 26 := Int.emod_nonneg _ (by decide)
  have b1 : (((c - 97 : Nat) : Int) + (st : Int)) % 26 < 26 := Int.emod_lt_of_pos _ (by decide)
  refine ⟨abc, _, _, rfl, rfl, lz, letter_at b0 b1, ?_⟩
  have e : 97 + ((((c - 97 : Nat) : Int) + (st : Int)) % 26).toNat = mv st c := by
    unfold mv
    omega
  rw [e]
  exact q
def mvV (st : Nat) : V → V
  | .str s => .str (ofC ((codes s).map (mv st)))
  | v => v
def mvC (st : Nat) (ch : Chg) : Chg := (mv st ch.1, mv st ch.2.1, ch.2.2)
def Mvd (H : Hp) (i : Nat) (acc : List V) : Prop := ∃ (z y : Str) (S : Addr) (chs : List Chg), IsWd z ∧ IsWd y ∧ acc = [.str z, .str y, .ref S].take i ∧ (i = 3 → ChAt H S chs ∧ OkCs chs)
theorem mv_wd {st : Nat} {z : Str} (h : IsWd z) : IsWd (ofC ((codes z).map (mv st))) := by
  obtain ⟨h1, h2⟩ := wd_codes.mp h
  refine wd_codes.mpr ⟨by rw [codes_ofC, List.length_map]; exact h1, fun c hc => ?_⟩
  rw [codes_ofC] at hc
  obtain ⟨d, _, rfl⟩ := List.mem_map.mp hc
  exact mv_let st d
theorem mv_ok {st : Nat} {chs : List Chg} (h : OkCs chs) : OkCs (chs.map (mvC st)) := by
  refine ⟨by rw [List.length_map]; exact h.1, fun ch hc => ?_⟩
  obtain ⟨c0, h0, rfl⟩ := List.mem_map.mp hc
  obtain ⟨o1, o2, o3⟩ := h.2 c0 h0
  exact ⟨mv_let _ _, mv_let _ _, fun e => o3 (mv_inj o1 o2 e)⟩
theorem each_tups {H5 H6 : Hp} {D : Addr} {st : Nat} : ∀ {ls : List Addr} {chs : List Chg} {zs : List V}, Each (fun (l : Addr) (ch : Chg) => l ≠ D ∧ H5 l = some (.lst (chV (mvC st ch)))) ls chs →
    Each (fun (x z : V) => ∀ l xs, x = .ref l → H5 l = some (.lst xs) → ∃ t, z = .ref t ∧ H6 t = some (.tup xs)) (ls.map V.ref) zs → ∃ ts : List Addr, zs = ts.map V.ref ∧ Each (fun (t : Addr) (ch : Chg) => H6 t = some (.tup (chV ch))) ts (chs.map (mvC st))
  | [], [], [], _, _ => ⟨[], rfl, .nil⟩
  | [], [], _ :: _, _, h => nomatch h
  | [], _ :: _, _, h, _ => nomatch h
  | _ :: _, [], _, h, _ => nomatch h
  | _ :: _, _ :: _, [], _, h => nomatch h
  | l :: ls, ch :: chs, z :: zs, .cons r t, .cons r' t' => by
    obtain ⟨ts, rfl, ht⟩ := each_tups t t'
    obtain ⟨u, rfl, hu⟩ := r' l _ rfl r.2
    exact ⟨u :: ts, rfl, .cons hu ht⟩
theorem purse_upd {H : Hp} {a R : Addr} {o : HO} (h : PurseAt H a) (n : R ≠ a) : PurseAt (upd H R o) a := by
  obtain ⟨x0, x1, x2, hx, hx1⟩ := h
  exact ⟨x0, x1, x2, by rw [upd_ne n.symm]; exact hx, hx1⟩
section
variable {P : Program} {w : World} {K : PySem.W.Frag} {mg : Str → Option Value} {base : Heap} {f : Addr} {fd : FuncData}
def spShift : Sp := fun vs H Q _ => ∃ (a M S : Addr) (z y : Str) (chs : List Chg), vs = [.ref a, .ref M] ∧ PurseAt H a ∧ M ≠ a ∧ H M = some (.lst [.str z, .str y, .ref S]) ∧ IsWd z ∧ IsWd y ∧ ChAt H S chs ∧ OkCs chs ∧
  ∀ (L S' : Addr) (z' y' : Str) (chs' : List Chg) (H' : Hp), PurseAt H' a → SameX a H H' → H' L = some (.lst [.str z', .str y', .ref S']) → IsWd z' → IsWd y' → ChAt H' S' chs' → OkCs chs' → Q (.ref L) H'
abbrev nShift : List Str := ["_law_purse_here", "_law_matters", "_law_letters", "_law_step", "_law_found", "_law_part", "_law_sign", "_law_moved", "_law_one"]
theorem scShift : FnScope nShift ["_law_purse_here", "_law_matters"] (defScope sShift) := ⟨rfl, rfl, rfl, by decide +kernel, rfl, by decide +kernel, by decide +kernel⟩
theorem ok_shift (F : Fun K "_law_shifted" "_law_shifted" sShift f fd) (B : Bi mg) (hp : Has P w K mg base "_law_pick" 1 ["_law_purse_here", "_law_many"] spPick) : FnOk P w K mg base CX0 2 f fd ["_law_purse_here", "_law_matters"] spShift := by
  refine F.ok scShift (fun vs H Q E h => ?_) (fun cdv A outer s H vs Q E hr h => ?_)
  · obtain ⟨a, M, S, z, y, chs, rfl, _⟩ := h
    rfl
  · obtain ⟨a, M, S, z, y, chs, rfl, hA, nMa, hM, hz, hy, hS, ok, q⟩ := h
    refine ⟨_, pss_cons (ps_asg (pe_tup (pa_cons pe_str (pa_cons (pe_op op_mul (pe_h hp hr (pa_cons (pv 0) (pa_cons pe_int pa_nil))) (pe_h hp hr (pa_cons (pv 0) (pa_cons pe_int pa_nil)))) pa_nil))) (pg_tup rfl (pgs_cons (pg_name (i := 2) scShift.nd rfl (.inr rfl)) (pgs_cons (pg_name (i := 3) scShift.nd rfl (.inr rfl)) pgs_nil))))
      (pss_cons (ps_set (i := 4) scShift.nd rfl (.inl rfl) (pe_lst pa_nil))
      (pss_cons (ps_for PassesOwn.never rfl (pi_list (pv 1)) (pg_name (i := 5) scShift.nd rfl (.inl rfl))
        (pss_one (ps_if (pt_val (pe_callB call_isi (by rfl) B.isi (by decide +kernel) (pa_cons (pv 5) (pa_cons (pe_bltn (v := .ty "str") (by rfl) B.str (by decide +kernel) rfl) pa_nil))))
          (pss_one (ps_expr (pe_bm PySem.F.plainAttrs_list PySem.F.slot_list_append PySem.F.type_list_append mt_append (pv 4) (pa_cons (pe_join pe_str (pe_lc (own := [("_law_sign", 6)]) (g := gName 6) (tt := tYes) (te := tMv K) rfl scShift.nd (pi_str (pv 5)) (blkOk_by (N := nShift) (sc := defScope sShift) (by decide +kernel))
            (fun _ _ _ _ _ => pg_name (i := 6) scShift.nd rfl (.inl rfl)) (fun _ _ _ _ _ => pts_nil) (fun _ _ _ _ _ => pe_ix ix_str (pv 2) (pe_op op_mod (pe_op op_add (pe_bm PySem.F.plainAttrs_str PySem.F.slot_str_index PySem.F.type_str_index mt_sindex (pv 2) (pa_cons (pv 6) pa_nil)) (pv 3)) pe_int) (fun _ _ => rfl)))) pa_nil))))
          (pss_cons (ps_setLc (i := 7) (own := [("_law_one", 8)]) (g := gName 8) (tt := tYes) (te := tOp rCat (tLc (iTup K (tSl (rSlT K) (tVar 8) tNoPart (tPart (tC (.int 2))))) (gName 6) tYes (tMv K) [6]) (tLst (tCons (tOp (rIxT K) (tVar 8) (tC (.int 2))) tNil))) rfl scShift.nd rfl rfl (sw_true rfl rfl rfl (by decide +kernel)) (pi_tup (pv 5)) (blkOk_by (N := nShift) (sc := defScope sShift) (by decide +kernel))
            (fun _ _ _ _ _ => pg_name (i := 8) scShift.nd rfl (.inl rfl)) (fun _ _ _ _ _ => pts_nil)
            (fun _ _ _ _ _ => pe_op op_cat (pe_lc (own := [("_law_sign", 6)]) (g := gName 6) (tt := tYes) (te := tMv K) rfl scShift.nd (pi_tup (pe_slice sl_tup (pv 8) po_none (po_some pe_int))) (blkOk_by (N := nShift) (sc := { kind := .function, names := [(".0", .local), ("_law_one", .local), ("_law_letters", .cell), ("_law_step", .cell)], isGenerator := false, isCoroutine := false }) (by decide +kernel))
              (fun _ _ _ _ _ => pg_name (i := 6) scShift.nd rfl (.inl rfl)) (fun _ _ _ _ _ => pts_nil) (fun _ _ _ _ _ => pe_ix ix_str (pv 2) (pe_op op_mod (pe_op op_add (pe_bm PySem.F.plainAttrs_str PySem.F.slot_str_index PySem.F.type_str_index mt_sindex (pv 2) (pa_cons (pv 6) pa_nil)) (pv 3)) pe_int) (fun _ _ => rfl)))
              (pe_lst (pa_cons (pe_ix ix_tup (pv 8) pe_int (fun _ _ => rfl)) pa_nil))))
          (pss_one (ps_expr (pe_bm PySem.F.plainAttrs_list PySem.F.slot_list_append PySem.F.type_list_append mt_append (pv 4) (pa_cons (pe_callTy call_tuple_of (by rfl) B.tuple (by decide +kernel) (pa_cons
            (pe_lc (own := [("_law_one", 8)]) (g := gName 8) (tt := tYes) (te := tCB (fun xs H Q => ∃ p ys, xs = [.ref p] ∧ ((SqL K H p ys ∧ ∀ l, H l = none → Q (.ref l) (upd H l (.tup ys))) ∨ (SqT K H p ys ∧ Q (.ref p) H))) (tCons (tVar 8) tNil)) rfl scShift.nd (pi_list (pv 7)) (blkOk_by (N := nShift) (sc := defScope sShift) (by decide +kernel))
              (fun _ _ _ _ _ => pg_name (i := 8) scShift.nd rfl (.inl rfl)) (fun _ _ _ _ _ => pts_nil) (fun _ _ _ _ _ => pe_callTy call_tuple_of (by rfl) B.tuple (by decide +kernel) (pa_cons (pv 8) pa_nil))) pa_nil)) pa_nil))))))))
      (pss_one (ps_ret (pv 4))))), ?_⟩
    refine ⟨_, rfl, a, 2, rfl, hA, by decide, by decide, fun u H1 u0 u1 hA1 s1 n1 => ⟨_, rfl, a, 26, rfl, hA1, by decide, by decide, fun v H2 v0 v1 hA2 s2 n2 => ⟨u, v, rfl, rfl, .inl ⟨by omega, by omega⟩, ?_⟩⟩⟩
    obtain ⟨st, est⟩ : ∃ st : Nat, u * v = (st : Int) := by
      rcases (show u = 0 ∨ u = 1 by omega) with rfl | rfl
      · exact ⟨0, by omega⟩
      · exact ⟨v.toNat, by omega⟩
    simp only [est]
    refine ⟨lz, fun t ht => ⟨t, _, rfl, .inl (.inl upd_same), rfl, _, _, rfl, _, _, rfl, rfl, ?_⟩⟩
    have hA3 := hA2.same (same_new (o := .tup [.str abc, .int (st : Int)]) ht)
    have s3 : SameX a H (upd H2 t (.tup [.str abc, .int (st : Int)])) := (s1.trans s2).trans (sx (same_new ht))
    generalize upd H2 t (.tup [.str abc, .int (st : Int)]) = H3 at hA3 s3
    refine ⟨lz, fun R hR => ?_⟩
    have nRa : R ≠ a := hA3.ne hR
    have hR0 : H R = none := SameX.free s3 nRa hR
    obtain ⟨ya, hya⟩ := hA.lst
    refine ⟨_, rfl, M, rfl, ⟨_, .inl (.inl ((same_new hR) _ _ (s3 _ _ nMa hM)))⟩, for_it (walk_list (K := K) (a := M) (xs := [.str z, .str y, .ref S])) (fun i σ H' => (∃ y5 y6 y7 y8, σ = [some (.ref a), some (.ref M), some (.str abc), some (.int (st : Int)), some (.ref R), y5, y6, y7, y8]) ∧ PurseAt H' a ∧ SameX a H H' ∧ ∃ acc, H' R = some (.lst acc) ∧ Mvd H' i acc)
      ⟨⟨_, _, _, _, rfl⟩, hA3.same (same_new hR), s3.trans (sx (same_new hR)), [], upd_same, z, y, S, chs, hz, hy, rfl, fun e => by omega⟩ (fun i σ H' _ h => .inl (.inl (h.2.2.1 _ _ nMa hM))) ?_ ?_⟩
    · rintro i x σ Hq H4 hi ⟨⟨y5, y6, y7, y8, rfl⟩, hA4, s4, acc, hR4, z', y', S', chs', hz', hy', eacc, hS'⟩ ⟨rfl, hx⟩
      have lacc : acc.length ≤ 3 := by
        rw [eacc]
        exact List.length_take_le' _ _
      have cs : (∃ w0, x = .str w0 ∧ IsWd w0 ∧ i < 2) ∨ (x = .ref S ∧ i = 2) := by
        match i, hi, hx with
        | 0, _, e => exact .inl ⟨z, (Option.some.inj e).symm, hz, by decide⟩
        | 1, _, e => exact .inl ⟨y, (Option.some.inj e).symm, hy, by decide⟩
        | 2, _, e => exact .inr ⟨(Option.some.inj e).symm, rfl⟩
      rcases cs with ⟨w0, rfl, hw, hi2⟩ | ⟨rfl, rfl⟩
      · have w8 := hw.len
        refine ⟨_, rfl, _, _, _, _, _, rfl, .ty "str", .base (.str w0), kit_ty (r := true) (by decide +kernel), true, rfl, iteT ?_⟩
        refine ⟨_, rfl, .inl ⟨rfl, _, .inl (.inl hR4)⟩, ⟨_, rfl⟩, _, rfl, w0, rfl, fun D hD => lc_map walk_signs hD (fun _ => true) (mvV st) (fun _ _ => trivial) (fun _ => rfl) (fun x H' _ _ Q' q' => q') ?_ ?_ ?_⟩
        · intro x H' hx _ _ Q' q'
          obtain ⟨c, hc, rfl⟩ := List.mem_map.mp hx
          exact mv_reads rfl rfl rfl ((wd_codes.mp hw).2 c hc) q'
        · unfold signsOf
          rw [List.length_map, Array.length_toList]
          exact small1000 (by have : w0.length = w0.cps.size := rfl; omega)
        · intro H5 s5 hD5
          have eD : ((signsOf w0).filter fun _ => true).map (mvV st) = (((codes w0).map (mv st)).map sign).map V.str := by
            rw [List.filter_eq_self.mpr fun _ _ => rfl]
            unfold signsOf
            rw [List.map_map, List.map_map, List.map_map]
            rfl
          rw [eD] at hD5
          refine ⟨_, D, ((codes w0).map (mv st)).map sign, rfl, rfl, .inl (.inl (.inl hD5)), ?_, ?_⟩
          · have e0 : ("" : Str).length = 0 := by decide +kernel
            have e1 : (((codes w0).map (mv st)).map sign).map (·.length) = ((codes w0).map (mv st)).map fun _ => 1 := by
              rw [List.map_map]
              rfl
            rw [e0, e1, Nat.mul_zero, ones_sum, List.length_map, codes_len]
            omega
          · have e2 : Txt.join ("" : Str) (((codes w0).map (mv st)).map sign) = ofC ((codes w0).map (mv st)) := str_ext (join_signs _)
            rw [e2]
            refine ⟨R, acc, _, rfl, rfl, s5 _ _ hR4, small1000 (by omega), ⟨_, _, _, _, rfl⟩, purse_upd (hA4.same s5) nRa, sameX_mut (s4.trans (sx s5)) hR0, _, upd_same, ?_⟩
            rcases (show i = 0 ∨ i = 1 by omega) with rfl | rfl
            · exact ⟨ofC ((codes w0).map (mv st)), y', S', chs', mv_wd hw, hy', by rw [eacc]; rfl, fun e => by omega⟩
            · exact ⟨z', ofC ((codes w0).map (mv st)), S', chs', hz', mv_wd hw, by rw [eacc]; rfl, fun e => by omega⟩
      · have hS4 : ChAt H4 S chs := hS.X hya s4
        obtain ⟨as, hSa, hE⟩ := hS4
        refine ⟨_, rfl, _, _, _, _, _, rfl, .ty "str", .base (.tup hSa), kit_ty (r := false) (by decide +kernel), false, rfl, iteF ?_⟩
        refine ⟨_, rfl, S, rfl, ⟨_, .inl (.inl hSa)⟩, fun D hD => lc_it (walk_tup (K := K) (a := S) (xs := as.map V.ref)) (fun j H' => Same H4 H' ∧ ∃ ls : List Addr, H' D = some (.lst (ls.map V.ref)) ∧ Each (fun (l : Addr) (ch : Chg) => l ≠ D ∧ H' l = some (.lst (chV (mvC st ch)))) ls (chs.take j))
          ⟨same_new hD, [], upd_same, by simpa using Each.nil⟩ (fun j H' _ h => .inl (.inl (h.1 _ _ hSa))) ?_ ?_⟩
        · rintro j x Hq H5 hj ⟨s5, ls, hD5, hE5⟩ ⟨rfl, hx⟩
          rw [List.getElem?_map] at hx
          obtain ⟨p, hp, rfl⟩ := Option.map_eq_some_iff.mp hx
          obtain ⟨⟨c1, c2, wh⟩, hch, hH⟩ := hE.get hp
          obtain ⟨o1, o2, o3⟩ := ok.2 _ (List.mem_of_getElem? hch)
          have hp5 := s5 _ _ hH
          refine ⟨rfl, yes_it ?_⟩
          refine ⟨_, rfl, 2, rfl, p, _, rfl, .inl (.inl hp5), ?_, fun tt htt => ?_⟩
          · intro q
            exact absurd (show HT.sIx 3 3 (some 2) = 3 from q.2) (by decide)
          have e2 : cutV (chV (c1, c2, wh)) none (some 2) = [sgV c1, sgV c2] := rfl
          rw [e2]
          have stt : Same H5 (upd H5 tt (.tup [sgV c1, sgV c2])) := same_new htt
          refine ⟨tt, rfl, ⟨_, .inl (.inl upd_same)⟩, fun D2 hD2 => lc_map (walk_tup (K := K) (a := tt) (xs := [sgV c1, sgV c2])) hD2 (fun _ => true) (mvV st) (fun H' s' => .inl (.inl (s' _ _ upd_same))) (fun _ => rfl) (fun x H' _ _ Q' q' => q') ?_ (small1000 (by simp)) ?_⟩
          · intro x H' hx _ _ Q' q'
            simp only [List.mem_cons, List.not_mem_nil, or_false] at hx
            rcases hx with rfl | rfl
            · exact mv_reads rfl rfl rfl o1 q'
            · exact mv_reads rfl rfl rfl o2 q'
          · intro H6 s6 hD6
            have s56 : Same H5 H6 := stt.trans s6
            refine ⟨_, rfl, p, _, 2, _, rfl, rfl, .inl (.inl (s56 _ _ hp5)), atI_nat (j := 2) rfl, lz, fun Bb hB => ⟨D2, Bb, _, _, rfl, rfl, (same_new hB) _ _ hD6, upd_same, lz, fun N hN => ?_⟩⟩
            have s57 : Same H5 (upd (upd H6 Bb (.lst [.str (whS wh)])) N (.lst (chV (mvC st (c1, c2, wh))))) := s56.trans ((same_new hB).trans (same_new hN))
            have hDn : (upd H6 Bb (.lst [.str (whS wh)])) D = some (.lst (ls.map V.ref)) := (same_new hB) _ _ (s56 _ _ hD5)
            have nND : N ≠ D := (ne_of_none hDn hN).symm
            refine ⟨ls.map V.ref, s57 _ _ hD5, ?_, same_mut (s5.trans s57) hD, ls ++ [N], ?_, ?_⟩
            · rw [List.length_map]
              have h1 := hE5.length
              have h2 : (chs.take j).length ≤ chs.length := List.length_take_le' _ _
              have h3 := ok.1
              exact small1000 (by omega)
            · rw [upd_same, List.map_append]
              rfl
            · rw [List.take_add_one, hch]
              refine Each.append (hE5.mono fun l ch e => ⟨e.1, (upd_ne e.1).trans (s57 _ _ e.2)⟩) (.cons ⟨nND, ?_⟩ .nil)
              rw [upd_ne nND]
              exact upd_same
        · rintro H5 ⟨s5, ls, hD5, hE5⟩
          have hE6 : Each (fun (l : Addr) (ch : Chg) => l ≠ D ∧ H5 l = some (.lst (chV (mvC st ch)))) ls chs := by
            have : chs.take (as.map V.ref).length = chs := by rw [List.length_map, hE.length, List.take_length]
            rw [this] at hE5
            exact hE5
          have hR5 := s5 _ _ hR4
          refine ⟨_, rfl, .inl ⟨rfl, _, .inl (.inl hR5)⟩, _, rfl, D, rfl, ⟨_, .inl (.inl hD5)⟩, fun D3 hD3 => lc_rel (walk_list (K := K) (a := D) (xs := ls.map V.ref)) hD3 (fun _ => true) (fun x y H' => ∀ l xs, x = .ref l → H5 l = some (.lst xs) → ∃ t, y = .ref t ∧ H' t = some (.tup xs)) (fun H' s' => .inl (.inl (s' _ _ hD5))) (fun _ => rfl) (fun x H' _ _ Q' q' => q') ?_ ?_ ?_ ?_⟩
          · intro x H' hx _ s' Q' q'
            obtain ⟨l, hl, rfl⟩ := List.mem_map.mp hx
            obtain ⟨jj, hjj, el⟩ := List.mem_iff_getElem.mp hl
            obtain ⟨ch, _, _, hl5⟩ := hE6.get (i := jj) (a := l) (by rw [List.getElem?_eq_getElem hjj, el])
            refine ⟨_, rfl, l, _, rfl, .inl ⟨.inl (.inl (s' _ _ hl5)), fun t ht => q' (.ref t) _ (same_new ht) ?_⟩⟩
            intro l' xs' e h
            cases e
            rw [hl5] at h
            cases h
            exact ⟨t, rfl, upd_same⟩
          · intro x y H' H'' acc' hD' s' r l xs e h
            obtain ⟨t, rfl, ht⟩ := r l xs e h
            exact ⟨t, rfl, s' t _ (ne_of ht hD' (by intro z; cases z)) ht⟩
          · rw [List.length_map]
            have h1 := hE6.length
            have h3 := ok.1
            exact small1000 (by omega)
          · intro zs H6 s6 hz6 ez
            rw [List.filter_eq_self.mpr fun _ _ => rfl] at ez
            obtain ⟨ts, rfl, hts⟩ := each_tups hE6 ez
            refine ⟨D3, _, rfl, .inl ⟨.inl (.inl hz6), fun T hT => ?_⟩⟩
            have hR6 : upd H6 T (.tup (ts.map V.ref)) R = some (.lst acc) := (same_new hT) _ _ (s6 _ _ hR5)
            have hts' : ChAt (upd H6 T (.tup (ts.map V.ref))) T (chs.map (mvC st)) := ⟨ts, upd_same, hts.mono fun t ch e => (same_new hT) _ _ e⟩
            have s46 : Same H4 (upd H6 T (.tup (ts.map V.ref))) := s5.trans (s6.trans (same_new hT))
            refine ⟨R, acc, _, rfl, rfl, hR6, small1000 (by omega), ⟨_, _, _, _, rfl⟩, purse_upd (hA4.same s46) nRa, sameX_mut (s4.trans (sx s46)) hR0, _, upd_same, z', y', T, chs.map (mvC st), hz', hy', by rw [eacc]; rfl, fun _ => ⟨?_, mv_ok ok⟩⟩
            exact hts'.keep fun p xs e => by
              rw [upd_ne (ne_of e hR6 (by intro z; cases z))]
              exact e
    · rintro σ H4 ⟨⟨y5, y6, y7, y8, rfl⟩, hA4, s4, acc, hR4, z', y', S', chs', hz', hy', eacc, hS'⟩
      obtain ⟨h1, h2⟩ := hS' rfl
      exact ⟨_, rfl, q R S' z' y' chs' H4 hA4 s4 (by rw [hR4, eacc]; rfl) hz' hy' h1 h2⟩
end
end Wl

namespace Wl
open PySem PySem.Spec PyProof.Rows L2
abbrev sRight : Stmt := topW 35
abbrev sPlain : Stmt := topW 36
def rLenT : List V → Hp → VK → Prop := fun xs H Q => ∃ z, xs = [.str z] ∧ z.length ≤ sizeLine ∧ Q (.int z.length) H
theorem bool_iff {a b : Bool} {p : Prop} (h : a = true ↔ p) (k : b = true ↔ p) : a = b := by
  cases a <;> cases b
  · rfl
  · exact absurd (h.mpr (k.mp rfl)) (by decide)
  · exact absurd (k.mpr (h.mp rfl)) (by decide)
  · rfl
theorem str_dec (a b : Str) : decide (V.str a = V.str b) = decide (a = b) := by
  by_cases h : a = b
  · subst h
    simp
  · rw [decide_eq_false h, decide_eq_false fun e => h (V.str.inj e)]
section
variable {P : Program} {w : World} {K : PySem.W.Frag} {mg : Str → Option Value} {base : Heap} {f : Addr} {fd : FuncData}
theorem due_reads {σ : L2.St} {H : Hp} {Q : VK} {z y : Str} {S : Addr} {chs : List Chg} (h0 : σ[0]? = some (some (.str z))) (h1 : σ[1]? = some (some (.str y))) (h2 : σ[2]? = some (some (.ref S))) (hz : IsWd z) (hy : IsWd y) (hS : ChAt H S chs) (ok : OkCs chs)
    (q : ∀ (due : Bool) (H' : Hp), Same H H' → (due = true ↔ OneP chs z y) → Q (.bl due) H') :
    tAndV (tOp rEq (tCB rLenT (tCons (tVar 0) tNil)) (tCB rLenT (tCons (tVar 1) tNil))) (tOp rEq (tCall spLMean [] E0 (tCons (tVar 2) (tCons (tVar 0) tNil))) (tCall spLMean [] E0 (tCons (tVar 2) (tCons (tVar 1) tNil)))) σ H Q := by
  have z8 := hz.len
  have y8 := hy.len
  refine ⟨_, h0, _, rfl, lzl (by omega), _, h1, _, rfl, lzl (by omega), rfl, _, rfl, ?_⟩
  rw [int_dec]
  refine ite_b (fun e => ?_) (fun e => ?_)
  · refine ⟨_, h2, _, h0, S, chs, z, rfl, hS, ok, hz, fun H1 s1 => ⟨_, h2, _, h1, S, chs, y, rfl, hS.same s1, ok, hy, fun H2 s2 => ⟨rfl, ?_⟩⟩⟩
    rw [str_dec]
    refine q _ H2 (s1.trans s2) ?_
    rw [decide_eq_true_iff, one_iff]
    have hl : (codes z).length = (codes y).length := by
      have := of_decide_eq_true e
      rw [codes_len, codes_len]
      omega
    exact ⟨fun h => ⟨hl, h⟩, fun h => h.2⟩
  · refine q false H (Same.refl H) ⟨(fun h => by cases h), fun o => ?_⟩
    have := o.1
    rw [codes_len, codes_len] at this
    exact absurd (by omega) (of_decide_eq_false e)
def spRight : Sp := fun vs H Q _ => ∃ (z y : Str) (S : Addr) (chs : List Chg), vs = [.str z, .str y, .ref S] ∧ IsWd z ∧ IsWd y ∧ ChAt H S chs ∧ OkCs chs ∧ ∀ (H' : Hp), Same H H' → Q (.bl true) H'
abbrev nRight : List Str := ["_law_one", "_law_two", "_law_some", "_law_due", "_law_told", "_law_truth", "_law_text", "_law_least", "_law_found"]
abbrev pRight : List Str := ["_law_one", "_law_two", "_law_some"]
theorem scRight : FnScope nRight pRight (defScope sRight) := ⟨rfl, rfl, rfl, by decide +kernel, rfl, by decide +kernel, by decide +kernel⟩
theorem ok_right (F : Fun K "_law_right" "_law_right" sRight f fd) (B : Bi mg) (B2 : Bw mg) (hL : Has P w K mg base "_law_meaning" 2 ["_law_turns_here", "_law_text_here"] spLMean)
    (hA : HasN P w K mg base "are_one" wAre 6 ps3 spAre) (hM : HasN P w K mg base "meaning" wMean 5 ps2 spMean) : FnOk P w K mg base CX0 7 f fd pRight spRight := by
  refine F.ok scRight (fun vs H Q E h => ?_) (fun cdv A outer s H vs Q E hr h => ?_)
  · obtain ⟨z, y, S, chs, rfl, _⟩ := h
    rfl
  · obtain ⟨z, y, S, chs, rfl, hz, hy, hS, ok, q⟩ := h
    obtain ⟨f1, fd1, F1, m1, N1⟩ := hA
    obtain ⟨f2, fd2, F2, m2, N2⟩ := hM
    have b1 := bind3 N1 (.inr rfl)
    obtain ⟨i3, k3⟩ := kwA3 N1
    obtain ⟨i1, k1⟩ := kwA1 N1
    have b2 := bindM2 N2
    obtain ⟨i2, k2⟩ := kwM2 N2
    have r6 : Room 6 (A.deeper (envOfC "_law_right" (defScope sRight) s.heap.objs.size f cdv)) := hr
    have r5 := r6.mono (show 5 ≤ 6 by decide)
    refine ⟨_, pss_cons (ps_set (i := 3) scRight.nd rfl (.inr rfl) (pe_and (pe_cmpR op_eq (pe_callB call_len_str (by rfl) B.len PySem.boot_len (pa_cons (pv 0) pa_nil)) (pe_callB call_len_str (by rfl) B.len PySem.boot_len (pa_cons (pv 1) pa_nil)) (nomark _))
        (pe_one (pe_cmpR op_eq (pe_h hL hr (pa_cons (pv 2) (pa_cons (pv 0) pa_nil))) (pe_h hL hr (pa_cons (pv 2) (pa_cons (pv 1) pa_nil))) (nomark _)))))
      (pss_cons (ps_set (i := 4) scRight.nd rfl (.inl rfl) (pe_lst (pa_cons (pe_call F1 r6 rfl m1 N1.kp b1 .nil pass0 (pa_cons (pv 0) (pa_cons (pv 1) (pa_cons (pv 2) pa_nil)))) (pa_cons (pe_call F1 r6 rfl m1 N1.kp b1 .nil pass0 (pa_cons (pv 1) (pa_cons (pv 0) (pa_cons (pv 2) pa_nil))))
        (pa_cons (pe_callN0 F1 r6 rfl m1 N1.kp k3 pass0 (pk_cons (pv 2) (pk_cons (pv 1) (pk_cons (pv 0) pk_nil)))) pa_nil)))))
      (pss_cons (ps_if (pt_not (pt_val (pe_callB (cr_all rfl) (by rfl) B.all (by decide +kernel) (pa_cons (pe_lc (own := [("_law_truth", 5)]) (g := gName 5) (tt := tYes) (te := tAndV (tCB (rIsi K) (tCons (tVar 5) (tCons (tC (.ty "bool")) tNil))) (tOp rEq (tVar 5) (tVar 3))) rfl scRight.nd
          (pi_list (pe_op op_cat (pv 4) (pe_lst (pa_cons (pe_callN F1 r6 rfl m1 N1.kp k1 pass0 (pa_cons (pv 0) (pa_cons (pv 1) pa_nil)) (pk_cons (pv 2) pk_nil)) pa_nil)))) (blkOk_by (N := nRight) (sc := defScope sRight) (by decide +kernel))
          (fun _ _ _ _ _ => pg_name (i := 5) scRight.nd rfl (.inl rfl)) (fun _ _ _ _ _ => pts_nil) (fun _ _ _ _ _ => pe_and (pe_callB call_isi (by rfl) B.isi (by decide +kernel) (pa_cons (pv 5) (pa_cons (pe_bltn (v := .ty "bool") (by rfl) B2.bool (by decide +kernel) rfl) pa_nil))) (pe_one (pe_cmpR op_eq (pv 5) (pv 3) (nomark _))))) pa_nil)))) (pss_one (ps_ret pe_bl)) pss_nil)
      (pss_cons (ps_for PassesOwn.never rfl (pi_list (pe_lst (pa_cons (pv 0) (pa_cons (pv 1) pa_nil)))) (pg_name (i := 6) scRight.nd rfl (.inl rfl))
        (pss_cons (ps_set (i := 7) scRight.nd rfl (.inl rfl) (pe_h hL hr (pa_cons (pv 2) (pa_cons (pv 6) pa_nil))))
        (pss_one (ps_for PassesOwn.never rfl (pi_list (pe_lst (pa_cons (pe_call F2 r5 rfl m2 N2.kp b2 .nil pass0 (pa_cons (pv 6) (pa_cons (pv 2) pa_nil))) (pa_cons (pe_callN0 F2 r5 rfl m2 N2.kp k2 pass0 (pk_cons (pv 2) (pk_cons (pv 6) pk_nil))) (pa_cons (pe_call F2 r5 rfl m2 N2.kp b2 .nil pass0 (pa_cons (pv 6) (pa_cons (pv 2) pa_nil))) pa_nil))))) (pg_name (i := 8) scRight.nd rfl (.inl rfl))
          (pss_one (ps_if (PW.pt (pw_or (pt_not (pt_val (pe_callB call_isi (by rfl) B.isi (by decide +kernel) (pa_cons (pv 8) (pa_cons (pe_bltn (v := .ty "str") (by rfl) B.str (by decide +kernel) rfl) pa_nil))))) (pw_or (pt_cmpR op_ne (pv 8) (pv 7) (nomark _)) (pw_or (pt_cmpR op_gt_str (pv 7) (pv 6) (nomark _))
            (pw_or1 (pt_cmpR op_notBl (pe_call F1 r6 rfl m1 N1.kp b1 .nil pass0 (pa_cons (pv 8) (pa_cons (pv 6) (pa_cons (pv 2) pa_nil)))) pe_bl (nomark _))))))) (pss_one (ps_ret pe_bl)) pss_nil))))))
      (pss_one (ps_ret pe_bl))))), ?_⟩
    have z8 := hz.len
    have y8 := hy.len
    have cv : ∀ {H' : Hp}, Same H H' → ChV H' (.ref S) chs := fun s' => .inr ⟨S, rfl, hS.same s'⟩
    refine due_reads (z := z) (y := y) (S := S) (chs := chs) (σ := start nRight [.str z, .str y, .ref S]) (H := H) rfl rfl rfl hz hy hS ok fun due H1 s1 i0 => ?_
    refine ⟨_, rfl, _, rfl, _, rfl, z, y, .ref S, chs, rfl, hz, hy, cv s1, ok, fun t1 H2 s2 e1 => ?_⟩
    refine ⟨_, rfl, _, rfl, _, rfl, y, z, .ref S, chs, rfl, hy, hz, cv (s1.trans s2), ok, fun t2 H3 s3 e2 => ?_⟩
    refine ⟨_, rfl, _, rfl, _, rfl, rfl, rfl, z, y, .ref S, chs, rfl, hz, hy, cv ((s1.trans s2).trans s3), ok, fun t3 H4 s4 e3 => ?_⟩
    have s04 : Same H H4 := ((s1.trans s2).trans s3).trans s4
    obtain rfl : t1 = due := bool_iff e1 i0
    obtain rfl : t2 = t1 := bool_iff e2 (i0.trans one_symm)
    obtain rfl : t3 = t2 := bool_iff e3 i0
    refine ⟨lz, fun T hT => ?_⟩
    have sT : Same H (upd H4 T (.lst [.bl t3, .bl t3, .bl t3])) := s04.trans (same_new hT)
    have hTT : (upd H4 T (.lst [.bl t3, .bl t3, .bl t3])) T = some (.lst [.bl t3, .bl t3, .bl t3]) := upd_same
    generalize upd H4 T (.lst [.bl t3, .bl t3, .bl t3]) = H5 at sT hTT
    refine ⟨_, rfl, _, rfl, _, rfl, _, rfl, rfl, rfl, z, y, .ref S, chs, rfl, hz, hy, cv sT, ok, fun t4 H6 s6 e4 => ?_⟩
    obtain rfl : t4 = t3 := bool_iff e4 i0
    refine ⟨lz, fun T2 hT2 => ⟨T, T2, _, _, rfl, rfl, (same_new hT2) _ _ (s6 _ _ hTT), upd_same, lz, fun T3 hT3 => ⟨T3, rfl, ⟨_, .inl (.inl upd_same)⟩, fun D hD => ?_⟩⟩⟩
    refine lc_map (walk_list (K := K) (a := T3) (xs := [.bl t4, .bl t4, .bl t4, .bl t4])) hD (fun _ => true) (fun _ => .bl true) (fun H' s' => .inl (.inl (s' _ _ upd_same))) (fun _ => rfl) (fun x H' _ _ Q' q' => q') ?_ (small1000 (by simp)) ?_
    · intro x H' hx _ _ Q' q'
      have hx : x = .bl t4 := by
        simp only [List.mem_cons, List.not_mem_nil, or_false] at hx
        rcases hx with h | h | h | h <;> exact h
      subst hx
      refine ⟨_, rfl, _, _, _, _, _, rfl, .ty "bool", .base (.bl t4), kit_ty (r := true) (by decide +kernel), true, rfl, iteT ⟨_, rfl, _, rfl, rfl, ?_⟩⟩
      rw [decide_eq_true rfl]
      exact q'
    · intro H7 s7 hD7
      have s07 : Same H H7 := (sT.trans s6).trans (((same_new hT2).trans (same_new hT3)).trans s7)
      refine ⟨D, [true, true, true, true], rfl, .inl (.inl hD7), true, rfl, iteF ?_⟩
      refine ⟨_, rfl, _, rfl, lz, fun L hL => ⟨L, rfl, ⟨_, .inl (.inl upd_same)⟩, ?_⟩⟩
      have sL : Same H (upd H7 L (.lst [.str z, .str y])) := s07.trans (same_new hL)
      have hL0 : H L = none := s07.free hL
      refine for_it (walk_list (K := K) (a := L) (xs := [.str z, .str y])) (fun i σ H' => (∃ y5 y6 y7 y8, σ = [some (.str z), some (.str y), some (.ref S), some (.bl t4), some (.ref T), y5, y6, y7, y8]) ∧ Same H H' ∧ H' L = some (.lst [.str z, .str y])) ⟨⟨_, _, _, _, rfl⟩, sL, upd_same⟩ (fun i σ H' _ h => .inl (.inl h.2.2)) ?_ ?_
      · rintro i x σ Hq H8 hi ⟨⟨y5, y6, y7, y8, rfl⟩, s8, hL8⟩ ⟨rfl, hx⟩
        obtain ⟨v, rfl, hv⟩ : ∃ v, x = .str v ∧ IsWd v := by
          have := List.mem_of_getElem? hx
          simp only [List.mem_cons, List.not_mem_nil, or_false] at this
          rcases this with rfl | rfl
          · exact ⟨z, rfl, hz⟩
          · exact ⟨y, rfl, hy⟩
        refine ⟨_, rfl, _, rfl, S, chs, v, rfl, hS.same s8, ok, hv, fun H9 s9 => ?_⟩
        refine ⟨_, rfl, _, rfl, v, .ref S, chs, rfl, hv, cv (s8.trans s9), ok, fun Ha sa => ?_⟩
        refine ⟨_, rfl, _, rfl, rfl, rfl, v, .ref S, chs, rfl, hv, cv ((s8.trans s9).trans sa), ok, fun Hb sb => ?_⟩
        refine ⟨_, rfl, _, rfl, v, .ref S, chs, rfl, hv, cv (((s8.trans s9).trans sa).trans sb), ok, fun Hc sc => ?_⟩
        have s8c : Same H8 Hc := (s9.trans sa).trans (sb.trans sc)
        refine ⟨lz, fun N hN => ⟨N, rfl, ⟨_, .inl (.inl upd_same)⟩, ?_⟩⟩
        refine for_it (walk_list (K := K) (a := N) (xs := [.str (mean chs v), .str (mean chs v), .str (mean chs v)])) (fun j σ H' => (∃ y8, σ = [some (.str z), some (.str y), some (.ref S), some (.bl t4), some (.ref T), y5, some (.str v), some (.str (mean chs v)), y8]) ∧ Same H8 H' ∧ H' N = some (.lst [.str (mean chs v), .str (mean chs v), .str (mean chs v)]))
          ⟨⟨_, rfl⟩, s8c.trans (same_new hN), upd_same⟩ (fun i σ H' _ h => .inl (.inl h.2.2)) ?_ ?_
        · rintro j x σ Hq' Hd hj ⟨⟨y8', rfl⟩, sd, hNd⟩ ⟨rfl, hx⟩
          obtain rfl : x = .str (mean chs v) := by
            have := List.mem_of_getElem? hx
            simp only [List.mem_cons, List.not_mem_nil, or_false] at this
            rcases this with h | h | h <;> exact h
          refine ⟨_, rfl, _, _, _, _, _, rfl, .ty "str", .base (.str _), kit_ty (r := true) (by decide +kernel), true, rfl, iteF ⟨_, rfl, _, rfl, rfl, _, rfl, ?_⟩⟩
          rw [decide_eq_true rfl]
          refine iteF ⟨_, rfl, _, rfl, _, _, rfl, rfl, _, rfl, ?_⟩
          rw [decide_eq_false (mean_le chs v)]
          refine iteF ⟨_, rfl, _, rfl, _, rfl, mean chs v, v, .ref S, chs, rfl, mean_wd ok.2 hv, hv, cv (s8.trans sd), ok, fun b He se eb => ⟨b, true, rfl, rfl, _, rfl, ?_⟩⟩
          have : b = true := eb.mpr (one_mean chs v)
          subst this
          rw [decide_eq_true rfl]
          exact iteF ⟨⟨_, rfl⟩, sd.trans se, se _ _ hNd⟩
        · rintro σ Hd ⟨⟨y8', rfl⟩, sd, hNd⟩
          exact ⟨⟨_, _, _, _, rfl⟩, s8.trans sd, sd _ _ hL8⟩
      · rintro σ H8 ⟨⟨y5, y6, y7, y8, rfl⟩, s8, hL8⟩
        exact q H8 s8
end
end Wl

namespace Wl
open PySem PySem.Spec PyProof.Rows L2
section
variable {P : Program} {w : World} {K : PySem.W.Frag} {mg : Str → Option Value} {base : Heap} {f : Addr} {fd : FuncData}
theorem shaped_bls (a b c d : Bool) : SeqAt.shaped (.list [.bool a, .bool b, .bool c, .bool d]) = true := by
  revert a b c d
  decide +kernel
theorem shaped_wds {z : Str} (hz : IsWd z) : SeqAt.shaped (.list [.str z, .str z, .str z, .str z]) = true := by
  refine shaped_list ?_ ?_
  · exact lay_strs (ws := [z, z, z, z]) fun x hx => by
      simp only [List.mem_cons, List.not_mem_nil, or_false] at hx
      rcases hx with rfl | rfl | rfl | rfl <;> exact hz
  · have := depth_strs [z, z, z, z]
    have e : PyData.depthAll [PyData.str z, PyData.str z, PyData.str z, PyData.str z] = 0 := this
    omega
theorem dp_bls {H : Hp} {p : Addr} {a b c d : Bool} (h : H p = some (.lst [.bl a, .bl b, .bl c, .bl d])) : Dp K H (.ref p) (.list [.bool a, .bool b, .bool c, .bool d]) :=
  .lst (.inl (.inl h)) (.cons (.bl a) (.cons (.bl b) (.cons (.bl c) (.cons (.bl d) .nil))))
theorem dp_wds {H : Hp} {p : Addr} {z : Str} (h : H p = some (.lst [.str z, .str z, .str z, .str z])) : Dp K H (.ref p) (.list [.str z, .str z, .str z, .str z]) :=
  .lst (.inl (.inl h)) (.cons (.str z) (.cons (.str z) (.cons (.str z) (.cons (.str z) .nil))))
theorem eqv_bls (a : Bool) : PyData.eqv (.list [.bool a, .bool a, .bool a, .bool a]) (.list [.bool a, .bool a, .bool a, .bool a]) = true := by
  revert a
  decide +kernel
theorem eqv_wds (z : Str) : PyData.eqv (.list [.str z, .str z, .str z, .str z]) (.list [.str z, .str z, .str z, .str z]) = true := by
  simp [PyData.eqv, PyData.eqvAll]
def spPlain : Sp := fun vs H Q _ => ∃ (z y : Str), vs = [.str z, .str y] ∧ IsWd z ∧ IsWd y ∧ ∀ (H' : Hp), Same H H' → Q (.bl true) H'
abbrev nPlain : List Str := ["_law_one", "_law_two", "_law_told"]
abbrev pPlain : List Str := ["_law_one", "_law_two"]
theorem scPlain : FnScope nPlain pPlain (defScope sPlain) := ⟨rfl, rfl, rfl, by decide +kernel, rfl, by decide +kernel, by decide +kernel⟩
theorem ok_plain (F : Fun K "_law_plain_right" "_law_plain_right" sPlain f fd)
    (hA : HasN P w K mg base "are_one" wAre 6 ps3 spAre) (hM : HasN P w K mg base "meaning" wMean 5 ps2 spMean) : FnOk P w K mg base CX0 7 f fd pPlain spPlain := by
  refine F.ok scPlain (fun vs H Q E h => ?_) (fun cdv A outer s H vs Q E hr h => ?_)
  · obtain ⟨z, y, rfl, _⟩ := h
    rfl
  · obtain ⟨z, y, rfl, hz, hy, q⟩ := h
    obtain ⟨f1, fd1, F1, m1, N1⟩ := hA
    obtain ⟨f2, fd2, F2, m2, N2⟩ := hM
    have b1 := bind3 N1 (.inr rfl)
    obtain ⟨d1, v1, b12⟩ := bindA2 N1
    obtain ⟨i3, k3⟩ := kwA2 N1
    have b2 := bindM2 N2
    obtain ⟨d2, v2, b21⟩ := bindM1 N2
    obtain ⟨i2, k2⟩ := kwM1 N2
    have r6 : Room 6 (A.deeper (envOfC "_law_plain_right" (defScope sPlain) s.heap.objs.size f cdv)) := hr
    have r5 := r6.mono (show 5 ≤ 6 by decide)
    refine ⟨_, pss_cons (ps_set (i := 2) scPlain.nd rfl (.inl rfl) (pe_lst (pa_cons (pe_call F1 r6 rfl m1 N1.kp b12 v1 pass0 (pa_cons (pv 0) (pa_cons (pv 1) pa_nil))) (pa_cons (pe_callN0 F1 r6 rfl m1 N1.kp k3 pass0 (pk_cons (pv 0) (pk_cons (pv 1) pk_nil)))
        (pa_cons (pe_call F1 r6 rfl m1 N1.kp b1 .nil pass0 (pa_cons (pv 0) (pa_cons (pv 1) (pa_cons pe_non pa_nil)))) (pa_cons (pe_call F1 r6 rfl m1 N1.kp b1 .nil pass0 (pa_cons (pv 0) (pa_cons (pv 1) (pa_cons (pe_tup pa_nil) pa_nil)))) pa_nil))))))
      (pss_cons (ps_if (PW.pt (pw_or (pt_cmpR (op_neD hr.units) (pv 2) (pe_op op_rep (pe_lst (pa_cons (pe_cmpR op_eq (pv 0) (pv 1) (nomark _)) pa_nil)) pe_int) (nomark _)) (pw_or1 (pt_cmpR op_notBl (pe_call F1 r6 rfl m1 N1.kp b12 v1 pass0 (pa_cons (pv 0) (pa_cons (pv 0) pa_nil))) pe_bl (nomark _))))) (pss_one (ps_ret pe_bl)) pss_nil)
      (pss_one (ps_ret (pe_cmpR (op_eqD hr.units) (pe_lst (pa_cons (pe_call F2 r5 rfl m2 N2.kp b21 v2 pass0 (pa_cons (pv 0) pa_nil)) (pa_cons (pe_callN0 F2 r5 rfl m2 N2.kp k2 pass0 (pk_cons (pv 0) pk_nil)) (pa_cons (pe_call F2 r5 rfl m2 N2.kp b2 .nil pass0 (pa_cons (pv 0) (pa_cons (pe_tup pa_nil) pa_nil))) (pa_cons (pe_call F2 r5 rfl m2 N2.kp b2 .nil pass0 (pa_cons (pv 0) (pa_cons pe_non pa_nil))) pa_nil)))))
        (pe_op op_rep (pe_lst (pa_cons (pv 0) pa_nil)) pe_int) (nomark _))))), ?_⟩
    have cn : ∀ {H' : Hp}, ChV H' .non [] := .inl ⟨rfl, rfl⟩
    have ok : OkCs [] := ⟨Nat.zero_le _, fun ch hc => by cases hc⟩
    have ct : ∀ {H' : Hp} {p : Addr}, H' p = some (.tup []) → ChV H' (.ref p) [] := fun {H' p} h => .inr ⟨p, rfl, [], h, .nil⟩
    refine ⟨_, rfl, _, rfl, z, y, .non, [], rfl, hz, hy, cn, ok, fun t1 H1 s1 e1 => ?_⟩
    refine ⟨_, rfl, _, rfl, rfl, rfl, z, y, .non, [], rfl, hz, hy, cn, ok, fun t2 H2 s2 e2 => ?_⟩
    refine ⟨_, rfl, _, rfl, z, y, .non, [], rfl, hz, hy, cn, ok, fun t3 H3 s3 e3 => ?_⟩
    refine ⟨_, rfl, _, rfl, lz, fun Tt hTt => ⟨z, y, .ref Tt, [], rfl, hz, hy, ct upd_same, ok, fun t4 H4 s4 e4 => ?_⟩⟩
    have s04 : Same H H4 := ((s1.trans s2).trans s3).trans ((same_new hTt).trans s4)
    have i0 : decide (z = y) = true ↔ OneP [] z y := by rw [decide_eq_true_iff, one_plain]
    obtain rfl : t1 = decide (z = y) := bool_iff e1 i0
    obtain rfl : t2 = decide (z = y) := bool_iff e2 i0
    obtain rfl : t3 = decide (z = y) := bool_iff e3 i0
    obtain rfl : t4 = decide (z = y) := bool_iff e4 i0
    have eb : decide (V.str z = V.str y) = decide (z = y) := str_dec z y
    generalize decide (z = y) = b at eb
    clear e1 e2 e3 e4 i0
    refine ⟨lz, fun T hT => ?_⟩
    have sT : Same H (upd H4 T (.lst [.bl b, .bl b, .bl b, .bl b])) := s04.trans (same_new hT)
    have hTT : (upd H4 T (.lst [.bl b, .bl b, .bl b, .bl b])) T = some (.lst [.bl b, .bl b, .bl b, .bl b]) := upd_same
    generalize upd H4 T (.lst [.bl b, .bl b, .bl b, .bl b]) = H5 at sT hTT
    refine ⟨_, rfl, _, rfl, _, rfl, rfl, ?_⟩
    rw [eb]
    refine ⟨lz, fun p1 h1 => ⟨p1, 4, _, rfl, rfl, upd_same, by decide, by decide, lz, fun p2 h2 => ?_⟩⟩
    have sp : Same H5 (upd (upd H5 p1 (.lst [.bl b])) p2 (.lst (List.replicate (4 : Int).toNat [.bl b]).flatten)) := (same_new h1).trans (same_new h2)
    refine ⟨_, _, dp_bls (sp _ _ hTT), dp_bls (show (upd (upd H5 p1 (.lst [.bl b])) p2 (.lst (List.replicate (4 : Int).toNat [.bl b]).flatten)) p2 = some (.lst [.bl b, .bl b, .bl b, .bl b]) from upd_same), shaped_bls _ _ _ _, shaped_bls _ _ _ _, _, rfl, ?_⟩
    rw [eqv_bls]
    refine iteF ⟨_, rfl, _, rfl, z, z, .non, [], rfl, hz, hz, cn, ok, fun t6 H6 s6 e6 => ⟨t6, true, rfl, rfl, _, rfl, ?_⟩⟩
    have : t6 = true := e6.mpr (one_plain.mpr rfl)
    subst this
    rw [decide_eq_true rfl]
    have s06 := (sT.trans sp).trans s6
    refine iteF ⟨_, rfl, z, .non, [], rfl, hz, cn, ok, fun Ha sa => ?_⟩
    rw [mean_plain]
    refine ⟨_, rfl, rfl, rfl, z, .non, [], rfl, hz, cn, ok, fun Hb sb => ?_⟩
    rw [mean_plain]
    refine ⟨_, rfl, lz, fun Tu hTu => ⟨z, .ref Tu, [], rfl, hz, ct upd_same, ok, fun Hc sc => ?_⟩⟩
    rw [mean_plain]
    refine ⟨_, rfl, z, .non, [], rfl, hz, cn, ok, fun Hd sd => ?_⟩
    rw [mean_plain]
    have s0d : Same H Hd := s06.trans ((sa.trans sb).trans (((same_new hTu).trans sc).trans sd))
    refine ⟨lz, fun M hM => ⟨_, rfl, lz, fun p3 h3 => ⟨p3, 4, _, rfl, rfl, upd_same, by decide, by decide, lz, fun p4 h4 => ?_⟩⟩⟩
    have sM : Same (upd Hd M (.lst [.str z, .str z, .str z, .str z])) (upd (upd (upd Hd M (.lst [.str z, .str z, .str z, .str z])) p3 (.lst [.str z])) p4 (.lst (List.replicate (4 : Int).toNat [.str z]).flatten)) := (same_new h3).trans (same_new h4)
    refine ⟨_, _, dp_wds (sM _ _ upd_same), dp_wds (show (upd (upd (upd Hd M (.lst [.str z, .str z, .str z, .str z])) p3 (.lst [.str z])) p4 (.lst (List.replicate (4 : Int).toNat [.str z]).flatten)) p4 = some (.lst [.str z, .str z, .str z, .str z]) from upd_same), shaped_wds hz, shaped_wds hz, ?_⟩
    rw [eqv_wds]
    exact q _ (s0d.trans ((same_new hM).trans sM))
end
end Wl

namespace Wl
open PySem PySem.Spec PyProof.Rows L2
abbrev sLaw : Stmt := topW 37
theorem same_x {H0 H1 H2 : Hp} {a : Addr} (s : Same H0 H1) (x : SameX a H1 H2) (h : H0 a = none) : Same H0 H2 := fun b o e => x b o (ne_of_none e h) (s b o e)
/-- a thing of the odd ones -/
def OddV (H : Hp) (v : V) : Prop := (∃ z, v = .str z ∧ z.length ≤ 1000) ∨ v = .non ∨ (∃ b, v = .bl b) ∨ (∃ i, v = .int i) ∨ ∃ p, v = .ref p ∧ ((∃ xs, H p = some (.tup xs)) ∨ (∃ xs, H p = some (.lst xs)) ∨ ∃ kvs, H p = some (.dK kvs))
theorem OddV.same {H H' : Hp} {v : V} (h : OddV H v) (s : Same H H') : OddV H' v := by
  rcases h with h | h | h | h | ⟨p, e, ⟨xs, h⟩ | ⟨xs, h⟩ | ⟨xs, h⟩⟩
  · exact .inl h
  · exact .inr (.inl h)
  · exact .inr (.inr (.inl h))
  · exact .inr (.inr (.inr (.inl h)))
  · exact .inr (.inr (.inr (.inr ⟨p, e, .inl ⟨xs, s _ _ h⟩⟩)))
  · exact .inr (.inr (.inr (.inr ⟨p, e, .inr (.inl ⟨xs, s _ _ h⟩)⟩)))
  · exact .inr (.inr (.inr (.inr ⟨p, e, .inr (.inr ⟨xs, s _ _ h⟩)⟩)))
def wvB : V → Bool
  | .str z => wdB z
  | _ => false
theorem OddV.wv {K : PySem.W.Frag} {H : Hp} {v : V} (h : OddV H v) : Wv K H v (wvB v) := by
  rcases h with ⟨z, e, h⟩ | h | ⟨b, h⟩ | ⟨i, h⟩ | ⟨p, e, ⟨xs, h⟩ | ⟨xs, h⟩ | ⟨xs, h⟩⟩
  · subst e
    exact .inl ⟨z, rfl, h, rfl⟩
  · subst h
    exact .inr ⟨_, .base .non, kit_ty (r := false) (by decide +kernel), rfl⟩
  · subst h
    exact .inr ⟨_, .base (.bl b), kit_ty (r := false) (by decide +kernel), rfl⟩
  · subst h
    exact .inr ⟨_, .base (.int i), kit_ty (r := false) (by decide +kernel), rfl⟩
  · subst e
    exact .inr ⟨_, .base (.tup h), kit_ty (r := false) (by decide +kernel), rfl⟩
  · subst e
    exact .inr ⟨_, .base (.lst h), kit_ty (r := false) (by decide +kernel), rfl⟩
  · subst e
    exact .inr ⟨_, .base (.dK h), kit_ty (r := false) (by decide +kernel), rfl⟩
def OddL (H : Hp) (xs : List V) : Prop := ∀ v ∈ xs, OddV H v
theorem OddL.same {H H' : Hp} {xs : List V} (h : OddL H xs) (s : Same H H') : OddL H' xs := fun v hv => (h v hv).same s
theorem OddL.app {H : Hp} {xs ys : List V} (h : OddL H xs) (k : OddL H ys) : OddL H (xs ++ ys) := fun v hv => by
  rcases List.mem_append.mp hv with hv | hv
  · exact h v hv
  · exact k v hv
theorem oddL_nil {H : Hp} : OddL H [] := fun v hv => by cases hv
theorem OddL.cons {H : Hp} {v : V} {xs : List V} (h : OddV H v) (k : OddL H xs) : OddL H (v :: xs) := fun u hu => by
  rcases List.mem_cons.mp hu with rfl | hu
  · exact h
  · exact k u hu
theorem odd_s {H : Hp} {z : Str} (h : Nat.ble z.length 1000 = true := by decide +kernel) : OddV H (.str z) := .inl ⟨z, rfl, Nat.le_of_ble_eq_true h⟩
theorem odd_n {H : Hp} : OddV H .non := .inr (.inl rfl)
theorem odd_b {H : Hp} {b : Bool} : OddV H (.bl b) := .inr (.inr (.inl ⟨b, rfl⟩))
theorem odd_i {H : Hp} {i : Int} : OddV H (.int i) := .inr (.inr (.inr (.inl ⟨i, rfl⟩)))
theorem odd_t {H : Hp} {p : Addr} {xs : List V} (h : H p = some (.tup xs)) : OddV H (.ref p) := .inr (.inr (.inr (.inr ⟨p, rfl, .inl ⟨xs, h⟩⟩)))
theorem odd_l {H : Hp} {p : Addr} {xs : List V} (h : H p = some (.lst xs)) : OddV H (.ref p) := .inr (.inr (.inr (.inr ⟨p, rfl, .inr (.inl ⟨xs, h⟩)⟩)))
theorem odd_d {H : Hp} {p : Addr} {xs : List (Key × V)} (h : H p = some (.dK xs)) : OddV H (.ref p) := .inr (.inr (.inr (.inr ⟨p, rfl, .inr (.inr ⟨xs, h⟩)⟩)))
abbrev od1 : List V := [.non, .bl true, .bl false, .int 0, .int 7, .str "", .str "a", .str "z", .str "abcdefgh", .str "abcdefghi", .str "A", .str "aB", .str "a b", .str " a"]
abbrev od2 : List V := [.str "a ", .str "a1", .str "a-", .str "a\n"]
abbrev od3 (t1 t2 l1 d1 l2 d2 t4 : Addr) : List V := [.str "-", .str ".", .str "?", .ref t1, .ref t2, .ref l1, .ref d1, .ref l2, .ref d2, .ref t4, .str "any", .str "first", .str "self"]
abbrev od4 : List V := [.int ((10 : Int) ^ (20 : Int).toNat), .str "aaaaaaaa"]
theorem od3_ok {H : Hp} {t1 t2 l1 d1 l2 d2 t4 : Addr} (h1 : OddV H (.ref t1)) (h2 : OddV H (.ref t2)) (h3 : OddV H (.ref l1)) (h4 : OddV H (.ref d1)) (h5 : OddV H (.ref l2)) (h6 : OddV H (.ref d2)) (h7 : OddV H (.ref t4)) : OddL H (od3 t1 t2 l1 d1 l2 d2 t4) :=
  .cons odd_s (.cons odd_s (.cons odd_s (.cons h1 (.cons h2 (.cons h3 (.cons h4 (.cons h5 (.cons h6 (.cons h7 (.cons odd_s (.cons odd_s (.cons odd_s oddL_nil))))))))))))
theorem od4_ok {H : Hp} : OddL H od4 := .cons odd_i (.cons odd_s oddL_nil)
theorem od12 {H : Hp} : OddL H (od1 ++ od2) := .cons odd_n (.cons odd_b (.cons odd_b (.cons odd_i (.cons odd_i (.cons odd_s (.cons odd_s (.cons odd_s (.cons odd_s (.cons odd_s (.cons odd_s (.cons odd_s (.cons odd_s (.cons odd_s (.cons odd_s (.cons odd_s (.cons odd_s (.cons odd_s oddL_nil)))))))))))))))))
def gK1 {α : Type} (us ws : List α) : List α := us ++ ws
def HasK (P : Program) (w : World) (K : PySem.W.Frag) (mg : Str → Option Value) (base : Heap) (x : Str) (k : Nat) (p : Str) (sp : Sp) : Prop :=
  ∃ f fd, FnOk P w K mg base CX0 k f fd [p] sp ∧ mg x = some (.ref f) ∧ PySem.W.keepIn K (.ref f) = true ∧ Binds K fd [p] [] ∧ KBn K fd [p] 0 [p] gK1 gK1
section
variable {P : Program} {w : World} {K : PySem.W.Frag} {mg : Str → Option Value} {base : Heap} {f : Addr} {fd : FuncData}
def spLaw (K : PySem.W.Frag) : Sp := fun vs H Q _ => ∃ (a : Addr) (ns : List Int), vs = [.ref a] ∧ SqL K H a (ns.map V.int) ∧ ns.length ≤ 63 ∧ ∀ H', Q (.bl true) H'
abbrev nLaw : List Str := ["_law_script", "_law_odd", "_law_matter", "_law_told", "_law_k", "_law_purse_here", "_law_most", "_law_one", "_law_two", "_law_some"]
theorem scLaw : FnScope nLaw ["_law_script"] (defScope sLaw) := ⟨rfl, rfl, rfl, by decide +kernel, rfl, by decide +kernel, by decide +kernel⟩
theorem ok_law (F : Fun K "law" "law" sLaw f fd) (B : Bi mg) (B2 : Bw mg) (hI : HasK P w K mg base "is_word" 1 "thing" (spIsW K)) (hLI : Has P w K mg base "_law_is_word" 1 ["_law_matter"] (spIsW K))
    (hCell : Has P w K mg base "_law_cell" 1 ["_law_script", "_law_k"] (spCell K)) (hPurse : Has P w K mg base "_law_purse" 1 ["_law_cell_here"] spPurse) (hPick : Has P w K mg base "_law_pick" 1 ["_law_purse_here", "_law_many"] spPick)
    (hWord : Has P w K mg base "_law_word" 2 ["_law_purse_here"] spWord) (hPart : Has P w K mg base "_law_partner" 2 ["_law_purse_here", "_law_first"] spPartner) (hChg : Has P w K mg base "_law_changes" 2 ["_law_purse_here", "_law_most"] spChanges)
    (hSh : Has P w K mg base "_law_shifted" 2 ["_law_purse_here", "_law_matters"] spShift) (hRi : Has P w K mg base "_law_right" 7 pRight spRight) (hPl : Has P w K mg base "_law_plain_right" 7 pPlain spPlain) : FnOk P w K mg base CX0 8 f fd ["_law_script"] (spLaw K) := by
  obtain ⟨f1, fd1, F1, m1, kp1, b1, k1⟩ := hI
  have hI : Has P w K mg base "is_word" 1 ["thing"] (spIsW K) := ⟨f1, fd1, F1, m1, kp1, b1⟩
  refine F.ok scLaw (fun vs H Q E h => ?_) (fun cdv A outer s H vs Q E hr h => ?_)
  · obtain ⟨a, ns, rfl, _⟩ := h
    rfl
  · obtain ⟨a, ns, rfl, hS, hlen, q⟩ := h
    have r1 : Room 1 (A.deeper (envOfC "law" (defScope sLaw) s.heap.objs.size f cdv)) := hr.mono (by decide)
    refine ⟨_, pss_cons (ps_set (i := 1) scLaw.nd rfl (.inl rfl) (pe_lst (pa_cons pe_non (pa_cons pe_bl (pa_cons pe_bl (pa_cons pe_int (pa_cons pe_int (pa_cons pe_str (pa_cons pe_str (pa_cons pe_str (pa_cons pe_str (pa_cons pe_str (pa_cons pe_str (pa_cons pe_str (pa_cons pe_str (pa_cons pe_str pa_nil))))))))))))))))
      (pss_cons (ps_set (i := 1) scLaw.nd rfl (.inl rfl) (pe_op op_cat (pv 1) (pe_lst (pa_cons pe_str (pa_cons pe_str (pa_cons pe_str (pa_cons pe_str pa_nil)))))))
      (pss_cons (ps_set (i := 1) scLaw.nd rfl (.inl rfl) (pe_op op_cat (pv 1) (pe_lst (pa_cons pe_str (pa_cons pe_str (pa_cons pe_str (pa_cons (pe_tup pa_nil) (pa_cons (pe_tup (pa_cons pe_str pa_nil)) (pa_cons (pe_lst (pa_cons pe_str pa_nil)) (pa_cons pe_dnewK (pa_cons (pe_lst pa_nil) (pa_cons (pe_disp (pps_cons pe_str pe_int pps_nil) rfl rfl (by simp) (by decide)) (pa_cons (pe_tup (pa_cons (pe_tup (pa_cons pe_str pa_nil)) pa_nil)) (pa_cons pe_str (pa_cons pe_str (pa_cons pe_str pa_nil))))))))))))))))
      (pss_cons (ps_set (i := 1) scLaw.nd rfl (.inl rfl) (pe_op op_cat (pv 1) (pe_lst (pa_cons (pe_op op_pow pe_int pe_int) (pa_cons (pe_op op_mulA pe_str pe_int) pa_nil)))))
      (pss_cons (ps_for PassesOwn.never rfl (pi_list (pv 1)) (pg_name (i := 2) scLaw.nd rfl (.inl rfl))
        (pss_one (ps_for PassesOwn.never rfl (pi_list (pe_lst (pa_cons (pe_h hI hr (pa_cons (pv 2) pa_nil)) (pa_cons (pe_callN0 F1 r1 rfl m1 kp1 k1 pass0 (pk_cons (pv 2) pk_nil)) pa_nil)))) (pg_name (i := 3) scLaw.nd rfl (.inl rfl))
          (pss_one (ps_if (PW.pt (pw_or (pt_not (pt_val (pe_callB call_isi (by rfl) B.isi (by decide +kernel) (pa_cons (pv 3) (pa_cons (pe_bltn (v := .ty "bool") (by rfl) B2.bool (by decide +kernel) rfl) pa_nil))))) (pw_or1 (pt_cmpR op_ne (pv 3) (pe_h hLI hr (pa_cons (pv 2) pa_nil)) (nomark _))))) (pss_one (ps_ret pe_bl)) pss_nil)))))
      (pss_cons (ps_for PassesOwn.never rfl (pi_range1 rfl B.range (pa_cons (pe_callB (call_max2 rfl) (by rfl) B.max (by decide +kernel) (pa_cons pe_int (pa_cons (pe_callB (call_min2 rfl) (by rfl) B.min (by decide +kernel) (pa_cons pe_int (pa_cons (pe_callB call_len_seq (by rfl) B.len PySem.boot_len (pa_cons (pv 0) pa_nil)) pa_nil))) pa_nil))) pa_nil)) (pg_name (i := 4) scLaw.nd rfl (.inl rfl))
        (pss_cons (ps_set (i := 5) scLaw.nd rfl (.inl rfl) (pe_h hPurse hr (pa_cons (pe_h hCell hr (pa_cons (pv 0) (pa_cons (pv 4) pa_nil))) pa_nil)))
        (pss_cons (ps_set (i := 6) scLaw.nd rfl (.inl rfl) (pe_ix ix_list (pe_lst (pa_cons pe_int (pa_cons pe_int (pa_cons pe_int pa_nil)))) (pe_h hPick hr (pa_cons (pv 5) (pa_cons pe_int pa_nil))) (fun _ _ => rfl)))
        (pss_cons (ps_set (i := 7) scLaw.nd rfl (.inl rfl) (pe_h hWord hr (pa_cons (pv 5) pa_nil)))
        (pss_cons (ps_asg (pe_h hSh hr (pa_cons (pv 5) (pa_cons (pe_lst (pa_cons (pv 7) (pa_cons (pe_h hPart hr (pa_cons (pv 5) (pa_cons (pv 7) pa_nil))) (pa_cons (pe_h hChg hr (pa_cons (pv 5) (pa_cons (pv 6) pa_nil))) pa_nil)))) pa_nil))) (pg_lst rfl (pgs_cons (pg_name (i := 7) scLaw.nd rfl (.inl rfl)) (pgs_cons (pg_name (i := 8) scLaw.nd rfl (.inl rfl)) (pgs_cons (pg_name (i := 9) scLaw.nd rfl (.inl rfl)) pgs_nil)))))
        (pss_cons (ps_if (PW.pt (pw_or (pt_not (pt_val (pe_h hRi hr (pa_cons (pv 7) (pa_cons (pv 8) (pa_cons (pv 9) pa_nil)))))) (pw_or (pt_not (pt_val (pe_h hRi hr (pa_cons (pv 8) (pa_cons (pv 8) (pa_cons (pv 9) pa_nil)))))) (pw_or1 (pt_not (pt_val (pe_h hPl hr (pa_cons (pv 7) (pa_cons (pv 8) pa_nil))))))))) (pss_one (ps_ret pe_bl)) pss_nil)
        (pss_one (ps_if (PW.pt (pw_or (pt_not (pt_val (pe_h hRi hr (pa_cons (pv 7) (pa_cons (pe_h hWord hr (pa_cons (pv 5) pa_nil)) (pa_cons (pv 9) pa_nil)))))) (pw_or (pt_not (pt_val (pe_h hI hr (pa_cons (pv 7) pa_nil)))) (pw_or1 (pt_not (pt_val (pe_h hI hr (pa_cons (pv 8) pa_nil)))))))) (pss_one (ps_ret pe_bl)) pss_nil))))))))
      (pss_one (ps_ret pe_bl))))))), ?_⟩
    refine ⟨lz, fun p1 h1 => ⟨_, rfl, lz, fun p2 h2 => ⟨p1, p2, _, _, rfl, rfl, (same_new h2) _ _ upd_same, upd_same, lz, fun p3 h3 => ?_⟩⟩⟩
    have s3 : Same H (upd (upd (upd H p1 (.lst od1)) p2 (.lst od2)) p3 (.lst (od1 ++ od2))) := ((same_new h1).trans (same_new h2)).trans (same_new h3)
    have e3 : (upd (upd (upd H p1 (.lst od1)) p2 (.lst od2)) p3 (.lst (od1 ++ od2))) p3 = some (.lst (od1 ++ od2)) := upd_same
    generalize upd (upd (upd H p1 (.lst od1)) p2 (.lst od2)) p3 (.lst (od1 ++ od2)) = H3 at s3 e3
    have O3 : OddL H3 (od1 ++ od2) := od12
    have l3 : (od1 ++ od2).length = 18 := rfl
    generalize od1 ++ od2 = xs3 at e3 O3 l3
    refine ⟨_, rfl, lz, fun t1 ht1 => ⟨lz, fun t2 ht2 => ⟨lz, fun l1 hl1 => fun d1 hd1 => ⟨lz, fun l2 hl2 => fun d2 hd2 => ⟨upd_same, [(.inr "a", .int 1)], rfl, by simp, lz, fun t3 ht3 => ⟨lz, fun t4 ht4 => ⟨lz, fun p4 h4 => ?_⟩⟩⟩⟩⟩⟩⟩
    have k9 := same_new (o := .lst (od3 t1 t2 l1 d1 l2 d2 t4)) h4
    have k8 := (same_new (o := .tup [.ref t3]) ht4).trans k9
    have k7 := (same_new (o := .tup [.str "a"]) ht3).trans k8
    have k6 := (same_mut (o := .dK (mergeK [] [(.inr "a", .int 1)])) (same_new (o := .dK []) hd2) hd2).trans k7
    have k5 := (same_new (o := .lst []) hl2).trans k6
    have k4 := (same_new (o := .dK []) hd1).trans k5
    have k3 := (same_new (o := .lst [.str "a"]) hl1).trans k4
    have k2 := (same_new (o := .tup [.str "a"]) ht2).trans k3
    have k1' := (same_new (o := .tup []) ht1).trans k2
    have O9 := (O3.same k1').app (od3_ok (odd_t (k2 _ _ upd_same)) (odd_t (k3 _ _ upd_same)) (odd_l (k4 _ _ upd_same)) (odd_d (k5 _ _ upd_same)) (odd_l (k6 _ _ upd_same)) (odd_d (k7 _ _ upd_same)) (odd_t (k9 _ _ upd_same)))
    have l9 : (xs3 ++ od3 t1 t2 l1 d1 l2 d2 t4).length = 31 := by
      rw [List.length_append, l3]
      rfl
    refine ⟨p3, p4, _, _, rfl, rfl, k1' _ _ e3, upd_same, lzl (by rw [l3]; simp), fun p5 h5 => ?_⟩
    refine ⟨_, rfl, 10, 20, rfl, rfl, ⟨by decide, by decide, by decide⟩, rfl, rfl, lz, fun p6 h6 => ⟨p5, p6, _, _, rfl, rfl, (same_new h6) _ _ upd_same, upd_same, lzl (by rw [l9]; simp), fun O hO => ?_⟩⟩
    have sO := (s3.trans k1').trans ((same_new (o := .lst (xs3 ++ od3 t1 t2 l1 d1 l2 d2 t4)) h5).trans ((same_new (o := .lst od4) h6).trans (same_new (o := .lst ((xs3 ++ od3 t1 t2 l1 d1 l2 d2 t4) ++ od4)) hO)))
    have OO := (O9.same ((same_new (o := .lst (xs3 ++ od3 t1 t2 l1 d1 l2 d2 t4)) h5).trans ((same_new (o := .lst od4) h6).trans (same_new (o := .lst ((xs3 ++ od3 t1 t2 l1 d1 l2 d2 t4) ++ od4)) hO)))).app od4_ok
    refine ⟨_, rfl, O, rfl, ⟨_, .inl (.inl upd_same)⟩, for_it (walk_list (K := K) (a := O) (xs := (xs3 ++ od3 t1 t2 l1 d1 l2 d2 t4) ++ od4)) (fun i σ H' => (∃ y2 y3, σ = [some (.ref a), some (.ref O), y2, y3, none, none, none, none, none, none]) ∧ Same H H' ∧ H' O = some (.lst ((xs3 ++ od3 t1 t2 l1 d1 l2 d2 t4) ++ od4)) ∧ OddL H' ((xs3 ++ od3 t1 t2 l1 d1 l2 d2 t4) ++ od4))
      ⟨⟨_, _, rfl⟩, sO, upd_same, OO⟩ (fun i σ H' _ h => .inl (.inl h.2.2.1)) ?_ ?_⟩
    · rintro i x σ Hq H1 hi ⟨⟨y2, y3, rfl⟩, s1, hO1, oo1⟩ ⟨rfl, hx⟩
      have ox := oo1 x (List.mem_of_getElem? hx)
      refine ⟨_, rfl, x, _, rfl, ox.wv, fun H2 s2 => ⟨_, rfl, rfl, rfl, x, _, rfl, (ox.same s2).wv, fun H4 s4 => ⟨lz, fun L hL => ⟨L, rfl, ⟨_, .inl (.inl upd_same)⟩, ?_⟩⟩⟩⟩
      have s14 := (s2.trans s4).trans (same_new (o := .lst [.bl (wvB x), .bl (wvB x)]) hL)
      refine for_it (walk_list (K := K) (a := L) (xs := [.bl (wvB x), .bl (wvB x)])) (fun j σ H' => (∃ y3, σ = [some (.ref a), some (.ref O), some x, y3, none, none, none, none, none, none]) ∧ Same H1 H' ∧ H' L = some (.lst [.bl (wvB x), .bl (wvB x)])) ⟨⟨_, rfl⟩, s14, upd_same⟩ (fun i σ H' _ h => .inl (.inl h.2.2)) ?_ ?_
      · rintro j u σ Hq' H5 hj ⟨⟨z3, rfl⟩, s5, hL5⟩ ⟨rfl, hu⟩
        obtain rfl : u = .bl (wvB x) := by
          have := List.mem_of_getElem? hu
          simp only [List.mem_cons, List.not_mem_nil, or_false] at this
          rcases this with h | h <;> exact h
        refine ⟨_, rfl, _, _, _, _, _, rfl, .ty "bool", .base (.bl _), kit_ty (r := true) (by decide +kernel), true, rfl, iteF ⟨_, rfl, _, rfl, x, _, rfl, (ox.same s5).wv, fun H6 s6 => ⟨rfl, _, rfl, ?_⟩⟩⟩
        rw [decide_eq_true rfl]
        exact iteF ⟨⟨_, rfl⟩, s5.trans s6, s6 _ _ hL5⟩
      · rintro σ H5 ⟨⟨z3, rfl⟩, s5, hL5⟩
        exact ⟨⟨_, _, rfl⟩, s1.trans s5, s5 _ _ hO1, oo1.same s5⟩
    · rintro σ H1 ⟨⟨y2, y3, rfl⟩, s1, hO1, oo1⟩
      have hln : ((ns.map V.int).length : Int) = ns.length := by rw [List.length_map]
      refine ⟨_, rfl, a, _, rfl, .inl (s1.seq hS), _, _, rfl, _, _, rfl, _, rfl, ?_, ?_, ?_⟩
      · rw [hln]; split <;> split <;> omega
      · rw [hln]; split <;> split <;> omega
      rw [hln]
      refine for_range (lo := 0) (n := _) (fun i σ H' => (∃ y1 y2 y3 y4 y5 y6 y7 y8 y9, σ = [some (.ref a), y1, y2, y3, y4, y5, y6, y7, y8, y9]) ∧ Same H H') ⟨⟨_, _, _, _, _, _, _, _, _, rfl⟩, s1⟩ ?_ ?_
      · rintro i σ H2 hi ⟨⟨y1, y2, y3, y4, y5, y6, y7, y8, y9, rfl⟩, s2⟩
        have hi8 : i < 8 := by
          have : ∀ n : Int, (if (if n < 8 then n else 8) > (2 : Int) then (if n < 8 then n else 8) else 2).toNat ≤ 8 := fun n => by
            split <;> split <;> omega
          exact Nat.lt_of_lt_of_le hi (this _)
        refine ⟨_, rfl, _, rfl, a, ns, 0 + i, rfl, s2.seq hS, by omega, by omega, fun v H3 s3 => ⟨v, rfl, fun pu H4 hpu s4 hP4 => ?_⟩⟩
        have hpu0 : H pu = none := (s2.trans s3).free hpu
        have sP4 : Same H H4 := (s2.trans s3).trans s4
        refine ⟨lz, fun ml hml => ⟨_, rfl, pu, 3, rfl, hP4.same (same_new hml), by decide, by decide, fun r H5 r0 r1 hP5 s5 n5 => ?_⟩⟩
        have npu := hP4.ne hml
        obtain ⟨m, hmm, hmi⟩ := atI_tab (ns := [2, 5, 12]) r0 r1
        have hm : 0 ≤ m ∧ m ≤ 12 := by
          simp only [List.mem_cons, List.not_mem_nil, or_false] at hmm
          omega
        refine ⟨ml, _, r, .int m, rfl, rfl, .inl (.inl (s5 _ _ npu upd_same)), hmi, ?_⟩
        have x5 : SameX pu H4 H5 := (sx (same_new hml)).trans s5
        refine ⟨_, rfl, pu, rfl, hP5, fun z H6 hz hP6 s6 => ?_⟩
        refine ⟨_, rfl, _, rfl, _, rfl, _, rfl, pu, z, rfl, hP6, hz, fun y H7 hP7 s7 hy => ⟨_, rfl, _, rfl, pu, m, rfl, hP7, hm.1, hm.2, fun S chs H8 hP8 s8 hS8 ok => ⟨lz, fun M hM => ?_⟩⟩⟩
        refine ⟨pu, M, S, z, y, chs, rfl, hP8.same (same_new hM), hP8.ne hM, upd_same, hz, hy, hS8.same (same_new hM), ok, fun L S' z' y' chs' H9 hP9 s9 hL hz' hy' hS' ok' => ⟨L, _, rfl, .inl (.inl hL), rfl, _, _, rfl, _, _, rfl, _, _, rfl, rfl, ?_⟩⟩
        have x9 : SameX pu H4 H9 := (x5.trans (s6.trans s7)).trans ((s8.trans (sx (same_new hM))).trans s9)
        refine ⟨_, rfl, _, rfl, _, rfl, z', y', S', chs', rfl, hz', hy', hS', ok', fun Ha sa => ⟨true, rfl, iteF ?_⟩⟩
        refine ⟨_, rfl, _, rfl, _, rfl, y', y', S', chs', rfl, hy', hy', hS'.same sa, ok', fun Hb sb => ⟨true, rfl, iteF ?_⟩⟩
        refine ⟨_, rfl, _, rfl, z', y', rfl, hz', hy', fun Hc sc => ⟨true, rfl, iteF ?_⟩⟩
        have s9c := (sa.trans sb).trans sc
        refine ⟨_, rfl, _, rfl, pu, rfl, hP9.same s9c, fun wz Hd hwz hPd sd => ?_⟩
        obtain ⟨yl, hyl⟩ := (hP9.same s9c).lst
        refine ⟨_, rfl, z', wz, S', chs', rfl, hz', hwz, (hS'.same s9c).X hyl sd, ok', fun He se => ⟨true, rfl, iteF ?_⟩⟩
        refine ⟨_, rfl, _, true, rfl, wv_wd hz', fun Hf sf => ⟨true, rfl, iteF ?_⟩⟩
        refine ⟨_, rfl, _, true, rfl, wv_wd hy', fun Hg sg => ⟨true, rfl, iteF ?_⟩⟩
        refine ⟨⟨_, _, _, _, _, _, _, _, _, rfl⟩, ?_⟩
        exact same_x sP4 ((x9.trans (sx s9c)).trans (sd.trans (sx (se.trans (sf.trans sg))))) hpu0
      · rintro σ H2 ⟨⟨y1, y2, y3, y4, y5, y6, y7, y8, y9, rfl⟩, s2⟩
        exact q H2
end
end Wl

namespace Wl
open PySem PySem.Spec PyProof.Rows L2
/-- the hook of facts, with one more test of the frame -/
def hookE (n : Nat) (fa : List He.Fa) (fn : List He.DefD) (ex : PySem.W.Frag → Bool) : PySem.W.Hook where
  α := He.AlD × Bool
  obs := fun s => (He.obsDG n fa fn s.heap.get?, ex (He.frG s.heap.get? (He.asD s.heap.get? n)))
  val := fun _ => (He.valD fn, true)
  says := fun _ h => ∃ K : PySem.W.Frag, K.In h ∧ He.SaysD fa fn K ∧ ex K = true
  of := fun _ _ e => ⟨_, He.frG_in, congrArg (fun z : He.AlD × Bool => z.1) e, congrArg (fun z : He.AlD × Bool => z.2) e⟩
  keeps := fun _ _ _ ⟨K, hK, c⟩ k => ⟨K, PySem.W.Frag.In.keeps hK k, c⟩
theorem kb1_of {K : PySem.W.Frag} {x qual : Str} {st : Stmt} {f : Addr} {fd : FuncData} {n : Str} (F : Fun K x qual st f fd)
    (h : ∀ (kV doc pm : Value) (an : Option Addr) (cdv ct a : Value), bindArgs (PySem.W.fnOf x qual (defArgs st) (defBody st) (defScope st) .none kV doc pm an cdv ct) ⟨[], [(n, a)]⟩ = pure [(n, a)]) : KBn K fd [n] 0 [n] gK1 gK1 := by
  obtain ⟨oc, od, kV, doc, pm, an, cdv, ct, osl, rfl, l, c⟩ := F.ex
  refine ⟨fun s us ws _ h1 h2 => ?_, fun r1 r2 => vals_app r1 r2⟩
  match us, ws, h1, h2 with
  | [], [b], _, _ => exact .of_eq (h kV doc pm an cdv ct b)
def dOf (x : Str) (st : Stmt) : He.DefD := ⟨(x, none), x, x, defArgs st, defBody st, defScope st, [], []⟩
def dNon (x : Str) (st : Stmt) : He.DefD := ⟨(x, none), x, x, defArgs st, defBody st, defScope st, [.non], []⟩
def fn : List He.DefD := [dOf "is_word" wIsWord, dOf "check_word" wCheck, dOf "is_letter" wIsLetter, dOf "is_change" wIsChange, dOf "checked_changes" wChecked, dOf "reaches" wReaches, dOf "turned_letters" wTurned, dOf "steps_toward" wSteps, dOf "letters_between" wBetween, dNon "row_between" wRow, dNon "are_one" wAre, dNon "meaning" wMean, dOf "_law_cell" sCell, dOf "_law_purse" sPurse, dOf "_law_pick" sPick, dOf "_law_is_word" sIsW, dOf "_law_menu" sMenu, dOf "_law_word" sWord, dOf "_law_changes" sChanges, dOf "_law_kin" sKin, dOf "_law_meaning" sMeaning, dOf "_law_partner" sPartner, dOf "_law_shifted" sShift, dOf "_law_right" sRight, dOf "_law_plain_right" sPlain, dOf "law" sLaw, dOf "is_tuple_up_to" wTupTo, dOf "letters_at" wLetAt]
def fa : List He.Fa := [.glo "is_word", .glo "check_word", .glo "is_letter", .glo "is_change", .glo "checked_changes", .glo "reaches", .glo "turned_letters", .glo "steps_toward", .glo "letters_between", .glo "row_between", .glo "are_one", .glo "meaning", .glo "_law_cell", .glo "_law_purse", .glo "_law_pick", .glo "_law_is_word", .glo "_law_menu", .glo "_law_word", .glo "_law_changes", .glo "_law_kin", .glo "_law_meaning", .glo "_law_partner", .glo "_law_shifted", .glo "_law_right", .glo "_law_plain_right", .glo "law", .str "LETTERS" "abcdefghijklmnopqrstuvwxyz", .int "LONGEST_WORD" 8, .int "MOST_CHANGES" 12, .glo "WHERES", .free "len", .free "range", .free "isinstance", .free "tuple", .free "list", .free "sorted", .free "all", .free "int", .free "max", .free "min", .free "enumerate", .free "str", .free "bool", .glo "is_tuple_up_to", .glo "letters_at"]
def exW (K : PySem.W.Frag) : Bool := He.tupB K "WHERES" [.str "first", .str "last", .str "any"]
abbrev R : PySem.W.OpenRow := PySem.W.OpenLaw.row PySem.Challenge.rw_wordlines_k01_words_and_changes
abbrev hk : PySem.W.Hook := hookE 4 fa fn exW
def ob (s : PySem.W.SharedT) : He.AlD × Bool := (He.obsDG 4 fa fn (HandSHeadRun.getT s), exW (He.frG (HandSHeadRun.getT s) (He.asD (HandSHeadRun.getT s) 4)))
theorem ob_eq (s : PySem.W.SharedT) : ob s = hk.obs s.abs := by
  have e : HandSHeadRun.getT s = s.abs.heap.get? := funext (HandSHeadRun.getT_eq s)
  unfold ob
  rw [e]
  rfl
def others : List PySem.Str := "WordError" :: "NoWord" :: "NoChanges" :: "LETTERS" :: "WHERES" :: "LONGEST_WORD" :: "MOST_CHANGES" :: "is_word" :: "check_word" :: "is_letter" :: "is_change" :: "checked_changes" :: "reaches" :: "turned_letters" :: "steps_toward" :: "letters_between" :: "row_between" :: "are_one" :: "meaning" :: "_law_cell" :: "_law_purse" :: "_law_pick" :: "_law_is_word" :: "_law_menu" :: "_law_word" :: "_law_changes" :: "_law_kin" :: "_law_meaning" :: "_law_partner" :: "_law_shifted" :: "_law_right" :: "_law_plain_right" :: "is_tuple_up_to" :: "letters_at" :: []
theorem facts {P : Program} {w : World} {K : PySem.W.Frag} {h : Heap} {mg : Str → Option Value} {f : Addr} (X : K.In h) (G : h.Ns mainGlobals mg) (hfa : mg ("law" : Str) = some (.ref f)) (c : He.SaysD fa fn K) (cx : exW K = true) :
    ∃ fd : FuncData, (∀ (s : Shared) (v : Value), BindsTo s fd ⟨[v], []⟩ [("_law_script", v)]) ∧ ∀ base : Heap, K.In base → base.Ns mainGlobals mg → FnOk P w K mg base CX0 8 f fd ["_law_script"] (spLaw K) := by
  have B : Bi mg := ⟨He.free_ok X G (c.fact 30 (f := .free "len") rfl), He.free_ok X G (c.fact 31 (f := .free "range") rfl), He.free_ok X G (c.fact 32 (f := .free "isinstance") rfl), He.free_ok X G (c.fact 33 (f := .free "tuple") rfl), He.free_ok X G (c.fact 34 (f := .free "list") rfl), He.free_ok X G (c.fact 35 (f := .free "sorted") rfl), He.free_ok X G (c.fact 36 (f := .free "all") rfl), He.free_ok X G (c.fact 37 (f := .free "int") rfl), He.free_ok X G (c.fact 38 (f := .free "max") rfl), He.free_ok X G (c.fact 39 (f := .free "min") rfl), He.free_ok X G (c.fact 40 (f := .free "enumerate") rfl), He.free_ok X G (c.fact 41 (f := .free "str") rfl)⟩
  have B2 : Bw mg := ⟨He.free_ok X G (c.fact 42 (f := .free "bool") rfl)⟩
  have Gw' : Gw K mg := ⟨He.str_ok X G (c.fact 26 (f := .str "LETTERS" "abcdefghijklmnopqrstuvwxyz") rfl), He.int_ok X G (c.fact 27 (f := .int "LONGEST_WORD" 8) rfl), He.int_ok X G (c.fact 28 (f := .int "MOST_CHANGES" 12) rfl), _, He.glo_ok X G (c.fact 29 (f := .glo "WHERES") rfl), fun H => He.tupB_ok cx H⟩
  obtain ⟨fd0, F0⟩ := c.def_ 0 (d := dOf "is_word" wIsWord) rfl
  obtain ⟨fd1, F1⟩ := c.def_ 1 (d := dOf "check_word" wCheck) rfl
  obtain ⟨fd2, F2⟩ := c.def_ 2 (d := dOf "is_letter" wIsLetter) rfl
  obtain ⟨fd3, F3⟩ := c.def_ 3 (d := dOf "is_change" wIsChange) rfl
  obtain ⟨fd4, F4⟩ := c.def_ 4 (d := dOf "checked_changes" wChecked) rfl
  obtain ⟨fd5, F5⟩ := c.def_ 5 (d := dOf "reaches" wReaches) rfl
  obtain ⟨fd6, F6⟩ := c.def_ 6 (d := dOf "turned_letters" wTurned) rfl
  obtain ⟨fd7, F7⟩ := c.def_ 7 (d := dOf "steps_toward" wSteps) rfl
  obtain ⟨fd8, F8⟩ := c.def_ 8 (d := dOf "letters_between" wBetween) rfl
  obtain ⟨fd9, F9⟩ := c.def_ 9 (d := dNon "row_between" wRow) rfl
  obtain ⟨fd10, F10⟩ := c.def_ 10 (d := dNon "are_one" wAre) rfl
  obtain ⟨fd11, F11⟩ := c.def_ 11 (d := dNon "meaning" wMean) rfl
  obtain ⟨fd12, F12⟩ := c.def_ 12 (d := dOf "_law_cell" sCell) rfl
  obtain ⟨fd13, F13⟩ := c.def_ 13 (d := dOf "_law_purse" sPurse) rfl
  obtain ⟨fd14, F14⟩ := c.def_ 14 (d := dOf "_law_pick" sPick) rfl
  obtain ⟨fd15, F15⟩ := c.def_ 15 (d := dOf "_law_is_word" sIsW) rfl
  obtain ⟨fd16, F16⟩ := c.def_ 16 (d := dOf "_law_menu" sMenu) rfl
  obtain ⟨fd17, F17⟩ := c.def_ 17 (d := dOf "_law_word" sWord) rfl
  obtain ⟨fd18, F18⟩ := c.def_ 18 (d := dOf "_law_changes" sChanges) rfl
  obtain ⟨fd19, F19⟩ := c.def_ 19 (d := dOf "_law_kin" sKin) rfl
  obtain ⟨fd20, F20⟩ := c.def_ 20 (d := dOf "_law_meaning" sMeaning) rfl
  obtain ⟨fd21, F21⟩ := c.def_ 21 (d := dOf "_law_partner" sPartner) rfl
  obtain ⟨fd22, F22⟩ := c.def_ 22 (d := dOf "_law_shifted" sShift) rfl
  obtain ⟨fd23, F23⟩ := c.def_ 23 (d := dOf "_law_right" sRight) rfl
  obtain ⟨fd24, F24⟩ := c.def_ 24 (d := dOf "_law_plain_right" sPlain) rfl
  obtain ⟨fd25, F25⟩ := c.def_ 25 (d := dOf "law" sLaw) rfl
  obtain ⟨fd26, F26⟩ := c.def_ 26 (d := dOf "is_tuple_up_to" wTupTo) rfl
  have f26 : Fun K "is_tuple_up_to" "is_tuple_up_to" wTupTo _ fd26 := He5.fun_of F26
  obtain ⟨fd27, F27⟩ := c.def_ 27 (d := dOf "letters_at" wLetAt) rfl
  have f27 : Fun K "letters_at" "letters_at" wLetAt _ fd27 := He5.fun_of F27
  have e := hfa.symm.trans (He.glo_ok X G (c.fact 25 (f := .glo "law") rfl))
  cases e
  have f0 : Fun K "is_word" "is_word" wIsWord _ fd0 := He5.fun_of F0
  have f1 : Fun K "check_word" "check_word" wCheck _ fd1 := He5.fun_of F1
  have f2 : Fun K "is_letter" "is_letter" wIsLetter _ fd2 := He5.fun_of F2
  have f3 : Fun K "is_change" "is_change" wIsChange _ fd3 := He5.fun_of F3
  have f4 : Fun K "checked_changes" "checked_changes" wChecked _ fd4 := He5.fun_of F4
  have f5 : Fun K "reaches" "reaches" wReaches _ fd5 := He5.fun_of F5
  have f6 : Fun K "turned_letters" "turned_letters" wTurned _ fd6 := He5.fun_of F6
  have f7 : Fun K "steps_toward" "steps_toward" wSteps _ fd7 := He5.fun_of F7
  have f8 : Fun K "letters_between" "letters_between" wBetween _ fd8 := He5.fun_of F8
  have F9 : FunN K "row_between" wRow _ fd9 := F9
  have F10 : FunN K "are_one" wAre _ fd10 := F10
  have F11 : FunN K "meaning" wMean _ fd11 := F11
  have f12 : Fun K "_law_cell" "_law_cell" sCell _ fd12 := He5.fun_of F12
  have f13 : Fun K "_law_purse" "_law_purse" sPurse _ fd13 := He5.fun_of F13
  have f14 : Fun K "_law_pick" "_law_pick" sPick _ fd14 := He5.fun_of F14
  have f15 : Fun K "_law_is_word" "_law_is_word" sIsW _ fd15 := He5.fun_of F15
  have f16 : Fun K "_law_menu" "_law_menu" sMenu _ fd16 := He5.fun_of F16
  have f17 : Fun K "_law_word" "_law_word" sWord _ fd17 := He5.fun_of F17
  have f18 : Fun K "_law_changes" "_law_changes" sChanges _ fd18 := He5.fun_of F18
  have f19 : Fun K "_law_kin" "_law_kin" sKin _ fd19 := He5.fun_of F19
  have f20 : Fun K "_law_meaning" "_law_meaning" sMeaning _ fd20 := He5.fun_of F20
  have f21 : Fun K "_law_partner" "_law_partner" sPartner _ fd21 := He5.fun_of F21
  have f22 : Fun K "_law_shifted" "_law_shifted" sShift _ fd22 := He5.fun_of F22
  have f23 : Fun K "_law_right" "_law_right" sRight _ fd23 := He5.fun_of F23
  have f24 : Fun K "_law_plain_right" "_law_plain_right" sPlain _ fd24 := He5.fun_of F24
  have f25 : Fun K "law" "law" sLaw _ fd25 := He5.fun_of F25
  have bl : Binds K fd25 ["_law_script"] [] := f25.binds fun _ _ _ _ _ _ us hl => match us, hl with | [_], _ => rfl
  refine ⟨fd25, fun s v => ?_, fun base _ _ => ?_⟩
  · obtain ⟨oc, od, kV, doc, pm, an, cdv, ct, osl, e, l, c⟩ := f25.ex
    subst e
    exact .of_eq rfl
  have h_is_word : Has P w K mg base "is_word" 1 ["thing"] (spIsW K) := ⟨_, fd0, ok_isw f0 B Gw', He.glo_ok X G (c.fact 0 (f := .glo "is_word") rfl), f0.kp, f0.binds fun _ _ _ _ _ _ us hl => match us, hl with | [_], _ => rfl⟩
  have h_check_word : Has P w K mg base "check_word" 2 ["word"] spCheckW := ⟨_, fd1, ok_checkw f1 h_is_word, He.glo_ok X G (c.fact 1 (f := .glo "check_word") rfl), f1.kp, f1.binds fun _ _ _ _ _ _ us hl => match us, hl with | [_], _ => rfl⟩
  have h_is_letter : Has P w K mg base "is_letter" 2 ["thing"] spIsLet := ⟨_, fd2, ok_islet f2 B h_is_word, He.glo_ok X G (c.fact 2 (f := .glo "is_letter") rfl), f2.kp, f2.binds fun _ _ _ _ _ _ us hl => match us, hl with | [_], _ => rfl⟩
  have h_is_change : Has P w K mg base "is_change" 3 ["thing"] spIsCh := ⟨_, fd3, ok_isch f3 B Gw' h_is_letter, He.glo_ok X G (c.fact 3 (f := .glo "is_change") rfl), f3.kp, f3.binds fun _ _ _ _ _ _ us hl => match us, hl with | [_], _ => rfl⟩
  have h_is_tuple_up_to : Has P w K mg base "is_tuple_up_to" 1 ["thing", "most"] spTupTo := ⟨_, fd26, ok_tupto f26 B, He.glo_ok X G (c.fact 43 (f := .glo "is_tuple_up_to") rfl), f26.kp, f26.binds fun _ _ _ _ _ _ us hl => match us, hl with | [_, _], _ => rfl⟩
  have h_checked_changes : Has P w K mg base "checked_changes" 4 ["changes"] spChecked := ⟨_, fd4, ok_checked f4 B Gw' h_is_tuple_up_to h_is_change, He.glo_ok X G (c.fact 4 (f := .glo "checked_changes") rfl), f4.kp, f4.binds fun _ _ _ _ _ _ us hl => match us, hl with | [_], _ => rfl⟩
  have h_reaches : Has P w K mg base "reaches" 1 ["where", "place", "length"] spReaches := ⟨_, fd5, ok_reaches f5, He.glo_ok X G (c.fact 5 (f := .glo "reaches") rfl), f5.kp, f5.binds fun _ _ _ _ _ _ us hl => match us, hl with | [_, _, _], _ => rfl⟩
  have h_turned_letters : Has P w K mg base "turned_letters" 2 ["changes", "place", "length"] spTurned := ⟨_, fd6, ok_turned f6 Gw' h_reaches, He.glo_ok X G (c.fact 6 (f := .glo "turned_letters") rfl), f6.kp, f6.binds fun _ _ _ _ _ _ us hl => match us, hl with | [_, _, _], _ => rfl⟩
  have h_steps_toward : Has P w K mg base "steps_toward" 1 ["goal", "turned"] spSteps := ⟨_, fd7, ok_steps f7 B, He.glo_ok X G (c.fact 7 (f := .glo "steps_toward") rfl), f7.kp, f7.binds fun _ _ _ _ _ _ us hl => match us, hl with | [_, _], _ => rfl⟩
  have h_letters_between : Has P w K mg base "letters_between" 2 ["one", "other", "turned"] spBetween := ⟨_, fd8, ok_between f8 h_steps_toward, He.glo_ok X G (c.fact 8 (f := .glo "letters_between") rfl), f8.kp, f8.binds fun _ _ _ _ _ _ us hl => match us, hl with | [_, _, _], _ => rfl⟩
  have h_row_between : HasN P w K mg base "row_between" wRow 5 ps3 spRow := ⟨_, fd9, ok_row F9 B h_check_word h_checked_changes h_letters_between h_turned_letters, He.glo_ok X G (c.fact 9 (f := .glo "row_between") rfl), F9⟩
  have h_are_one : HasN P w K mg base "are_one" wAre 6 ps3 spAre := ⟨_, fd10, ok_are F10 h_row_between, He.glo_ok X G (c.fact 10 (f := .glo "are_one") rfl), F10⟩
  have h_letters_at : Has P w K mg base "letters_at" 3 ["word", "place", "changes"] spLetAt := ⟨_, fd27, ok_letat f27 B h_steps_toward h_turned_letters, He.glo_ok X G (c.fact 44 (f := .glo "letters_at") rfl), f27.kp, f27.binds fun _ _ _ _ _ _ us hl => match us, hl with | [_, _, _], _ => rfl⟩
  have h_meaning : HasN P w K mg base "meaning" wMean 5 ps2 spMean := ⟨_, fd11, ok_mean F11 B h_check_word h_checked_changes h_letters_at, He.glo_ok X G (c.fact 11 (f := .glo "meaning") rfl), F11⟩
  have h__law_cell : Has P w K mg base "_law_cell" 1 ["_law_script", "_law_k"] (spCell K) := ⟨_, fd12, ok_cell f12 B, He.glo_ok X G (c.fact 12 (f := .glo "_law_cell") rfl), f12.kp, f12.binds fun _ _ _ _ _ _ us hl => match us, hl with | [_, _], _ => rfl⟩
  have h__law_purse : Has P w K mg base "_law_purse" 1 ["_law_cell_here"] spPurse := ⟨_, fd13, ok_purse f13 B, He.glo_ok X G (c.fact 13 (f := .glo "_law_purse") rfl), f13.kp, f13.binds fun _ _ _ _ _ _ us hl => match us, hl with | [_], _ => rfl⟩
  have h__law_pick : Has P w K mg base "_law_pick" 1 ["_law_purse_here", "_law_many"] spPick := ⟨_, fd14, ok_pick f14, He.glo_ok X G (c.fact 14 (f := .glo "_law_pick") rfl), f14.kp, f14.binds fun _ _ _ _ _ _ us hl => match us, hl with | [_, _], _ => rfl⟩
  have h__law_is_word : Has P w K mg base "_law_is_word" 1 ["_law_matter"] (spIsW K) := ⟨_, fd15, ok_lisw f15 B, He.glo_ok X G (c.fact 15 (f := .glo "_law_is_word") rfl), f15.kp, f15.binds fun _ _ _ _ _ _ us hl => match us, hl with | [_], _ => rfl⟩
  have h__law_menu : Has P w K mg base "_law_menu" 1 [] spMenu := ⟨_, fd16, ok_menu f16, He.glo_ok X G (c.fact 16 (f := .glo "_law_menu") rfl), f16.kp, f16.binds fun _ _ _ _ _ _ us hl => match us, hl with | [], _ => rfl⟩
  have h__law_word : Has P w K mg base "_law_word" 2 ["_law_purse_here"] spWord := ⟨_, fd17, ok_word f17 B h__law_pick h__law_menu, He.glo_ok X G (c.fact 17 (f := .glo "_law_word") rfl), f17.kp, f17.binds fun _ _ _ _ _ _ us hl => match us, hl with | [_], _ => rfl⟩
  have h__law_changes : Has P w K mg base "_law_changes" 2 ["_law_purse_here", "_law_most"] spChanges := ⟨_, fd18, ok_changes f18 B h__law_pick, He.glo_ok X G (c.fact 18 (f := .glo "_law_changes") rfl), f18.kp, f18.binds fun _ _ _ _ _ _ us hl => match us, hl with | [_, _], _ => rfl⟩
  have h__law_kin : Has P w K mg base "_law_kin" 1 ["_law_turns_here", "_law_letter", "_law_first", "_law_last"] spKin := ⟨_, fd19, ok_kin f19 B, He.glo_ok X G (c.fact 19 (f := .glo "_law_kin") rfl), f19.kp, f19.binds fun _ _ _ _ _ _ us hl => match us, hl with | [_, _, _, _], _ => rfl⟩
  have h__law_meaning : Has P w K mg base "_law_meaning" 2 ["_law_turns_here", "_law_text_here"] spLMean := ⟨_, fd20, ok_lmean f20 B h__law_kin, He.glo_ok X G (c.fact 20 (f := .glo "_law_meaning") rfl), f20.kp, f20.binds fun _ _ _ _ _ _ us hl => match us, hl with | [_, _], _ => rfl⟩
  have h__law_partner : Has P w K mg base "_law_partner" 2 ["_law_purse_here", "_law_first"] spPartner := ⟨_, fd21, ok_partner f21 B h__law_pick, He.glo_ok X G (c.fact 21 (f := .glo "_law_partner") rfl), f21.kp, f21.binds fun _ _ _ _ _ _ us hl => match us, hl with | [_, _], _ => rfl⟩
  have h__law_shifted : Has P w K mg base "_law_shifted" 2 ["_law_purse_here", "_law_matters"] spShift := ⟨_, fd22, ok_shift f22 B h__law_pick, He.glo_ok X G (c.fact 22 (f := .glo "_law_shifted") rfl), f22.kp, f22.binds fun _ _ _ _ _ _ us hl => match us, hl with | [_, _], _ => rfl⟩
  have h__law_right : Has P w K mg base "_law_right" 7 ["_law_one", "_law_two", "_law_some"] spRight := ⟨_, fd23, ok_right f23 B B2 h__law_meaning h_are_one h_meaning, He.glo_ok X G (c.fact 23 (f := .glo "_law_right") rfl), f23.kp, f23.binds fun _ _ _ _ _ _ us hl => match us, hl with | [_, _, _], _ => rfl⟩
  have h__law_plain_right : Has P w K mg base "_law_plain_right" 7 ["_law_one", "_law_two"] spPlain := ⟨_, fd24, ok_plain f24 h_are_one h_meaning, He.glo_ok X G (c.fact 24 (f := .glo "_law_plain_right") rfl), f24.kp, f24.binds fun _ _ _ _ _ _ us hl => match us, hl with | [_, _], _ => rfl⟩
  have hK : HasK P w K mg base "is_word" 1 "thing" (spIsW K) := ⟨_, fd0, ok_isw f0 B Gw', He.glo_ok X G (c.fact 0 (f := .glo "is_word") rfl), f0.kp, f0.binds fun _ _ _ _ _ _ us hl => match us, hl with | [_], _ => rfl, kb1_of f0 fun _ _ _ _ _ _ _ => rfl⟩
  exact ok_law f25 B B2 hK h__law_is_word h__law_cell h__law_purse h__law_pick h__law_word h__law_partner h__law_changes h__law_shifted h__law_right h__law_plain_right
end Wl

namespace Wl
open PySem PySem.Spec PyProof.Rows L2
theorem run (w : World) : HandSHeadRun.RunEq R (PySem.W.view R.prog [37]) hk ob 4000 others w := by
  intro os
  kernel_rfl
end Wl

open PySem PySem.W PySem.Calls PyProof.Rows
theorem PySem.Challenge.cw_wordlines_k01_words_and_changes_holds : PySem.Challenge.rw_wordlines_k01_words_and_changes.Holds := by
  w_on; o_law
  refine HandSHeadRun.head_any (r := OpenLaw.row PySem.Challenge.rw_wordlines_k01_words_and_changes) (q := view (OpenLaw.row PySem.Challenge.rw_wordlines_k01_words_and_changes).prog [37]) (H := Wl.hk) (ob := Wl.ob) (M := 4000) (loose := Wl.others) (d := HandSHeadRun.topDef (OpenLaw.row PySem.Challenge.rw_wordlines_k01_words_and_changes).prog 37) (kwd := []) Wl.ob_eq
    (by kernel_rfl) (fun s => by kernel_rfl) Wl.run (by kernel_rfl) (by kernel_rfl) (by kernel_rfl) (by rfl) (by first | assumption | decide +kernel) (by decide +kernel) ⟨rfl, rfl, rfl, rfl, rfl, by decide +kernel⟩ ?hw ?hc
  case hw => w_witness2
  case hc =>
    refine L2.walk_ofE (l := PySem.Challenge.rw_wordlines_k01_words_and_changes) (n := 63) (k := 8) (x := "_law_script") (CX := L2.CX0) rfl (by decide) (by kernel_rfl) ⟨rfl, by decide, by decide⟩ ?F (fun _ _ _ _ z => z)
    intro w mg fa h Y G hmg0
    obtain ⟨K, KX, c, cx⟩ := Y
    have hmg : mg ("law" : PySem.Str) = some (.ref fa) := by
      have e : (HandSHeadRun.topDef (OpenLaw.row PySem.Challenge.rw_wordlines_k01_words_and_changes).prog 37).name = ("law" : PySem.Str) := by kernel_rfl
      rw [← e]
      exact hmg0
    obtain ⟨fd, hb, hF⟩ := Wl.facts (P := (PySem.Challenge.rw_wordlines_k01_words_and_changes).prog) (w := w) KX G hmg c cx
    exact ⟨K, fd, Wl.spLaw K, KX, hb, fun H a ns hl _ hS => ⟨a, ns, rfl, hS, hl, fun _ => rfl⟩, hF⟩

